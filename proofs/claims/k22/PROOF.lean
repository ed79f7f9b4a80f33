import PyProof.Rows.All
import Wide.All
import OpenK.AllK
import Wide.FinOn
import PyProof.Rows.IntBool
import HandS.ForMost
import HandS.IsInst
import HandS.TupAny
import HandS.Conv
import HandS.More
import HandS.Style
import HandS.Property
import HandS.Star
import HandS.DictComp
import HandS.RaiseMore
import HandS.SetFor
import HandS.SlotsOwn
import HandS.Codes
import KE.GoesEnum
import HandS.Deep
import HandS.Strs
import HandS.ReCall
import HandS.Zip
import HandS.Flow
import HandS.ForExc
import HandS.ExcInit
import HandS.ExcField
import HandS.ExcIs
import KE.KExcIs
import HandS.OwnIter
import HandS.IterNext
import HandS.HotCalls
import HandS.ExcInitHot
import HandS.WordsExc
import PyProof.ReprRoads
import PyProof.ReprBulk
import PyProof.P3Eq
import HandS.IterVal
import HandS.SetKeys
import HandS.Defaults
import OpenK.KMore
import HandS.TryOnly
import HandS.MakeKw
import PyProof.InstEq
import PySem.Challenge.RW_drawnanew_k22_whole_focus
set_option Elab.async false
set_option linter.all false
set_option maxRecDepth 100000
set_option maxHeartbeats 4000000
namespace D
open PySem PySem.Spec PyProof.Rows L2

/-! ### rules that the layer lacks -/
def bI (b : Bool) : Int := if b = true then 1 else 0
theorem op_mul_ib {X : Cx} : OpR X (binaryOp .Mult) (fun x y H Q => ∃ i k, x = .int i ∧ y = .bl k ∧ Q (.int (i * bI k)) H) := by
  intro pins s σ H x y v u Q I rx ry h
  obtain ⟨i, k, rfl, rfl, q⟩ := h
  obtain ⟨t, rfl⟩ := rx
  cases ry
  exact PySem.IntBool.mul_int_bool ⟨.int (i * bI k), H, I.tok _, ⟨_, rfl⟩, q⟩

/-! ### heaps: M the addresses that may be written -/
abbrev Ms := Addr → Prop
def Sx (M : Ms) (H H' : Hp) : Prop := ∀ a o, ¬ M a → H a = some o → H' a = some o
def one (b : Addr) : Ms := fun a => a = b
def also (M : Ms) (b : Addr) : Ms := fun a => M a ∨ a = b
/-- what may be written stands -/
def Mk (M : Ms) (H : Hp) : Prop := ∀ a, M a → H a ≠ none
theorem Sx.refl {M : Ms} {H : Hp} : Sx M H H := fun _ _ _ h => h
theorem Sx.trans {M : Ms} {H H1 H2 : Hp} (a : Sx M H H1) (b : Sx M H1 H2) : Sx M H H2 := fun c o n h => b c o n (a c o n h)
theorem Sx.le {M N : Ms} {H H' : Hp} (s : Sx M H H') (h : ∀ a, M a → N a) : Sx N H H' := fun a o n e => s a o (fun m => n (h a m)) e
theorem Sx.same {M : Ms} {H H' : Hp} (s : Same H H') : Sx M H H' := fun a o _ e => s a o e
theorem Sx.new {M : Ms} {H : Hp} {p : Addr} {o : HO} (h : H p = none) : Sx M H (upd H p o) := fun a u _ e => by
  rw [upd_ne (ne_of_none e h)]
  exact e
theorem Sx.put {M : Ms} {H : Hp} {p : Addr} {o : HO} (h : M p) : Sx M H (upd H p o) := fun a u n e => by
  rw [upd_ne (fun z => n (by rw [z]; exact h))]
  exact e
theorem same_new {H : Hp} {p : Addr} {o : HO} (h : H p = none) : Same H (upd H p o) := fun a u e => by
  rw [upd_ne (ne_of_none e h)]
  exact e
theorem Mk.step {M : Ms} {H H' : Hp} (m : Mk M H) (h : ∀ a, H a ≠ none → H' a ≠ none) : Mk M H' := fun a z => h a (m a z)
theorem there_new {H : Hp} {p a : Addr} {o : HO} (h : H a ≠ none) : upd H p o a ≠ none := by
  by_cases e : a = p
  · subst e
    rw [upd_same]
    exact fun z => nomatch z
  · rw [upd_ne e]
    exact h
/-- nothing goes -/
def Gr (H H' : Hp) : Prop := ∀ a, H a ≠ none → H' a ≠ none
theorem Gr.refl {H : Hp} : Gr H H := fun _ h => h
theorem Gr.trans {H H1 H2 : Hp} (a : Gr H H1) (b : Gr H1 H2) : Gr H H2 := fun c h => b c (a c h)
theorem Gr.upd {H : Hp} {p : Addr} {o : HO} : Gr H (upd H p o) := fun _ h => there_new h
theorem Gr.same {H H' : Hp} (s : Same H H') : Gr H H' := fun a h => by
  cases e : H a with
  | none => exact absurd e h
  | some o =>
    rw [s a o e]
    exact fun z => nomatch z
theorem Mk.gr {M : Ms} {H H' : Hp} (m : Mk M H) (g : Gr H H') : Mk M H' := fun a z => g a (m a z)
theorem Mk.out {M : Ms} {H : Hp} {p : Addr} (m : Mk M H) (h : H p = none) : ¬ M p := fun z => m p z h
theorem Mk.also {M : Ms} {H : Hp} {p : Addr} (m : Mk M H) (h : H p ≠ none) : Mk (also M p) H := fun a z => by
  rcases z with z | rfl
  · exact m a z
  · exact h
theorem ne_none {H : Hp} {p : Addr} {o : HO} (h : H p = some o) : H p ≠ none := by
  rw [h]
  exact fun z => nomatch z
theorem upd_there {H : Hp} {p : Addr} {o : HO} : upd H p o p ≠ none := by
  rw [upd_same]
  exact fun z => nomatch z

/-! ### lists and tuples that are read -/
theorem sx_rd {M : Ms} {H H' : Hp} {a : Addr} {u : HO} (s : Sx M H H') (n : ¬ M a) (h : Rd H a u) : Rd H' a u := by
  rcases h with h | ⟨o, h⟩
  · exact .inl (s a _ n h)
  · exact .inr ⟨o, s a _ n h⟩
theorem sx_l {K : PySem.W.Frag} {M : Ms} {H H' : Hp} {a : Addr} {xs : List V} (s : Sx M H H') (n : ¬ M a) (h : SqL K H a xs) : SqL K H' a xs := by
  rcases h with h | h
  · exact .inl (sx_rd s n h)
  · exact .inr h
theorem sx_t {K : PySem.W.Frag} {M : Ms} {H H' : Hp} {a : Addr} {xs : List V} (s : Sx M H H') (n : ¬ M a) (h : SqT K H a xs) : SqT K H' a xs := by
  rcases h with h | h
  · exact .inl (sx_rd s n h)
  · exact .inr h

/-! ### data -/
/-- a tuple that stands -/
inductive RdT (H : Hp) (a : Addr) (xs : List V) : Prop
  | inl (h : H a = some (.tup xs))
theorem RdT.rd {H : Hp} {a : Addr} {xs : List V} (h : RdT H a xs) : Rd H a (.tup xs) := h.casesOn fun h => .inl h
theorem RdT.at {H : Hp} {a : Addr} {xs : List V} (h : RdT H a xs) : H a = some (.tup xs) := h.casesOn fun h => h
theorem sx_rt {M : Ms} {H H' : Hp} {a : Addr} {u : List V} (s : Sx M H H') (n : ¬ M a) (h : RdT H a u) : RdT H' a u := .inl (s a _ n h.at)
mutual
inductive Rp (M : Ms) (H : Hp) : V → PyData → Prop
  | non : Rp M H .non .none
  | bl (b : Bool) : Rp M H (.bl b) (.bool b)
  | int (i : Int) : Rp M H (.int i) (.int i)
  | str (x : Str) : Rp M H (.str x) (.str x)
  | lst {a : Addr} {xs : List V} {ds : List PyData} : ¬ M a → Rd H a (.lst xs) → RpAll M H xs ds → Rp M H (.ref a) (.list ds)
  | tup {a : Addr} {xs : List V} {ds : List PyData} : ¬ M a → RdT H a xs → RpAll M H xs ds → Rp M H (.ref a) (.tuple ds)
inductive RpAll (M : Ms) (H : Hp) : List V → List PyData → Prop
  | nil : RpAll M H [] []
  | cons {v : V} {vs : List V} {d : PyData} {ds : List PyData} : Rp M H v d → RpAll M H vs ds → RpAll M H (v :: vs) (d :: ds)
end
section
variable {K : PySem.W.Frag} {M N : Ms} {H H' : Hp}
mutual
theorem Rp.imp (f : ∀ a u, ¬ M a → Rd H a u → ¬ N a) (fl : ∀ a u, ¬ M a → Rd H a u → Rd H' a u) (ft : ∀ a xs, ¬ M a → RdT H a xs → RdT H' a xs) : ∀ (d : PyData) (v : V), Rp M H v d → Rp N H' v d
  | .none, _, h => by cases h; exact .non
  | .bool b, _, h => by cases h; exact .bl b
  | .int i, _, h => by cases h; exact .int i
  | .str x, _, h => by cases h; exact .str x
  | .list ds, _, h => by
    cases h with
    | lst n s r => exact .lst (f _ _ n s) (fl _ _ n s) (RpAll.imp f fl ft ds _ r)
  | .tuple ds, _, h => by
    cases h with
    | tup n s r => exact .tup (f _ _ n s.rd) (ft _ _ n s) (RpAll.imp f fl ft ds _ r)
  | .dict _, _, h => by cases h
theorem RpAll.imp (f : ∀ a u, ¬ M a → Rd H a u → ¬ N a) (fl : ∀ a u, ¬ M a → Rd H a u → Rd H' a u) (ft : ∀ a xs, ¬ M a → RdT H a xs → RdT H' a xs) : ∀ (ds : List PyData) (vs : List V), RpAll M H vs ds → RpAll N H' vs ds
  | [], _, h => by cases h; exact .nil
  | d :: ds, _, h => by
    cases h with
    | cons h1 h2 => exact .cons (Rp.imp f fl ft d _ h1) (RpAll.imp f fl ft ds _ h2)
end
theorem Rp.sx {v : V} {d : PyData} (s : Sx M H H') (h : Rp M H v d) : Rp M H' v d := Rp.imp (fun _ _ n _ => n) (fun _ _ n q => sx_rd s n q) (fun _ _ n q => sx_rt s n q) d v h
theorem RpAll.sx {vs : List V} {ds : List PyData} (s : Sx M H H') (h : RpAll M H vs ds) : RpAll M H' vs ds := RpAll.imp (fun _ _ n _ => n) (fun _ _ n q => sx_rd s n q) (fun _ _ n q => sx_rt s n q) ds vs h
/-- fewer that may be written -/
theorem Rp.less {v : V} {d : PyData} (f : ∀ a, N a → M a) (h : Rp M H v d) : Rp N H v d := Rp.imp (fun a _ n _ m => n (f a m)) (fun _ _ _ q => q) (fun _ _ _ q => q) d v h
theorem RpAll.less {vs : List V} {ds : List PyData} (f : ∀ a, N a → M a) (h : RpAll M H vs ds) : RpAll N H vs ds := RpAll.imp (fun a _ n _ m => n (f a m)) (fun _ _ _ q => q) (fun _ _ _ q => q) ds vs h

/-- an address that no datum reads: nothing stands there -/
theorem sql_kept {a p : Addr} {xs : List V} {o : HO} (h : SqL K H a xs) (n : H p = none) : SqL K (upd H p o) a xs := sx_l (M := fun _ => False) (Sx.new n) (fun z => z) h
theorem sqt_kept {a p : Addr} {xs : List V} {o : HO} (h : SqT K H a xs) (n : H p = none) : SqT K (upd H p o) a xs := sx_t (M := fun _ => False) (Sx.new n) (fun z => z) h

mutual
theorem Rp.dp : ∀ (d : PyData) (v : V), Rp M H v d → Dp K H v d
  | .none, _, h => by cases h; exact .non
  | .bool b, _, h => by cases h; exact .bl b
  | .int i, _, h => by cases h; exact .int i
  | .str x, _, h => by cases h; exact .str x
  | .list ds, _, h => by
    cases h with
    | lst n s r => exact .lst (.inl s) (RpAll.dp ds _ r)
  | .tuple ds, _, h => by
    cases h with
    | tup n s r => exact .tup (.inl s.rd) (RpAll.dp ds _ r)
  | .dict _, _, h => by cases h
theorem RpAll.dp : ∀ (ds : List PyData) (vs : List V), RpAll M H vs ds → DpAll K H vs ds
  | [], _, h => by cases h; exact .nil
  | d :: ds, _, h => by
    cases h with
    | cons h1 h2 => exact .cons (Rp.dp d _ h1) (RpAll.dp ds _ h2)
end
theorem RpAll.length : ∀ {ds : List PyData} {vs : List V}, RpAll M H vs ds → vs.length = ds.length
  | [], _, h => by cases h; rfl
  | d :: ds, _, h => by
    cases h with
    | cons _ h2 =>
      rw [List.length_cons, List.length_cons, RpAll.length h2]
theorem RpAll.get : ∀ {ds : List PyData} {vs : List V} {i : Nat} {v : V}, RpAll M H vs ds → vs[i]? = some v → ∃ d, ds[i]? = some d ∧ Rp M H v d
  | [], _, i, v, h, e => by cases h; simp at e
  | d :: ds, _, 0, v, h, e => by
    cases h with
    | cons h1 _ =>
      have e1 := Option.some.inj e
      subst e1
      exact ⟨d, rfl, h1⟩
  | d :: ds, _, i + 1, v, h, e => by
    cases h with
    | cons _ h2 => exact RpAll.get (i := i) h2 e
theorem RpAll.getD : ∀ {ds : List PyData} {vs : List V} {i : Nat} {d : PyData}, RpAll M H vs ds → ds[i]? = some d → ∃ v, vs[i]? = some v ∧ Rp M H v d
  | [], _, i, v, h, e => by simp at e
  | d :: ds, _, 0, v, h, e => by
    cases h with
    | cons h1 _ =>
      have e1 := Option.some.inj e
      subst e1
      exact ⟨_, rfl, h1⟩
  | d :: ds, _, i + 1, v, h, e => by
    cases h with
    | cons _ h2 => exact RpAll.getD (i := i) h2 e
theorem RpAll.append : ∀ {ds es : List PyData} {vs us : List V}, RpAll M H vs ds → RpAll M H us es → RpAll M H (vs ++ us) (ds ++ es)
  | [], _, _, _, h, g => by cases h; exact g
  | d :: ds, _, _, _, h, g => by
    cases h with
    | cons h1 h2 => exact .cons h1 (RpAll.append h2 g)
theorem RpAll.take : ∀ (n : Nat) {ds : List PyData} {vs : List V}, RpAll M H vs ds → RpAll M H (vs.take n) (ds.take n)
  | 0, _, _, _ => .nil
  | n + 1, [], _, h => by cases h; exact .nil
  | n + 1, d :: ds, _, h => by
    cases h with
    | cons h1 h2 => exact .cons h1 (RpAll.take n h2)
theorem RpAll.drop : ∀ (n : Nat) {ds : List PyData} {vs : List V}, RpAll M H vs ds → RpAll M H (vs.drop n) (ds.drop n)
  | 0, _, _, h => h
  | n + 1, [], _, h => by cases h; exact .nil
  | n + 1, d :: ds, _, h => by
    cases h with
    | cons h1 h2 => exact RpAll.drop n h2
theorem RpAll.one {v : V} {d : PyData} (h : Rp M H v d) : RpAll M H [v] [d] := .cons h .nil
theorem RpAll.eraseIdx : ∀ (n : Nat) {ds : List PyData} {vs : List V}, RpAll M H vs ds → RpAll M H (vs.eraseIdx n) (ds.eraseIdx n)
  | _, [], _, h => by cases h; exact .nil
  | 0, d :: ds, _, h => by
    cases h with
    | cons h1 h2 => exact h2
  | n + 1, d :: ds, _, h => by
    cases h with
    | cons h1 h2 => exact .cons h1 (RpAll.eraseIdx n h2)
theorem RpAll.ints : ∀ (ns : List Int), RpAll M H (ns.map V.int) (ns.map PyData.int)
  | [] => .nil
  | n :: r => .cons (.int n) (RpAll.ints r)
theorem RpAll.ofInts : ∀ {ns : List Int} {vs : List V}, RpAll M H vs (ns.map PyData.int) → vs = ns.map V.int
  | [], _, h => by cases h; rfl
  | n :: r, _, h => by
    cases h with
    | cons h1 h2 =>
      cases h1
      rw [RpAll.ofInts h2]
      rfl
end

/-- a fresh address may be written from now on -/
theorem rd_ne {H : Hp} {a p : Addr} {u : HO} (h : Rd H a u) (n : H p = none) : a ≠ p := fun e => by
  subst e
  rcases h with h | ⟨o, h⟩ <;> rw [n] at h <;> cases h
theorem Rp.fresh {M : Ms} {H : Hp} {p : Addr} (hp : H p = none) : ∀ {d : PyData} {v : V}, Rp M H v d → Rp (also M p) H v d := fun {d v} h => Rp.imp (fun a u n r z => z.elim n fun e => rd_ne r hp e) (fun _ _ _ q => q) (fun _ _ _ q => q) d v h
theorem RpAll.fresh {M : Ms} {H : Hp} {p : Addr} (hp : H p = none) {ds : List PyData} {vs : List V} (h : RpAll M H vs ds) : RpAll (also M p) H vs ds := RpAll.imp (fun a u n r z => z.elim n fun e => rd_ne r hp e) (fun _ _ _ q => q) (fun _ _ _ q => q) ds vs h
theorem also_le {M : Ms} {p : Addr} : ∀ a, M a → also M p a := fun _ h => .inl h

/-! ### the bag of a script's numbers -/
structure Bag (K : PySem.W.Frag) (M : Ms) (H : Hp) (b : Addr) : Prop where
  w : M b
  h : ∃ (n : Addr) (ns : List Int) (p r t s : Int), H b = some (.lst [.ref n, .int p, .int r, .int t, .int s]) ∧ ¬ M n ∧ Rd H n (.lst (ns.map V.int)) ∧ 0 ≤ p ∧ 0 ≤ r
/-- only the object at b has changed -/
def At (b : Addr) (H H' : Hp) : Prop := ∀ a, a ≠ b → H' a = H a
theorem At.upd {b : Addr} {H : Hp} {o : HO} : At b H (upd H b o) := fun _ n => upd_ne n
theorem At.sx {b : Addr} {H H' : Hp} (h : At b H H') : Sx (one b) H H' := fun a o n e => (h a n).trans e
theorem Bag.there {K : PySem.W.Frag} {M : Ms} {H : Hp} {b : Addr} (h : Bag K M H b) : H b ≠ none := by
  obtain ⟨_, n, ns, p, r, t, s, e, _⟩ := h
  exact ne_none e
/-- other things are written, new ones made -/
theorem Bag.keep {K : PySem.W.Frag} {M N : Ms} {H H' : Hp} {b : Addr} (h : Bag K M H b) (s : Sx N H H') (nb : ¬ N b) (le : ∀ a, N a → M a) : Bag K M H' b := by
  obtain ⟨w, n, ns, p, r, t, sd, e, hn, rd, q⟩ := h
  exact ⟨w, n, ns, p, r, t, sd, s _ _ nb e, hn, sx_rd s (fun z => hn (le _ z)) rd, q⟩
theorem Bag.more {K : PySem.W.Frag} {M : Ms} {H : Hp} {b p : Addr} (h : Bag K M H b) (hp : H p = none) : Bag K (also M p) H b := by
  obtain ⟨w, n, ns, q, r, t, sd, e, hn, rd, z⟩ := h
  exact ⟨.inl w, n, ns, q, r, t, sd, e, fun m => m.elim hn fun e => rd_ne rd hp e, rd, z⟩
theorem Bag.less {K : PySem.W.Frag} {M N : Ms} {H : Hp} {b : Addr} (h : Bag K M H b) (w : N b) (f : ∀ a, N a → M a) : Bag K N H b := by
  obtain ⟨_, n, ns, q, r, t, sd, e, hn, rd, z⟩ := h
  exact ⟨w, n, ns, q, r, t, sd, e, fun m => hn (f _ m), rd, z⟩
theorem one_le {M : Ms} {b : Addr} (w : M b) : ∀ a, one b a → M a := fun a e => by
  have e' : a = b := e
  rw [e']
  exact w
/-- a draw: behind it the bag stands, all else too -/
def Dr (K : PySem.W.Frag) (M : Ms) (b : Addr) (H : Hp) (R : PyData → Prop) (Q : VK) : Prop := ∀ v H' d, Sx (one b) H H' → Gr H H' → Bag K M H' b → Rp M H' v d → R d → Q v H'
/-- a def that writes nothing -/
def Pu (M : Ms) (H : Hp) (R : PyData → Prop) (Q : VK) : Prop := ∀ v H' d, Same H H' → Rp M H' v d → R d → Q v H'

/-! ### loops that the layer has no short rule for -/
theorem for_enum {K : PySem.W.Frag} {a : Addr} {xs : List V} {g : TG} {tb : TS} {D : Ends} {σ : L2.St} {H : Hp} (Pv : Nat → L2.St → Hp → Prop) (h0 : Pv 0 σ H) (hl : ∀ i σ H, i ≤ xs.length → Pv i σ H → SqL K H a xs)
    (hs : ∀ i x T σ H, xs[i]? = some x → H T = none → Pv i σ H → g (.ref T) σ (upd H T (.tup [.int (i : Nat), x])) fun σ2 H2 => tb { D with nx := Pv (i + 1), ct := Pv (i + 1), bk := D.nx } σ2 H2) (hd : ∀ σ H, Pv xs.length σ H → D.nx σ H) :
    ∃ W : Nat → Nat → L2.St → Hp → Prop, (∃ m, W 0 m σ H) ∧ ∀ i m σ H, W i m σ H →
      ((Ite K a).stop i H ∧ D.nx σ H) ∨ ((Ite K a).go i H ∧ ∃ N : L2.St → Hp → Prop, (∀ σ' H', N σ' H' → ∃ m', m' < m ∧ W (i + 1) m' σ' H') ∧ ∀ x H', (Ite K a).yld i H x H' → g x σ H' fun σ2 H2 => tb { D with nx := N, ct := N, bk := D.nx } σ2 H2) := by
  refine ⟨fun i m σ H => m = xs.length - i ∧ i ≤ xs.length ∧ Pv i σ H, ⟨xs.length, by simp, Nat.zero_le _, h0⟩, ?_⟩
  rintro i m σ H ⟨rfl, hi, p⟩
  have q := hl i σ H hi p
  by_cases hlt : i < xs.length
  · refine .inr ⟨⟨xs, xs[i], q, by simp [hlt]⟩, Pv (i + 1), fun σ' H' p' => ⟨xs.length - (i + 1), by omega, rfl, hlt, p'⟩, fun x H' y => ?_⟩
    obtain ⟨T, z, rfl, hT, rfl, hz⟩ := y
    exact hs i z T σ _ (hz xs q) hT p
  · have e : i = xs.length := by omega
    subst e
    exact .inl ⟨⟨xs, q, Nat.le_refl _⟩, hd σ H p⟩

theorem seqIx {j n : Nat} (h : j < n) : seqIndex? (j : Int) n = some j := by
  unfold seqIndex?
  have h1 : ¬ ((j : Int) < 0) := by omega
  have h2 : (0 : Int) ≤ (j : Int) := by omega
  have h3 : (j : Int) < (n : Int) := by omega
  simp only [if_neg h1, decide_eq_true h2, decide_eq_true h3, Bool.and_self, if_true, Int.toNat_natCast]
theorem small1000000 {n : Nat} (h : n ≤ 1000000) : n < sizeLine := Nat.lt_of_le_of_lt h (by decide)
theorem At.gr {b : Addr} {H H' : Hp} (h : At b H H') (hb : H' b ≠ none) : Gr H H' := fun a n => by
  by_cases e : a = b
  · rw [e]
    exact hb
  · rw [h a e]
    exact n

/-- what did not stand needs no leave -/
theorem Sx.cut {M : Ms} {H H' : Hp} {p : Addr} (s : Sx (also M p) H H') (n : H p = none) : Sx M H H' := fun a o m e => s a o (fun z => z.elim m fun z => by
  rw [z, n] at e
  cases e) e

theorem str_len (x y : Str) : (x ++ y).length = x.length + y.length := by
  show (x.cps ++ y.cps).size = _
  rw [Array.size_append]
  rfl

theorem log2_10 {v : Int} (h0 : 0 ≤ v) (h1 : v < 10) : v.natAbs.log2 < 1920 := Nat.lt_of_le_of_lt (Nat.log2_le_self _) (by omega)
theorem dig_len {v : Int} (h0 : 0 ≤ v) (h1 : v < 10) : (Str.ofString (toString v)).length = 1 := by
  have h : v = 0 ∨ v = 1 ∨ v = 2 ∨ v = 3 ∨ v = 4 ∨ v = 5 ∨ v = 6 ∨ v = 7 ∨ v = 8 ∨ v = 9 := by omega
  rcases h with rfl | rfl | rfl | rfl | rfl | rfl | rfl | rfl | rfl | rfl <;> decide +kernel
def isLab : V → Bool
  | .str z => decide (z.length ≤ 30)
  | _ => false
theorem lab_all (xs : List V) (h : xs.all isLab = true) : ∀ v ∈ xs, ∃ z : Str, v = V.str z ∧ z.length ≤ 30 := fun v hv => by
  have h1 := List.all_eq_true.mp h v hv
  cases v with
  | str z => exact ⟨z, rfl, of_decide_eq_true h1⟩
  | _ => cases h1

theorem sz2 {x y : V} : [x, y].length ≤ sizeLine := by show 2 ≤ sizeLine; decide
/-! ### sizes of nodes -/
def mx (ns : List Int) : Int := ns.foldl (fun a b => if a < b then b else a) 0
theorem foldmx : ∀ (ns : List Int) (a : Int), a ≤ ns.foldl (fun a b => if a < b then b else a) a ∧ (∀ n ∈ ns, n ≤ ns.foldl (fun a b => if a < b then b else a) a) ∧ (ns.foldl (fun a b => if a < b then b else a) a = a ∨ ns.foldl (fun a b => if a < b then b else a) a ∈ ns)
  | [], a => ⟨Int.le_refl _, (fun _ h => nomatch h), .inl rfl⟩
  | n :: r, a => by
    have ih := foldmx r (if a < n then n else a)
    simp only [List.foldl_cons]
    obtain ⟨h1, h2, h3⟩ := ih
    refine ⟨?_, fun m hm => ?_, ?_⟩
    · split at h1 <;> split <;> omega
    · rcases List.mem_cons.mp hm with rfl | hm
      · split at h1 <;> split <;> omega
      · exact h2 m hm
    · rcases h3 with h3 | h3
      · by_cases c : a < n
        · right
          rw [if_pos c] at h3 ⊢
          rw [h3]
          exact List.mem_cons_self
        · left
          rw [if_neg c] at h3 ⊢
          exact h3
      · exact .inr (List.mem_cons_of_mem _ h3)
theorem mx_of {ns : List Int} {m : Int} (h0 : ∀ n ∈ ns, 0 ≤ n) (hm : m ∈ ns) (hle : ∀ y, y ∈ ns → y ≤ m) : m = mx ns := by
  obtain ⟨h1, h2, h3⟩ := foldmx ns 0
  have a := h2 m hm
  have b := h0 m hm
  unfold mx
  rcases h3 with h3 | h3
  · omega
  · have c := hle _ h3
    omega
theorem mx_take {ns : List Int} {i : Nat} {z : Int} (h : ns[i]? = some z) : mx (ns.take (i + 1)) = if mx (ns.take i) < z then z else mx (ns.take i) := by
  unfold mx
  rw [List.take_add_one, h, List.foldl_append]
  rfl
def sRow : Str := "row"
def sCol : Str := "col"
def szf (z : Str) (ps : List (Int × Int)) : Int × Int :=
  if ps = [] then (if z = sRow ∨ z = sCol then (0, 0) else ((z.length : Int), 1))
  else if z = sRow then ((ps.map (·.1)).sum, mx (ps.map (·.2))) else (mx (ps.map (·.1)), (ps.map (·.2)).sum)
/-- pairs -/
def pD (p : Int × Int) : PyData := .tuple [.int p.1, .int p.2]
theorem Rp.pair {M : Ms} {H : Hp} {v : V} {p : Int × Int} (h : Rp M H v (pD p)) : ∃ t, v = .ref t ∧ Rd H t (.tup [.int p.1, .int p.2]) := by
  cases h with
  | @tup a xs _ n s r =>
    cases r with
    | cons h1 h2 =>
      cases h2 with
      | cons h3 h4 =>
        cases h1
        cases h3
        cases h4
        exact ⟨a, rfl, s.rd⟩
theorem RpAll.pair {M : Ms} {H : Hp} {vs : List V} {ps : List (Int × Int)} {i : Nat} {v : V} (h : RpAll M H vs (ps.map pD)) (hv : vs[i]? = some v) : ∃ p t, ps[i]? = some p ∧ v = .ref t ∧ Rd H t (.tup [.int p.1, .int p.2]) := by
  obtain ⟨d, hd, hr⟩ := h.get hv
  rw [List.getElem?_map] at hd
  obtain ⟨p, hp, rfl⟩ := Option.map_eq_some_iff.mp hd
  obtain ⟨t, e, r⟩ := hr.pair
  exact ⟨p, t, hp, e, r⟩
theorem same_rd {H H' : Hp} {a : Addr} {u : HO} (s : Same H H') (h : Rd H a u) : Rd H' a u := sx_rd (M := fun _ => False) (Sx.same s) (fun z => z) h

/-! ### the layer's rules with the written part named, for comprehensions -/
section
variable {X : Cx} {K : PySem.W.Frag}
theorem ix_listK (h : X.K = K) : IxR X (rIxL K) := by subst h; exact ix_list
theorem ix_tupK (h : X.K = K) : IxR X (rIxT K) := by subst h; exact ix_tup
theorem sl_listK (h : X.K = K) : SlR X (rSlL K) := by subst h; exact sl_list
theorem sl_tupK (h : X.K = K) : SlR X (rSlA K) := by subst h; exact sl_tupA
theorem op_in_seqK (h : X.K = K) : OpR X (compareOp .In) (rIn K false) := by subst h; exact op_in_seq
theorem op_notIn_seqK (h : X.K = K) : OpR X (compareOp .NotIn) (rIn K true) := by subst h; exact op_notIn_seq
theorem op_catAK (h : X.K = K) : OpR X (binaryOp .Add) (rCatA K) := by subst h; exact op_catA
theorem op_eqDK (h : X.K = K) (hu : X.A.units + 64 < cLine) : OpR X (compareOp .Eq) (rEqD K) := by subst h; exact op_eqD hu
theorem op_neDK (h : X.K = K) (hu : X.A.units + 64 < cLine) : OpR X (compareOp .NotEq) (rNeD K) := by subst h; exact op_neD hu
def rLenS (K : PySem.W.Frag) : List V → Hp → VK → Prop := fun xs H Q => ∃ p ys, xs = [.ref p] ∧ (SqL K H p ys ∨ SqT K H p ys) ∧ Q (.int ys.length) H
theorem call_lenK (h : X.K = K) : CallR X (.builtin "len") (rLenS K) := by subst h; exact call_len_seq
def rListS (K : PySem.W.Frag) : List V → Hp → VK → Prop := fun xs H Q => ∃ p ys, xs = [.ref p] ∧ (SqL K H p ys ∨ SqT K H p ys) ∧ ∀ l, H l = none → Q (.ref l) (upd H l (.lst ys))
theorem call_listK (h : X.K = K) : CallR X (.type "list") (rListS K) := by subst h; exact call_list_of
def rTupS (K : PySem.W.Frag) : List V → Hp → VK → Prop := fun xs H Q => ∃ p ys, xs = [.ref p] ∧ ((SqL K H p ys ∧ ∀ l, H l = none → Q (.ref l) (upd H l (.tup ys))) ∨ (SqT K H p ys ∧ Q (.ref p) H))
theorem call_tupleK (h : X.K = K) : CallR X (.type "tuple") (rTupS K) := by subst h; exact call_tuple_of
theorem cr_sumK (h : X.K = K) (hc : X.calm = true) : CallR X (.builtin "sum") (rSum K) := by subst h; exact cr_sum hc
theorem cr_maxK (h : X.K = K) (hc : X.calm = true) : CallR X (.builtin "max") (rMax K) := by subst h; exact cr_max hc
theorem cr_minK (h : X.K = K) (hc : X.calm = true) : CallR X (.builtin "min") (rMin K) := by subst h; exact cr_min hc
theorem cr_anyK (h : X.K = K) (hc : X.calm = true) : CallR X (.builtin "any") (rAny K) := by subst h; exact cr_any hc
theorem cr_allK (h : X.K = K) (hc : X.calm = true) : CallR X (.builtin "all") (rAll K) := by subst h; exact cr_all hc
theorem call_isi1K (h : X.K = K) : CallR X (.builtin "isinstance") (rIsi K) := by subst h; exact call_isi
theorem call_isiTK (h : X.K = K) : CallR X (.builtin "isinstance") (rIsiT K) := by subst h; exact call_isiT
def tTruth (K : PySem.W.Frag) (ta : TE) : TT := fun σ H Q => ta σ H fun x H' => ∃ k, TruV K x H' k ∧ Q k H'
theorem pt_truthK {a : Expr} {ta : TE} (h : X.K = K) (ha : PE X a ta) (he : ∀ whole, isTrue a X.env whole = (do let v ← whole; standAt a.pos; holding [v] (truthy v))) : PT X a (tTruth K ta) := by subst h; exact pt_truth ha he
theorem pe_fldK {e : Expr} {f : Str} {pos : Pos} {ta : TE} (h : X.K = K) (he : PE X e ta) (hb : attributeBase e f X.env (eval e X.env) = eval e X.env) : PE X (.Attribute e f pos) (tFld K ta f) := by subst h; exact pe_fld he hb
theorem pi_listK {tg l : Expr} {tl : TE} (h : X.K = K) (hl : PE X l tl) : PI X tg l (iList K tl) := by subst h; exact pi_list hl
theorem pi_tupK {tg l : Expr} {tl : TE} (h : X.K = K) (hl : PE X l tl) : PI X tg l (iTup K tl) := by subst h; exact pi_tup hl
theorem pg_tupK {es : List Expr} {k : Nat} {t : TGs} {n : Nat} {pos : Pos} (hK : X.K = K) (hc : X.calm = true) (h : PGs X es t)
    (hn : (assignEach es X.env).length = n := by rfl) (hst : (assignEach es X.env).findIdx? (·.1) = none := by rfl) : PG X (.Tuple es k pos) (gTup K n t) := by subst hK; exact pg_tup hc h hn hst
theorem pi_enumK {e : Expr} {ta : TA} {p pos tpos : Pos} {elts : List Expr} {kk : Nat} (hK : X.K = K) (hg : Gl X "enumerate") (hm : X.mg "enumerate" = none) (ha : PA X [e] ta) (hs : starEach [e] X.env = [(false, eval e X.env)] := by rfl) :
    PI X (.Tuple elts kk tpos) (.Call (.Name "enumerate" p) [e] [] pos) (iEnum K ta) := by subst hK; exact pi_enum hg hm ha hs
theorem pi_zipK {e e2 : Expr} {ta : TA} {p pos tpos : Pos} {elts : List Expr} {kk : Nat} (hK : X.K = K) (hg : Gl X "zip") (hm : X.mg "zip" = none) (ha : PA X [e, e2] ta)
    (hs : starEach [e, e2] X.env = (false, eval e X.env) :: starEach [e2] X.env := by rfl) (hpl : (backTo pos (starEach [e2] X.env)).any (·.1) = false := by rfl) :
    PI X (.Tuple elts kk tpos) (.Call (.Name "zip" p) [e, e2] [] pos) (iZip K ta) := by subst hK; exact pi_zip hg hm ha hs hpl
end

/-- a comprehension over a list whose elements make nothing -/
theorem lc_vals {K : PySem.W.Frag} {a : Addr} {xs ys : List V} {g : TG} {tt : TT} {te : TE} {vs : List Nat} {σ : L2.St} {H : Hp} {D : Addr} {Qd : Hp → Prop} (hD : H D = none) (hS : SqL K H a xs) (hn : ys.length = xs.length) (hz : xs.length ≤ 1000000)
    (hs : ∀ (i : Nat) (x y : V) (H' : Hp) (C : VK) (N : Hp → Prop), xs[i]? = some x → ys[i]? = some y → Same H H' → C y H' → g x (wipe σ vs) H' fun σ2 H2 => wipe σ2 vs = wipe σ vs ∧ tt σ2 H2 fun b H3 => if b = true then te σ2 H3 C else N H3)
    (hd : ∀ H', Same H H' → H' D = some (.lst ys) → Qd H') :
    ∃ W : Nat → Nat → Hp → Prop, (∃ m, W 0 m (upd H D (.lst []))) ∧ ∀ i m H, W i m H →
      ((Itl K a).stop i H ∧ Qd H) ∨ ((Itl K a).go i H ∧ ∃ Nx : Hp → Prop, (∀ H', Nx H' → ∃ m', m' < m ∧ W (i + 1) m' H') ∧ ∀ x H', (Itl K a).yld i H x H' → g x (wipe σ vs) H' fun σ2 H2 => wipe σ2 vs = wipe σ vs ∧ tt σ2 H2 fun b H3 =>
        if b = true then te σ2 H3 fun y H4 => ∃ acc, H4 D = some (.lst acc) ∧ acc.length < sizeLine ∧ Nx (upd H4 D (.lst (acc ++ [y]))) else Nx H3) := by
  refine lc_list (K := K) (a := a) (xs := xs) (fun i H' => Same H H' ∧ H' D = some (.lst (ys.take i))) ⟨same_new hD, by rw [upd_same]; rfl⟩ (fun i H' _ p => p.1.seq hS) (fun i x H' hx p => ?_) (fun H' p => ?_)
  · have hi : i < ys.length := by
      rw [hn]
      exact (List.getElem?_eq_some_iff.mp hx).1
    refine hs i x ys[i] H' _ _ hx (List.getElem?_eq_getElem hi) p.1 ⟨_, p.2, ?_, fun c o e => ?_, ?_⟩
    · rw [List.length_take]
      exact small1000000 (by omega)
    · rw [upd_ne (ne_of_none e hD)]
      exact p.1 c o e
    · rw [upd_same, List.take_add_one, List.getElem?_eq_getElem hi]
      rfl
  · refine hd H' p.1 ?_
    have e := p.2
    rw [← hn, List.take_length] at e
    exact e
theorem same_sqt {K : PySem.W.Frag} {H H' : Hp} {a : Addr} {xs : List V} (s : Same H H') (h : SqT K H a xs) : SqT K H' a xs := sx_t (M := fun _ => False) (Sx.same s) (fun z => z) h
/-- a comprehension over a tuple whose elements make nothing -/
theorem lc_valsT {K : PySem.W.Frag} {a : Addr} {xs ys : List V} {g : TG} {tt : TT} {te : TE} {vs : List Nat} {σ : L2.St} {H : Hp} {D : Addr} {Qd : Hp → Prop} (hD : H D = none) (hS : SqT K H a xs) (hn : ys.length = xs.length) (hz : xs.length ≤ 1000000)
    (hs : ∀ (i : Nat) (x y : V) (H' : Hp) (C : VK) (N : Hp → Prop), xs[i]? = some x → ys[i]? = some y → Same H H' → C y H' → g x (wipe σ vs) H' fun σ2 H2 => wipe σ2 vs = wipe σ vs ∧ tt σ2 H2 fun b H3 => if b = true then te σ2 H3 C else N H3)
    (hd : ∀ H', Same H H' → H' D = some (.lst ys) → Qd H') :
    ∃ W : Nat → Nat → Hp → Prop, (∃ m, W 0 m (upd H D (.lst []))) ∧ ∀ i m H, W i m H →
      ((Itt K a).stop i H ∧ Qd H) ∨ ((Itt K a).go i H ∧ ∃ Nx : Hp → Prop, (∀ H', Nx H' → ∃ m', m' < m ∧ W (i + 1) m' H') ∧ ∀ x H', (Itt K a).yld i H x H' → g x (wipe σ vs) H' fun σ2 H2 => wipe σ2 vs = wipe σ vs ∧ tt σ2 H2 fun b H3 =>
        if b = true then te σ2 H3 fun y H4 => ∃ acc, H4 D = some (.lst acc) ∧ acc.length < sizeLine ∧ Nx (upd H4 D (.lst (acc ++ [y]))) else Nx H3) := by
  refine lc_tup (K := K) (a := a) (xs := xs) (fun i H' => Same H H' ∧ H' D = some (.lst (ys.take i))) ⟨same_new hD, by rw [upd_same]; rfl⟩ (fun i H' _ p => same_sqt p.1 hS) (fun i x H' hx p => ?_) (fun H' p => ?_)
  · have hi : i < ys.length := by
      rw [hn]
      exact (List.getElem?_eq_some_iff.mp hx).1
    refine hs i x ys[i] H' _ _ hx (List.getElem?_eq_getElem hi) p.1 ⟨_, p.2, ?_, fun c o e => ?_, ?_⟩
    · rw [List.length_take]
      exact small1000000 (by omega)
    · rw [upd_ne (ne_of_none e hD)]
      exact p.1 c o e
    · rw [upd_same, List.take_add_one, List.getElem?_eq_getElem hi]
      rfl
  · refine hd H' p.1 ?_
    have e := p.2
    rw [← hn, List.take_length] at e
    exact e

/-- two ways meet behind an if without else -/
theorem join2 {b : Bool} {A : Prop} {N : L2.St → Hp → Prop} {σ : L2.St} {H : Hp} (Pv : L2.St → Hp → Prop) (h1 : b = true → (∀ σ H, Pv σ H → N σ H) → A) (h2 : b = false → Pv σ H) (hN : ∀ σ H, Pv σ H → N σ H) : if b = true then A else N σ H := by
  cases b with
  | true =>
    rw [if_pos rfl]
    exact h1 rfl hN
  | false =>
    rw [if_neg Bool.false_ne_true]
    exact hN _ _ (h2 rfl)


theorem RpAll.rep {M : Ms} {H : Hp} {xs : List V} {ds : List PyData} (h : RpAll M H xs ds) : ∀ n : Nat, RpAll M H (List.replicate n xs).flatten (List.replicate n ds).flatten
  | 0 => .nil
  | n + 1 => by
    rw [List.replicate_succ, List.replicate_succ, List.flatten_cons, List.flatten_cons]
    exact h.append (RpAll.rep h n)
theorem Bag.same {K : PySem.W.Frag} {M : Ms} {H H' : Hp} {b : Addr} (h : Bag K M H b) (s : Same H H') : Bag K M H' b := h.keep (N := fun _ => False) (Sx.same s) (fun z => z) (fun _ z => z.elim)
/-- a list of data that may still be written -/
def Ld (M : Ms) (H : Hp) (a : Addr) (ds : List PyData) : Prop := ¬ M a ∧ ∃ xs, H a = some (.lst xs) ∧ RpAll M H xs ds
theorem Ld.rp {M : Ms} {H : Hp} {a : Addr} {ds : List PyData} (h : Ld M H a ds) : Rp M H (.ref a) (.list ds) := by
  obtain ⟨n, xs, e, r⟩ := h
  exact .lst n (.inl e) r
theorem Ld.sx {M : Ms} {H H' : Hp} {a : Addr} {ds : List PyData} (h : Ld M H a ds) (s : Sx M H H') : Ld M H' a ds := by
  obtain ⟨n, xs, e, r⟩ := h
  exact ⟨n, xs, s _ _ n e, r.sx s⟩
theorem Ld.new {M : Ms} {H : Hp} {a : Addr} {xs : List V} {ds : List PyData} (m : Mk M H) (h : H a = none) (r : RpAll M H xs ds) : Ld M (upd H a (.lst xs)) a ds := ⟨m.out h, xs, upd_same, r.sx (Sx.new h)⟩
/-- a comprehension over a list: each element a datum, made on the way -/
theorem lc_data {K : PySem.W.Frag} {a : Addr} {xs : List V} {ys : List PyData} {g : TG} {tt : TT} {te : TE} {vs : List Nat} {σ : L2.St} {H : Hp} {D : Addr} {Qd : Hp → Prop} (M : Ms) (hM : Mk M H) (hD : H D = none) (hS : SqL K H a xs) (hn : ys.length = xs.length) (hz : xs.length ≤ 1000000)
    (hs : ∀ (i : Nat) (x : V) (y : PyData) (H' : Hp) (C : VK) (N : Hp → Prop), xs[i]? = some x → ys[i]? = some y → Same H H' → Mk (also M D) H' → (∀ v H2, Same H' H2 → Rp (also M D) H2 v y → C v H2) → g x (wipe σ vs) H' fun σ2 H2 => wipe σ2 vs = wipe σ vs ∧ tt σ2 H2 fun b H3 => if b = true then te σ2 H3 C else N H3)
    (hd : ∀ H', Same H H' → Ld M H' D ys → Qd H') :
    ∃ W : Nat → Nat → Hp → Prop, (∃ m, W 0 m (upd H D (.lst []))) ∧ ∀ i m H, W i m H →
      ((Itl K a).stop i H ∧ Qd H) ∨ ((Itl K a).go i H ∧ ∃ Nx : Hp → Prop, (∀ H', Nx H' → ∃ m', m' < m ∧ W (i + 1) m' H') ∧ ∀ x H', (Itl K a).yld i H x H' → g x (wipe σ vs) H' fun σ2 H2 => wipe σ2 vs = wipe σ vs ∧ tt σ2 H2 fun b H3 =>
        if b = true then te σ2 H3 fun y H4 => ∃ acc, H4 D = some (.lst acc) ∧ acc.length < sizeLine ∧ Nx (upd H4 D (.lst (acc ++ [y]))) else Nx H3) := by
  refine lc_list (K := K) (a := a) (xs := xs) (fun i H' => Same H H' ∧ ∃ acc, H' D = some (.lst acc) ∧ RpAll (also M D) H' acc (ys.take i)) ⟨same_new hD, [], upd_same, by rw [List.take_zero]; exact .nil⟩ (fun i H' _ p => p.1.seq hS) (fun i x H' hx p => ?_) (fun H' p => ?_)
  · obtain ⟨s, acc, e, r⟩ := p
    have hi : i < ys.length := by
      rw [hn]
      exact (List.getElem?_eq_some_iff.mp hx).1
    have hl := r.length
    rw [List.length_take] at hl
    refine hs i x ys[i] H' _ _ hx (List.getElem?_eq_getElem hi) s ((hM.gr (Gr.same s)).also (ne_none e)) fun v H2 s2 rv => ?_
    refine ⟨acc, s2 _ _ e, small1000000 (by omega), fun c o q => ?_, acc ++ [v], upd_same, ?_⟩
    · rw [upd_ne (ne_of_none q hD)]
      exact s2 _ _ (s c o q)
    · rw [List.take_add_one, List.getElem?_eq_getElem hi]
      exact ((r.sx (Sx.same s2)).append (.one rv)).sx (Sx.put (.inr rfl))
  · obtain ⟨s, acc, e, r⟩ := p
    rw [← hn, List.take_length] at r
    exact hd H' s ⟨hM.out hD, acc, e, r.less also_le⟩

theorem cut_hi (xs : List V) (n : Nat) : cutV xs none (some (n : Int)) = xs.take n := by
  unfold cutV
  rw [show HT.sIx xs.length 0 none = 0 from HT.sIx_none .., show HT.sIx xs.length xs.length (some (n : Int)) = min n xs.length from HT.sIx_nat _ _ n, List.drop_zero, Nat.sub_zero]
  rw [List.take_eq_take_iff]
  omega

theorem szK {n : Nat} (h : Nat.ble n 1000 = true) : n ≤ sizeLine := Nat.le_of_lt (small1000 (Nat.le_of_ble_eq_true h))

/-- what holds behind a statement, said once for all its ways -/
theorem seq_join {t u : TS} {D : Ends} {σ : L2.St} {H : Hp} (Pv : L2.St → Hp → Prop) (h : (∀ σ H, Pv σ H → u D σ H) → t { D with nx := u D } σ H) (hN : ∀ σ H, Pv σ H → u D σ H) : tSeq t u D σ H := h hN

theorem lc_str {z : Str} {g : TG} {tt : TT} {te : TE} {vs : List Nat} {σ : L2.St} {H1 : Hp} {D : Addr} {Qd : Hp → Prop} (Pv : Nat → Hp → Prop) (h0 : Pv 0 (upd H1 D (.lst [])))
    (hs : ∀ i c H, z.cps[i]? = some c → Pv i H → g (.str ⟨#[c]⟩) (wipe σ vs) H fun σ2 H2 => wipe σ2 vs = wipe σ vs ∧ tt σ2 H2 fun b H3 =>
      if b = true then te σ2 H3 fun y H4 => ∃ acc, H4 D = some (.lst acc) ∧ acc.length < sizeLine ∧ Pv (i + 1) (upd H4 D (.lst (acc ++ [y]))) else Pv (i + 1) H3) (hd : ∀ H, Pv z.cps.size H → Qd H) :
    ∃ W : Nat → Nat → Hp → Prop, (∃ m, W 0 m (upd H1 D (.lst []))) ∧ ∀ i m H, W i m H →
      ((Its z).stop i H ∧ Qd H) ∨ ((Its z).go i H ∧ ∃ Nx : Hp → Prop, (∀ H', Nx H' → ∃ m', m' < m ∧ W (i + 1) m' H') ∧ ∀ x H', (Its z).yld i H x H' → g x (wipe σ vs) H' fun σ2 H2 => wipe σ2 vs = wipe σ vs ∧ tt σ2 H2 fun b H3 =>
        if b = true then te σ2 H3 fun y H4 => ∃ acc, H4 D = some (.lst acc) ∧ acc.length < sizeLine ∧ Nx (upd H4 D (.lst (acc ++ [y]))) else Nx H3) := by
  refine ⟨fun i m H => m = z.cps.size - i ∧ i ≤ z.cps.size ∧ Pv i H, ⟨_, rfl, Nat.zero_le _, h0⟩, ?_⟩
  rintro i m H ⟨rfl, hi, p⟩
  by_cases hlt : i < z.cps.size
  · refine .inr ⟨hlt, Pv (i + 1), fun H' p' => ⟨z.cps.size - (i + 1), by omega, rfl, hlt, p'⟩, fun x H' y => ?_⟩
    obtain ⟨e, c, hc, rfl⟩ := y
    subst e
    exact hs i c _ hc p
  · have e : i = z.cps.size := by omega
    subst e
    exact .inl ⟨Nat.le_refl _, hd H p⟩
/-- a comprehension over a text whose elements make nothing -/
theorem lc_valsS {z : Str} {ys : List V} {g : TG} {tt : TT} {te : TE} {vs : List Nat} {σ : L2.St} {H : Hp} {D : Addr} {Qd : Hp → Prop} (hD : H D = none) (hn : ys.length = z.cps.size) (hz : z.cps.size ≤ 1000000)
    (hs : ∀ (i : Nat) (c : Nat) (y : V) (H' : Hp) (C : VK) (N : Hp → Prop), z.cps[i]? = some c → ys[i]? = some y → Same H H' → C y H' → g (.str ⟨#[c]⟩) (wipe σ vs) H' fun σ2 H2 => wipe σ2 vs = wipe σ vs ∧ tt σ2 H2 fun b H3 => if b = true then te σ2 H3 C else N H3)
    (hd : ∀ H', Same H H' → H' D = some (.lst ys) → Qd H') :
    ∃ W : Nat → Nat → Hp → Prop, (∃ m, W 0 m (upd H D (.lst []))) ∧ ∀ i m H, W i m H →
      ((Its z).stop i H ∧ Qd H) ∨ ((Its z).go i H ∧ ∃ Nx : Hp → Prop, (∀ H', Nx H' → ∃ m', m' < m ∧ W (i + 1) m' H') ∧ ∀ x H', (Its z).yld i H x H' → g x (wipe σ vs) H' fun σ2 H2 => wipe σ2 vs = wipe σ vs ∧ tt σ2 H2 fun b H3 =>
        if b = true then te σ2 H3 fun y H4 => ∃ acc, H4 D = some (.lst acc) ∧ acc.length < sizeLine ∧ Nx (upd H4 D (.lst (acc ++ [y]))) else Nx H3) := by
  refine lc_str (z := z) (fun i H' => Same H H' ∧ H' D = some (.lst (ys.take i))) ⟨same_new hD, by rw [upd_same]; rfl⟩ (fun i c H' hc p => ?_) (fun H' p => ?_)
  · have hi : i < ys.length := by
      rw [hn]
      exact (Array.getElem?_eq_some_iff.mp hc).1
    refine hs i c ys[i] H' _ _ hc (List.getElem?_eq_getElem hi) p.1 ⟨_, p.2, ?_, fun c o e => ?_, ?_⟩
    · rw [List.length_take]
      exact small1000000 (by omega)
    · rw [upd_ne (ne_of_none e hD)]
      exact p.1 c o e
    · rw [upd_same, List.take_add_one, List.getElem?_eq_getElem hi]
      rfl
  · refine hd H' p.1 ?_
    have e := p.2
    rw [← hn, List.take_length] at e
    exact e

theorem cut1 (y : V) (r : List V) : cutV (y :: r) (some 1) none = r := by
  unfold cutV
  rw [show HT.sIx (y :: r).length 0 (some 1) = min 1 (y :: r).length from HT.sIx_nat (y :: r).length 0 1, HT.sIx_none]
  rw [show min 1 (y :: r).length = 1 by
      rw [List.length_cons]
      omega]
  show List.take ((y :: r).length - 1) r = r
  rw [List.length_cons, Nat.add_sub_cancel]
  exact List.take_length

theorem rd_ty {K : PySem.W.Frag} {H : Hp} {a : Addr} {xs : List V} (h : Rd H a (.tup xs)) : TyX K H (.ref a) (.type "tuple") := by
  rcases h with h | ⟨o, h⟩
  · exact .base (.tup h)
  · exact .fTuple h
/-- a comprehension over a tuple: each element a datum, made on the way -/
theorem lc_dataT {K : PySem.W.Frag} {a : Addr} {xs : List V} {ys : List PyData} {g : TG} {tt : TT} {te : TE} {vs : List Nat} {σ : L2.St} {H : Hp} {D : Addr} {Qd : Hp → Prop} (M : Ms) (hM : Mk M H) (hD : H D = none) (hS : SqT K H a xs) (hn : ys.length = xs.length) (hz : xs.length ≤ 1000000)
    (hs : ∀ (i : Nat) (x : V) (y : PyData) (H' : Hp) (C : VK) (N : Hp → Prop), xs[i]? = some x → ys[i]? = some y → Same H H' → Mk (also M D) H' → (∀ v H2, Same H' H2 → Rp (also M D) H2 v y → C v H2) → g x (wipe σ vs) H' fun σ2 H2 => wipe σ2 vs = wipe σ vs ∧ tt σ2 H2 fun b H3 => if b = true then te σ2 H3 C else N H3)
    (hd : ∀ H', Same H H' → Ld M H' D ys → Qd H') :
    ∃ W : Nat → Nat → Hp → Prop, (∃ m, W 0 m (upd H D (.lst []))) ∧ ∀ i m H, W i m H →
      ((Itt K a).stop i H ∧ Qd H) ∨ ((Itt K a).go i H ∧ ∃ Nx : Hp → Prop, (∀ H', Nx H' → ∃ m', m' < m ∧ W (i + 1) m' H') ∧ ∀ x H', (Itt K a).yld i H x H' → g x (wipe σ vs) H' fun σ2 H2 => wipe σ2 vs = wipe σ vs ∧ tt σ2 H2 fun b H3 =>
        if b = true then te σ2 H3 fun y H4 => ∃ acc, H4 D = some (.lst acc) ∧ acc.length < sizeLine ∧ Nx (upd H4 D (.lst (acc ++ [y]))) else Nx H3) := by
  refine lc_tup (K := K) (a := a) (xs := xs) (fun i H' => Same H H' ∧ ∃ acc, H' D = some (.lst acc) ∧ RpAll (also M D) H' acc (ys.take i)) ⟨same_new hD, [], upd_same, by rw [List.take_zero]; exact .nil⟩ (fun i H' _ p => same_sqt p.1 hS) (fun i x H' hx p => ?_) (fun H' p => ?_)
  · obtain ⟨s, acc, e, r⟩ := p
    have hi : i < ys.length := by
      rw [hn]
      exact (List.getElem?_eq_some_iff.mp hx).1
    have hl := r.length
    rw [List.length_take] at hl
    refine hs i x ys[i] H' _ _ hx (List.getElem?_eq_getElem hi) s ((hM.gr (Gr.same s)).also (ne_none e)) fun v H2 s2 rv => ?_
    refine ⟨acc, s2 _ _ e, small1000000 (by omega), fun c o q => ?_, acc ++ [v], upd_same, ?_⟩
    · rw [upd_ne (ne_of_none q hD)]
      exact s2 _ _ (s c o q)
    · rw [List.take_add_one, List.getElem?_eq_getElem hi]
      exact ((r.sx (Sx.same s2)).append (.one rv)).sx (Sx.put (.inr rfl))
  · obtain ⟨s, acc, e, r⟩ := p
    rw [← hn, List.take_length] at r
    exact hd H' s ⟨hM.out hD, acc, e, r.less also_le⟩


/-- a list that is made beside stays away -/
theorem same_put {H H' : Hp} {p : Addr} {o : HO} (s : Same H H') (h : H p = none) : Same H (upd H' p o) := fun a u e => by
  rw [upd_ne (ne_of_none e h)]
  exact s a u e
end D

namespace D
open PySem PySem.Spec PyProof.Rows L2
/-! ### forms -/
inductive Fm where
  | is (n : Int) | get (x : Str) | sum (f g : Fm) | same (f g : Fm) | pick (f g h : Fm)
def sIs : Str := "is"
def sGet : Str := "get"
def sSum : Str := "sum"
def sSame : Str := "same"
def sPick : Str := "pick"
namespace Fm
def word : Fm → Str
  | .is _ => sIs | .get _ => sGet | .sum _ _ => sSum | .same _ _ => sSame | .pick _ _ _ => sPick
def enc : Fm → PyData
  | .is n => .tuple [.str sIs, .int n]
  | .get x => .tuple [.str sGet, .str x]
  | .sum f g => .tuple [.str sSum, f.enc, g.enc]
  | .same f g => .tuple [.str sSame, f.enc, g.enc]
  | .pick f g h => .tuple [.str sPick, f.enc, g.enc, h.enc]
def subs : Fm → List Fm
  | .is _ => [] | .get _ => [] | .sum f g => [f, g] | .same f g => [f, g] | .pick f g h => [f, g, h]
def dep : Fm → Nat
  | .is _ => 1 | .get _ => 1
  | .sum f g => max f.dep g.dep + 1 | .same f g => max f.dep g.dep + 1
  | .pick f g h => max f.dep (max g.dep h.dep) + 1
def size : Fm → Nat
  | .is _ => 1 | .get _ => 1
  | .sum f g => f.size + g.size + 1 | .same f g => f.size + g.size + 1
  | .pick f g h => f.size + g.size + h.size + 1
def val (ρ : Str → Int) : Fm → Int
  | .is n => n | .get x => ρ x
  | .sum f g => (f.val ρ + g.val ρ) % 10
  | .same f g => if f.val ρ = g.val ρ then 1 else 0
  | .pick f g h => if f.val ρ = 0 then h.val ρ else g.val ρ
def ok (nm : Str → Prop) : Fm → Prop
  | .is n => 0 ≤ n ∧ n ≤ 9 | .get x => nm x
  | .sum f g => f.ok nm ∧ g.ok nm | .same f g => f.ok nm ∧ g.ok nm
  | .pick f g h => f.ok nm ∧ g.ok nm ∧ h.ok nm
theorem dep_pos : ∀ f : Fm, 1 ≤ f.dep
  | .is _ => Nat.le_refl _ | .get _ => Nat.le_refl _
  | .sum f g => by show 1 ≤ max f.dep g.dep + 1; omega
  | .same f g => by show 1 ≤ max f.dep g.dep + 1; omega
  | .pick f g h => by show 1 ≤ max f.dep (max g.dep h.dep) + 1; omega
theorem val_range {ρ : Str → Int} {nm : Str → Prop} (h : ∀ x, nm x → 0 ≤ ρ x ∧ ρ x ≤ 9) : ∀ f : Fm, f.ok nm → 0 ≤ f.val ρ ∧ f.val ρ ≤ 9
  | .is n, o => o
  | .get x, o => h x o
  | .sum f g, o => by
    show 0 ≤ (f.val ρ + g.val ρ) % 10 ∧ (f.val ρ + g.val ρ) % 10 ≤ 9
    omega
  | .same f g, o => by
    show 0 ≤ (if f.val ρ = g.val ρ then (1 : Int) else 0) ∧ (if f.val ρ = g.val ρ then (1 : Int) else 0) ≤ 9
    split <;> decide
  | .pick f g k, o => by
    show 0 ≤ (if f.val ρ = 0 then k.val ρ else g.val ρ) ∧ (if f.val ρ = 0 then k.val ρ else g.val ρ) ≤ 9
    split
    · exact val_range h k o.2.2
    · exact val_range h g o.2.1
end Fm
section
variable {M : Ms} {H : Hp} {v : V}
theorem Rp.tupN {ds : List PyData} (h : Rp M H v (.tuple ds)) : ∃ a xs, v = .ref a ∧ ¬ M a ∧ Rd H a (.tup xs) ∧ RpAll M H xs ds := by
  cases h with
  | @tup a xs _ n s r => exact ⟨a, xs, rfl, n, s.rd, r⟩
theorem Rp.tupX {ds : List PyData} (h : Rp M H v (.tuple ds)) : ∃ a xs, v = .ref a ∧ ¬ M a ∧ H a = some (.tup xs) ∧ RpAll M H xs ds := by
  cases h with
  | @tup a xs _ n s r => exact ⟨a, xs, rfl, n, s.at, r⟩
theorem Rp.lstN {ds : List PyData} (h : Rp M H v (.list ds)) : ∃ a xs, v = .ref a ∧ ¬ M a ∧ Rd H a (.lst xs) ∧ RpAll M H xs ds := by
  cases h with
  | @lst a xs _ n s r => exact ⟨a, xs, rfl, n, s, r⟩
theorem Rp.int_inv {i : Int} (h : Rp M H v (.int i)) : v = .int i := by cases h; rfl
theorem Rp.str_inv {x : Str} (h : Rp M H v (.str x)) : v = .str x := by cases h; rfl
theorem RpAll.inv1 {xs : List V} {d1 : PyData} (h : RpAll M H xs [d1]) : ∃ v1, xs = [v1] ∧ Rp M H v1 d1 := by
  cases h with | cons h1 h2 => cases h2; exact ⟨_, rfl, h1⟩
theorem RpAll.inv2 {xs : List V} {d1 d2 : PyData} (h : RpAll M H xs [d1, d2]) : ∃ v1 v2, xs = [v1, v2] ∧ Rp M H v1 d1 ∧ Rp M H v2 d2 := by
  cases h with | cons h1 h2 => obtain ⟨v2, rfl, r2⟩ := h2.inv1; exact ⟨_, _, rfl, h1, r2⟩
theorem RpAll.inv3 {xs : List V} {d1 d2 d3 : PyData} (h : RpAll M H xs [d1, d2, d3]) : ∃ v1 v2 v3, xs = [v1, v2, v3] ∧ Rp M H v1 d1 ∧ Rp M H v2 d2 ∧ Rp M H v3 d3 := by
  cases h with | cons h1 h2 => obtain ⟨v2, v3, rfl, r2, r3⟩ := h2.inv2; exact ⟨_, _, _, rfl, h1, r2, r3⟩
theorem RpAll.inv4 {xs : List V} {d1 d2 d3 d4 : PyData} (h : RpAll M H xs [d1, d2, d3, d4]) : ∃ v1 v2 v3 v4, xs = [v1, v2, v3, v4] ∧ Rp M H v1 d1 ∧ Rp M H v2 d2 ∧ Rp M H v3 d3 ∧ Rp M H v4 d4 := by
  cases h with | cons h1 h2 => obtain ⟨v2, v3, v4, rfl, r2, r3, r4⟩ := h2.inv3; exact ⟨_, _, _, _, rfl, h1, r2, r3, r4⟩
/-- what stands of a form -/
inductive FmAt (M : Ms) (H : Hp) : Fm → List V → Prop
  | is (n : Int) : FmAt M H (.is n) [.str sIs, .int n]
  | get (x : Str) : FmAt M H (.get x) [.str sGet, .str x]
  | sum {f g : Fm} {u w : V} (a : Rp M H u f.enc) (b : Rp M H w g.enc) : FmAt M H (.sum f g) [.str sSum, u, w]
  | same {f g : Fm} {u w : V} (a : Rp M H u f.enc) (b : Rp M H w g.enc) : FmAt M H (.same f g) [.str sSame, u, w]
  | pick {f g h : Fm} {u w z : V} (a : Rp M H u f.enc) (b : Rp M H w g.enc) (c : Rp M H z h.enc) : FmAt M H (.pick f g h) [.str sPick, u, w, z]
theorem Rp.form {f : Fm} (h : Rp M H v f.enc) : ∃ a xs, v = .ref a ∧ ¬ M a ∧ Rd H a (.tup xs) ∧ FmAt M H f xs := by
  cases f with
  | is n =>
    obtain ⟨a, xs, rfl, n, s, r⟩ := Rp.tupN h
    obtain ⟨v1, v2, rfl, r1, r2⟩ := r.inv2
    cases r1; cases r2
    exact ⟨a, _, rfl, n, s, .is _⟩
  | get x =>
    obtain ⟨a, xs, rfl, n, s, r⟩ := Rp.tupN h
    obtain ⟨v1, v2, rfl, r1, r2⟩ := r.inv2
    cases r1; cases r2
    exact ⟨a, _, rfl, n, s, .get _⟩
  | sum f g =>
    obtain ⟨a, xs, rfl, n, s, r⟩ := Rp.tupN h
    obtain ⟨v1, v2, v3, rfl, r1, r2, r3⟩ := r.inv3
    cases r1
    exact ⟨a, _, rfl, n, s, .sum r2 r3⟩
  | same f g =>
    obtain ⟨a, xs, rfl, n, s, r⟩ := Rp.tupN h
    obtain ⟨v1, v2, v3, rfl, r1, r2, r3⟩ := r.inv3
    cases r1
    exact ⟨a, _, rfl, n, s, .same r2 r3⟩
  | pick f g k =>
    obtain ⟨a, xs, rfl, n, s, r⟩ := Rp.tupN h
    obtain ⟨v1, v2, v3, v4, rfl, r1, r2, r3, r4⟩ := r.inv4
    cases r1
    exact ⟨a, _, rfl, n, s, .pick r2 r3 r4⟩
theorem FmAt.rp {f : Fm} {xs : List V} {a : Addr} (h : FmAt M H f xs) (n : ¬ M a) (s : RdT H a xs) : Rp M H (.ref a) f.enc := by
  cases h with
  | is k => exact .tup n s (.cons (.str _) (.one (.int _)))
  | get x => exact .tup n s (.cons (.str _) (.one (.str _)))
  | sum a b => exact .tup n s (.cons (.str _) (.cons a (.one b)))
  | same a b => exact .tup n s (.cons (.str _) (.cons a (.one b)))
  | pick a b c => exact .tup n s (.cons (.str _) (.cons a (.cons b (.one c))))
end

/-! ### names -/
def isNm (x : Str) : Prop := 1 ≤ x.length ∧ x.length ≤ 8 ∧ ∀ c ∈ x.cps.toList, 97 ≤ c ∧ c ≤ 122
def addN (acc : List Str) (n : Str) : List Str := if n ∈ acc then acc else acc ++ [n]
def Fm.names : Fm → List Str
  | .is _ => [] | .get x => [x]
  | .sum f g => g.names.foldl addN (f.names.foldl addN [])
  | .same f g => g.names.foldl addN (f.names.foldl addN [])
  | .pick f g h => h.names.foldl addN (g.names.foldl addN (f.names.foldl addN []))
theorem addN_mem {acc : List Str} {n x : Str} (h : x ∈ addN acc n) : x ∈ acc ∨ x = n := by
  unfold addN at h
  split at h
  · exact .inl h
  · rcases List.mem_append.mp h with h | h
    · exact .inl h
    · exact .inr (List.mem_singleton.mp h)
theorem addsN_mem : ∀ (ns acc : List Str) (x : Str), x ∈ ns.foldl addN acc → x ∈ acc ∨ x ∈ ns
  | [], acc, x, h => .inl h
  | n :: r, acc, x, h => by
    rcases addsN_mem r (addN acc n) x h with h | h
    · rcases addN_mem h with h | h
      · exact .inl h
      · exact .inr (by rw [h]; exact List.mem_cons_self)
    · exact .inr (List.mem_cons_of_mem _ h)
theorem Fm.names_ok {nm : Str → Prop} : ∀ f : Fm, f.ok nm → ∀ x ∈ f.names, nm x
  | .is _, _, x, h => nomatch h
  | .get y, o, x, h => by rw [List.mem_singleton.mp h]; exact o
  | .sum f g, o, x, h => by
    rcases addsN_mem _ _ _ h with h | h
    · rcases addsN_mem _ _ _ h with h | h
      · exact nomatch h
      · exact f.names_ok o.1 x h
    · exact g.names_ok o.2 x h
  | .same f g, o, x, h => by
    rcases addsN_mem _ _ _ h with h | h
    · rcases addsN_mem _ _ _ h with h | h
      · exact nomatch h
      · exact f.names_ok o.1 x h
    · exact g.names_ok o.2 x h
  | .pick f g k, o, x, h => by
    rcases addsN_mem _ _ _ h with h | h
    · rcases addsN_mem _ _ _ h with h | h
      · rcases addsN_mem _ _ _ h with h | h
        · exact nomatch h
        · exact f.names_ok o.1 x h
      · exact g.names_ok o.2.1 x h
    · exact k.names_ok o.2.2 x h
theorem addN_len (acc : List Str) (n : Str) : (addN acc n).length ≤ acc.length + 1 := by
  unfold addN
  split
  · omega
  · rw [List.length_append]
    exact Nat.le_refl _
theorem addsN_len : ∀ (ns acc : List Str), (ns.foldl addN acc).length ≤ acc.length + ns.length
  | [], acc => Nat.le_refl _
  | n :: r, acc => by
    have h1 := addsN_len r (addN acc n)
    have h2 := addN_len acc n
    show (r.foldl addN (addN acc n)).length ≤ acc.length + (r.length + 1)
    omega
theorem Fm.names_len : ∀ f : Fm, f.names.length ≤ f.size
  | .is _ => Nat.zero_le _
  | .get _ => Nat.le_refl _
  | .sum f g => by
    have h1 := f.names_len; have h2 := g.names_len; have h3 := addsN_len f.names []; have h4 := addsN_len g.names (f.names.foldl addN [])
    show (g.names.foldl addN (f.names.foldl addN [])).length ≤ f.size + g.size + 1
    rw [List.length_nil] at h3
    omega
  | .same f g => by
    have h1 := f.names_len; have h2 := g.names_len; have h3 := addsN_len f.names []; have h4 := addsN_len g.names (f.names.foldl addN [])
    show (g.names.foldl addN (f.names.foldl addN [])).length ≤ f.size + g.size + 1
    rw [List.length_nil] at h3
    omega
  | .pick f g k => by
    have h1 := f.names_len; have h2 := g.names_len; have h3 := addsN_len f.names []; have h4 := addsN_len g.names (f.names.foldl addN [])
    have h5 := k.names_len; have h6 := addsN_len k.names (g.names.foldl addN (f.names.foldl addN []))
    show (k.names.foldl addN (g.names.foldl addN (f.names.foldl addN []))).length ≤ f.size + g.size + k.size + 1
    rw [List.length_nil] at h3
    omega
theorem Fm.size_le : ∀ (d : Nat) (f : Fm), f.dep ≤ d → f.size ≤ 4 ^ d
  | 0, f, h => absurd f.dep_pos (by omega)
  | d + 1, .is _, _ => Nat.pow_pos (by decide)
  | d + 1, .get _, _ => Nat.pow_pos (by decide)
  | d + 1, .sum f g, h => by
    have h0 : max f.dep g.dep + 1 ≤ d + 1 := h
    have h1 := Fm.size_le d f (by omega)
    have h2 := Fm.size_le d g (by omega)
    have h3 : 1 ≤ 4 ^ d := Nat.pow_pos (by decide)
    show f.size + g.size + 1 ≤ 4 ^ d * 4
    omega
  | d + 1, .same f g, h => by
    have h0 : max f.dep g.dep + 1 ≤ d + 1 := h
    have h1 := Fm.size_le d f (by omega)
    have h2 := Fm.size_le d g (by omega)
    have h3 : 1 ≤ 4 ^ d := Nat.pow_pos (by decide)
    show f.size + g.size + 1 ≤ 4 ^ d * 4
    omega
  | d + 1, .pick f g k, h => by
    have h0 : max f.dep (max g.dep k.dep) + 1 ≤ d + 1 := h
    have h1 := Fm.size_le d f (by omega)
    have h2 := Fm.size_le d g (by omega)
    have h4 := Fm.size_le d k (by omega)
    have h3 : 1 ≤ 4 ^ d := Nat.pow_pos (by decide)
    show f.size + g.size + k.size + 1 ≤ 4 ^ d * 4
    omega
theorem in_strs (n : Str) (acc : List Str) : inV (.str n) (acc.map V.str) = decide (n ∈ acc) := by
  unfold inV
  rw [List.any_map, Bool.eq_iff_iff, List.any_eq_true, decide_eq_true_iff]
  constructor
  · rintro ⟨x, hx, e⟩
    have e' : (x == n) = true := e
    rw [beq_iff_eq] at e'
    rw [← e']
    exact hx
  · intro h
    exact ⟨n, h, by show (n == n) = true; exact beq_self_eq_true n⟩
theorem flat_strs (acc : List Str) : (acc.map V.str).all flatV = true := by
  rw [List.all_map, List.all_eq_true]
  intro x _
  rfl
theorem RpAll.strs {M : Ms} {H : Hp} : ∀ (ns : List Str), RpAll M H (ns.map V.str) (ns.map PyData.str)
  | [] => .nil
  | n :: r => .cons (.str n) (RpAll.strs r)
theorem RpAll.ofStrs {M : Ms} {H : Hp} : ∀ {ns : List Str} {vs : List V}, RpAll M H vs (ns.map PyData.str) → vs = ns.map V.str
  | [], _, h => by cases h; rfl
  | n :: r, _, h => by
    cases h with
    | cons h1 h2 =>
      cases h1
      rw [RpAll.ofStrs h2]
      rfl

theorem sign_lo {c : Nat} (h : 97 ≤ c) : decide (({ cps := #[c] } : Str).cps.toList < (Str.ofString "a").cps.toList) = false := by
  rw [show (Str.ofString "a").cps.toList = [97] by decide +kernel, decide_eq_false_iff_not]
  show ¬ [c] < [97]
  rw [List.cons_lt_cons_iff]
  rintro (h1 | ⟨_, h1⟩)
  · omega
  · exact absurd h1 (by decide)
theorem sign_hi {c : Nat} (h : c ≤ 122) : decide ((Str.ofString "z").cps.toList < ({ cps := #[c] } : Str).cps.toList) = false := by
  rw [show (Str.ofString "z").cps.toList = [122] by decide +kernel, decide_eq_false_iff_not]
  show ¬ [122] < [c]
  rw [List.cons_lt_cons_iff]
  rintro (h1 | ⟨_, h1⟩)
  · omega
  · exact absurd h1 (by decide)

/-- a form with its level -/
def lvD (p : Fm × Nat) : PyData := .tuple [p.1.enc, .int (p.2 : Int)]
def szs (ps : List (Fm × Nat)) : Nat := (ps.map fun p => p.1.size).sum
theorem szs_app (ps qs : List (Fm × Nat)) : szs (ps ++ qs) = szs ps + szs qs := by
  unfold szs
  rw [List.map_append, List.sum_append_nat]
theorem szs_rev (ps : List (Fm × Nat)) : szs ps.reverse = szs ps := by
  unfold szs
  rw [List.map_reverse, List.sum_reverse]
theorem subs_size (f : Fm) (n : Nat) : szs (f.subs.map fun g => (g, n)) + 1 = f.size := by
  cases f <;> simp [szs, Fm.subs, Fm.size] <;> omega
theorem subs_ok {nm : Str → Prop} {f g : Fm} (h : f.ok nm) (hg : g ∈ f.subs) : g.ok nm := by
  cases f <;> simp [Fm.subs] at hg <;> simp [Fm.ok] at h
  all_goals (first | (rcases hg with rfl | rfl | rfl <;> simp_all) | (rcases hg with rfl | rfl <;> simp_all))
theorem subs_dep {f g : Fm} (hg : g ∈ f.subs) : g.dep + 1 ≤ f.dep := by
  cases f <;> simp [Fm.subs] at hg <;> simp [Fm.dep]
  all_goals (first | (rcases hg with rfl | rfl | rfl <;> omega) | (rcases hg with rfl | rfl <;> omega))
theorem subs_len (f : Fm) : f.subs.length ≤ 3 := by cases f <;> simp [Fm.subs]
theorem RpAll.reverse {M : Ms} {H : Hp} : ∀ {vs : List V} {ds : List PyData}, RpAll M H vs ds → RpAll M H vs.reverse ds.reverse
  | _, [], h => by cases h; exact .nil
  | _, d :: ds, h => by
    cases h with
    | cons h1 h2 =>
      rw [List.reverse_cons, List.reverse_cons]
      exact (RpAll.reverse h2).append (.one h1)
theorem RpAll.last {M : Ms} {H : Hp} {vs : List V} {ds : List PyData} {d : PyData} (h : RpAll M H vs (ds ++ [d])) : ∃ us v, vs = us ++ [v] ∧ RpAll M H us ds ∧ Rp M H v d := by
  have h1 := h.reverse
  rw [List.reverse_append] at h1
  generalize hv : vs.reverse = ws at h1
  cases h1 with
  | @cons v us _ _ a b =>
    have e : vs = us.reverse ++ [v] := by
      rw [← List.reverse_reverse vs, hv, List.reverse_cons]
    refine ⟨us.reverse, v, e, ?_, a⟩
    have b' : RpAll M H us ds.reverse := b
    have := b'.reverse
    rw [List.reverse_reverse] at this
    exact this

theorem Fm.size_pos : ∀ f : Fm, 1 ≤ f.size
  | .is _ => Nat.le_refl _ | .get _ => Nat.le_refl _
  | .sum f g => by show 1 ≤ f.size + g.size + 1; omega
  | .same f g => by show 1 ≤ f.size + g.size + 1; omega
  | .pick f g h => by show 1 ≤ f.size + g.size + h.size + 1; omega
theorem szs_len : ∀ ps : List (Fm × Nat), ps.length ≤ szs ps
  | [] => Nat.le_refl _
  | p :: r => by
    have h1 := szs_len r
    have h2 := p.1.size_pos
    show r.length + 1 ≤ ((p :: r).map fun p => p.1.size).sum
    rw [List.map_cons, List.sum_cons]
    unfold szs at h1
    omega

def stepN (acc : List Str) (s : Fm) : List Str := s.names.foldl addN acc
theorem names_fold (f : Fm) (h : ∀ x, f ≠ .get x) : f.names = f.subs.foldl stepN [] := by
  cases f with
  | get x => exact absurd rfl (h x)
  | _ => rfl
theorem fold_take {α β : Type} (g : β → α → β) (b : β) (l : List α) (i : Nat) (x : α) (h : l[i]? = some x) : (l.take (i + 1)).foldl g b = g ((l.take i).foldl g b) x := by
  rw [List.take_add_one, h, List.foldl_append]
  rfl
end D

namespace D
open PySem PySem.Spec PyProof.Rows L2
theorem sub_len {α : Type} [DecidableEq α] : ∀ (l2 l1 : List α), l1.Nodup → (∀ x ∈ l1, x ∈ l2) → l1.length ≤ l2.length ∧ (l1.length = l2.length → l2.Nodup)
  | [], l1, _, h => by
    cases l1 with
    | nil => exact ⟨Nat.le_refl _, fun _ => .nil⟩
    | cons x r => exact nomatch h x List.mem_cons_self
  | y :: r, l1, nd, h => by
    by_cases hy : y ∈ l1
    · have nd1 : (l1.erase y).Nodup := nd.erase y
      have h1 : ∀ x ∈ l1.erase y, x ∈ r := fun x hx => by
        have hx' := (nd.mem_erase_iff).mp hx
        rcases List.mem_cons.mp (h x hx'.2) with e | e
        · exact absurd e hx'.1
        · exact e
      obtain ⟨a, b⟩ := sub_len r (l1.erase y) nd1 h1
      have le := List.length_erase_of_mem hy
      have pos : 0 < l1.length := List.length_pos_of_mem hy
      refine ⟨by rw [List.length_cons]; omega, fun e => ?_⟩
      rw [List.length_cons] at e
      refine List.nodup_cons.mpr ⟨fun hr => ?_, b (by omega)⟩
      have h2 : ∀ x ∈ l1, x ∈ r := fun x hx => by
        rcases List.mem_cons.mp (h x hx) with e | e
        · rw [e]; exact hr
        · exact e
      have := (sub_len r l1 nd h2).1
      omega
    · have h2 : ∀ x ∈ l1, x ∈ r := fun x hx => by
        rcases List.mem_cons.mp (h x hx) with e | e
        · rw [e] at hx; exact absurd hx hy
        · exact e
      have := (sub_len r l1 nd h2).1
      refine ⟨by rw [List.length_cons]; omega, fun e => ?_⟩
      rw [List.length_cons] at e
      omega
section
variable {X : Cx}
def tLenSetT (K : PySem.W.Frag) (ta : TE) : TE := fun σ H Q => ta σ H fun x H1 => ∃ (l : Addr) (ns : List Int), x = V.ref l ∧ SqT K H1 l (ns.map V.int) ∧ ns.length ≤ 1000 ∧ ∀ c : Nat, (c = ns.length ↔ ns.Nodup) → Q (.int c) H1
theorem pe_lenSetT {K : PySem.W.Frag} {a : Expr} {ta : TE} {p p2 q pos : Pos} (hK : X.K = K) (hc : X.calm = true) (hg : Gl X "len") (hm : X.mg "len" = none) (hg2 : Gl X "set") (hm2 : X.mg "set" = none) (ha : PE X a ta)
    (na : starEach [a] X.env = (false, eval a X.env) :: starEach [] X.env := by rfl) : PE X (.Call (.Name "len" p) [.Call (.Name "set" p2) [a] [] q] [] pos) (tLenSetT K ta) := by
  subst hK
  refine ⟨fun pins s σ H Q I h => ?_⟩
  refine Call_ (ld_blt I hg hm PySem.boot_len ?_)
  refine PyProof.Rows.callWith_builtin1 (PyProof.Rows.args_cons ?_ rfl) rfl rfl
  refine Call_ (ld_blt I hg2 hm2 PyProof.Rows.boot_set ?_)
  refine PyProof.Rows.callWith_type1 (PyProof.Rows.args_cons (thn (ha.run pins s σ H _ I h) fun v s1 ⟨x, H1, I1, r1, q1⟩ => PyProof.Rows.args_nil ?_) na) na rfl
  obtain ⟨l, ns, rfl, hq, h1, q1⟩ := q1
  cases r1
  obtain ⟨its, rv, pt, hz⟩ := I1.tuple hq
  have hi : IntsAre its.toArray.toList ns := ints_of_vals rv
  refine call_set_tupI ns (I1.ok.hd hc) (show s1.heap.IsTuple l its.toArray from pt) hi (by unfold scanBound; omega) fun h' tk c R1 hcn k => ?_
  obtain ⟨o, es, ep, t, ho, hex, hdt, g, nd, hm2, hb, hf, hn, hr, hl2⟩ := R1
  refine PyProof.Rows.args_nil ?_
  have I2 : Inv X pins σ H1 { s1 with heap := h', toks := tk } := I1.kept k
  have hsub : ∀ x ∈ es.toList.map keyOf, x ∈ ns := fun x hx => of_decide_eq_true ((hm2 x).mpr hx)
  have hsup : ∀ x ∈ ns, x ∈ es.toList.map keyOf := fun x hx => (hm2 x).mp (decide_eq_true hx)
  have hlen : (es.toList.map keyOf).length = es.size := by rw [List.length_map, Array.length_toList]
  have hc2 : es.size = ns.length ↔ ns.Nodup := by
    obtain ⟨a1, a2⟩ := sub_len ns _ nd hsub
    refine ⟨fun e => a2 (by rw [hlen, e]), fun hnd => ?_⟩
    have b1 := (sub_len (es.toList.map keyOf) ns hnd hsup).1
    omega
  exact call_len_set ho hex hdt hf (by unfold scanBound at hb; omega) ⟨.int es.size, H1, I2.tok _, ⟨_, rfl⟩, q1 es.size hc2⟩
end
end D

namespace D
open PySem PySem.Spec PyProof.Rows L2
section
variable {X : Cx} {C g : Addr} {n : Nat} {CX : CXT} {sp : Sp} {E : XK} {fd : FuncData} {ps : List Str}
/-- x op y, two instances of one class with its own def for op -/
def rOwnI (C : Addr) (sp : Sp) (E : XK) : R2 := fun x y H Q => ∃ a dx fs b dy gs, x = .ref a ∧ y = .ref b ∧ H a = some (.ins C dx fs) ∧ H b = some (.ins C dy gs) ∧ sp [x, y] H Q E
theorem op_ownI {op : CmpOp} (hop : ∀ a b, compareOp op a b = richCompare op a b) (hs : PySem.W.findIn X.K (.ref C) (cmpInfo op).2.1 = some (some (.ref g))) (hf : PySem.W.isFn X.K (.ref g) = true) (hn : PySem.W.notFirst X.K C (.ref C) = true)
    (F : FnOk X.prog X.w X.K X.mg X.base CX n g fd ps sp) (hb : Binds X.K fd ps []) (hr : Room n X.A) (hx : Passes CX X E) : OpR X (compareOp op) (rOwnI C sp E) := by
  intro pins s σ H x y v u Q I rx ry h
  obtain ⟨a, dx, fs, b, dy, gs, rfl, rfl, ha, hb2, q⟩ := h
  cases (show v = Value.ref a from rx)
  cases (show u = Value.ref b from ry)
  obtain ⟨mA, O, _⟩ := ins_get I.hok ha
  obtain ⟨od, J, _⟩ := O.look
  obtain ⟨mA', O', _⟩ := ins_get I.hok hb2
  obtain ⟨od', J', _⟩ := O'.look
  obtain ⟨m, hF⟩ := I.fr
  rw [hop]
  refine PySem.W.cmp_K (op := op) (tb := .ref C) hr.units0 hF I.ok.mod.kin J J'.type hn hs hf ?_
  refine wpAny_mono (run_fn (us := [.ref a, .ref b]) (vs := [.ref a, .ref b]) F hr hb .nil hx I (.cons rfl (.cons rfl .nil)) q) (fun w s' z => ?_) fun _ _ x => x
  obtain ⟨z', H', I', rz, qz⟩ := z
  exact SlX.cmpback rz ⟨z', H', I', rz, qz⟩
/-- an instance is called -/
def tCallOI (C : Addr) (sp : Sp) (E : XK) (tf : TE) (t : TA) : TE := fun σ H Q => tf σ H fun y H1 => ∃ a dx fs, y = V.ref a ∧ t σ H1 fun vs H2 => H2 a = some (.ins C dx fs) ∧ sp (V.ref a :: vs) H2 Q E
theorem pe_callOI {fe e : Expr} {es : List Expr} {pos : Pos} {tf : TE} {t : TA} (c : StX.CallO X.K C g) (F : FnOk X.prog X.w X.K X.mg X.base CX n g fd ps sp) (hb : Binds X.K fd ps []) (hr : Room n X.A) (hx : Passes CX X E) (hf : PE X fe tf) (ha : PA X (e :: es) t)
    (ht : eval (.Call fe (e :: es) [] pos) X.env = (do callWith pos (← eval fe X.env) [] (backTo pos (starEach (e :: es) X.env)) (backToKw pos (keywordEach [] X.env))) := by rfl)
    (he : starEach (e :: es) X.env = (false, eval e X.env) :: starEach es X.env := by rfl) (hpl : (backTo pos (starEach es X.env)).any (·.1) = false := by rfl) : PE X (.Call fe (e :: es) [] pos) (tCallOI C sp E tf t) := by
  refine ⟨fun pins s σ H Q I h => ?_⟩
  refine Call_ (thn (hf.run pins s σ H _ I h) fun u s1 ⟨y, H1, I1, ry, a, dx, fs, ey, q⟩ => ?_) ht
  subst ey
  cases (show u = Value.ref a from ry)
  refine StX.callO_with (thn (ha.run pos pins s1 σ H1 _ I1 q) fun us s2 ⟨vs, H2, I2, r, hi, q2⟩ => ?_) he hpl
  obtain ⟨ox, od, J, hd⟩ := StX.insC_at I2 (.inr ⟨dx, fs, hi⟩)
  exact ⟨⟨C, ox, od, J, hd⟩, StX.run_callO c (F.raw hb .nil) hr hx I2 (.inr ⟨dx, fs, hi⟩) r (by rw [List.append_nil]; exact q2)⟩
/-- isinstance of an own class -/
def rIsC (C : Addr) : List V → Hp → VK → Prop := fun xs H Q => ∃ a dx fs, xs = [.ref a, .ref C] ∧ H a = some (.ins C dx fs) ∧ Q (.bl true) H
theorem call_isCK (c : C8.InsC X.K C) : CallR X (.builtin "isinstance") (rIsC C) := C8.call_isC c
end
end D

namespace PySem
theorem meets_enumerate_newT (l : Addr) (items : Array Value) :
    Meets (Builtin.«enumerate.__new__» ⟨[.type "enumerate", .ref l], []⟩) (fun _ R s => s.heap.IsTuple l items ∧
      R (.ok (.ret (.ref (s.heap.push { cls := .type "tuple_iterator", data := .fields #[.ref l, .int 0 0] }).objs.size)))
        { s with heap := (s.heap.push { cls := .type "tuple_iterator", data := .fields #[.ref l, .int 0 0] }).push { cls := .type "enumerate", data := .fields #[.none, .bool false, .ref s.heap.objs.size, rawInt 0, .none, .none] } }) :=
  .of_wp fun prog w A R s h => by
    obtain ⟨hp, g, d, tk, os⟩ := s; obtain ⟨hL, h⟩ := h
    have hsub := sub_enumerate
    wp_walk
    refine wpAny_stack_any fun st => wpAny_pure ?_
    split
    · rename_i c _ _ _ _ _
      cases (c == Value.type "enumerate")
      · wp_walk using wpAny_pyIter_tuple hL
        exact ⟨_, rfl, h⟩
      · wp_walk using wpAny_pyIter_tuple hL
        exact ⟨_, rfl, h⟩
    · wp_walk using wpAny_pyIter_tuple hL
      exact ⟨_, rfl, h⟩
section
variable {prog : Program} {w : World} {A : Around} {E : Value → Shared → Prop} {s : Shared}
theorem call_enumerate_tuple {l : Addr} {items : Array Value} {Q : Value → Shared → Prop} (hL : s.heap.IsTuple l items)
    (h : ∀ h', IsEnum h' (s.heap.objs.size + 1) s.heap.objs.size 0 .none → h'.IsTupleIter s.heap.objs.size l 0 → h'.objs.size = s.heap.objs.size + 2 →
      (∀ b o, s.heap.get? b = some o → h'.get? b = some o) → Q (.ref (s.heap.objs.size + 1)) { s with heap := h' }) :
    wpAny (model prog w) A (call (.type "enumerate") [.ref l]) Q E s := by
  refine callType_new F.called_enumerate (by decide) (F.typeCall_enumerate_1 _) (F.newCall_enumerate_1 _) (fun obj => F.args_object_init_2 obj _) F.entry_enumerate_new
    (meets_enumerate_newT l items) ⟨hL, ?_⟩
  have hz : (s.heap.push { cls := .type "tuple_iterator", data := .fields #[.ref l, .int 0 0] }).objs.size = s.heap.objs.size + 1 := Heap.size_push ..
  show _ ∧ _
  rw [hz]
  have he : IsEnum ((s.heap.push { cls := .type "tuple_iterator", data := .fields #[.ref l, .int 0 0] }).push
      { cls := .type "enumerate", data := .fields #[.none, .bool false, .ref s.heap.objs.size, rawInt 0, .none, .none] }) (s.heap.objs.size + 1) s.heap.objs.size 0 .none := by
    have := Heap.get?_push_size (s.heap.push { cls := .type "tuple_iterator", data := .fields #[.ref l, .int 0 0] })
      (o := { cls := .type "enumerate", data := .fields #[.none, .bool false, .ref s.heap.objs.size, rawInt 0, .none, .none] }) rfl
    rw [hz] at this; exact this
  refine ⟨⟨_, he, rfl⟩, h _ he ⟨_, Heap.get?_push_of_some _ (Heap.get?_push_size _ rfl), rfl, rfl⟩ (by rw [Heap.size_push, hz]) fun b o x => Heap.get?_push_of_some _ (Heap.get?_push_of_some _ x)⟩
end
end PySem
namespace D
open PySem PySem.Spec PyProof.Rows L2
/-- the tuple at a, each item in a new pair with its place -/
def Itet (K : PySem.W.Frag) (a : Addr) : It :=
  ⟨fun i H => ∃ (xs : List V) (x : V), SqT K H a xs ∧ xs[i]? = some x, fun i H v H' => ∃ T x, v = .ref T ∧ H T = none ∧ H' = upd H T (.tup [.int (i : Nat), x]) ∧ ∀ xs, SqT K H a xs → xs[i]? = some x, fun i H => ∃ xs : List V, SqT K H a xs ∧ xs.length = i⟩
theorem turn_enumT {P : Program} {w : World} {K : PySem.W.Frag} {elts : List Expr} {kk : Nat} {tpos : Pos} (a e it : Addr) :
    Turn P w K (.Tuple elts kk tpos) (Itet K a) [e, it] e (fun i h => (∃ old, IsEnum h e it ((i : Nat) : Int) old) ∧ h.IsTupleIter it a i ∧ e ≠ it) where
  mem := by simp
  obj := fun i h st b hb => by
    obtain ⟨⟨old, he⟩, ⟨o, ho, hc, hd⟩, _⟩ := st
    have e' : b = e ∨ b = it := by simpa using hb
    rcases e' with z | z
    · rw [z]; exact ⟨_, he, fun v q => nomatch q⟩
    · rw [z]; exact ⟨o, ho, fun v q => by rw [hd] at q; cases q⟩
  keep := fun i h h' st k => let ⟨⟨old, he⟩, hi, hne⟩ := st; ⟨⟨old, k e (by simp) _ he⟩, hi.at fun o q => k it (by simp) o q, hne⟩
  item := by
    intro X hP hw hK hc i pins s σ H E I hf st hg
    subst hP hw hK
    obtain ⟨⟨old, he⟩, hit, hne⟩ := st
    obtain ⟨xs, x, hq, hx⟩ := hg
    obtain ⟨its, rv, p, hz⟩ := I.tuple hq
    have p2 : s.heap.IsTuple a its.toArray := p
    obtain ⟨u, hu, ru⟩ := rv.get hx
    have hel : e < s.heap.objs.size := Heap.lt_size he
    have hil : it < s.heap.objs.size := by obtain ⟨_, q, _⟩ := hit; exact Heap.lt_size q
    have hai : a ≠ it := fun z => by
      obtain ⟨o1, q1, c1, _⟩ := hit
      obtain ⟨o2, q2, c2, _⟩ := p2
      rw [z, q1] at q2
      cases q2
      rw [c1] at c2
      exact absurd c2 (by decide)
    have hea : e ≠ a := fun z => by
      obtain ⟨o2, q2, c2, _⟩ := p2
      rw [← z, he] at q2
      cases q2
      exact absurd (show Value.type "enumerate" = Value.type "tuple" from c2) (by decide)
    have hlt : i < its.toArray.size := by
      have := (List.getElem?_eq_some_iff.mp hu).1
      simpa using this
    refine wpAny_pyNext_enum_itemD (Draws.tuple (A := X.A.in1) (I.ok.hd hc) it a hai its.toArray) he ⟨hit, p2⟩ hlt hne (fun z => by
      rcases List.mem_cons.mp z with z | z
      · exact hne z
      · exact hea (List.mem_singleton.mp z)) fun x' h' tk hP ho hst' hT hsz hk => ?_
    obtain rfl : x' = u := by
      have h1 : its.toArray[i]? = some x' := hP
      rw [List.getElem?_toArray, hu] at h1
      exact (Option.some.inj h1).symm
    refine ⟨_, rfl, wpAny_letOwnedTupleGo_enum (s := { s with heap := h', toks := tk + 1 }) ho fun h'' he' sb => ?_⟩
    have hT2 : h''.get? s.heap.objs.size = some { cls := .type "tuple", data := .seq #[.int i tk, x'] } := (sb.2 _ (Nat.ne_of_gt hel)).trans hT
    have new : ObjOk X.prog X.w (upd H s.heap.objs.size (.tup [.int (i : Nat), x])) h'' s.heap.objs.size (.tup [.int (i : Nat), x]) :=
      ⟨by show 2 ≤ sizeLine; decide, [.int i tk, x'], .cons ⟨_, rfl⟩ (.cons ru .nil), ⟨_, hT2, rfl, _, rfl⟩⟩
    have I1 : Inv X pins σ (upd H s.heap.objs.size (.tup [.int (i : Nat), x])) { s with heap := h'', toks := tk + 1 } :=
      I.turnedNew (ch := [e, it]) (fun b ob hb q => (sb.2 b (fun z => hb (by simp [z]))).trans (hk b ob (fun z => hb (by simp [z])) (fun z => hb (by simp [z])) q)) hf (Nat.le_refl _) new
    refine ⟨.ref s.heap.objs.size, _, I1, rfl, ⟨_, x, rfl, I.hok.fresh (Nat.le_refl _), rfl, fun ys hy => by rw [I.tuple_inj hy hq]; exact hx⟩, ⟨⟨x', ?_⟩, hst'.1.at fun o q => (sb.2 it (Ne.symm hne)).trans q, hne⟩, fun b hb => ?_⟩
    · have e1 : ((i + 1 : Nat) : Int) = (i : Int) + 1 := by omega
      rw [e1]; exact he'
    · have hb' : b < s.heap.objs.size := by
        have e' : b = e ∨ b = it := by simpa using hb
        rcases e' with z | z
        · rw [z]; exact hel
        · rw [z]; exact hil
      rw [upd_ne (Nat.ne_of_lt hb')]
      exact (hf b hb).1
  done := by
    intro X hP hw hK hc i pins s σ H E I hf st hg
    subst hP hw hK
    obtain ⟨⟨old, he⟩, hit, hne⟩ := st
    obtain ⟨xs, hq, hx⟩ := hg
    obtain ⟨its, rv, p, hz⟩ := I.tuple hq
    have p2 : s.heap.IsTuple a its.toArray := p
    obtain ⟨f0, f1, f2, f3, f4, f5⟩ := hf it (by simp)
    have hl := rv.length
    have hai : a ≠ it := fun z => by
      obtain ⟨o1, q1, c1, _⟩ := hit
      obtain ⟨o2, q2, c2, _⟩ := p2
      rw [z, q1] at q2
      cases q2
      rw [c1] at c2
      exact absurd c2 (by decide)
    have en : i = its.toArray.size := by
      rw [List.size_toArray]
      omega
    exact wpAny_pyNext_enum_endD (Draws.tuple (A := X.A.in1) (I.ok.hd hc) it a hai its.toArray) he (show _ ∧ _ from ⟨by rw [← en]; exact hit, p2⟩) fun h' eb => ⟨rfl, I.turned (t' := s.toks) (fun b o hb q => eb b o hb q) f0 f1 f3 f4 f5⟩
  self := fun A i s Q E st h => let ⟨⟨_, he⟩, _⟩ := st; wpAny_pyIter_enum he h
def iEnumT (K : PySem.W.Frag) (ta : TA) : TI := fun σ H R => ta σ H fun vs H1 => ∃ a xs, vs = [.ref a] ∧ SqT K H1 a xs ∧ R (Itet K a) H1
theorem pi_enumTK {K : PySem.W.Frag} {X : Cx} {e : Expr} {ta : TA} {p pos tpos : Pos} {elts : List Expr} {kk : Nat} (hK : X.K = K) (hg : Gl X "enumerate") (hm : X.mg "enumerate" = none) (ha : PA X [e] ta) (hs : starEach [e] X.env = [(false, eval e X.env)] := by rfl) :
    PI X (.Tuple elts kk tpos) (.Call (.Name "enumerate" p) [e] [] pos) (iEnumT K ta) := by
  subst hK
  refine ⟨fun pins s σ H R I h => ?_⟩
  refine Call_ (ld_blt I hg hm boot_enumerate (PyProof.Rows.callWith_type1 (thn (ha.run pos pins s σ H _ I h) fun us s1 ⟨vs, H1, I1, r1, q1⟩ => ?_) hs rfl))
  obtain ⟨a, xs, ex, hq, q⟩ := q1
  subst ex
  cases r1 with
  | cons r rr =>
    cases rr
    cases r
    obtain ⟨its, rv, p', hz⟩ := I1.tuple hq
    refine call_enumerate_tuple (show s1.heap.IsTuple a its.toArray from p') fun h' he hit hsz hk => wpAny_pyIter_enum he ?_
    have I2 : Inv X pins σ H1 { s1 with heap := h' } := I1.kept (t' := s1.toks) hk
    refine ⟨s1.heap.objs.size + 1, [s1.heap.objs.size + 1, s1.heap.objs.size], _, _, H1, rfl, I2, turn_enumT a (s1.heap.objs.size + 1) s1.heap.objs.size, ⟨⟨.none, he⟩, hit, Nat.succ_ne_self _⟩, fun b hb => ?_, q⟩
    have e' : b = s1.heap.objs.size + 1 ∨ b = s1.heap.objs.size := by simpa using hb
    have hle : s1.heap.objs.size ≤ b := by
      rcases e' with z | z
      · rw [z]; exact Nat.le_add_right _ _
      · rw [z]; exact Nat.le_refl _
    exact I1.fpOk hle (I1.hok.fresh hle)
theorem for_enumT {K : PySem.W.Frag} {a : Addr} {xs : List V} {g : TG} {tb : TS} {D : Ends} {σ : L2.St} {H : Hp} (Pv : Nat → L2.St → Hp → Prop) (h0 : Pv 0 σ H) (hl : ∀ i σ H, i ≤ xs.length → Pv i σ H → SqT K H a xs)
    (hs : ∀ i x T σ H, xs[i]? = some x → H T = none → Pv i σ H → g (.ref T) σ (upd H T (.tup [.int (i : Nat), x])) fun σ2 H2 => tb { D with nx := Pv (i + 1), ct := Pv (i + 1), bk := D.nx } σ2 H2) (hd : ∀ σ H, Pv xs.length σ H → D.nx σ H) :
    ∃ W : Nat → Nat → L2.St → Hp → Prop, (∃ m, W 0 m σ H) ∧ ∀ i m σ H, W i m σ H →
      ((Itet K a).stop i H ∧ D.nx σ H) ∨ ((Itet K a).go i H ∧ ∃ N : L2.St → Hp → Prop, (∀ σ' H', N σ' H' → ∃ m', m' < m ∧ W (i + 1) m' σ' H') ∧ ∀ x H', (Itet K a).yld i H x H' → g x σ H' fun σ2 H2 => tb { D with nx := N, ct := N, bk := D.nx } σ2 H2) := by
  refine ⟨fun i m σ H => m = xs.length - i ∧ i ≤ xs.length ∧ Pv i σ H, ⟨xs.length, by simp, Nat.zero_le _, h0⟩, ?_⟩
  rintro i m σ H ⟨rfl, hi, p⟩
  have q := hl i σ H hi p
  by_cases hlt : i < xs.length
  · refine .inr ⟨⟨xs, xs[i], q, by simp [hlt]⟩, Pv (i + 1), fun σ' H' p' => ⟨xs.length - (i + 1), by omega, rfl, hlt, p'⟩, fun x H' y => ?_⟩
    obtain ⟨T, z, rfl, hT, rfl, hz⟩ := y
    exact hs i z T σ _ (hz xs q) hT p
  · have e : i = xs.length := by omega
    subst e
    exact .inl ⟨⟨xs, q, rfl⟩, hd σ H p⟩
/-- comprehensions over enumerate -/
theorem lc_enum {K : PySem.W.Frag} {a : Addr} {xs : List V} {g : TG} {tt : TT} {te : TE} {vs : List Nat} {σ : L2.St} {H1 : Hp} {D : Addr} {Qd : Hp → Prop} (Pv : Nat → Hp → Prop) (h0 : Pv 0 (upd H1 D (.lst []))) (hl : ∀ i H, i ≤ xs.length → Pv i H → SqL K H a xs)
    (hs : ∀ i x T H, xs[i]? = some x → H T = none → Pv i H → g (.ref T) (wipe σ vs) (upd H T (.tup [.int (i : Nat), x])) fun σ2 H2 => wipe σ2 vs = wipe σ vs ∧ tt σ2 H2 fun b H3 =>
      if b = true then te σ2 H3 fun y H4 => ∃ acc, H4 D = some (.lst acc) ∧ acc.length < sizeLine ∧ Pv (i + 1) (upd H4 D (.lst (acc ++ [y]))) else Pv (i + 1) H3) (hd : ∀ H, Pv xs.length H → Qd H) :
    ∃ W : Nat → Nat → Hp → Prop, (∃ m, W 0 m (upd H1 D (.lst []))) ∧ ∀ i m H, W i m H →
      ((Ite K a).stop i H ∧ Qd H) ∨ ((Ite K a).go i H ∧ ∃ Nx : Hp → Prop, (∀ H', Nx H' → ∃ m', m' < m ∧ W (i + 1) m' H') ∧ ∀ x H', (Ite K a).yld i H x H' → g x (wipe σ vs) H' fun σ2 H2 => wipe σ2 vs = wipe σ vs ∧ tt σ2 H2 fun b H3 =>
        if b = true then te σ2 H3 fun y H4 => ∃ acc, H4 D = some (.lst acc) ∧ acc.length < sizeLine ∧ Nx (upd H4 D (.lst (acc ++ [y]))) else Nx H3) := by
  refine ⟨fun i m H => m = xs.length - i ∧ i ≤ xs.length ∧ Pv i H, ⟨xs.length, by simp, Nat.zero_le _, h0⟩, ?_⟩
  rintro i m H ⟨rfl, hi, p⟩
  have q := hl i H hi p
  by_cases hlt : i < xs.length
  · refine .inr ⟨⟨xs, xs[i], q, by simp [hlt]⟩, Pv (i + 1), fun H' p' => ⟨xs.length - (i + 1), by omega, rfl, hlt, p'⟩, fun x H' y => ?_⟩
    obtain ⟨T, z, rfl, hT, rfl, hz⟩ := y
    exact hs i z T _ (hz xs q) hT p
  · have e : i = xs.length := by omega
    subst e
    exact .inl ⟨⟨xs, q, Nat.le_refl _⟩, hd H p⟩
theorem lc_enumT {K : PySem.W.Frag} {a : Addr} {xs : List V} {g : TG} {tt : TT} {te : TE} {vs : List Nat} {σ : L2.St} {H1 : Hp} {D : Addr} {Qd : Hp → Prop} (Pv : Nat → Hp → Prop) (h0 : Pv 0 (upd H1 D (.lst []))) (hl : ∀ i H, i ≤ xs.length → Pv i H → SqT K H a xs)
    (hs : ∀ i x T H, xs[i]? = some x → H T = none → Pv i H → g (.ref T) (wipe σ vs) (upd H T (.tup [.int (i : Nat), x])) fun σ2 H2 => wipe σ2 vs = wipe σ vs ∧ tt σ2 H2 fun b H3 =>
      if b = true then te σ2 H3 fun y H4 => ∃ acc, H4 D = some (.lst acc) ∧ acc.length < sizeLine ∧ Pv (i + 1) (upd H4 D (.lst (acc ++ [y]))) else Pv (i + 1) H3) (hd : ∀ H, Pv xs.length H → Qd H) :
    ∃ W : Nat → Nat → Hp → Prop, (∃ m, W 0 m (upd H1 D (.lst []))) ∧ ∀ i m H, W i m H →
      ((Itet K a).stop i H ∧ Qd H) ∨ ((Itet K a).go i H ∧ ∃ Nx : Hp → Prop, (∀ H', Nx H' → ∃ m', m' < m ∧ W (i + 1) m' H') ∧ ∀ x H', (Itet K a).yld i H x H' → g x (wipe σ vs) H' fun σ2 H2 => wipe σ2 vs = wipe σ vs ∧ tt σ2 H2 fun b H3 =>
        if b = true then te σ2 H3 fun y H4 => ∃ acc, H4 D = some (.lst acc) ∧ acc.length < sizeLine ∧ Nx (upd H4 D (.lst (acc ++ [y]))) else Nx H3) := by
  refine ⟨fun i m H => m = xs.length - i ∧ i ≤ xs.length ∧ Pv i H, ⟨xs.length, by simp, Nat.zero_le _, h0⟩, ?_⟩
  rintro i m H ⟨rfl, hi, p⟩
  have q := hl i H hi p
  by_cases hlt : i < xs.length
  · refine .inr ⟨⟨xs, xs[i], q, by simp [hlt]⟩, Pv (i + 1), fun H' p' => ⟨xs.length - (i + 1), by omega, rfl, hlt, p'⟩, fun x H' y => ?_⟩
    obtain ⟨T, z, rfl, hT, rfl, hz⟩ := y
    exact hs i z T _ (hz xs q) hT p
  · have e : i = xs.length := by omega
    subst e
    exact .inl ⟨⟨xs, q, rfl⟩, hd H p⟩
/-- the same where each element is a value that is known: new things may be made on the way -/
theorem lc_enumV {K : PySem.W.Frag} {a : Addr} {xs ys : List V} {g : TG} {tt : TT} {te : TE} {vs : List Nat} {σ : L2.St} {H : Hp} {D : Addr} {Qd : Hp → Prop} (hD : H D = none) (hS : SqL K H a xs) (hn : ys.length = xs.length) (hz : xs.length ≤ 1000000)
    (hs : ∀ (i : Nat) (x y : V) (T : Addr) (H' : Hp) (C : VK) (N : Hp → Prop), xs[i]? = some x → ys[i]? = some y → H' T = none → Same H H' → H' D ≠ none → (∀ H2, Same (upd H' T (.tup [.int (i : Nat), x])) H2 → C y H2) → g (.ref T) (wipe σ vs) (upd H' T (.tup [.int (i : Nat), x])) fun σ2 H2 => wipe σ2 vs = wipe σ vs ∧ tt σ2 H2 fun b H3 => if b = true then te σ2 H3 C else N H3)
    (hd : ∀ H', Same H H' → H' D = some (.lst ys) → Qd H') :
    ∃ W : Nat → Nat → Hp → Prop, (∃ m, W 0 m (upd H D (.lst []))) ∧ ∀ i m H, W i m H →
      ((Ite K a).stop i H ∧ Qd H) ∨ ((Ite K a).go i H ∧ ∃ Nx : Hp → Prop, (∀ H', Nx H' → ∃ m', m' < m ∧ W (i + 1) m' H') ∧ ∀ x H', (Ite K a).yld i H x H' → g x (wipe σ vs) H' fun σ2 H2 => wipe σ2 vs = wipe σ vs ∧ tt σ2 H2 fun b H3 =>
        if b = true then te σ2 H3 fun y H4 => ∃ acc, H4 D = some (.lst acc) ∧ acc.length < sizeLine ∧ Nx (upd H4 D (.lst (acc ++ [y]))) else Nx H3) := by
  refine lc_enum (K := K) (a := a) (xs := xs) (fun i H' => Same H H' ∧ H' D = some (.lst (ys.take i))) ⟨same_new hD, by rw [upd_same]; rfl⟩ (fun i H' _ p => p.1.seq hS) (fun i x T H' hx hT p => ?_) (fun H' p => ?_)
  · have hi : i < ys.length := by
      rw [hn]
      exact (List.getElem?_eq_some_iff.mp hx).1
    refine hs i x ys[i] T H' _ _ hx (List.getElem?_eq_getElem hi) hT p.1 (ne_none p.2) fun H2 s2 => ⟨_, s2 _ _ (same_new hT _ _ p.2), ?_, ?_, ?_⟩
    · rw [List.length_take]
      exact small1000000 (by omega)
    · exact same_put (p.1.trans ((same_new hT).trans s2)) hD
    · rw [upd_same, List.take_add_one, List.getElem?_eq_getElem hi]
      rfl
  · refine hd H' p.1 ?_
    have e := p.2
    rw [← hn, List.take_length] at e
    exact e
theorem lc_enumTV {K : PySem.W.Frag} {a : Addr} {xs ys : List V} {g : TG} {tt : TT} {te : TE} {vs : List Nat} {σ : L2.St} {H : Hp} {D : Addr} {Qd : Hp → Prop} (hD : H D = none) (hS : SqT K H a xs) (hn : ys.length = xs.length) (hz : xs.length ≤ 1000000)
    (hs : ∀ (i : Nat) (x y : V) (T : Addr) (H' : Hp) (C : VK) (N : Hp → Prop), xs[i]? = some x → ys[i]? = some y → H' T = none → Same H H' → H' D ≠ none → (∀ H2, Same (upd H' T (.tup [.int (i : Nat), x])) H2 → C y H2) → g (.ref T) (wipe σ vs) (upd H' T (.tup [.int (i : Nat), x])) fun σ2 H2 => wipe σ2 vs = wipe σ vs ∧ tt σ2 H2 fun b H3 => if b = true then te σ2 H3 C else N H3)
    (hd : ∀ H', Same H H' → H' D = some (.lst ys) → Qd H') :
    ∃ W : Nat → Nat → Hp → Prop, (∃ m, W 0 m (upd H D (.lst []))) ∧ ∀ i m H, W i m H →
      ((Itet K a).stop i H ∧ Qd H) ∨ ((Itet K a).go i H ∧ ∃ Nx : Hp → Prop, (∀ H', Nx H' → ∃ m', m' < m ∧ W (i + 1) m' H') ∧ ∀ x H', (Itet K a).yld i H x H' → g x (wipe σ vs) H' fun σ2 H2 => wipe σ2 vs = wipe σ vs ∧ tt σ2 H2 fun b H3 =>
        if b = true then te σ2 H3 fun y H4 => ∃ acc, H4 D = some (.lst acc) ∧ acc.length < sizeLine ∧ Nx (upd H4 D (.lst (acc ++ [y]))) else Nx H3) := by
  refine lc_enumT (K := K) (a := a) (xs := xs) (fun i H' => Same H H' ∧ H' D = some (.lst (ys.take i))) ⟨same_new hD, by rw [upd_same]; rfl⟩ (fun i H' _ p => same_sqt p.1 hS) (fun i x T H' hx hT p => ?_) (fun H' p => ?_)
  · have hi : i < ys.length := by
      rw [hn]
      exact (List.getElem?_eq_some_iff.mp hx).1
    refine hs i x ys[i] T H' _ _ hx (List.getElem?_eq_getElem hi) hT p.1 (ne_none p.2) fun H2 s2 => ⟨_, s2 _ _ (same_new hT _ _ p.2), ?_, ?_, ?_⟩
    · rw [List.length_take]
      exact small1000000 (by omega)
    · exact same_put (p.1.trans ((same_new hT).trans s2)) hD
    · rw [upd_same, List.take_add_one, List.getElem?_eq_getElem hi]
      rfl
  · refine hd H' p.1 ?_
    have e := p.2
    rw [← hn, List.take_length] at e
    exact e
/-- elements are data that are made on the way -/
theorem lc_enumD {K : PySem.W.Frag} {a : Addr} {xs : List V} {ys : List PyData} {g : TG} {tt : TT} {te : TE} {vs : List Nat} {σ : L2.St} {H : Hp} {D : Addr} {Qd : Hp → Prop} (M : Ms) (hM : Mk M H) (hD : H D = none) (hS : SqL K H a xs) (hn : ys.length = xs.length) (hz : xs.length ≤ 1000000)
    (hs : ∀ (i : Nat) (x : V) (y : PyData) (T : Addr) (H' : Hp) (C : VK) (N : Hp → Prop), xs[i]? = some x → ys[i]? = some y → H' T = none → Same H H' → Mk (also M D) (upd H' T (.tup [.int (i : Nat), x])) → (∀ v H2, Same (upd H' T (.tup [.int (i : Nat), x])) H2 → Rp (also M D) H2 v y → C v H2) → g (.ref T) (wipe σ vs) (upd H' T (.tup [.int (i : Nat), x])) fun σ2 H2 => wipe σ2 vs = wipe σ vs ∧ tt σ2 H2 fun b H3 => if b = true then te σ2 H3 C else N H3)
    (hd : ∀ H', Same H H' → Ld M H' D ys → Qd H') :
    ∃ W : Nat → Nat → Hp → Prop, (∃ m, W 0 m (upd H D (.lst []))) ∧ ∀ i m H, W i m H →
      ((Ite K a).stop i H ∧ Qd H) ∨ ((Ite K a).go i H ∧ ∃ Nx : Hp → Prop, (∀ H', Nx H' → ∃ m', m' < m ∧ W (i + 1) m' H') ∧ ∀ x H', (Ite K a).yld i H x H' → g x (wipe σ vs) H' fun σ2 H2 => wipe σ2 vs = wipe σ vs ∧ tt σ2 H2 fun b H3 =>
        if b = true then te σ2 H3 fun y H4 => ∃ acc, H4 D = some (.lst acc) ∧ acc.length < sizeLine ∧ Nx (upd H4 D (.lst (acc ++ [y]))) else Nx H3) := by
  refine lc_enum (K := K) (a := a) (xs := xs) (fun i H' => Same H H' ∧ ∃ acc, H' D = some (.lst acc) ∧ RpAll (also M D) H' acc (ys.take i)) ⟨same_new hD, [], upd_same, by rw [List.take_zero]; exact .nil⟩ (fun i H' _ p => p.1.seq hS) (fun i x T H' hx hT p => ?_) (fun H' p => ?_)
  · obtain ⟨s, acc, e, r⟩ := p
    have hi : i < ys.length := by
      rw [hn]
      exact (List.getElem?_eq_some_iff.mp hx).1
    have hl := r.length
    rw [List.length_take] at hl
    have s1 : Same H' (upd H' T (.tup [.int (i : Nat), x])) := same_new hT
    refine hs i x ys[i] T H' _ _ hx (List.getElem?_eq_getElem hi) hT s (((hM.gr (Gr.same s)).also (ne_none e)).gr (Gr.same s1)) fun v H2 s2 rv => ?_
    refine ⟨acc, s2 _ _ (s1 _ _ e), small1000000 (by omega), ?_, acc ++ [v], upd_same, ?_⟩
    · exact same_put (s.trans (s1.trans s2)) hD
    · rw [List.take_add_one, List.getElem?_eq_getElem hi]
      exact ((r.sx (Sx.same (s1.trans s2))).append (.one rv)).sx (Sx.put (.inr rfl))
  · obtain ⟨s, acc, e, r⟩ := p
    rw [← hn, List.take_length] at r
    exact hd H' s ⟨hM.out hD, acc, e, r.less also_le⟩
end D
namespace D
open PySem PySem.Spec PyProof.Rows L2
theorem mt_lcountK {K : PySem.W.Frag} {X : Cx} (hK : X.K = K) : MtR X "list.count" (rCntI K) := by subst hK; exact mt_lcount
end D
namespace D
open PySem PySem.Spec PyProof.Rows L2
section
variable {X : Cx} {K : PySem.W.Frag} {o e : Expr} {es : List Expr} {to : TE} {t : TA} {name : Str} {apos cpos : Pos} {T id : String} {r : V → List V → Hp → VK → Prop}
theorem pe_bm0K2 (hK : X.K = K) (pa : PlainAttrs T) (slot : Slot T name id) (hty : typeOf (.builtin id) = pure (.type "method_descriptor")) (hm : MtR X id r) (ho : PE X o to)
    (hbase : attributeBase o name X.env (eval o X.env) = eval o X.env := by rfl) (hline : (apos.endLine == cpos.line) = true := by rfl) : PE X (.Call (.Attribute o name apos) [] [] cpos) (tBM0 K T r to) := by
  subst hK
  exact pe_bm0 pa slot hty hm ho hbase hline
theorem pe_bmK2 (hK : X.K = K) (pa : PlainAttrs T) (slot : Slot T name id) (hty : typeOf (.builtin id) = pure (.type "method_descriptor")) (hm : MtR X id r) (ho : PE X o to) (ha : PA X (e :: es) t)
    (hbase : attributeBase o name X.env (eval o X.env) = eval o X.env := by rfl)
    (hfew : ((backTo cpos (starEach (e :: es) X.env)).all (fun x => !x.1) && (backToKw cpos (keywordEach [] X.env)).all (fun x => x.1.isSome)
      && decide ((e :: es).length + ([] : List Keyword).length + (if ([] : List Keyword).isEmpty then 0 else 1) < 30)) = true := by rfl)
    (hline : (apos.endLine == cpos.line) = true := by rfl) (hs : starEach (e :: es) X.env = (false, eval e X.env) :: starEach es X.env := by rfl) (hplain : (backTo cpos (starEach es X.env)).any (·.1) = false := by rfl) :
    PE X (.Call (.Attribute o name apos) (e :: es) [] cpos) (tBM K T r to t) := by
  subst hK
  exact pe_bm pa slot hty hm ho ha hbase hfew hline hs hplain
end
end D

namespace D
open PySem PySem.Spec PyProof.Rows L2
/-- comprehensions' loops, whatever their bodies -/
theorem rng_loop {n : Nat} {lo : Int} {Qd : Hp → Prop} {H0 : Hp} {B : V → Hp → (Hp → Prop) → Prop} (Pv : Nat → Hp → Prop) (h0 : Pv 0 H0) (hs : ∀ i H, i < n → Pv i H → B (.int (lo + (i : Nat))) H (Pv (i + 1))) (hd : ∀ H, Pv n H → Qd H) :
    ∃ W : Nat → Nat → Hp → Prop, (∃ m, W 0 m H0) ∧ ∀ i m H, W i m H → ((Itr lo n).stop i H ∧ Qd H) ∨ ((Itr lo n).go i H ∧ ∃ Nx : Hp → Prop, (∀ H', Nx H' → ∃ m', m' < m ∧ W (i + 1) m' H') ∧ ∀ x H', (Itr lo n).yld i H x H' → B x H' Nx) := by
  refine ⟨fun i m H => m = n - i ∧ i ≤ n ∧ Pv i H, ⟨_, rfl, Nat.zero_le _, h0⟩, ?_⟩
  rintro i m H ⟨rfl, hi, p⟩
  by_cases hlt : i < n
  · refine .inr ⟨hlt, Pv (i + 1), fun H' p' => ⟨n - (i + 1), by omega, rfl, hlt, p'⟩, fun x H' y => ?_⟩
    obtain ⟨rfl, rfl⟩ := y
    exact hs i _ hlt p
  · have e : i = n := by omega
    subst e
    exact .inl ⟨Nat.le_refl _, hd H p⟩
theorem list_loop {K : PySem.W.Frag} {a : Addr} {xs : List V} {Qd : Hp → Prop} {H0 : Hp} {B : V → Hp → (Hp → Prop) → Prop} (Pv : Nat → Hp → Prop) (h0 : Pv 0 H0) (hl : ∀ i H, i ≤ xs.length → Pv i H → SqL K H a xs) (hs : ∀ i x H, xs[i]? = some x → Pv i H → B x H (Pv (i + 1))) (hd : ∀ H, Pv xs.length H → Qd H) :
    ∃ W : Nat → Nat → Hp → Prop, (∃ m, W 0 m H0) ∧ ∀ i m H, W i m H → ((Itl K a).stop i H ∧ Qd H) ∨ ((Itl K a).go i H ∧ ∃ Nx : Hp → Prop, (∀ H', Nx H' → ∃ m', m' < m ∧ W (i + 1) m' H') ∧ ∀ x H', (Itl K a).yld i H x H' → B x H' Nx) := by
  refine ⟨fun i m H => m = xs.length - i ∧ i ≤ xs.length ∧ Pv i H, ⟨_, rfl, Nat.zero_le _, h0⟩, ?_⟩
  rintro i m H ⟨rfl, hi, p⟩
  have q := hl i H hi p
  by_cases hlt : i < xs.length
  · refine .inr ⟨⟨xs, xs[i], q, by simp [hlt]⟩, Pv (i + 1), fun H' p' => ⟨xs.length - (i + 1), by omega, rfl, hlt, p'⟩, fun x H' y => ?_⟩
    obtain ⟨e, y⟩ := y
    subst e
    exact hs i x _ (y xs q) p
  · have e : i = xs.length := by omega
    subst e
    exact .inl ⟨⟨xs, q, Nat.le_refl _⟩, hd H p⟩
theorem tup_loop {K : PySem.W.Frag} {a : Addr} {xs : List V} {Qd : Hp → Prop} {H0 : Hp} {B : V → Hp → (Hp → Prop) → Prop} (Pv : Nat → Hp → Prop) (h0 : Pv 0 H0) (hl : ∀ i H, i ≤ xs.length → Pv i H → SqT K H a xs) (hs : ∀ i x H, xs[i]? = some x → Pv i H → B x H (Pv (i + 1))) (hd : ∀ H, Pv xs.length H → Qd H) :
    ∃ W : Nat → Nat → Hp → Prop, (∃ m, W 0 m H0) ∧ ∀ i m H, W i m H → ((Itt K a).stop i H ∧ Qd H) ∨ ((Itt K a).go i H ∧ ∃ Nx : Hp → Prop, (∀ H', Nx H' → ∃ m', m' < m ∧ W (i + 1) m' H') ∧ ∀ x H', (Itt K a).yld i H x H' → B x H' Nx) := by
  refine ⟨fun i m H => m = xs.length - i ∧ i ≤ xs.length ∧ Pv i H, ⟨_, rfl, Nat.zero_le _, h0⟩, ?_⟩
  rintro i m H ⟨rfl, hi, p⟩
  have q := hl i H hi p
  by_cases hlt : i < xs.length
  · refine .inr ⟨⟨xs, xs[i], q, by simp [hlt]⟩, Pv (i + 1), fun H' p' => ⟨xs.length - (i + 1), by omega, rfl, hlt, p'⟩, fun x H' y => ?_⟩
    obtain ⟨e, y⟩ := y
    subst e
    exact hs i x _ (y xs q) p
  · have e : i = xs.length := by omega
    subst e
    exact .inl ⟨⟨xs, q, Nat.le_refl _⟩, hd H p⟩
/-- a dict made of pairs of whole numbers -/
def toldK (ps : List (Int × Int)) : List (Key × V) := ps.foldl (fun k p => putK k (.inl p.2) (.int p.1)) []
theorem putK_le (c : List (Key × V)) (k : Key) (x : V) : (putK c k x).length ≤ c.length + 1 := by
  unfold putK
  split
  · rw [List.length_map]; omega
  · rw [List.length_append]; exact Nat.le_refl _
theorem toldK_snoc (ps : List (Int × Int)) (p : Int × Int) : toldK (ps ++ [p]) = putK (toldK ps) (.inl p.2) (.int p.1) := by
  unfold toldK
  rw [List.foldl_append]
  rfl
theorem told_all (ps : List (Int × Int)) : ∀ qs : List (Int × Int), (∀ p ∈ qs, p ∈ ps) → ∀ s w, valV (toldK qs) (.inl s) = some w → ∃ v, w = .int v ∧ (v, s) ∈ ps := by
  suffices h : ∀ (qs : List (Int × Int)) (c : List (Key × V)), (∀ p ∈ qs, p ∈ ps) → (∀ s w, valV c (.inl s) = some w → ∃ v, w = .int v ∧ (v, s) ∈ ps) → ∀ s w, valV (qs.foldl (fun k p => putK k (.inl p.2) (.int p.1)) c) (.inl s) = some w → ∃ v, w = .int v ∧ (v, s) ∈ ps from fun qs hq => h qs [] hq (fun s w e => nomatch e)
  intro qs
  induction qs with
  | nil => intro c _ hc; exact hc
  | cons q r ih =>
    intro c hq hc
    refine ih _ (fun p hp => hq p (List.mem_cons_of_mem _ hp)) (fun s w e => ?_)
    rw [valV_put] at e
    split at e
    · rename_i e2
      cases e2
      cases e
      exact ⟨_, rfl, hq q List.mem_cons_self⟩
    · exact hc s w e
theorem told_mem : ∀ (qs : List (Int × Int)) (p : Int × Int), p ∈ qs → ∃ w, valV (toldK qs) (.inl p.2) = some w := by
  suffices h : ∀ (qs : List (Int × Int)) (c : List (Key × V)) (s : Int), ((∃ p ∈ qs, p.2 = s) ∨ ∃ w, valV c (.inl s) = some w) → ∃ w, valV (qs.foldl (fun k p => putK k (.inl p.2) (.int p.1)) c) (.inl s) = some w from fun qs p hp => h qs [] p.2 (.inl ⟨p, hp, rfl⟩)
  intro qs
  induction qs with
  | nil =>
    intro c s h
    rcases h with ⟨_, h, _⟩ | h
    · exact nomatch h
    · exact h
  | cons q r ih =>
    intro c s h
    refine ih _ s ?_
    rcases h with ⟨p, hp, e⟩ | ⟨w, e⟩
    · rcases List.mem_cons.mp hp with rfl | hp
      · exact .inr ⟨_, by rw [valV_put, if_pos (by rw [e])]⟩
      · exact .inl ⟨p, hp, e⟩
    · right
      rw [valV_put]
      split
      · exact ⟨_, rfl⟩
      · exact ⟨w, e⟩
/-- what such a dict tells of a pair -/
theorem told_get {ps : List (Int × Int)} {p : Int × Int} (h : p ∈ ps) : ∃ v, valV (toldK ps) (.inl p.2) = some (.int v) ∧ (v, p.2) ∈ ps := by
  obtain ⟨w, e⟩ := told_mem ps p h
  obtain ⟨v, rfl, hv⟩ := told_all ps ps (fun _ h => h) _ _ e
  exact ⟨v, e, hv⟩
end D

namespace D
open PySem PySem.Spec PyProof.Rows L2
/-! ### dict comprehensions whose keys are tuples (after the layer's own for ints and texts) -/
theorem d_dictSetT {X : Cx} {pins : List (Addr × Obj)} {σ : L2.St} {H : Hp} {s : Shared} {E : Value → Shared → Prop} {D : Addr} {kvs : List (List Key × V)} {k : List Key} {b : Addr} {v : V} {u r : Value} {Q : Unit → Shared → Prop} (hu : X.A.units + 1 < cLine) (I : Inv X pins σ H s) (hD : H D = some (.dT kvs)) (hz : kvs.length < sizeLine)
    (eb : H b = some (.tup (k.map kV))) (ry : RelV (.ref b) u) (rv : RelV v r) (h : ∀ s', Inv X pins σ (upd H D (.dT (putK kvs k v))) s' → Q () s') : wpAny (model X.prog X.w) X.A (dictSet D u r) Q E s := by
  cases (show u = Value.ref b from ry)
  obtain ⟨z, hd, xs, rel, dd⟩ := dt_of I.hok hD
  have hz' : xs.length ≤ sizeLine := by rw [← Paired.length rel]; exact z
  have hl : (putK kvs k v).length ≤ sizeLine := by have := length_putK kvs k v; omega
  refine wpAny_dictSet_heap (hsz := hz') (show (tupleKind (mixKind X.prog X.w)).room X.A from Nat.lt_of_succ_lt hu) (key_of I.hok eb) dd fun h' dd' hs => h _ ?_
  obtain ⟨q, es, ep, hq, h2, h3, h4, _, h5⟩ := dd'
  refine d_write I (by rw [hD]; exact True.intro) hs ⟨q, hq⟩ ⟨hl, hd, _, (rel.put k eb rv).keeps fun c ys ec => ?_, q, es, ep, hq, h2, h3, h4, h5⟩
  rw [upd_ne (ne_of ec hD (fun z => nomatch z))]
  exact ec
theorem key_rd {P : Program} {w : World} {H : Hp} {h : Heap} {a : Addr} {ks : List Key} (ok : HOk P w H h) (e : Rd H a (.tup (ks.map kV))) : (tupleKind (mixKind P w)).is h ks a := by
  obtain ⟨_, its, r, o, h1, h2, n, h3⟩ := (show ObjOk P w H h a (.tup (ks.map kV)) from rd_of ok e)
  exact ⟨o, its.toArray, n, h1, h2, h3, by simpa using items_are r⟩
section
variable {X : Cx}
/-- something holds of all contexts that a block may have -/
abbrev InBlk (X : Cx) (sc : Scope) (F : Cx → Prop) : Prop := ∀ (t : Shared) (G : Hp) (L : Addr) (cells : List (Str × Addr)) (feet : List Addr), F (X.blk t G sc (compEnvC sc cells L X.env) feet)
/-- what a comprehension does with a new dict at D: O what stands there, Put the storing of a pair -/
def tDcG (O : Addr → HO) (Put : Addr → (Hp → Prop) → V → V → Hp → Prop) (walk : TI) (g : TG) (tt : TT) (tk tv : TE) (own : List Nat) : TE := fun σ H Q => walk σ H fun J H1 => ∀ D, H1 D = none → ∃ W : Nat → Nat → Hp → Prop, (∃ m, W 0 m (upd H1 D (O D))) ∧ ∀ i m G, W i m G →
  (J.stop i G ∧ Q (.ref D) G) ∨ (J.go i G ∧ ∃ N : Hp → Prop, (∀ G', N G' → ∃ m', m' < m ∧ W (i + 1) m' G') ∧
    ∀ x G', J.yld i G x G' → g x (wipe σ own) G' fun σ2 G2 => wipe σ2 own = wipe σ own ∧ tt σ2 G2 fun b G3 => if b = true then tk σ2 G3 fun y G4 => tv σ2 G4 fun z G5 => Put D N y z G5 else N G3)
/-- the pair is put into the dict at D -/
def PutT (D : Addr) (N : Hp → Prop) (y z : V) (G : Hp) : Prop := ∃ kvs k b, y = .ref b ∧ G b = some (.tup (k.map kV)) ∧ G D = some (.dT kvs) ∧ kvs.length < sizeLine ∧ N (upd G D (.dT (putK kvs k z)))
/-- what a storing must be -/
def Stores (X : Cx) (Put : Addr → (Hp → Prop) → V → V → Hp → Prop) : Prop := ∀ (B : Cx) (pins : List (Addr × Obj)) (σ : L2.St) (G : Hp) (t : Shared) (D : Addr) (N : Hp → Prop) (y z : V) (u r : Value) (Q : Unit → Shared → Prop) (E : Value → Shared → Prop),
  B.prog = X.prog → B.w = X.w → B.A = X.A → B.K = X.K → Inv B pins σ G t → Put D N y z G → RelV y u → RelV z r → (∀ t' G', Inv B pins σ G' t' → N G' → Q () t') → wpAny (model B.prog B.w) B.A (dictSet D u r) Q E t
theorem pe_dcG {O : Addr → HO} {Put : Addr → (Hp → Prop) → V → V → Hp → Prop} {kx vx tgt it : Expr} {ifs : List Expr} {sc : Scope} {own : List (Str × Nat)} {pos : Pos} {walk : TI} {g : TG} {tt : TT} {tk tv : TE} (mk0 : ∀ (H : Hp) (h : Heap), sysModules < h.objs.size → ObjOk X.prog X.w H (h.push { cls := .type "dict", data := .dict #[] }) h.objs.size (O h.objs.size)) (store : Stores X Put) (calm : X.calm = true) (nod : X.N.Nodup)
    (pi : PI X tgt it walk) (bo : BlkOk X.N X.env.scope sc own) (pg : InBlk X sc fun B => PG B tgt g) (pt : InBlk X sc fun B => PTs B ifs tt) (pk : InBlk X sc fun B => PE B kx tk) (pv : InBlk X sc fun B => PE B vx tv)
    (plain : ∀ x, foldedSetIterable it X.env x = pure x := by intro _; rfl) : PE X (.DictComp kx vx [⟨tgt, it, ifs, 0⟩] sc pos) (tDcG O Put walk g tt tk tv (own.map (·.2))) := ⟨fun pins s σ H Q I h => by
  rw [arm_eval_DictComp]
  have free : ∀ y ∈ sc.names, y.2 = .free → ∃ c, X.env.cells.lookup y.1 = some c := fun y hy e => (bo.free y hy e).elim (fun k => I.ok.has _ (.inl k)) fun k => I.ok.has _ (.inr k)
  refine wpAny_comprehension_free (use := none) rfl plain (closure_ok free) bo.kind (fun y hy e => by rw [bo.uniq y hy, e]) ?_
  -- what is walked, then the empty dict
  refine thn (pi.run pins s σ H _ I h) fun xv s1 hx => thn hx ?_
  rintro itv s2 ⟨ad, feet, tn, J, H2, rfl, I2, T, at2, ft2, q⟩
  refine wpAny_newObj_type (newEnv_comp ?_)
  have fresh : H2 s2.heap.objs.size = none := I2.hok.fresh (Nat.le_refl _)
  obtain ⟨W, ⟨m0, w0⟩, turn⟩ := q _ fresh
  let s3 : Shared := { s2 with heap := s2.heap.push { cls := .type "dict", data := .dict #[] } }
  let D : Addr := s2.heap.objs.size
  let H3 : Hp := upd H2 D (O D)
  let L : Addr := s3.heap.objs.size
  let e3 : Env := compEnvC sc (cellsFrom (L + 1) sc.names (cloFrom X.env.cells sc.names [])) L X.env
  let s4 : Shared := { s3 with heap := pushCells (s3.heap.push { cls := .type "dict", data := .dict #[] }) sc.names }
  have I3 : Inv X pins σ H3 s3 := I2.laid (t' := s2.toks) (fun _ _ e => Heap.get?_push_of_some _ e) (Nat.le_refl _) (mk0 _ s2.heap I2.big)
  have grown : ∀ b o, s2.heap.get? b = some o → s3.heap.get? b = some o := fun _ _ e => Heap.get?_push_of_some _ e
  have low : ∀ b ∈ feet, b < s2.heap.objs.size := fun b hb => Heap.lt_size (T.obj _ _ at2 b hb).choose_spec.1
  have ft3 : ∀ b ∈ feet, FpOk X pins H3 b ∧ b < s3.heap.objs.size := fun b hb => ⟨⟨(upd_ne (Nat.ne_of_lt (low b hb))).trans (ft2 b hb).1, (ft2 b hb).2⟩, by show b < (s2.heap.push _).objs.size; rw [Heap.size_push]; exact Nat.lt_succ_of_lt (low b hb)⟩
  have at3 : tn 0 s3.heap := T.keep _ _ _ at2 fun b _ o e => grown b o e
  have I4 : Inv (X.blk s3 H3 sc e3 feet) [] (wipe σ (own.map (·.2))) H3 s4 := block_start I3 bo nod ft3
  have at4 : tn 0 s4.heap := T.keep _ _ _ at3 fun b _ o e => pushCells_keeps _ _ _ _ (Heap.get?_push_of_some _ e)
  -- the walker's own objects in the block's context
  have foot : ∀ {σ' : L2.St} {G : Hp} {t : Shared}, Inv (X.blk s3 H3 sc e3 feet) [] σ' G t → (∀ b ∈ feet, G b = none) → ∀ b ∈ feet, FpOk (X.blk s3 H3 sc e3 feet) [] G b := by
    intro σ' G t J' none b hb
    refine ⟨none b hb, (J'.ok.exf b hb).1, J'.ok.exfs b hb, .inl hb, fun x c e => (J'.ok.exf b hb).2 x c e, ?_⟩
    intro p hp
    exact nomatch (show p ∈ ([] : List (Addr × Obj)) from by simpa using hp)
  have loop : codeAny (model X.prog X.w) X.A (.compLoop (.DictComp kx vx [⟨tgt, it, ifs, 0⟩] sc pos) 0 (.ref ad) (.ref D) e3) (compPost (model X.prog X.w) X.A X.xe none (fun v t => ∃ x G, Inv X pins σ G t ∧ RelV x v ∧ Q x G) (.ref D) L) s4 := by
    refine compLoop_anyD (fun n t => ∃ i G, Inv (X.blk s3 H3 sc e3 feet) [] (wipe σ (own.map (·.2))) G t ∧ tn i t.heap ∧ (∀ b ∈ feet, G b = none) ∧ W i n G) ?_ m0 ⟨0, H3, I4, at4, fun b hb => (ft3 b hb).1.1, w0⟩
    rintro n t ⟨i, G, IG, atG, nG, wG⟩
    obtain ⟨stop, fin⟩ | ⟨go, N, less, step⟩ := turn i n G wG
    · refine thnF (T.done (X.blk s3 H3 sc e3 feet) rfl rfl rfl calm i [] t _ G (fun _ _ => False) IG (foot IG nG) atG stop) ?_
      rintro r t6 ⟨rfl, I6⟩
      have I7 : Inv X pins σ G t6 := I3.call' (ch := feet) I6.os I6.base I6.hok I6.bare fun b hb => let z := (ft3 b hb).1.2; ⟨z.2.2.1, z.1, z.2.2.2.1, z.2.2.2.2⟩
      obtain ⟨m, names, _⟩ := I6.loc
      obtain ⟨a0, a1, a2, a3, a4, a5⟩ := I3.fpOk (Nat.le_refl _) (show G L = none from I6.free)
      exact ⟨m, names, fun h'' kept => ⟨.ref D, G, I7.turned (t' := t6.toks) (fun b o hb e => (kept.2 b hb).trans e) a0 a1 a3 a4 a5, rfl, fin⟩⟩
    · refine thnF (T.item (X.blk s3 H3 sc e3 feet) rfl rfl rfl calm i [] t _ G (fun _ _ => False) IG (foot IG nG) atG go) ?_
      rintro r t6 ⟨u, rfl, h6⟩
      refine thnF h6 ?_
      rintro _ t7 ⟨x, G7, I7, r7, y7, at7, n7⟩
      refine thnF ((pg _ _ _ _ _).run _ t7 _ G7 x u _ (I7.pinned (foot I7 n7) (T.obj _ _ at7)) r7 (step x G7 y7)) ?_
      rintro _ t8 ⟨σ8, G8, I8, wp8, q8⟩
      refine thnF ((pt _ _ _ _ _).run _ t8 σ8 G8 _ I8 q8) ?_
      rintro b t9 ⟨G9, I9, q9⟩
      have back : ∀ {t' : Shared} {G' : Hp}, Inv (X.blk s3 H3 sc e3 feet) ([] ++ pinsAt feet t7.heap) σ8 G' t' → N G' → ∃ m, m < n ∧ ∃ i G, Inv (X.blk s3 H3 sc e3 feet) [] (wipe σ (own.map (·.2))) G t' ∧ tn i t'.heap ∧ (∀ b ∈ feet, G b = none) ∧ W i m G := by
        intro t' G' I' nx
        obtain ⟨m', lt, w'⟩ := less G' nx
        have held : ∀ b ∈ feet, ∀ o, t7.heap.get? b = some o → t'.heap.get? b = some o ∧ G' b = none := fun b hb o e => let z := I'.pin (b, o) (List.mem_append_right _ (List.mem_append_right _ (mem_pinsAt hb e))); ⟨z.1, z.2.1⟩
        refine ⟨m', lt, i + 1, G', I'.unpinned.weak (by rw [← wp8, wipe_length]) fun j v e => ?_, T.keep _ _ _ at7 fun b hb o e => (held b hb o e).1, fun b hb => ?_, w'⟩
        · exact (wipe_some (wp8 ▸ e)).1
        · obtain ⟨o, e, _⟩ := T.obj _ _ at7 b hb
          exact (held b hb o e).2
      by_cases yes : b = true
      · subst yes
        refine thnF ((pk _ _ _ _ _).run _ t9 σ8 G9 _ I9 q9) ?_
        rintro ku t10 ⟨ky, G10, I10, r10, q10⟩
        refine thnF ((pv _ _ _ _ _).run _ t10 σ8 G10 _ I10 q10) ?_
        rintro vu t11 ⟨vy, G11, I11, r11, putting⟩
        exact store (X.blk s3 H3 sc e3 feet) _ _ _ _ _ _ _ _ _ _ _ _ rfl rfl rfl rfl I11 putting r10 r11 fun t12 G12 I12 nx => back I12 nx
      · have no : b = false := by cases b with | true => exact absurd rfl yes | false => rfl
        subst no
        exact back I9 q9
  exact codeAny_compStart_dict loop (T.self X.A 0 _ _ _ at4 loop)⟩
/-- keys that are tuples of ints and texts -/
abbrev tDcT (walk : TI) (g : TG) (tt : TT) (tk tv : TE) (own : List Nat) : TE := tDcG (fun _ => .dT []) PutT walk g tt tk tv own
theorem stores_T (hu : X.A.units + 1 < cLine) : Stores X PutT := by
  rintro B pins σ G t D N y z u r Q E e1 e2 e3 e4 I ⟨kvs, k, kb, rfl, tup, dict, room, nx⟩ ry rz h
  exact d_dictSetT (by rw [e3]; exact hu) I dict room tup ry rz fun t' I' => h t' _ I' nx
theorem pe_dcT {kx vx tgt it : Expr} {ifs : List Expr} {sc : Scope} {own : List (Str × Nat)} {pos : Pos} {walk : TI} {g : TG} {tt : TT} {tk tv : TE} (hu : X.A.units + 1 < cLine) (calm : X.calm = true) (nod : X.N.Nodup)
    (pi : PI X tgt it walk) (bo : BlkOk X.N X.env.scope sc own) (pg : InBlk X sc fun B => PG B tgt g) (pt : InBlk X sc fun B => PTs B ifs tt) (pk : InBlk X sc fun B => PE B kx tk) (pv : InBlk X sc fun B => PE B vx tv)
    (plain : ∀ x, foldedSetIterable it X.env x = pure x := by intro _; rfl) : PE X (.DictComp kx vx [⟨tgt, it, ifs, 0⟩] sc pos) (tDcT walk g tt tk tv (own.map (·.2))) :=
  pe_dcG (fun _ h b => dt_empty h b) (stores_T hu) calm nod pi bo pg pt pk pv plain
/-! ### dicts whose keys are tuples that may be known to their objects -/
/-- the dict at a: kvs its pairs, ks its keys with the tuples that stand for them -/
def KX (kvs : List (List Key × V)) (ks : List (List Key × Addr)) (xs : List (List Key × Addr × Value)) : Prop := Paired (fun (p : List Key × V) (q : List Key × Addr × Value) => p.1 = q.1 ∧ RelV p.2 q.2.2) kvs xs ∧ xs.map (fun q => (q.1, q.2.1)) = ks
def dXo (P : Program) (w : World) (a : Addr) (kvs : List (List Key × V)) (ks : List (List Key × Addr)) : HO := .ext fun h => kvs.length ≤ sizeLine ∧ (a == sysModules) = false ∧ ∃ xs, KX kvs ks xs ∧ (∃ o es ep, h.get? a = some o ∧ o.ExactDict ∧ o.data = .dict es ep ∧ es.toList = xs.map (entryOfKey (tupleKind (mixKind P w)))) ∧ (xs.map (·.1)).Nodup
theorem dXo_ok {P : Program} {w : World} {H : Hp} {h : Heap} {a : Addr} {kvs : List (List Key × V)} {ks : List (List Key × Addr)} {xs : List (List Key × Addr × Value)} {o : Obj} {es : Array DictEntry} {ep : Nat} (l : kvs.length ≤ sizeLine) (n : (a == sysModules) = false) (r : KX kvs ks xs) (g : h.get? a = some o) (x : o.ExactDict) (d : o.data = .dict es ep)
    (e : es.toList = xs.map (entryOfKey (tupleKind (mixKind P w)))) (nd : (xs.map (·.1)).Nodup) : ObjOk P w H h a (dXo P w a kvs ks) := by
  refine ⟨⟨l, n, xs, r, ⟨o, es, ep, g, x, d, e⟩, nd⟩, ⟨o, g⟩, ?_⟩
  rintro h1 h2 ⟨l1, n1, xs1, r1, ⟨o1, es1, ep1, g1, x1, d1, e1⟩, nd1⟩ same
  exact ⟨l1, n1, xs1, r1, ⟨o1, es1, ep1, same o1 g1, x1, d1, e1⟩, nd1⟩
/-- the tuples stand -/
def KsAt (H : Hp) (ks : List (List Key × Addr)) : Prop := ∀ p ∈ ks, Rd H p.2 (.tup (p.1.map kV))
theorem dXo_at {P : Program} {w : World} {H : Hp} {h : Heap} {a : Addr} {kvs : List (List Key × V)} {ks : List (List Key × Addr)} (ok : HOk P w H h) (e : H a = some (dXo P w a kvs ks)) (t : KsAt H ks) :
    kvs.length ≤ sizeLine ∧ (a == sysModules) = false ∧ ∃ xs, KX kvs ks xs ∧ h.DictOfH (tupleKind (mixKind P w)) a xs := by
  obtain ⟨⟨l, n, xs, r, ⟨o, es, ep, g, x, d, e1⟩, nd⟩, _⟩ := ok a _ e
  refine ⟨l, n, xs, r, o, es, ep, g, x, d, e1, fun q hq => ?_, nd⟩
  have hk : (q.1, q.2.1) ∈ ks := by rw [← r.2]; exact List.mem_map.mpr ⟨q, hq, rfl⟩
  exact key_rd ok (t _ hk)
theorem paired_keys {F : (List Key × V) → (List Key × Addr × Value) → Prop} (hF : ∀ p q, F p q → p.1 = q.1) : ∀ {kvs : List (List Key × V)} {xs : List (List Key × Addr × Value)}, Paired F kvs xs → kvs.map (·.1) = xs.map (·.1) := by
  intro kvs xs r
  induction r with
  | nil => rfl
  | cons h t ih => rw [List.map_cons, List.map_cons, ih, hF _ _ h]
theorem kx_val {kvs : List (List Key × V)} {ks : List (List Key × Addr)} {xs : List (List Key × Addr × Value)} (r : KX kvs ks xs) (k : List Key) : RelO (valV kvs k) ((atKey xs k).map (·.2)) := by
  replace r := r.1
  induction r with
  | nil => exact True.intro
  | @cons p q ps qs h t ih =>
    by_cases c : p.1 = k
    · have c' : q.1 = k := h.1.symm.trans c
      rw [valV_pos c, show atKey (q :: qs) k = some q.2 by simp [atKey, List.find?_cons, c']]
      exact h.2
    · have c' : ¬ q.1 = k := fun z => c (h.1.trans z)
      rw [valV_neg c, show atKey (q :: qs) k = atKey qs k by simp [atKey, List.find?_cons, c']]
      exact ih
/-- the keys behind a storing -/
def ksPut (kvs : List (List Key × V)) (ks : List (List Key × Addr)) (k : List Key) (b : Addr) : List (List Key × Addr) := if (valV kvs k).isSome = true then ks else ks ++ [(k, b)]
theorem kx_put {kvs : List (List Key × V)} {ks : List (List Key × Addr)} {xs : List (List Key × Addr × Value)} (r : KX kvs ks xs) (k : List Key) (b : Addr) {y : V} {u : Value} (ry : RelV y u) : KX (putK kvs k y) (ksPut kvs ks k b) (storedH xs k b u) := by
  have e : (valV kvs k).isSome = (atKey xs k).isSome := by rw [(kx_val r k).isSome_eq, Option.isSome_map]
  obtain ⟨r, rk⟩ := r
  unfold putK storedH ksPut
  rw [valV_any, e]
  by_cases c : (atKey xs k).isSome = true
  · rw [if_pos c, if_pos c, if_pos c]
    refine ⟨?_, ?_⟩
    · clear rk e c
      induction r with
      | nil => exact .nil
      | @cons p q ps qs h t ih =>
        refine .cons ?_ ih
        show (if p.1 = k then (p.1, y) else p).1 = (putAt k u q).1 ∧ RelV (if p.1 = k then (p.1, y) else p).2 (putAt k u q).2.2
        unfold putAt
        by_cases d : p.1 = k
        · rw [if_pos d, if_pos (h.1.symm.trans d)]
          exact ⟨h.1, ry⟩
        · rw [if_neg d, if_neg (fun z => d (h.1.trans z))]
          exact h
    · rw [← rk, List.map_map]
      refine List.map_congr_left fun q _ => ?_
      show ((putAt k u q).1, (putAt k u q).2.1) = _
      unfold putAt
      split <;> rfl
  · rw [if_neg c, if_neg c, if_neg c]
    exact ⟨Paired.snoc r ⟨rfl, ry⟩, by rw [List.map_append, rk]; rfl⟩
def PutX (P : Program) (w : World) (D : Addr) (N : Hp → Prop) (y z : V) (G : Hp) : Prop := ∃ kvs ks k b, y = .ref b ∧ Rd G b (.tup (k.map kV)) ∧ G D = some (dXo P w D kvs ks) ∧ KsAt G ks ∧ kvs.length < sizeLine ∧ N (upd G D (dXo P w D (putK kvs k z) (ksPut kvs ks k b)))
theorem stores_X (hu : X.A.units + 1 < cLine) : Stores X (PutX X.prog X.w) := by
  rintro B pins σ G t D N y z u r Q E e1 e2 e3 e4 I ⟨kvs, ks, k, kb, rfl, tup, dict, kat, room, nx⟩ ry rz h
  cases (show u = Value.ref kb from ry)
  rw [← e1, ← e2] at dict nx
  obtain ⟨l, n, xs, rel, dd⟩ := dXo_at I.hok dict kat
  have lx : xs.length = kvs.length := (Paired.length rel.1).symm
  refine wpAny_dictSet_heap (hsz := by omega) (show (tupleKind (mixKind B.prog B.w)).room B.A from by rw [e3]; exact Nat.lt_of_succ_lt hu) (key_rd I.hok tup) dd fun h' dd' same => h _ _ ?_ nx
  obtain ⟨o, es, ep, g, x, d, e5, _, nd⟩ := dd'
  exact d_write I (by rw [dict]; exact True.intro) same ⟨o, g⟩ (dXo_ok (Nat.le_trans (length_putK kvs k z) room) n (kx_put rel k kb rz) g x d e5 nd)
theorem dXo_empty {P : Program} {w : World} (H : Hp) (h : Heap) (b : sysModules < h.objs.size) : ObjOk P w H (h.push { cls := .type "dict", data := .dict #[] }) h.objs.size (dXo P w h.objs.size [] []) :=
  dXo_ok (xs := []) (Nat.zero_le _) (beq_eq_false_iff_ne.mpr (Ne.symm (Nat.ne_of_lt b))) ⟨.nil, rfl⟩ (Heap.get?_push_size _ rfl) ⟨rfl, rfl, rfl⟩ rfl rfl List.nodup_nil
abbrev tDcX (P : Program) (w : World) (walk : TI) (g : TG) (tt : TT) (tk tv : TE) (own : List Nat) : TE := tDcG (fun D => dXo P w D [] []) (PutX P w) walk g tt tk tv own
theorem pe_dcX {P : Program} {w : World} (hP : X.prog = P) (hw : X.w = w) {kx vx tgt it : Expr} {ifs : List Expr} {sc : Scope} {own : List (Str × Nat)} {pos : Pos} {walk : TI} {g : TG} {tt : TT} {tk tv : TE} (hu : X.A.units + 1 < cLine) (calm : X.calm = true) (nod : X.N.Nodup)
    (pi : PI X tgt it walk) (bo : BlkOk X.N X.env.scope sc own) (pg : InBlk X sc fun B => PG B tgt g) (pt : InBlk X sc fun B => PTs B ifs tt) (pk : InBlk X sc fun B => PE B kx tk) (pv : InBlk X sc fun B => PE B vx tv)
    (plain : ∀ x, foldedSetIterable it X.env x = pure x := by intro _; rfl) : PE X (.DictComp kx vx [⟨tgt, it, ifs, 0⟩] sc pos) (tDcX P w walk g tt tk tv (own.map (·.2))) := by
  subst hP hw
  exact pe_dcG (fun H h b => dXo_empty H h b) (stores_X hu) calm nod pi bo pg pt pk pv plain
/-- d[k] of such a dict -/
def tXGet (P : Program) (w : World) (td ty : TE) : TE := fun σ H Q => td σ H fun x H1 => ty σ H1 fun y H2 => ∃ a kvs ks k b v, x = .ref a ∧ y = .ref b ∧ H2 a = some (dXo P w a kvs ks) ∧ KsAt H2 ks ∧ Rd H2 b (.tup (k.map kV)) ∧ valV kvs k = some v ∧ Q v H2
theorem pe_xget {P : Program} {w : World} (hP : X.prog = P) (hw : X.w = w) (hu : X.A.units + 1 < cLine) {o i : Expr} {td ty : TE} {pos : Pos} (ho : PE X o td) (hi : PE X i ty) (hs : NoSl i) : PE X (.Subscript o i pos) (tXGet P w td ty) := by
  subst hP hw
  refine ⟨fun pins s σ H Q I h => ?_⟩
  refine subD_of PySem.F.slot_dict_getitem.lookup hs (thn (ho.run pins s σ H _ I h) fun ov s1 ⟨x, H1, I1, rx, q1⟩ => thn (hi.run pins s1 σ H1 _ I1 q1) ?_)
  rintro iv s2 ⟨y, H2, I2, ry, a, kvs, ks, k, b, v, rfl, rfl, dict, kat, tup, has, q2⟩
  obtain rfl : ov = Value.ref a := rx
  cases (show iv = Value.ref b from ry)
  obtain ⟨l, n, xs, rel, dd⟩ := dXo_at I2.hok dict kat
  have rv := kx_val rel k
  rw [has] at rv
  obtain ⟨u, hp, ru⟩ := RelO.some_of rv
  obtain ⟨p, hp', rfl⟩ := Option.map_eq_some_iff.mp hp
  refine ⟨?_, wpAny_getItem_heap (tupleKind_room_in1 hu) (key_rd I2.hok tup) dd hp' ?_⟩
  · obtain ⟨o', es, ep, g, x, _⟩ := dd
    exact ⟨o', g, x.1⟩
  · exact ⟨v, H2, I2.tok _, ru, q2⟩
/-- deep membership, in lists and in tuples -/
def rInDT (K : PySem.W.Frag) : R2 := fun x y H Q => ∃ d ds, Dp K H x d ∧ Dp K H y (.tuple ds) ∧ SeqAt.shaped d = true ∧ SeqAt.shaped (.tuple ds) = true ∧ Q (.bl (ds.any fun z => PyData.eqv z d)) H
def rNotInDT (K : PySem.W.Frag) : R2 := fun x y H Q => ∃ d ds, Dp K H x d ∧ Dp K H y (.tuple ds) ∧ SeqAt.shaped d = true ∧ SeqAt.shaped (.tuple ds) = true ∧ Q (.bl (!ds.any fun z => PyData.eqv z d)) H
theorem op_inDT {K : PySem.W.Frag} (hK : X.K = K) (hu : X.A.units + 65 < cLine) : OpR X (compareOp .In) (rInDT K) := by
  subst hK
  intro pins s σ H x y v u Q I rx ry h
  obtain ⟨d, ds, hd, he, sd, se, q⟩ := h
  obtain ⟨as, r1⟩ := Dp.reads I d x v hd rx
  obtain ⟨bs, r2⟩ := Dp.reads I (.tuple ds) y u he ry
  exact SeqAt.in_tuple_reads r2 r1 (SeqAt.canLay_of_shaped se) (SeqAt.canLay_of_shaped sd) (room_in_shaped sd hu) ⟨.bl _, H, I, rfl, q⟩
theorem op_notInDT {K : PySem.W.Frag} (hK : X.K = K) (hu : X.A.units + 65 < cLine) : OpR X (compareOp .NotIn) (rNotInDT K) := by
  subst hK
  intro pins s σ H x y v u Q I rx ry h
  obtain ⟨d, ds, hd, he, sd, se, q⟩ := h
  obtain ⟨as, r1⟩ := Dp.reads I d x v hd rx
  obtain ⟨bs, r2⟩ := Dp.reads I (.tuple ds) y u he ry
  exact SeqAt.notIn_tuple_reads r2 r1 (SeqAt.canLay_of_shaped se) (SeqAt.canLay_of_shaped sd) (room_in_shaped sd hu) ⟨.bl _, H, I, rfl, q⟩
theorem op_inDK {K : PySem.W.Frag} (hK : X.K = K) (hu : X.A.units + 65 < cLine) : OpR X (compareOp .In) (rInD K) := by subst hK; exact op_inD hu
theorem op_notInDK {K : PySem.W.Frag} (hK : X.K = K) (hu : X.A.units + 65 < cLine) : OpR X (compareOp .NotIn) (rNotInD K) := by subst hK; exact op_notInD hu
/-- t.index(n), the first place, of a tuple of ints -/
def rTIdx (K : PySem.W.Frag) : V → List V → Hp → VK → Prop := fun x xs H Q => ∃ p, ∃ ys : List Int, ∃ z j, x = .ref p ∧ xs = [.int z] ∧ SqT K H p (ys.map V.int) ∧ ys[j]? = some z ∧ (∀ m, m < j → ys[m]? ≠ some z) ∧ Q (.int (j : Nat)) H
theorem flat_ints (ys : List Int) : (ys.map V.int).all flatV = true := by induction ys <;> simp_all [flatV]
theorem mt_tup_indexI {K : PySem.W.Frag} (hK : X.K = K) : MtR X "tuple.index" (rTIdx K) := by
  subst hK
  rintro pins s σ H _ _ v us Q I rx rs ⟨p, ys, z, j, rfl, rfl, reads, found, first, q⟩
  cases rx
  obtain ⟨_, rfl, tk, rfl⟩ := vals1 rs
  obtain ⟨its, vals, ⟨⟨_, dd, _, sl⟩, stands, rfl, n, rfl⟩, _⟩ := I.tuple reads
  have size : its.length = ys.length := by simpa using vals.length.symm
  have item : ∀ m : Nat, m < ys.length → ∃ t', its[m]? = some (Value.int (ys.getD m 0) t') := by
    intro m hm
    obtain ⟨w, hw, t', rfl⟩ := vals.get (i := m) (x := V.int (ys.getD m 0)) (by simp [hm])
    exact ⟨t', hw⟩
  have eqs : ∀ (m : Nat) (hm : m < its.toArray.size), eqU (V.int z) its.toArray[m] = decide (ys.getD m 0 = z) := by
    intro m hm
    obtain ⟨t', e⟩ := item m (by simpa [size] using hm)
    have e' : its.toArray[m] = Value.int (ys.getD m 0) t' := by
      have := (List.getElem?_eq_some_iff.mp e).2
      simpa using this
    rw [e']
    rfl
  have inside := (List.getElem?_eq_some_iff.mp found).1
  have jz : ys.getD j 0 = z := by rw [List.getD_eq_getElem?_getD, found]; rfl
  have answer := TI.tuple_indexAt p its.toArray n dd sl (.int z tk) (eqU (.int z)) j (by simpa [size] using inside) (by rw [eqs, jz]; exact decide_eq_true rfl) (fun m hm lt => by
    rw [eqs]
    refine decide_eq_false fun e => first m lt ?_
    have inm : m < ys.length := by simpa [size] using hm
    rw [List.getElem?_eq_getElem inm, ← e, List.getD_eq_getElem?_getD, List.getElem?_eq_getElem inm]
    rfl)
  exact call_meets PySem.F.slot_tuple_index ⟨_, stands, rfl⟩ PySem.F.entry_tuple_index (PySem.F.args_tuple_index_2 _ _) answer
    ⟨stands, fun w hw => mem_eqAt (x := .int z) ⟨tk, rfl⟩ rfl vals (flat_ints ys) w (by simpa using hw), ⟨.int (j : Nat), H, I.tok _, ⟨_, rfl⟩, q⟩⟩
end
/-! ### loops over enumerate and zip, whatever their bodies -/
theorem enumL_loop {K : PySem.W.Frag} {a : Addr} {xs : List V} {Qd : Hp → Prop} {H0 : Hp} {B : V → Hp → (Hp → Prop) → Prop} (Pv : Nat → Hp → Prop) (h0 : Pv 0 H0) (hl : ∀ i H, i ≤ xs.length → Pv i H → SqL K H a xs) (hs : ∀ i x T H, xs[i]? = some x → H T = none → Pv i H → B (.ref T) (upd H T (.tup [.int (i : Nat), x])) (Pv (i + 1))) (hd : ∀ H, Pv xs.length H → Qd H) :
    ∃ W : Nat → Nat → Hp → Prop, (∃ m, W 0 m H0) ∧ ∀ i m H, W i m H → ((Ite K a).stop i H ∧ Qd H) ∨ ((Ite K a).go i H ∧ ∃ Nx : Hp → Prop, (∀ H', Nx H' → ∃ m', m' < m ∧ W (i + 1) m' H') ∧ ∀ x H', (Ite K a).yld i H x H' → B x H' Nx) := by
  refine ⟨fun i m H => m = xs.length - i ∧ i ≤ xs.length ∧ Pv i H, ⟨_, rfl, Nat.zero_le _, h0⟩, ?_⟩
  rintro i m H ⟨rfl, hi, p⟩
  have q := hl i H hi p
  by_cases hlt : i < xs.length
  · refine .inr ⟨⟨xs, xs[i], q, by simp [hlt]⟩, Pv (i + 1), fun H' p' => ⟨xs.length - (i + 1), by omega, rfl, hlt, p'⟩, fun x H' y => ?_⟩
    obtain ⟨T, z, rfl, hT, rfl, hz⟩ := y
    exact hs i z T _ (hz xs q) hT p
  · have e : i = xs.length := by omega
    subst e
    exact .inl ⟨⟨xs, q, Nat.le_refl _⟩, hd H p⟩
theorem enumT_loop {K : PySem.W.Frag} {a : Addr} {xs : List V} {Qd : Hp → Prop} {H0 : Hp} {B : V → Hp → (Hp → Prop) → Prop} (Pv : Nat → Hp → Prop) (h0 : Pv 0 H0) (hl : ∀ i H, i ≤ xs.length → Pv i H → SqT K H a xs) (hs : ∀ i x T H, xs[i]? = some x → H T = none → Pv i H → B (.ref T) (upd H T (.tup [.int (i : Nat), x])) (Pv (i + 1))) (hd : ∀ H, Pv xs.length H → Qd H) :
    ∃ W : Nat → Nat → Hp → Prop, (∃ m, W 0 m H0) ∧ ∀ i m H, W i m H → ((Itet K a).stop i H ∧ Qd H) ∨ ((Itet K a).go i H ∧ ∃ Nx : Hp → Prop, (∀ H', Nx H' → ∃ m', m' < m ∧ W (i + 1) m' H') ∧ ∀ x H', (Itet K a).yld i H x H' → B x H' Nx) := by
  refine ⟨fun i m H => m = xs.length - i ∧ i ≤ xs.length ∧ Pv i H, ⟨_, rfl, Nat.zero_le _, h0⟩, ?_⟩
  rintro i m H ⟨rfl, hi, p⟩
  have q := hl i H hi p
  by_cases hlt : i < xs.length
  · refine .inr ⟨⟨xs, xs[i], q, by simp [hlt]⟩, Pv (i + 1), fun H' p' => ⟨xs.length - (i + 1), by omega, rfl, hlt, p'⟩, fun x H' y => ?_⟩
    obtain ⟨T, z, rfl, hT, rfl, hz⟩ := y
    exact hs i z T _ (hz xs q) hT p
  · have e : i = xs.length := by omega
    subst e
    exact .inl ⟨⟨xs, q, rfl⟩, hd H p⟩
end D
namespace D
open PySem PySem.Spec PyProof.Rows L2
section
variable {X : Cx}
/-- tuple(list): the new object is known to have no dict -/
def rTupF (K : PySem.W.Frag) : List V → Hp → VK → Prop := fun xs H Q => ∃ p ys, xs = [.ref p] ∧ SqL K H p ys ∧ ∀ l o, H l = none → o.cls = .type "tuple" → o.dict = none → Q (.ref l) (upd H l (.frz o (.tup ys)))
theorem call_tupleF {K : PySem.W.Frag} (hK : X.K = K) : CallR X (.type "tuple") (rTupF K) := by
  subst hK
  intro pins s σ H xs us Q I r h
  obtain ⟨p, ys, rfl, hq, q⟩ := h
  obtain ⟨u, rfl, rx⟩ := vals1 r
  cases rx
  obtain ⟨its, r', pl, hz⟩ := I.list hq
  have hlen := r'.length
  refine call_tuple_list pl.isList (fun h' kp => ?_) (by simp only [List.size_toArray] <;> omega)
  have I1 : Inv X pins σ H { s with heap := h' } := I.kept (t' := s.toks) kp
  have I2 : Inv X pins σ (upd H h'.objs.size (.frz { cls := .type "tuple", data := .seq its.toArray } (.tup ys))) { s with heap := h'.push { cls := .type "tuple", data := .seq its.toArray } } :=
    I1.laid (t' := s.toks) (fun b o e => Heap.get?_push_of_some _ e) (Nat.le_refl _) (show ObjOk X.prog X.w _ _ _ (.frz _ (.tup ys)) from ⟨Heap.get?_push_size _ rfl, hz, its, r', IsTup.new _ _⟩)
  exact ⟨.ref h'.objs.size, _, I2, rfl, q _ _ (I1.hok.fresh (Nat.le_refl _)) rfl rfl⟩
/-- t[lo:hi], the cut known to its object -/
def rSlF (K : PySem.W.Frag) : V → Option Int → Option Int → Hp → VK → Prop := fun x lo hi H Q => ∃ a xs, x = .ref a ∧ SqT K H a xs ∧
  (HT.sIx xs.length 0 lo = 0 ∧ HT.sIx xs.length xs.length hi = xs.length → Q (.ref a) H) ∧ (¬ (HT.sIx xs.length 0 lo = 0 ∧ HT.sIx xs.length xs.length hi = xs.length) → ∀ p o, H p = none → o.cls = .type "tuple" → o.dict = none → Q (.ref p) (upd H p (.frz o (.tup (cutV xs lo hi)))))
theorem sl_tupF {K : PySem.W.Frag} (hK : X.K = K) : SlR X (rSlF K) := by
  subst hK
  rintro pins s σ H _ v vl vu lo hi sl Q I rx hs pl pu ⟨a, xs, rfl, reads, all, part⟩
  by_cases whole : HT.sIx xs.length 0 lo = 0 ∧ HT.sIx xs.length xs.length hi = xs.length
  · exact sl_tupA pins s σ H _ v vl vu lo hi sl Q I rx hs pl pu ⟨a, xs, rfl, reads, all, fun z => absurd whole z⟩
  · cases rx
    obtain ⟨its, vals, stands, small⟩ := I.tuple reads
    have size : its.toArray.size = xs.length := by rw [List.size_toArray]; exact vals.length.symm
    refine ⟨"tuple", _, PyProof.Rows.slot_tuple_getitem.lookup, stands.typeIs, HT.getItem_tuple_cut stands hs pl pu (by rw [size]; exact whole) ?_ (by rw [size]; exact small)⟩
    rw [size]
    have cut := (vals.drop (HT.sIx xs.length 0 lo)).take (HT.sIx xs.length xs.length hi - HT.sIx xs.length 0 lo)
    let ob : Obj := { cls := .type "tuple", data := .seq ((its.drop (HT.sIx xs.length 0 lo)).take (HT.sIx xs.length xs.length hi - HT.sIx xs.length 0 lo)).toArray }
    have good : ObjOk X.prog X.w (upd H s.heap.objs.size (.frz ob (.tup (cutV xs lo hi)))) (s.heap.push ob) s.heap.objs.size (.frz ob (.tup (cutV xs lo hi))) := ⟨Heap.get?_push_size _ rfl, Nat.le_trans (cutV_length xs lo hi) small, _, cut, IsTup.new _ _⟩
    exact ⟨.ref s.heap.objs.size, _, I.laid (t' := s.toks) (fun b ob e => Heap.get?_push_of_some _ e) (Nat.le_refl _) good, rfl, part whole _ ob (I.hok.fresh (Nat.le_refl _)) rfl rfl⟩
def tyTup (x : V) (H : Hp) : Prop := ∃ a o u, x = .ref a ∧ H a = some (.frz o u) ∧ o.cls = .type "tuple" ∧ o.dict = none
theorem ty_tup : TyOk X "tuple" tyTup := by
  intro pins σ H s x v I r h
  obtain ⟨a, o, u, rfl, e, hc, hd⟩ := h
  cases r
  obtain ⟨e2, _⟩ := I.hok a _ e
  refine ⟨⟨o, e2, hc⟩, fun b eb => ?_⟩
  cases eb
  exact ⟨o, e2, hd⟩
end
/-- rows -/
def RowAt (M : Ms) (H : Hp) (v : V) (ns : List Int) : Prop := ∃ a, v = .ref a ∧ ¬ M a ∧ Rd H a (.tup (ns.map V.int))
def RowF (M : Ms) (H : Hp) (v : V) (ns : List Int) : Prop := ∃ a o, v = .ref a ∧ ¬ M a ∧ H a = some (.frz o (.tup (ns.map V.int))) ∧ o.cls = .type "tuple" ∧ o.dict = none
theorem RowF.row {M : Ms} {H : Hp} {v : V} {ns : List Int} (h : RowF M H v ns) : RowAt M H v ns := by
  obtain ⟨a, o, e, n, ha, _⟩ := h
  exact ⟨a, e, n, .inr ⟨o, ha⟩⟩
theorem RowAt.sx {M : Ms} {H H' : Hp} {v : V} {ns : List Int} (h : RowAt M H v ns) (s : Sx M H H') : RowAt M H' v ns := by
  obtain ⟨a, e, n, ha⟩ := h
  exact ⟨a, e, n, sx_rd s n ha⟩
theorem RowF.sx {M : Ms} {H H' : Hp} {v : V} {ns : List Int} (h : RowF M H v ns) (s : Sx M H H') : RowF M H' v ns := by
  obtain ⟨a, o, e, n, ha, r⟩ := h
  exact ⟨a, o, e, n, s _ _ n ha, r⟩
theorem RowAt.less {M N : Ms} {H : Hp} {v : V} {ns : List Int} (h : RowAt M H v ns) (f : ∀ a, N a → M a) : RowAt N H v ns := by
  obtain ⟨a, e, n, ha⟩ := h
  exact ⟨a, e, fun z => n (f a z), ha⟩
theorem RowF.less {M N : Ms} {H : Hp} {v : V} {ns : List Int} (h : RowF M H v ns) (f : ∀ a, N a → M a) : RowF N H v ns := by
  obtain ⟨a, o, e, n, ha⟩ := h
  exact ⟨a, o, e, fun z => n (f a z), ha⟩
theorem RowF.fresh {M : Ms} {H : Hp} {v : V} {ns : List Int} {p : Addr} (hp : H p = none) (h : RowF M H v ns) : RowF (also M p) H v ns := by
  obtain ⟨a, o, e, n, ha, r⟩ := h
  refine ⟨a, o, e, fun z => ?_, ha, r⟩
  rcases z with z | z
  · exact n z
  · rw [show a = p from z, hp] at ha
    cases ha
end D

namespace D
open PySem PySem.Spec PyProof.Rows L2
theorem hu65 {A : Around} {k : Nat} (hr : Room k A) : A.units + 65 < cLine := by have := hr.un; omega
/-! ### idents and matches -/
abbrev IP := Int × Int
def idp (ws : List Int) : List IP := ws.mapIdx fun i w => (w, (((ws.take i).count w : Nat) : Int))
theorem idp_len (ws : List Int) : (idp ws).length = ws.length := List.length_mapIdx
theorem idp_at {ws : List Int} {i : Nat} {w : Int} (h : ws[i]? = some w) : (idp ws)[i]? = some (w, (((ws.take i).count w : Nat) : Int)) := by
  unfold idp
  rw [List.getElem?_mapIdx, h]
  rfl
theorem nodup_get {α : Type} {l : List α} : l.Nodup ↔ ∀ i j : Nat, i < j → j < l.length → l[i]? ≠ l[j]? := by
  unfold List.Nodup
  rw [List.pairwise_iff_getElem]
  constructor
  · intro h i j hij hj e
    rw [List.getElem?_eq_getElem (Nat.lt_trans hij hj), List.getElem?_eq_getElem hj] at e
    exact h i j (Nat.lt_trans hij hj) hj hij (Option.some.inj e)
  · intro h i j hi hj hij e
    exact h i j hij hj (by rw [List.getElem?_eq_getElem hi, List.getElem?_eq_getElem hj, e])
theorem idp_nodup (ws : List Int) : (idp ws).Nodup := by
  rw [nodup_get]
  intro i j hij hj
  have hj' : j < ws.length := by rw [idp_len] at hj; exact hj
  have hi' : i < ws.length := Nat.lt_trans hij hj'
  have ei : ws[i]? = some ws[i] := List.getElem?_eq_getElem hi'
  have ej : ws[j]? = some ws[j] := List.getElem?_eq_getElem hj'
  rw [idp_at ei, idp_at ej]
  intro e
  have e' := Option.some.inj e
  have e1 : ws[i] = ws[j] := congrArg Prod.fst e'
  have e2 : (((ws.take i).count ws[i] : Nat) : Int) = ((ws.take j).count ws[j] : Nat) := congrArg Prod.snd e'
  have e3 : (ws.take i).count ws[i] = (ws.take j).count ws[j] := Int.ofNat.inj e2
  rw [← e1] at e3
  have s1 : List.Sublist ((ws.take (i + 1))) (ws.take j) := by
    have : ws.take (i + 1) = (ws.take j).take (i + 1) := by rw [List.take_take]; congr 1; omega
    rw [this]
    exact List.take_sublist _ _
  have c1 := s1.count_le ws[i]
  rw [List.take_add_one, ei, List.count_append] at c1
  have : List.count ws[i] (some ws[i]).toList = 1 := by simp
  omega
def pos (B : List IP) (x : IP) : Option Nat := if x ∈ B then some (B.idxOf x) else none
theorem pos_snoc {B : List IP} {b : IP} (hb : b ∉ B) (x : IP) : pos (B ++ [b]) x = if x = b then some B.length else pos B x := by
  unfold pos
  by_cases e : x = b
  · subst e
    rw [if_pos rfl, if_pos (by simp), List.idxOf_append, if_neg hb]
    simp
  · rw [if_neg e]
    by_cases m : x ∈ B
    · rw [if_pos m, if_pos (by simp [m]), List.idxOf_append, if_pos m]
    · rw [if_neg m, if_neg (by simp [m, e])]
theorem pos_take {B : List IP} (hB : B.Nodup) {i : Nat} {b : IP} (h : B[i]? = some b) (x : IP) : pos (B.take (i + 1)) x = if x = b then some i else pos (B.take i) x := by
  have hi : i < B.length := (List.getElem?_eq_some_iff.mp h).1
  have hb : b ∉ B.take i := by
    intro hm
    obtain ⟨j, hj⟩ := List.mem_iff_getElem?.mp hm
    have hji : j < i := by
      have := (List.getElem?_eq_some_iff.mp hj).1
      rw [List.length_take] at this
      omega
    rw [List.getElem?_take_of_lt hji] at hj
    exact (nodup_get.mp hB) j i hji hi (hj.trans h.symm)
  have e : B.take (i + 1) = B.take i ++ [b] := by rw [List.take_add_one, h]; rfl
  have := pos_snoc hb x
  rw [← e, List.length_take, Nat.min_eq_left (Nat.le_of_lt hi)] at this
  exact this
theorem pos_lt {B : List IP} {x : IP} {i : Nat} (h : pos B x = some i) : i < B.length ∧ B[i]? = some x := by
  unfold pos at h
  split at h
  · rename_i m
    cases h
    have hl := List.idxOf_lt_length_of_mem m
    exact ⟨hl, by rw [List.getElem?_eq_getElem hl, List.getElem_idxOf hl]⟩
  · cases h
/-- the key of an ident in a dict -/
def kk (x : IP) : List Key := [.inl x.1, .inl x.2]
theorem kk_inj {x y : IP} (h : kk x = kk y) : x = y := by
  have h' : [(Sum.inl x.1 : Key), .inl x.2] = [.inl y.1, .inl y.2] := h
  injection h' with h1 h2
  injection h2 with h2 _
  exact Prod.ext (Sum.inl.inj h1) (Sum.inl.inj h2)
/-- what a dict tells of idents -/
def Tells (kvs : List (List Key × V)) (B : List IP) : Prop := ∀ x, valV kvs (kk x) = (pos B x).map fun (i : Nat) => V.int (i : Int)
theorem tells_nil : Tells [] [] := fun x => by
  unfold pos
  rw [if_neg (by simp)]
  rfl
theorem tells_put {kvs : List (List Key × V)} {B : List IP} (hB : B.Nodup) {i : Nat} {b : IP} (h : B[i]? = some b) (t : Tells kvs (B.take i)) : Tells (putK kvs (kk b) (.int (i : Nat))) (B.take (i + 1)) := fun x => by
  rw [valV_put, pos_take hB h]
  by_cases e : x = b
  · subst e
    rw [if_pos rfl, if_pos rfl]
    rfl
  · rw [if_neg (fun z => e (kk_inj z)), if_neg e]
    exact t x
def mst (B : List IP) (x : IP) (j : Nat) : List IP := match pos B x with
  | some i => [((i : Int), (j : Int))]
  | none => []
def mt (B N : List IP) : List IP := (N.mapIdx fun j x => mst B x j).flatten
theorem mt_step (B : List IP) {N : List IP} {j : Nat} {x : IP} (h : N[j]? = some x) : mt B (N.take (j + 1)) = mt B (N.take j) ++ mst B x j := by
  have hj : j < N.length := (List.getElem?_eq_some_iff.mp h).1
  unfold mt
  rw [List.take_add_one, h]
  show (List.mapIdx _ (List.take j N ++ [x])).flatten = _
  rw [List.mapIdx_append, List.flatten_append]
  congr 1
  rw [List.length_take, Nat.min_eq_left (Nat.le_of_lt hj)]
  show [mst B x (0 + j)].flatten = _
  rw [Nat.zero_add]
  simp
theorem mst_take {B : List IP} (hB : B.Nodup) {i : Nat} {b : IP} (h : B[i]? = some b) (x : IP) (j : Nat) : mst (B.take (i + 1)) x j = mst (B.take i) x j ++ if b = x then [((i : Int), (j : Int))] else [] := by
  have hn : b = x → pos (B.take i) x = none := fun e => by
    subst e
    unfold pos
    rw [if_neg]
    intro hm
    obtain ⟨k, hk⟩ := List.mem_iff_getElem?.mp hm
    have hji : k < i := by
      have := (List.getElem?_eq_some_iff.mp hk).1
      rw [List.length_take] at this
      omega
    rw [List.getElem?_take_of_lt hji] at hk
    exact (nodup_get.mp hB) k i hji (List.getElem?_eq_some_iff.mp h).1 (hk.trans h.symm)
  unfold mst
  rw [pos_take hB h]
  by_cases e : x = b
  · rw [if_pos e, hn e.symm, if_pos e.symm]
    rfl
  · rw [if_neg e, if_neg (fun z => e z.symm), List.append_nil]
theorem mst_nil (x : IP) (j : Nat) : mst [] x j = [] := by
  unfold mst pos
  rw [if_neg (by simp)]
theorem mst_mem {B : List IP} {x : IP} {j : Nat} {p : IP} (h : p ∈ mst B x j) : ∃ i, i < B.length ∧ p = ((i : Int), (j : Int)) := by
  unfold mst at h
  split at h
  · rename_i i e
    exact ⟨i, (pos_lt e).1, List.mem_singleton.mp h⟩
  · exact nomatch h
theorem mt_mem {B N : List IP} {p : IP} (h : p ∈ mt B N) : ∃ i j : Nat, i < B.length ∧ j < N.length ∧ p = ((i : Int), (j : Int)) := by
  unfold mt at h
  obtain ⟨l, hl, hp⟩ := List.mem_flatten.mp h
  obtain ⟨j, hj, rfl⟩ := List.mem_mapIdx.mp hl
  obtain ⟨i, hi, e⟩ := mst_mem hp
  exact ⟨i, j, hi, hj, e⟩
theorem mst_len (B : List IP) (x : IP) (j : Nat) : (mst B x j).length ≤ 1 := by
  unfold mst
  split <;> simp
theorem mt_len (B N : List IP) : (mt B N).length ≤ N.length := by
  suffices h : ∀ n, n ≤ N.length → (mt B (N.take n)).length ≤ n by
    have := h N.length (Nat.le_refl _)
    rw [List.take_length] at this
    exact this
  intro n
  induction n with
  | zero => intro _; simp [mt]
  | succ n ih =>
    intro h
    rw [mt_step B (List.getElem?_eq_getElem (by omega : n < N.length)), List.length_append]
    have := ih (by omega)
    have := mst_len B N[n] n
    omega
/-- slips -/
def atI0 (l : List Int) (i : Int) : Int := l.getD i.toNat 0
theorem atI0_nat {l : List Int} {i : Nat} {x : Int} (h : l[i]? = some x) : atI0 l (i : Int) = x := by
  unfold atI0
  rw [Int.toNat_natCast, List.getD_eq_getElem?_getD, h]
  rfl
def sst (o n : List Int) (p : IP) : List IP := if atI0 o p.1 = atI0 n p.2 then [] else [(atI0 o p.1, atI0 n p.2)]
def slp (o n : List Int) (ms : List IP) : List IP := (ms.map (sst o n)).flatten
theorem slp_step (o n : List Int) {ms : List IP} {j : Nat} {p : IP} (h : ms[j]? = some p) : slp o n (ms.take (j + 1)) = slp o n (ms.take j) ++ sst o n p := by
  unfold slp
  rw [List.take_add_one, h, List.map_append, List.flatten_append]
  simp
theorem slp_len (o n : List Int) : ∀ ms : List IP, (slp o n ms).length ≤ ms.length
  | [] => Nat.le_refl _
  | p :: r => by
    have h1 := slp_len o n r
    have h2 : (sst o n p).length ≤ 1 := by unfold sst; split <;> simp
    show ((sst o n p) ++ slp o n r).length ≤ r.length + 1
    rw [List.length_append]
    omega
/-- lost items -/
def lst1 (o : List Int) (ms : List IP) (x : Int) (j : Nat) : List Int := if x ∈ o ∧ (((o.idxOf x : Nat) : Int), (j : Int)) ∉ ms then [x] else []
def lsts (o n : List Int) (ms : List IP) : List Int := (n.mapIdx fun j x => lst1 o ms x j).flatten
theorem lsts_step (o : List Int) (ms : List IP) {n : List Int} {j : Nat} {x : Int} (h : n[j]? = some x) : lsts o (n.take (j + 1)) ms = lsts o (n.take j) ms ++ lst1 o ms x j := by
  have hj : j < n.length := (List.getElem?_eq_some_iff.mp h).1
  unfold lsts
  rw [List.take_add_one, h]
  show (List.mapIdx _ (List.take j n ++ [x])).flatten = _
  rw [List.mapIdx_append, List.flatten_append]
  congr 1
  rw [List.length_take, Nat.min_eq_left (Nat.le_of_lt hj)]
  show [lst1 o ms x (0 + j)].flatten = _
  rw [Nat.zero_add]
  simp
theorem lsts_len (o n : List Int) (ms : List IP) : (lsts o n ms).length ≤ n.length := by
  suffices h : ∀ k, k ≤ n.length → (lsts o (n.take k) ms).length ≤ k by
    have := h n.length (Nat.le_refl _)
    rw [List.take_length] at this
    exact this
  intro k
  induction k with
  | zero => intro _; simp [lsts]
  | succ k ih =>
    intro h
    rw [lsts_step o ms (List.getElem?_eq_getElem (by omega : k < n.length)), List.length_append]
    have := ih (by omega)
    have : (lst1 o ms n[k] k).length ≤ 1 := by unfold lst1; split <;> simp
    omega
/-- deep facts of pairs -/
theorem pD_lay (p : IP) : (pD p).canLay0 = true := by simp [pD, PyData.canLay0, PyData.canLayAll0]
theorem pD_depth (p : IP) : (pD p).depth = 1 := by simp [pD, PyData.depth, PyData.depthAll]
theorem pDs_lay : ∀ ps : List IP, PyData.canLayAll0 (ps.map pD) = true
  | [] => rfl
  | p :: r => by simp [PyData.canLayAll0, pD_lay p, pDs_lay r]
theorem pDs_depth : ∀ ps : List IP, PyData.depthAll (ps.map pD) ≤ 1
  | [] => Nat.zero_le _
  | p :: r => by
    have := pDs_depth r
    simp only [List.map_cons, PyData.depthAll, pD_depth p]
    omega
theorem pD_shaped (p : IP) : SeqAt.shaped (pD p) = true := by
  refine Bool.and_eq_true_iff.mpr ⟨pD_lay p, decide_eq_true ?_⟩
  rw [pD_depth]
  decide
theorem pDs_shapedL (ps : List IP) : SeqAt.shaped (.list (ps.map pD)) = true := by
  refine Bool.and_eq_true_iff.mpr ⟨by simp [PyData.canLay0, pDs_lay ps], decide_eq_true ?_⟩
  have := pDs_depth ps
  simp only [PyData.depth]
  omega
theorem pDs_shapedT (ps : List IP) : SeqAt.shaped (.tuple (ps.map pD)) = true := by
  refine Bool.and_eq_true_iff.mpr ⟨by simp [PyData.canLay0, pDs_lay ps], decide_eq_true ?_⟩
  have := pDs_depth ps
  simp only [PyData.depth]
  omega
theorem pD_eqv (p q : IP) : PyData.eqv (pD p) (pD q) = decide (p = q) := by
  simp only [pD, PyData.eqv, PyData.eqvAll, Bool.and_true]
  rw [Bool.eq_iff_iff]
  simp only [Bool.and_eq_true, decide_eq_true_iff, beq_iff_eq, Prod.ext_iff]
theorem pD_any (ps : List IP) (p : IP) : ((ps.map pD).any fun z => PyData.eqv z (pD p)) = decide (p ∈ ps) := by
  rw [List.any_map, Bool.eq_iff_iff, List.any_eq_true, decide_eq_true_iff]
  constructor
  · rintro ⟨x, hx, e⟩
    have e' : PyData.eqv (pD x) (pD p) = true := e
    rw [pD_eqv, decide_eq_true_iff] at e'
    rw [← e']
    exact hx
  · intro h
    exact ⟨p, h, by show PyData.eqv (pD p) (pD p) = true; rw [pD_eqv]; exact decide_eq_true rfl⟩
end D
namespace D
open PySem PySem.Spec PyProof.Rows L2
/-! ### a list of data that grows beside -/
def Acc (M : Ms) (H : Hp) (D : Addr) (H' : Hp) (ys : List PyData) : Prop := H D = none ∧ Same H H' ∧ ∃ acc, H' D = some (.lst acc) ∧ RpAll (also M D) H' acc ys
theorem Acc.new {M : Ms} {H : Hp} {D : Addr} (hD : H D = none) : Acc M H D (upd H D (.lst [])) [] := ⟨hD, same_new hD, [], upd_same, .nil⟩
theorem Acc.keep {M : Ms} {H H1 H2 : Hp} {D : Addr} {ys : List PyData} (h : Acc M H D H1 ys) (s : Same H1 H2) : Acc M H D H2 ys := by
  obtain ⟨hD, s0, acc, e, r⟩ := h
  exact ⟨hD, s0.trans s, acc, s _ _ e, r.sx (Sx.same s)⟩
theorem Acc.same {M : Ms} {H H1 : Hp} {D : Addr} {ys : List PyData} (h : Acc M H D H1 ys) : Same H H1 := h.2.1
theorem Acc.at {M : Ms} {H H1 : Hp} {D : Addr} {ys : List PyData} (h : Acc M H D H1 ys) : ∃ acc, H1 D = some (.lst acc) ∧ acc.length = ys.length := by
  obtain ⟨hD, s0, acc, e, r⟩ := h
  exact ⟨acc, e, r.length⟩
theorem Acc.put {M : Ms} {H H1 : Hp} {D : Addr} {ys : List PyData} {v : V} {y : PyData} (h : Acc M H D H1 ys) (r : Rp (also M D) H1 v y) (hl : ys.length ≤ 1000000) : ∃ acc, H1 D = some (.lst acc) ∧ acc.length < sizeLine ∧ Acc M H D (upd H1 D (.lst (acc ++ [v]))) (ys ++ [y]) := by
  obtain ⟨hD, s0, acc, e, ra⟩ := h
  refine ⟨acc, e, small1000000 (by rw [ra.length]; exact hl), hD, same_put s0 hD, acc ++ [v], upd_same, ?_⟩
  exact (ra.append (.one r)).sx (Sx.put (.inr rfl))
theorem Acc.mk {M : Ms} {H H1 : Hp} {D : Addr} {ys : List PyData} (h : Acc M H D H1 ys) (hM : Mk M H) : Mk (also M D) H1 := by
  obtain ⟨hD, s0, acc, e, r⟩ := h
  exact (hM.gr (Gr.same s0)).also (ne_none e)
theorem Acc.fin {M : Ms} {H H1 : Hp} {D : Addr} {ys : List PyData} (h : Acc M H D H1 ys) (hM : Mk M H) : Ld M H1 D ys := by
  obtain ⟨hD, s0, acc, e, r⟩ := h
  exact ⟨hM.out hD, acc, e, r.less also_le⟩
theorem Acc.rp {M : Ms} {H H1 : Hp} {D : Addr} {ys : List PyData} (h : Acc M H D H1 ys) (hM : Mk M H) : Rp M H1 (.ref D) (.list ys) := (h.fin hM).rp
/-- what stood ahead is read in the same way beside the list -/
theorem Acc.old {M : Ms} {H H1 : Hp} {D : Addr} {ys : List PyData} {v : V} {d : PyData} (h : Acc M H D H1 ys) (r : Rp M H v d) : Rp (also M D) H1 v d := (r.fresh h.1).sx (Sx.same h.2.1)
theorem Acc.oldM {M : Ms} {H H1 : Hp} {D : Addr} {ys : List PyData} {v : V} {d : PyData} (h : Acc M H D H1 ys) (r : Rp M H v d) : Rp M H1 v d := r.sx (Sx.same h.2.1)
end D
namespace D
open PySem PySem.Spec PyProof.Rows L2
theorem Rp.newT {M : Ms} {H : Hp} {p : Addr} {us : List V} {ds : List PyData} (hM : Mk M H) (hp : H p = none) (r : RpAll M H us ds) : Rp M (upd H p (.tup us)) (.ref p) (.tuple ds) := .tup (hM.out hp) (.inl upd_same) (r.sx (Sx.new hp))
theorem Rp.newL {M : Ms} {H : Hp} {p : Addr} {us : List V} {ds : List PyData} (hM : Mk M H) (hp : H p = none) (r : RpAll M H us ds) : Rp M (upd H p (.lst us)) (.ref p) (.list ds) := .lst (hM.out hp) (.inl upd_same) (r.sx (Sx.new hp))
theorem Mk.new {M : Ms} {H : Hp} {p : Addr} {o : HO} (hM : Mk M H) : Mk M (upd H p o) := hM.gr Gr.upd
def unI : PyData → Int
  | .int i => i
  | _ => 0
theorem perm_ints {es : List PyData} {l : List Int} (h : es.Perm (l.map PyData.int)) : ∃ ns : List Int, ns.Perm l ∧ es = ns.map PyData.int := by
  refine ⟨es.map unI, ?_, ?_⟩
  · have h1 := h.map unI
    rw [List.map_map] at h1
    have e : l.map (unI ∘ PyData.int) = l := by
      have : (unI ∘ PyData.int) = id := rfl
      rw [this, List.map_id]
    rw [e] at h1
    exact h1
  · rw [List.map_map]
    have e : ∀ x ∈ es, (PyData.int ∘ unI) x = x := fun x hx => by
      obtain ⟨i, _, rfl⟩ := List.mem_map.mp (h.mem_iff.mp hx)
      rfl
    exact (List.map_id es).symm.trans (List.map_congr_left fun x hx => (e x hx).symm)
def ten : List Int := [0, 1, 2, 3, 4, 5, 6, 7, 8, 9]
theorem ten_take (n : Nat) : (ten.take n).Nodup ∧ ∀ x ∈ ten.take n, 0 ≤ x ∧ x ≤ 9 :=
  ⟨(show ten.Nodup by decide).sublist (List.take_sublist n ten), fun x hx => (show ∀ x ∈ ten, 0 ≤ x ∧ x ≤ 9 by decide) x (List.mem_of_mem_take hx)⟩
def mxd (m : Nat) (s : Fm) : Nat := max m s.dep
theorem FmAt.two {M : Ms} {H : Hp} {f : Fm} {xs : List V} (h : FmAt M H f xs) : (∃ y z, xs = [.str y, z] ∧ (y = sIs ∨ y = sGet) ∧ f.dep = 1) ∨ ∃ y r, xs = .str y :: r ∧ r ≠ [] ∧ y ≠ sIs ∧ y ≠ sGet ∧ RpAll M H r (f.subs.map Fm.enc) ∧ f.dep = f.subs.foldl mxd 0 + 1 := by
  cases h with
  | is n => exact .inl ⟨_, _, rfl, .inl rfl, rfl⟩
  | get x => exact .inl ⟨_, _, rfl, .inr rfl, rfl⟩
  | @sum f g u w a b =>
    refine .inr ⟨_, _, rfl, by simp, by decide +kernel, by decide +kernel, .cons a (.one b), ?_⟩
    show max f.dep g.dep + 1 = max (max 0 f.dep) g.dep + 1
    omega
  | @same f g u w a b =>
    refine .inr ⟨_, _, rfl, by simp, by decide +kernel, by decide +kernel, .cons a (.one b), ?_⟩
    show max f.dep g.dep + 1 = max (max 0 f.dep) g.dep + 1
    omega
  | @pick f g k u w z a b c =>
    refine .inr ⟨_, _, rfl, by simp, by decide +kernel, by decide +kernel, .cons a (.cons b (.one c)), ?_⟩
    show max f.dep (max g.dep k.dep) + 1 = max (max (max 0 f.dep) g.dep) k.dep + 1
    omega
theorem ints_mem {l : List Int} (h : ∀ n ∈ l, 0 ≤ n ∧ n ≤ 9) {v : V} (hv : v ∈ l.map V.int) : ∃ n, v = .int n ∧ 0 ≤ n ∧ n ≤ 9 := by
  obtain ⟨n, hn, rfl⟩ := List.mem_map.mp hv
  exact ⟨n, rfl, h n hn⟩
/-- a draw of a row -/
def DrR (K : PySem.W.Frag) (M : Ms) (b : Addr) (H : Hp) (R : List Int → Prop) (Q : VK) : Prop := ∀ v H' ns, Sx (one b) H H' → Gr H H' → Bag K M H' b → RowF M H' v ns → R ns → Q v H'
end D

namespace D
open PySem PySem.Spec PyProof.Rows L2
/-! ### rows that a key mixes up -/
theorem flat_ne {α β : Type} (f : α → List β) (l : List α) : (l.map f).flatten ≠ [] ↔ ∃ x ∈ l, f x ≠ [] := by
  induction l with
  | nil => simp
  | cons a r ih =>
    rw [List.map_cons, List.flatten_cons]
    constructor
    · intro h
      by_cases c : f a = []
      · rw [c, List.nil_append] at h
        obtain ⟨x, hx, e⟩ := ih.mp h
        exact ⟨x, List.mem_cons_of_mem _ hx, e⟩
      · exact ⟨a, List.mem_cons_self, c⟩
    · rintro ⟨x, hx, e⟩ z
      obtain ⟨z1, z2⟩ := List.append_eq_nil_iff.mp z
      rcases List.mem_cons.mp hx with rfl | hx
      · exact e z1
      · exact ih.mpr ⟨x, hx, e⟩ z2
theorem flat_ne_idx {α β : Type} (f : Nat → α → List β) (l : List α) : (l.mapIdx f).flatten ≠ [] ↔ ∃ (j : Nat) (x : α), l[j]? = some x ∧ f j x ≠ [] := by
  have h := flat_ne (fun y => y) (l.mapIdx f)
  rw [List.map_id'] at h
  rw [h]
  constructor
  · rintro ⟨y, hy, e⟩
    obtain ⟨j, hj⟩ := List.mem_iff_getElem?.mp hy
    rw [List.getElem?_mapIdx] at hj
    obtain ⟨x, hx, rfl⟩ := Option.map_eq_some_iff.mp hj
    exact ⟨j, x, hx, e⟩
  · rintro ⟨j, x, hx, e⟩
    exact ⟨f j x, List.mem_iff_getElem?.mpr ⟨j, by rw [List.getElem?_mapIdx, hx]; rfl⟩, e⟩
theorem pos_of {B : List IP} (hB : B.Nodup) {i : Nat} {x : IP} (h : B[i]? = some x) : pos B x = some i := by
  have hm : x ∈ B := List.mem_of_getElem? h
  have hi := (List.getElem?_eq_some_iff.mp h).1
  have h2 := List.idxOf_lt_length_of_mem hm
  have e2 : B[B.idxOf x]? = some x := by rw [List.getElem?_eq_getElem h2, List.getElem_idxOf h2]
  unfold pos
  rw [if_pos hm]
  rcases Nat.lt_trichotomy (B.idxOf x) i with c | c | c
  · exact absurd (e2.trans h.symm) (nodup_get.mp hB _ _ c hi)
  · rw [c]
  · exact absurd (h.trans e2.symm) (nodup_get.mp hB _ _ c h2)
theorem mem_mt {B N : List IP} (hB : B.Nodup) (i j : Nat) : ((i : Int), (j : Int)) ∈ mt B N ↔ ∃ x, B[i]? = some x ∧ N[j]? = some x := by
  constructor
  · intro h
    unfold mt at h
    obtain ⟨l, hl, hp⟩ := List.mem_flatten.mp h
    obtain ⟨k, hk, rfl⟩ := List.mem_mapIdx.mp hl
    unfold mst at hp
    cases e : pos B N[k] with
    | none => rw [e] at hp; exact nomatch hp
    | some m =>
      rw [e] at hp
      have hp' := List.mem_singleton.mp hp
      injection hp' with h1 h2
      have h1' : i = m := Int.ofNat.inj h1
      have h2' : j = k := Int.ofNat.inj h2
      subst h1' h2'
      exact ⟨_, (pos_lt e).2, List.getElem?_eq_getElem hk⟩
  · rintro ⟨x, h1, h2⟩
    unfold mt
    refine List.mem_flatten.mpr ⟨mst B x j, List.mem_iff_getElem?.mpr ⟨j, by rw [List.getElem?_mapIdx, h2]; rfl⟩, ?_⟩
    unfold mst
    rw [pos_of hB h1]
    exact List.mem_singleton.mpr rfl
def badB (o n : List Int) (B N : List IP) : Bool := !(slp o n (mt B N)).isEmpty || !(lsts o n (mt B N)).isEmpty
theorem idx_of {n : List Int} (h : n.Nodup) {i : Nat} {x : Int} (e : n[i]? = some x) : n.idxOf x = i := by
  have hi := (List.getElem?_eq_some_iff.mp e).1
  have hx : x ∈ n := List.mem_of_getElem? e
  have h2 := List.idxOf_lt_length_of_mem hx
  have e2 : n[n.idxOf x]? = some x := by rw [List.getElem?_eq_getElem h2, List.getElem_idxOf h2]
  rcases Nat.lt_trichotomy (n.idxOf x) i with c | c | c
  · exact absurd (e2.trans e.symm) (nodup_get.mp h _ _ c hi)
  · exact c
  · exact absurd (e.trans e2.symm) (nodup_get.mp h _ _ c h2)
theorem bad_iff {o n : List Int} {B N : List IP} (ho : o.Nodup) (hB : B.Nodup) (lB : B.length = o.length) (lN : N.length = n.length) :
    badB o n B N = true ↔ ∃ (i j : Nat) (x y : Int) (u v : IP), o[i]? = some x ∧ n[j]? = some y ∧ B[i]? = some u ∧ N[j]? = some v ∧ decide (u = v) ≠ decide (x = y) := by
  have e1 : badB o n B N = true ↔ (slp o n (mt B N) ≠ [] ∨ lsts o n (mt B N) ≠ []) := by
    unfold badB
    rw [Bool.or_eq_true]
    constructor
    · rintro (h | h)
      · left; intro z; rw [z] at h; exact nomatch h
      · right; intro z; rw [z] at h; exact nomatch h
    · rintro (h | h)
      · left; cases e : slp o n (mt B N) with
        | nil => exact absurd e h
        | cons a r => rfl
      · right; cases e : lsts o n (mt B N) with
        | nil => exact absurd e h
        | cons a r => rfl
  rw [e1]
  have at_ : ∀ {i : Nat}, i < o.length → ∃ u, B[i]? = some u := fun {i} h => ⟨B[i]'(by omega), List.getElem?_eq_getElem _⟩
  constructor
  · rintro (h | h)
    · obtain ⟨p, hp, e⟩ := (flat_ne (sst o n) (mt B N)).mp h
      obtain ⟨i, j, hi, hj, rfl⟩ := mt_mem hp
      obtain ⟨w, h1, h2⟩ := (mem_mt hB i j).mp hp
      have x1 : o[i]? = some (o[i]'(by omega)) := List.getElem?_eq_getElem _
      have x2 : n[j]? = some (n[j]'(by omega)) := List.getElem?_eq_getElem _
      refine ⟨i, j, _, _, w, w, x1, x2, h1, h2, ?_⟩
      rw [decide_eq_true rfl]
      intro z
      have z' := of_decide_eq_true z.symm
      apply e
      unfold sst
      rw [atI0_nat x1, atI0_nat x2, if_pos z']
    · obtain ⟨j, x, hx, e⟩ := (flat_ne_idx (fun j x => lst1 o (mt B N) x j) n).mp h
      have hc : x ∈ o ∧ (((o.idxOf x : Nat) : Int), (j : Int)) ∉ mt B N := by
        by_cases c : x ∈ o ∧ (((o.idxOf x : Nat) : Int), (j : Int)) ∉ mt B N
        · exact c
        · exact absurd (if_neg c) e
      have hix := List.idxOf_lt_length_of_mem hc.1
      have hj := (List.getElem?_eq_some_iff.mp hx).1
      obtain ⟨u, hu⟩ := at_ hix
      have hv : N[j]? = some (N[j]'(by omega)) := List.getElem?_eq_getElem _
      refine ⟨o.idxOf x, j, x, x, u, _, by rw [List.getElem?_eq_getElem hix, List.getElem_idxOf hix], hx, hu, hv, ?_⟩
      rw [decide_eq_true (show x = x from rfl)]
      intro z
      have z' := of_decide_eq_true z
      exact hc.2 ((mem_mt hB _ j).mpr ⟨u, hu, by rw [hv, z']⟩)
  · rintro ⟨i, j, x, y, u, v, hx, hy, hu, hv, hne⟩
    by_cases c : u = v
    · left
      subst c
      have hp : ((i : Int), (j : Int)) ∈ mt B N := (mem_mt hB i j).mpr ⟨u, hu, hv⟩
      refine (flat_ne (sst o n) (mt B N)).mpr ⟨_, hp, ?_⟩
      unfold sst
      rw [atI0_nat hx, atI0_nat hy, if_neg]
      · simp
      · intro z
        apply hne
        rw [decide_eq_true rfl, decide_eq_true z]
    · have xy : x = y := by
        by_cases z : x = y
        · exact z
        · exact absurd (by rw [decide_eq_false c, decide_eq_false z]) hne
      subst xy
      right
      refine (flat_ne_idx (fun j x => lst1 o (mt B N) x j) n).mpr ⟨j, x, hy, ?_⟩
      have hm : x ∈ o := List.mem_of_getElem? hx
      show lst1 o (mt B N) x j ≠ []
      unfold lst1
      rw [if_pos]
      · simp
      · refine ⟨hm, fun z => ?_⟩
        rw [idx_of ho hx] at z
        obtain ⟨w, h1, h2⟩ := (mem_mt hB i j).mp z
        exact c ((Option.some.inj (hu.symm.trans h1)).trans (Option.some.inj (h2.symm.trans hv)))
end D

namespace D
open PySem PySem.Spec PyProof.Rows L2
section
variable {X : Cx} {C g : Addr} {n : Nat} {CX : CXT} {sp : Sp} {E : XK} {fd : FuncData} {ps : List Str}
theorem room_in1 {A : Around} (r : Room (n + 1) A) : Room n A.in1 := ⟨r.hd, by have := r.dp; show A.depth + 3 * n + 5 < _; omega, by have := r.un; show A.units + 1 + 16 * n + 200 < _; omega⟩
/-- a def is run one step in -/
theorem run_in1 {pins : List (Addr × Obj)} {σ : L2.St} {H : Hp} {s : Shared} {Q : VK} {us : List Value} {vs : List V} (F : FnOk X.prog X.w X.K X.mg X.base CX n g fd ps sp) (hr : Room (n + 1) X.A) (hb : Binds X.K fd ps []) (hx : Passes CX X E)
    (I : Inv X pins σ H s) (r : Vals vs us) (h : sp vs H Q E) : wpAny (model X.prog X.w) X.A.in1 (call (.ref g) us) (EP X pins σ Q) X.xe s := by
  have hl : (us ++ []).length = ps.length := by rw [List.append_nil, ← r.length]; exact F.len _ _ _ _ h
  have bd := hb s us I.kIn hl
  rw [List.append_nil] at bd
  refine wpAny_call (codeAny_mono (F.run X.A.in1 X.stack s H ⟨us, []⟩ us vs Q E (room_in1 hr) I.env0.in1 bd r h) fun r s' hq => ?_)
  match r, hq with
  | .error e, hq => exact hx pins σ H s e s' I hq
  | .ok (.ret u), hq => exact I.after hq
  | .ok .next, hq => exact False.elim hq
  | .ok .brk, hq => exact False.elim hq
  | .ok .cont, hq => exact False.elim hq
/-- what an instance's own subscript reads: the def at g answers for the instance and the index -/
def tOwnIx (C : Addr) (sp : Sp) (E : XK) (to ti : TE) : TE := fun σ H Q => to σ H fun x H1 => ti σ H1 fun y H2 => ∃ a dx fs, x = .ref a ∧ H2 a = some (.ins C dx fs) ∧ sp [x, y] H2 Q E
theorem pe_ownIx {o i : Expr} {to ti : TE} {pos : Pos} (ho : PE X o to) (hi : PE X i ti) (hs : PySem.W.findIn X.K (.ref C) "__getitem__" = some (some (.ref g))) (hf : PySem.W.fnIn X.K g = true) (hg : PySem.W.isFn X.K (.ref g) = true)
    (F : FnOk X.prog X.w X.K X.mg X.base CX n g fd ps sp) (hb : Binds X.K fd ps []) (hr : Room (n + 1) X.A) (hx : Passes CX X E)
    (hsl : ∀ ov iv, subscripted i true ov iv = runValue (.builtin "lifetime.subscript" ⟨[ov, iv], []⟩)) : PE X (.Subscript o i pos) (tOwnIx C sp E to ti) := by
  refine ⟨fun pins s σ H Q I h => ?_⟩
  refine Subscript_ (thn (ho.run pins s σ H _ I h) fun ov s1 ⟨x, H1, I1, rx, q1⟩ => thn (hi.run pins s1 σ H1 _ I1 q1) fun iv s2 ⟨y, H2, I2, ry, a, dx, fs, ex, ha, q⟩ => ?_)
  subst ex
  obtain rfl : ov = Value.ref a := rx
  obtain ⟨mA, O, _⟩ := ins_get I2.hok ha
  obtain ⟨od, J, _⟩ := O.look
  obtain ⟨m, hF⟩ := I2.fr
  exact PySem.W.sub_K hF I2.ok.mod.kin J hs hf hg (run_in1 (us := [.ref a, iv]) (vs := [.ref a, y]) F hr hb hx I2 (.cons rfl (.cons ry .nil)) q) (hsl _ _)
/-- the store into an instance by its own def -/
theorem wp_ownPut {prog : Program} {w : World} {A : Around} {Ex : Value → Shared → Prop} {s : Shared} {K : PySem.W.Frag} {x C f : Addr} {ox : Obj} {od : Option Obj} {i v : Value} {Q : Unit → Shared → Prop} (hK : K.In s.heap) (J : PySem.W.InstAt s.heap x ox C od)
    (hq : PySem.W.noSeq K C = true) (hs : PySem.W.findIn K (.ref C) "__setitem__" = some (some (.ref f))) (hf : PySem.W.isFn K (.ref f) = true)
    (h : wpAny (model prog w) A (call (.ref f) [.ref x, i, v]) (fun _ => Q ()) Ex s) : wpAny (model prog w) A (setItem (.ref x) i v) Q Ex s := by
  unfold setItem sequenceKey
  have called : wpAny (model prog w) A (callSpecial? (.ref x) "__setitem__" [i, v]) (fun r => match r with | some _ => Q () | none => fun _ => False) Ex s :=
    PySem.W.special_fn hK J hs (beq_iff_eq.mp hf) h
  refine wpAny_holding (wpAny_bind (wpAny_bind (J.type.here (wpAny_bind ((PySem.W.anyM_none hK hq).here ?_)))))
  rw [if_pos (by rfl : (!false) = true)]
  refine wpAny_pure (wpAny_bind (wpAny_mono called (fun r s' z => ?_) fun _ _ z => z))
  match r, z with
  | some _, z => exact wpAny_pure z
/-- x[i] = v, an own def's store -/
def sOwnPut (C : Addr) (sp : Sp) (E : XK) (to ti tv : TE) : TS := fun D σ H => tv σ H fun v H1 => to σ H1 fun x H2 => ti σ H2 fun y H3 => ∃ a dx fs, x = .ref a ∧ H3 a = some (.ins C dx fs) ∧ sp [x, y, v] H3 (fun _ H4 => D.nx σ H4) E
theorem ps_ownPut {o i value : Expr} {pos pos' : Pos} {to ti tv : TE} (ho : PE X o to) (hi : PE X i ti) (hv : PE X value tv) (hq : PySem.W.noSeq X.K C = true) (hs : PySem.W.findIn X.K (.ref C) "__setitem__" = some (some (.ref g))) (hf : PySem.W.isFn X.K (.ref g) = true)
    (F : FnOk X.prog X.w X.K X.mg X.base CX n g fd ps sp) (hb : Binds X.K fd ps []) (hr : Room (n + 1) X.A) (hx : Passes CX X E) (sw : swapsWith value (some (.Subscript o i pos')) pos.line X.env = pure false) :
    PS X (.Assign [.Subscript o i pos'] value pos) (sOwnPut C sp E to ti tv) := by
  refine ⟨fun pins s σ H D I h => ?_⟩
  refine wpAny_Assign_Subscript (thn (hv.run pins s σ H _ I h) fun r s1 ⟨v, H1, I1, rv, q1⟩ => thn (ho.run pins s1 σ H1 _ I1 q1) fun u s2 ⟨x, H2, I2, rx, q2⟩ => thn (hi.run pins s2 σ H2 _ I2 q2) fun iv s3 ⟨y, H3, I3, ry, a, dx, fs, ex, ha, q⟩ => ?_) sw
  subst ex
  obtain rfl : u = Value.ref a := rx
  obtain ⟨mA, O, _⟩ := ins_get I3.hok ha
  obtain ⟨od, J, _⟩ := O.look
  refine wp_ownPut I3.kIn J hq hs hf (wpAny_mono (run_fn (us := [.ref a, iv, r]) (vs := [.ref a, y, v]) F (hr.mono (Nat.le_succ n)) hb .nil hx I3 (.cons rfl (.cons ry (.cons rv .nil))) q) (fun w s' z => ?_) fun _ _ z => z)
  obtain ⟨z', H', I', _, qz⟩ := z
  exact ⟨σ, H', I', qz⟩
theorem pi_zipAK {K : PySem.W.Frag} {e e2 : Expr} {ta : TA} {p pos tpos : Pos} {elts : List Expr} {kk : Nat} (hK : X.K = K) (hg : Gl X "zip") (hm : X.mg "zip" = none) (ha : PA X [e, e2] ta)
    (hs : starEach [e, e2] X.env = (false, eval e X.env) :: starEach [e2] X.env := by rfl) (hpl : (backTo pos (starEach [e2] X.env)).any (·.1) = false := by rfl) :
    PI X (.Tuple elts kk tpos) (.Call (.Name "zip" p) [e, e2] [] pos) (RZ.iZipA K ta) := by subst hK; exact RZ.pi_zipA hg hm ha hs hpl
end
/-- the loop over two tuples side by side, whatever its body -/
theorem zipT_loop {K : PySem.W.Frag} {a b : Addr} {xs ys : List V} {Qd : Hp → Prop} {H0 : Hp} {B : V → Hp → (Hp → Prop) → Prop} (he : xs.length = ys.length) (Pv : Nat → Hp → Prop) (h0 : Pv 0 H0) (hl : ∀ i H, i ≤ xs.length → Pv i H → SqT K H a xs ∧ SqT K H b ys)
    (hs : ∀ i x y T H, xs[i]? = some x → ys[i]? = some y → H T = none → Pv i H → B (.ref T) (upd H T (.tup [x, y])) (Pv (i + 1))) (hd : ∀ H, Pv xs.length H → Qd H) :
    ∃ W : Nat → Nat → Hp → Prop, (∃ m, W 0 m H0) ∧ ∀ i m H, W i m H → ((RZ.ItzT K a b).stop i H ∧ Qd H) ∨ ((RZ.ItzT K a b).go i H ∧ ∃ Nx : Hp → Prop, (∀ H', Nx H' → ∃ m', m' < m ∧ W (i + 1) m' H') ∧ ∀ x H', (RZ.ItzT K a b).yld i H x H' → B x H' Nx) := by
  refine ⟨fun i m H => m = xs.length - i ∧ i ≤ xs.length ∧ Pv i H, ⟨_, rfl, Nat.zero_le _, h0⟩, ?_⟩
  rintro i m H ⟨rfl, hi, p⟩
  obtain ⟨q1, q2⟩ := hl i H hi p
  by_cases hlt : i < xs.length
  · refine .inr ⟨⟨xs, ys, xs[i], ys[i]'(by omega), q1, q2, by simp [hlt], List.getElem?_eq_getElem _⟩, Pv (i + 1), fun H' p' => ⟨xs.length - (i + 1), by omega, rfl, hlt, p'⟩, fun x H' y => ?_⟩
    obtain ⟨T, u, v, rfl, hT, rfl, z1, z2⟩ := y
    exact hs i u v T _ (z1 xs q1) (z2 ys q2) hT p
  · have e : i = xs.length := by omega
    subst e
    exact .inl ⟨⟨xs, ys, q1, q2, .inl (Nat.le_refl _)⟩, hd H p⟩
/-- keys of pairs -/
def idk (p : IP) : List Key := [.inl p.1, .inl p.2]
theorem idk_inj {p q : IP} (h : idk p = idk q) : p = q := by
  unfold idk at h
  injection h with h1 h2
  injection h2 with h2 _
  exact Prod.ext (Sum.inl.inj h1) (Sum.inl.inj h2)
theorem idk_kV (p : IP) : (idk p).map kV = [.int p.1, .int p.2] := rfl
/-- a dict of whole numbers by pairs -/
def DN (kvs : List (List Key × V)) (N : IP → Option Int) : Prop := ∀ p : IP, valV kvs (idk p) = (N p).map V.int
def shownN (l : List IP) (N : IP → Option Int) : IP → Option Int := fun x => if x ∈ l then some ((N x).getD 0) else none
theorem DN.put {kvs : List (List Key × V)} {N : IP → Option Int} (h : DN kvs N) (p : IP) (w : Int) : DN (putK kvs (idk p) (.int w)) (fun x => if x = p then some w else N x) := fun x => by
  rw [valV_put]
  dsimp only
  by_cases c : x = p
  · rw [if_pos (by rw [c]), if_pos c]
    rfl
  · rw [if_neg (fun z => c (idk_inj z)), if_neg c]
    exact h x
theorem DN.show {kvs : List (List Key × V)} {N : IP → Option Int} {l : List IP} {n : IP} (h : DN kvs (shownN l N)) : DN (putK kvs (idk n) (.int ((N n).getD 0))) (shownN (l ++ [n]) N) := fun x => by
  rw [h.put n _ x]
  unfold shownN
  dsimp only
  by_cases c : x = n
  · subst c
    rw [if_pos rfl, if_pos (List.mem_append_right _ (List.mem_singleton.mpr rfl))]
  · rw [if_neg c]
    by_cases d : x ∈ l
    · rw [if_pos d, if_pos (List.mem_append_left _ d)]
    · rw [if_neg d, if_neg (fun z => (List.mem_append.mp z).elim d fun e => c (List.mem_singleton.mp e))]
theorem putK_len {κ : Type} [DecidableEq κ] {c : List (κ × V)} {k : κ} {x y : V} (h : valV c k = some y) : (putK c k x).length = c.length := by
  unfold putK
  rw [if_pos]
  · exact List.length_map _
  · unfold valV at h
    obtain ⟨q, hq, _⟩ := Option.map_eq_some_iff.mp h
    have hq2 := List.find?_some (p := fun kv : κ × V => decide (kv.1 = k)) hq
    exact List.any_eq_true.mpr ⟨q, List.mem_of_find?_eq_some hq, hq2⟩
theorem putK_more {κ : Type} [DecidableEq κ] (c : List (κ × V)) (k : κ) (x : V) : (putK c k x).length ≤ c.length + 1 := by
  unfold putK
  split
  · rw [List.length_map]; omega
  · rw [List.length_append]; exact Nat.le_refl _
end D

namespace D
open PySem PySem.Spec PyProof.Rows L2
section
variable {X : Cx} {es : List Expr} {t : TA} {pos : Pos}
theorem pe_notTK {K : PySem.W.Frag} {a : Expr} {ta : TE} (hK : X.K = K) (ha : PE X a ta) : PE X (.UnaryOp .Not a pos) (tNotT K ta) := by subst hK; exact pe_notT ha
/-- a written tuple, known to its object -/
def tTupF (t : TA) : TE := fun σ H Q => t σ H fun xs H1 => xs.length ≤ sizeLine ∧ ∀ p o, H1 p = none → o.cls = .type "tuple" → o.dict = none → Q (.ref p) (upd H1 p (.frz o (.tup xs)))
theorem pe_tupF {x1} (h : PA X es t) : PE X (.Tuple es x1 pos) (tTupF t) := by
  refine ⟨fun held st sl G C J want => ?_⟩
  refine wpAny_Tuple_spliced (thn (h.run pos held st sl G _ J want) fun vals st2 ⟨items, G2, J2, rel, fits, fin⟩ => ⟨by rw [← rel.length]; exact fits, ?_⟩)
  have unused : G2 st2.heap.objs.size = none := J2.hok.fresh (Nat.le_refl _)
  let made : Obj := { cls := .type "tuple", data := .seq vals.toArray }
  refine ⟨.ref st2.heap.objs.size, upd G2 st2.heap.objs.size (.frz made (.tup items)), J2.laid (t' := st2.toks) (fun _ _ old => Heap.get?_push_of_some _ old) (Nat.le_refl _) ?_, rfl, fin _ made unused rfl rfl⟩
  exact (show ObjOk X.prog X.w _ _ _ (.frz made (.tup items)) from ⟨Heap.get?_push_size _ rfl, fits, vals, rel, ⟨_, Heap.get?_push_size _ rfl, rfl, _, rfl⟩⟩)
/-- t + u, known to its object -/
def rCatF (K : PySem.W.Frag) : R2 := fun x y H Q => ∃ a b xs ys, x = .ref a ∧ y = .ref b ∧ SqT K H a xs ∧ SqT K H b ys ∧ xs.length + ys.length ≤ sizeLine ∧
  (xs = [] → Q (.ref b) H) ∧ (xs ≠ [] → ys = [] → Q (.ref a) H) ∧ (xs ≠ [] → ys ≠ [] → ∀ p o, H p = none → o.cls = .type "tuple" → o.dict = none → Q (.ref p) (upd H p (.frz o (.tup (xs ++ ys)))))
theorem op_catF {K : PySem.W.Frag} (hK : X.K = K) : OpR X (binaryOp .Add) (rCatF K) := by
  subst hK
  intro held st sl G x y v u C J relx rely want
  obtain ⟨one', two, left, right, rfl, rfl, readL, readR, fits, none1, none2, both⟩ := want
  by_cases emp : left = []
  · exact op_catA held st sl G _ _ v u C J relx rely ⟨one', two, left, right, rfl, rfl, readL, readR, fits, none1, fun no => absurd emp no, fun no => absurd emp no⟩
  cases relx
  cases rely
  obtain ⟨itemsL, relL, tupL, _⟩ := J.tuple readL
  obtain ⟨itemsR, relR, tupR, _⟩ := J.tuple readR
  refine HT.cat_tup tupL tupR (fun no => emp (relL.nil_iff.mp no)) (fun no => ⟨.ref one', G, J, rfl, none2 emp (relR.nil_iff.mp no)⟩) (fun full => ?_) (by rw [← relL.length, ← relR.length]; exact fits)
  let made : Obj := { cls := .type "tuple", data := .seq (itemsL ++ itemsR).toArray }
  refine ⟨.ref st.heap.objs.size, _, J.laid (t' := st.toks) (o := .frz made (.tup (left ++ right))) (fun _ _ old => Heap.get?_push_of_some _ old) (Nat.le_refl _) ?_, rfl, both emp (fun no => full (relR.nil_iff.mpr no)) _ made (J.hok.fresh (Nat.le_refl _)) rfl rfl⟩
  exact ⟨Heap.get?_push_size _ rfl, by rw [List.length_append]; exact fits, _, relL.append relR, IsTup.new _ _⟩
theorem dcG_core {pins : List (Addr × Obj)} {s : Shared} {σ : L2.St} {H : Hp} {Q : VK} {O : Addr → HO} {Put : Addr → (Hp → Prop) → V → V → Hp → Prop} {kx vx tgt it : Expr} {ifs : List Expr} {sc : Scope} {own : List (Str × Nat)} {pos pos' : Pos} {walk : TI} {g : TG} {tt : TT} {tk tv : TE} {use : Option (Value → Sem Unit)} {Qf : Value → Shared → Prop}
    (mk0 : ∀ (H : Hp) (h : Heap), sysModules < h.objs.size → ObjOk X.prog X.w H (h.push { cls := .type "dict", data := .dict #[] }) h.objs.size (O h.objs.size)) (store : Stores X Put) (calm : X.calm = true) (nod : X.N.Nodup) (I : Inv X pins σ H s)
    (pi : PI X tgt it walk) (bo : BlkOk X.N X.env.scope sc own) (pg : InBlk X sc fun B => PG B tgt g) (pt : InBlk X sc fun B => PTs B ifs tt) (pk : InBlk X sc fun B => PE B kx tk) (pv : InBlk X sc fun B => PE B vx tv)
    (plain : ∀ x, foldedSetIterable it X.env x = pure x) (h : tDcG O Put walk g tt tk tv (own.map (·.2)) σ H Q)
    (behind : ∀ made frame st names G, Inv X pins σ G st → Q (.ref made) G → st.heap.Ns frame names → FpOk X pins G frame → compPost (model X.prog X.w) X.A X.xe use Qf (.ref made) frame (.ok .next) st) :
    wpAny (model X.prog X.w) X.A (comprehension (.DictComp kx vx [⟨tgt, it, ifs, 0⟩] sc pos) sc X.env pos' newDict false (eval it X.env) use) Qf X.xe s := by
  have free : ∀ y ∈ sc.names, y.2 = .free → ∃ c, X.env.cells.lookup y.1 = some c := fun y hy e => (bo.free y hy e).elim (fun k => I.ok.has _ (.inl k)) fun k => I.ok.has _ (.inr k)
  refine wpAny_comprehension_free (use := use) rfl plain (closure_ok free) bo.kind (fun y hy e => by rw [bo.uniq y hy, e]) ?_
  -- what is walked, then the empty dict
  refine thn (pi.run pins s σ H _ I h) fun xv s1 hx => thn hx ?_
  rintro itv s2 ⟨ad, feet, tn, J, H2, rfl, I2, T, at2, ft2, q⟩
  refine wpAny_newObj_type (newEnv_comp ?_)
  have fresh : H2 s2.heap.objs.size = none := I2.hok.fresh (Nat.le_refl _)
  obtain ⟨W, ⟨m0, w0⟩, turn⟩ := q _ fresh
  let s3 : Shared := { s2 with heap := s2.heap.push { cls := .type "dict", data := .dict #[] } }
  let D : Addr := s2.heap.objs.size
  let H3 : Hp := upd H2 D (O D)
  let L : Addr := s3.heap.objs.size
  let e3 : Env := compEnvC sc (cellsFrom (L + 1) sc.names (cloFrom X.env.cells sc.names [])) L X.env
  let s4 : Shared := { s3 with heap := pushCells (s3.heap.push { cls := .type "dict", data := .dict #[] }) sc.names }
  have I3 : Inv X pins σ H3 s3 := I2.laid (t' := s2.toks) (fun _ _ e => Heap.get?_push_of_some _ e) (Nat.le_refl _) (mk0 _ s2.heap I2.big)
  have grown : ∀ b o, s2.heap.get? b = some o → s3.heap.get? b = some o := fun _ _ e => Heap.get?_push_of_some _ e
  have low : ∀ b ∈ feet, b < s2.heap.objs.size := fun b hb => Heap.lt_size (T.obj _ _ at2 b hb).choose_spec.1
  have ft3 : ∀ b ∈ feet, FpOk X pins H3 b ∧ b < s3.heap.objs.size := fun b hb => ⟨⟨(upd_ne (Nat.ne_of_lt (low b hb))).trans (ft2 b hb).1, (ft2 b hb).2⟩, by show b < (s2.heap.push _).objs.size; rw [Heap.size_push]; exact Nat.lt_succ_of_lt (low b hb)⟩
  have at3 : tn 0 s3.heap := T.keep _ _ _ at2 fun b _ o e => grown b o e
  have I4 : Inv (X.blk s3 H3 sc e3 feet) [] (wipe σ (own.map (·.2))) H3 s4 := block_start I3 bo nod ft3
  have at4 : tn 0 s4.heap := T.keep _ _ _ at3 fun b _ o e => pushCells_keeps _ _ _ _ (Heap.get?_push_of_some _ e)
  -- the walker's own objects in the block's context
  have foot : ∀ {σ' : L2.St} {G : Hp} {t : Shared}, Inv (X.blk s3 H3 sc e3 feet) [] σ' G t → (∀ b ∈ feet, G b = none) → ∀ b ∈ feet, FpOk (X.blk s3 H3 sc e3 feet) [] G b := by
    intro σ' G t J' none b hb
    refine ⟨none b hb, (J'.ok.exf b hb).1, J'.ok.exfs b hb, .inl hb, fun x c e => (J'.ok.exf b hb).2 x c e, ?_⟩
    intro p hp
    exact nomatch (show p ∈ ([] : List (Addr × Obj)) from by simpa using hp)
  have loop : codeAny (model X.prog X.w) X.A (.compLoop (.DictComp kx vx [⟨tgt, it, ifs, 0⟩] sc pos) 0 (.ref ad) (.ref D) e3) (compPost (model X.prog X.w) X.A X.xe use Qf (.ref D) L) s4 := by
    refine compLoop_anyD (fun n t => ∃ i G, Inv (X.blk s3 H3 sc e3 feet) [] (wipe σ (own.map (·.2))) G t ∧ tn i t.heap ∧ (∀ b ∈ feet, G b = none) ∧ W i n G) ?_ m0 ⟨0, H3, I4, at4, fun b hb => (ft3 b hb).1.1, w0⟩
    rintro n t ⟨i, G, IG, atG, nG, wG⟩
    obtain ⟨stop, fin⟩ | ⟨go, N, less, step⟩ := turn i n G wG
    · refine thnF (T.done (X.blk s3 H3 sc e3 feet) rfl rfl rfl calm i [] t _ G (fun _ _ => False) IG (foot IG nG) atG stop) ?_
      rintro r t6 ⟨rfl, I6⟩
      have I7 : Inv X pins σ G t6 := I3.call' (ch := feet) I6.os I6.base I6.hok I6.bare fun b hb => let z := (ft3 b hb).1.2; ⟨z.2.2.1, z.1, z.2.2.2.1, z.2.2.2.2⟩
      obtain ⟨m, names, _⟩ := I6.loc
      exact behind D L t6 m G I7 fin names (I3.fpOk (Nat.le_refl _) (show G L = none from I6.free))
    · refine thnF (T.item (X.blk s3 H3 sc e3 feet) rfl rfl rfl calm i [] t _ G (fun _ _ => False) IG (foot IG nG) atG go) ?_
      rintro r t6 ⟨u, rfl, h6⟩
      refine thnF h6 ?_
      rintro _ t7 ⟨x, G7, I7, r7, y7, at7, n7⟩
      refine thnF ((pg _ _ _ _ _).run _ t7 _ G7 x u _ (I7.pinned (foot I7 n7) (T.obj _ _ at7)) r7 (step x G7 y7)) ?_
      rintro _ t8 ⟨σ8, G8, I8, wp8, q8⟩
      refine thnF ((pt _ _ _ _ _).run _ t8 σ8 G8 _ I8 q8) ?_
      rintro b t9 ⟨G9, I9, q9⟩
      have back : ∀ {t' : Shared} {G' : Hp}, Inv (X.blk s3 H3 sc e3 feet) ([] ++ pinsAt feet t7.heap) σ8 G' t' → N G' → ∃ m, m < n ∧ ∃ i G, Inv (X.blk s3 H3 sc e3 feet) [] (wipe σ (own.map (·.2))) G t' ∧ tn i t'.heap ∧ (∀ b ∈ feet, G b = none) ∧ W i m G := by
        intro t' G' I' nx
        obtain ⟨m', lt, w'⟩ := less G' nx
        have held : ∀ b ∈ feet, ∀ o, t7.heap.get? b = some o → t'.heap.get? b = some o ∧ G' b = none := fun b hb o e => let z := I'.pin (b, o) (List.mem_append_right _ (List.mem_append_right _ (mem_pinsAt hb e))); ⟨z.1, z.2.1⟩
        refine ⟨m', lt, i + 1, G', I'.unpinned.weak (by rw [← wp8, wipe_length]) fun j v e => ?_, T.keep _ _ _ at7 fun b hb o e => (held b hb o e).1, fun b hb => ?_, w'⟩
        · exact (wipe_some (wp8 ▸ e)).1
        · obtain ⟨o, e, _⟩ := T.obj _ _ at7 b hb
          exact (held b hb o e).2
      by_cases yes : b = true
      · subst yes
        refine thnF ((pk _ _ _ _ _).run _ t9 σ8 G9 _ I9 q9) ?_
        rintro ku t10 ⟨ky, G10, I10, r10, q10⟩
        refine thnF ((pv _ _ _ _ _).run _ t10 σ8 G10 _ I10 q10) ?_
        rintro vu t11 ⟨vy, G11, I11, r11, putting⟩
        exact store (X.blk s3 H3 sc e3 feet) _ _ _ _ _ _ _ _ _ _ _ _ rfl rfl rfl rfl I11 putting r10 r11 fun t12 G12 I12 nx => back I12 nx
      · have no : b = false := by cases b with | true => exact absurd rfl yes | false => rfl
        subst no
        exact back I9 q9
  exact codeAny_compStart_dict loop (T.self X.A 0 _ _ _ at4 loop)
theorem ps_setDcG {i : Nat} {y : Str} {py : Pos} {O : Addr → HO} {Put : Addr → (Hp → Prop) → V → V → Hp → Prop} {kx vx tgt it : Expr} {ifs : List Expr} {sc : Scope} {own : List (Str × Nat)} {pos spos : Pos} {walk : TI} {g : TG} {tt : TT} {tk tv : TE}
    (mk0 : ∀ (H : Hp) (h : Heap), sysModules < h.objs.size → ObjOk X.prog X.w H (h.push { cls := .type "dict", data := .dict #[] }) h.objs.size (O h.objs.size)) (store : Stores X Put) (calm : X.calm = true) (nod : X.N.Nodup) (hy : X.N[i]? = some y) (hyl : X.env.scope.names.lookup y = some .local)
    (hsw : swapsWith (.DictComp kx vx [⟨tgt, it, ifs, 0⟩] sc pos) (some (.Name y py)) spos.line X.env = pure true)
    (pi : PI X tgt it walk) (bo : BlkOk X.N X.env.scope sc own) (pg : InBlk X sc fun B => PG B tgt g) (pt : InBlk X sc fun B => PTs B ifs tt) (pk : InBlk X sc fun B => PE B kx tk) (pv : InBlk X sc fun B => PE B vx tv)
    (plain : ∀ x, foldedSetIterable it X.env x = pure x := by intro _; rfl) :
    PS X (.Assign [.Name y py] (.DictComp kx vx [⟨tgt, it, ifs, 0⟩] sc pos) spos) (tAsg (tDcG O Put walk g tt tk tv (own.map (·.2))) (gName i)) := by
  refine ⟨fun held st sl G ends J want => ?_⟩
  rw [exec_Assign_Name_used _ _ _ _ hsw]
  refine wpAny_bind (wpAny_standAt ?_)
  refine wpAny_bind ?_
  show wpAny _ X.A (do let _ ← comprehension (.DictComp kx vx [⟨tgt, it, ifs, 0⟩] sc pos) sc X.env (firstIterPos [⟨tgt, it, ifs, 0⟩] pos) newDict false (eval it X.env) (some (assign (.Name y py) X.env))) _ _ st
  have want : tDcG O Put walk g tt tk tv (own.map (·.2)) sl G (fun x G1 => gName i x sl G1 ends.nx) := want
  refine wpAny_bind (thn (dcG_core (Qf := fun _ st' => SP X held ends .next st') mk0 store calm nod J pi bo pg pt pk pv plain want fun made frame st2 names G2 J2 fin ns foot => ?_) fun _ _ last => wpAny_pure (wpAny_pure last))
  show wpAny _ _ (assign (.Name y py) X.env (.ref made)) _ _ _
  refine wpAny_assign_Name (store_ok2 (v := V.ref made) J2 nod hy (.inl hyl) rfl (fun st3 J3 ⟨place, same, way⟩ => ?_) (.inr hyl))
  obtain ⟨c0, c1, c2, c3, c4, c5⟩ := foot
  have apart : frame ≠ place := by
    rcases way with way | way
    · rw [way]; exact c1
    · exact fun e => c4 y place way e.symm
  refine ⟨names, ns.sameBut same apart, fun st4 same4 => ?_⟩
  exact ⟨_, G2, J3.turned (t' := st3.toks) (fun b _ out e => (same4.2 b out).trans e) c0 c1 c3 c4 c5, fin⟩
theorem sw_trueD {kx vx : Expr} {gs : List Comprehension} {scope : Scope} {pos py : Pos} {y : Str} {l : Nat} {env : Env} (hk : env.scope.kind = .function) (hy : env.scope.names.lookup y = some .local) (hl : (py.line == pos.line) = true)
    (ha : (scope.names.any fun (n, k) => n == y && (k == .local || k == .cell)) = false) : swapsWith (.DictComp kx vx gs scope pos) (some (.Name y py)) l env = pure true := by
  have kind : env.kindOf y = some .local := hy
  have block : env.blockKind = .function := by
    unfold Env.blockKind
    rw [hk]
    rfl
  unfold swapsWith
  simp only [block, kind, ha, Expr.pos, hl]
  rfl
theorem ps_setDcX {P : Program} {w : World} (hP : X.prog = P) (hw : X.w = w) {i : Nat} {y : Str} {py : Pos} {kx vx tgt it : Expr} {ifs : List Expr} {sc : Scope} {own : List (Str × Nat)} {pos spos : Pos} {walk : TI} {g : TG} {tt : TT} {tk tv : TE} (hu : X.A.units + 1 < cLine) (calm : X.calm = true) (nod : X.N.Nodup) (hy : X.N[i]? = some y) (hyl : X.env.scope.names.lookup y = some .local)
    (hsw : swapsWith (.DictComp kx vx [⟨tgt, it, ifs, 0⟩] sc pos) (some (.Name y py)) spos.line X.env = pure true)
    (pi : PI X tgt it walk) (bo : BlkOk X.N X.env.scope sc own) (pg : InBlk X sc fun B => PG B tgt g) (pt : InBlk X sc fun B => PTs B ifs tt) (pk : InBlk X sc fun B => PE B kx tk) (pv : InBlk X sc fun B => PE B vx tv)
    (plain : ∀ x, foldedSetIterable it X.env x = pure x := by intro _; rfl) :
    PS X (.Assign [.Name y py] (.DictComp kx vx [⟨tgt, it, ifs, 0⟩] sc pos) spos) (tAsg (tDcX P w walk g tt tk tv (own.map (·.2))) (gName i)) := by
  subst hP hw
  exact ps_setDcG (fun H h b => dXo_empty H h b) (stores_X hu) calm nod hy hyl hsw pi bo pg pt pk pv plain
theorem ps_setDcT {i : Nat} {y : Str} {py : Pos} {kx vx tgt it : Expr} {ifs : List Expr} {sc : Scope} {own : List (Str × Nat)} {pos spos : Pos} {walk : TI} {g : TG} {tt : TT} {tk tv : TE} (hu : X.A.units + 1 < cLine) (calm : X.calm = true) (nod : X.N.Nodup) (hy : X.N[i]? = some y) (hyl : X.env.scope.names.lookup y = some .local)
    (hsw : swapsWith (.DictComp kx vx [⟨tgt, it, ifs, 0⟩] sc pos) (some (.Name y py)) spos.line X.env = pure true)
    (pi : PI X tgt it walk) (bo : BlkOk X.N X.env.scope sc own) (pg : InBlk X sc fun B => PG B tgt g) (pt : InBlk X sc fun B => PTs B ifs tt) (pk : InBlk X sc fun B => PE B kx tk) (pv : InBlk X sc fun B => PE B vx tv)
    (plain : ∀ x, foldedSetIterable it X.env x = pure x := by intro _; rfl) :
    PS X (.Assign [.Name y py] (.DictComp kx vx [⟨tgt, it, ifs, 0⟩] sc pos) spos) (tAsg (tDcT walk g tt tk tv (own.map (·.2))) (gName i)) :=
  ps_setDcG (fun _ h b => dt_empty h b) (stores_T hu) calm nod hy hyl hsw pi bo pg pt pk pv plain
end
/-- a row with one item more -/
theorem cat_row {K : PySem.W.Frag} {M : Ms} {H : Hp} {v u : V} {r : List Int} {x : Int} {Q : VK} (h : RowF M H v r) (hu : RowF M H u [x]) (lr : r.length ≤ 1000) (hM : Mk M H) (q : ∀ z H', Same H H' → RowF M H' z (r ++ [x]) → Q z H') : rCatF K v u H Q := by
  obtain ⟨a, o, rfl, na, ha, h1, h2⟩ := id h
  obtain ⟨b, o2, rfl, nb, hb, h3, h4⟩ := id hu
  refine ⟨a, b, _, _, rfl, rfl, .inl (.inr ⟨o, ha⟩), .inl (.inr ⟨o2, hb⟩), ?_, fun z => ?_, fun _ z => absurd z (by simp), fun z _ p o3 hp h5 h6 => ?_⟩
  · rw [List.length_map]
    exact Nat.le_of_lt (small1000000 (by show _ + 1 ≤ _; omega))
  · have e : r = [] := by simpa using z
    subst e
    exact q _ _ (Same.refl _) hu
  · refine q _ _ (same_new hp) ⟨p, o3, rfl, hM.out hp, ?_, h5, h6⟩
    rw [upd_same, List.map_append]
theorem row_new {M : Ms} {H : Hp} {p : Addr} {o : Obj} {ns : List Int} (hM : Mk M H) (hp : H p = none) (h1 : o.cls = .type "tuple") (h2 : o.dict = none) : RowF M (upd H p (.frz o (.tup (ns.map V.int)))) (.ref p) ns := ⟨p, o, rfl, hM.out hp, upd_same, h1, h2⟩
/-- rows in a list -/
def RowsAt (good : List Int → Prop) (M : Ms) (H : Hp) (xs : List V) (nss : List (List Int)) : Prop := xs.length = nss.length ∧ ∀ (i : Nat) (ns : List Int), nss[i]? = some ns → ∃ w, xs[i]? = some w ∧ RowF M H w ns ∧ good ns
section
variable {good : List Int → Prop} {M : Ms} {H H' : Hp} {xs : List V} {nss : List (List Int)}
theorem RowsAt.get (h : RowsAt good M H xs nss) {i : Nat} {x : V} (hx : xs[i]? = some x) : ∃ ns, nss[i]? = some ns ∧ RowF M H x ns ∧ good ns := by
  have hi : i < nss.length := by rw [← h.1]; exact (List.getElem?_eq_some_iff.mp hx).1
  obtain ⟨w, hw, q, g⟩ := h.2 i _ (List.getElem?_eq_getElem hi)
  rw [hx] at hw
  cases hw
  exact ⟨_, List.getElem?_eq_getElem hi, q, g⟩
theorem RowsAt.mem (h : RowsAt good M H xs nss) {x : V} (hx : x ∈ xs) : ∃ ns, ns ∈ nss ∧ RowF M H x ns ∧ good ns := by
  obtain ⟨i, hi⟩ := List.mem_iff_getElem?.mp hx
  obtain ⟨ns, h1, h2, h3⟩ := h.get hi
  exact ⟨ns, List.mem_of_getElem? h1, h2, h3⟩
theorem RowsAt.sx (h : RowsAt good M H xs nss) (s : Sx M H H') : RowsAt good M H' xs nss := ⟨h.1, fun i ns e => by
  obtain ⟨w, h1, h2, h3⟩ := h.2 i ns e
  exact ⟨w, h1, h2.sx s, h3⟩⟩
theorem RowsAt.nil : RowsAt good M H [] [] := ⟨rfl, fun i ns e => by simp at e⟩
theorem RowsAt.append {ys : List V} {mss : List (List Int)} (h : RowsAt good M H xs nss) (g : RowsAt good M H ys mss) : RowsAt good M H (xs ++ ys) (nss ++ mss) := by
  refine ⟨by rw [List.length_append, List.length_append, h.1, g.1], fun i ns e => ?_⟩
  by_cases c : i < nss.length
  · rw [List.getElem?_append_left c] at e
    rw [List.getElem?_append_left (by rw [h.1]; exact c)]
    exact h.2 i ns e
  · rw [List.getElem?_append_right (by omega)] at e
    rw [List.getElem?_append_right (by rw [h.1]; omega), h.1]
    exact g.2 _ ns e
theorem RowsAt.one {w : V} {ns : List Int} (q : RowF M H w ns) (g : good ns) : RowsAt good M H [w] [ns] := ⟨rfl, fun i ms e => by
  cases i with
  | zero => cases e; exact ⟨w, rfl, q, g⟩
  | succ i => simp at e⟩
theorem RowsAt.less {N : Ms} (h : RowsAt good M H xs nss) (f : ∀ a, N a → M a) : RowsAt good N H xs nss := ⟨h.1, fun i ns e => by
  obtain ⟨w, h1, h2, h3⟩ := h.2 i ns e
  exact ⟨w, h1, h2.less f, h3⟩⟩
theorem RowsAt.fresh {p : Addr} (h : RowsAt good M H xs nss) (hp : H p = none) : RowsAt good (also M p) H xs nss := ⟨h.1, fun i ns e => by
  obtain ⟨w, h1, h2, h3⟩ := h.2 i ns e
  exact ⟨w, h1, h2.fresh hp, h3⟩⟩
end
end D

namespace D
open PySem PySem.Spec PyProof.Rows L2
/-! ### own errors with one field or more -/
section
variable {K : PySem.W.Frag}
/-- __init__ of an error with one field -/
def sp_err1 (K : PySem.W.Frag) (C : Addr) (f : Str) : Sp := fun vs H Q _ => ∃ (a : Addr) (y : V), vs = [.ref a, y] ∧ OexC K C ∧ PySem.W.findIn K (.ref C) f = some none ∧ H a = some (exo a C none) ∧
  ∀ dx, H dx = none → dx ≠ a → Q .non (upd (upd H dx (exd dx [(f, y)])) a (exo a C (some dx)))
theorem made_heap {H : Hp} {a dx : Addr} {o1 o2 o3 o4 : HO} (ha : H a = none) (ne : dx ≠ a) : upd (del (upd (upd (upd H a o1) dx o2) a o3) a) dx o4 = upd H dx o4 := by
  funext b
  by_cases h1 : b = dx
  · rw [h1, upd_same, upd_same]
  · rw [upd_ne h1, upd_ne h1]
    by_cases h2 : b = a
    · rw [h2, del_same, ha]
    · rw [del_ne h2, upd_ne h2, upd_ne h1, upd_ne h2]
/-- the making of an error with one field: what is asked behind its argument -/
theorem mk_err1 {C : Addr} {f : Str} {H : Hp} {v : V} {E : XK} (ox : OexC K C) (no : PySem.W.findIn K (.ref C) f = some none) (h : ∀ d, H d = none → E (.ref C) (some d) (upd H d (.xd [(f, v)]))) :
    [v].length ≤ 1000 ∧ ∀ a, H a = none → sp_err1 K C f (.ref a :: ([v] ++ [])) (upd H a (exo a C none))
      (fun u H2 => u = .non ∧ ∃ (d : Addr) (fs : List (Str × V)), H2 a = some (exo a C (some d)) ∧ H2 d = some (exd d fs) ∧ H d = none ∧ E (.ref C) (some d) (upd (del H2 a) d (.xd fs))) (fun _ _ _ => False) := by
  refine ⟨by show 1 ≤ 1000; decide, fun a ha => ⟨a, v, rfl, ox, no, upd_same, fun dx hdx hne => ⟨rfl, dx, [(f, v)], upd_same, ?_, ?_, ?_⟩⟩⟩
  · rw [upd_ne hne, upd_same]
  · rw [upd_ne hne] at hdx
    exact hdx
  · rw [made_heap ha hne]
    rw [upd_ne hne] at hdx
    exact h dx hdx
/-- __init__ of an error with two fields -/
def sp_err2 (K : PySem.W.Frag) (C : Addr) (f g : Str) : Sp := fun vs H Q _ => ∃ (a : Addr) (y z : V), vs = [.ref a, y, z] ∧ OexC K C ∧ PySem.W.findIn K (.ref C) f = some none ∧ PySem.W.findIn K (.ref C) g = some none ∧ H a = some (exo a C none) ∧
  ∀ dx, H dx = none → dx ≠ a → Q .non (upd (upd (upd H dx (exd dx [(f, y)])) a (exo a C (some dx))) dx (exd dx [(g, z), (f, y)]))
/-- isinstance facts of an error class -/
theorem kit_err {D C : Addr} {b : Bool} (hd : PySem.W.hasDictIn K C = true) (ty : PySem.W.typeIn K (.ref C) = some (.type "type")) (ne : D ≠ C) (h : PySem.W.subIn K (.ref D) (.ref C) = some b) : PySem.W.kitOne K (.ref D) (.ref C) = some b := by
  obtain ⟨cd, hc, _⟩ := PySem.W.any_some hd
  unfold PySem.W.kitOne
  rw [if_neg (by simpa using ne)]
  show (if ((PySem.W.clsIn K C).isSome && PySem.W.typeIn K (.ref C) == some (.type "type")) = true then PySem.W.subIn K (.ref D) (.ref C) else none) = some b
  rw [if_pos (by rw [hc, ty]; rfl), h]
theorem kit_self {D : Addr} : PySem.W.kitOne K (.ref D) (.ref D) = some true := by
  unfold PySem.W.kitOne
  rw [if_pos (beq_self_eq_true _)]
theorem kit_ty2 {D : Addr} {t : String} {b : Bool} (m : PySem.W.kitMeta t = true) (h : PySem.W.subIn K (.ref D) (.type t) = some b) : PySem.W.kitOne K (.ref D) (.type t) = some b := by
  unfold PySem.W.kitOne
  rw [if_neg (fun z => nomatch (beq_iff_eq.mp z : Value.ref D = Value.type t))]
  show (if PySem.W.kitMeta t = true then PySem.W.subIn K (.ref D) (.type t) else none) = some b
  rw [if_pos m, h]
end
section
variable {X : Cx} {C g : Addr} {n : Nat} {CX : CXT} {sp : Sp} {E : L2.St → XK} {fd : FuncData} {ps : List Str}
/-- isinstance(e, c), e the error that the suite holds -/
def rIsX (K : PySem.W.Frag) (cls : Value) (d : Option Addr) (a : Addr) : List V → Hp → VK → Prop := fun xs H Q => ∃ (D dd : Addr) (fs : List (Str × V)) (c : V) (cv : Value) (b : Bool), cls = .ref D ∧ d = some dd ∧ ExcC K D ∧ H dd = some (.xd fs) ∧
  xs = [.ref a, c] ∧ (∀ u, RelV c u → u = cv) ∧ PySem.W.kitOne K (.ref D) cv = some b ∧ Q (.bl b) H
theorem inst_exc {X : Cx} {pins : List (Addr × Obj)} {σ : L2.St} {H : Hp} {s : Shared} {a D dd : Addr} {oe : Obj} {fs : List (Str × V)} (I : Inv X pins σ H s) (get : s.heap.get? a = some oe) (hz : Zc (.ref D) (some dd) oe) (hf : ∃ vs, oe.data = .fields vs) (ed : H dd = some (.xd fs)) :
    ∃ od, PySem.W.InstAt s.heap a oe D (some od) := by
  have there : ObjOk X.prog X.w H s.heap dd (.xd fs) := I.hok dd _ ed
  obtain ⟨mA, hns, _⟩ := there
  obtain ⟨od, ho, _⟩ := lookIn_ns hns
  obtain ⟨vs, hd⟩ := hf
  exact ⟨od, get, hz.1, by unfold PySem.W.notCls; rw [hd] <;> rfl, by rw [hz.2]; exact ho⟩
theorem call_isX {a : Addr} {oe : Obj} {cls : Value} {d : Option Addr} {pn : List (Addr × Obj)} (hz : Zc cls d oe) (hf : ∃ vs, oe.data = .fields vs) : CallR (X.suite a ((a, oe) :: pn)) (.builtin "isinstance") (rIsX X.K cls d a) := by
  intro held s sl G args vals want J rel h
  obtain ⟨D, dd, fs, c, cv, b, rfl, rfl, EC, ed, rfl, known, kit, q⟩ := h
  match vals, rel with
  | [_, _], .cons rx (.cons rt .nil) =>
    cases rx
    have ec := known _ rt
    subst ec
    obtain ⟨get, _⟩ := J.pin (a, oe) (List.mem_append.mpr (.inl List.mem_cons_self))
    obtain ⟨od, inst⟩ := inst_exc J get hz hf ed
    obtain ⟨cdD, hcD, _⟩ := PySem.W.any_some EC.hd
    exact PySem.W.kia_one (PySem.W.kitx_exc (by rw [hcD]; rfl) EC.hg EC.hk EC.hs EC.ha EC.hn EC.ht EC.hm) J.kIn inst kit (fun z => nomatch z) fun tk => ⟨.bl b, G, J.kept (t' := tk) fun _ _ z => z, rfl, q⟩
/-- isinstance(e, (c, ..)) -/
def rIsXT (K : PySem.W.Frag) (cls : Value) (d : Option Addr) (a : Addr) : List V → Hp → VK → Prop := fun xs H Q => ∃ (D dd p : Addr) (fs : List (Str × V)) (cs : List Addr) (b : Bool), cls = .ref D ∧ d = some dd ∧ ExcC K D ∧ H dd = some (.xd fs) ∧
  xs = [.ref a, .ref p] ∧ H p = some (.tup (cs.map V.ref)) ∧ PySem.W.kitAny K (.ref D) (cs.map Value.ref) = some b ∧ Q (.bl b) H
theorem vals_refs : ∀ {cs : List Addr} {vals : List Value}, Vals (cs.map V.ref) vals → vals = cs.map Value.ref
  | [], _, .nil => rfl
  | c :: r, _, .cons h t => by
    cases h
    rw [vals_refs t]
    rfl
theorem call_isXT {a : Addr} {oe : Obj} {cls : Value} {d : Option Addr} {pn : List (Addr × Obj)} (hz : Zc cls d oe) (hf : ∃ vs, oe.data = .fields vs) : CallR (X.suite a ((a, oe) :: pn)) (.builtin "isinstance") (rIsXT X.K cls d a) := by
  intro held s sl G args vals want J rel h
  obtain ⟨D, dd, p, fs, cs, b, rfl, rfl, EC, ed, rfl, tup, kit, q⟩ := h
  match vals, rel with
  | [_, _], .cons rx (.cons rt .nil) =>
    cases rx
    cases rt
    obtain ⟨get, _⟩ := J.pin (a, oe) (List.mem_append.mpr (.inl List.mem_cons_self))
    obtain ⟨od, inst⟩ := inst_exc J get hz hf ed
    obtain ⟨cdD, hcD, _⟩ := PySem.W.any_some EC.hd
    obtain ⟨_, its, rv, ⟨⟨tc, tdict, tdata, tslots⟩, ho, hc, m, hd⟩⟩ := (show ObjOk X.prog X.w G s.heap p (.tup (cs.map V.ref)) from J.hok p _ tup)
    dsimp only at hc hd
    subst hc hd
    have ei := vals_refs rv
    subst ei
    exact PySem.W.kia_tup (PySem.W.kitx_exc (by rw [hcD]; rfl) EC.hg EC.hk EC.hs EC.ha EC.hn EC.ht EC.hm) J.kIn inst ho kit (fun z => nomatch z) fun tk => ⟨.bl b, G, J.kept (t' := tk) fun _ _ z => z, rfl, q⟩
/-! ### what may raise within a try -/
/-- a def is run one step in, what it raises goes on -/
theorem run_in1S {pins : List (Addr × Obj)} {σ : L2.St} {H : Hp} {s : Shared} {Q : VK} {us : List Value} {vs : List V} (F : FnOk X.prog X.w X.K X.mg X.base CX n g fd ps sp) (hr : Room (n + 1) X.A) (hb : Binds X.K fd ps []) (hx : PassesAt CX X σ (E σ))
    (I : Inv X pins σ H s) (r : Vals vs us) (h : sp vs H Q (E σ)) : wpAny (model X.prog X.w) X.A.in1 (call (.ref g) us) (EP X pins σ Q) X.xe s := by
  have size : (us ++ []).length = ps.length := by rw [List.append_nil, ← r.length]; exact F.len _ _ _ _ h
  have bd := hb s us I.kIn size
  rw [List.append_nil] at bd
  refine wpAny_call (codeAny_mono (F.run X.A.in1 X.stack s H ⟨us, []⟩ us vs Q (E σ) (room_in1 hr) I.env0.in1 bd r h) fun out s' told => ?_)
  match out, told with
  | .error e, told => exact hx pins H s e s' I told
  | .ok (.ret u), told => exact I.after told
  | .ok .next, told => exact False.elim told
  | .ok .brk, told => exact False.elim told
  | .ok .cont, told => exact False.elim told
def tOwnIxS (C : Addr) (sp : Sp) (E : L2.St → XK) (to ti : TE) : TE := fun σ H Q => to σ H fun x H1 => ti σ H1 fun y H2 => ∃ a dx fs, x = .ref a ∧ H2 a = some (.ins C dx fs) ∧ sp [x, y] H2 Q (E σ)
theorem pe_ownIxS {o i : Expr} {to ti : TE} {pos : Pos} (ho : PE X o to) (hi : PE X i ti) (hs : PySem.W.findIn X.K (.ref C) "__getitem__" = some (some (.ref g))) (hf : PySem.W.fnIn X.K g = true) (hg : PySem.W.isFn X.K (.ref g) = true)
    (F : FnOk X.prog X.w X.K X.mg X.base CX n g fd ps sp) (hb : Binds X.K fd ps []) (hr : Room (n + 1) X.A) (hx : ∀ σ, PassesAt CX X σ (E σ))
    (hsl : ∀ ov iv, subscripted i true ov iv = runValue (.builtin "lifetime.subscript" ⟨[ov, iv], []⟩)) : PE X (.Subscript o i pos) (tOwnIxS C sp E to ti) := by
  refine ⟨fun pins s σ H Q I h => ?_⟩
  refine Subscript_ (thn (ho.run pins s σ H _ I h) fun ov s1 ⟨x, H1, I1, rx, q1⟩ => thn (hi.run pins s1 σ H1 _ I1 q1) fun iv s2 ⟨y, H2, I2, ry, a, dx, fs, ex, ha, q⟩ => ?_)
  subst ex
  obtain rfl : ov = Value.ref a := rx
  obtain ⟨mA, O, _⟩ := ins_get I2.hok ha
  obtain ⟨od, J, _⟩ := O.look
  obtain ⟨m, hF⟩ := I2.fr
  exact PySem.W.sub_K hF I2.ok.mod.kin J hs hf hg (run_in1S (us := [.ref a, iv]) (vs := [.ref a, y]) F hr hb (hx σ) I2 (.cons rfl (.cons ry .nil)) q) (hsl _ _)
/-- a method that may raise -/
def tMethS (C : Addr) (m : Str) (sp : Sp) (E : L2.St → XK) (ta : TE) (t : TA) : TE := fun σ H Q => ta σ H fun x H1 => ∃ a dx fs, x = .ref a ∧ H1 a = some (.ins C dx fs) ∧ fs.lookup m = none ∧ t σ H1 fun vs H2 => sp (x :: vs) H2 Q (E σ)
theorem pe_methS {o e : Expr} {es : List Expr} {m : Str} {f : Addr} {pos apos : Pos} {ta : TE} {t : TA} {pl : Sem Bool} (he : PE X o ta) (c : Cls X.K C) (hm : Meth X.K C m f) (F : FnOk X.prog X.w X.K X.mg X.base CX n f fd ps sp) (hr : Room n X.A) (hb : Binds X.K fd ps []) (hx : ∀ σ, PassesAt CX X σ (E σ)) (ha : PA X (e :: es) t)
    (hst : starEach (e :: es) X.env = (false, eval e X.env) :: starEach es X.env := by rfl) (hpl : (backTo pos (starEach es X.env)).any (·.1) = false := by rfl)
    (ht : eval (.Call (.Attribute o m apos) (e :: es) [] pos) X.env = (do
      let ov ← eval o X.env
      standAt apos.atName
      let (f, first) ← holding [ov] (getMethod ov m pl)
      callWith pos f first (backTo pos (starEach (e :: es) X.env)) (backToKw pos (keywordEach [] X.env))) := by rfl) :
    PE X (.Call (.Attribute o m apos) (e :: es) [] pos) (tMethS C m sp E ta t) := by
  refine ⟨fun held st sl G want J told => ?_⟩
  refine PySem.W.methodCall_KW (pl := pl) (thn (he.run held st sl G _ J told) fun u st1 ⟨x, G1, J1, rx, a, dx, fs, ex, ea, l, q⟩ => ?_) ht
  subst ex
  obtain rfl : u = Value.ref a := rx
  refine getmeth_ok J1 ea c hm l (PySem.W.callWith_K (first := [.ref a]) (h₀ := X.base) J1.ok.mod.kin hm.kp (thn (ha.run pos held st1 sl G1 _ J1 q) fun vals st2 ⟨vs, G2, J2, rel, q2⟩ => ⟨J2.kIn, ?_⟩) hst hpl)
  exact run_fnS (us := .ref a :: vals) (vs := .ref a :: vs) F hr hb (hx sl) J2 (.cons rfl rel) q2
/-- x[i] = v, an own def's store that may raise -/
def sOwnPutS (C : Addr) (sp : Sp) (E : L2.St → XK) (to ti tv : TE) : TS := fun D σ H => tv σ H fun v H1 => to σ H1 fun x H2 => ti σ H2 fun y H3 => ∃ a dx fs, x = .ref a ∧ H3 a = some (.ins C dx fs) ∧ sp [x, y, v] H3 (fun _ H4 => D.nx σ H4) (E σ)
theorem ps_ownPutS {o i value : Expr} {pos pos' : Pos} {to ti tv : TE} (ho : PE X o to) (hi : PE X i ti) (hv : PE X value tv) (hq : PySem.W.noSeq X.K C = true) (hs : PySem.W.findIn X.K (.ref C) "__setitem__" = some (some (.ref g))) (hf : PySem.W.isFn X.K (.ref g) = true)
    (F : FnOk X.prog X.w X.K X.mg X.base CX n g fd ps sp) (hb : Binds X.K fd ps []) (hr : Room (n + 1) X.A) (hx : ∀ σ, PassesAt CX X σ (E σ)) (sw : swapsWith value (some (.Subscript o i pos')) pos.line X.env = pure false) :
    PS X (.Assign [.Subscript o i pos'] value pos) (sOwnPutS C sp E to ti tv) := by
  refine ⟨fun pins s σ H D I h => ?_⟩
  refine wpAny_Assign_Subscript (thn (hv.run pins s σ H _ I h) fun r s1 ⟨v, H1, I1, rv, q1⟩ => thn (ho.run pins s1 σ H1 _ I1 q1) fun u s2 ⟨x, H2, I2, rx, q2⟩ => thn (hi.run pins s2 σ H2 _ I2 q2) fun iv s3 ⟨y, H3, I3, ry, a, dx, fs, ex, ha, q⟩ => ?_) sw
  subst ex
  obtain rfl : u = Value.ref a := rx
  obtain ⟨mA, O, _⟩ := ins_get I3.hok ha
  obtain ⟨od, J, _⟩ := O.look
  refine wp_ownPut I3.kIn J hq hs hf (wpAny_mono (run_fnS (us := [.ref a, iv, r]) (vs := [.ref a, y, v]) F (hr.mono (Nat.le_succ n)) hb (hx σ) I3 (.cons rfl (.cons ry (.cons rv .nil))) q) (fun w s' z => ?_) fun _ _ z => z)
  obtain ⟨z', H', I', _, qz⟩ := z
  exact ⟨σ, H', I', qz⟩
end
end D

namespace D
open PySem PySem.Spec PyProof.Rows L2
/-! ### list(o), o of an own class whose __iter__ hands an iterator over a tuple out -/
/-- at it an iterator over the tuple at t, the next place is i -/
def ItT (t it : Addr) (i : Nat) : HO := .ext fun h => h.IsTupleIter it t i
/-- something stands at it -/
def AnyO (it : Addr) : HO := .ext fun h => ∃ o, h.get? it = some o
section
variable {P : Program} {w : World} {H : Hp} {h : Heap} {t it : Addr} {i : Nat}
theorem itT_ok (e : h.IsTupleIter it t i) : ObjOk P w H h it (ItT t it i) := ⟨e, ⟨_, e.choose_spec.1⟩, fun h1 h2 q k => by
  obtain ⟨o, ho, r⟩ := q
  exact ⟨o, k _ ho, r⟩⟩
theorem any_ok {o : Obj} (e : h.get? it = some o) : ObjOk P w H h it (AnyO it) := ⟨⟨_, e⟩, ⟨_, e⟩, fun h1 h2 q k => by
  obtain ⟨o, ho⟩ := q
  exact ⟨o, k _ ho⟩⟩
end
section
variable {X : Cx} {pins : List (Addr × Obj)} {σ : L2.St} {H : Hp} {s : Shared} {t it : Addr} {i : Nat}
theorem itT_get (I : Inv X pins σ H s) (e : H it = some (ItT t it i)) : s.heap.IsTupleIter it t i := (I.hok it _ e).1
/-- iter(t), t a tuple -/
def rIterT (K : PySem.W.Frag) : List V → Hp → VK → Prop := fun xs H Q => ∃ (t : Addr) (zs : List V), xs = [.ref t] ∧ SqT K H t zs ∧ ∀ it, H it = none → Q (.ref it) (upd H it (ItT t it 0))
theorem call_iterT : CallR X (.builtin "iter") (rIterT X.K) := by
  intro pins s σ H xs us Q I r h
  obtain ⟨t, zs, rfl, hq, q⟩ := h
  obtain rfl := Vals.ref1 r
  obtain ⟨its, rv, ⟨o, ho, hc, n, hd⟩, hz⟩ := I.tuple hq
  refine Calls.call_function_entry (by decide +kernel) (by decide +kernel) PySem.W.kdk_entry_iter (PySem.W.kdk_args_iter _) ?_
  unfold Builtin.«iter»
  refine wpAny_bind (m := someArgs "iter" 1 2 _) (wpAny_of_eq (a := [Value.ref t]) (by first | rfl | kernel_rfl!) ?_)
  show wpAny _ _ (pyIter (.ref t) >>= _) _ _ _
  refine wpAny_bind (wpAny_pyIter_tuple (items := its.toArray) ⟨o, ho, hc, n, hd⟩ ?_)
  refine wpAny_pure ⟨_, rfl, ?_⟩
  exact ⟨.ref s.heap.objs.size, _, I.laid (t' := s.toks) (fun b u e => Heap.get?_push_of_some _ e) (Nat.le_refl _) (itT_ok ⟨_, Heap.get?_push_size _ rfl, rfl, rfl⟩), rfl, q _ (I.hok.fresh (Nat.le_refl _))⟩
end
section
variable {prog : Program} {w : World} {A : Around} {E : Value → Shared → Prop} {s : Shared}
theorem tuple_end2 {it t : Addr} {i : Nat} {items : Array Value} {Q : Option Value → Shared → Prop} (hh : A.handled = none)
    (hit : s.heap.IsTupleIter it t i) (ht : s.heap.IsTuple t items) (hx : items[i]? = none)
    (hQ : ∀ h', (∃ o, h'.get? it = some o) → Heap.ExtBut it s.heap h' → Q none { s with heap := h' }) : wpAny (model prog w) A (pyNext (.ref it)) Q E s := by
  obtain ⟨o, ho, hc, hd⟩ := id hit
  obtain ⟨ol, hol, _, nl, hdl⟩ := ht
  unfold pyNext
  refine wpAny_bind (wpAny_attempt (wpAny_callSpecial?_slot (name := Str.ofString "__next__") hit.typeIs F.slot_tuple_iterator_next
    (wpAny_call_entry F.slot_tuple_iterator_next hit.typeIs F.entry_tuple_iterator_next ?_ (F.args_tuple_iterator_next_1 _))))
  show wpAny _ _ (field (.ref it) 0 >>= _) _ _ s
  refine wpAny_bind (wpAny_field ho hd (x := .ref t) rfl ?_)
  show wpAny _ _ (if (Value.ref t == Value.none) = true then _ else _) _ _ s
  rw [if_neg (show ¬ ((Value.ref t == Value.none) = true) from Bool.false_ne_true)]
  show wpAny _ _ (field (.ref it) 1 >>= _) _ _ s
  refine wpAny_bind (wpAny_field ho hd (x := .int i 0) rfl ?_)
  show wpAny _ _ (seqItems? (.ref t) >>= _) _ _ s
  refine wpAny_bind (wpAny_seqItems hol hdl ?_)
  simp only [Int.toNat_natCast, hx]
  refine wpAny_bind (wpAny_rule (wpAny_bind (wpAny_setField ho hd (by simp) ?_)))
  show wpAny _ _ (newExc (.type "StopIteration") [] >>= _) _ _ _
  refine wpAny_bind ?_
  simp only [newExc, newTuple]
  refine wpAny_bind (wpAny_newObj_type ?_ (by size_fits))
  refine wpAny_bind (m := firstArgMember _ _) (wpAny_of_eq (a := Value.none) (by first | rfl | (simp only [firstArgMember]; rfl)) ?_)
  refine wpAny_newObj_type ?_ (by size_fits)
  simp only [raiseNew]
  refine wpAny_bind (wpAny_handled ?_)
  first | rw [show A.in1.handled = none from hh] | rw [hh]
  refine wpAny_bind (wpAny_pure (wpAny_throw ?_))
  refine wpAny_bind (wpAny_isInstance (T := "StopIteration") (b := true) ⟨_, Heap.get?_push_size _ rfl, rfl⟩ PySem.isSubtype_stop ?_)
  refine wpAny_pure (hQ _ ⟨_, Heap.get?_push_of_some _ (Heap.get?_push_of_some _ (Heap.get?_update_self _ ho (Obj.isFreed_of_fields (Obj.data_mapFields hd _))))⟩ (((Heap.SameBut.update ..).extBut.push _).push _))
end
/-- a class whose instances have an own __iter__, without __len__ and __length_hint__ -/
structure ItK (K : PySem.W.Frag) (C fi : Addr) : Prop where
  it : PySem.W.findIn K (.ref C) "__iter__" = some (some (.ref fi))
  itF : PySem.W.isFn K (.ref fi) = true
  nolen : PySem.W.findIn K (.ref C) "__len__" = some none
  nohint : PySem.W.findIn K (.ref C) "__length_hint__" = some none
section
variable {X : Cx} {pins : List (Addr × Obj)} {σ : L2.St} {H : Hp} {s : Shared}
theorem hintK {M : Model} {A : Around} {E : Value → Shared → Prop} {Q : Bool → Shared → Prop} {K : PySem.W.Frag} {a C fi : Addr} {ox : Obj} {od : Option Obj} (hc : ItK K C fi) (hK : K.In s.heap) (J : PySem.W.InstAt s.heap a ox C od) (h : Q true s) :
    wpAny M A (Builtin.List.listLengthHint (.ref a)) Q E s := by
  unfold Builtin.List.listLengthHint
  refine wpAny_bind (wpAny_bind (J.type.here ((PySem.W.looks_findIn hK hc.nolen).here ?_)))
  refine PySem.W.KFB.if_not rfl ?_
  refine PySem.W.KFB.if_not rfl ?_
  refine wpAny_bind (wpAny_bind (J.type.here ((PySem.W.looks_findIn hK hc.nohint).here ?_)))
  exact wpAny_pure h
theorem it_loop {A1 : Around} {it t q : Addr} {xs : List V} {H0 : Hp} {Rs : Result → Shared → Prop} (hh : A1.handled = none) (nqi : q ≠ it) (nti : t ≠ it) (hT : SqT X.K H0 t xs) (htq : t ≠ q) (hl : xs.length ≤ 1000)
    (hdone : ∀ H s, Inv X pins σ H s → (∀ b, b ≠ it → b ≠ q → H b = H0 b) → H q = some (.lst xs) → H it ≠ none → Rs (.ok (.ret .none)) s) :
    ∀ (k i : Nat) (H : Hp) (s : Shared), xs.length - i = k → i ≤ xs.length → Inv X pins σ H s → (∀ b, b ≠ it → b ≠ q → H b = H0 b) → H q = some (.lst (xs.take i)) → H it = some (ItT t it i) →
      codeAny (model X.prog X.w) A1 (.builtin "list.extend.loop" ⟨[.ref q, .ref it, .none], []⟩) Rs s := by
  intro k
  induction k with
  | zero =>
    intro i H s hk hi I hH hq hit
    have ei : i = xs.length := by omega
    subst ei
    have hT' : SqT X.K H t xs := by
      unfold SqT Rd at hT ⊢
      rw [hH t nti htq]
      exact hT
    obtain ⟨its, rv, pl, hz⟩ := I.tuple hT'
    refine codeAny_builtin PySem.F.entry_extend_loop ?_
    rw [Around.under_plainId PySem.F.plain_extend_loop _]
    show wpAny _ A1.in1 (pyNext (.ref it) >>= _) _ _ s
    refine wpAny_bind (tuple_end2 (items := its.toArray) hh (itT_get I hit) (by obtain ⟨o, ho, hc, n, hd⟩ := pl; exact ⟨o, ho, hc, n, hd⟩) (by have := rv.length; simp [← this]) fun h' he hb => ?_)
    have mu : Mut (H it) := by rw [hit]; exact True.intro
    obtain ⟨o', ho'⟩ := he
    have I' := I.write (x := it) (e := it) (t' := s.toks) (o := AnyO it) (h' := h') mu (.inl rfl) (fun b o nb z => hb b o nb z) ⟨_, ho'⟩ (any_ok ho')
    refine wpAny_pure (hdone _ _ I' (fun b h1 h2 => by rw [upd_ne h1]; exact hH b h1 h2) ?_ ?_)
    · rw [upd_ne nqi, hq, List.take_length]
    · rw [upd_same]
      exact fun z => nomatch z
  | succ k ih =>
    intro i H s hk hi I hH hq hit
    have hlt : i < xs.length := by omega
    have hT' : SqT X.K H t xs := by
      unfold SqT Rd at hT ⊢
      rw [hH t nti htq]
      exact hT
    obtain ⟨its, rv, pl, hz⟩ := I.tuple hT'
    obtain ⟨u, hu, ru⟩ := rv.get (i := i) (List.getElem?_eq_getElem hlt)
    refine codeAny_builtin PySem.F.entry_extend_loop ?_
    rw [Around.under_plainId PySem.F.plain_extend_loop _]
    show wpAny _ A1.in1 (pyNext (.ref it) >>= _) _ _ s
    refine wpAny_bind (wpAny_pyNext_tuple_item (items := its.toArray) (x := u) (itT_get I hit) (by obtain ⟨o, ho, hc, n, hd⟩ := pl; exact ⟨o, ho, hc, n, hd⟩) (by rw [List.getElem?_toArray]; exact hu) fun h' e' sb => ?_)
    have mu : Mut (H it) := by rw [hit]; exact True.intro
    have I' := I.write (x := it) (e := it) (t' := s.toks) (o := ItT t it (i + 1)) (h' := h') mu (.inl rfl) (fun b o nb z => (sb.2 b nb).trans z) ⟨_, e'.choose_spec.1⟩ (itT_ok e')
    have hq' : upd H it (ItT t it (i + 1)) q = some (.lst (xs.take i)) := by rw [upd_ne nqi]; exact hq
    show wpAny _ A1.in1 (updateSeq q (·.push u) >>= _) _ _ _
    obtain ⟨z, its2, c, r2, e⟩ := I'.lstM hq'
    have hlen : (xs.take i).length = i := by rw [List.length_take]; omega
    obtain ⟨r2, hl2, e⟩ := (⟨r2, e⟩ : _ ∧ _ ∧ _)
    have l2 : its2.length = i := by rw [← r2.length, hlen]
    refine wpAny_bind (wpAny_updateSeq e rfl (wpAny_pure ⟨plainId_quiet PySem.F.plain_extend_loop _, ?_⟩) (by rw [List.size_toArray, l2, sizeLine_eq]; omega) (by show (its2.toArray.push u).size ≤ sizeLine + 1; rw [Array.size_push, List.size_toArray, l2, sizeLine_eq]; omega))
    refine ih (i + 1) _ _ (by omega) hlt (I'.lset (its' := its2 ++ [u]) (ys := xs.take (i + 1)) (t' := s.toks) hq' e (by simp) ?_ (by rw [List.length_take, sizeLine_eq]; omega)) (fun b h1 h2 => ?_) upd_same ?_
    · rw [List.take_add_one, List.getElem?_eq_getElem hlt]
      exact r2.append (.cons ru .nil)
    · rw [upd_ne h2, upd_ne h1]
      exact hH b h1 h2
    · rw [upd_ne (Ne.symm nqi), upd_same]

/-- list(o): __iter__ hands an iterator over a tuple out -/
def rListIt (K : PySem.W.Frag) (C : Addr) (sp : Sp) (E : XK) : List V → Hp → VK → Prop := fun xs H Q => ∃ a dx fs, xs = [.ref a] ∧ H a = some (.ins C dx fs) ∧
  ∀ q, H q = none → sp [.ref a] (upd H q (.lst [])) (fun v H' => ∃ it t zs, v = .ref it ∧ H' it = some (ItT t it 0) ∧ SqT K H' t zs ∧ t ≠ it ∧ t ≠ q ∧ q ≠ it ∧ H' q = some (.lst []) ∧ H' a = some (.ins C dx fs) ∧ zs.length ≤ 1000 ∧
    ∀ H'', (∀ b, b ≠ it → b ≠ q → H'' b = H' b) → H'' q = some (.lst zs) → H'' it ≠ none → Q (.ref q) H'') E
variable {CI : CXT} {C fi : Addr} {fdI : FuncData} {psI : List Str} {spI : Sp} {EI : XK} {n : Nat}
theorem extend_it {a dx q : Addr} {fs : List (Str × V)} {Hq : Hp} {Q : VK} (sb : Sub X n X.A.in1.in1) (hA : X.A.in1.handled = none) (hc : ItK X.K C fi) (FI : FnOk X.prog X.w X.K X.mg X.base CI n fi fdI psI spI) (bI : Binds X.K fdI psI []) (xI : Passes CI X EI) (I2 : Inv X pins σ Hq s) (hqq : Hq q = some (.lst [])) (ha2 : Hq a = some (.ins C dx fs))
    (hsp : spI [.ref a] Hq (fun v H' => ∃ it t zs, v = .ref it ∧ H' it = some (ItT t it 0) ∧ SqT X.K H' t zs ∧ t ≠ it ∧ t ≠ q ∧ q ≠ it ∧ H' q = some (.lst []) ∧ H' a = some (.ins C dx fs) ∧ zs.length ≤ 1000 ∧
      ∀ H'', (∀ b, b ≠ it → b ≠ q → H'' b = H' b) → H'' q = some (.lst zs) → H'' it ≠ none → Q (.ref q) H'') EI) :
    wpAny (model X.prog X.w) X.A.in1.in1 (Builtin.List.listExtendWith (.ref q) (.ref a) .none)
      (fun fin s' => match fin with | .done f => wants (fun r s₂ => r = .none ∧ EP X pins σ Q (.ref q) s₂) X.xe (.ok f) s' | .again c' => c'.quiet = true ∧ codeAny (model X.prog X.w) X.A.in1 c' (wants (fun r s₂ => r = .none ∧ EP X pins σ Q (.ref q) s₂) X.xe) s') (fun e s' => wants (fun r s₂ => r = .none ∧ EP X pins σ Q (.ref q) s₂) X.xe (.error e) s') s := by
  have hne : q ≠ a := ne_of hqq ha2 (fun z => nomatch z)
  obtain ⟨mA, J, _⟩ := ins_get I2.hok ha2
  obtain ⟨od, J, _⟩ := J.look
  obtain ⟨m0, hF⟩ := I2.fr
  unfold Builtin.List.listExtendWith
  refine wpAny_bind (J.type.here ?_)
  have h1 : Builtin.List.listSameRef (.ref q) (.ref a) = false := by simp [Builtin.List.listSameRef, hne]
  have h2 : (Value.ref C == Value.type "list") = false := rfl
  have h3 : (Value.ref C == Value.type "tuple") = false := rfl
  simp only [h1, h2, h3, Bool.or_false, Bool.false_eq_true, if_false]
  refine wpAny_bind (PySem.W.owit_iter hF I2.ok.mod.kin J hc.it hc.itF ?_)
  have e0 : Env0 X.prog X.w X.K X.mg X.base X.A.in1.in1 X.stack s Hq := by
    have e := I2.env0
    exact ⟨by rw [sb.fr]; exact e.frames, e.mod, e.bs, e.bsz, e.funs, e.frf, e.hok, e.bare⟩
  have hl := FI.len _ _ _ _ hsp
  have r2 : Vals [V.ref a] [Value.ref a] := .cons rfl .nil
  refine wpAny_call (codeAny_mono (FI.run X.A.in1.in1 X.stack s Hq ⟨[.ref a], []⟩ [.ref a] [.ref a] _ EI sb.room e0 (by
    have := bI s [.ref a] I2.kIn (by simpa using hl)
    simpa using this) r2 hsp) fun r s' hq' => ?_)
  cases r with
  | error e => exact xI pins σ Hq s e s' I2 hq'
  | ok fl =>
    cases fl with
    | next => exact False.elim hq'
    | brk => exact False.elim hq'
    | cont => exact False.elim hq'
    | ret u =>
      obtain ⟨v, H', I', rv, it, t, zs, ev, hit, hT, nti, ntq, nqi, hq2, ha', hz, q2⟩ := I2.after hq'
      subst ev
      cases rv
      unfold PySem.W.OwitIt
      have hty := (itT_get I' hit).typeIs (s := s')
      refine wpAny_specialOf hty F.slot_tuple_iterator_next.lookup ?_
      obtain ⟨mA', J', _⟩ := ins_get I'.hok ha'
      obtain ⟨od', J', _⟩ := J'.look
      refine wpAny_bind (wpAny_holding (hintK hc I'.kIn J' ?_))
      obtain ⟨z, its, k, r3, hl3, e3⟩ := I'.lstM hq2
      cases r3
      have hloop : ∀ s2, Inv X pins σ H' s2 → codeAny (model X.prog X.w) X.A.in1 (.builtin "list.extend.loop" ⟨[.ref q, .ref it, .none], []⟩) (wants (fun r s₂ => r = .none ∧ EP X pins σ Q (.ref q) s₂) X.xe) s2 := fun s2 I4 =>
        it_loop (A1 := X.A.in1) hA nqi nti hT ntq hz (fun H5 s5 I5 a1 a2 a3 => ⟨rfl, .ref q, H5, I5, rfl, q2 H5 a1 a2 a3⟩) _ 0 H' s2 rfl (Nat.zero_le _) I4 (fun _ _ _ => rfl) hq2 hit
      refine wpAny_ite_split (fun _ => ?_) (fun _ => wpAny_pure ⟨plainId_quiet PySem.F.plain_extend_loop _, hloop s' I'⟩)
      refine wpAny_bind (wpAny_rule ?_)
      refine wpAny_bind ?_
      show wpAny _ _ (updateSeq q (·.push .none) >>= fun _ => updateSeq q (·.pop)) _ _ _
      refine wpAny_bind (wpAny_updateSeq e3 rfl ?_)
      have I3 := I'.lset (f := (·.push Value.none)) (its' := [Value.none]) (ys := [.non]) (t' := s'.toks) hq2 e3 (by simp) (.cons rfl .nil) (by rw [List.length_singleton, sizeLine_eq]; decide)
      obtain ⟨z4, its4, k4, r4, hl4, e4⟩ := I3.lstM upd_same
      obtain ⟨u4, rfl, ru4⟩ := r4.one
      refine wpAny_updateSeq e4 rfl ?_ (by show 1 ≤ sizeLine; rw [sizeLine_eq]; decide) (by show 0 ≤ sizeLine + 1; exact Nat.zero_le _)
      refine wpAny_pure ⟨plainId_quiet PySem.F.plain_extend_loop _, hloop _ ?_⟩
      have I5 := I3.lset (f := (·.pop)) (its := [u4]) (its' := []) (ys := []) (t' := s'.toks) upd_same e4 (by rfl) .nil (Nat.zero_le _)
      rw [upd_upd] at I5
      have hH : upd H' q (.lst []) = H' := by
        funext b
        by_cases hb : b = q
        · rw [hb, upd_same, hq2]
        · rw [upd_ne hb]
      rw [hH] at I5
      exact I5
theorem call_listIt (hc : ItK X.K C fi) (FI : FnOk X.prog X.w X.K X.mg X.base CI n fi fdI psI spI) (bI : Binds X.K fdI psI []) (xI : Passes CI X EI) (hr : Room (n + 2) X.A) : CallR X (.type "list") (rListIt X.K C spI EI) := by
  intro pins s σ H xs us Q I rv h
  obtain ⟨a, dx, fs, rfl, ha, hq⟩ := h
  obtain ⟨u, rfl, ru⟩ := rv.one
  cases ru
  have sb : Sub X n X.A.in1.in1 := (Sub.in1 (Sub.in1 (⟨hr, rfl⟩ : Sub X (n + 2) X.A)))
  refine callType_codes (Q₁ := fun obj s₁ => obj = .ref s.heap.objs.size ∧ s₁ = { s with heap := s.heap.push { cls := .type "list", data := .seq #[] } }) PySem.F.called_list (PySem.F.typeCall_list_1 _) PySem.F.entry_list_init
    (code_list_new _ ⟨rfl, rfl⟩) fun obj s₁ h₁ => ?_
  obtain ⟨rfl, rfl⟩ := h₁
  have hS : (s.heap.push { cls := .type "list", data := .seq #[] }).get? s.heap.objs.size = some { cls := .type "list", data := .seq #[] } := Heap.get?_push_size _ rfl
  refine ⟨⟨_, hS, rfl⟩, PySem.F.args_list_init_2 _ _, ?_⟩
  have fr : H s.heap.objs.size = none := I.hok.fresh (Nat.le_refl _)
  have hsp := hq _ fr
  have I1 : Inv X pins σ (upd H s.heap.objs.size (.lst [])) { s with heap := s.heap.push { cls := .type "list", data := .seq #[] } } := I.lnew (its := []) (t' := s.toks) .nil (Nat.zero_le _)
  show wpAny _ _ (do let old ← Builtin.List.listItems (.ref s.heap.objs.size); Builtin.List.listUpdate (.ref s.heap.objs.size) (fun _ => #[]); letGo old.toList.reverse; Builtin.List.listExtendWith (.ref s.heap.objs.size) (.ref a) .none) _ _ _
  refine wpAny_bind ?_
  unfold Builtin.List.listItems
  refine wpAny_bind (wpAny_seqItems hS rfl (wpAny_pure ?_))
  show wpAny _ _ (updateSeq s.heap.objs.size (fun _ => #[]) >>= fun _ => letGo (#[] : Array Value).toList.reverse >>= fun _ => Builtin.List.listExtendWith (.ref s.heap.objs.size) (.ref a) .none) _ _ _
  refine wpAny_bind (wpAny_updateSeq hS rfl ?_)
  have I2 := I1.lset (f := fun _ => #[]) (its := []) (its' := []) (ys := []) (t' := s.toks) upd_same hS rfl .nil (Nat.zero_le _)
  rw [upd_upd] at I2
  refine wpAny_bind (wpAny_letGo ?_)
  have ha2 : upd H s.heap.objs.size (.lst []) a = some (.ins C dx fs) := by rw [upd_ne (ne_of_none ha fr)]; exact ha
  exact extend_it sb hr.hd hc FI bI xI I2 upd_same ha2 hsp
end
end D

namespace D
open PySem PySem.Spec PyProof.Rows L2
/-! ### texts as rows of signs -/
abbrev sg (z : Str) : List Nat := z.cps.toList
theorem sg_len (z : Str) : (sg z).length = z.length := Array.length_toList
theorem sg_ext {a b : Str} (h : sg a = sg b) : a = b := by
  cases a
  cases b
  congr 1
  exact Array.toList_inj.mp h
theorem sg_app (a b : Str) : sg (a ++ b) = sg a ++ sg b := Array.toList_append
theorem sg_one (c : Nat) : sg ⟨#[c]⟩ = [c] := rfl
theorem sg_cut (z : Str) (k : Nat) : sg (cutS z none (some (k : Int))) = (sg z).take k := by
  unfold cutS
  show ((z.cps.toList.drop 0).take (HT.sIx z.length z.length (some (k : Int)) - 0)) = _
  rw [HT.sIx_nat, List.drop_zero, Nat.sub_zero, ← sg_len]
  by_cases c : k ≤ (sg z).length
  · rw [Nat.min_eq_left c]
  · rw [Nat.min_eq_right (by omega), List.take_of_length_le (Nat.le_refl _), List.take_of_length_le (by omega)]
theorem sg_from (z : Str) (k : Nat) : sg (cutS z (some (k : Int)) none) = (sg z).drop k := by
  unfold cutS
  show ((z.cps.toList.drop (HT.sIx z.length 0 (some (k : Int)))).take (HT.sIx z.length z.length none - HT.sIx z.length 0 (some (k : Int)))) = _
  rw [HT.sIx_nat, HT.sIx_none, ← sg_len]
  by_cases c : k ≤ (sg z).length
  · rw [Nat.min_eq_left c, List.take_of_length_le (by rw [List.length_drop]; exact Nat.le_refl _)]
  · rw [Nat.min_eq_right (by omega), List.drop_of_length_le (Nat.le_refl _), List.drop_of_length_le (by omega)]
    simp
theorem sg_join0 : ∀ ys : List Str, sg (Str.join (Str.ofString "") ys) = (ys.map sg).flatten
  | [] => rfl
  | [y] => by
    show sg y = _
    simp
  | x :: y :: r => by
    show sg (x ++ (Str.ofString "") ++ Str.join (Str.ofString "") (y :: r)) = _
    rw [sg_app, sg_app, sg_join0 (y :: r), show sg (Str.ofString "") = [] from by decide +kernel]
    simp
end D

namespace D
open PySem PySem.Spec PyProof.Rows L2
/-! ### errors whose suites call defs -/
section
variable {X : Cx} {e : Expr} {es : List Expr} {ta : TA} {p pos : Pos}
/-- the making of an own error, outside of a suite, for the ways out that tell its context -/
theorem pmk_oexN {CX : CXT} {x : Str} {C fI : Addr} {k : Nat} {fd : FuncData} {ps : List Str} {sp : Sp} {ds : List Value} {dvs : List V} (T : OexC X.K C) (iC : PySem.W.findIn X.K (.ref C) "__init__" = some (some (.ref fI))) (tI : PySem.W.typeIn X.K (.ref fI) = some (.type "function"))
    (F1 : FnOk X.prog X.w X.K X.mg X.base CX k fI fd ps sp) (hr : Room (k + 1) X.A) (hb : Binds X.K fd ps ds) (hd : Vals dvs ds) (hx : Passes CX X (fun _ _ _ => False)) (hg : Gl X x) (hm : X.mg x = some (.ref C)) (ha : PA X (e :: es) ta)
    (hdb : (x == ("__debug__" : Str)) = false := by decide) (he : starEach (e :: es) X.env = (false, eval e X.env) :: starEach es X.env := by rfl) (hpl : (backTo pos (starEach es X.env)).any (·.1) = false := by rfl) :
    L2N.PMk X (.Call (.Name x p) (e :: es) [] pos) (tMkO C sp dvs ta) := by
  intro pins s σ H Q I h
  obtain ⟨nm, q, N, bs, bm, sn, sub, ab, col, dd, k0, k1, k2, k3, k5, hC, hbm⟩ := T.cls
  refine wpAny_Call_Name_kw (ld_glob I hg hm ?_ hdb)
  refine PySem.W.callWith_K (h₀ := X.base) I.ok.mod.kin T.kC (thn (ha.run pos pins s σ H _ I h) fun us s1 ⟨vs, H1, I1, r1, hz, q1⟩ => ⟨I1.kIn, ?_⟩) he hpl
  show wpAny _ _ (call (.ref C) us) _ _ _
  obtain ⟨hp, g, dr, tk, os⟩ := s1
  have hsz : hp.objs.size ≤ hp.objs.size + 1 := Nat.le_succ _
  have hn : H1 (hp.objs.size + 1) = none := I1.hok.fresh hsz
  have hq := q1 (hp.objs.size + 1) hn
  have kk : ∀ b o, hp.get? b = some o → ((hp.push (PySem.W.kdv_tup us)).push (PySem.HandSPX.excO C hp.objs.size)).get? b = some o := fun b o e => Heap.get?_push_of_some _ (Heap.get?_push_of_some _ e)
  have hget : ((hp.push (PySem.W.kdv_tup us)).push (PySem.HandSPX.excO C hp.objs.size)).get? (hp.objs.size + 1) = some (PySem.HandSPX.excO C hp.objs.size) := by heap_get
  have I2 : Inv X pins σ (upd H1 (hp.objs.size + 1) (exo (hp.objs.size + 1) C none)) ⟨(hp.push (PySem.W.kdv_tup us)).push (PySem.HandSPX.excO C hp.objs.size), g, dr, tk, os⟩ :=
    I1.laid (t' := tk) (a := hp.objs.size + 1) (o := exo (hp.objs.size + 1) C none) (h' := (hp.push (PySem.W.kdv_tup us)).push (PySem.HandSPX.excO C hp.objs.size)) kk hsz (exo_ok hget)
  have r2 : Vals (V.ref (hp.objs.size + 1) :: (vs ++ dvs)) (Value.ref (hp.objs.size + 1) :: (us ++ ds)) := .cons rfl (r1.append hd)
  have hl : (Value.ref (hp.objs.size + 1) :: us ++ ds).length = ps.length := by
    have e := r2.length
    rw [F1.len _ _ _ _ hq] at e
    exact e.symm
  have hus : us.length ≤ sizeLine := by
    rw [← Paired.length r1, sizeLine_eq]
    omega
  refine wpAny_call (PySem.HandSPX.call_own F.excBase_ValueError (fun Y => PySem.HandSPX.refsVE_contains Y bm hbm) (I1.kIn _ _ hC) (PySem.W.looks_findIn I1.kIn iC) (fun self => PySem.W.bind_fn I1.kIn self tI) hus
    (codeAny_mono (F1.run _ X.stack _ _ ⟨Value.ref (hp.objs.size + 1) :: us, []⟩ (Value.ref (hp.objs.size + 1) :: (us ++ ds)) _ _ (fun _ _ _ => False) (hr.make C us []) (I2.env0.make C us []) (hb _ (Value.ref (hp.objs.size + 1) :: us) I2.kIn hl) r2 hq) fun r s' hq' => ?_))
  cases r with
  | error er => exact hx pins σ _ _ er s' I2 hq'
  | ok fl =>
    cases fl with
    | ret u =>
      obtain ⟨v, H2, os2, bare2, un2, hok2, rv, ev, d, fs, ea, ed, hd1, q2⟩ := hq'
      subst ev
      obtain ⟨h2, g2, d2, t2, os'⟩ := s'
      obtain ⟨t0, G, J, kG, ge, hoe, na⟩ := mk_end0 (d2 := d2) (t2 := t2) I1 hsz kk un2 hok2 os2 bare2 ea ed hd1
      refine ⟨rv, ⟨hp.objs.size + 1, _, _, ⟨G, g2, d2, t2, os'⟩, _, .ref C, some d, rfl, J, kG, ge, hoe, ⟨rfl, rfl, fun vs hv => ?_⟩, rfl, rfl, na, rfl, bare2, raises_own T.exC T.tyC, q2⟩⟩
      cases hv
      rfl
    | next => exact False.elim hq'
    | brk => exact False.elim hq'
    | cont => exact False.elim hq'
end
section
variable {P : Program} {w : World} {K : PySem.W.Frag} {mg : Str → Option Value} {base : Heap}
/-- as Fun.okX, for the ways out that tell the error's context -/
theorem Fun.okXN {x qual : Str} {st : Stmt} {f : Addr} {fd : FuncData} {N ps : List Str} {k : Nat} {sp : Sp} (F : Fun K x qual st f fd) (S : FnScope N ps (defScope st)) (len : ∀ vs H Q E, sp vs H Q E → vs.length = ps.length)
    (hbody : ∀ (cdv : Value) (A : Around) (outer : List Env) (s : Shared) (H : Hp) (vs : List V) (Q : VK) (E : XK), Room k (A.deeper (envOfC qual (defScope st) s.heap.objs.size f cdv)) → sp vs H Q E →
      ∃ t, PSs (cxOf (L2N.CX P w) P w K mg base N qual (defScope st) f cdv A outer s H E) (defBody st) t ∧ t { nx := fun _ H' => Q .non H', rt := Q } (start N vs) H) : FnOk P w K mg base (L2N.CX P w) (k + 1) f fd ps sp := by
  obtain ⟨oc, od, kV, doc, pm, an, cdv, ct, osl, rfl, lk, hcd⟩ := F.ex
  exact fn_of lk hcd S len fun A outer s H vs Q E hr hsp => hbody cdv A outer s H vs Q E hr hsp
theorem takes0N {X : Cx} : L2N.Takes X (fun _ _ _ _ => False) := fun _ _ x => by
  obtain ⟨_, _, _, _, _, _, _, _, _, _, _, _, _, _, _, _, z⟩ := x
  exact z.elim
/-- as Fun.ok, for a def that is called in an except suite -/
theorem Fun.okH {x qual : Str} {st : Stmt} {f : Addr} {fd : FuncData} {N ps : List Str} {k : Nat} {sp : Sp} (F : Fun K x qual st f fd) (S : FnScope N ps (defScope st)) (len : ∀ vs H Q E, sp vs H Q E → vs.length = ps.length)
    (hbody : ∀ (cdv : Value) (A : Around) (outer : List Env) (s : Shared) (H : Hp) (vs : List V) (Q : VK) (E : XK) (p : Addr × Obj), L2H.RoomH k (A.deeper (envOfC qual (defScope st) s.heap.objs.size f cdv)) → sp vs H Q E →
      ∃ t, PSs (L2H.cxH CX0 P w K mg base N qual (defScope st) f cdv A outer s H E p) (defBody st) t ∧ t { nx := fun _ H' => Q .non H', rt := Q } (start N vs) H) : L2H.FnH P w K mg base CX0 (k + 1) f fd ps sp := by
  obtain ⟨oc, od, kV, doc, pm, an, cdv, ct, osl, rfl, lk, hcd⟩ := F.ex
  exact L2H.fn_ofH lk hcd S len fun A outer s H vs Q E p hot hr hsp => hbody cdv A outer s H vs Q E p hr hsp
theorem hot_suite {X : Cx} {a : Addr} {oe : Obj} {cls : Value} {d : Option Addr} {pn : List (Addr × Obj)} (hz : L2N.Zn cls d oe) (hf : ∃ vs, oe.data = .fields vs) : L2H.HotC (X.suite a ((a, oe) :: pn)) := by
  obtain ⟨vs, hv⟩ := hf
  exact ⟨(a, oe), ⟨rfl, vs, hv, hz.2.2 vs hv⟩, List.mem_cons_self⟩
theorem room_suite {k j : Nat} {A : Around} (r : Room k A) (h : j ≤ k) (v : Option Value) : L2H.RoomH j (A.mark v) := L2H.RoomH.mono ⟨r.dp, r.un⟩ h
theorem passH {X : Cx} {E : L2.St → XK} : ∀ σ, PassesAt CX0 X σ (E σ) := fun _ _ _ _ _ _ _ h => h.elim
end
end D

/-! defs that show data as text: no guard of a repr stands open where they are called -/
namespace D
open PySem PySem.Spec PyProof.Rows L2
section
variable {P : Program} {w : World} {K : PySem.W.Frag} {mg : Str → Option Value} {base : Heap} {CX : CXT} {k : Nat} {f : Addr} {fd : FuncData} {ps : List Str} {sp : Sp}
/-- as FnOk, called where no guard stands open -/
structure FnG (P : Program) (w : World) (K : PySem.W.Frag) (mg : Str → Option Value) (base : Heap) (CX : CXT) (k : Nat) (f : Addr) (fd : FuncData) (ps : List Str) (sp : Sp) : Prop where
  ln : ∀ vs H Q E, sp vs H Q E → vs.length = ps.length
  go : ∀ (A : Around) (fr : List Env) (s : Shared) (H : Hp) (args : Args) (us : List Value) (vs : List V) (Q : VK) (E : XK), A.guards = some [] → Room k A → Env0 P w K mg base A fr s H → BindsTo s fd args (ps.zip us) → Vals vs us → sp vs H Q E → codeAny (model P w) A (.call (.ref f) args) (CR CX fr P w H s Q E) s
theorem FnG.of (F : FnOk P w K mg base CX k f fd ps sp) : FnG P w K mg base CX k f fd ps sp := ⟨F.len, fun A fr s H args us vs Q E _ hr he hb hv hs => F.run A fr s H args us vs Q E hr he hb hv hs⟩
theorem FnG.bodyG {name qual : Str} {pr : Arguments} {body : List Stmt} {sc : Scope} {dV kV doc pm c ct oc : Value} {an od : Option Addr} {osl : Array (Option Value)} {N : List Str}
    (lk : K.lookup f = some ⟨oc, od, .func (PySem.W.fnOf name qual pr body sc dV kV doc pm an c ct), osl⟩) (hc : PySem.W.codeIn K c qual = true) (S : FnScope N ps sc) (ln : ∀ vs H Q E, sp vs H Q E → vs.length = ps.length)
    (hb : ∀ (A : Around) (fr : List Env) (s : Shared) (H : Hp) (vs : List V) (Q : VK) (E : XK), (A.deeper (envOfC qual sc s.heap.objs.size f c)).guards = some [] → Room k (A.deeper (envOfC qual sc s.heap.objs.size f c)) → sp vs H Q E →
      ∃ t, PSs (cxOf CX P w K mg base N qual sc f c A fr s H E) body t ∧ t { nx := fun _ H' => Q .non H', rt := Q } (start N vs) H) : FnG P w K mg base CX (k + 1) f (PySem.W.fnOf name qual pr body sc dV kV doc pm an c ct) ps sp := by
  refine ⟨ln, fun A fr s H args us vs Q E gd hr e0 bd rv hs => ?_⟩
  have n1 := ln _ _ _ _ hs
  have kin : K.In s.heap := e0.mod.kin.keeps fun x o e => (e0.bs x o e).1
  have nl : s.heap.NoLimit := e0.mod.nolimit.keeps fun x o e => (e0.bs x o e).1
  have kd : ∀ y ∈ ps.zip us, sc.names.lookup y.1 = some .local ∨ (sc.names.lookup y.1 = some .cell ∧ ((cellsFrom (s.heap.objs.size + 1) sc.names []).lookup y.1).isSome = true) := by
    rintro ⟨m, v⟩ hy
    exact (S.par m (List.of_mem_zip hy).1).imp id fun z => ⟨z, PySem.W.cellsFrom_some _ _ _ (.inl z)⟩
  refine codeAny_call_function hr.depth (kin _ _ lk) rfl S.co S.gen rfl (PySem.W.codeRec_of kin hc) (bd _ _ _ _ (wpAny_newFunctionEnv_cells S.kind kd fun ev he s1 x => ?_))
  cases he
  refine ⟨nl.keeps x.toInCall.keep, codeAny_func ?_⟩
  obtain ⟨t, ht, hq⟩ := hb A fr s H vs Q E gd (hr.deeper _) hs
  refine wpAny_mono (ht.run [] s1 (start N vs) H _ (inv_start S hr.hd e0 n1 rv x) hq) (fun fl s' z => ?_) fun e s' z => z
  cases fl with
  | ret u =>
    obtain ⟨v, σ', H', J, r, q⟩ := z
    exact ⟨v, H', J.os, J.bare, J.base, J.hok, r, q⟩
  | next =>
    obtain ⟨σ', H', J, q⟩ := z
    exact ⟨V.non, H', J.os, J.bare, J.base, J.hok, rfl, q⟩
  | brk =>
    obtain ⟨_, _, _, z⟩ := z
    exact False.elim z
  | cont =>
    obtain ⟨_, _, _, z⟩ := z
    exact False.elim z
theorem Fun.okG {x qual : Str} {st : Stmt} {N : List Str} (F : Fun K x qual st f fd) (S : FnScope N ps (defScope st)) (ln : ∀ vs H Q E, sp vs H Q E → vs.length = ps.length)
    (hb : ∀ (c : Value) (A : Around) (fr : List Env) (s : Shared) (H : Hp) (vs : List V) (Q : VK) (E : XK), (A.deeper (envOfC qual (defScope st) s.heap.objs.size f c)).guards = some [] → Room k (A.deeper (envOfC qual (defScope st) s.heap.objs.size f c)) → sp vs H Q E →
      ∃ t, PSs (cxOf CX0 P w K mg base N qual (defScope st) f c A fr s H E).nox (defBody st) t ∧ t { nx := fun _ H' => Q .non H', rt := Q } (start N vs) H) : FnG P w K mg base CX0 (k + 1) f fd ps sp := by
  obtain ⟨oc, od, kV, doc, pm, an, c, ct, osl, rfl, lk, hc⟩ := F.ex
  refine FnG.bodyG lk hc S ln fun A fr s H vs Q E gd hr hs => ?_
  obtain ⟨t, h, q⟩ := hb c A fr s H vs Q E gd hr hs
  exact ⟨t, h.nox, q⟩
end
section
variable {X : Cx} {CX : CXT} {k : Nat} {f : Addr} {fd : FuncData} {ps : List Str} {sp : Sp} {E : XK} {x : Str} {p pos : Pos} {e : Expr} {es : List Expr} {t : TA}
theorem run_fnG {pins : List (Addr × Obj)} {σ : L2.St} {H : Hp} {s : Shared} {Q : VK} {us : List Value} {vs : List V} (F : FnG X.prog X.w X.K X.mg X.base CX k f fd ps sp) (gd : X.A.guards = some []) (hr : Room k X.A) (hb : Binds X.K fd ps []) (hx : Passes CX X E)
    (I : Inv X pins σ H s) (r : Vals vs us) (h : sp vs H Q E) : wpAny (model X.prog X.w) X.A (call (.ref f) us) (EP X pins σ Q) X.xe s := by
  have hl : (us ++ ([] : List Value)).length = ps.length := by rw [List.append_nil, ← r.length]; exact F.ln _ _ _ _ h
  have bd := hb s us I.kIn hl
  rw [List.append_nil] at bd
  refine wpAny_call (codeAny_mono (F.go X.A X.stack s H ⟨us, []⟩ us vs Q E gd hr I.env0 bd r h) fun z s' hq => ?_)
  cases z with
  | error er => exact hx pins σ H s er s' I hq
  | ok fl =>
    cases fl with
    | ret u => exact I.after hq
    | next => exact hq.elim
    | brk => exact hq.elim
    | cont => exact hq.elim
theorem pe_callG (F : FnG X.prog X.w X.K X.mg X.base CX k f fd ps sp) (gd : X.A.guards = some []) (hr : Room k X.A) (hg : Gl X x) (hm : X.mg x = some (.ref f)) (hk : PySem.W.keepIn X.K (.ref f) = true) (hb : Binds X.K fd ps []) (hx : Passes CX X E) (ha : PA X (e :: es) t)
    (hdb : (x == ("__debug__" : Str)) = false := by decide) (he : starEach (e :: es) X.env = (false, eval e X.env) :: starEach es X.env := by rfl) (hpl : (backTo pos (starEach es X.env)).any (·.1) = false := by rfl) : PE X (.Call (.Name x p) (e :: es) [] pos) (tCall sp [] E t) := by
  refine ⟨fun pins s σ H Q I h => wpAny_Call_Name_kw (ld_glob I hg hm ?_ hdb)⟩
  refine PySem.W.callWith_K (h₀ := X.base) I.ok.mod.kin hk (thn (ha.run pos pins s σ H _ I h) fun us s1 ⟨vs, H1, I1, r, q⟩ => ⟨I1.kIn, ?_⟩) he hpl
  have q0 : sp (vs ++ []) H1 Q E := q
  rw [List.append_nil] at q0
  exact run_fnG F gd hr hb hx I1 r q0
theorem pe_call0G (F : FnG X.prog X.w X.K X.mg X.base CX k f fd ps sp) (gd : X.A.guards = some []) (hr : Room k X.A) (hg : Gl X x) (hm : X.mg x = some (.ref f)) (hk : PySem.W.keepIn X.K (.ref f) = true) (hb : Binds X.K fd ps []) (hx : Passes CX X E)
    (hdb : (x == ("__debug__" : Str)) = false := by decide) : PE X (.Call (.Name x p) [] [] pos) (tCall sp [] E tNil) :=
  ⟨fun pins s σ H Q I h => wpAny_Call_Name_kw (ld_glob I hg hm (PySem.W.callWith_K0 I.kIn hk (run_fnG (us := []) (vs := []) F gd hr hb hx I .nil h)) hdb)⟩
/-- repr of data -/
theorem call_reprD (gd : X.A.guards = some []) (hu : X.A.units + 200 < cLine) : CallR X (.builtin "repr") (fun xs H Q => ∃ a d, xs = [.ref a] ∧ Dp X.K H (.ref a) d ∧ d.showable = true ∧ d.hasDict = false ∧ d.depth ≤ 64 ∧ d.shown.length ≤ sizeLine ∧ Q (.str d.shown) H) := by
  intro pins s σ H xs us Q I r h
  obtain ⟨a, d, rfl, hd, h1, h2, h3, h4, q⟩ := h
  obtain ⟨u, rfl, ru⟩ := vals1 r
  obtain ⟨as, rd⟩ := Dp.reads I d _ _ hd ru
  cases ru
  exact repr_of_reads' rd h1 (fun z => by rw [h2] at z; cases z) gd (by omega) (fun b o e => e) (fun h' u tk hk => ⟨.str d.shown, H, I.kept hk, ⟨u, rfl⟩, q⟩) h4
end
end D
/-! ### all kinds -/
namespace D
open PySem PySem.Spec PyProof.Rows L2
section
variable {X : Cx}
/-- repr of data of any kind -/
theorem call_reprV (gd : X.A.guards = some []) (hu : X.A.units + 200 < cLine) : CallR X (.builtin "repr") (fun vs H Q => ∃ v d, vs = [v] ∧ Dp X.K H v d ∧ d.showable = true ∧ d.hasDict = false ∧ d.depth ≤ 64 ∧ d.shown.length ≤ sizeLine ∧ Q (.str d.shown) H) := by
  rintro pins s σ H vs us Q I r ⟨v, d, rfl, hd, h1, h2, h3, h4, q⟩
  cases hd with
  | lst h k => exact call_reprD gd hu pins s σ H _ us Q I r ⟨_, _, rfl, .lst h k, h1, h2, h3, h4, q⟩
  | tup h k => exact call_reprD gd hu pins s σ H _ us Q I r ⟨_, _, rfl, .tup h k, h1, h2, h3, h4, q⟩
  | non =>
    obtain ⟨u, rfl, ru⟩ := vals1 r
    cases (show u = Value.none from ru)
    rw [PyData.shown_none] at q
    exact PySem.P.repr_of_none ⟨.str _, H, I.tok _, ⟨_, rfl⟩, q⟩
  | bl b =>
    obtain ⟨u, rfl, ru⟩ := vals1 r
    cases (show u = Value.bool b from ru)
    rw [PyData.shown_bool] at q
    exact PySem.P.repr_of_bool ⟨.str _, H, I.tok _, ⟨_, rfl⟩, q⟩
  | int i =>
    obtain ⟨u, rfl, t, rfl⟩ := vals1 r
    rw [PyData.shown_int] at q
    exact PySem.P.repr_of_int (of_decide_eq_true h1) ⟨.str _, H, I.tok _, ⟨_, rfl⟩, q⟩
  | str y =>
    obtain ⟨u, rfl, t, rfl⟩ := vals1 r
    rw [PyData.shown_str] at q h4
    exact PySem.P.repr_of_str ⟨.str _, H, I.tok _, ⟨_, rfl⟩, q⟩ h4
end
end D
namespace D
open PySem PySem.Spec PyProof.Rows L2
/-- join, its row's part of the module named -/
theorem pe_joinK {X : Cx} {K : PySem.W.Frag} {o e : Expr} {to te : TE} {apos pos : Pos} (h : X.K = K) (ho : PE X o to) (he : PE X e te) (hs : starEach [e] X.env = [(false, eval e X.env)] := by rfl) (hb : attributeBase o "join" X.env (eval o X.env) = eval o X.env := by rfl) (hl : (apos.endLine == pos.line) = true := by rfl) :
    PE X (.Call (.Attribute o "join" apos) [e] [] pos) (tM1 (fun x xs H Q => ∃ a p, ∃ ys : List Str, x = .str a ∧ xs = [.ref p] ∧ (SqL K H p (ys.map V.str) ∨ SqT K H p (ys.map V.str)) ∧ (ys.map (·.length)).sum + ys.length * a.length ≤ 16777216 ∧ Q (.str (Txt.join a ys)) H) to te) := by
  subst h
  exact pe_join ho he hs hb hl
end D
/-! ### the law's own call: no guard stands open there -/
namespace D
open PySem PySem.Spec PyProof.Rows L2
theorem un200 {A : Around} {k : Nat} (r : Room k A) : A.units + 200 < cLine := by
  have z := r.un
  omega
section
variable {P : Program} {w : World} {K : PySem.W.Frag} {mg mb : Str → Option Value} {CX : CXT} {k : Nat} {fa a : Addr} {fd : FuncData} {x : Str} {sp : Sp} {z : Shared} {us : List Value} {ns : List Int}
theorem top_run (kx : K.In z.heap) (h1 : z.heap.Ns mainGlobals mg) (h2 : z.heap.Ns builtinsNs mb) (h3 : ∀ y : Str, y ≠ "__name__" → mb y = bootBuiltins y) (h4 : z.heap.NoLimit) (h5 : z.gens = #[]) (ha : z.heap.get? a = some { cls := .type "list", data := .seq us.toArray })
    (hr : Room k callerA) (F : ∀ base : Heap, K.In base → base.Ns mainGlobals mg → FnG P w K mg base CX k fa fd [x] sp) (bd : ∀ (s : Shared) (u : Value), BindsTo s fd ⟨[u], []⟩ [(x, u)]) (cx : ∀ H e s', CX [] H z (fun _ _ _ => False) e s' → False)
    {H : Hp} (only : Only H) (hsp : sp [.ref a] H (fun v _ => v = .bl true) fun _ _ _ => False) (hok : HOk P w H z.heap) (own : ∀ b, H b ≠ none → b = a ∧ K.lookup b = none) :
    codeAny (model P w) callerA (.call (.ref fa) ⟨[.ref a], []⟩) (fun r s' => r = .ok (.ret (.bool true)) ∧ OldK z.heap s'.heap ∧ s'.os = z.os ∧ AllBare s'.gens) z := by
  have out : ∀ {b : Addr} {o : Obj} {es : Array DictEntry} {n : Nat}, z.heap.get? b = some o → o.data = .dict es n → H b = none := fun {b o es n} e d => by
    by_cases q : H b = none
    · exact q
    · obtain ⟨rfl, _⟩ := own b q
      rw [ha] at e
      cases e
      cases (show Data.seq us.toArray _ = Data.dict es n from d)
  have ns' : ∀ {b : Addr} {m : Str → Option Value}, z.heap.Ns b m → (hidT z.heap H).Ns b m := fun {b m} h => by
    obtain ⟨o, es, n, e, d, r⟩ := h
    exact ⟨o, es, n, hidT_get e (out e d), d, r⟩
  have kb : K.In (hidT z.heap H) := fun b o e => by
    refine hidT_get (kx b o e) ?_
    by_cases q : H b = none
    · exact q
    · rw [(own b q).2] at e
      cases e
  obtain ⟨mc, l1, l2⟩ := h4
  have md : Mod K mg (hidT z.heap H) := ⟨kb, ns' h1, ⟨mb, ns' h2, h3⟩, mc, ns' l1, l2⟩
  have ev : Env0 P w K mg (hidT z.heap H) callerA [] z H := ⟨rfl, md, fun _ _ e => of_hidT e, by rw [hidT_size]; exact Nat.le_refl _, trivial, fun b m => (by cases m), hok, .of_eq h5⟩
  have run := (F _ kb (ns' h1)).go callerA [] z H ⟨[.ref a], []⟩ [.ref a] [.ref a] (fun v _ => v = .bl true) (fun _ _ _ => False) rfl hr ev (bd z (.ref a)) (.cons rfl .nil) hsp
  refine codeAny_mono run fun r s' c => ?_
  rcases r with er | fl
  · exact absurd c (cx H er s')
  · cases fl with
    | next => exact c.elim
    | brk => exact c.elim
    | cont => exact c.elim
    | ret u =>
      obtain ⟨v, H2, o1, b1, un, ok2, rv, ev⟩ := c
      cases (show v = V.bl true from ev)
      cases (show u = Value.bool true from rv)
      refine ⟨rfl, OldK.of_keep fun b o e => ?_, o1, b1⟩
      cases q : H b with
      | none => exact un.keep b o e q (fun m => by cases m) (fun m => by cases m)
      | some t =>
        rcases only b with y | ⟨ob, xs, y⟩
        · rw [q] at y; cases y
        · obtain ⟨e1, _⟩ := hok b _ y
          obtain ⟨e2, _⟩ := ok2 b _ (un.frzs b ob _ y)
          rw [e] at e1
          cases e1
          exact e2
end
theorem walk_ofG {l : PySem.W.OpenLaw} {n k : Nat} {q : Program} {loose : List Str} {XP : (Str → Option Value) → Heap → Prop} {YP : World → Heap → Prop} {d : DefRec} {K : Params → PySem.W.Frag} {sp : PySem.W.Frag → Sp} {x : Str}
    (hn : l.most = some n) (hn2 : n ≤ sizeLine) (hdf : d.params.defaults = []) (hr : Room k callerA) (hY : ∀ (w : World) (h : Heap), YP w h → (K w.params).In h)
    (F : ∀ (w : World) (mg : Str → Option Value) (fa : Addr) (h : Heap), (K w.params).In h → h.Ns mainGlobals mg → mg d.name = some (.ref fa) →
      ∃ fd : FuncData, (∀ (s : Shared) (u : Value), BindsTo s fd ⟨[u], []⟩ [(x, u)]) ∧ ∀ base : Heap, (K w.params).In base → base.Ns mainGlobals mg → FnG l.prog w (K w.params) mg base CX0 k fa fd [x] (sp (K w.params)))
    (hsp : ∀ (K : PySem.W.Frag) (H : Hp) (a : Addr) (ns : List Int), ns.length ≤ n → SqL K H a (ns.map V.int) → sp K [.ref a] H (fun v _ => v = .bl true) fun _ _ _ => False) :
    PySem.W.WalkO q loose XP YP l.row.toRowW d [] (fun f vs => PySem.call f vs) := by
  refine Att.attach_call hn hdf fun w s0 z mg mb fa o pm cd dc a us ns G Y ho hd hcd hm hob hi hle hg => ?_
  have kx := hY w _ Y
  obtain ⟨fd, bd, hF⟩ := F w mg fa _ kx G.T.g hm
  have lv := vals_ints hi
  have le1 : (ns.map V.int).length ≤ sizeLine := by
    rw [List.length_map]
    omega
  cases hk : (K w.params).lookup a with
  | some u =>
    have e := kx a u hk
    rw [hob] at e
    cases e
    have hS : SqL (K w.params) (fun _ => none) a (ns.map V.int) := .inr ⟨_, us.toArray, _, hk, rfl, rfl, rfl, by rw [List.size_toArray, ← lv.length]; exact le1, by simpa using lv⟩
    exact top_run kx G.T.g G.T.b G.T.builtins G.T.nolimit hg hob hr hF bd (fun _ _ _ c => c) (fun _ => .inl rfl) (hsp _ _ _ _ hle hS) (fun b t c => by cases (show (none : Option HO) = some t from c)) fun b c => absurd rfl c
  | none =>
    obtain ⟨H, eH⟩ : ∃ H : Hp, H = upd (fun _ => none) a (.frz { cls := .type "list", data := .seq us.toArray } (.lst (ns.map V.int))) := ⟨_, rfl⟩
    have ea : H a = some (.frz { cls := .type "list", data := .seq us.toArray } (.lst (ns.map V.int))) := by rw [eH]; exact upd_same
    have en : ∀ b, b ≠ a → H b = none := fun b c => by rw [eH]; exact upd_ne c
    refine top_run kx G.T.g G.T.b G.T.builtins G.T.nolimit hg hob hr hF bd (fun _ _ _ c => c) (H := H) (fun b => ?_) (hsp _ _ _ _ hle (.inl (.inr ⟨_, ea⟩))) (fun b t c => ?_) fun b c => ?_
    · by_cases e : b = a
      · exact .inr ⟨_, _, by rw [e]; exact ea⟩
      · exact .inl (en b e)
    · by_cases e : b = a
      · rw [e] at c
        rw [ea] at c
        cases c
        rw [e]
        exact ⟨hob, le1, us, _, lv, hob⟩
      · rw [en b e] at c
        cases c
    · by_cases e : b = a
      · rw [e]
        exact ⟨rfl, hk⟩
      · exact absurd (en b e) c
end D

namespace D
open PySem PySem.Spec PyProof.Rows L2
/-! ### defs that take any number of arguments -/
section
variable {P : Program} {w : World} {K : PySem.W.Frag} {mg : Str → Option Value} {base : Heap}
/-- what such a def promises: what is left over is a new tuple -/
def spStar (n : Nat) (sp : Sp) : Sp := fun vs H Q E => ∃ ws rest, vs = ws ++ rest ∧ ws.length = n ∧ rest.length ≤ sizeLine ∧ ∀ p, H p = Option.none → sp (ws ++ [V.ref p]) (upd H p (.tup rest)) Q E
theorem Fun.okS {x qual : Str} {st : Stmt} {f : Addr} {fd : FuncData} {N ps : List Str} {pv : Str} {k : Nat} {sp : Sp} (F : Fun K x qual st f fd) (S : FnScope N (ps ++ [pv]) (defScope st))
    (hb : ∀ (kV doc pm : Value) (an : Option Addr) (cdv ct : Value) (us rest : List Value), us.length = ps.length → bindArgs (PySem.W.fnOf x qual (defArgs st) (defBody st) (defScope st) .none kV doc pm an cdv ct) ⟨us ++ rest, []⟩ = (newTuple rest >>= fun t => pure (ps.zip us ++ [(pv, t)])))
    (body : ∀ (c : Value) (A : Around) (fr : List Env) (s : Shared) (H : Hp) (vs : List V) (Q : VK) (E : XK), Room k (A.deeper (envOfC qual (defScope st) s.heap.objs.size f c)) → sp vs H Q E →
      ∃ t, PSs (cxOf CX0 P w K mg base N qual (defScope st) f c A fr s H E) (defBody st) t ∧ t { nx := fun _ H' => Q .non H', rt := Q } (start N vs) H) : FnR P w K mg base CX0 (k + 1) f (spStar ps.length sp) := by
  obtain ⟨oc, od, kV, doc, pm, an, c, ct, osl, rfl, lk, hc⟩ := F.ex
  exact StX.fn_star lk hc S StX.cxUp_none (hb kV doc pm an c ct) fun A fr s H vs Q E hr hs => body c A fr s H vs Q E hr hs
end
section
variable {X : Cx} {CX : CXT} {k : Nat} {f : Addr} {sp : Sp} {E : XK} {x : Str} {p pos : Pos} {e : Expr} {es : List Expr} {t : TA}
theorem pe_callR (F : FnR X.prog X.w X.K X.mg X.base CX k f sp) (hr : Room k X.A) (hg : Gl X x) (hm : X.mg x = some (.ref f)) (hk : PySem.W.keepIn X.K (.ref f) = true) (hx : Passes CX X E) (ha : PA X (e :: es) t)
    (hdb : (x == ("__debug__" : Str)) = false := by decide) (he : starEach (e :: es) X.env = (false, eval e X.env) :: starEach es X.env := by rfl) (hpl : (backTo pos (starEach es X.env)).any (·.1) = false := by rfl) : PE X (.Call (.Name x p) (e :: es) [] pos) (tCall sp [] E t) := by
  refine ⟨fun pins s σ H Q I h => wpAny_Call_Name_kw (ld_glob I hg hm ?_ hdb)⟩
  refine PySem.W.callWith_K (h₀ := X.base) I.ok.mod.kin hk (thn (ha.run pos pins s σ H _ I h) fun us s1 ⟨vs, H1, I1, r, q⟩ => ⟨I1.kIn, ?_⟩) he hpl
  have q0 : sp (vs ++ []) H1 Q E := q
  rw [List.append_nil] at q0
  exact wpAny_call (run_fnR F hr hx I1 r q0)
theorem pe_callR0 (F : FnR X.prog X.w X.K X.mg X.base CX k f sp) (hr : Room k X.A) (hg : Gl X x) (hm : X.mg x = some (.ref f)) (hk : PySem.W.keepIn X.K (.ref f) = true) (hx : Passes CX X E)
    (hdb : (x == ("__debug__" : Str)) = false := by decide) : PE X (.Call (.Name x p) [] [] pos) (tCall sp [] E tNil) :=
  ⟨fun pins s σ H Q I h => wpAny_Call_Name_kw (ld_glob I hg hm (PySem.W.callWith_K0 I.kIn hk (wpAny_call (run_fnR (us := []) (vs := []) F hr hx I .nil h))) hdb)⟩
end
end D

namespace D
open PySem PySem.Spec PyProof.Rows L2
/-! ### data that may be compared and shown -/
structure Gd (B n : Nat) (d : PyData) : Prop where
  lay : d.canLay0 = true
  deep : d.depth ≤ n
  short : d.leavesShort 13 = true
  show' : d.showable = true
  nod : d.hasDict = false
  bulk : d.bulk ≤ B
theorem Gd.le {B n B' n' : Nat} {d : PyData} (h : Gd B n d) (hB : B ≤ B') (hn : n ≤ n') : Gd B' n' d := ⟨h.lay, Nat.le_trans h.deep hn, h.short, h.show', h.nod, Nat.le_trans h.bulk hB⟩
theorem log40 {n : Nat} (h : n < 10 ^ 12) : n.log2 < 1920 := by
  rcases Nat.eq_zero_or_pos n with z | z
  · subst z
    decide
  · have := (Nat.log2_lt (by omega)).mpr (Nat.lt_of_lt_of_le h (by decide : 10 ^ 12 ≤ 2 ^ 40))
    omega
theorem Gd.int {i : Int} (h : i.natAbs < 10 ^ 12) : Gd 0 0 (.int i) := ⟨by simp [PyData.canLay0], Nat.le_refl _, decide_eq_true (PyData.shown_int_le h), decide_eq_true (log40 h), rfl, Nat.le_refl _⟩
theorem Gd.str {x : Str} {B : Nat} (h : ∀ c ∈ x.cps.toList, c < 0x110000) (hl : x.length ≤ B) : Gd B 0 (.str x) := ⟨by
  simp only [PyData.canLay0, PyData.strOk]
  rw [← Array.all_toList]
  exact List.all_eq_true.mpr fun c hc => decide_eq_true (h c hc), Nat.le_refl _, List.all_eq_true.mpr fun c hc => decide_eq_true (Nat.lt_of_lt_of_le (h c hc) (by decide)), rfl, rfl, hl⟩
theorem Gd.non : Gd 0 0 .none := ⟨by simp [PyData.canLay0], Nat.le_refl _, rfl, rfl, rfl, Nat.le_refl _⟩
/-- rows of such data: B bounds the items together -/
structure GdAll (B n : Nat) (ds : List PyData) : Prop where
  lay : PyData.canLayAll0 ds = true
  deep : PyData.depthAll ds ≤ n
  short : PyData.leavesShortAll 13 ds = true
  show' : PyData.showableAll ds = true
  nod : PyData.hasDictAll ds = false
  bulk : PyData.bulkAll ds ≤ B
theorem GdAll.nil {n : Nat} : GdAll 0 n [] := ⟨rfl, Nat.zero_le _, rfl, rfl, rfl, Nat.le_refl _⟩
theorem GdAll.cons {B C n : Nat} {d : PyData} {ds : List PyData} (h : Gd B n d) (g : GdAll C n ds) : GdAll (B + 1 + C) n (d :: ds) := by
  refine ⟨?_, ?_, ?_, ?_, ?_, ?_⟩
  · simp only [PyData.canLayAll0, h.lay, g.lay, Bool.and_self]
  · have := h.deep
    have := g.deep
    simp only [PyData.depthAll]
    omega
  · simp only [PyData.leavesShortAll, h.short, g.short, Bool.and_self]
  · simp only [PyData.showableAll, h.show', g.show', Bool.and_self]
  · simp only [PyData.hasDictAll, h.nod, g.nod, Bool.or_self]
  · have := h.bulk
    have := g.bulk
    simp only [PyData.bulkAll]
    omega
theorem GdAll.le {B n B' n' : Nat} {d : List PyData} (h : GdAll B n d) (hB : B ≤ B') (hn : n ≤ n') : GdAll B' n' d := ⟨h.lay, Nat.le_trans h.deep hn, h.short, h.show', h.nod, Nat.le_trans h.bulk hB⟩
theorem GdAll.all {B n : Nat} : ∀ {ds : List PyData}, (∀ d ∈ ds, Gd B n d) → GdAll (ds.length * (B + 1)) n ds
  | [], _ => GdAll.nil.le (Nat.zero_le _) (Nat.le_refl _)
  | d :: r, h => ((GdAll.all fun z hz => h z (List.mem_cons_of_mem _ hz)).cons (h d List.mem_cons_self)).le (by rw [List.length_cons, Nat.succ_mul]; omega) (Nat.le_refl _)
theorem GdAll.tup {B n : Nat} {ds : List PyData} (h : GdAll B n ds) : Gd B (n + 1) (.tuple ds) := by
  refine ⟨?_, ?_, ?_, ?_, ?_, ?_⟩
  · simp only [PyData.canLay0, h.lay]
  · have := h.deep
    simp only [PyData.depth]
    omega
  · simp only [PyData.leavesShort, h.short]
  · simp only [PyData.showable, h.show']
  · simp only [PyData.hasDict, h.nod]
  · exact h.bulk
theorem GdAll.lst {B n : Nat} {ds : List PyData} (h : GdAll B n ds) : Gd B (n + 1) (.list ds) := by
  refine ⟨?_, ?_, ?_, ?_, ?_, ?_⟩
  · simp only [PyData.canLay0, h.lay]
  · have := h.deep
    simp only [PyData.depth]
    omega
  · simp only [PyData.leavesShort, h.short]
  · simp only [PyData.showable, h.show']
  · simp only [PyData.hasDict, h.nod]
  · exact h.bulk
theorem Gd.shaped {B n : Nat} {d : PyData} (h : Gd B n d) (hn : n ≤ 40) : SeqAt.shaped d = true := by
  refine Bool.and_eq_true_iff.mpr ⟨h.lay, decide_eq_true ?_⟩
  have := h.deep
  omega
theorem Gd.refl {B n : Nat} {d : PyData} (h : Gd B n d) : PyData.eqv d d = true := SeqAt.eqv_refl d h.lay
theorem Gd.showing {B n : Nat} {d : PyData} (h : Gd B n d) (hn : n ≤ 40) (hB : B ≤ 1000000) : d.showable = true ∧ d.hasDict = false ∧ d.depth ≤ 64 ∧ d.shown.length ≤ sizeLine := by
  have h1 := PyData.shown_le_bulk 13 (by decide) d h.short
  have := h.deep
  have := h.bulk
  refine ⟨h.show', h.nod, by omega, ?_⟩
  rw [sizeLine_eq]
  omega
/-! ### shapes -/
inductive Lf where
  | text (f : PyData)
  | button (w : PyData)
  | put (c : PyData) (fs : List PyData)
  | each (f m k c : PyData) (fs : List PyData)
inductive Sh where
  | leaf (l : Lf)
  | whn (f : PyData) (a b : Sh)
  | line (r : Bool) (ps : List Sh)
def sText : Str := Str.ofString "text"
def sButton : Str := Str.ofString "button"
def sPut : Str := Str.ofString "put"
def sEach : Str := Str.ofString "each"
def sWhen : Str := Str.ofString "when"
def sLine (r : Bool) : Str := if r = true then Str.ofString "row" else Str.ofString "col"
def Lf.enc : Lf → PyData
  | .text f => .tuple [.str sText, f]
  | .button w => .tuple [.str sButton, w]
  | .put c fs => .tuple [.str sPut, c, .tuple fs]
  | .each f m k c fs => .tuple [.str sEach, f, m, k, c, .tuple fs]
mutual
def Sh.enc : Sh → PyData
  | .leaf l => l.enc
  | .whn f a b => .tuple [.str sWhen, f, a.enc, b.enc]
  | .line r ps => .tuple [.str (sLine r), .tuple (Sh.encAll ps)]
def Sh.encAll : List Sh → List PyData
  | [] => []
  | p :: r => p.enc :: Sh.encAll r
end
mutual
def Sh.dep : Sh → Nat
  | .leaf _ => 1
  | .whn _ a b => Nat.max a.dep b.dep + 1
  | .line _ ps => Sh.depAll ps + 1
def Sh.depAll : List Sh → Nat
  | [] => 0
  | p :: r => Nat.max p.dep (Sh.depAll r)
end
mutual
def Sh.subs : Sh → List Sh
  | .leaf l => [.leaf l]
  | .whn f a b => .whn f a b :: (a.subs ++ (b.subs ++ []))
  | .line r ps => .line r ps :: Sh.subsAll ps
def Sh.subsAll : List Sh → List Sh
  | [] => []
  | p :: r => p.subs ++ Sh.subsAll r
end
def Sh.inner : Sh → List Sh
  | .leaf _ => []
  | .whn _ a b => [a, b]
  | .line _ ps => ps
theorem encAll_map : ∀ ps : List Sh, Sh.encAll ps = ps.map Sh.enc
  | [] => by rw [Sh.encAll, List.map_nil]
  | p :: r => by rw [Sh.encAll, encAll_map r, List.map_cons]
theorem subsAll_map : ∀ ps : List Sh, Sh.subsAll ps = (ps.map Sh.subs).flatten
  | [] => by rw [Sh.subsAll, List.map_nil, List.flatten_nil]
  | p :: r => by rw [Sh.subsAll, subsAll_map r, List.map_cons, List.flatten_cons]
theorem depAll_mem : ∀ {ps : List Sh} {p : Sh}, p ∈ ps → p.dep ≤ Sh.depAll ps
  | q :: r, p, h => by
    rw [Sh.depAll]
    rcases List.mem_cons.mp h with rfl | h
    · exact Nat.le_max_left _ _
    · exact Nat.le_trans (depAll_mem h) (Nat.le_max_right _ _)
theorem depAll_le : ∀ {ps : List Sh} {n : Nat}, (∀ p ∈ ps, p.dep ≤ n) → Sh.depAll ps ≤ n
  | [], n, _ => by rw [Sh.depAll]; exact Nat.zero_le _
  | q :: r, n, h => by
    rw [Sh.depAll]
    exact Nat.max_le.mpr ⟨h q List.mem_cons_self, depAll_le fun p hp => h p (List.mem_cons_of_mem _ hp)⟩
theorem dep_inner {s p : Sh} (h : p ∈ s.inner) : p.dep < s.dep := by
  cases s with
  | leaf l => cases h
  | whn f a b =>
    simp only [Sh.inner, List.mem_cons, List.not_mem_nil, or_false] at h
    rw [Sh.dep]
    rcases h with rfl | rfl
    · exact Nat.lt_succ_of_le (Nat.le_max_left _ _)
    · exact Nat.lt_succ_of_le (Nat.le_max_right _ _)
  | line r ps =>
    rw [Sh.dep]
    exact Nat.lt_succ_of_le (depAll_mem h)
theorem dep_pos (s : Sh) : 0 < s.dep := by
  cases s <;> rw [Sh.dep] <;> omega
theorem subs_eq (s : Sh) : s.subs = s :: (s.inner.map Sh.subs).flatten := by
  cases s with
  | leaf l => rw [Sh.subs]; rfl
  | whn f a b => rw [Sh.subs]; rfl
  | line r ps => rw [Sh.subs, subsAll_map]; rfl
theorem dep_eq (s : Sh) : s.dep = Sh.depAll s.inner + 1 := by
  cases s with
  | leaf l => rw [Sh.dep]; rfl
  | whn f a b =>
    rw [Sh.dep]
    simp only [Sh.inner, Sh.depAll, Nat.max_eq_left (Nat.zero_le _)]
  | line r ps => rw [Sh.dep]; rfl
/-- the parts of a shape stand behind it, in a row -/
theorem subs_slice : ∀ (n : Nat) (s : Sh), s.dep ≤ n → ∀ (i : Nat) (t : Sh), s.subs[i]? = some t → (s.subs.drop i).take t.subs.length = t.subs := by
  intro n
  induction n with
  | zero => intro s h; exact absurd (dep_pos s) (by omega)
  | succ n ih =>
    intro s hs i t hi
    rw [subs_eq s] at hi ⊢
    cases i with
    | zero =>
      cases hi
      rw [List.drop_zero, ← subs_eq]
      exact List.take_of_length_le (Nat.le_refl _)
    | succ i =>
      rw [List.getElem?_cons_succ] at hi
      rw [List.drop_succ_cons]
      have hd : ∀ p ∈ s.inner, p.dep ≤ n := fun p hp => by
        have := dep_inner hp
        omega
      revert hi hd
      generalize s.inner = ps
      intro hi hd
      induction ps generalizing i with
      | nil => simp at hi
      | cons p r ihp =>
        rw [List.map_cons, List.flatten_cons] at hi ⊢
        by_cases c : i < p.subs.length
        · rw [List.getElem?_append_left c] at hi
          have e := ih p (hd p List.mem_cons_self) i t hi
          have l1 : t.subs.length ≤ (p.subs.drop i).length := by
            have := congrArg List.length e
            rw [List.length_take] at this
            omega
          rw [List.drop_append_of_le_length (by omega), List.take_append_of_le_length l1]
          exact e
        · rw [List.getElem?_append_right (by omega)] at hi
          rw [List.drop_append, List.drop_of_length_le (by omega), List.nil_append]
          exact ihp _ hi fun q hq => hd q (List.mem_cons_of_mem _ hq)
/-- a shape that was drawn -/
def Lf.ok : Lf → Prop
  | .text f => Gd 150 3 f
  | .button w => Gd 8 0 w
  | .put c fs => Gd 8 0 c ∧ fs.length ≤ 3 ∧ ∀ f ∈ fs, Gd 50 2 f
  | .each f m k c fs => Gd 50 2 f ∧ Gd 24 2 m ∧ Gd 50 2 k ∧ Gd 8 0 c ∧ fs.length ≤ 3 ∧ ∀ f ∈ fs, Gd 50 2 f
def okLen (n : Nat) : Prop := n ≤ 8 ∨ n = 11
mutual
def Sh.ok : Sh → Prop
  | .leaf l => l.ok
  | .whn f a b => Gd 150 3 f ∧ a.ok ∧ b.ok
  | .line _ ps => okLen ps.length ∧ Sh.okAll ps
def Sh.okAll : List Sh → Prop
  | [] => True
  | p :: r => p.ok ∧ Sh.okAll r
end
theorem okAll_iff : ∀ {ps : List Sh}, Sh.okAll ps ↔ ∀ p ∈ ps, p.ok
  | [] => by rw [Sh.okAll]; exact ⟨fun _ _ h => (nomatch h), fun _ => trivial⟩
  | q :: r => by
    rw [Sh.okAll, okAll_iff (ps := r)]
    simp
theorem ok_inner {s p : Sh} (h : s.ok) (hp : p ∈ s.inner) : p.ok := by
  cases s with
  | leaf l => cases hp
  | whn f a b =>
    rw [Sh.ok] at h
    simp only [Sh.inner, List.mem_cons, List.not_mem_nil, or_false] at hp
    rcases hp with rfl | rfl
    · exact h.2.1
    · exact h.2.2
  | line r ps =>
    rw [Sh.ok, okAll_iff] at h
    exact h.2 p hp
theorem gstr (x : String) (B : Nat) (h : ((Str.ofString x).cps.toList.all fun c => decide (c < 0x110000)) = true) (hl : (Str.ofString x).length ≤ B) : Gd B 0 (.str (Str.ofString x)) := Gd.str (fun c hc => of_decide_eq_true (List.all_eq_true.mp h c hc)) hl
theorem Gd.up {B n : Nat} {d : PyData} (h : Gd B 0 d) : Gd B n d := h.le (Nat.le_refl _) (Nat.zero_le _)
theorem Lf.gd {l : Lf} (h : l.ok) : Gd 310 4 l.enc := by
  cases l with
  | text f => exact ((((GdAll.nil).cons (show Gd 150 3 f from h)).cons (gstr "text" 10 (by decide +kernel) (by decide +kernel)).up).tup).le (by omega) (Nat.le_refl _)
  | button w => exact ((((GdAll.nil (n := 0)).cons (show Gd 8 0 w from h)).cons (gstr "button" 10 (by decide +kernel) (by decide +kernel))).tup).le (by omega) (by omega)
  | put c fs =>
    obtain ⟨h1, h2, h3⟩ := h
    have hf := (GdAll.all h3).tup
    refine ((((GdAll.nil.cons hf).cons h1.up).cons (gstr "put" 10 (by decide +kernel) (by decide +kernel)).up).tup).le ?_ (Nat.le_refl _)
    omega
  | each f m k c fs =>
    obtain ⟨g1, g2, g3, h1, h2, h3⟩ := h
    have hf := (GdAll.all h3).tup
    refine (((((((GdAll.nil.cons hf).cons h1.up).cons (g3.le (Nat.le_refl _) (by omega))).cons (g2.le (Nat.le_refl _) (by omega))).cons (g1.le (Nat.le_refl _) (by omega))).cons (gstr "each" 10 (by decide +kernel) (by decide +kernel)).up).tup).le ?_ (Nat.le_refl _)
    omega
def Sh.cnt (s : Sh) : Nat := s.subs.length
theorem cnt_eq (s : Sh) : s.cnt = (s.inner.map Sh.cnt).sum + 1 := by
  unfold Sh.cnt
  rw [subs_eq, List.length_cons, List.length_flatten, List.map_map]
  rfl
theorem cnt_pos (s : Sh) : 0 < s.cnt := by rw [cnt_eq]; omega
theorem GdAll.shs {n B : Nat} : ∀ {ps : List Sh}, (∀ p ∈ ps, Gd (310 * p.cnt) n p.enc) → GdAll (310 * (ps.map Sh.cnt).sum + ps.length) n (ps.map Sh.enc)
  | [], _ => GdAll.nil.le (Nat.zero_le _) (Nat.le_refl _)
  | p :: r, h => ((GdAll.shs (B := B) fun z hz => h z (List.mem_cons_of_mem _ hz)).cons (h p List.mem_cons_self)).le (by simp only [List.map_cons, List.sum_cons, List.length_cons]; omega) (Nat.le_refl _)
theorem Sh.gd : ∀ (n : Nat) (s : Sh), s.dep ≤ n → s.ok → Gd (310 * s.cnt) (2 * n + 4) s.enc := by
  intro n
  induction n with
  | zero => intro s h; exact absurd (dep_pos s) (by omega)
  | succ n ih =>
    intro s hs ho
    have hi : ∀ p ∈ s.inner, Gd (310 * p.cnt) (2 * n + 4) p.enc := fun p hp => ih p (by have := dep_inner hp; omega) (ok_inner ho hp)
    have hc := cnt_eq s
    cases s with
    | leaf l =>
      rw [Sh.ok] at ho
      have hp := cnt_pos (.leaf l)
      exact (Lf.gd ho).le (by omega) (by omega)
    | whn f a b =>
      rw [Sh.ok] at ho
      have ga := hi a (by simp [Sh.inner])
      have gb := hi b (by simp [Sh.inner])
      rw [Sh.enc]
      refine (((((GdAll.nil.cons gb).cons ga).cons (ho.1.le (Nat.le_refl _) (by omega))).cons (gstr "when" 10 (by decide +kernel) (by decide +kernel)).up).tup).le ?_ (by omega)
      rw [hc]
      simp only [Sh.inner, List.map_cons, List.map_nil, List.sum_cons, List.sum_nil]
      omega
    | line r ps =>
      rw [Sh.ok] at ho
      have hl : ps.length ≤ 11 := by rcases ho.1 with z | z <;> omega
      have g := (GdAll.shs (B := 0) hi).tup
      have gs : Gd 10 0 (.str (sLine r)) := by
        unfold sLine
        cases r
        · exact gstr "col" 10 (by decide +kernel) (by decide +kernel)
        · exact gstr "row" 10 (by decide +kernel) (by decide +kernel)
      rw [Sh.enc, encAll_map]
      refine (((GdAll.nil.cons g).cons gs.up).tup).le ?_ (by omega)
      rw [hc]
      simp only [Sh.inner] at g ⊢
      omega
end D

/-! making an instance where its __init__ may raise, within a try or a def that lets the error out -/
namespace D
open PySem PySem.Spec PyProof.Rows L2
section
variable {X : Cx} {CX : CXT} {k : Nat} {f C : Addr} {fd : FuncData} {ps : List Str} {sp : Sp} {dvs : List V} {ds : List Value} {x : Str} {p pos : Pos} {e : Expr} {es : List Expr} {t : TA}
def tMakeS (C : Addr) (sp : Sp) (dvs : List V) (E : L2.St → XK) (t : TA) : TE := fun σ H Q => t σ H fun vs H1 => ∀ x dx, H1 x = none → H1 dx = none → dx ≠ x →
  sp (.ref x :: (vs ++ dvs)) (upd (upd H1 dx (.own x)) x (.ins C dx [])) (fun v H2 => v = .non ∧ Q (.ref x) H2) (E σ)
theorem run_makeS {E : XK} {pins : List (Addr × Obj)} {σ : L2.St} {H : Hp} {s : Shared} {Q : VK} {us : List Value} {vs : List V} (M : L2.Mk X.K C f) (F : FnOk X.prog X.w X.K X.mg X.base CX k f fd ps sp) (hr : Room (k + 1) X.A) (hb : Binds X.K fd ps ds) (hd : Vals dvs ds)
    (hx : PassesAt CX X σ E) (I : Inv X pins σ H s) (r : Vals vs us)
    (h : ∀ x dx, H x = none → H dx = none → dx ≠ x → sp (.ref x :: (vs ++ dvs)) (upd (upd H dx (.own x)) x (.ins C dx [])) (fun v H2 => v = .non ∧ Q (.ref x) H2) E) :
    wpAny (model X.prog X.w) X.A (call (.ref C) us) (EP X pins σ Q) X.xe s := by
  have hq := h (s.heap.objs.size + 1) s.heap.objs.size (I.hok.fresh (Nat.le_succ _)) (I.hok.fresh (Nat.le_refl _)) (Nat.ne_of_lt (Nat.lt_succ_self _))
  have I2 := Inv.made (C := C) I
  have r2 : Vals (V.ref (s.heap.objs.size + 1) :: (vs ++ dvs)) (Value.ref (s.heap.objs.size + 1) :: (us ++ ds)) := .cons rfl (r.append hd)
  have hl : (Value.ref (s.heap.objs.size + 1) :: us ++ ds).length = ps.length := by
    have e := r2.length
    rw [F.len _ _ _ _ hq] at e
    exact e.symm
  refine wpAny_call (make_map (f := f) I.kIn M.makes M.init (beq_iff_eq.mp M.fn) (codeAny_mono (F.run _ X.stack _ _ ⟨Value.ref (s.heap.objs.size + 1) :: us, []⟩ (Value.ref (s.heap.objs.size + 1) :: (us ++ ds)) _ _ E (hr.make C us [])
    (I2.env0.make C us []) (hb _ (Value.ref (s.heap.objs.size + 1) :: us) I2.kIn hl) r2 hq) fun r s' hq' => ?_))
  cases r with
  | error e => exact hx pins _ _ e s' I2 hq'
  | ok fl =>
    cases fl with
    | ret u =>
      obtain ⟨v, H', I3, rv, ev, q3⟩ := I2.after hq'
      subst ev
      exact ⟨rv, ⟨V.ref (s.heap.objs.size + 1), H', I3, rfl, q3⟩⟩
    | next => exact False.elim hq'
    | brk => exact False.elim hq'
    | cont => exact False.elim hq'
theorem pe_makeS {E : L2.St → XK} (M : L2.Mk X.K C f) (F : FnOk X.prog X.w X.K X.mg X.base CX k f fd ps sp) (hr : Room (k + 1) X.A) (hg : Gl X x) (hm : X.mg x = some (.ref C)) (hb : Binds X.K fd ps ds) (hd : Vals dvs ds) (hx : ∀ σ, PassesAt CX X σ (E σ))
    (ha : PA X (e :: es) t) (hdb : (x == ("__debug__" : Str)) = false := by decide) (he : starEach (e :: es) X.env = (false, eval e X.env) :: starEach es X.env := by rfl) (hpl : (backTo pos (starEach es X.env)).any (·.1) = false := by rfl) :
    PE X (.Call (.Name x p) (e :: es) [] pos) (tMakeS C sp dvs E t) := by
  refine ⟨fun pins s σ H Q I h => ?_⟩
  refine wpAny_Call_Name_kw (ld_glob I hg hm ?_ hdb)
  refine PySem.W.callWith_K (h₀ := X.base) I.ok.mod.kin M.kp (thn (ha.run pos pins s σ H _ I h) fun us s1 ⟨vs, H1, I1, r, q⟩ => ⟨I1.kIn, ?_⟩) he hpl
  exact run_makeS M F hr hb hd (hx σ) I1 r q
end
section
variable {X : Cx} {K : PySem.W.Frag}
/-- repr, its row's part of the module named: within a suite -/
theorem call_reprVK (hK : X.K = K) (gd : X.A.guards = some []) (hu : X.A.units + 200 < cLine) : CallR X (.builtin "repr") (fun vs H Q => ∃ v d, vs = [v] ∧ Dp K H v d ∧ d.showable = true ∧ d.hasDict = false ∧ d.depth ≤ 64 ∧ d.shown.length ≤ sizeLine ∧ Q (.str d.shown) H) := by
  subst hK
  exact call_reprV gd hu
end
section
variable {X : Cx} {K : PySem.W.Frag}
/-- t != u, two tuples of the same plain items, whatever their texts hold -/
def rNeSm (K : PySem.W.Frag) : R2 := fun x y H Q => ∃ a b xs, x = .ref a ∧ y = .ref b ∧ SqT K H a xs ∧ SqT K H b xs ∧ xs.all flatB = true ∧ Q (.bl false) H
theorem op_neSm (hK : X.K = K) (hu : X.A.units < cLine) : OpR X (compareOp .NotEq) (rNeSm K) := by
  subst hK
  intro pins s σ H x y v u Q I rx ry h
  obtain ⟨a, b, xs, rfl, rfl, ha, hb, hf, q⟩ := h
  cases (show v = Value.ref a from rx)
  cases (show u = Value.ref b from ry)
  obtain ⟨us, r1, p1, _⟩ := I.tuple ha
  obtain ⟨ws, r2, p2, _⟩ := I.tuple hb
  have l1 := r1.length
  have l2 := r2.length
  have k := SeqAt.RcNeAt.tuples (A := X.A) (e := fun _ => true) p1 p2 hu (fun j h1 h2 => by
    have hj1 : j < us.length := by simpa using h1
    have hj2 : j < ws.length := by simpa using h2
    have hx : xs[j]? = some (xs[j]'(by omega)) := List.getElem?_eq_getElem _
    have e1 := r1.get hx
    have e2 := r2.get hx
    obtain ⟨u1, g1, q1⟩ := e1
    obtain ⟨u2, g2, q2⟩ := e2
    rw [List.getElem?_eq_getElem hj1] at g1
    rw [List.getElem?_eq_getElem hj2] at g2
    cases g1
    cases g2
    have := eqAt_same (A := X.A.in1) (s := s) q1 q2 (List.all_eq_true.mp hf _ (List.getElem_mem _))
    simpa using this) X.prog X.w X.xe (fun z s' => EP X pins σ Q z s')
  refine k ?_
  have e : (!((List.range (min us.toArray.size ws.toArray.size)).all (fun _ => true) && us.toArray.size == ws.toArray.size)) = false := by
    have h1 : ((List.range (min us.toArray.size ws.toArray.size)).all fun _ => true) = true := List.all_eq_true.mpr fun _ _ => rfl
    rw [h1, List.size_toArray, List.size_toArray, ← l1, ← l2]
    simp
  rw [e]
  exact ⟨.bl false, H, I, rfl, q⟩
end
end D

/-! a bag and a row of data that stand together: what a law has drawn so far -/
namespace D
open PySem PySem.Spec PyProof.Rows L2
theorem RpAll.nth {M : Ms} {H : Hp} {vs : List V} {ds : List PyData} {v : V} {d : PyData} (h : RpAll M H vs ds) (i : Nat) (hv : vs[i]? = some v) (hd : ds[i]? = some d) : Rp M H v d := by
  obtain ⟨d', e, r⟩ := h.get hv
  rw [hd] at e
  cases e
  exact r
structure Ds (K : PySem.W.Frag) (M : Ms) (b : Addr) (H : Hp) (vs : List V) (ds : List PyData) : Prop where
  bag : Bag K M H b
  ok : Mk M H
  all : RpAll M H vs ds
namespace Ds
variable {K : PySem.W.Frag} {M : Ms} {b : Addr} {H H' : Hp} {vs us : List V} {ds es : List PyData} {v : V} {d : PyData} {p : Addr}
theorem same (E : Ds K M b H vs ds) (s : Same H H') : Ds K M b H' vs ds := ⟨E.bag.same s, E.ok.gr (Gr.same s), E.all.sx (Sx.same s)⟩
theorem push (E : Ds K M b H vs ds) (r : Rp M H v d) : Ds K M b H (v :: vs) (d :: ds) := ⟨E.bag, E.ok, .cons r E.all⟩
theorem step (E : Ds K M b H vs ds) (s : Sx (one b) H H') (g : Gr H H') (B : Bag K M H' b) : Ds K M b H' vs ds := ⟨B, E.ok.gr g, E.all.sx (s.le (one_le E.bag.w))⟩
theorem draw (E : Ds K M b H vs ds) (s : Sx (one b) H H') (g : Gr H H') (B : Bag K M H' b) (r : Rp M H' v d) : Ds K M b H' (v :: vs) (d :: ds) := (E.step s g B).push r
theorem pick (E : Ds K M b H vs ds) (hA : At b H H') (B : Bag K M H' b) : Ds K M b H' vs ds := E.step hA.sx (At.gr hA B.there) B
theorem tup (E : Ds K M b H vs ds) (hp : H p = none) (r : RpAll M H us es) : Ds K M b (upd H p (.tup us)) (.ref p :: vs) (.tuple es :: ds) := (E.same (same_new hp)).push (Rp.newT E.ok hp r)
theorem lst (E : Ds K M b H vs ds) (hp : H p = none) (r : RpAll M H us es) : Ds K M b (upd H p (.lst us)) (.ref p :: vs) (.list es :: ds) := (E.same (same_new hp)).push (Rp.newL E.ok hp r)
theorem new (E : Ds K M b H vs ds) (hp : H p = none) {o : HO} : Ds K M b (upd H p o) vs ds := E.same (same_new hp)
theorem at' (E : Ds K M b H vs ds) (i : Nat) (hv : vs[i]? = some v) (hd : ds[i]? = some d) : Rp M H v d := E.all.nth i hv hd
theorem tail (E : Ds K M b H (v :: vs) (d :: ds)) : Ds K M b H vs ds := ⟨E.bag, E.ok, by
  cases E.all with
  | cons _ r => exact r⟩
theorem cut (E : Ds K M b H vs ds) (n : Nat) : Ds K M b H (vs.take n) (ds.take n) := ⟨E.bag, E.ok, E.all.take n⟩
end Ds
end D

/-! a dict comprehension with two clauses, keys whole numbers or texts -/
namespace D
open PySem PySem.Spec PyProof.Rows L2
/-- the comprehension meant here -/
abbrev dcx (kx vx ta ia : Expr) (ca : List Expr) (tb ib : Expr) (cb : List Expr) (sc : Scope) (ps : Pos) : Expr := .DictComp kx vx [⟨ta, ia, ca, 0⟩, ⟨tb, ib, cb, 0⟩] sc ps
section
variable {P : Program} {w : World} {A : Around} {R : Result → Shared → Prop} {s : Shared} {kx vx ta ia tb ib : Expr} {ca cb : List Expr} {sc : Scope} {ps : Pos} {env : Env}
/-- the tests of a clause, one behind the other -/
abbrev testsOf (cs : List Expr) (env : Env) : Sem Bool := forIn cs true fun c r => if r = true then do let ok ← isTrue c env (eval c env); pure (ForInStep.yield ok) else pure (ForInStep.yield r)
theorem dcx_outer (it acc : Value) : compTurn (dcx kx vx ta ia ca tb ib cb sc ps) 0 it acc env = (do
      standAt ia.pos
      match ← pyNext it with
      | none => pure (.done .next)
      | some u =>
        letOwnedTupleGo ta it u
        assign ta env u
        let mut go := true
        for c in ca do
          if go then go ← isTrue c env (eval c env)
        if go then
          let y ← eval ib env
          standAt ib.pos
          let y ← foldedSetIterable ib env y
          let _ ← runOwn (.compStart (dcx kx vx ta ia ca tb ib cb sc ps) 1 (← holding [y] (pyIter y)) acc env) env
        again (.compLoop (dcx kx vx ta ia ca tb ib cb sc ps) 0 it acc env)) := by rfl
theorem dcx_inner (it : Value) (D : Addr) : compTurn (dcx kx vx ta ia ca tb ib cb sc ps) 1 it (.ref D) env = (do
      standAt ib.pos
      match ← pyNext it with
      | none => pure (.done .next)
      | some u =>
        letOwnedTupleGo tb it u
        assign tb env u
        let mut go := true
        for c in cb do
          if go then go ← isTrue c env (eval c env)
        if go then
          (do
            let k0 ← eval kx env
            let v0 ← holding [k0] (eval vx env)
            standAt { kx.pos with endLine := vx.pos.endLine, endCol := vx.pos.endCol }
            holding [k0, v0] (dictSet D k0 v0))
        again (.compLoop (dcx kx vx ta ia ca tb ib cb sc ps) 1 it (.ref D) env)) := by rfl
/-- what an error leaves, told with the frame -/
abbrev ErX (P : Program) (w : World) (A : Around) (env : Env) (R : Result → Shared → Prop) : Value → Shared → Prop := notedBy (model P w) A env fun e s' => R (.error e) s'
/-- one turn of the outer loop -/
theorem dcx_loopA {it acc : Value} (hs : ∀ x, foldedSetIterable ib env x = pure x) (J : Nat → Shared → Prop)
    (step : ∀ n s, J n s → wpAny (model P w) A (pyNext it) (fun r s1 => r.elim (R (.ok .next) s1) fun u => wpAny (model P w) A (letOwnedTupleGo ta it u) (fun _ s2 => wpAny (model P w) A (assign ta env u) (fun _ s3 => wpAny (model P w) A (testsOf ca env) (fun b s4 =>
        if b = true then wpAny (model P w) A (eval ib env) (fun y s5 => wpAny (model P w) A (pyIter y) (fun it1 s6 => codeAny (model P w) A (.compStart (dcx kx vx ta ia ca tb ib cb sc ps) 1 it1 acc env) (fun r s' => match r with | .ok _ => ∃ m, m < n ∧ J m s' | .error _ => False) s6) (ErX P w A env R) s5) (ErX P w A env R) s4
        else ∃ m, m < n ∧ J m s4) (ErX P w A env R) s3) (ErX P w A env R) s2) (ErX P w A env R) s1) (ErX P w A env R) s)
    (n : Nat) (j0 : J n s) : codeAny (model P w) A (.compLoop (dcx kx vx ta ia ca tb ib cb sc ps) 0 it acc env) R s := by
  refine codeAny_loop rfl J (fun n z hJ => ?_) n j0
  show wpAny _ A (Sem.onRaise (compTurn (dcx kx vx ta ia ca tb ib cb sc ps) 0 it acc env) fun x => do noteFrame x env; theTreesLotGoes x) _ _ z
  apply wpAny_noted
  rw [dcx_outer]
  refine wpAny_bind (wpAny_standAt (wpAny_bind (wpAny_mono (step n z hJ) (fun r z1 k1 => ?_) fun _ _ q => q)))
  match r, k1 with
  | none, k1 => exact wpAny_pure k1
  | some u, k1 =>
    refine wpAny_bind (wpAny_mono k1 (fun _ z2 k2 => wpAny_bind (wpAny_mono k2 (fun _ z3 k3 => ?_) fun _ _ q => q)) fun _ _ q => q)
    refine wpAny_bind (wpAny_mono k3 (fun b z4 k4 => ?_) fun _ _ q => q)
    match b, k4 with
    | false, k4 => exact wpAny_pure ⟨rfl, k4⟩
    | true, k4 =>
      refine wpAny_bind (wpAny_mono k4 (fun y z5 k5 => wpAny_bind (wpAny_standAt ?_)) fun _ _ q => q)
      refine wpAny_bind (wpAny_of_eq (hs y) (wpAny_bind (wpAny_holding (wpAny_mono k5 (fun it1 z6 k6 => wpAny_bind (wpAny_runOwn ?_)) fun _ _ q => q))))
      rw [Around.mark_none]
      refine codeAny_mono k6 fun r z7 k7 => ?_
      match r, k7 with
      | .error e, k7 => exact k7.elim
      | .ok f, k7 => first | exact wpAny_pure ⟨rfl, k7⟩ | exact wpAny_bind (wpAny_pure (wpAny_pure ⟨rfl, k7⟩))
/-- one turn of the inner loop -/
theorem dcx_loopB {it : Value} {D : Addr} (J : Nat → Shared → Prop)
    (step : ∀ n s, J n s → wpAny (model P w) A (pyNext it) (fun r s1 => r.elim (R (.ok .next) s1) fun u => wpAny (model P w) A (letOwnedTupleGo tb it u) (fun _ s2 => wpAny (model P w) A (assign tb env u) (fun _ s3 => wpAny (model P w) A (testsOf cb env) (fun b s4 =>
        if b = true then wpAny (model P w) A (eval kx env) (fun k0 s5 => wpAny (model P w) A (eval vx env) (fun v0 s6 => wpAny (model P w) A (dictSet D k0 v0) (fun _ s7 => ∃ m, m < n ∧ J m s7) (ErX P w A env R) s6) (ErX P w A env R) s5) (ErX P w A env R) s4
        else ∃ m, m < n ∧ J m s4) (ErX P w A env R) s3) (ErX P w A env R) s2) (ErX P w A env R) s1) (ErX P w A env R) s)
    (n : Nat) (j0 : J n s) : codeAny (model P w) A (.compLoop (dcx kx vx ta ia ca tb ib cb sc ps) 1 it (.ref D) env) R s := by
  refine codeAny_loop rfl J (fun n z hJ => ?_) n j0
  show wpAny _ A (Sem.onRaise (compTurn (dcx kx vx ta ia ca tb ib cb sc ps) 1 it (.ref D) env) fun x => do noteFrame x env; theTreesLotGoes x) _ _ z
  apply wpAny_noted
  rw [dcx_inner]
  refine wpAny_bind (wpAny_standAt (wpAny_bind (wpAny_mono (step n z hJ) (fun r z1 k1 => ?_) fun _ _ q => q)))
  match r, k1 with
  | none, k1 => exact wpAny_pure k1
  | some u, k1 =>
    refine wpAny_bind (wpAny_mono k1 (fun _ z2 k2 => wpAny_bind (wpAny_mono k2 (fun _ z3 k3 => ?_) fun _ _ q => q)) fun _ _ q => q)
    refine wpAny_bind (wpAny_mono k3 (fun b z4 k4 => ?_) fun _ _ q => q)
    match b, k4 with
    | false, k4 => exact wpAny_pure ⟨rfl, k4⟩
    | true, k4 =>
      refine wpAny_bind (wpAny_bind (wpAny_mono k4 (fun k0 z5 k5 => ?_) fun _ _ q => q))
      refine wpAny_bind (wpAny_holding (wpAny_mono k5 (fun v0 z6 k6 => wpAny_bind (wpAny_standAt ?_)) fun _ _ q => q))
      exact wpAny_holding (wpAny_mono k6 (fun _ z7 k7 => wpAny_pure ⟨rfl, k7⟩) fun _ _ q => q)
/-- the inner loop is begun -/
theorem dcx_startB {it acc : Value} (l0 : codeAny (model P w) A (.compLoop (dcx kx vx ta ia ca tb ib cb sc ps) 1 it acc env) R s)
    (li : wpAny (model P w) A (pyIter it) (fun i2 s' => codeAny (model P w) A (.compLoop (dcx kx vx ta ia ca tb ib cb sc ps) 1 i2 acc env) R s') (ErX P w A env R) s) :
    codeAny (model P w) A (.compStart (dcx kx vx ta ia ca tb ib cb sc ps) 1 it acc env) R s := by
  apply codeAny_of_tree
  show wpAny _ _ (Sem.onRaise (compStart (dcx kx vx ta ia ca tb ib cb sc ps) 1 it acc env) fun x => do noteFrame x env; standAt theWindowsPlace) _ _ s
  apply wpAny_notedAt
  unfold compStart
  show wpAny _ A (ask >>= _) _ _ s
  apply wpAny_bind
  apply wpAny_askSetting
  apply wpAny_ite
  split
  · first | exact wpAny_pure ⟨rfl, l0⟩ | exact wpAny_bind (wpAny_pure (wpAny_pure ⟨rfl, l0⟩))
  · have go := wpAny_mono li (Q' := fun i2 s' => wpAny (model P w) A (pure i2) (fun _ _ => True) (fun _ _ => True) s' ∧ codeAny (model P w) A (.compLoop (dcx kx vx ta ia ca tb ib cb sc ps) 1 i2 acc env) R s') (fun i2 s' q => ⟨wpAny_pure trivial, q⟩) fun _ _ q => q
    refine wpAny_bind (wpAny_rule ?_)
    show wpAny _ _ (standAt ib.pos >>= _) _ _ s
    exact wpAny_bind (wpAny_standAt (wpAny_bind (wpAny_mono go (fun i2 s' q => wpAny_pure ⟨rfl, q.2⟩) fun _ _ q => q)))
end
section
variable {X : Cx}
/-- {k: v for a in u if .. for b in z if ..}: D the new dict; the inner walk reaches Nx; vb: the names of the inner target -/
def tDc2 (wa : TI) (ga : TG) (ca : TT) (wb : TI) (gb : TG) (cb : TT) (tk tv : TE) (vs vb : List Nat) : TE := fun σ H Q => wa σ H fun J H1 => ∀ D, H1 D = none → ∃ W : Nat → Nat → Hp → Prop, (∃ m, W 0 m (upd H1 D (.dK []))) ∧ ∀ i m H, W i m H →
  (J.stop i H ∧ Q (.ref D) H) ∨ (J.go i H ∧ ∃ Nx : Hp → Prop, (∀ H', Nx H' → ∃ m', m' < m ∧ W (i + 1) m' H') ∧ ∀ x H', J.yld i H x H' → ga x (wipe σ vs) H' fun σ2 H2 => wipe σ2 vs = wipe σ vs ∧ ca σ2 H2 fun b H3 =>
    if b = true then wb σ2 H3 fun J1 H4 => ∃ V : Nat → Nat → Hp → Prop, (∃ m, V 0 m H4) ∧ ∀ j k H, V j k H →
      (J1.stop j H ∧ Nx H) ∨ (J1.go j H ∧ ∃ Ny : Hp → Prop, (∀ H', Ny H' → ∃ k', k' < k ∧ V (j + 1) k' H') ∧ ∀ x H', J1.yld j H x H' → gb x (wipe σ2 vb) H' fun σ3 H5 => wipe σ3 vb = wipe σ2 vb ∧ cb σ3 H5 fun b H6 =>
        if b = true then tk σ3 H6 fun y H7 => tv σ3 H7 fun z H8 => ∃ kvs q, y = kV q ∧ H8 D = some (.dK kvs) ∧ kvs.length < sizeLine ∧ Ny (upd H8 D (.dK (putK kvs q z))) else Ny H6)
    else Nx H3)
abbrev BlkF (X : Cx) (sc : Scope) (F : Cx → Prop) : Prop := ∀ (s : Shared) (H : Hp) (C : Addr) (cl : List (Str × Addr)) (fp : List Addr), F (X.blk s H sc (compEnvC sc cl C X.env) fp)
theorem pe_dc2 {kx vx ta ia tb ib : Expr} {ca cb : List Expr} {sc : Scope} {own : List (Str × Nat)} {vb : List Nat} {ps : Pos} {wa wb : TI} {ga gb : TG} {qa qb : TT} {tk tv : TE} (hc : X.calm = true) (hN : X.N.Nodup) (ha : PI X ta ia wa) (ok : BlkOk X.N X.env.scope sc own) (hvb : ∀ i ∈ vb, i ∈ own.map (·.2))
    (hga : BlkF X sc fun Y => PG Y ta ga) (hqa : BlkF X sc fun Y => PTs Y ca qa) (hb : BlkF X sc fun Y => PI Y tb ib wb) (hgb : BlkF X sc fun Y => PG Y tb gb) (hqb : BlkF X sc fun Y => PTs Y cb qb) (hk : BlkF X sc fun Y => PE Y kx tk) (hv : BlkF X sc fun Y => PE Y vx tv)
    (fa : ∀ x, foldedSetIterable ia X.env x = pure x := by intro _; rfl) (fb : ∀ env x, foldedSetIterable ib env x = pure x := by intro _ _; rfl) :
    PE X (dcx kx vx ta ia ca tb ib cb sc ps) (tDc2 wa ga qa wb gb qb tk tv (own.map (·.2)) vb) := by
  refine ⟨fun pins s σ H Q I h => ?_⟩
  rw [arm_eval_DictComp]
  have fre : ∀ y ∈ sc.names, y.2 = .free → ∃ c, X.env.cells.lookup y.1 = some c := fun y hy e => (ok.free y hy e).elim (fun k => I.ok.has _ (.inl k)) (fun k => I.ok.has _ (.inr k))
  refine wpAny_comprehension_free rfl fa (closure_ok fre) ok.kind (fun y hy e => by rw [ok.uniq y hy, e]) (thn (ha.run pins s σ H _ I h) fun _ sa hx => thn hx fun _ sb hy => ?_)
  obtain ⟨it, fp, tn, J, Hb, rfl, Ib, T, stb, fpb, q⟩ := hy
  refine wpAny_newObj_type (newEnv_comp ?_)
  generalize eD : sb.heap.objs.size = D
  have nD : Hb D = none := Ib.hok.fresh (Nat.le_of_eq eD)
  obtain ⟨W, ⟨m0, w0⟩, turn⟩ := q D nD
  generalize ec : ({ sb with heap := sb.heap.push { cls := .type "dict", data := .dict #[] } } : Shared) = sc3
  have Ic : Inv X pins σ (upd Hb D (.dK [])) sc3 := by
    rw [← ec, ← eD]
    exact Ib.laid (t' := sb.toks) (fun b o e => Heap.get?_push_of_some _ e) (Nat.le_refl _) (dk_empty sb.heap Ib.big)
  have hc3 : sc3.heap = sb.heap.push { cls := .type "dict", data := .dict #[] } := by rw [← ec]
  have lt : ∀ b ∈ fp, b < sb.heap.objs.size := fun b hb => by
    obtain ⟨_, e, _⟩ := T.obj _ _ stb b hb
    exact Heap.lt_size e
  have fpc : ∀ b ∈ fp, FpOk X pins (upd Hb D (.dK [])) b ∧ b < sc3.heap.objs.size := fun b hb => by
    have l := lt b hb
    constructor
    · refine ⟨?_, (fpb b hb).2⟩
      rw [upd_ne (by rw [← eD]; exact Nat.ne_of_lt l)]
      exact (fpb b hb).1
    · rw [hc3, Heap.size_push]
      exact Nat.lt_succ_of_lt l
  have stc : tn 0 sc3.heap := T.keep _ _ _ stb fun b _ o e => by rw [hc3]; exact Heap.get?_push_of_some _ e
  have I4 := block_start Ic ok hN fpc
  generalize eH : upd Hb D (.dK []) = H3 at Ic I4 w0 fpc
  have nfp : ∀ b ∈ fp, H3 b = none := fun b hb => (fpc b hb).1.1
  show codeAny _ _ (.compStart (dcx kx vx ta ia ca tb ib cb sc ps) 0 (.ref it) (.ref D) (compEnvC sc (cellsFrom (sc3.heap.objs.size + 1) sc.names (cloFrom X.env.cells sc.names [])) sc3.heap.objs.size X.env)) (compPost (model X.prog X.w) X.A X.xe none (fun v s' => EP X pins σ Q v s') (.ref D) sc3.heap.objs.size) { sc3 with heap := pushCells (sc3.heap.push { cls := .type "dict", data := .dict #[] }) sc.names }
  have p1 := hga sc3 H3 sc3.heap.objs.size (cellsFrom (sc3.heap.objs.size + 1) sc.names (cloFrom X.env.cells sc.names [])) fp
  have p2 := hqa sc3 H3 sc3.heap.objs.size (cellsFrom (sc3.heap.objs.size + 1) sc.names (cloFrom X.env.cells sc.names [])) fp
  have p3 := hb sc3 H3 sc3.heap.objs.size (cellsFrom (sc3.heap.objs.size + 1) sc.names (cloFrom X.env.cells sc.names [])) fp
  have p4 := hgb sc3 H3 sc3.heap.objs.size (cellsFrom (sc3.heap.objs.size + 1) sc.names (cloFrom X.env.cells sc.names [])) fp
  have p5 := hqb sc3 H3 sc3.heap.objs.size (cellsFrom (sc3.heap.objs.size + 1) sc.names (cloFrom X.env.cells sc.names [])) fp
  have p6 := hk sc3 H3 sc3.heap.objs.size (cellsFrom (sc3.heap.objs.size + 1) sc.names (cloFrom X.env.cells sc.names [])) fp
  have p7 := hv sc3 H3 sc3.heap.objs.size (cellsFrom (sc3.heap.objs.size + 1) sc.names (cloFrom X.env.cells sc.names [])) fp
  generalize ecn : compEnvC sc (cellsFrom (sc3.heap.objs.size + 1) sc.names (cloFrom X.env.cells sc.names [])) sc3.heap.objs.size X.env = ce at I4 p1 p2 p3 p4 p5 p6 p7 ⊢
  have cl : ce.locals = sc3.heap.objs.size := by rw [← ecn]; rfl
  generalize es : ({ sc3 with heap := pushCells (sc3.heap.push { cls := .type "dict", data := .dict #[] }) sc.names } : Shared) = s4 at I4 ⊢
  have st4 : tn 0 s4.heap := T.keep _ _ _ stc fun b _ o e => by rw [← es]; exact pushCells_keeps _ _ _ _ (Heap.get?_push_of_some _ e)
  have fpo : ∀ {σ' : L2.St} {H' : Hp} {s' : Shared}, Inv (X.blk sc3 H3 sc ce fp) [] σ' H' s' → (∀ b ∈ fp, H' b = none) → ∀ b ∈ fp, FpOk (X.blk sc3 H3 sc ce fp) [] H' b := fun Iz nz b hb => by
    have z := Iz.ok.exf b hb
    exact ⟨nz b hb, z.1, Iz.ok.exfs b hb, .inl hb, z.2, fun p hp => nomatch (show p ∈ ([] : List (Addr × Obj)) from hp)⟩
  -- what the outer loop keeps from turn to turn
  generalize eK : (fun (n : Nat) (s' : Shared) => ∃ i H', Inv (X.blk sc3 H3 sc ce fp) [] (wipe σ (own.map (·.2))) H' s' ∧ tn i s'.heap ∧ (∀ b ∈ fp, H' b = none) ∧ W i n H') = K
  have kin : ∀ {n i : Nat} {H' : Hp} {s' : Shared}, Inv (X.blk sc3 H3 sc ce fp) [] (wipe σ (own.map (·.2))) H' s' → tn i s'.heap → (∀ b ∈ fp, H' b = none) → W i n H' → K n s' := fun a b c d => by
    rw [← eK]
    exact ⟨_, _, a, b, c, d⟩
  have kout : ∀ {n : Nat} {s' : Shared}, K n s' → ∃ i H', Inv (X.blk sc3 H3 sc ce fp) [] (wipe σ (own.map (·.2))) H' s' ∧ tn i s'.heap ∧ (∀ b ∈ fp, H' b = none) ∧ W i n H' := fun k => by
    rw [← eK] at k
    exact k
  clear eK
  have loop : codeAny (model X.prog X.w) X.A (.compLoop (dcx kx vx ta ia ca tb ib cb sc ps) 0 (.ref it) (.ref D) ce) (compPost (model X.prog X.w) X.A X.xe none (fun v s' => EP X pins σ Q v s') (.ref D) sc3.heap.objs.size) s4 := by
    refine dcx_loopA (fb ce) K (fun n s5 kn => ?_) m0 (kin I4 st4 nfp w0)
    obtain ⟨i, H5, I5, st5, n5, w5⟩ := kout kn
    rcases turn i n H5 w5 with ⟨stop, fin⟩ | ⟨go, Nx, hNx, step⟩
    · refine thnF (T.done (X.blk sc3 H3 sc ce fp) rfl rfl rfl hc i [] s5 _ H5 (fun _ _ => False) I5 (fpo I5 n5) st5 stop) fun r s6 ⟨er, I6⟩ => ?_
      subst er
      have I7 : Inv X pins σ H5 s6 := Ic.call' (ch := fp) I6.os I6.base I6.hok I6.bare fun b hb => by
        obtain ⟨⟨_, z1, z2, z3, z4⟩, z5⟩ := fpc b hb
        first | exact ⟨z3, z1, z4.1, z4.2⟩ | exact ⟨z3, z1, z4⟩
      have nC : H5 sc3.heap.objs.size = none := cl ▸ I6.free
      obtain ⟨m, hns, _⟩ := I6.loc
      have hns : s6.heap.Ns sc3.heap.objs.size m := cl ▸ hns
      obtain ⟨f0, f1, f2, f3, f4, f5⟩ := Ic.fpOk (Nat.le_refl _) nC
      exact ⟨m, hns, fun h'' sb' => ⟨.ref D, H5, I7.turned (t' := s6.toks) (fun b o hb e => (sb'.2 b hb).trans e) f0 f1 f3 f4 f5, rfl, fin⟩⟩
    · refine thnF (T.item (X.blk sc3 H3 sc ce fp) rfl rfl rfl hc i [] s5 _ H5 (fun _ _ => False) I5 (fpo I5 n5) st5 go) fun r s6 ⟨u, er, h6⟩ => ?_
      subst er
      refine thnF h6 fun _ s7 ⟨x, H7, I7, r7, y7, st7, n7⟩ => ?_
      refine thnF (p1.run _ s7 _ H7 x u _ (I7.pinned (fpo I7 n7) (T.obj _ _ st7)) r7 (step x H7 y7)) fun _ s8 ⟨σ8, H8, I8, e8, q8⟩ => ?_
      refine thnF (p2.run _ s8 σ8 H8 _ I8 q8) fun b s9 ⟨H9, I9, q9⟩ => ?_
      -- from any slots that still know what the block knew
      have again : ∀ {τ : L2.St} {s' : Shared} {H' : Hp}, Inv (X.blk sc3 H3 sc ce fp) ([] ++ pinsAt fp s7.heap) τ H' s' → τ.length = (wipe σ (own.map (·.2))).length → (∀ (j : Nat) v, (wipe σ (own.map (·.2)))[j]? = some (some v) → τ[j]? = some (some v)) → Nx H' → ∃ m, m < n ∧ K m s' := fun {τ s' H'} Iz hl hk nx => by
        obtain ⟨m', lm, wm⟩ := hNx H' nx
        have held : ∀ b ∈ fp, ∀ o, s7.heap.get? b = some o → s'.heap.get? b = some o ∧ H' b = none := fun b hb o e => by
          have z := Iz.pin (b, o) (List.mem_append_right _ (List.mem_append_right _ (mem_pinsAt hb e)))
          exact ⟨z.1, z.2.1⟩
        refine ⟨m', lm, kin ((Iz.unpinned (pins := [])).weak hl.symm hk) (T.keep _ _ _ st7 fun b hb o e => (held b hb o e).1) (fun b hb => ?_) wm⟩
        obtain ⟨o, e, _⟩ := T.obj _ _ st7 b hb
        exact (held b hb o e).2
      have l8 : σ8.length = (wipe σ (own.map (·.2))).length := by rw [← e8, wipe_length]
      have k8 : ∀ (j : Nat) v, (wipe σ (own.map (·.2)))[j]? = some (some v) → σ8[j]? = some (some v) ∧ j ∉ own.map (·.2) := fun j v e => wipe_some (by rw [e8]; exact e)
      cases b with
      | false => exact again I9 l8 (fun j v e => (k8 j v e).1) q9
      | true =>
        refine thnF (p3.run _ s9 σ8 H9 _ I9 q9) fun _ sA hx => thnF hx fun _ sB hy => ?_
        obtain ⟨jt, gp, un, J1, HB, rfl, IB, U, suB, gpB, V, ⟨v0, hv0⟩, turnB⟩ := hy
        have gpo : ∀ {H' : Hp}, (∀ b ∈ gp, H' b = none) → ∀ b ∈ gp, FpOk (X.blk sc3 H3 sc ce fp) ([] ++ pinsAt fp s7.heap) H' b := fun nz b hb => ⟨nz b hb, (gpB b hb).2⟩
        have inner : codeAny (model X.prog X.w) X.A (.compLoop (dcx kx vx ta ia ca tb ib cb sc ps) 1 (.ref jt) (.ref D) ce) (fun r s' => match r with | .ok _ => ∃ m, m < n ∧ K m s' | .error _ => False) sB := by
          refine dcx_loopB (fun k s' => ∃ j H', Inv (X.blk sc3 H3 sc ce fp) ([] ++ pinsAt fp s7.heap) (wipe σ8 vb) H' s' ∧ un j s'.heap ∧ (∀ b ∈ gp, H' b = none) ∧ V j k H') (fun k sC => ?_) v0 ⟨0, HB, IB.weak (wipe_length _ _) (fun j v e => (wipe_some e).1), suB, fun b hb => (gpB b hb).1, hv0⟩
          rintro ⟨j, HC, IC, suC, nC, vC⟩
          rcases turnB j k HC vC with ⟨stopB, nx⟩ | ⟨goB, Ny, hNy, stepB⟩
          · refine thnF (U.done (X.blk sc3 H3 sc ce fp) rfl rfl rfl hc j _ sC (wipe σ8 vb) HC (fun _ _ => False) IC (gpo nC) suC stopB) fun r sE ⟨er, IE⟩ => ?_
            subst er
            refine again IE ((wipe_length σ8 vb).trans l8) (fun i v e => ?_) nx
            obtain ⟨z1, z2⟩ := k8 i v e
            rw [wipe_out fun z => z2 (hvb i z)]
            exact z1
          · refine thnF (U.item (X.blk sc3 H3 sc ce fp) rfl rfl rfl hc j _ sC (wipe σ8 vb) HC (fun _ _ => False) IC (gpo nC) suC goB) fun r sE ⟨uE, er, hE⟩ => ?_
            subst er
            refine thnF hE fun _ sF ⟨xF, HF, IF, rF, yF, suF, nF⟩ => ?_
            refine thnF (p4.run _ sF (wipe σ8 vb) HF xF uE _ (IF.pinned (gpo nF) (U.obj _ _ suF)) rF (stepB xF HF yF)) fun _ sG ⟨σG, HG, IG, eG, qG⟩ => ?_
            refine thnF (p5.run _ sG σG HG _ IG qG) fun bG sI ⟨HI, II, qI⟩ => ?_
            have more : ∀ {s' : Shared} {H' : Hp}, Inv (X.blk sc3 H3 sc ce fp) (([] ++ pinsAt fp s7.heap) ++ pinsAt gp sF.heap) σG H' s' → Ny H' → ∃ m, m < k ∧ ∃ j H', Inv (X.blk sc3 H3 sc ce fp) ([] ++ pinsAt fp s7.heap) (wipe σ8 vb) H' s' ∧ un j s'.heap ∧ (∀ b ∈ gp, H' b = none) ∧ V j m H' := fun {s' H'} Iz ny => by
              obtain ⟨m', lm, vm⟩ := hNy H' ny
              have held : ∀ b ∈ gp, ∀ o, sF.heap.get? b = some o → s'.heap.get? b = some o ∧ H' b = none := fun b hb o e => by
                have z := Iz.pin (b, o) (List.mem_append_right _ (List.mem_append_right _ (mem_pinsAt hb e)))
                exact ⟨z.1, z.2.1⟩
              refine ⟨m', lm, j + 1, H', Iz.unpinned.weak (by rw [← eG, wipe_length]) (fun i v e => (wipe_some (by rw [eG]; exact e)).1), U.keep _ _ _ suF fun b hb o e => (held b hb o e).1, fun b hb => ?_, vm⟩
              obtain ⟨o, e, _⟩ := U.obj _ _ suF b hb
              exact (held b hb o e).2
            cases bG with
            | false => exact more II qI
            | true =>
              refine thnF (p6.run _ sI σG HI _ II qI) fun z sK ⟨yK, HK, IK, rK, qK⟩ => ?_
              refine thnF (p7.run _ sK σG HK _ IK qK) fun z2 sL ⟨yL, HL, IL, rL, kvs, k1, ek, hD, hz, ny⟩ => ?_
              subst ek
              exact d_dictSet (X := X.blk sc3 H3 sc ce fp) IL hD hz rK rL fun sM IM => more IM ny
        exact dcx_startB inner (U.self X.A 0 _ _ _ suB inner)
  exact codeAny_compStart_dict loop (T.self X.A 0 _ _ _ st4 loop)
end
end D

namespace D
open PySem PySem.Spec PyProof.Rows L2
/-! ### a new thing that is never written again -/
def tFrz (t : TE) : TE := fun σ H Q => t σ H fun v H1 => ∃ d u, v = .ref d ∧ H1 d = some u ∧ Mut (some u) ∧ ∀ od, Q v (upd H1 d (.frz od u))
theorem pe_frz {X : Cx} {e : Expr} {t : TE} (h : PE X e t) : PE X e (tFrz t) := ⟨fun pins s σ H Q I q => thn (h.run pins s σ H _ I q) fun u s1 ⟨v, H1, I1, r, d, w, ev, hd, mu, q1⟩ => by
  obtain ⟨od, I2⟩ := I1.lock hd mu
  exact ⟨v, _, I2, r, q1 od⟩⟩
/-! ### a dict comprehension given to a name, keys whole numbers or texts -/
def PutK (D : Addr) (N : Hp → Prop) (y z : V) (G : Hp) : Prop := ∃ kvs k, y = kV k ∧ G D = some (.dK kvs) ∧ kvs.length < sizeLine ∧ N (upd G D (.dK (putK kvs k z)))
theorem stores_K {X : Cx} : Stores X PutK := by
  rintro B pins σ G t D N y z u r Q E e1 e2 e3 e4 I ⟨kvs, k, rfl, dict, room, nx⟩ ry rz h
  exact d_dictSet (X := B) I dict room ry rz fun t' I' => h t' _ I' nx
abbrev tDcK (walk : TI) (g : TG) (tt : TT) (tk tv : TE) (own : List Nat) : TE := tDcG (fun _ => .dK []) PutK walk g tt tk tv own
theorem ps_setDcK {X : Cx} {i : Nat} {y : Str} {py : Pos} {kx vx tgt it : Expr} {ifs : List Expr} {sc : Scope} {own : List (Str × Nat)} {pos spos : Pos} {walk : TI} {g : TG} {tt : TT} {tk tv : TE} (calm : X.calm = true) (nod : X.N.Nodup) (hy : X.N[i]? = some y) (hyl : X.env.scope.names.lookup y = some .local)
    (hsw : swapsWith (.DictComp kx vx [⟨tgt, it, ifs, 0⟩] sc pos) (some (.Name y py)) spos.line X.env = pure true)
    (pi : PI X tgt it walk) (bo : BlkOk X.N X.env.scope sc own) (pg : InBlk X sc fun B => PG B tgt g) (pt : InBlk X sc fun B => PTs B ifs tt) (pk : InBlk X sc fun B => PE B kx tk) (pv : InBlk X sc fun B => PE B vx tv)
    (plain : ∀ x, foldedSetIterable it X.env x = pure x := by intro _; rfl) :
    PS X (.Assign [.Name y py] (.DictComp kx vx [⟨tgt, it, ifs, 0⟩] sc pos) spos) (tAsg (tDcK walk g tt tk tv (own.map (·.2))) (gName i)) :=
  ps_setDcG (fun H h b => dk_empty h b) stores_K calm nod hy hyl hsw pi bo pg pt pk pv plain
/-! ### set(l), l empty -/
section
variable {X : Cx}
def rSetE (K : PySem.W.Frag) (P : Program) (w : World) : List V → Hp → VK → Prop := fun xs H Q => ∃ p, xs = [.ref p] ∧ SqL K H p [] ∧ ∀ q, H q = none → Q (.ref q) (upd H q (SetK P w q (fun _ => false) 0))
theorem call_setE (hc : X.calm = true) : CallR X (.type "set") (rSetE X.K X.prog X.w) := by
  intro pins s σ H xs us Q I r h
  obtain ⟨p, rfl, hq, q⟩ := h
  obtain ⟨u, rfl, ru⟩ := vals1 r
  cases ru
  obtain ⟨its, rv, pl, hz⟩ := I.list hq
  cases rv
  refine SS.call_set_listS (xs := []) (I.ok.hd hc) pl.isList (by exact .nil) (Nat.zero_le _) fun h' tk hS hk => ?_
  obtain ⟨o, es, ep, t, ho, hx, hd, hel, hmem, hsz, hf, hn⟩ := hS
  have e0 : es = #[] := Array.eq_empty_of_size_eq_zero (by simpa using hn)
  subst e0
  exact ⟨.ref _, upd H s.heap.objs.size (SetK X.prog X.w s.heap.objs.size (fun _ => false) 0), I.laid (t' := tk) (fun b u e => hk b u (Heap.lt_size e) e) (Nat.le_refl _) (setK_new ⟨o, #[], ep, t, ho, hx, hd, (fun e he => by simp at he), (fun k => by simp), by decide, hf, rfl⟩), rfl, q _ (I.hok.fresh (Nat.le_refl _))⟩
end
/-! ### iter(d), d a dict that is not written -/
def ItDk (d : Addr) (o : Obj) (n i : Nat) (it : Addr) : HO := .ext fun h => ∃ es ep, o.data = .dict es ep ∧ h.IsKeyIter it d i n ep
theorem itDk_ok {P : Program} {w : World} {H : Hp} {h : Heap} {d it : Addr} {o : Obj} {n i : Nat} {es : Array DictEntry} {ep : Nat} (hod : o.data = .dict es ep) (e : h.IsKeyIter it d i n ep) : ObjOk P w H h it (ItDk d o n i it) := by
  have ⟨oi, ho, _⟩ := e
  refine ⟨⟨es, ep, hod, e⟩, ⟨oi, ho⟩, fun h1 h2 q k => ?_⟩
  obtain ⟨es1, ep1, h3, h4⟩ := q
  exact ⟨es1, ep1, h3, h4.at fun x hx => k x hx⟩
section
variable {X : Cx}
def rIterD (n : Nat) : List V → Hp → VK → Prop := fun xs H Q => ∃ d o kvs, xs = [.ref d] ∧ H d = some (.frz o (.dK kvs)) ∧ ∀ it, H it = none → n ≤ it → Q (.ref it) (upd H it (ItDk d o kvs.length 0 it))
theorem call_iterD : CallR X (.builtin "iter") (rIterD X.s_0.heap.objs.size) := by
  intro pins s σ H xs us Q I r h
  obtain ⟨d, o, kvs, rfl, hd, q⟩ := h
  obtain ⟨u, rfl, ru⟩ := vals1 r
  cases ru
  obtain ⟨hs, hgd, hx, es, ep, vs, hdt, hsz, kv, hm⟩ := I.frzK hd
  refine Calls.call_function_entry (by decide +kernel) (by decide +kernel) PySem.W.kdk_entry_iter (PySem.W.kdk_args_iter _) ?_
  unfold Builtin.«iter»
  refine wpAny_bind (m := someArgs "iter" 1 2 _) (wpAny_of_eq (a := [Value.ref d]) (by first | rfl | kernel_rfl!) ?_)
  show wpAny _ _ (pyIter (.ref d) >>= _) _ _ _
  refine wpAny_bind (iter_keys hs hgd hx hdt (wpAny_pure ⟨_, rfl, ?_⟩))
  refine ⟨.ref s.heap.objs.size, _, I.laid (t' := s.toks) (fun b u e => Heap.get?_push_of_some _ e) (Nat.le_refl _) (itDk_ok (n := kvs.length) (i := 0) hdt ⟨_, Heap.get?_push_size _ rfl, rfl, by rw [hsz] <;> rfl⟩), rfl, q _ (I.hok.fresh (Nat.le_refl _)) I.sz⟩
end
/-! ### defs that know how many places were given when they were called -/
section
variable {P : Program} {w : World} {K : PySem.W.Frag} {mg : Str → Option Value} {base : Heap} {CX : CXT} {k : Nat} {f : Addr} {fd : FuncData} {ps : List Str}
structure FnW (P : Program) (w : World) (K : PySem.W.Frag) (mg : Str → Option Value) (base : Heap) (CX : CXT) (k : Nat) (f : Addr) (fd : FuncData) (ps : List Str) (sp : Nat → Sp) : Prop where
  ln : ∀ n vs H Q E, sp n vs H Q E → vs.length = ps.length
  go : ∀ (n : Nat) (A : Around) (fr : List Env) (s : Shared) (H : Hp) (args : Args) (us : List Value) (vs : List V) (Q : VK) (E : XK), n ≤ s.heap.objs.size → Room k A → Env0 P w K mg base A fr s H → BindsTo s fd args (ps.zip us) → Vals vs us → sp n vs H Q E → codeAny (model P w) A (.call (.ref f) args) (CR CX fr P w H s Q E) s
/-- a def's body, run from one state -/
theorem body_run {name qual : Str} {pr : Arguments} {body : List Stmt} {sc : Scope} {dV kV doc pm c ct oc : Value} {an od : Option Addr} {osl : Array (Option Value)} {N : List Str} {A : Around} {fr : List Env} {s : Shared} {H : Hp} {args : Args} {us : List Value} {vs : List V} {Q : VK} {E : XK}
    (lk : K.lookup f = some ⟨oc, od, .func (PySem.W.fnOf name qual pr body sc dV kV doc pm an c ct), osl⟩) (hc : PySem.W.codeIn K c qual = true) (S : FnScope N ps sc) (n1 : vs.length = ps.length) (hr : Room (k + 1) A) (e0 : Env0 P w K mg base A fr s H) (bd : BindsTo s (PySem.W.fnOf name qual pr body sc dV kV doc pm an c ct) args (ps.zip us)) (rv : Vals vs us)
    (hb : ∃ t, PSs (cxOf CX P w K mg base N qual sc f c A fr s H E) body t ∧ t { nx := fun _ H' => Q .non H', rt := Q } (start N vs) H) : codeAny (model P w) A (.call (.ref f) args) (CR CX fr P w H s Q E) s := by
  have kin : K.In s.heap := e0.mod.kin.keeps fun x o e => (e0.bs x o e).1
  have nl : s.heap.NoLimit := e0.mod.nolimit.keeps fun x o e => (e0.bs x o e).1
  have kd : ∀ y ∈ ps.zip us, sc.names.lookup y.1 = some .local ∨ (sc.names.lookup y.1 = some .cell ∧ ((cellsFrom (s.heap.objs.size + 1) sc.names []).lookup y.1).isSome = true) := by
    rintro ⟨m, v⟩ hy
    exact (S.par m (List.of_mem_zip hy).1).imp id fun z => ⟨z, PySem.W.cellsFrom_some _ _ _ (.inl z)⟩
  refine codeAny_call_function hr.depth (kin _ _ lk) rfl S.co S.gen rfl (PySem.W.codeRec_of kin hc) (bd _ _ _ _ (wpAny_newFunctionEnv_cells S.kind kd fun ev he s1 x => ?_))
  cases he
  refine ⟨nl.keeps x.toInCall.keep, codeAny_func ?_⟩
  obtain ⟨t, ht, hq⟩ := hb
  refine wpAny_mono (ht.run [] s1 (start N vs) H _ (inv_start S hr.hd e0 n1 rv x) hq) (fun fl s' z => ?_) fun e s' z => z
  cases fl with
  | ret u =>
    obtain ⟨v, σ', H', J, r, q⟩ := z
    exact ⟨v, H', J.os, J.bare, J.base, J.hok, r, q⟩
  | next =>
    obtain ⟨σ', H', J, q⟩ := z
    exact ⟨V.non, H', J.os, J.bare, J.base, J.hok, rfl, q⟩
  | brk =>
    obtain ⟨_, _, _, z⟩ := z
    exact False.elim z
  | cont =>
    obtain ⟨_, _, _, z⟩ := z
    exact False.elim z
theorem Fun.okW {x qual : Str} {st : Stmt} {N : List Str} {sp : Nat → Sp} (F : Fun K x qual st f fd) (S : FnScope N ps (defScope st)) (ln : ∀ n vs H Q E, sp n vs H Q E → vs.length = ps.length)
    (hb : ∀ (n : Nat) (c : Value) (A : Around) (fr : List Env) (s : Shared) (H : Hp) (vs : List V) (Q : VK) (E : XK), n ≤ s.heap.objs.size → Room k (A.deeper (envOfC qual (defScope st) s.heap.objs.size f c)) → sp n vs H Q E →
      ∃ t, PSs (cxOf CX0 P w K mg base N qual (defScope st) f c A fr s H E).nox (defBody st) t ∧ t { nx := fun _ H' => Q .non H', rt := Q } (start N vs) H) : FnW P w K mg base CX0 (k + 1) f fd ps sp := by
  obtain ⟨oc, od, kV, doc, pm, an, c, ct, osl, rfl, lk, hc⟩ := F.ex
  refine ⟨ln, fun n A fr s H args us vs Q E hn hr e0 bd rv hs => body_run lk hc S (ln _ _ _ _ _ hs) hr e0 bd rv ?_⟩
  obtain ⟨t, h, q⟩ := hb n c A fr s H vs Q E hn (hr.deeper _) hs
  exact ⟨t, h.nox, q⟩
end
/-! ### a walk over an instance whose __iter__ hands an iterator over a dict out -/
section
variable {X : Cx} {CI : CXT} {C fi : Addr} {fdI : FuncData} {psI : List Str} {spI : Nat → Sp} {EI : XK} {n : Nat} {tg e : Expr} {te : TE}
def iOwnD (te : TE) (C : Addr) (sp : Nat → Sp) (E : XK) : TI := fun σ H R => te σ H fun x H1 => ∃ a dx fs, x = .ref a ∧ H1 a = some (.ins C dx fs) ∧
  ∀ m, sp m [.ref a] H1 (fun v H' => ∃ it d o kvs, v = .ref it ∧ H' it = some (ItDk d o kvs.length 0 it) ∧ m ≤ it ∧ R (Itk d o kvs) (ItX.dropH H' it)) E
theorem pi_ownD (hc : ItK X.K C fi) (FI : FnW X.prog X.w X.K X.mg X.base CI n fi fdI psI spI) (bI : Binds X.K fdI psI []) (hr : Room n X.A) (xI : Passes CI X EI) (he : PE X e te) : PI X tg e (iOwnD te C spI EI) := by
  refine ⟨fun pins s0 σ H0 R I0 h0 => thn (he.run pins s0 σ H0 _ I0 h0) fun u s ⟨x, H, I, rx, a, dx, fs, ex, ha, hsp⟩ => ?_⟩
  subst ex
  cases rx
  obtain ⟨mA, J, _⟩ := ins_get I.hok ha
  obtain ⟨od, J, _⟩ := J.look
  obtain ⟨m0, hF⟩ := I.fr
  refine PySem.W.owit_iter hF I.ok.mod.kin J hc.it hc.itF ?_
  have e0 : Env0 X.prog X.w X.K X.mg X.base X.A X.stack s H := I.env0
  have hm := hsp s.heap.objs.size
  have hl := FI.ln _ _ _ _ _ hm
  have r2 : Vals [V.ref a] [Value.ref a] := .cons rfl .nil
  refine wpAny_call (codeAny_mono (FI.go _ X.A X.stack s H ⟨[.ref a], []⟩ [.ref a] [.ref a] _ EI (Nat.le_refl _) hr e0 (by
    have := bI s [.ref a] I.kIn (by simpa using hl)
    simpa using this) r2 hm) fun r s' hq' => ?_)
  cases r with
  | error e => exact xI pins σ H s e s' I hq'
  | ok fl =>
    cases fl with
    | next => exact False.elim hq'
    | brk => exact False.elim hq'
    | cont => exact False.elim hq'
    | ret u =>
      obtain ⟨v, H', I', rv, it, d, o, kvs, ev, hit, hn, hR⟩ := I.after hq'
      subst ev
      cases rv
      obtain ⟨es, ep, hod, hk⟩ := (I'.hok it _ hit).1
      unfold PySem.W.OwitIt
      refine wpAny_specialOf (hk.typeIs (s := s')) PySem.F.slot_dict_keyiterator_next.lookup ?_
      have hit' := hit
      unfold ItDk at hit'
      refine ⟨it, [it], _, Itk d o kvs, _, rfl, ItX.inv_drop I' hit', turn_keys it hod, hk, fun b hb => ?_, hR⟩
      have eb : b = it := by simpa using hb
      rw [eb]
      exact ItX.inv_fp I' hit (Nat.le_trans I.sz hn)
end
section
variable {X : Cx} {pins : List (Addr × Obj)} {σ : L2.St} {H : Hp} {s : Shared}
theorem itk_loop {A1 : Around} {it d q : Addr} {o : Obj} {kvs : List (Key × V)} {H0 : Hp} {Rs : Result → Shared → Prop} (hh : A1.handled = none) (nqi : q ≠ it) (hn : X.s_0.heap.objs.size ≤ it) (hl : kvs.length ≤ 1000)
    (hdone : ∀ H s, Inv X pins σ H s → (∀ b, b ≠ it → b ≠ q → H b = H0 b) → H q = some (.lst (kvs.map fun kv => kV kv.1)) → H it = none → Rs (.ok (.ret .none)) s) :
    ∀ (k i : Nat) (H : Hp) (s : Shared), kvs.length - i = k → i ≤ kvs.length → Inv X pins σ H s → (∀ b, b ≠ it → b ≠ q → H b = H0 b) → H d = some (.frz o (.dK kvs)) → H q = some (.lst ((kvs.take i).map fun kv => kV kv.1)) → H it = some (ItDk d o kvs.length i it) →
      codeAny (model X.prog X.w) A1 (.builtin "list.extend.loop" ⟨[.ref q, .ref it, .none], []⟩) Rs s := by
  intro k
  induction k with
  | zero =>
    intro i H s hk hi I hH hdi hq hit
    have ei : i = kvs.length := by omega
    subst ei
    obtain ⟨hs, hgd, hx, es', ep', vs, hdt, hsz, kv, hm⟩ := I.frzK hdi
    obtain ⟨es, ep, hod, hk⟩ := (I.hok it _ hit).1
    obtain ⟨rfl, rfl⟩ := dict_ep hod hdt
    refine codeAny_builtin PySem.F.entry_extend_loop ?_
    rw [Around.under_plainId PySem.F.plain_extend_loop _]
    show wpAny _ A1.in1 (pyNext (.ref it) >>= _) _ _ s
    have hit' := hit
    unfold ItDk at hit'
    obtain ⟨f0, f1, f2, f3, f4, f5⟩ := ItX.inv_fp I hit hn
    have I1 := ItX.inv_drop I hit'
    refine wpAny_bind (next_key_end hh hk hgd hdt hsz (Nat.le_refl _) fun h' eb => ?_)
    have I' : Inv X pins σ (ItX.dropH H it) { s with heap := h' } := I1.turned (t' := s.toks) (fun b o hb e => eb b o hb e) f0 f1 f3 f4 f5
    refine wpAny_pure (hdone _ _ I' (fun b h1 h2 => by rw [ItX.dropH_ne h1]; exact hH b h1 h2) ?_ ItX.dropH_same)
    rw [ItX.dropH_ne nqi, hq, List.take_length]
  | succ k ih =>
    intro i H s hk hi I hH hdi hq hit
    have hlt : i < kvs.length := by omega
    obtain ⟨hs, hgd, hx, es', ep', vs, hdt, hsz, kv, hm⟩ := I.frzK hdi
    obtain ⟨es, ep, hod, hki⟩ := (I.hok it _ hit).1
    obtain ⟨rfl, rfl⟩ := dict_ep hod hdt
    obtain ⟨⟨y, v⟩, hkv⟩ : ∃ p, kvs[i]? = some p := ⟨kvs[i], List.getElem?_eq_getElem hlt⟩
    obtain ⟨u, hu, ru⟩ := kv_get kv hkv
    have hlv : kvs.length = vs.length := Paired.length kv
    have nd : it ≠ d := fun z => by rw [z, hdi] at hit; cases hit
    have nq : q ≠ d := fun z => by rw [z, hdi] at hq; cases hq
    refine codeAny_builtin PySem.F.entry_extend_loop ?_
    rw [Around.under_plainId PySem.F.plain_extend_loop _]
    show wpAny _ A1.in1 (pyNext (.ref it) >>= _) _ _ s
    rw [hlv] at hki
    refine wpAny_bind (wpAny_pyNext_dict_item hki hm hu fun key h' hkey st' sb => ?_)
    have mu : Mut (H it) := by rw [hit]; exact True.intro
    have st2 := st'
    rw [← hlv] at st2
    have ⟨oi, hoi, _⟩ := st'
    have I' := I.write (x := it) (e := it) (t' := s.toks) (o := ItDk d o kvs.length (i + 1) it) (h' := h') mu (.inl rfl) (fun b o nb z => (sb.2 b nb).trans z) ⟨_, hoi⟩ (itDk_ok hod st2)
    have hq' : upd H it (ItDk d o kvs.length (i + 1) it) q = some (.lst ((kvs.take i).map fun kv => kV kv.1)) := by rw [upd_ne nqi]; exact hq
    show wpAny _ A1.in1 (updateSeq q (·.push key) >>= _) _ _ _
    obtain ⟨z, its2, c, r2, hl2, e⟩ := I'.lstM hq'
    have l2 : its2.length = i := by rw [← r2.length, List.length_map, List.length_take]; omega
    refine wpAny_bind (wpAny_updateSeq e rfl (wpAny_pure ⟨plainId_quiet PySem.F.plain_extend_loop _, ?_⟩) (by rw [List.size_toArray, l2, sizeLine_eq]; omega) (by show (its2.toArray.push key).size ≤ sizeLine + 1; rw [Array.size_push, List.size_toArray, l2, sizeLine_eq]; omega))
    refine ih (i + 1) _ _ (by omega) hlt (I'.lset (its' := its2 ++ [key]) (ys := (kvs.take (i + 1)).map fun kv => kV kv.1) (t' := s.toks) hq' e (by simp) ?_ (by rw [List.length_map, List.length_take, sizeLine_eq]; omega)) (fun b h1 h2 => ?_) ?_ upd_same ?_
    · rw [List.take_add_one, hkv, List.map_append]
      exact r2.append (.cons (relV_key (show keyIs y key = true from hkey)) .nil)
    · rw [upd_ne h2, upd_ne h1]
      exact hH b h1 h2
    · rw [upd_ne (Ne.symm nq), upd_ne (Ne.symm nd)]
      exact hdi
    · rw [upd_ne (Ne.symm nqi), upd_same]
/-- list(o): __iter__ hands an iterator over a dict out -/
def rListDk (C : Addr) (sp : Nat → Sp) (E : XK) : List V → Hp → VK → Prop := fun xs H Q => ∃ a dx fs, xs = [.ref a] ∧ H a = some (.ins C dx fs) ∧
  ∀ m q, H q = none → sp m [.ref a] (upd H q (.lst [])) (fun v H' => ∃ it d o kvs, v = .ref it ∧ H' it = some (ItDk d o kvs.length 0 it) ∧ m ≤ it ∧ H' d = some (.frz o (.dK kvs)) ∧ H' q = some (.lst []) ∧ H' a = some (.ins C dx fs) ∧ kvs.length ≤ 1000 ∧
    Q (.ref q) (upd (ItX.dropH H' it) q (.lst (kvs.map fun kv => kV kv.1)))) E
variable {CI : CXT} {C fi : Addr} {fdI : FuncData} {psI : List Str} {spI : Nat → Sp} {EI : XK} {n : Nat}
theorem extend_dk {a dx q : Addr} {fs : List (Str × V)} {Hq : Hp} {Q : VK} (sb : Sub X n X.A.in1.in1) (hA : X.A.in1.handled = none) (hc : ItK X.K C fi) (FI : FnW X.prog X.w X.K X.mg X.base CI n fi fdI psI spI) (bI : Binds X.K fdI psI []) (xI : Passes CI X EI) (I2 : Inv X pins σ Hq s) (hqq : Hq q = some (.lst [])) (ha2 : Hq a = some (.ins C dx fs))
    (hsp : ∀ m, spI m [.ref a] Hq (fun v H' => ∃ it d o kvs, v = .ref it ∧ H' it = some (ItDk d o kvs.length 0 it) ∧ m ≤ it ∧ H' d = some (.frz o (.dK kvs)) ∧ H' q = some (.lst []) ∧ H' a = some (.ins C dx fs) ∧ kvs.length ≤ 1000 ∧
      Q (.ref q) (upd (ItX.dropH H' it) q (.lst (kvs.map fun kv => kV kv.1)))) EI) :
    wpAny (model X.prog X.w) X.A.in1.in1 (Builtin.List.listExtendWith (.ref q) (.ref a) .none)
      (fun fin s' => match fin with | .done f => wants (fun r s₂ => r = .none ∧ EP X pins σ Q (.ref q) s₂) X.xe (.ok f) s' | .again c' => c'.quiet = true ∧ codeAny (model X.prog X.w) X.A.in1 c' (wants (fun r s₂ => r = .none ∧ EP X pins σ Q (.ref q) s₂) X.xe) s') (fun e s' => wants (fun r s₂ => r = .none ∧ EP X pins σ Q (.ref q) s₂) X.xe (.error e) s') s := by
  have hne : q ≠ a := ne_of hqq ha2 (fun z => nomatch z)
  obtain ⟨mA, J, _⟩ := ins_get I2.hok ha2
  obtain ⟨od, J, _⟩ := J.look
  obtain ⟨m0, hF⟩ := I2.fr
  unfold Builtin.List.listExtendWith
  refine wpAny_bind (J.type.here ?_)
  have h1 : Builtin.List.listSameRef (.ref q) (.ref a) = false := by simp [Builtin.List.listSameRef, hne]
  have h2 : (Value.ref C == Value.type "list") = false := rfl
  have h3 : (Value.ref C == Value.type "tuple") = false := rfl
  simp only [h1, h2, h3, Bool.or_false, Bool.false_eq_true, if_false]
  refine wpAny_bind (PySem.W.owit_iter hF I2.ok.mod.kin J hc.it hc.itF ?_)
  have e0 : Env0 X.prog X.w X.K X.mg X.base X.A.in1.in1 X.stack s Hq := by
    have e := I2.env0
    exact ⟨by rw [sb.fr]; exact e.frames, e.mod, e.bs, e.bsz, e.funs, e.frf, e.hok, e.bare⟩
  have hm := hsp s.heap.objs.size
  have hl := FI.ln _ _ _ _ _ hm
  have r2 : Vals [V.ref a] [Value.ref a] := .cons rfl .nil
  refine wpAny_call (codeAny_mono (FI.go _ X.A.in1.in1 X.stack s Hq ⟨[.ref a], []⟩ [.ref a] [.ref a] _ EI (Nat.le_refl _) sb.room e0 (by
    have := bI s [.ref a] I2.kIn (by simpa using hl)
    simpa using this) r2 hm) fun r s' hq' => ?_)
  cases r with
  | error e => exact xI pins σ Hq s e s' I2 hq'
  | ok fl =>
    cases fl with
    | next => exact False.elim hq'
    | brk => exact False.elim hq'
    | cont => exact False.elim hq'
    | ret u =>
      obtain ⟨v, H', I', rv, it, d, o, kvs, ev, hit, hnn, hT, hq2, ha', hz, q2⟩ := I2.after hq'
      subst ev
      cases rv
      unfold PySem.W.OwitIt
      obtain ⟨es, ep, hod, hk⟩ := (I'.hok it _ hit).1
      refine wpAny_specialOf (hk.typeIs (s := s')) PySem.F.slot_dict_keyiterator_next.lookup ?_
      obtain ⟨mA', J', _⟩ := ins_get I'.hok ha'
      obtain ⟨od', J', _⟩ := J'.look
      refine wpAny_bind (wpAny_holding (hintK hc I'.kIn J' ?_))
      obtain ⟨z, its, k, r3, hl3, e3⟩ := I'.lstM hq2
      cases r3
      have nqi : q ≠ it := fun z => by rw [z, hit] at hq2; cases hq2
      have eq5 : ∀ H5 : Hp, (∀ b, b ≠ it → b ≠ q → H5 b = H' b) → H5 q = some (.lst (kvs.map fun kv => kV kv.1)) → H5 it = none → Q (.ref q) H5 := fun H5 a1 a2 a3 => by
        have : H5 = upd (ItX.dropH H' it) q (.lst (kvs.map fun kv => kV kv.1)) := by
          funext b
          by_cases hb : b = q
          · rw [hb, upd_same, a2]
          · rw [upd_ne hb]
            by_cases hi : b = it
            · rw [hi, a3, ItX.dropH_same]
            · rw [ItX.dropH_ne hi, a1 b hi hb]
        rw [this]
        exact q2
      have hloop : ∀ s2, Inv X pins σ H' s2 → codeAny (model X.prog X.w) X.A.in1 (.builtin "list.extend.loop" ⟨[.ref q, .ref it, .none], []⟩) (wants (fun r s₂ => r = .none ∧ EP X pins σ Q (.ref q) s₂) X.xe) s2 := fun s2 I4 =>
        itk_loop (A1 := X.A.in1) hA nqi (Nat.le_trans I2.sz hnn) hz (H0 := H') (fun H5 s5 I5 a1 a2 a3 => ⟨rfl, .ref q, H5, I5, rfl, eq5 H5 a1 a2 a3⟩) _ 0 H' s2 rfl (Nat.zero_le _) I4 (fun _ _ _ => rfl) hT hq2 hit
      refine wpAny_ite_split (fun _ => ?_) (fun _ => wpAny_pure ⟨plainId_quiet PySem.F.plain_extend_loop _, hloop s' I'⟩)
      refine wpAny_bind (wpAny_rule ?_)
      refine wpAny_bind ?_
      show wpAny _ _ (updateSeq q (·.push .none) >>= fun _ => updateSeq q (·.pop)) _ _ _
      refine wpAny_bind (wpAny_updateSeq e3 rfl ?_)
      have I3 := I'.lset (f := (·.push Value.none)) (its' := [Value.none]) (ys := [.non]) (t' := s'.toks) hq2 e3 (by simp) (.cons rfl .nil) (by rw [List.length_singleton, sizeLine_eq]; decide)
      obtain ⟨z4, its4, k4, r4, hl4, e4⟩ := I3.lstM upd_same
      obtain ⟨u4, rfl, ru4⟩ := r4.one
      refine wpAny_updateSeq e4 rfl ?_ (by show 1 ≤ sizeLine; rw [sizeLine_eq]; decide) (by show 0 ≤ sizeLine + 1; exact Nat.zero_le _)
      refine wpAny_pure ⟨plainId_quiet PySem.F.plain_extend_loop _, hloop _ ?_⟩
      have I5 := I3.lset (f := (·.pop)) (its := [u4]) (its' := []) (ys := []) (t' := s'.toks) upd_same e4 (by rfl) .nil (Nat.zero_le _)
      rw [upd_upd] at I5
      have hH : upd H' q (.lst []) = H' := by
        funext b
        by_cases hb : b = q
        · rw [hb, upd_same, hq2]
        · rw [upd_ne hb]
      rw [hH] at I5
      exact I5
theorem call_listDk (hc : ItK X.K C fi) (FI : FnW X.prog X.w X.K X.mg X.base CI n fi fdI psI spI) (bI : Binds X.K fdI psI []) (xI : Passes CI X EI) (hr : Room (n + 2) X.A) : CallR X (.type "list") (rListDk C spI EI) := by
  intro pins s σ H xs us Q I rv h
  obtain ⟨a, dx, fs, rfl, ha, hq⟩ := h
  obtain ⟨u, rfl, ru⟩ := rv.one
  cases ru
  have sb : Sub X n X.A.in1.in1 := (Sub.in1 (Sub.in1 (⟨hr, rfl⟩ : Sub X (n + 2) X.A)))
  refine callType_codes (Q₁ := fun obj s₁ => obj = .ref s.heap.objs.size ∧ s₁ = { s with heap := s.heap.push { cls := .type "list", data := .seq #[] } }) PySem.F.called_list (PySem.F.typeCall_list_1 _) PySem.F.entry_list_init
    (code_list_new _ ⟨rfl, rfl⟩) fun obj s₁ h₁ => ?_
  obtain ⟨rfl, rfl⟩ := h₁
  have hS : (s.heap.push { cls := .type "list", data := .seq #[] }).get? s.heap.objs.size = some { cls := .type "list", data := .seq #[] } := Heap.get?_push_size _ rfl
  refine ⟨⟨_, hS, rfl⟩, PySem.F.args_list_init_2 _ _, ?_⟩
  have fr : H s.heap.objs.size = none := I.hok.fresh (Nat.le_refl _)
  have hsp := fun m => hq m _ fr
  have I1 : Inv X pins σ (upd H s.heap.objs.size (.lst [])) { s with heap := s.heap.push { cls := .type "list", data := .seq #[] } } := I.lnew (its := []) (t' := s.toks) .nil (Nat.zero_le _)
  show wpAny _ _ (do let old ← Builtin.List.listItems (.ref s.heap.objs.size); Builtin.List.listUpdate (.ref s.heap.objs.size) (fun _ => #[]); letGo old.toList.reverse; Builtin.List.listExtendWith (.ref s.heap.objs.size) (.ref a) .none) _ _ _
  refine wpAny_bind ?_
  unfold Builtin.List.listItems
  refine wpAny_bind (wpAny_seqItems hS rfl (wpAny_pure ?_))
  show wpAny _ _ (updateSeq s.heap.objs.size (fun _ => #[]) >>= fun _ => letGo (#[] : Array Value).toList.reverse >>= fun _ => Builtin.List.listExtendWith (.ref s.heap.objs.size) (.ref a) .none) _ _ _
  refine wpAny_bind (wpAny_updateSeq hS rfl ?_)
  have I2 := I1.lset (f := fun _ => #[]) (its := []) (its' := []) (ys := []) (t' := s.toks) upd_same hS rfl .nil (Nat.zero_le _)
  rw [upd_upd] at I2
  refine wpAny_bind (wpAny_letGo ?_)
  have ha2 : upd H s.heap.objs.size (.lst []) a = some (.ins C dx fs) := by rw [upd_ne (ne_of_none ha fr)]; exact ha
  exact extend_dk sb hr.hd hc FI bI xI I2 upd_same ha2 hsp
end
end D

/-! trees of marks and labels -/
namespace D
open PySem PySem.Spec PyProof.Rows L2
inductive Nd where
  | mk (m l : Str) (ks : List Nd)
namespace Nd
def mark : Nd → Str | mk m _ _ => m
def label : Nd → Str | mk _ l _ => l
def kids : Nd → List Nd | mk _ _ ks => ks
mutual
def enc : Nd → PyData
  | mk m l ks => .tuple [.str m, .str l, .tuple (encs ks)]
def encs : List Nd → List PyData
  | [] => []
  | k :: r => k.enc :: encs r
end
mutual
def dep : Nd → Nat
  | mk _ _ ks => deps ks + 1
def deps : List Nd → Nat
  | [] => 0
  | k :: r => Nat.max k.dep (deps r)
end
-- the nodes in page order
mutual
def subs : Nd → List Nd
  | mk m l ks => mk m l ks :: subss ks
def subss : List Nd → List Nd
  | [] => []
  | k :: r => k.subs ++ subss r
end
mutual
def sz : Nd → Int × Int
  | mk _ l ks => szf l (szs ks)
def szs : List Nd → List (Int × Int)
  | [] => []
  | k :: r => k.sz :: szs r
end
-- each node behind what stands beneath it
mutual
def post : Nd → List Nd
  | mk m l ks => posts ks ++ [mk m l ks]
def posts : List Nd → List Nd
  | [] => []
  | k :: r => k.post ++ posts r
end
-- where each node stands, from x, y on
mutual
def rects : Nd → Int → Int → List (Nd × Int × Int)
  | mk m l ks, x, y => (mk m l ks, x, y) :: rectss (decide (l = sRow)) ks x y
def rectss (row : Bool) : List Nd → Int → Int → List (Nd × Int × Int)
  | [], _, _ => []
  | k :: r, x, y => k.rects x y ++ rectss row r (if row = true then x + k.sz.1 else x) (if row = true then y else y + k.sz.2)
end
theorem encs_map : ∀ ks : List Nd, encs ks = ks.map enc
  | [] => by rw [encs, List.map_nil]
  | k :: r => by rw [encs, encs_map r, List.map_cons]
theorem subss_map : ∀ ks : List Nd, subss ks = (ks.map subs).flatten
  | [] => by rw [subss, List.map_nil, List.flatten_nil]
  | k :: r => by rw [subss, subss_map r, List.map_cons, List.flatten_cons]
theorem szs_map : ∀ ks : List Nd, szs ks = ks.map sz
  | [] => by rw [szs, List.map_nil]
  | k :: r => by rw [szs, szs_map r, List.map_cons]
theorem posts_map : ∀ ks : List Nd, posts ks = (ks.map post).flatten
  | [] => by rw [posts, List.map_nil, List.flatten_nil]
  | k :: r => by rw [posts, posts_map r, List.map_cons, List.flatten_cons]
theorem enc_eq (n : Nd) : n.enc = .tuple [.str n.mark, .str n.label, .tuple (n.kids.map enc)] := by
  cases n with | mk m l ks => rw [enc, encs_map]; rfl
theorem subs_eq (n : Nd) : n.subs = n :: (n.kids.map subs).flatten := by
  cases n with | mk m l ks => rw [subs, subss_map]; rfl
theorem sz_eq (n : Nd) : n.sz = szf n.label (n.kids.map sz) := by
  cases n with | mk m l ks => rw [sz, szs_map]; rfl
theorem post_eq (n : Nd) : n.post = (n.kids.map post).flatten ++ [n] := by
  cases n with | mk m l ks => rw [post, posts_map]; rfl
theorem rects_eq (n : Nd) (x y : Int) : n.rects x y = (n, x, y) :: rectss (decide (n.label = sRow)) n.kids x y := by
  cases n with | mk m l ks => rw [rects]; rfl
theorem dep_eq (n : Nd) : n.dep = deps n.kids + 1 := by
  cases n with | mk m l ks => rw [dep]; rfl
theorem deps_mem : ∀ {ks : List Nd} {k : Nd}, k ∈ ks → k.dep ≤ deps ks
  | q :: r, k, h => by
    rw [deps]
    rcases List.mem_cons.mp h with rfl | h
    · exact Nat.le_max_left _ _
    · exact Nat.le_trans (deps_mem h) (Nat.le_max_right _ _)
theorem deps_le : ∀ {ks : List Nd} {n : Nat}, (∀ k ∈ ks, k.dep ≤ n) → deps ks ≤ n
  | [], n, _ => by rw [deps]; exact Nat.zero_le _
  | q :: r, n, h => by
    rw [deps]
    exact Nat.max_le.mpr ⟨h q List.mem_cons_self, deps_le fun k hk => h k (List.mem_cons_of_mem _ hk)⟩
theorem dep_kid {n k : Nd} (h : k ∈ n.kids) : k.dep < n.dep := by
  rw [dep_eq n]
  exact Nat.lt_succ_of_le (deps_mem h)
theorem dep_pos (n : Nd) : 0 < n.dep := by rw [dep_eq]; omega
def marks (n : Nd) : List Str := n.subs.map mark
theorem subs_len_pos (n : Nd) : 0 < n.subs.length := by rw [subs_eq]; exact Nat.succ_pos _
/-- by the depth of trees -/
theorem ind {p : Nd → Prop} (h : ∀ n, (∀ k ∈ n.kids, p k) → p n) : ∀ n, p n := by
  have : ∀ (d : Nat) (n : Nd), n.dep ≤ d → p n := by
    intro d
    induction d with
    | zero => exact fun n hn => absurd n.dep_pos (by omega)
    | succ d ih => exact fun n hn => h n fun k hk => ih k (by have := dep_kid hk; omega)
  exact fun n => this n.dep n (Nat.le_refl _)
theorem perm_flat {α β : Type} {f g : α → List β} : ∀ (ks : List α), (∀ k ∈ ks, (f k).Perm (g k)) → (ks.map f).flatten.Perm (ks.map g).flatten
  | [], _ => by simp
  | k :: r, h => by
    rw [List.map_cons, List.map_cons, List.flatten_cons, List.flatten_cons]
    exact (h k List.mem_cons_self).append (perm_flat r fun x hx => h x (List.mem_cons_of_mem _ hx))
theorem post_perm : ∀ n : Nd, n.post.Perm n.subs := ind fun n ih => by
  rw [post_eq, subs_eq]
  exact (List.perm_append_singleton _ _).trans ((perm_flat n.kids ih).cons n)
theorem post_nodup {n : Nd} (h : n.marks.Nodup) : (n.post.map mark).Nodup := ((post_perm n).map mark).nodup_iff.mpr h
theorem rectss_map : ∀ (row : Bool) (ks : List Nd) (x y : Int), (∀ k ∈ ks, ∀ x y, (k.rects x y).map (·.1) = k.subs) → (rectss row ks x y).map (·.1) = (ks.map subs).flatten
  | row, [], x, y, _ => by rw [rectss]; rfl
  | row, k :: r, x, y, h => by
    rw [rectss, List.map_append, h k List.mem_cons_self, rectss_map row r _ _ fun q hq => h q (List.mem_cons_of_mem _ hq), List.map_cons, List.flatten_cons]
theorem rects_map (n : Nd) : ∀ x y, (n.rects x y).map (·.1) = n.subs := ind (p := fun n => ∀ x y, (n.rects x y).map (·.1) = n.subs) (fun n ih x y => by
  rw [rects_eq, subs_eq, List.map_cons, rectss_map _ _ _ _ ih]) n
/-- moved by dx, dy -/
def mv (dx dy : Int) (p : Nd × Int × Int) : Nd × Int × Int := (p.1, p.2.1 + dx, p.2.2 + dy)
theorem rectss_mv (row : Bool) (dx dy : Int) : ∀ (ks : List Nd) (x y : Int), (∀ k ∈ ks, ∀ x y, k.rects (x + dx) (y + dy) = (k.rects x y).map (mv dx dy)) → rectss row ks (x + dx) (y + dy) = (rectss row ks x y).map (mv dx dy)
  | [], x, y, _ => by rw [rectss, rectss]; rfl
  | k :: r, x, y, h => by
    rw [rectss, rectss, List.map_append, h k List.mem_cons_self]
    congr 1
    have e := rectss_mv row dx dy r (if row = true then x + k.sz.1 else x) (if row = true then y else y + k.sz.2) fun q hq => h q (List.mem_cons_of_mem _ hq)
    rw [← e]
    cases row
    · simp only [Bool.false_eq_true, if_false]
      rw [show y + dy + k.sz.2 = y + k.sz.2 + dy by omega]
    · simp only [if_true]
      rw [show x + dx + k.sz.1 = x + k.sz.1 + dx by omega]
theorem rects_mv (dx dy : Int) (n : Nd) : ∀ x y, n.rects (x + dx) (y + dy) = (n.rects x y).map (mv dx dy) := ind (p := fun n => ∀ x y, n.rects (x + dx) (y + dy) = (n.rects x y).map (mv dx dy)) (fun n ih x y => by
  rw [rects_eq, rects_eq, List.map_cons, rectss_mv _ dx dy _ _ _ ih]
  rfl) n
theorem rectss_app (row : Bool) : ∀ (a b : List Nd) (x y : Int), rectss row (a ++ b) x y = rectss row a x y ++ rectss row b (if row = true then x + (a.map fun k => k.sz.1).sum else x) (if row = true then y else y + (a.map fun k => k.sz.2).sum)
  | [], b, x, y => by
    rw [List.nil_append]
    cases row <;> simp [rectss]
  | k :: r, b, x, y => by
    rw [List.cons_append, rectss, rectss, rectss_app row r b, List.append_assoc]
    congr 2
    cases row
    · simp only [Bool.false_eq_true, if_false, List.map_cons, List.sum_cons]
      rw [Int.add_assoc]
    · simp only [if_true, List.map_cons, List.sum_cons]
      rw [Int.add_assoc]
end Nd
/-! ### dicts by text -/
def kvS (ps : List (Str × V)) : List (Key × V) := ps.map fun p => (Sum.inr p.1, p.2)
theorem kvS_len (ps : List (Str × V)) : (kvS ps).length = ps.length := List.length_map _
theorem putK_new {ps : List (Str × V)} {m : Str} {v : V} (h : m ∉ ps.map (·.1)) : putK (kvS ps) (.inr m) v = kvS (ps ++ [(m, v)]) := by
  unfold putK
  rw [if_neg]
  · unfold kvS
    rw [List.map_append]
    rfl
  · intro z
    rw [List.any_eq_true] at z
    obtain ⟨p, hp, e⟩ := z
    obtain ⟨q, hq, rfl⟩ := List.mem_map.mp hp
    have e := of_decide_eq_true e
    injection e with e
    exact h (List.mem_map.mpr ⟨q, hq, e⟩)
theorem valS_of : ∀ {ps : List (Str × V)} {m : Str} {v : V} {i : Nat}, (ps.map (·.1)).Nodup → ps[i]? = some (m, v) → valV (kvS ps) (.inr m) = some v
  | [], m, v, i, _, e => by simp at e
  | p :: r, m, v, 0, _, e => by
    cases e
    simp [kvS, valV]
  | p :: r, m, v, i + 1, h, e => by
    rw [List.map_cons, List.nodup_cons] at h
    have hm : m ∈ r.map (·.1) := List.mem_map.mpr ⟨(m, v), List.mem_of_getElem? e, rfl⟩
    have ne : ¬ p.1 = m := fun z => h.1 (by rw [z]; exact hm)
    have ih := valS_of (ps := r) (i := i) h.2 e
    unfold kvS valV at ih ⊢
    rw [List.map_cons, List.find?_cons]
    have ne2 : decide ((Sum.inr p.1 : Key) = .inr m) = false := decide_eq_false fun z => ne (by injection z)
    rw [ne2]
    exact ih
theorem valS_none {ps : List (Str × V)} {m : Str} (h : m ∉ ps.map (·.1)) : valV (kvS ps) (.inr m) = none := by
  unfold valV
  rw [List.find?_eq_none.mpr]
  · rfl
  · intro p hp e
    obtain ⟨q, hq, rfl⟩ := List.mem_map.mp hp
    have e := of_decide_eq_true e
    injection e with e
    exact h (List.mem_map.mpr ⟨q, hq, e⟩)
/-! ### texts of plain signs -/
def asc (z : Str) : Prop := ∀ c ∈ z.cps.toList, c < 128
theorem asc_app {a b : Str} (h : asc a) (g : asc b) : asc (a ++ b) := fun c hc => by
  have e : (a ++ b).cps.toList = a.cps.toList ++ b.cps.toList := Array.toList_append
  rw [e] at hc
  exact (List.mem_append.mp hc).elim (h c) (g c)
theorem asc_cut {z : Str} {lo hi : Option Int} (h : asc z) : asc (cutS z lo hi) := fun c hc => by
  unfold cutS at hc
  exact h c (List.mem_of_mem_drop (List.mem_of_mem_take (show c ∈ ((z.cps.toList.drop (HT.sIx z.length 0 lo)).take (HT.sIx z.length z.length hi - HT.sIx z.length 0 lo)) from hc)))
theorem asc_gd {z : Str} (h : asc z) : Gd z.length 0 (.str z) := Gd.str (fun c hc => Nat.lt_of_lt_of_le (h c hc) (by decide)) (Nat.le_refl _)
end D

/-! a property's setter by x.f = v; a def with defaults -/
namespace D
open PySem PySem.Spec PyProof.Rows L2
/-- the class has the name as a property at p whose setter is the def at g -/
structure PropSet (K : PySem.W.Frag) (C : Addr) (f : Str) (p g : Addr) : Prop where
  tk : PySem.W.takerIn K C f = some (some (.ref p))
  ty : PySem.W.typeIn K (.ref p) = some (.type "property")
  rec_ : ∃ a rest, PySem.W.recIn K p "property" = some (a :: .ref g :: rest)
section
variable {X : Cx} {CX : CXT} {k : Nat} {C p g a dx : Addr} {fs : List (Str × V)} {f : Str} {fd : FuncData} {ps : List Str} {sp : Sp} {pos pos' : Pos}
theorem setprop_ok {pins : List (Addr × Obj)} {σ : L2.St} {H : Hp} {s : Shared} {Q : VK} {E : XK} {v : V} {u : Value} {R : Unit → Shared → Prop} (I : Inv X pins σ H s) (ea : H a = some (.ins C dx fs)) (c : Cls X.K C) (hp : PropSet X.K C f p g)
    (F : FnOk X.prog X.w X.K X.mg X.base CX k g fd ps sp) (hr : Room (k + 2) X.A) (hb : Binds X.K fd ps []) (hx : PassesAt CX X σ E) (rv : RelV v u) (h : sp [.ref a, v] H Q E)
    (hR : ∀ v' H' s', Inv X pins σ H' s' → Q v' H' → R () s') :
    wpAny (model X.prog X.w) X.A (setAttr (.ref a) f u) R X.xe s := by
  obtain ⟨mA, O, _⟩ := ins_get I.hok ea
  obtain ⟨od, J, _⟩ := O.look
  obtain ⟨m, hF⟩ := I.fr
  obtain ⟨q, rest, hrec⟩ := hp.rec_
  have I1 := I.tok (s.toks + 1)
  have size : ([Value.ref a, u] ++ []).length = ps.length := by rw [List.append_nil, ← F.len _ _ _ _ h]; rfl
  have bd := hb { s with toks := s.toks + 1 } [.ref a, u] I1.kIn size
  rw [List.append_nil] at bd
  refine PySem.W.set_prop hF I.ok.mod.kin J c.sa c.po hp.tk hp.ty hrec (codeAny_mono (F.run X.A.in1.in1 X.stack { s with toks := s.toks + 1 } H ⟨[.ref a, u], []⟩ [.ref a, u] [.ref a, v] Q E (room_in1 (room_in1 hr)) I1.env0.in1.in1 bd (.cons rfl (.cons rv .nil)) h) fun r s' told => ?_)
  match r, told with
  | .error e, told => exact hx pins H _ e s' I1 told
  | .ok (.ret w), told =>
    obtain ⟨v', H', I3, _, q3⟩ := I1.after told
    exact hR v' H' s' I3 q3
  | .ok .next, told => exact False.elim told
  | .ok .brk, told => exact False.elim told
  | .ok .cont, told => exact False.elim told
def sPropS (C : Addr) (sp : Sp) (E : L2.St → XK) (ta tv : TE) : TS := fun D σ H => tv σ H fun y H1 => ta σ H1 fun x H2 => ∃ a dx fs, x = .ref a ∧ H2 a = some (.ins C dx fs) ∧ sp [x, y] H2 (fun _ H3 => D.nx σ H3) (E σ)
/-- x.f = v, f a property, its setter may raise -/
theorem ps_propS {o value : Expr} {ta tv : TE} {E : L2.St → XK} (ha : PE X o ta) (hv : PE X value tv) (c : Cls X.K C) (hp : PropSet X.K C f p g) (F : FnOk X.prog X.w X.K X.mg X.base CX k g fd ps sp) (hr : Room (k + 2) X.A) (hb : Binds X.K fd ps [])
    (hx : ∀ σ, PassesAt CX X σ (E σ)) (hs : swapsWith value (some (.Attribute o f pos')) pos.line X.env = pure false) : PS X (.Assign [.Attribute o f pos'] value pos) (sPropS C sp E ta tv) := by
  refine ⟨fun pins s σ H D I h => ?_⟩
  refine plainObj_wpAny_Assign_Attribute (thn (hv.run pins s σ H _ I h) fun u s1 ⟨y, H1, I1, ry, q⟩ => thn (ha.run pins s1 σ H1 _ I1 q) fun ov s2 ⟨x, H2, I2, rx, a, dx, fs, ex, ea, q2⟩ => ?_) hs
  subst ex
  obtain rfl : ov = Value.ref a := rx
  exact setprop_ok I2 ea c hp F hr hb (hx σ) ry q2 fun v' H' s' I3 q3 => ⟨σ, H', I3, q3⟩
/-- .. that lets nothing out -/
theorem ps_prop {o value : Expr} {ta tv : TE} (ha : PE X o ta) (hv : PE X value tv) (c : Cls X.K C) (hp : PropSet X.K C f p g) (F : FnOk X.prog X.w X.K X.mg X.base CX0 k g fd ps sp) (hr : Room (k + 2) X.A) (hb : Binds X.K fd ps [])
    (hs : swapsWith value (some (.Attribute o f pos')) pos.line X.env = pure false) : PS X (.Assign [.Attribute o f pos'] value pos) (sPropS C sp (fun _ => E0) ta tv) :=
  ps_propS ha hv c hp F hr hb (fun _ _ _ _ _ _ _ h => h.elim) hs
end
/-! ### a def with defaults -/
section
variable {P : Program} {w : World} {K : PySem.W.Frag} {mg : Str → Option Value} {base : Heap} {x qual : Str} {params : Arguments} {body : List Stmt} {scope : Scope} {dvs : List V} {kws : List (Str × V)} {f : Addr} {fd : FuncData}
/-- for a def that lets nothing out -/
theorem _root_.L2.FunD.ok0 {N ps : List Str} {k : Nat} {sp : Sp} (F : L2.FunD K x qual params body scope dvs kws f fd) (S : FnScope N ps scope) (len : ∀ vs H Q E, sp vs H Q E → vs.length = ps.length)
    (hbody : ∀ (cdv : Value) (A : Around) (outer : List Env) (s : Shared) (H : Hp) (vs : List V) (Q : VK) (E : XK), Room k (A.deeper (envOfC qual scope s.heap.objs.size f cdv)) → sp vs H Q E →
      ∃ t, PSs (cxOf CX0 P w K mg base N qual scope f cdv A outer s H E).nox body t ∧ t { nx := fun _ H' => Q .non H', rt := Q } (start N vs) H) : FnOk P w K mg base CX0 (k + 1) f fd ps sp := by
  obtain ⟨oc, od, dV, kV, doc, pm, an, cdv, ct, osl, rfl, lk, hcd, _, _⟩ := F.ex
  refine fn_of lk hcd S len fun A outer s H vs Q E hr hsp => ?_
  obtain ⟨t, h, q⟩ := hbody cdv A outer s H vs Q E hr hsp
  exact ⟨t, h.nox, q⟩
theorem funD_mk {st : Stmt} {T : Addr} {oc : Value} {od an : Option Addr} {osl : Array (Option Value)} {kV doc pm cdv ct : Value} {arr : Array Value} {n : Nat} (hd : dvs ≠ [])
    (l : K.lookup f = some ⟨oc, od, .func (PySem.W.fnOf x qual (defArgs st) (defBody st) (defScope st) (.ref T) kV doc pm an cdv ct), osl⟩)
    (c : PySem.W.codeIn K cdv qual = true) (k : PySem.W.keepIn K (.ref f) = true) (lt : K.lookup T = some ⟨.type "tuple", none, .seq arr n, #[]⟩) (v : Vals dvs arr.toList) :
    L2.FunD K x qual (defArgs st) (defBody st) (defScope st) dvs [] f (PySem.W.fnOf x qual (defArgs st) (defBody st) (defScope st) (.ref T) kV doc pm an cdv ct) :=
  ⟨⟨oc, od, _, kV, doc, pm, an, cdv, ct, osl, rfl, l, c, .inr ⟨hd, T, _, arr.toList, n, rfl, lt, rfl, v⟩, .inl rfl⟩, k⟩
theorem binds_all {ps : List Str} (F : L2.FunD K x qual params body scope dvs [] f fd) (hd : dvs ≠ [])
    (h : ∀ (T : Addr) (kV doc pm : Value) (an : Option Addr) (cdv ct : Value) (us its : List Value), us.length = ps.length → its.length = dvs.length →
      ∃ k, bindArgs (PySem.W.fnOf x qual params body scope (.ref T) kV doc pm an cdv ct) ⟨us, []⟩ = seqItems? (.ref T) >>= k ∧ k (some its.toArray) = pure (ps.zip us)) : Binds K fd ps [] := by
  obtain ⟨ds, v, b⟩ := F.binds1 (ps := ps) ps.length dvs.length hd (by omega) fun T kV doc pm an cdv ct us its l1 l2 => by
    obtain ⟨k, e1, e2⟩ := h T kV doc pm an cdv ct us its l1 l2
    refine ⟨k, e1, ?_⟩
    rw [e2, List.drop_eq_nil_of_le (by omega), List.append_nil]
  rw [List.drop_eq_nil_of_le (Nat.le_refl _)] at v
  cases v
  exact b
end
section
variable {X : Cx} {K : PySem.W.Frag}
theorem pg_lstK {es : List Expr} {k n : Nat} {t : TGs} {pos : Pos} (hK : X.K = K) (hc : X.calm = true) (h : PGs X es t)
    (hn : (assignEach es X.env).length = n := by rfl) (hst : (assignEach es X.env).findIdx? (·.1) = none := by rfl) : PG X (.Tuple es k pos) (gLst K n t) := by subst hK; exact pg_lst hc h hn hst
def rTIdxS (K : PySem.W.Frag) : V → List V → Hp → VK → Prop := fun x xs H Q => ∃ p, ∃ ys : List Str, ∃ z j, x = .ref p ∧ xs = [.str z] ∧ SqT K H p (ys.map V.str) ∧ ys[j]? = some z ∧ (∀ m, m < j → ys[m]? ≠ some z) ∧ Q (.int (j : Nat)) H
theorem mt_tup_indexS (hK : X.K = K) : MtR X "tuple.index" (rTIdxS K) := by subst hK; exact mt_tup_index
end
end D

/-! x != y by an own __eq__; a call of a class by a keyword; a tuple read from behind -/
namespace D
open PySem PySem.Spec PyProof.Rows L2
section
open PySem.W
variable {prog : Program} {w : World} {A : Around} {E : Value → Shared → Prop} {s : Shared} {K : PySem.W.Frag} {x C L f : Addr} {h₀ : Heap} {m : Str → Option Value} {ox : Obj} {od : Option Obj} {b tb : Value} {name : Str}
theorem ifBound_B {M : Model} {args : List Value} {Q : Option Value → Shared → Prop} {id : String} (X : K.In s.heap) (I : InstAt s.heap x ox C od) (hs : findIn K (.ref C) name = some (some (.builtin id))) (hb : ∀ self, bindSpecial (.builtin id) self = pure (.builtin id, [self]))
    (h : wpAny M A (call (.builtin id) (.ref x :: args)) (fun v => Q (some v)) E s) : wpAny M A (callSpecialIfBound? (.ref x) name args) Q E s := by
  simp only [callSpecialIfBound?, bindSpecialIfBound?]
  refine wpAny_holding (wpAny_bind (wpAny_bind (wpAny_bind (I.type.here ((looks_findIn X hs).here ?_)))))
  refine wpAny_bind (wpAny_askSetting (wpAny_ite ?_))
  have fin : wpAny M A (call (.builtin id) ([.ref x] ++ args) >>= fun v => pure (some v)) Q E s := wpAny_bind (wpAny_mono h (fun v s' h' => wpAny_pure h') fun _ _ h' => h')
  split
  · exact wpAny_bind ((Looks.of_pure (hb _)).here (wpAny_pure (by exact fin)))
  · exact wpAny_tryCatch (wpAny_bind ((Looks.of_pure (hb _)).here (wpAny_pure (by exact fin))))
/-- x != y where the class of x has an own __eq__ and object's __ne__ -/
theorem ne_K {Q : Value → Shared → Prop} (hu : A.units + 1 < cLine) (F : Fr h₀ L s.heap m) (X₀ : K.In h₀) (I : InstAt s.heap x ox C od) (hb : Looks (model prog w) s.heap (typeOf b) tb) (hn : notFirst K C tb = true)
    (hs : findIn K (.ref C) "__ne__" = some (some (.builtin "object.__ne__"))) (he : findIn K (.ref C) "__eq__" = some (some (.ref f))) (hf : isFn K (.ref f) = true) (ho : mroIn K C (.type "object") = some true)
    (h : wpAny (model prog w) A.in1 (call (.ref f) [.ref x, b]) (fun v s' => ∃ c, v = .bool c ∧ Q (.bool (!c)) s') E s) : wpAny (model prog w) A (richCompare .NotEq (.ref x) b) Q E s := by
  have X := X₀.keeps F.keep
  have sub : Looks (model prog w) s.heap (isInstance (.ref x) (.type "object")) true := I.type.andThen (looks_mroIn X ho)
  have one : wpAny (model prog w) A (tryCompare (.ref x) "__ne__" b) (fun r s' => ∃ v, r = some v ∧ Q v s') E s := by
    unfold tryCompare
    refine wpAny_bind (ifBound_B X I hs PySem.F.cmp_object.ne.bind ?_)
    refine wpAny_call (codeAny_call_builtin PySem.F.cmp_object.ne.plain PySem.F.cmpEntry_ne (@check_slot (model prog w) _ _ s "object.__ne__" "object" "__ne__" (.ref x) [b] [] _ PySem.F.cmpKind_ne PySem.F.cmpSplit_ne sub (PySem.F.cmpArgs_ne _ _) ?_))
    unfold Builtin.«object.__ne__»
    repeat (first
      | with_reducible refine wpAny_cRoomFor (show A.in1.units < cLine from hu) ?_
      | (refine wpAny_bind (m := callSpecialIfBound? (.ref x) (Str.ofString "__eq__") [b])
          (ifBound_K X I he hf (wpAny_mono h (fun r s' hr => by
            obtain ⟨c, rfl, hq⟩ := hr
            repeat (first | exact hq | exact ⟨_, rfl, hq⟩ | exact wpAny_pure hq | exact wpAny_truthy_bool hq | (refine wpAny_bind (m := truthy (.bool _)) (wpAny_truthy_bool ?_)) | wp_step)) fun _ _ e => e)))
      | wp_step)
  unfold richCompare
  simp only [oneThing_ref]
  refine wpAny_holding (wpAny_bind (wpAny_cRoomFor (Nat.lt_of_succ_lt hu) ?_))
  refine wpAny_bind (I.type.here (wpAny_bind (hb.here ?_)))
  split
  · rename_i q
    have e : subIn K tb (.ref C) = some false := by
      rcases Bool.or_eq_true_iff.mp hn with e | e
      · rw [beq_iff_eq.mp e] at q; simp at q
      · exact beq_iff_eq.mp e
    refine wpAny_bind ((looks_subIn X e).here ?_)
    simp only [Bool.false_eq_true, if_false]
    refine wpAny_bind (wpAny_mono one (fun r s' z => ?_) fun _ _ e => e)
    obtain ⟨v, rfl, hq⟩ := z
    exact wpAny_pure hq
  · refine wpAny_bind (wpAny_pure ?_)
    simp only [Bool.false_eq_true, if_false]
    refine wpAny_bind (wpAny_mono one (fun r s' z => ?_) fun _ _ e => e)
    obtain ⟨v, rfl, hq⟩ := z
    exact wpAny_pure hq
end
/-- x != y, two instances of one class with its own __eq__ -/
def rNeOwn (C : Addr) (sp : Sp) (E : XK) : R2 := fun x y H Q => ∃ a dx fs b dy gs, x = .ref a ∧ y = .ref b ∧ H a = some (.ins C dx fs) ∧ H b = some (.ins C dy gs) ∧ sp [x, y] H (fun v H' => ∃ c, v = .bl c ∧ Q (.bl (!c)) H') E
section
variable {X : Cx} {C g : Addr} {n : Nat} {CX : CXT} {sp : Sp} {E : XK} {fd : FuncData} {ps : List Str}
theorem op_neOwn (hs : PySem.W.findIn X.K (.ref C) "__ne__" = some (some (.builtin "object.__ne__"))) (he : PySem.W.findIn X.K (.ref C) "__eq__" = some (some (.ref g))) (hf : PySem.W.isFn X.K (.ref g) = true) (hn : PySem.W.notFirst X.K C (.ref C) = true)
    (ho : PySem.W.mroIn X.K C (.type "object") = some true) (F : FnOk X.prog X.w X.K X.mg X.base CX n g fd ps sp) (hb : Binds X.K fd ps []) (hr : Room (n + 1) X.A) (hx : Passes CX X E) : OpR X (compareOp .NotEq) (rNeOwn C sp E) := by
  intro pins s σ H x y v u Q I rx ry h
  obtain ⟨a, dx, fs, b, dy, gs, rfl, rfl, ha, hb2, q⟩ := h
  cases (show v = Value.ref a from rx)
  cases (show u = Value.ref b from ry)
  obtain ⟨mA, O, _⟩ := ins_get I.hok ha
  obtain ⟨od, J, _⟩ := O.look
  obtain ⟨mA', O', _⟩ := ins_get I.hok hb2
  obtain ⟨od', J', _⟩ := O'.look
  obtain ⟨m, hF⟩ := I.fr
  show wpAny _ _ (richCompare .NotEq (.ref a) (.ref b)) _ _ _
  refine ne_K (tb := .ref C) (hu_of hr) hF I.ok.mod.kin J J'.type hn hs he hf ho ?_
  refine wpAny_mono (run_in1 (us := [.ref a, .ref b]) (vs := [.ref a, .ref b]) F hr hb hx I (.cons rfl (.cons rfl .nil)) q) (fun w s' z => ?_) fun _ _ x => x
  obtain ⟨z', H', I', rz, c, ez, qz⟩ := z
  subst ez
  exact ⟨c, rz, .bl (!c), H', I', rfl, qz⟩
end
/-! ### a class with a default, called by keyword -/
theorem binds_kw {K : PySem.W.Frag} {x qual : Str} {params : Arguments} {body : List Stmt} {scope : Scope} {dvs : List V} {f : Addr} {fd : FuncData} {ps ks : List Str} {n : Nat} (F : L2.FunD K x qual params body scope dvs [] f fd) (hd : dvs ≠ [])
    (h : ∀ (T : Addr) (kV doc pm : Value) (an : Option Addr) (cdv ct : Value) (us its ws : List Value), us.length = n → its.length = dvs.length → ws.length = ks.length →
      ∃ k, bindArgs (PySem.W.fnOf x qual params body scope (.ref T) kV doc pm an cdv ct) ⟨us, ks.zip ws⟩ = seqItems? (.ref T) >>= k ∧ k (some its.toArray) = pure (ps.zip (us ++ ws))) : KBn K fd ps n ks (fun us ws => us ++ ws) (fun vs zs => vs ++ zs) := by
  obtain ⟨its, b⟩ := F.kbindsD n ks (fun us _ ws => us ++ ws) hd (fun a _ c => a.append c) h
  exact b
/-! ### t[::-1] of a tuple -/
section
open HT
variable {prog : Program} {w : World} {A : Around} {E : Value → Shared → Prop} {s : Shared}
theorem sliceApplied_rev {sl : Addr} {vs : Value} {n : Nat} {Q : Int × Int × Nat → Shared → Prop} (hs : s.heap.IsSliceOf sl .none .none vs) (ps : IsPart vs (some (-1)))
    (h : Q ((n : Int) - 1, -1, n) s) : wpAny (model prog w) A (Builtin.Slice.sliceApplied (.ref sl) (pure (n : Int))) Q E s := by
  obtain ⟨os, hos, hcs, hds⟩ := id hs
  unfold Builtin.Slice.sliceApplied Builtin.Slice.sliceFields
  refine wpAny_bind (wpAny_bind (wpAny_field hos hds (x := .none) rfl (wpAny_bind (wpAny_field hos hds (x := .none) rfl (wpAny_bind (wpAny_field hos hds (x := vs) rfl (wpAny_pure ?_)))))))
  refine wpAny_bind (slicePart_ ps ?_)
  show wpAny _ _ (if ((-1 : Int) == 0) = true then _ else _) _ _ s
  rw [if_neg (by decide)]
  refine wpAny_bind (slicePart_none (wpAny_bind (slicePart_none (wpAny_bind (wpAny_pure ?_)))))
  show wpAny _ _ (match Builtin.Slice.sliceAdjust none none (-1) (n : Int) with | (lo, hi) => pure (lo, (-1 : Int), Builtin.Slice.slicePlaces lo hi (-1))) _ _ s
  have e1 : Builtin.Slice.sliceAdjust none none (-1) (n : Int) = ((n : Int) - 1, -1) := by
    simp [Builtin.Slice.sliceAdjust]
  have e2 : Builtin.Slice.slicePlaces ((n : Int) - 1) (-1) (-1) = n := by
    unfold Builtin.Slice.slicePlaces
    simp
    omega
  rw [e1]
  show wpAny _ _ (pure ((n : Int) - 1, (-1 : Int), Builtin.Slice.slicePlaces ((n : Int) - 1) (-1) (-1))) _ _ s
  rw [e2]
  exact wpAny_pure h
theorem filterMap_same {α β : Type} {f g : α → Option β} : ∀ {l : List α}, (∀ k ∈ l, f k = g k) → l.filterMap f = l.filterMap g
  | [], _ => rfl
  | a :: r, h => by
    rw [List.filterMap_cons, List.filterMap_cons, h a List.mem_cons_self, filterMap_same fun k hk => h k (List.mem_cons_of_mem _ hk)]
theorem pick_rev (xs : Array Value) : ((List.range xs.size).filterMap fun (k : Nat) => xs[(((xs.size : Int) - 1) + (k : Int) * (-1)).toNat]?).toArray = xs.toList.reverse.toArray := by
  congr 1
  have e : ∀ k ∈ List.range xs.size, xs[(((xs.size : Int) - 1) + (k : Int) * (-1)).toNat]? = xs[xs.size - 1 - k]? := fun k hk => by
    have := List.mem_range.mp hk
    congr 1
    omega
  rw [filterMap_same e]
  have e2 : (List.range xs.size).filterMap (fun k => xs[xs.size - 1 - k]?) = ((List.range xs.size).map fun k => xs.size - 1 - k).filterMap (xs[·]?) := by
    rw [List.filterMap_map]
    rfl
  rw [e2, PySem.W.krv_range, List.filterMap_reverse, PySem.W.krv_all]
theorem getItem_tuple_rev {t sl : Addr} {items : Array Value} {vs : Value} {Q : Value → Shared → Prop} (ht : IsTup s.heap t items) (hs : s.heap.IsSliceOf sl .none .none vs) (ps : IsPart vs (some (-1)))
    (h : Q (.ref s.heap.objs.size) { s with heap := s.heap.push { cls := .type "tuple", data := .seq items.toList.reverse.toArray } })
    (hsz : items.size ≤ sizeLine) : wpAny (model prog w) A (getItem (.ref t) (.ref sl)) Q E s := by
  have htake : sizeOk (.seq items.toList.reverse.toArray) := by
    show items.toList.reverse.toArray.size ≤ sizeLine
    rw [List.size_toArray, List.length_reverse, Array.length_toList]
    exact hsz
  obtain ⟨os, hos, hcs, hds⟩ := id hs
  have hTs : s.TypeIs (.ref sl) "slice" := ⟨os, hos, hcs⟩
  unfold getItem
  try with_reducible refine wpAny_holding ?_
  first | refine wpAny_bind (wpAny_pure ?_) | skip
  refine wpAny_bind (wpAny_sequenceKey ht.typeIs (by decide) ?_)
  refine wpAny_bind (wpAny_callSpecial?_slot (name := Str.ofString "__getitem__") ht.typeIs PyProof.Rows.slot_tuple_getitem
    (wpAny_call_entry PyProof.Rows.slot_tuple_getitem ht.typeIs entry_tuple_getitem ?_ (args_tuple_getitem _ _)))
  show wpAny _ _ (Builtin.Tuple.tupleItemsOf (.ref t) >>= _) _ _ s
  refine wpAny_bind (tupleItemsOf_ ht ?_)
  refine wpAny_bind (wpAny_typeOf hTs ?_)
  rw [if_pos (by decide)]
  refine wpAny_bind (sliceApplied_rev hs ps ?_)
  have hno : ¬ (((items.size : Int) - 1 == 0 && (-1 : Int) == 1 && items.size == items.size) = true) := by
    intro q
    rw [Bool.and_eq_true, Bool.and_eq_true] at q
    exact absurd (eq_of_beq q.1.2) (by decide)
  show wpAny _ _ (if ((items.size : Int) - 1 == 0 && (-1 : Int) == 1 && items.size == items.size) = true then _ else _) _ _ s
  rw [if_neg hno, pick_rev]
  first
    | exact wpAny_bind (m := Builtin.Tuple.tupleExact _) (wpAny_newObj_type (wpAny_pure ⟨_, rfl, wpAny_pure h⟩) htake)
    | exact wpAny_bind (m := Builtin.Tuple.tupleExact _) (wpAny_newObj_type (wpAny_bind (wpAny_pure (wpAny_pure ⟨_, rfl, wpAny_pure h⟩))) htake)
    | exact wpAny_bind (wpAny_bind (m := Builtin.Tuple.tupleExact _) (wpAny_newObj_type (wpAny_pure (wpAny_pure ⟨_, rfl, wpAny_pure h⟩)) htake))
    | exact wpAny_bind (wpAny_bind (m := Builtin.Tuple.tupleExact _) (wpAny_newObj_type (wpAny_pure ⟨_, rfl, wpAny_pure h⟩) htake))
end
def tRevT (K : PySem.W.Frag) (te : TE) : TE := fun σ H Q => te σ H fun x H1 => ∃ a xs, x = .ref a ∧ SqT K H1 a xs ∧ ∀ p, H1 p = none → Q (.ref p) (upd H1 p (.tup xs.reverse))
section
variable {X : Cx} {K : PySem.W.Frag}
theorem pe_revT (hK : X.K = K) {e : Expr} {te : TE} {k : Nat} {p1 p2 p3 pos : Pos} (he : PE X e te) : PE X (.Subscript e (.Slice none none (some (.UnaryOp .USub (.Constant (.int 1) k p1) p2)) p3) pos) (tRevT K te) := by
  subst hK
  refine ⟨fun pins s σ H Q I h => ?_⟩
  refine Subscript_ (thn (he.run pins s σ H _ I h) fun v s1 ⟨x, H1, I1, r1, q1⟩ => ?_)
  obtain ⟨a, xs, ex, hx, q⟩ := q1
  subst ex
  cases r1
  have hst : PO X (some (.UnaryOp .USub (.Constant (.int 1) k p1) p2)) (tPart (tUn (rU fun i => .int (-i)) (tC (.int 1)))) := po_some (pe_un un_neg pe_int)
  refine wpAny_Slice (thn (po_none.run pins s1 σ H1 (fun o H2 => o = none ∧ H2 = H1) I1 ⟨rfl, rfl⟩) fun vl s2 ⟨l, H2, I2, pl, el, e2⟩ => ?_)
  subst el e2
  refine thn (po_none.run pins s2 σ H2 (fun o H3 => o = none ∧ H3 = H2) I2 ⟨rfl, rfl⟩) fun vu s3 ⟨u, H3, I3, pu, eu, e3⟩ => ?_
  subst eu e3
  refine thn (hst.run pins s3 σ H3 (fun o H4 => o = some (-1) ∧ H4 = H3) I3 ⟨1, rfl, -1, rfl, rfl, rfl⟩) fun vs s4 ⟨o, H4, I4, ps, eo, e4⟩ => ?_
  subst eo e4
  cases pl
  cases pu
  have I5 : Inv X pins σ H4 { s4 with heap := s4.heap.push { cls := .type "slice", data := .fields #[.none, .none, vs] } } := I4.kept (t' := s4.toks) fun b ob q => Heap.get?_push_of_some _ q
  obtain ⟨its, r, ht, hz⟩ := I5.tuple hx
  have hlen := r.length
  show wpAny (model X.prog X.w) X.A (subscriptTail e (.Slice none none (some (.UnaryOp .USub (.Constant (.int 1) k p1) p2)) p3) (.ref a) (.ref s4.heap.objs.size)) (EP X pins σ Q) X.xe { s4 with heap := s4.heap.push { cls := .type "slice", data := .fields #[.none, .none, vs] } }
  refine tail_any (ops := [.ref a, .ref s4.heap.objs.size]) ht.typeIs PyProof.Rows.slot_tuple_getitem.lookup ?_ (by with_unfolding_all rfl)
  refine getItem_tuple_rev ht (Heap.IsSliceOf.new _ .none .none vs) ps ?_ (by rw [List.size_toArray]; omega)
  refine ⟨.ref _, _, I5.laid (t' := s4.toks) (o := .tup xs.reverse) (fun b ob q => Heap.get?_push_of_some _ q) (Nat.le_refl _) ?_, rfl, q _ (I5.hok.fresh (Nat.le_refl _))⟩
  refine ⟨by rw [List.length_reverse]; exact hz, _, r.reverse, ?_⟩
  have := IsTup.new { s4 with heap := s4.heap.push { cls := .type "slice", data := .fields #[.none, .none, vs] } }.heap its.toArray.toList.reverse.toArray
  simpa using this
end
end D

namespace D
open PySem PySem.Spec PyProof.Rows L2
local macro_rules | `(tactic| walk_at "st") => `(tactic| first | exact SqT.of (by assumption) | exact Or.inl (by assumption) | exact SqT.of upd_same | fail "st")
local macro_rules | `(tactic| walk_at "ixt") => `(tactic| refine ⟨_, _, _, _, rfl, rfl, (by walk_at "st" : SqT _ _ _ _), by rfl, ?_⟩)
local macro_rules | `(tactic| walk_at "sq") => `(tactic| first | exact SqL.of (by assumption) | assumption | exact Or.inl (by assumption) | exact SqL.of upd_same | fail "sq")
local macro_rules | `(tactic| walk_at "ix") => `(tactic| refine ⟨_, _, _, _, rfl, rfl, (by walk_at "sq" : SqL _ _ _ _), by rfl, ?_⟩)
local macro_rules | `(tactic| walk_at "set") => `(tactic| refine ⟨_, _, _, _, rfl, rfl, by first | assumption | exact upd_same, by rfl, ?_⟩)
local macro_rules | `(tactic| walk_at "len") => `(tactic| refine ⟨_, _, rfl, Or.inl (by walk_at "sq" : SqL _ _ _ _), ?_⟩)
local macro_rules | `(tactic| walk_at "g") => `(tactic| repeat (first | refine ⟨_, rfl, ?_⟩ | refine ⟨_, _, rfl, rfl, ?_⟩ | refine ⟨Or.inr (by decide), ?_⟩ | refine ⟨Or.inl (by decide), ?_⟩ | refine ⟨(by decide : (0 : Int) < _), ?_⟩ | refine ⟨(⟨by decide, by decide⟩ : CDiv _ _), ?_⟩ | refine ⟨(⟨by decide, by decide, by decide⟩ : CPow _ _), ?_⟩ | refine Or.inl ⟨_, rfl, ?_⟩ | refine ⟨rfl, ?_⟩ | walk_at "ix" | walk_at "ixt" | walk_at "len" | fail "g"))
local macro_rules | `(tactic| walk_at "if") => `(tactic| refine ite2 (fun e => ?_) (fun e => ?_))
def topS (i : Nat) : Stmt := PySem.Challenge.pw_drawnanew_k22_whole_focus.main.body.getD i (.Pass ⟨0, 0, 0, 0⟩)
abbrev s__wall : Stmt := topS 0
theorem sc__wall : FnScope ["k"] ["k"] (defScope s__wall) := ⟨rfl, rfl, rfl, by decide +kernel, rfl, by decide +kernel, by decide +kernel⟩
abbrev s_TooMany___init__ : Stmt := inClass (topS 3) 0
theorem sc_TooMany___init__ : FnScope ["self", "count"] ["self", "count"] (defScope s_TooMany___init__) := ⟨rfl, rfl, rfl, by decide +kernel, rfl, by decide +kernel, by decide +kernel⟩
abbrev s_TwiceMarked___init__ : Stmt := inClass (topS 4) 0
theorem sc_TwiceMarked___init__ : FnScope ["self", "mark"] ["self", "mark"] (defScope s_TwiceMarked___init__) := ⟨rfl, rfl, rfl, by decide +kernel, rfl, by decide +kernel, by decide +kernel⟩
abbrev s_NoNode___init__ : Stmt := inClass (topS 5) 0
theorem sc_NoNode___init__ : FnScope ["self", "mark"] ["self", "mark"] (defScope s_NoNode___init__) := ⟨rfl, rfl, rfl, by decide +kernel, rfl, by decide +kernel, by decide +kernel⟩
abbrev s_BadRule___init__ : Stmt := inClass (topS 6) 0
theorem sc_BadRule___init__ : FnScope ["self", "rule"] ["self", "rule"] (defScope s_BadRule___init__) := ⟨rfl, rfl, rfl, by decide +kernel, rfl, by decide +kernel, by decide +kernel⟩
abbrev s_buttons : Stmt := topS 9
theorem sc_buttons : FnScope ["page", "mark"] ["page"] (defScope s_buttons) := ⟨rfl, rfl, rfl, by decide +kernel, rfl, by decide +kernel, by decide +kernel⟩
abbrev s__near : Stmt := topS 10
theorem sc__near : FnScope ["lost", "before", "behind", "place", "mark"] ["lost", "before", "behind"] (defScope s__near) := ⟨rfl, rfl, rfl, by decide +kernel, rfl, by decide +kernel, by decide +kernel⟩
abbrev s__settled : Stmt := topS 11
theorem sc__settled : FnScope ["mark", "rule", "before", "behind"] ["mark", "rule", "before", "behind"] (defScope s__settled) := ⟨rfl, rfl, rfl, by decide +kernel, rfl, by decide +kernel, by decide +kernel⟩
abbrev s_Focus___init__ : Stmt := inClass (topS 12) 0
theorem sc_Focus___init__ : FnScope ["self", "page", "rule"] ["self", "page", "rule"] (defScope s_Focus___init__) := ⟨rfl, rfl, rfl, by decide +kernel, rfl, by decide +kernel, by decide +kernel⟩
abbrev s_Focus_page : Stmt := inClass (topS 12) 1
theorem sc_Focus_page : FnScope ["self"] ["self"] (defScope s_Focus_page) := ⟨rfl, rfl, rfl, by decide +kernel, rfl, by decide +kernel, by decide +kernel⟩
abbrev s_Focus_at : Stmt := inClass (topS 12) 2
theorem sc_Focus_at : FnScope ["self"] ["self"] (defScope s_Focus_at) := ⟨rfl, rfl, rfl, by decide +kernel, rfl, by decide +kernel, by decide +kernel⟩
abbrev s_Focus_at_setter : Stmt := inClass (topS 12) 3
theorem sc_Focus_at_setter : FnScope ["self", "mark"] ["self", "mark"] (defScope s_Focus_at_setter) := ⟨rfl, rfl, rfl, by decide +kernel, rfl, by decide +kernel, by decide +kernel⟩
abbrev s_Focus_put : Stmt := inClass (topS 12) 4
theorem sc_Focus_put : FnScope ["self", "mark"] ["self", "mark"] (defScope s_Focus_put) := ⟨rfl, rfl, rfl, by decide +kernel, rfl, by decide +kernel, by decide +kernel⟩
abbrev s_Focus_step : Stmt := inClass (topS 12) 5
theorem sc_Focus_step : FnScope ["self", "way", "marks", "place"] ["self", "way"] (defScope s_Focus_step) := ⟨rfl, rfl, rfl, by decide +kernel, rfl, by decide +kernel, by decide +kernel⟩
abbrev s_Focus_turn : Stmt := inClass (topS 12) 6
theorem sc_Focus_turn : FnScope ["self", "page", "marks"] ["self", "page"] (defScope s_Focus_turn) := ⟨rfl, rfl, rfl, by decide +kernel, rfl, by decide +kernel, by decide +kernel⟩
abbrev s_nodes_in : Stmt := topS 15
theorem sc_nodes_in : FnScope ["node", "nodes", "child"] ["node"] (defScope s_nodes_in) := ⟨rfl, rfl, rfl, by decide +kernel, rfl, by decide +kernel, by decide +kernel⟩
abbrev s_first_twice : Stmt := topS 16
theorem sc_first_twice : FnScope ["marks", "known", "seen", "mark"] ["marks", "known"] (defScope s_first_twice) := ⟨rfl, rfl, rfl, by decide +kernel, rfl, by decide +kernel, by decide +kernel⟩
abbrev s_Page___init__ : Stmt := inClass (topS 17) 0
theorem sc_Page___init__ : FnScope ["self", "root", "nodes", "twice", "node", "child"] ["self", "root"] (defScope s_Page___init__) := ⟨rfl, rfl, rfl, by decide +kernel, rfl, by decide +kernel, by decide +kernel⟩
abbrev s_Page_top : Stmt := inClass (topS 17) 1
theorem sc_Page_top : FnScope ["self"] ["self"] (defScope s_Page_top) := ⟨rfl, rfl, rfl, by decide +kernel, rfl, by decide +kernel, by decide +kernel⟩
abbrev s_Page_shown : Stmt := inClass (topS 17) 2
theorem sc_Page_shown : FnScope ["self"] ["self"] (defScope s_Page_shown) := ⟨rfl, rfl, rfl, by decide +kernel, rfl, by decide +kernel, by decide +kernel⟩
abbrev s_Page___getitem__ : Stmt := inClass (topS 17) 3
theorem sc_Page___getitem__ : FnScope ["self", "mark"] ["self", "mark"] (defScope s_Page___getitem__) := ⟨rfl, rfl, rfl, by decide +kernel, rfl, by decide +kernel, by decide +kernel⟩
abbrev s_Page___contains__ : Stmt := inClass (topS 17) 4
theorem sc_Page___contains__ : FnScope ["self", "mark"] ["self", "mark"] (defScope s_Page___contains__) := ⟨rfl, rfl, rfl, by decide +kernel, rfl, by decide +kernel, by decide +kernel⟩
abbrev s_Page___iter__ : Stmt := inClass (topS 17) 5
theorem sc_Page___iter__ : FnScope ["self"] ["self"] (defScope s_Page___iter__) := ⟨rfl, rfl, rfl, by decide +kernel, rfl, by decide +kernel, by decide +kernel⟩
abbrev s_Page___eq__ : Stmt := inClass (topS 17) 6
theorem sc_Page___eq__ : FnScope ["self", "other"] ["self", "other"] (defScope s_Page___eq__) := ⟨rfl, rfl, rfl, by decide +kernel, rfl, by decide +kernel, by decide +kernel⟩
abbrev s_Page_parent : Stmt := inClass (topS 17) 7
theorem sc_Page_parent : FnScope ["self", "mark"] ["self", "mark"] (defScope s_Page_parent) := ⟨rfl, rfl, rfl, by decide +kernel, rfl, by decide +kernel, by decide +kernel⟩
abbrev s__law_mixed : Stmt := topS 19
theorem sc__law_mixed : FnScope ["_law_number", "_law_turn", "_law_first", "_law_second"] ["_law_number", "_law_turn"] (defScope s__law_mixed) := ⟨rfl, rfl, rfl, by decide +kernel, rfl, by decide +kernel, by decide +kernel⟩
abbrev s__law_bag : Stmt := topS 20
theorem sc__law_bag : FnScope ["_law_script", "_law_cell", "_law_numbers", "_law_seed", "_law_at"] ["_law_script"] (defScope s__law_bag) := ⟨rfl, rfl, rfl, by decide +kernel, rfl, by decide +kernel, by decide +kernel⟩
abbrev s__law_pick : Stmt := topS 21
theorem sc__law_pick : FnScope ["_law_bag_here", "_law_many", "_law_turn", "_law_worth", "_law_cell", "_law_great"] ["_law_bag_here", "_law_many"] (defScope s__law_pick) := ⟨rfl, rfl, rfl, by decide +kernel, rfl, by decide +kernel, by decide +kernel⟩
abbrev s__law_choice : Stmt := topS 22
theorem sc__law_choice : FnScope ["_law_bag_here", "_law_things"] ["_law_bag_here", "_law_things"] (defScope s__law_choice) := ⟨rfl, rfl, rfl, by decide +kernel, rfl, by decide +kernel, by decide +kernel⟩
abbrev s__law_mingled : Stmt := topS 23
theorem sc__law_mingled : FnScope ["_law_bag_here", "_law_things", "_law_left", "_law_out", "_law_step"] ["_law_bag_here", "_law_things"] (defScope s__law_mingled) := ⟨rfl, rfl, rfl, by decide +kernel, rfl, by decide +kernel, by decide +kernel⟩
abbrev s__law_text : Stmt := topS 24
theorem sc__law_text : FnScope ["_law_bag_here", "_law_least", "_law_most", "_law_signs", "_law_told", "_law_step"] ["_law_bag_here", "_law_least", "_law_most"] (defScope s__law_text) := ⟨rfl, rfl, rfl, by decide +kernel, rfl, by decide +kernel, by decide +kernel⟩
abbrev s__law_label : Stmt := topS 25
theorem sc__law_label : FnScope ["_law_bag_here", "_law_way"] ["_law_bag_here"] (defScope s__law_label) := ⟨rfl, rfl, rfl, by decide +kernel, rfl, by decide +kernel, by decide +kernel⟩
abbrev s__law_pressed : Stmt := topS 26
theorem sc__law_pressed : FnScope ["_law_bag_here"] ["_law_bag_here"] (defScope s__law_pressed) := ⟨rfl, rfl, rfl, by decide +kernel, rfl, by decide +kernel, by decide +kernel⟩
abbrev s__law_marks : Stmt := topS 27
theorem sc__law_marks : FnScope ["_law_bag_here", "_law_count", "_law_most", "_law_left", "_law_right", "_law_step", "_law_start", "_law_k"] ["_law_bag_here", "_law_count"] (defScope s__law_marks) := ⟨rfl, rfl, rfl, by decide +kernel, rfl, by decide +kernel, by decide +kernel⟩
abbrev s__law_flat : Stmt := topS 28
theorem sc__law_flat : FnScope ["_law_bag_here", "_law_marks_here", "_law_deepest", "_law_flat_here", "_law_mark", "_law_most"] ["_law_bag_here", "_law_marks_here", "_law_deepest"] (defScope s__law_flat) := ⟨rfl, rfl, rfl, by decide +kernel, rfl, by decide +kernel, by decide +kernel⟩
abbrev s__law_grown : Stmt := topS 29
theorem sc__law_grown : FnScope ["_law_flat_here", "_law_ready", "_law_k", "_law_beneath"] ["_law_flat_here"] (defScope s__law_grown) := ⟨rfl, rfl, rfl, by decide +kernel, rfl, by decide +kernel, by decide +kernel⟩
abbrev s__law_fresh : Stmt := topS 30
theorem sc__law_fresh : FnScope ["_law_bag_here", "_law_pool"] ["_law_bag_here", "_law_pool"] (defScope s__law_fresh) := ⟨rfl, rfl, rfl, by decide +kernel, rfl, by decide +kernel, by decide +kernel⟩
abbrev s__law_worn : Stmt := topS 31
theorem sc__law_worn : FnScope ["_law_bag_here", "_law_flat_here", "_law_lost", "_law_out", "_law_mark", "_law_label_here", "_law_depth", "_law_way", "_law_most"] ["_law_bag_here", "_law_flat_here", "_law_lost"] (defScope s__law_worn) := ⟨rfl, rfl, rfl, by decide +kernel, rfl, by decide +kernel, by decide +kernel⟩
abbrev s__law_listed : Stmt := topS 32
theorem sc__law_listed : FnScope ["_law_flat_here", "_law_row"] ["_law_flat_here"] (defScope s__law_listed) := ⟨rfl, rfl, rfl, by decide +kernel, rfl, by decide +kernel, by decide +kernel⟩
abbrev s__law_turned : Stmt := topS 33
theorem sc__law_turned : FnScope ["_law_word", "_law_lost", "_law_old", "_law_new", "_law_told", "_law_left", "_law_behind", "_law_mark"] ["_law_word", "_law_lost", "_law_old", "_law_new", "_law_told"] (defScope s__law_turned) := ⟨rfl, rfl, rfl, by decide +kernel, rfl, by decide +kernel, by decide +kernel⟩
abbrev s__law_stepped : Stmt := topS 34
theorem sc__law_stepped : FnScope ["_law_marks_here", "_law_at", "_law_way", "_law_k"] ["_law_marks_here", "_law_at", "_law_way"] (defScope s__law_stepped) := ⟨rfl, rfl, rfl, by decide +kernel, rfl, by decide +kernel, by decide +kernel⟩
abbrev s__law_refused : Stmt := topS 35
theorem sc__law_refused : FnScope ["_law_held", "_law_mark", "e"] ["_law_held", "_law_mark"] (defScope s__law_refused) := ⟨rfl, rfl, rfl, by decide +kernel, rfl, by decide +kernel, by decide +kernel⟩
abbrev s__law_deeds : Stmt := topS 36
theorem sc__law_deeds : FnScope ["_law_bag_here", "_law_one", "_law_pool", "_law_held", "_law_marks_here", "_law_step", "_law_way", "_law_told", "_law_mark", "_law_word"] ["_law_bag_here", "_law_one", "_law_pool"] (defScope s__law_deeds) := ⟨rfl, rfl, rfl, by decide +kernel, rfl, by decide +kernel, by decide +kernel⟩
abbrev s__law_gone : Stmt := topS 37
theorem sc__law_gone : FnScope ["_law_one", "_law_after", "_law_page", "_law_told", "_law_shown"] ["_law_one", "_law_after", "_law_page"] (defScope s__law_gone) := ⟨rfl, rfl, rfl, by decide +kernel, rfl, by decide +kernel, by decide +kernel⟩
abbrev s__law_next : Stmt := topS 38
theorem sc__law_next : FnScope ["_law_bag_here", "_law_flat_here", "_law_pool", "_law_lost"] ["_law_bag_here", "_law_flat_here", "_law_pool", "_law_lost"] (defScope s__law_next) := ⟨rfl, rfl, rfl, by decide +kernel, rfl, by decide +kernel, by decide +kernel⟩
abbrev s_law : Stmt := topS 39
theorem sc_law : FnScope ["_law_script", "_law_bag_here", "_law_pool", "_law_flats", "_law_pages", "_law_group", "_law_word", "_law_row", "_law_turn", "_law_one", "_law_lost", "_law_flat_here"] ["_law_script"] (defScope s_law) := ⟨rfl, rfl, rfl, by decide +kernel, rfl, by decide +kernel, by decide +kernel⟩

structure Txt (K : PySem.W.Frag) (mg : Str → Option Value) where
  f__wall : Addr
  d__wall : FuncData
  F__wall : Fun K "_wall" "_wall" s__wall f__wall d__wall
  b__wall : Binds K d__wall ["k"] []
  g__wall : mg "_wall" = some (.ref f__wall)
  f_buttons : Addr
  d_buttons : FuncData
  F_buttons : Fun K "buttons" "buttons" s_buttons f_buttons d_buttons
  b_buttons : Binds K d_buttons ["page"] []
  g_buttons : mg "buttons" = some (.ref f_buttons)
  f__near : Addr
  d__near : FuncData
  F__near : Fun K "_near" "_near" s__near f__near d__near
  b__near : Binds K d__near ["lost", "before", "behind"] []
  g__near : mg "_near" = some (.ref f__near)
  f__settled : Addr
  d__settled : FuncData
  F__settled : Fun K "_settled" "_settled" s__settled f__settled d__settled
  b__settled : Binds K d__settled ["mark", "rule", "before", "behind"] []
  g__settled : mg "_settled" = some (.ref f__settled)
  f_nodes_in : Addr
  d_nodes_in : FuncData
  F_nodes_in : Fun K "nodes_in" "nodes_in" s_nodes_in f_nodes_in d_nodes_in
  b_nodes_in : Binds K d_nodes_in ["node"] []
  g_nodes_in : mg "nodes_in" = some (.ref f_nodes_in)
  f_first_twice : Addr
  d_first_twice : FuncData
  F_first_twice : Fun K "first_twice" "first_twice" s_first_twice f_first_twice d_first_twice
  b_first_twice : Binds K d_first_twice ["marks", "known"] []
  g_first_twice : mg "first_twice" = some (.ref f_first_twice)
  f__law_mixed : Addr
  d__law_mixed : FuncData
  F__law_mixed : Fun K "_law_mixed" "_law_mixed" s__law_mixed f__law_mixed d__law_mixed
  b__law_mixed : Binds K d__law_mixed ["_law_number", "_law_turn"] []
  g__law_mixed : mg "_law_mixed" = some (.ref f__law_mixed)
  f__law_bag : Addr
  d__law_bag : FuncData
  F__law_bag : Fun K "_law_bag" "_law_bag" s__law_bag f__law_bag d__law_bag
  b__law_bag : Binds K d__law_bag ["_law_script"] []
  g__law_bag : mg "_law_bag" = some (.ref f__law_bag)
  f__law_pick : Addr
  d__law_pick : FuncData
  F__law_pick : Fun K "_law_pick" "_law_pick" s__law_pick f__law_pick d__law_pick
  b__law_pick : Binds K d__law_pick ["_law_bag_here", "_law_many"] []
  g__law_pick : mg "_law_pick" = some (.ref f__law_pick)
  f__law_choice : Addr
  d__law_choice : FuncData
  F__law_choice : Fun K "_law_choice" "_law_choice" s__law_choice f__law_choice d__law_choice
  b__law_choice : Binds K d__law_choice ["_law_bag_here", "_law_things"] []
  g__law_choice : mg "_law_choice" = some (.ref f__law_choice)
  f__law_mingled : Addr
  d__law_mingled : FuncData
  F__law_mingled : Fun K "_law_mingled" "_law_mingled" s__law_mingled f__law_mingled d__law_mingled
  b__law_mingled : Binds K d__law_mingled ["_law_bag_here", "_law_things"] []
  g__law_mingled : mg "_law_mingled" = some (.ref f__law_mingled)
  f__law_text : Addr
  d__law_text : FuncData
  F__law_text : Fun K "_law_text" "_law_text" s__law_text f__law_text d__law_text
  b__law_text : Binds K d__law_text ["_law_bag_here", "_law_least", "_law_most"] []
  g__law_text : mg "_law_text" = some (.ref f__law_text)
  f__law_label : Addr
  d__law_label : FuncData
  F__law_label : Fun K "_law_label" "_law_label" s__law_label f__law_label d__law_label
  b__law_label : Binds K d__law_label ["_law_bag_here"] []
  g__law_label : mg "_law_label" = some (.ref f__law_label)
  f__law_pressed : Addr
  d__law_pressed : FuncData
  F__law_pressed : Fun K "_law_pressed" "_law_pressed" s__law_pressed f__law_pressed d__law_pressed
  b__law_pressed : Binds K d__law_pressed ["_law_bag_here"] []
  g__law_pressed : mg "_law_pressed" = some (.ref f__law_pressed)
  f__law_marks : Addr
  d__law_marks : FuncData
  F__law_marks : Fun K "_law_marks" "_law_marks" s__law_marks f__law_marks d__law_marks
  b__law_marks : Binds K d__law_marks ["_law_bag_here", "_law_count"] []
  g__law_marks : mg "_law_marks" = some (.ref f__law_marks)
  f__law_flat : Addr
  d__law_flat : FuncData
  F__law_flat : Fun K "_law_flat" "_law_flat" s__law_flat f__law_flat d__law_flat
  b__law_flat : Binds K d__law_flat ["_law_bag_here", "_law_marks_here", "_law_deepest"] []
  g__law_flat : mg "_law_flat" = some (.ref f__law_flat)
  f__law_grown : Addr
  d__law_grown : FuncData
  F__law_grown : Fun K "_law_grown" "_law_grown" s__law_grown f__law_grown d__law_grown
  b__law_grown : Binds K d__law_grown ["_law_flat_here"] []
  g__law_grown : mg "_law_grown" = some (.ref f__law_grown)
  f__law_fresh : Addr
  d__law_fresh : FuncData
  F__law_fresh : Fun K "_law_fresh" "_law_fresh" s__law_fresh f__law_fresh d__law_fresh
  b__law_fresh : Binds K d__law_fresh ["_law_bag_here", "_law_pool"] []
  g__law_fresh : mg "_law_fresh" = some (.ref f__law_fresh)
  f__law_worn : Addr
  d__law_worn : FuncData
  F__law_worn : Fun K "_law_worn" "_law_worn" s__law_worn f__law_worn d__law_worn
  b__law_worn : Binds K d__law_worn ["_law_bag_here", "_law_flat_here", "_law_lost"] []
  g__law_worn : mg "_law_worn" = some (.ref f__law_worn)
  f__law_listed : Addr
  d__law_listed : FuncData
  F__law_listed : Fun K "_law_listed" "_law_listed" s__law_listed f__law_listed d__law_listed
  b__law_listed : Binds K d__law_listed ["_law_flat_here"] []
  g__law_listed : mg "_law_listed" = some (.ref f__law_listed)
  f__law_turned : Addr
  d__law_turned : FuncData
  F__law_turned : Fun K "_law_turned" "_law_turned" s__law_turned f__law_turned d__law_turned
  b__law_turned : Binds K d__law_turned ["_law_word", "_law_lost", "_law_old", "_law_new", "_law_told"] []
  g__law_turned : mg "_law_turned" = some (.ref f__law_turned)
  f__law_stepped : Addr
  d__law_stepped : FuncData
  F__law_stepped : Fun K "_law_stepped" "_law_stepped" s__law_stepped f__law_stepped d__law_stepped
  b__law_stepped : Binds K d__law_stepped ["_law_marks_here", "_law_at", "_law_way"] []
  g__law_stepped : mg "_law_stepped" = some (.ref f__law_stepped)
  f__law_refused : Addr
  d__law_refused : FuncData
  F__law_refused : Fun K "_law_refused" "_law_refused" s__law_refused f__law_refused d__law_refused
  b__law_refused : Binds K d__law_refused ["_law_held", "_law_mark"] []
  g__law_refused : mg "_law_refused" = some (.ref f__law_refused)
  f__law_deeds : Addr
  d__law_deeds : FuncData
  F__law_deeds : Fun K "_law_deeds" "_law_deeds" s__law_deeds f__law_deeds d__law_deeds
  b__law_deeds : Binds K d__law_deeds ["_law_bag_here", "_law_one", "_law_pool"] []
  g__law_deeds : mg "_law_deeds" = some (.ref f__law_deeds)
  f__law_gone : Addr
  d__law_gone : FuncData
  F__law_gone : Fun K "_law_gone" "_law_gone" s__law_gone f__law_gone d__law_gone
  b__law_gone : Binds K d__law_gone ["_law_one", "_law_after", "_law_page"] []
  g__law_gone : mg "_law_gone" = some (.ref f__law_gone)
  f__law_next : Addr
  d__law_next : FuncData
  F__law_next : Fun K "_law_next" "_law_next" s__law_next f__law_next d__law_next
  b__law_next : Binds K d__law_next ["_law_bag_here", "_law_flat_here", "_law_pool", "_law_lost"] []
  g__law_next : mg "_law_next" = some (.ref f__law_next)
  f_law : Addr
  d_law : FuncData
  F_law : Fun K "law" "law" s_law f_law d_law
  b_law : Binds K d_law ["_law_script"] []
  g_law : mg "law" = some (.ref f_law)
  C_Focus : Addr
  g_Focus : mg "Focus" = some (.ref C_Focus)
  cl_Focus : Cls K C_Focus
  mk_Focus : PySem.W.makesIn K C_Focus = true
  kc_Focus : PySem.W.keepIn K (.ref C_Focus) = true
  nf_Focus : PySem.W.notFirst K C_Focus (.ref C_Focus) = true
  in_Focus : C8.InsC K C_Focus
  nA_Focus__at : NoAttr K C_Focus "_at"
  nA_Focus__marks : NoAttr K C_Focus "_marks"
  nA_Focus__page : NoAttr K C_Focus "_page"
  nA_Focus_rule : NoAttr K C_Focus "rule"
  f_Focus___init__ : Addr
  d_Focus___init__ : FuncData
  F_Focus___init__ : L2.FunD K "__init__" "Focus.__init__" (defArgs s_Focus___init__) (defBody s_Focus___init__) (defScope s_Focus___init__) [V.str (PySem.Str.ofString "near")] [] f_Focus___init__ d_Focus___init__
  b_Focus___init__ : Binds K d_Focus___init__ ["self", "page", "rule"] []
  bd_Focus___init__ : ∃ ds, Vals [V.str (PySem.Str.ofString "near")] ds ∧ Binds K d_Focus___init__ ["self", "page", "rule"] ds
  kb_Focus___init__ : KBn K d_Focus___init__ ["self", "page", "rule"] 2 ["rule"] (fun us ws => us ++ ws) (fun vs zs => vs ++ zs)
  a_Focus___init__ : PySem.W.findIn K (.ref C_Focus) "__init__" = some (some (.ref f_Focus___init__))
  i_Focus___init__ : PySem.W.isFn K (.ref f_Focus___init__) = true
  n_Focus___init__ : PySem.W.fnIn K f_Focus___init__ = true
  f_Focus_page : Addr
  d_Focus_page : FuncData
  F_Focus_page : Fun K "page" "Focus.page" s_Focus_page f_Focus_page d_Focus_page
  b_Focus_page : Binds K d_Focus_page ["self"] []
  p_Focus_page : Addr
  P_Focus_page : PropOf K C_Focus "page" p_Focus_page f_Focus_page
  f_Focus_at : Addr
  d_Focus_at : FuncData
  F_Focus_at : Fun K "at" "Focus.at" s_Focus_at f_Focus_at d_Focus_at
  b_Focus_at : Binds K d_Focus_at ["self"] []
  p_Focus_at : Addr
  P_Focus_at : PropOf K C_Focus "at" p_Focus_at f_Focus_at
  f_Focus_at_setter : Addr
  d_Focus_at_setter : FuncData
  F_Focus_at_setter : Fun K "at" "Focus.at" s_Focus_at_setter f_Focus_at_setter d_Focus_at_setter
  b_Focus_at_setter : Binds K d_Focus_at_setter ["self", "mark"] []
  S_Focus_at : PropSet K C_Focus "at" p_Focus_at f_Focus_at_setter
  f_Focus_put : Addr
  d_Focus_put : FuncData
  F_Focus_put : Fun K "put" "Focus.put" s_Focus_put f_Focus_put d_Focus_put
  b_Focus_put : Binds K d_Focus_put ["self", "mark"] []
  a_Focus_put : PySem.W.findIn K (.ref C_Focus) "put" = some (some (.ref f_Focus_put))
  i_Focus_put : PySem.W.isFn K (.ref f_Focus_put) = true
  n_Focus_put : PySem.W.fnIn K f_Focus_put = true
  f_Focus_step : Addr
  d_Focus_step : FuncData
  F_Focus_step : Fun K "step" "Focus.step" s_Focus_step f_Focus_step d_Focus_step
  b_Focus_step : Binds K d_Focus_step ["self", "way"] []
  a_Focus_step : PySem.W.findIn K (.ref C_Focus) "step" = some (some (.ref f_Focus_step))
  i_Focus_step : PySem.W.isFn K (.ref f_Focus_step) = true
  n_Focus_step : PySem.W.fnIn K f_Focus_step = true
  f_Focus_turn : Addr
  d_Focus_turn : FuncData
  F_Focus_turn : Fun K "turn" "Focus.turn" s_Focus_turn f_Focus_turn d_Focus_turn
  b_Focus_turn : Binds K d_Focus_turn ["self", "page"] []
  a_Focus_turn : PySem.W.findIn K (.ref C_Focus) "turn" = some (some (.ref f_Focus_turn))
  i_Focus_turn : PySem.W.isFn K (.ref f_Focus_turn) = true
  n_Focus_turn : PySem.W.fnIn K f_Focus_turn = true
  C_Page : Addr
  g_Page : mg "Page" = some (.ref C_Page)
  cl_Page : Cls K C_Page
  mk_Page : PySem.W.makesIn K C_Page = true
  kc_Page : PySem.W.keepIn K (.ref C_Page) = true
  nf_Page : PySem.W.notFirst K C_Page (.ref C_Page) = true
  in_Page : C8.InsC K C_Page
  ns_Page : PySem.W.noSeq K C_Page = true
  nq_Page : PySem.W.findIn K (.ref C_Page) "__ne__" = some (some (.builtin "object.__ne__"))
  nA_Page__nodes : NoAttr K C_Page "_nodes"
  nA_Page__parents : NoAttr K C_Page "_parents"
  nA_Page__root : NoAttr K C_Page "_root"
  f_Page___init__ : Addr
  d_Page___init__ : FuncData
  F_Page___init__ : Fun K "__init__" "Page.__init__" s_Page___init__ f_Page___init__ d_Page___init__
  b_Page___init__ : Binds K d_Page___init__ ["self", "root"] []
  a_Page___init__ : PySem.W.findIn K (.ref C_Page) "__init__" = some (some (.ref f_Page___init__))
  i_Page___init__ : PySem.W.isFn K (.ref f_Page___init__) = true
  n_Page___init__ : PySem.W.fnIn K f_Page___init__ = true
  f_Page_top : Addr
  d_Page_top : FuncData
  F_Page_top : Fun K "top" "Page.top" s_Page_top f_Page_top d_Page_top
  b_Page_top : Binds K d_Page_top ["self"] []
  p_Page_top : Addr
  P_Page_top : PropOf K C_Page "top" p_Page_top f_Page_top
  f_Page_shown : Addr
  d_Page_shown : FuncData
  F_Page_shown : Fun K "shown" "Page.shown" s_Page_shown f_Page_shown d_Page_shown
  b_Page_shown : Binds K d_Page_shown ["self"] []
  p_Page_shown : Addr
  P_Page_shown : PropOf K C_Page "shown" p_Page_shown f_Page_shown
  f_Page___getitem__ : Addr
  d_Page___getitem__ : FuncData
  F_Page___getitem__ : Fun K "__getitem__" "Page.__getitem__" s_Page___getitem__ f_Page___getitem__ d_Page___getitem__
  b_Page___getitem__ : Binds K d_Page___getitem__ ["self", "mark"] []
  a_Page___getitem__ : PySem.W.findIn K (.ref C_Page) "__getitem__" = some (some (.ref f_Page___getitem__))
  i_Page___getitem__ : PySem.W.isFn K (.ref f_Page___getitem__) = true
  n_Page___getitem__ : PySem.W.fnIn K f_Page___getitem__ = true
  f_Page___contains__ : Addr
  d_Page___contains__ : FuncData
  F_Page___contains__ : Fun K "__contains__" "Page.__contains__" s_Page___contains__ f_Page___contains__ d_Page___contains__
  b_Page___contains__ : Binds K d_Page___contains__ ["self", "mark"] []
  a_Page___contains__ : PySem.W.findIn K (.ref C_Page) "__contains__" = some (some (.ref f_Page___contains__))
  i_Page___contains__ : PySem.W.isFn K (.ref f_Page___contains__) = true
  n_Page___contains__ : PySem.W.fnIn K f_Page___contains__ = true
  f_Page___iter__ : Addr
  d_Page___iter__ : FuncData
  F_Page___iter__ : Fun K "__iter__" "Page.__iter__" s_Page___iter__ f_Page___iter__ d_Page___iter__
  b_Page___iter__ : Binds K d_Page___iter__ ["self"] []
  a_Page___iter__ : PySem.W.findIn K (.ref C_Page) "__iter__" = some (some (.ref f_Page___iter__))
  i_Page___iter__ : PySem.W.isFn K (.ref f_Page___iter__) = true
  n_Page___iter__ : PySem.W.fnIn K f_Page___iter__ = true
  f_Page___eq__ : Addr
  d_Page___eq__ : FuncData
  F_Page___eq__ : Fun K "__eq__" "Page.__eq__" s_Page___eq__ f_Page___eq__ d_Page___eq__
  b_Page___eq__ : Binds K d_Page___eq__ ["self", "other"] []
  a_Page___eq__ : PySem.W.findIn K (.ref C_Page) "__eq__" = some (some (.ref f_Page___eq__))
  i_Page___eq__ : PySem.W.isFn K (.ref f_Page___eq__) = true
  n_Page___eq__ : PySem.W.fnIn K f_Page___eq__ = true
  f_Page_parent : Addr
  d_Page_parent : FuncData
  F_Page_parent : Fun K "parent" "Page.parent" s_Page_parent f_Page_parent d_Page_parent
  b_Page_parent : Binds K d_Page_parent ["self", "mark"] []
  a_Page_parent : PySem.W.findIn K (.ref C_Page) "parent" = some (some (.ref f_Page_parent))
  i_Page_parent : PySem.W.isFn K (.ref f_Page_parent) = true
  n_Page_parent : PySem.W.fnIn K f_Page_parent = true
  li_Page : ItK K C_Page f_Page___iter__
  C_ScreenError : Addr
  g_ScreenError : mg "ScreenError" = some (.ref C_ScreenError)
  hd_ScreenError : PySem.W.hasDictIn K C_ScreenError = true
  ty_ScreenError : PySem.W.typeIn K (.ref C_ScreenError) = some (.type "type")
  be_ScreenError : PySem.W.subIn K (.ref C_ScreenError) (.type "BaseException") = some true
  vb_ScreenError : PySem.W.subIn K (.ref C_ScreenError) (.type "ValueError") = some true
  C_TooMany : Addr
  g_TooMany : mg "TooMany" = some (.ref C_TooMany)
  hd_TooMany : PySem.W.hasDictIn K C_TooMany = true
  ty_TooMany : PySem.W.typeIn K (.ref C_TooMany) = some (.type "type")
  be_TooMany : PySem.W.subIn K (.ref C_TooMany) (.type "BaseException") = some true
  vb_TooMany : PySem.W.subIn K (.ref C_TooMany) (.type "ValueError") = some true
  ox_TooMany : OexC K C_TooMany
  xf_TooMany : XfC K C_TooMany
  is_TooMany : ExcC K C_TooMany
  f_TooMany___init__ : Addr
  d_TooMany___init__ : FuncData
  F_TooMany___init__ : Fun K "__init__" "TooMany.__init__" s_TooMany___init__ f_TooMany___init__ d_TooMany___init__
  b_TooMany___init__ : Binds K d_TooMany___init__ ["self", "count"] []
  iC_TooMany : PySem.W.findIn K (.ref C_TooMany) "__init__" = some (some (.ref f_TooMany___init__))
  tI_TooMany : PySem.W.typeIn K (.ref f_TooMany___init__) = some (.type "function")
  nf_TooMany_count : PySem.W.findIn K (.ref C_TooMany) "count" = some none
  C_TwiceMarked : Addr
  g_TwiceMarked : mg "TwiceMarked" = some (.ref C_TwiceMarked)
  hd_TwiceMarked : PySem.W.hasDictIn K C_TwiceMarked = true
  ty_TwiceMarked : PySem.W.typeIn K (.ref C_TwiceMarked) = some (.type "type")
  be_TwiceMarked : PySem.W.subIn K (.ref C_TwiceMarked) (.type "BaseException") = some true
  vb_TwiceMarked : PySem.W.subIn K (.ref C_TwiceMarked) (.type "ValueError") = some true
  ox_TwiceMarked : OexC K C_TwiceMarked
  xf_TwiceMarked : XfC K C_TwiceMarked
  is_TwiceMarked : ExcC K C_TwiceMarked
  f_TwiceMarked___init__ : Addr
  d_TwiceMarked___init__ : FuncData
  F_TwiceMarked___init__ : Fun K "__init__" "TwiceMarked.__init__" s_TwiceMarked___init__ f_TwiceMarked___init__ d_TwiceMarked___init__
  b_TwiceMarked___init__ : Binds K d_TwiceMarked___init__ ["self", "mark"] []
  iC_TwiceMarked : PySem.W.findIn K (.ref C_TwiceMarked) "__init__" = some (some (.ref f_TwiceMarked___init__))
  tI_TwiceMarked : PySem.W.typeIn K (.ref f_TwiceMarked___init__) = some (.type "function")
  nf_TwiceMarked_mark : PySem.W.findIn K (.ref C_TwiceMarked) "mark" = some none
  C_NoNode : Addr
  g_NoNode : mg "NoNode" = some (.ref C_NoNode)
  hd_NoNode : PySem.W.hasDictIn K C_NoNode = true
  ty_NoNode : PySem.W.typeIn K (.ref C_NoNode) = some (.type "type")
  be_NoNode : PySem.W.subIn K (.ref C_NoNode) (.type "BaseException") = some true
  vb_NoNode : PySem.W.subIn K (.ref C_NoNode) (.type "ValueError") = some true
  ox_NoNode : OexC K C_NoNode
  xf_NoNode : XfC K C_NoNode
  is_NoNode : ExcC K C_NoNode
  f_NoNode___init__ : Addr
  d_NoNode___init__ : FuncData
  F_NoNode___init__ : Fun K "__init__" "NoNode.__init__" s_NoNode___init__ f_NoNode___init__ d_NoNode___init__
  b_NoNode___init__ : Binds K d_NoNode___init__ ["self", "mark"] []
  iC_NoNode : PySem.W.findIn K (.ref C_NoNode) "__init__" = some (some (.ref f_NoNode___init__))
  tI_NoNode : PySem.W.typeIn K (.ref f_NoNode___init__) = some (.type "function")
  nf_NoNode_mark : PySem.W.findIn K (.ref C_NoNode) "mark" = some none
  C_BadRule : Addr
  g_BadRule : mg "BadRule" = some (.ref C_BadRule)
  hd_BadRule : PySem.W.hasDictIn K C_BadRule = true
  ty_BadRule : PySem.W.typeIn K (.ref C_BadRule) = some (.type "type")
  be_BadRule : PySem.W.subIn K (.ref C_BadRule) (.type "BaseException") = some true
  vb_BadRule : PySem.W.subIn K (.ref C_BadRule) (.type "ValueError") = some true
  ox_BadRule : OexC K C_BadRule
  xf_BadRule : XfC K C_BadRule
  is_BadRule : ExcC K C_BadRule
  f_BadRule___init__ : Addr
  d_BadRule___init__ : FuncData
  F_BadRule___init__ : Fun K "__init__" "BadRule.__init__" s_BadRule___init__ f_BadRule___init__ d_BadRule___init__
  b_BadRule___init__ : Binds K d_BadRule___init__ ["self", "rule"] []
  iC_BadRule : PySem.W.findIn K (.ref C_BadRule) "__init__" = some (some (.ref f_BadRule___init__))
  tI_BadRule : PySem.W.typeIn K (.ref f_BadRule___init__) = some (.type "function")
  nf_BadRule_rule : PySem.W.findIn K (.ref C_BadRule) "rule" = some none
  ne_TooMany_ScreenError : C_TooMany ≠ C_ScreenError
  s_TooMany_ScreenError : PySem.W.subIn K (.ref C_TooMany) (.ref C_ScreenError) = some true
  ne_TooMany_TwiceMarked : C_TooMany ≠ C_TwiceMarked
  s_TooMany_TwiceMarked : PySem.W.subIn K (.ref C_TooMany) (.ref C_TwiceMarked) = some false
  ne_TooMany_NoNode : C_TooMany ≠ C_NoNode
  s_TooMany_NoNode : PySem.W.subIn K (.ref C_TooMany) (.ref C_NoNode) = some false
  ne_TooMany_BadRule : C_TooMany ≠ C_BadRule
  s_TooMany_BadRule : PySem.W.subIn K (.ref C_TooMany) (.ref C_BadRule) = some false
  ne_TwiceMarked_ScreenError : C_TwiceMarked ≠ C_ScreenError
  s_TwiceMarked_ScreenError : PySem.W.subIn K (.ref C_TwiceMarked) (.ref C_ScreenError) = some true
  ne_TwiceMarked_TooMany : C_TwiceMarked ≠ C_TooMany
  s_TwiceMarked_TooMany : PySem.W.subIn K (.ref C_TwiceMarked) (.ref C_TooMany) = some false
  ne_TwiceMarked_NoNode : C_TwiceMarked ≠ C_NoNode
  s_TwiceMarked_NoNode : PySem.W.subIn K (.ref C_TwiceMarked) (.ref C_NoNode) = some false
  ne_TwiceMarked_BadRule : C_TwiceMarked ≠ C_BadRule
  s_TwiceMarked_BadRule : PySem.W.subIn K (.ref C_TwiceMarked) (.ref C_BadRule) = some false
  ne_NoNode_ScreenError : C_NoNode ≠ C_ScreenError
  s_NoNode_ScreenError : PySem.W.subIn K (.ref C_NoNode) (.ref C_ScreenError) = some true
  ne_NoNode_TooMany : C_NoNode ≠ C_TooMany
  s_NoNode_TooMany : PySem.W.subIn K (.ref C_NoNode) (.ref C_TooMany) = some false
  ne_NoNode_TwiceMarked : C_NoNode ≠ C_TwiceMarked
  s_NoNode_TwiceMarked : PySem.W.subIn K (.ref C_NoNode) (.ref C_TwiceMarked) = some false
  ne_NoNode_BadRule : C_NoNode ≠ C_BadRule
  s_NoNode_BadRule : PySem.W.subIn K (.ref C_NoNode) (.ref C_BadRule) = some false
  ne_BadRule_ScreenError : C_BadRule ≠ C_ScreenError
  s_BadRule_ScreenError : PySem.W.subIn K (.ref C_BadRule) (.ref C_ScreenError) = some true
  ne_BadRule_TooMany : C_BadRule ≠ C_TooMany
  s_BadRule_TooMany : PySem.W.subIn K (.ref C_BadRule) (.ref C_TooMany) = some false
  ne_BadRule_TwiceMarked : C_BadRule ≠ C_TwiceMarked
  s_BadRule_TwiceMarked : PySem.W.subIn K (.ref C_BadRule) (.ref C_TwiceMarked) = some false
  ne_BadRule_NoNode : C_BadRule ≠ C_NoNode
  s_BadRule_NoNode : PySem.W.subIn K (.ref C_BadRule) (.ref C_NoNode) = some false
  m_ValueError : mg "ValueError" = none
  m_abs : mg "abs" = none
  m_enumerate : mg "enumerate" = none
  m_int : mg "int" = none
  m_isinstance : mg "isinstance" = none
  m_iter : mg "iter" = none
  m_len : mg "len" = none
  m_list : mg "list" = none
  m_range : mg "range" = none
  m_set : mg "set" = none
  m_str : mg "str" = none
  m_tuple : mg "tuple" = none
  t_MOST_NODES : Tok
  c_MOST_NODES : mg "MOST_NODES" = some (.int 400 t_MOST_NODES)
section
variable {P : Program} {w : World} {K : PySem.W.Frag} {mg : Str → Option Value} {base : Heap}
def sp_mixed : Sp := fun vs H Q _ => ∃ a t : Int, vs = [.int a, .int t] ∧ ∀ w : Int, 0 ≤ w → Q (.int w) H
theorem ok_mixed (T : Txt K mg) : FnOk P w K mg base CX0 1 T.f__law_mixed T.d__law_mixed ["_law_number", "_law_turn"] sp_mixed := by
  refine T.F__law_mixed.ok sc__law_mixed (fun vs H Q E h => ?_) (fun cdv A outer s H vs Q E hr h => ?_)
  · obtain ⟨a, t, rfl, _⟩ := h
    rfl
  · obtain ⟨a, t, rfl, q⟩ := h
    refine ⟨_, (pss_cons (ps_set (i := 2) sc__law_mixed.nd rfl (Or.inl rfl) (pe_op op_mod (pe_callTy call_int1 (by rfl) T.m_int (by decide +kernel) (pa_cons (pe_op op_add (pe_op op_mul (pe_op op_add (pv 0) pe_int) pe_int) (pe_op op_mul (pe_op op_add (pv 1) pe_int) pe_int)) pa_nil)) pe_int))
      (pss_cons (ps_set (i := 3) sc__law_mixed.nd rfl (Or.inl rfl) (pe_op op_mod (pe_callTy call_int1 (by rfl) T.m_int (by decide +kernel) (pa_cons (pe_op op_add (pe_op op_add (pe_op op_mul (pv 2) (pv 2)) (pe_op op_mul (pv 2) pe_int)) (pe_op op_mul (pe_op op_add (pv 1) pe_int) pe_int)) pa_nil)) pe_int))
      (pss_one (ps_ret (pe_op op_mod (pe_callTy call_int1 (by rfl) T.m_int (by decide +kernel) (pa_cons (pe_op op_add (pe_op op_add (pe_op op_fdiv (pv 3) pe_int) (pe_op op_mul (pv 3) pe_int)) (pv 1)) pa_nil)) pe_int))))), ?_⟩
    walk_at "g"
    have h0 := Int.emod_nonneg ((a + 1) * 48271 + (t + 1) * 1103515245) (by decide : (2147483647 : Int) ≠ 0)
    have h1 := Int.emod_lt_of_pos ((a + 1) * 48271 + (t + 1) * 1103515245) (by decide : (0 : Int) < 2147483647)
    refine ⟨Or.inr ⟨by omega, by omega⟩, ?_⟩
    walk_at "g"
    refine q _ (Int.emod_nonneg _ (by decide))
/-- the bag is made -/
def sp_bag (K : PySem.W.Frag) : Sp := fun vs H Q _ => ∃ (a : Addr) (ns : List Int), vs = [.ref a] ∧ SqL K H a (ns.map V.int) ∧ ns.length ≤ 63 ∧
  ∀ b H', Same H H' → H b = none → Bag K (one b) H' b → Q (.ref b) H'
theorem ok_bag (T : Txt K mg) : FnOk P w K mg base CX0 1 T.f__law_bag T.d__law_bag ["_law_script"] (sp_bag K) := by
  refine T.F__law_bag.ok sc__law_bag (fun vs H Q E h => ?_) (fun cdv A outer s H vs Q E hr h => ?_)
  · obtain ⟨a, t, rfl, _⟩ := h
    rfl
  · obtain ⟨a, ns, rfl, hS, hlen, q⟩ := h
    refine ⟨_, (pss_cons (ps_setLc (i := 2) (own := [("_law_cell", 1)]) (g := gName 1) (tt := tYes) (by rfl) sc__law_bag.nd rfl rfl (sw_true rfl rfl rfl (by decide +kernel)) (pi_listK (K := K) rfl (pv 0)) (blkOk_by (own := [("_law_cell", 1)]) (N := ["_law_script", "_law_cell", "_law_numbers", "_law_seed", "_law_at"]) (sc := defScope s__law_bag) (by decide +kernel)) (fun _ _ _ _ _ => (pg_name (i := 1) sc__law_bag.nd rfl (Or.inl rfl))) (fun _ _ _ _ _ => pts_nil) (fun _ _ _ _ _ => (pe_callTy call_int1 (by rfl) T.m_int (by decide +kernel) (pa_cons (pv 1) pa_nil))))
      (pss_cons (ps_set (i := 3) sc__law_bag.nd rfl (Or.inl rfl) (pe_callB (call_lenK (K := K) rfl) (by rfl) T.m_len PySem.boot_len (pa_cons (pv 2) pa_nil)))
      (pss_cons (ps_for PassesOwn.never rfl (pi_enumK (K := K) rfl (by rfl) T.m_enumerate (pa_cons (pe_slice (sl_listK (K := K) rfl) (pv 2) po_none (po_some pe_int)) pa_nil)) (pg_tupK (K := K) rfl rfl (pgs_cons (pg_name (i := 4) sc__law_bag.nd rfl (Or.inl rfl)) (pgs_cons (pg_name (i := 1) sc__law_bag.nd rfl (Or.inl rfl)) pgs_nil))) (pss_one (ps_set (i := 3) sc__law_bag.nd rfl (Or.inl rfl) (pe_op op_mod (pe_callTy call_int1 (by rfl) T.m_int (by decide +kernel) (pa_cons (pe_op op_add (pe_op op_add (pe_op op_mul (pv 3) pe_int) (pe_op op_mod (pe_callTy call_int1 (by rfl) T.m_int (by decide +kernel) (pa_cons (pe_callB call_abs (by rfl) T.m_abs (by decide +kernel) (pa_cons (pv 1) pa_nil)) pa_nil)) pe_int)) (pe_op op_mul_ib (pe_op op_add (pv 4) pe_int) (pe_cmpR op_lt (pv 1) pe_int (nomark _)))) pa_nil)) pe_int))))
      (pss_one (ps_ret (pe_lst (pa_cons (pv 2) (pa_cons pe_int (pa_cons pe_int (pa_cons pe_int (pa_cons (pv 3) pa_nil))))))))))), ?_⟩
    refine ⟨.ref a, rfl, a, rfl, ⟨_, hS⟩, fun n hn => ?_⟩
    refine lc_list (K := K) (a := a) (xs := ns.map V.int) (fun i H' => Same H H' ∧ H' n = some (.lst ((ns.take i).map V.int))) ⟨same_new hn, by rw [upd_same]; rfl⟩ (fun i H' _ h => h.1.seq hS) (fun i x H' hx h => ?_) (fun H' h => ?_)
    · rw [List.getElem?_map] at hx
      obtain ⟨z, hz, rfl⟩ := Option.map_eq_some_iff.mp hx
      refine ⟨rfl, ?_⟩
      refine ⟨_, rfl, ?_⟩
      refine Or.inl ⟨_, rfl, ?_⟩
      refine ⟨_, h.2, ?_, fun b o e => ?_, ?_⟩
      · rw [List.length_map, List.length_take]
        exact small1000 (by omega)
      · rw [upd_ne (ne_of_none e hn)]
        exact h.1 b o e
      · rw [upd_same, List.take_add_one, hz, List.map_append]
        rfl
    · have h2 : H' n = some (.lst (ns.map V.int)) := by
        have e := h.2
        rwa [List.length_map, List.take_length] at e
      refine ⟨_, rfl, n, _, rfl, .inl (SqL.of h2), ?_⟩
      refine ⟨_, rfl, 63, rfl, n, _, rfl, SqL.of h2, fun c hc => ?_⟩
      have hcut : cutV (ns.map V.int) none (some 63) = ns.map V.int := by
        unfold cutV
        rw [show HT.sIx (ns.map V.int).length 0 none = 0 from HT.sIx_none .., show HT.sIx (ns.map V.int).length (ns.map V.int).length (some 63) = min 63 (ns.map V.int).length from HT.sIx_nat _ _ 63, List.drop_zero, Nat.sub_zero]
        rw [List.length_map, Nat.min_eq_right hlen]
        exact List.take_of_length_le (by rw [List.length_map]; exact Nat.le_refl _)
      rw [hcut]
      have hn' : n ≠ c := ne_of_none h2 hc
      refine ⟨c, _, rfl, SqL.of upd_same, ?_⟩
      refine for_enum (a := c) (xs := ns.map V.int) (fun i σ H2 => (∃ y1 z y4, σ = [some (.ref a), y1, some (.ref n), some (.int z), y4]) ∧ Same H H2 ∧ H2 n = some (.lst (ns.map V.int)) ∧ H2 c = some (.lst (ns.map V.int))) ⟨⟨_, _, _, rfl⟩, fun b o e => ?_, ?_, ?_⟩ (fun i σ H2 _ p => SqL.of p.2.2.2) (fun i x T σ H2 hx hT p => ?_) (fun σ H2 p => ?_)
      · rw [upd_ne (fun z => ?_)]
        · exact h.1 b o e
        · subst z
          rw [h.1 b o e] at hc
          cases hc
      · rw [upd_ne hn']
        exact h2
      · exact upd_same
      · obtain ⟨⟨y1, z, y4, rfl⟩, hs, e2, e3⟩ := p
        rw [List.getElem?_map] at hx
        obtain ⟨v, hv, rfl⟩ := Option.map_eq_some_iff.mp hx
        refine ⟨T, _, rfl, SqT.of upd_same, rfl, _, _, rfl, _, _, rfl, rfl, ?_⟩
        walk_at "g"
        have nT : n ≠ T := ne_of_none e2 hT
        have cT : c ≠ T := ne_of_none e3 hT
        refine ⟨⟨_, _, _, rfl⟩, fun b o e => same_new hT b o (hs b o e), ?_, ?_⟩
        · rw [upd_ne nT]
          exact e2
        · rw [upd_ne cT]
          exact e3
      · obtain ⟨⟨y1, z, y4, rfl⟩, hs, e2, e3⟩ := p
        refine ⟨_, rfl, _, rfl, (by show 5 ≤ sizeLine; decide), fun b hb => ?_⟩
        refine q b _ (fun x o e => same_new hb x o (hs x o e)) (hs.free hb) ⟨rfl, n, ns, 0, 0, 0, z, upd_same, fun e => ?_, .inl ?_, by decide, by decide⟩
        · exact ne_of_none e2 hb e
        · rw [upd_ne (ne_of_none e2 hb)]
          exact e2
/-- a number is drawn -/
def sp_pick (K : PySem.W.Frag) : Sp := fun vs H Q _ => ∃ (b : Addr) (m : Int) (M : Ms), vs = [.ref b, .int m] ∧ Bag K M H b ∧ 0 < m ∧ m < 1073741824 ∧
  ∀ (w : Int) (H' : Hp), 0 ≤ w → w < m → At b H H' → Bag K M H' b → Q (.int w) H'
theorem At.bag {M : Ms} {H H' : Hp} {b n : Addr} {ns : List Int} {p r t s : Int} (w : M b) (hn : ¬ M n) (rd : Rd H n (.lst (ns.map V.int))) (h : At b H H') (e : H' b = some (.lst [.ref n, .int p, .int r, .int t, .int s])) (hp : 0 ≤ p) (hr : 0 ≤ r) : Bag K M H' b :=
  ⟨w, n, ns, p, r, t, s, e, hn, sx_rd h.sx (fun z => hn (by rw [show n = b from z]; exact w)) rd, hp, hr⟩
theorem At.trans {H H1 H2 : Hp} {b : Addr} (h : At b H H1) (h' : At b H1 H2) : At b H H2 := fun a n => (h' a n).trans (h a n)
theorem ok_pick (T : Txt K mg) : FnOk P w K mg base CX0 2 T.f__law_pick T.d__law_pick ["_law_bag_here", "_law_many"] (sp_pick K) := by
  have G__law_mixed := ok_mixed (P := P) (w := w) (base := base) T
  refine T.F__law_pick.ok sc__law_pick (fun vs H Q E h => ?_) (fun cdv A outer s H vs Q E hr h => ?_)
  · obtain ⟨_, _, _, rfl, _⟩ := h
    rfl
  · obtain ⟨b, m, M, rfl, ⟨wb, n, ns, p, r, t, sd, hb, hn, rd, hp, hr0⟩, hm, hm2, q⟩ := h
    refine ⟨_, (pss_cons (ps_set (i := 2) sc__law_pick.nd rfl (Or.inl rfl) (pe_ix (ix_listK (K := K) rfl) (pv 0) pe_int (fun _ _ => rfl)))
      (pss_cons (ps_asg (pe_op op_add (pv 2) pe_int) (pg_sub (pv 0) pe_int set_list))
      (pss_cons (ps_if (pt_cmpR op_gt (pe_ix (ix_listK (K := K) rfl) (pv 0) pe_int (fun _ _ => rfl)) pe_int (nomark _)) (pss_cons (ps_set (i := 3) sc__law_pick.nd rfl (Or.inl rfl) (pe_op op_mod (pe_callTy call_int1 (by rfl) T.m_int (by decide +kernel) (pa_cons (pe_ix (ix_listK (K := K) rfl) (pv 0) pe_int (fun _ _ => rfl)) pa_nil)) (pv 1)))
      (pss_cons (ps_asg (pe_op op_fdiv (pe_ix (ix_listK (K := K) rfl) (pv 0) pe_int (fun _ _ => rfl)) (pv 1)) (pg_sub (pv 0) pe_int set_list))
      (pss_one (ps_ret (pv 3))))) pss_nil)
      (pss_cons (ps_if (pt_cmpR op_lt (pe_ix (ix_listK (K := K) rfl) (pv 0) pe_int (fun _ _ => rfl)) (pe_callB (call_lenK (K := K) rfl) (by rfl) T.m_len PySem.boot_len (pa_cons (pe_ix (ix_listK (K := K) rfl) (pv 0) pe_int (fun _ _ => rfl)) pa_nil)) (nomark _)) (pss_cons (ps_set (i := 4) sc__law_pick.nd rfl (Or.inl rfl) (pe_ix (ix_listK (K := K) rfl) (pe_ix (ix_listK (K := K) rfl) (pv 0) pe_int (fun _ _ => rfl)) (pe_ix (ix_listK (K := K) rfl) (pv 0) pe_int (fun _ _ => rfl)) (fun _ _ => rfl)))
      (pss_cons (ps_asg (pe_op op_add (pe_ix (ix_listK (K := K) rfl) (pv 0) pe_int (fun _ _ => rfl)) pe_int) (pg_sub (pv 0) pe_int set_list))
      (pss_cons (ps_set (i := 5) sc__law_pick.nd rfl (Or.inl rfl) (pe_callB call_abs (by rfl) T.m_abs (by decide +kernel) (pa_cons (pv 4) pa_nil)))
      (pss_cons (ps_if (pt_cmpR op_ge (pv 5) (pe_op op_pow pe_int pe_int) (nomark _)) (pss_cons (ps_asg (pe_op op_fdiv (pv 5) (pv 1)) (pg_sub (pv 0) pe_int set_list))
      (pss_one (ps_ret (pe_op op_mod (pe_callTy call_int1 (by rfl) T.m_int (by decide +kernel) (pa_cons (pv 5) pa_nil)) (pv 1))))) pss_nil)
      (pss_one (ps_ret (pe_op op_mod (pe_callTy call_int1 (by rfl) T.m_int (by decide +kernel) (pa_cons (pe_call G__law_mixed (hr.mono (by omega)) (by rfl) T.g__law_mixed T.F__law_mixed.kp T.b__law_mixed .nil pass0 (pa_cons (pe_op op_add_ib (pe_op op_add (pv 5) (pv 5)) (pe_cmpR op_lt (pv 4) pe_int (nomark _))) (pa_cons (pv 2) pa_nil))) pa_nil)) (pv 1)))))))) pss_nil)
      (pss_one (ps_ret (pe_op op_mod (pe_callTy call_int1 (by rfl) T.m_int (by decide +kernel) (pa_cons (pe_call G__law_mixed (hr.mono (by omega)) (by rfl) T.g__law_mixed T.F__law_mixed.kp T.b__law_mixed .nil pass0 (pa_cons (pe_ix (ix_listK (K := K) rfl) (pv 0) pe_int (fun _ _ => rfl)) (pa_cons (pv 2) pa_nil))) pa_nil)) (pv 1)))))))), ?_⟩
    -- turn
    walk_at "g"
    walk_at "set"
    generalize e1 : upd H b _ = H1
    have a1 : At b H H1 := by rw [← e1]; exact At.upd
    have b1 : H1 b = some (.lst [.ref n, .int p, .int r, .int (t + 1), .int sd]) := by rw [← e1, upd_same]; rfl
    have rd1 : Rd H1 n (.lst (ns.map V.int)) := sx_rd a1.sx (fun z => hn (by rw [show n = b from z]; exact wb)) rd
    clear e1
    walk_at "g"
    walk_at "if"
    · walk_at "g"
      refine ⟨hm, ?_⟩
      walk_at "g"
      refine ⟨⟨hm, hm2⟩, ?_⟩
      walk_at "g"
      walk_at "set"
      walk_at "g"
      refine q _ _ (Int.emod_nonneg _ (by omega)) (Int.emod_lt_of_pos _ hm) (a1.trans At.upd) ((a1.trans At.upd).bag wb hn rd upd_same hp ?_)
      exact Int.ediv_nonneg hr0 (by omega)
    · walk_at "g"
      walk_at "if"
      · rename_i ep
        have ep' : p < ((ns.map V.int).length : Int) := of_decide_eq_true ep
        obtain ⟨j, rfl⟩ : ∃ j : Nat, p = (j : Int) := ⟨p.toNat, by omega⟩
        have hj : j < ns.length := by
          rw [List.length_map] at ep'
          omega
        have hcell : (ns.map V.int)[j]? = some (.int ns[j]) := by
          rw [List.getElem?_map, List.getElem?_eq_getElem hj]
          rfl
        walk_at "g"
        refine ⟨n, _, _, _, rfl, rfl, Or.inl rd1, atI_nat hcell, ?_⟩
        walk_at "g"
        walk_at "set"
        generalize e2 : upd H1 b _ = H2
        have a2 : At b H H2 := by rw [← e2]; exact a1.trans At.upd
        have b2 : H2 b = some (.lst [.ref n, .int ((j : Int) + 1), .int r, .int (t + 1), .int sd]) := by rw [← e2, upd_same]; rfl
        clear e2
        generalize ns[j] = c
        walk_at "g"
        walk_at "if"
        · walk_at "g"
          refine ⟨⟨hm, hm2⟩, ?_⟩
          walk_at "g"
          walk_at "set"
          walk_at "g"
          refine ⟨hm, ?_⟩
          refine q _ _ (Int.emod_nonneg _ (by omega)) (Int.emod_lt_of_pos _ hm) (a2.trans At.upd) ((a2.trans At.upd).bag wb hn rd upd_same (by omega) ?_)
          exact Int.ediv_nonneg (by split <;> omega) (by omega)
        · walk_at "g"
          refine ⟨_, _, rfl, fun z hz => ?_⟩
          walk_at "g"
          refine ⟨hm, ?_⟩
          exact q _ _ (Int.emod_nonneg _ (by omega)) (Int.emod_lt_of_pos _ hm) a2 (a2.bag wb hn rd b2 (by omega) hr0)
      · walk_at "g"
        refine ⟨_, _, rfl, fun z hz => ?_⟩
        walk_at "g"
        refine ⟨hm, ?_⟩
        exact q _ _ (Int.emod_nonneg _ (by omega)) (Int.emod_lt_of_pos _ hm) a1 (a1.bag wb hn rd b1 hp hr0)
/-- one thing of a list is chosen -/
def sp_choice (K : PySem.W.Frag) : Sp := fun vs H Q _ => ∃ (b a : Addr) (xs : List V) (M : Ms), vs = [.ref b, .ref a] ∧ Bag K M H b ∧ SqL K H a xs ∧ a ≠ b ∧ 0 < xs.length ∧ xs.length < 1000000 ∧
  ∀ (v : V) (H' : Hp), v ∈ xs → At b H H' → Bag K M H' b → Q v H'
theorem at_pos {α : Type} {xs : List α} {w : Int} (h0 : 0 ≤ w) (h1 : w < (xs.length : Int)) : ∃ v, atI xs w = some v ∧ v ∈ xs ∧ xs[w.toNat]? = some v := by
  obtain ⟨j, rfl⟩ : ∃ j : Nat, w = (j : Int) := ⟨w.toNat, by omega⟩
  have hj : j < xs.length := by omega
  exact ⟨xs[j], atI_nat (List.getElem?_eq_getElem hj), List.getElem_mem hj, List.getElem?_eq_getElem hj⟩
theorem ok_choice (T : Txt K mg) : FnOk P w K mg base CX0 3 T.f__law_choice T.d__law_choice ["_law_bag_here", "_law_things"] (sp_choice K) := by
  have G__law_pick := ok_pick (P := P) (w := w) (base := base) T
  refine T.F__law_choice.ok sc__law_choice (fun vs H Q E h => ?_) (fun cdv A outer s H vs Q E hr h => ?_)
  · obtain ⟨_, _, _, _, rfl, _⟩ := h
    rfl
  · obtain ⟨b, a, xs, M, rfl, hB, hS, hab, hl, hl2, q⟩ := h
    refine ⟨_, (pss_one (ps_ret (pe_ix (ix_listK (K := K) rfl) (pv 1) (pe_call G__law_pick (hr.mono (by omega)) (by rfl) T.g__law_pick T.F__law_pick.kp T.b__law_pick .nil pass0 (pa_cons (pv 0) (pa_cons (pe_callB (call_lenK (K := K) rfl) (by rfl) T.m_len PySem.boot_len (pa_cons (pv 1) pa_nil)) pa_nil))) (fun _ _ => rfl)))), ?_⟩
    walk_at "g"
    refine ⟨b, _, M, rfl, hB, by omega, by omega, fun w H' h0 h1 hA hB' => ?_⟩
    have hS' := sx_l hA.sx (fun z : a = b => hab z) hS
    obtain ⟨v, hv, hm, _⟩ := at_pos h0 h1
    exact ⟨_, _, _, _, rfl, rfl, hS', hv, q v H' hm hA hB'⟩
end
end D

namespace D
open PySem PySem.Spec PyProof.Rows L2
local macro_rules | `(tactic| walk_at "st") => `(tactic| first | exact SqT.of (by assumption) | exact Or.inl (by assumption) | exact SqT.of upd_same | fail "st")
local macro_rules | `(tactic| walk_at "ixt") => `(tactic| refine ⟨_, _, _, _, rfl, rfl, (by walk_at "st" : SqT _ _ _ _), by rfl, ?_⟩)
local macro_rules | `(tactic| walk_at "sq") => `(tactic| first | exact SqL.of (by assumption) | assumption | exact Or.inl (by assumption) | exact SqL.of upd_same | fail "sq")
local macro_rules | `(tactic| walk_at "ix") => `(tactic| refine ⟨_, _, _, _, rfl, rfl, (by walk_at "sq" : SqL _ _ _ _), by rfl, ?_⟩)
local macro_rules | `(tactic| walk_at "set") => `(tactic| refine ⟨_, _, _, _, rfl, rfl, by first | assumption | exact upd_same, by rfl, ?_⟩)
local macro_rules | `(tactic| walk_at "len") => `(tactic| refine ⟨_, _, rfl, Or.inl (by walk_at "sq" : SqL _ _ _ _), ?_⟩)
local macro_rules | `(tactic| walk_at "g") => `(tactic| repeat (first | refine ⟨_, rfl, ?_⟩ | refine ⟨_, _, rfl, rfl, ?_⟩ | refine ⟨Or.inr (by decide), ?_⟩ | refine ⟨Or.inl (by decide), ?_⟩ | refine ⟨(by decide : (0 : Int) < _), ?_⟩ | refine ⟨(⟨by decide, by decide⟩ : CDiv _ _), ?_⟩ | refine ⟨(⟨by decide, by decide, by decide⟩ : CPow _ _), ?_⟩ | refine Or.inl ⟨_, rfl, ?_⟩ | refine ⟨rfl, ?_⟩ | walk_at "ix" | walk_at "ixt" | walk_at "len" | fail "g"))
local macro_rules | `(tactic| walk_at "if") => `(tactic| refine ite2 (fun e => ?_) (fun e => ?_))
section
variable {P : Program} {w : World} {K : PySem.W.Frag} {mg : Str → Option Value} {base : Heap}
/-- a text of plain signs is drawn -/
def DrA (K : PySem.W.Frag) (M : Ms) (b : Addr) (H : Hp) (n : Nat) (Q : VK) : Prop := ∀ (z : Str) (H' : Hp), z.length ≤ n → asc z → At b H H' → Bag K M H' b → Q (.str z) H'
def sp_text (K : PySem.W.Frag) : Sp := fun vs H Q _ => ∃ (b : Addr) (lo hi : Nat) (M : Ms), vs = [.ref b, .int lo, .int hi] ∧ Bag K M H b ∧ lo ≤ hi ∧ hi ≤ 1000 ∧ DrA K M b H hi Q
theorem ok_text (T : Txt K mg) : FnOk P w K mg base CX0 3 T.f__law_text T.d__law_text ["_law_bag_here", "_law_least", "_law_most"] (sp_text K) := by
  have G__law_pick := ok_pick (P := P) (w := w) (base := base) T
  refine T.F__law_text.ok sc__law_text (fun vs H Q E h => ?_) (fun cdv A outer s H vs Q E hr h => ?_)
  · obtain ⟨_, _, _, _, rfl, _⟩ := h
    rfl
  · obtain ⟨b, lo, hi, M, rfl, hB, h1, h2, q⟩ := h
    refine ⟨_, (pss_cons (ps_set (i := 3) sc__law_text.nd rfl (Or.inl rfl) pe_str)
      (pss_cons (ps_set (i := 3) sc__law_text.nd rfl (Or.inl rfl) (pe_op op_add_str (pv 3) pe_str))
      (pss_cons (ps_set (i := 4) sc__law_text.nd rfl (Or.inl rfl) pe_str)
      (pss_cons (ps_for PassesOwn.never rfl (pi_range1 (by rfl) T.m_range (pa_cons (pe_op op_add (pv 1) (pe_call G__law_pick (hr.mono (by omega)) (by rfl) T.g__law_pick T.F__law_pick.kp T.b__law_pick .nil pass0 (pa_cons (pv 0) (pa_cons (pe_op op_add (pe_op op_sub (pv 2) (pv 1)) pe_int) pa_nil)))) pa_nil)) (pg_name (i := 5) sc__law_text.nd rfl (Or.inl rfl)) (pss_one (ps_set (i := 4) sc__law_text.nd rfl (Or.inl rfl) (pe_op op_add_str (pv 4) (pe_ix ix_str (pv 3) (pe_call G__law_pick (hr.mono (by omega)) (by rfl) T.g__law_pick T.F__law_pick.kp T.b__law_pick .nil pass0 (pa_cons (pv 0) (pa_cons (pe_callB call_len_str (by rfl) T.m_len PySem.boot_len (pa_cons (pv 3) pa_nil)) pa_nil))) (fun _ _ => rfl))))))
      (pss_one (ps_ret (pv 4))))))), ?_⟩
    walk_at "g"
    refine ⟨by decide +kernel, ?_⟩
    generalize hz : (_ ++ _ : Str) = z
    have lz : z.length = 94 := by rw [← hz]; decide +kernel
    have az : ∀ c ∈ z.cps.toList, c < 128 := by
      rw [← hz]
      intro c hc
      have : (((Str.ofString " !\"#$&'()*+,-./0123456789:;<=>?@ABCDEFGHIJKLMNOPQRSTUVWXYZ[\\]^_`" ++ Str.ofString "abcdefghijklmnopqrstuvwxyz{|}~" : Str).cps.toList).all fun c => decide (c < 128)) = true := by decide +kernel
      exact of_decide_eq_true (List.all_eq_true.mp this c hc)
    clear hz
    walk_at "g"
    refine ⟨b, _, M, rfl, hB, by omega, by omega, fun w H1 h3 h4 hA hB1 => ?_⟩
    walk_at "g"
    refine ⟨by omega, by omega, ?_⟩
    refine for_range (lo := 0) (n := ((lo : Int) + w).toNat) (fun i σ H2 => ∃ (u : Str) (y5 : Option V), σ = [some (.ref b), some (.int lo), some (.int hi), some (.str z), some (.str u), y5] ∧ u.length = i ∧ asc u ∧ At b H H2 ∧ Bag K M H2 b) ?_ (fun i σ H2 hi p => ?_) (fun σ H2 p => ?_)
    · exact ⟨_, _, rfl, rfl, (fun c hc => nomatch hc), hA, hB1⟩
    · obtain ⟨u, y5, rfl, hu, au, hA2, hB2⟩ := p
      walk_at "g"
      refine ⟨by rw [lz]; decide, ?_⟩
      refine ⟨b, _, M, rfl, hB2, by rw [lz]; decide, by rw [lz]; decide, fun v H3 h5 h6 hA3 hB3 => ?_⟩
      rw [lz] at h6
      obtain ⟨c, hc, hm, _⟩ := at_pos (xs := z.cps.toList) h5 (by rw [show z.cps.toList.length = z.length from Array.length_toList, lz]; exact h6)
      refine ⟨z, v, c, rfl, rfl, by rw [lz]; decide, hc, ?_⟩
      refine ⟨u, _, rfl, rfl, ?_, ?_⟩
      · show u.length + 1 ≤ sizeLine
        exact small1000 (by omega)
      · refine ⟨_, _, rfl, ?_, asc_app au (fun d hd => ?_), hA2.trans hA3, hB3⟩
        · rw [str_len, hu]
          rfl
        · rw [List.mem_singleton.mp (show d ∈ [c] from hd)]
          exact az c hm
    · obtain ⟨u, y5, rfl, hu, au, hA2, hB2⟩ := p
      walk_at "g"
      exact q u H2 (by omega) au hA2 hB2
theorem dig_asc {v : Int} (h0 : 0 ≤ v) (h1 : v < 10) : asc (Str.ofString (toString v)) := by
  have h : v = 0 ∨ v = 1 ∨ v = 2 ∨ v = 3 ∨ v = 4 ∨ v = 5 ∨ v = 6 ∨ v = 7 ∨ v = 8 ∨ v = 9 := by omega
  unfold asc
  rcases h with rfl | rfl | rfl | rfl | rfl | rfl | rfl | rfl | rfl | rfl <;> decide +kernel
def isLabA : V → Bool
  | .str z => decide (z.length ≤ 30) && z.cps.toList.all fun c => decide (c < 128)
  | _ => false
theorem labA_all (xs : List V) (h : xs.all isLabA = true) : ∀ v ∈ xs, ∃ z : Str, v = V.str z ∧ z.length ≤ 30 ∧ asc z := fun v hv => by
  have h1 := List.all_eq_true.mp h v hv
  cases v with
  | str z =>
    have h2 : (decide (z.length ≤ 30) && z.cps.toList.all fun c => decide (c < 128)) = true := h1
    rw [Bool.and_eq_true] at h2
    exact ⟨z, rfl, of_decide_eq_true h2.1, fun c hc => of_decide_eq_true (List.all_eq_true.mp h2.2 c hc)⟩
  | _ => cases h1
theorem asc_of (z : Str) (h : (z.cps.toList.all fun c => decide (c < 128)) = true) : asc z := fun c hc => of_decide_eq_true (List.all_eq_true.mp h c hc)
def sp_label (K : PySem.W.Frag) : Sp := fun vs H Q _ => ∃ (b : Addr) (M : Ms), vs = [.ref b] ∧ Bag K M H b ∧ ∀ (z : Str) (H' : Hp), z.length ≤ 30 → asc z → Sx (one b) H H' → Gr H H' → Bag K M H' b → Q (.str z) H'
theorem ok_label (T : Txt K mg) : FnOk P w K mg base CX0 4 T.f__law_label T.d__law_label ["_law_bag_here"] (sp_label K) := by
  have G__law_pick := ok_pick (P := P) (w := w) (base := base) T
  have G__law_choice := ok_choice (P := P) (w := w) (base := base) T
  have G__law_text := ok_text (P := P) (w := w) (base := base) T
  refine T.F__law_label.ok sc__law_label (fun vs H Q E h => ?_) (fun cdv A outer s H vs Q E hr h => ?_)
  · obtain ⟨_, _, rfl, _⟩ := h
    rfl
  · obtain ⟨b, M, rfl, hB, q⟩ := h
    refine ⟨_, (pss_cons (ps_set (i := 1) sc__law_label.nd rfl (Or.inl rfl) (pe_call G__law_pick (hr.mono (by omega)) (by rfl) T.g__law_pick T.F__law_pick.kp T.b__law_pick .nil pass0 (pa_cons (pv 0) (pa_cons pe_int pa_nil))))
      (pss_cons (ps_if (pt_cmpR op_lt (pv 1) pe_int (nomark _)) (pss_one (ps_ret pe_str)) pss_nil)
      (pss_cons (ps_if (pt_cmpR op_eq (pv 1) pe_int (nomark _)) (pss_one (ps_ret pe_str)) pss_nil)
      (pss_cons (ps_if (pt_cmpR op_lt (pv 1) pe_int (nomark _)) (pss_one (ps_ret (pe_op op_add_str pe_str (pe_callTy call_str_int (by rfl) T.m_str (by decide +kernel) (pa_cons (pe_call G__law_pick (hr.mono (by omega)) (by rfl) T.g__law_pick T.F__law_pick.kp T.b__law_pick .nil pass0 (pa_cons (pv 0) (pa_cons pe_int pa_nil))) pa_nil))))) pss_nil)
      (pss_cons (ps_if (pt_cmpR op_eq (pv 1) pe_int (nomark _)) (pss_one (ps_ret (pe_op op_add_str pe_str (pe_call G__law_text (hr.mono (by omega)) (by rfl) T.g__law_text T.F__law_text.kp T.b__law_text .nil pass0 (pa_cons (pv 0) (pa_cons pe_int (pa_cons pe_int pa_nil))))))) pss_nil)
      (pss_cons (ps_if (pt_cmpR op_eq (pv 1) pe_int (nomark _)) (pss_one (ps_ret (pe_call G__law_choice (hr.mono (by omega)) (by rfl) T.g__law_choice T.F__law_choice.kp T.b__law_choice .nil pass0 (pa_cons (pv 0) (pa_cons (pe_lst (pa_cons pe_str (pa_cons pe_str (pa_cons pe_str (pa_cons pe_str (pa_cons pe_str (pa_cons pe_str (pa_cons pe_str (pa_cons pe_str (pa_cons pe_str (pa_cons pe_str (pa_cons pe_str (pa_cons pe_str (pa_cons pe_str (pa_cons pe_str (pa_cons pe_str (pa_cons pe_str (pa_cons pe_str (pa_cons pe_str (pa_cons pe_str pa_nil)))))))))))))))))))) pa_nil))))) pss_nil)
      (pss_one (ps_ret (pe_call G__law_text (hr.mono (by omega)) (by rfl) T.g__law_text T.F__law_text.kp T.b__law_text .nil pass0 (pa_cons (pv 0) (pa_cons pe_int (pa_cons pe_int pa_nil)))))))))))), ?_⟩
    walk_at "g"
    refine ⟨b, _, M, rfl, hB, by omega, by omega, fun w H1 h3 h4 hA hB1 => ?_⟩
    have q1 : ∀ (z : Str) (H' : Hp), z.length ≤ 30 → asc z → Sx (one b) H1 H' → Gr H1 H' → Bag K M H' b → Q (.str z) H' := fun z H' h a s g => q z H' h a (hA.sx.trans s) ((hA.gr hB1.there).trans g)
    have q2 : ∀ (z : Str) (H' : Hp), z.length ≤ 30 → asc z → At b H1 H' → Bag K M H' b → Q (.str z) H' := fun z H' h c a hb => q1 z H' h c a.sx (a.gr hb.there) hb
    walk_at "g"
    walk_at "if"
    · walk_at "g"
      exact q1 _ _ (by decide +kernel) (asc_of _ (by decide +kernel)) Sx.refl Gr.refl hB1
    walk_at "g"
    walk_at "if"
    · walk_at "g"
      exact q1 _ _ (by decide +kernel) (asc_of _ (by decide +kernel)) Sx.refl Gr.refl hB1
    walk_at "g"
    walk_at "if"
    · walk_at "g"
      refine ⟨b, _, M, rfl, hB1, by omega, by omega, fun v H2 h5 h6 hA2 hB2 => ?_⟩
      walk_at "g"
      refine ⟨log2_10 h5 h6, ?_⟩
      have hd := dig_len h5 h6
      refine ⟨_, _, rfl, rfl, ?_, ?_⟩
      · refine Nat.le_of_lt (small1000 ?_)
        rw [hd]
        decide +kernel
      · refine q2 _ _ ?_ (asc_app (asc_of _ (by decide +kernel)) (dig_asc h5 h6)) hA2 hB2
        rw [str_len, hd]
        decide +kernel
    walk_at "g"
    walk_at "if"
    · walk_at "g"
      refine ⟨b, 0, 13, M, rfl, hB1, by decide, by decide, fun z H2 hz az hA2 hB2 => ?_⟩
      refine ⟨_, _, rfl, rfl, ?_, ?_⟩
      · refine Nat.le_of_lt (small1000 ?_)
        rw [show (Str.ofString "button ").length = 7 by decide +kernel]
        omega
      · refine q2 _ _ ?_ (asc_app (asc_of _ (by decide +kernel)) az) hA2 hB2
        rw [str_len, show (Str.ofString "button ").length = 7 by decide +kernel]
        omega
    walk_at "g"
    walk_at "if"
    · walk_at "g"
      refine ⟨by decide, fun p hp => ?_⟩
      have hpb : p ≠ b := fun z => hB1.there (by rw [← z]; exact hp)
      refine ⟨b, p, _, M, rfl, hB1.keep (N := fun _ => False) (Sx.new hp) (fun z => z) (fun _ z => z.elim), SqL.of upd_same, hpb, by decide, by decide, fun v H2 hv hA2 hB2 => ?_⟩
      obtain ⟨z, rfl, hz, az⟩ := labA_all _ (by decide +kernel) v hv
      exact q1 z H2 hz az ((Sx.new hp).trans hA2.sx) (Gr.upd.trans (hA2.gr hB2.there)) hB2
    walk_at "g"
    refine ⟨b, 1, 20, M, rfl, hB1, by decide, by decide, fun z H2 hz az hA2 hB2 => ?_⟩
    exact q2 z H2 (by omega) az hA2 hB2
theorem ok_pressed (T : Txt K mg) : FnOk P w K mg base CX0 5 T.f__law_pressed T.d__law_pressed ["_law_bag_here"] (sp_label K) := by
  have G__law_pick := ok_pick (P := P) (w := w) (base := base) T
  have G__law_text := ok_text (P := P) (w := w) (base := base) T
  have G__law_label := ok_label (P := P) (w := w) (base := base) T
  refine T.F__law_pressed.ok sc__law_pressed (fun vs H Q E h => ?_) (fun cdv A outer s H vs Q E hr h => ?_)
  · obtain ⟨_, _, rfl, _⟩ := h
    rfl
  · obtain ⟨b, M, rfl, hB, q⟩ := h
    refine ⟨_, (pss_cons (ps_if (pt_cmpR op_eq (pe_call G__law_pick (hr.mono (by omega)) (by rfl) T.g__law_pick T.F__law_pick.kp T.b__law_pick .nil pass0 (pa_cons (pv 0) (pa_cons pe_int pa_nil))) pe_int (nomark _)) (pss_one (ps_ret (pe_op op_add_str pe_str (pe_call G__law_text (hr.mono (by omega)) (by rfl) T.g__law_text T.F__law_text.kp T.b__law_text .nil pass0 (pa_cons (pv 0) (pa_cons pe_int (pa_cons pe_int pa_nil))))))) pss_nil)
      (pss_one (ps_ret (pe_call G__law_label (hr.mono (by omega)) (by rfl) T.g__law_label T.F__law_label.kp T.b__law_label .nil pass0 (pa_cons (pv 0) pa_nil))))), ?_⟩
    walk_at "g"
    refine ⟨b, _, M, rfl, hB, by omega, by omega, fun w H1 h3 h4 hA hB1 => ?_⟩
    walk_at "g"
    walk_at "if"
    · walk_at "g"
      refine ⟨b, 0, 13, M, rfl, hB1, by decide, by decide, fun z H2 hz az hA2 hB2 => ?_⟩
      refine ⟨_, _, rfl, rfl, ?_, ?_⟩
      · refine Nat.le_of_lt (small1000 ?_)
        rw [show (Str.ofString "button ").length = 7 by decide +kernel]
        omega
      · refine q _ _ ?_ (asc_app (asc_of _ (by decide +kernel)) az) (hA.sx.trans hA2.sx) ((hA.gr hB1.there).trans (hA2.gr hB2.there)) hB2
        rw [str_len, show (Str.ofString "button ").length = 7 by decide +kernel]
        omega
    walk_at "g"
    refine ⟨b, M, rfl, hB1, fun z H2 hz az sx g hB2 => ?_⟩
    exact q z H2 hz az (hA.sx.trans sx) ((hA.gr hB1.there).trans g) hB2
end
end D

namespace D
open PySem PySem.Spec PyProof.Rows L2
local macro_rules | `(tactic| walk_at "st") => `(tactic| first | exact SqT.of (by assumption) | exact Or.inl (by assumption) | exact SqT.of upd_same | fail "st")
local macro_rules | `(tactic| walk_at "ixt") => `(tactic| refine ⟨_, _, _, _, rfl, rfl, (by walk_at "st" : SqT _ _ _ _), by rfl, ?_⟩)
local macro_rules | `(tactic| walk_at "sq") => `(tactic| first | exact SqL.of (by assumption) | assumption | exact Or.inl (by assumption) | exact SqL.of upd_same | fail "sq")
local macro_rules | `(tactic| walk_at "ix") => `(tactic| refine ⟨_, _, _, _, rfl, rfl, (by walk_at "sq" : SqL _ _ _ _), by rfl, ?_⟩)
local macro_rules | `(tactic| walk_at "set") => `(tactic| refine ⟨_, _, _, _, rfl, rfl, by first | assumption | exact upd_same, by rfl, ?_⟩)
local macro_rules | `(tactic| walk_at "len") => `(tactic| refine ⟨_, _, rfl, Or.inl (by walk_at "sq" : SqL _ _ _ _), ?_⟩)
local macro_rules | `(tactic| walk_at "g") => `(tactic| repeat (first | refine ⟨_, rfl, ?_⟩ | refine ⟨_, _, rfl, rfl, ?_⟩ | refine ⟨Or.inr (by decide), ?_⟩ | refine ⟨Or.inl (by decide), ?_⟩ | refine ⟨(by decide : (0 : Int) < _), ?_⟩ | refine ⟨(⟨by decide, by decide⟩ : CDiv _ _), ?_⟩ | refine ⟨(⟨by decide, by decide, by decide⟩ : CPow _ _), ?_⟩ | refine Or.inl ⟨_, rfl, ?_⟩ | refine ⟨rfl, ?_⟩ | walk_at "ix" | walk_at "ixt" | walk_at "len" | fail "g"))
local macro_rules | `(tactic| walk_at "if") => `(tactic| refine ite2 (fun e => ?_) (fun e => ?_))
section
variable {P : Program} {w : World} {K : PySem.W.Frag} {mg : Str → Option Value} {base : Heap}
def rdN (l : List Nat) : Nat := l.foldl (fun a c => a * 10 + (c - 48)) 0
def dec (n : Nat) : Str := Str.ofString (toString (n : Int))
theorem dec_all : ((List.range 997).all fun n => decide (rdN (dec n).cps.toList = n) && (decide ((dec n).length ≤ 3) && (dec n).cps.toList.all fun c => decide (c < 128))) = true := by decide +kernel
theorem dec_facts {n : Nat} (h : n < 997) : rdN (dec n).cps.toList = n ∧ (dec n).length ≤ 3 ∧ asc (dec n) := by
  have := List.all_eq_true.mp dec_all n (List.mem_range.mpr h)
  simp only [Bool.and_eq_true, decide_eq_true_eq] at this
  exact ⟨this.1, this.2.1, asc_of _ this.2.2⟩
theorem dec_inj {a b : Nat} (ha : a < 997) (hb : b < 997) (h : dec a = dec b) : a = b := by
  rw [← (dec_facts ha).1, ← (dec_facts hb).1, h]
theorem cop_all : ((List.range 997).all fun n => decide (n = 0) || decide (Nat.gcd 997 n = 1)) = true := by decide +kernel
theorem step_inj {st s a b : Nat} (h1 : 1 ≤ s) (h2 : s < 997) (ha : a < 997) (hb : b < 997) (h : (st + a * s) % 997 = (st + b * s) % 997) : a = b := by
  have co : Nat.Coprime 997 s := by
    have := List.all_eq_true.mp cop_all s (List.mem_range.mpr h2)
    simp only [Bool.or_eq_true, decide_eq_true_eq] at this
    rcases this with z | z
    · omega
    · exact z
  have key : ∀ a b : Nat, a < b → b < 997 → (st + a * s) % 997 = (st + b * s) % 997 → False := fun a b hl hb h => by
    have e : (st + b * s) - (st + a * s) = (b - a) * s := by rw [Nat.sub_mul]; omega
    have d : 997 ∣ (b - a) * s := by
      rw [← e]
      exact Nat.dvd_of_mod_eq_zero (Nat.sub_mod_eq_zero_of_mod_eq h.symm)
    have := Nat.le_of_dvd (by omega) (co.dvd_of_dvd_mul_right d)
    omega
  rcases Nat.lt_trichotomy a b with z | z | z
  · exact (key a b z hb h).elim
  · exact z
  · exact (key b a z ha h.symm).elim
def mkOf (l r : Str) (st s k : Nat) : Str := l ++ dec ((st + k * s) % 997) ++ r
theorem str_cps (a b : Str) : (a ++ b).cps.toList = a.cps.toList ++ b.cps.toList := Array.toList_append
theorem mkOf_inj {l r : Str} {st s a b : Nat} (h1 : 1 ≤ s) (h2 : s < 997) (ha : a < 997) (hb : b < 997) (h : mkOf l r st s a = mkOf l r st s b) : a = b := by
  refine step_inj (st := st) h1 h2 ha hb (dec_inj (Nat.mod_lt _ (by decide)) (Nat.mod_lt _ (by decide)) ?_)
  have e := congrArg (fun z : Str => z.cps.toList) h
  unfold mkOf at e
  simp only [str_cps] at e
  exact sg_ext (List.append_cancel_left (List.append_cancel_right e))
theorem nodup_range {α : Type} {f : Nat → α} {n : Nat} (h : ∀ a b, a < n → b < n → f a = f b → a = b) : ((List.range n).map f).Nodup := by
  induction n with
  | zero => exact List.nodup_nil
  | succ n ih =>
    rw [List.range_succ, List.map_append, List.nodup_append]
    refine ⟨ih fun a b ha hb => h a b (by omega) (by omega), by simp, fun x hx y hy => ?_⟩
    obtain ⟨a, ha, rfl⟩ := List.mem_map.mp hx
    rw [List.mem_singleton.mp hy]
    intro e
    have := h a n (by have := List.mem_range.mp ha; omega) (by omega) e
    have := List.mem_range.mp ha
    omega
/-- marks that may stand in one tree -/
def goodMs (ms : List Str) : Prop := ms.Nodup ∧ ∀ m ∈ ms, m.length ≤ 60 ∧ asc m
def sp_marks (K : PySem.W.Frag) : Sp := fun vs H Q _ => ∃ (b : Addr) (n : Nat) (M : Ms), vs = [.ref b, .int (n : Nat)] ∧ Bag K M H b ∧ Mk M H ∧ 1 ≤ n ∧ n ≤ 400 ∧ Dr K M b H (fun d => ∃ ms : List Str, d = .list (ms.map PyData.str) ∧ ms.length = n ∧ goodMs ms) Q
theorem ok_marks (T : Txt K mg) : FnOk P w K mg base CX0 4 T.f__law_marks T.d__law_marks ["_law_bag_here", "_law_count"] (sp_marks K) := by
  have G__law_pick := ok_pick (P := P) (w := w) (base := base) T
  have G__law_text := ok_text (P := P) (w := w) (base := base) T
  refine T.F__law_marks.ok sc__law_marks (fun vs H Q E h => ?_) (fun cdv A outer s H vs Q E hr h => ?_)
  · obtain ⟨_, _, _, rfl, _⟩ := h
    rfl
  · obtain ⟨b, n, M, rfl, hB, hM, n1, n400, q⟩ := h
    refine ⟨_, (pss_cons (ps_set (i := 2) sc__law_marks.nd rfl (Or.inl rfl) (pe_ix (ix_listK (K := K) rfl) (pe_lst (pa_cons pe_int (pa_cons pe_int (pa_cons pe_int (pa_cons pe_int pa_nil))))) (pe_call G__law_pick (hr.mono (by omega)) (by rfl) T.g__law_pick T.F__law_pick.kp T.b__law_pick .nil pass0 (pa_cons (pv 0) (pa_cons pe_int pa_nil))) (fun _ _ => rfl)))
      (pss_cons (ps_set (i := 3) sc__law_marks.nd rfl (Or.inr rfl) (pe_call G__law_text (hr.mono (by omega)) (by rfl) T.g__law_text T.F__law_text.kp T.b__law_text .nil pass0 (pa_cons (pv 0) (pa_cons pe_int (pa_cons (pv 2) pa_nil)))))
      (pss_cons (ps_set (i := 4) sc__law_marks.nd rfl (Or.inr rfl) (pe_call G__law_text (hr.mono (by omega)) (by rfl) T.g__law_text T.F__law_text.kp T.b__law_text .nil pass0 (pa_cons (pv 0) (pa_cons pe_int (pa_cons (pv 2) pa_nil)))))
      (pss_cons (ps_set (i := 5) sc__law_marks.nd rfl (Or.inr rfl) (pe_op op_add pe_int (pe_call G__law_pick (hr.mono (by omega)) (by rfl) T.g__law_pick T.F__law_pick.kp T.b__law_pick .nil pass0 (pa_cons (pv 0) (pa_cons pe_int pa_nil)))))
      (pss_cons (ps_set (i := 6) sc__law_marks.nd rfl (Or.inr rfl) (pe_call G__law_pick (hr.mono (by omega)) (by rfl) T.g__law_pick T.F__law_pick.kp T.b__law_pick .nil pass0 (pa_cons (pv 0) (pa_cons pe_int pa_nil))))
      (pss_one (ps_ret (pe_lc (own := [("_law_k", 7)]) (g := gName 7) (tt := tYes) (by rfl) sc__law_marks.nd (pi_range1 (by rfl) T.m_range (pa_cons (pv 1) pa_nil)) (blkOk_by (own := [("_law_k", 7)]) (N := ["_law_bag_here", "_law_count", "_law_most", "_law_left", "_law_right", "_law_step", "_law_start", "_law_k"]) (sc := defScope s__law_marks) (by decide +kernel)) (fun _ _ _ _ _ => (pg_name (i := 7) sc__law_marks.nd rfl (Or.inl rfl))) (fun _ _ _ _ _ => pts_nil) (fun _ _ _ _ _ => (pe_op op_add_str (pe_op op_add_str (pv 3) (pe_callTy call_str_int (by rfl) T.m_str (by decide +kernel) (pa_cons (pe_op op_mod (pe_callTy call_int1 (by rfl) T.m_int (by decide +kernel) (pa_cons (pe_op op_add (pv 6) (pe_op op_mul (pv 7) (pv 5))) pa_nil)) pe_int) pa_nil))) (pv 4))))))))))), ?_⟩
    walk_at "g"
    refine ⟨szK rfl, fun p hp => ?_⟩
    have e1 : upd H p (.lst [.int 3, .int 3, .int 3, .int 28]) p = some (.lst [.int 3, .int 3, .int 3, .int 28]) := upd_same
    have hB1 := hB.same (same_new hp (o := .lst [.int 3, .int 3, .int 3, .int 28]))
    have pb : p ≠ b := fun z => hB.there (by rw [← z]; exact hp)
    have s1 : Sx (one b) H (upd H p (.lst [.int 3, .int 3, .int 3, .int 28])) := Sx.new hp
    have g1 : Gr H (upd H p (.lst [.int 3, .int 3, .int 3, .int 28])) := Gr.upd
    generalize upd H p (.lst [.int 3, .int 3, .int 3, .int 28]) = H1 at e1 hB1 s1 g1
    walk_at "g"
    refine ⟨b, 4, M, rfl, hB1, by omega, by omega, fun w1 H2 a0 a1 hA2 hB2 => ?_⟩
    have e2 := (hA2 p pb).trans e1
    obtain ⟨most, hm, mk⟩ : ∃ m : Nat, atI [V.int 3, .int 3, .int 3, .int 28] w1 = some (.int m) ∧ m ≤ 28 := by
      have : w1 = 0 ∨ w1 = 1 ∨ w1 = 2 ∨ w1 = 3 := by omega
      rcases this with rfl | rfl | rfl | rfl
      · exact ⟨3, rfl, by omega⟩
      · exact ⟨3, rfl, by omega⟩
      · exact ⟨3, rfl, by omega⟩
      · exact ⟨28, rfl, by omega⟩
    refine ⟨_, _, _, _, rfl, rfl, SqL.of e2, hm, ?_⟩
    walk_at "g"
    refine ⟨b, 0, most, M, rfl, hB2, by omega, by omega, fun l H3 ll la hA3 hB3 => ?_⟩
    walk_at "g"
    refine ⟨b, 0, most, M, rfl, hB3, by omega, by omega, fun r H4 lr ra hA4 hB4 => ?_⟩
    walk_at "g"
    refine ⟨b, 996, M, rfl, hB4, by omega, by omega, fun w5 H5 b0 b1 hA5 hB5 => ?_⟩
    obtain ⟨sp, rfl⟩ : ∃ k : Nat, w5 = (k : Int) := ⟨w5.toNat, by omega⟩
    walk_at "g"
    refine ⟨b, 997, M, rfl, hB5, by omega, by omega, fun w6 H6 c0 c1 hA6 hB6 => ?_⟩
    obtain ⟨st, rfl⟩ : ∃ k : Nat, w6 = (k : Int) := ⟨w6.toNat, by omega⟩
    have hA := hA2.trans (hA3.trans (hA4.trans (hA5.trans hA6)))
    have s6 : Sx (one b) H H6 := s1.trans hA.sx
    have g6 : Gr H H6 := g1.trans (At.gr hA hB6.there)
    walk_at "g"
    refine ⟨by omega, by omega, fun D hD => ?_⟩
    have Db : D ≠ b := fun z => hB6.there (by rw [← z]; exact hD)
    refine rng_loop (lo := 0) (n := ((n : Nat) : Int).toNat) (fun j H' => Same H6 H' ∧ H' D = some (.lst (((List.range j).map (mkOf l r st (1 + sp))).map V.str))) ⟨same_new hD, upd_same⟩ (fun j H' hj p => ?_) (fun H7 p => ?_)
    · obtain ⟨s7, eD⟩ := p
      refine ⟨rfl, ?_⟩
      walk_at "g"
      refine ⟨Or.inr ⟨by omega, by omega⟩, ?_⟩
      walk_at "g"
      have ev : ((st : Int) + (0 + (j : Int)) * (1 + (sp : Int))) % 997 = (((st + j * (1 + sp)) % 997 : Nat) : Int) := by
        simp only [Int.zero_add, Int.natCast_emod, Int.natCast_add, Int.natCast_mul]
        rfl
      rw [ev]
      have hv : (st + j * (1 + sp)) % 997 < 997 := Nat.mod_lt _ (by decide)
      obtain ⟨d1, d2, d3⟩ := dec_facts hv
      refine ⟨Nat.lt_of_le_of_lt (Nat.log2_le_self _) (by rw [Int.natAbs_natCast]; omega), ?_⟩
      refine ⟨_, _, rfl, rfl, ?_, ?_⟩
      · refine Nat.le_of_lt (small1000 ?_)
        show l.length + (dec ((st + j * (1 + sp)) % 997)).length ≤ 1000
        omega
      walk_at "g"
      refine ⟨?_, ?_⟩
      · refine Nat.le_of_lt (small1000 ?_)
        rw [str_len]
        show l.length + (dec ((st + j * (1 + sp)) % 997)).length + r.length ≤ 1000
        omega
      refine ⟨_, eD, small1000 (by rw [List.length_map, List.length_map, List.length_range]; omega), same_put s7 hD, ?_⟩
      rw [upd_same, List.range_succ, List.map_append, List.map_append]
      rfl
    · obtain ⟨s7, eD⟩ := p
      rw [show ((n : Nat) : Int).toNat = n from rfl] at eD
      have hM6 := hM.gr g6
      refine q _ _ (.list (((List.range n).map (mkOf l r st (1 + sp))).map PyData.str)) (s6.trans (Sx.same s7)) (g6.trans (Gr.same s7)) (hB6.same s7) (.lst (hM6.out hD) (.inl eD) (RpAll.strs _)) ⟨_, rfl, by rw [List.length_map, List.length_range], nodup_range fun x y hx hy e => mkOf_inj (by omega) (by omega) (by omega) (by omega) e, fun m hm => ?_⟩
      obtain ⟨k, _, rfl⟩ := List.mem_map.mp hm
      obtain ⟨d1, d2, d3⟩ := dec_facts (Nat.mod_lt (st + k * (1 + sp)) (by decide : 0 < 997))
      refine ⟨?_, asc_app (asc_app la d3) ra⟩
      unfold mkOf
      rw [str_len, str_len]
      omega
end
end D

namespace D
open PySem PySem.Spec PyProof.Rows L2
local macro_rules | `(tactic| walk_at "st") => `(tactic| first | exact SqT.of (by assumption) | exact Or.inl (by assumption) | exact SqT.of upd_same | fail "st")
local macro_rules | `(tactic| walk_at "ixt") => `(tactic| refine ⟨_, _, _, _, rfl, rfl, (by walk_at "st" : SqT _ _ _ _), by rfl, ?_⟩)
local macro_rules | `(tactic| walk_at "sq") => `(tactic| first | exact SqL.of (by assumption) | assumption | exact Or.inl (by assumption) | exact SqL.of upd_same | fail "sq")
local macro_rules | `(tactic| walk_at "ix") => `(tactic| refine ⟨_, _, _, _, rfl, rfl, (by walk_at "sq" : SqL _ _ _ _), by rfl, ?_⟩)
local macro_rules | `(tactic| walk_at "set") => `(tactic| refine ⟨_, _, _, _, rfl, rfl, by first | assumption | exact upd_same, by rfl, ?_⟩)
local macro_rules | `(tactic| walk_at "len") => `(tactic| refine ⟨_, _, rfl, Or.inl (by walk_at "sq" : SqL _ _ _ _), ?_⟩)
local macro_rules | `(tactic| walk_at "g") => `(tactic| repeat (first | refine ⟨_, rfl, ?_⟩ | refine ⟨_, _, rfl, rfl, ?_⟩ | refine ⟨Or.inr (by decide), ?_⟩ | refine ⟨Or.inl (by decide), ?_⟩ | refine ⟨(by decide : (0 : Int) < _), ?_⟩ | refine ⟨(⟨by decide, by decide⟩ : CDiv _ _), ?_⟩ | refine ⟨(⟨by decide, by decide, by decide⟩ : CPow _ _), ?_⟩ | refine Or.inl ⟨_, rfl, ?_⟩ | refine ⟨rfl, ?_⟩ | walk_at "ix" | walk_at "ixt" | walk_at "len" | fail "g"))
local macro_rules | `(tactic| walk_at "if") => `(tactic| refine ite2 (fun e => ?_) (fun e => ?_))
section
variable {P : Program} {w : World} {K : PySem.W.Frag} {mg : Str → Option Value} {base : Heap}
abbrev FlE := Str × Str × Nat
def flE (e : FlE) : PyData := .tuple [.str e.1, .str e.2.1, .int (e.2.2 : Nat)]
def goodFl (ms : List Str) (dp : Nat) (es : List FlE) : Prop := es.map (·.1) = ms ∧ (∀ e ∈ es, e.2.1.length ≤ 30 ∧ asc e.2.1 ∧ e.2.2 ≤ dp) ∧ ∃ e r, es = e :: r ∧ e.2.2 = 0 ∧ ∀ x ∈ r, 1 ≤ x.2.2
def sp_flat (K : PySem.W.Frag) : Sp := fun vs H Q _ => ∃ (b : Addr) (v : V) (dp : Nat) (ms : List Str) (M : Ms), vs = [.ref b, v, .int (dp : Nat)] ∧ Bag K M H b ∧ Mk M H ∧ Rp M H v (.list (ms.map PyData.str)) ∧ ms ≠ [] ∧ ms.length ≤ 400 ∧ 1 ≤ dp ∧ dp ≤ 8 ∧ Dr K M b H (fun d => ∃ es : List FlE, d = .list (es.map flE) ∧ goodFl ms dp es) Q
theorem ok_flat (T : Txt K mg) : FnOk P w K mg base CX0 6 T.f__law_flat T.d__law_flat ["_law_bag_here", "_law_marks_here", "_law_deepest"] (sp_flat K) := by
  have G__law_pick := ok_pick (P := P) (w := w) (base := base) T
  have G__law_pressed := ok_pressed (P := P) (w := w) (base := base) T
  refine T.F__law_flat.ok sc__law_flat (fun vs H Q E h => ?_) (fun cdv A outer s H vs Q E hr h => ?_)
  · obtain ⟨_, _, _, _, _, rfl, _⟩ := h
    rfl
  · obtain ⟨b, v, dp, ms, M, rfl, hB, hM, hR, hne, h400, d1, d8, q⟩ := h
    obtain ⟨a, xs, rfl, na, ha, rx⟩ := Rp.lstN hR
    have ex := rx.ofStrs
    subst ex
    obtain ⟨m0, mr, rfl⟩ : ∃ m r, ms = m :: r := by cases ms with | nil => exact absurd rfl hne | cons m r => exact ⟨m, r, rfl⟩
    have mb := hB.w
    have ab : a ≠ b := fun z => na (by rw [z]; exact mb)
    refine ⟨_, (pss_cons (ps_set (i := 3) sc__law_flat.nd rfl (Or.inl rfl) (pe_lst (pa_cons (pe_tup (pa_cons (pe_ix (ix_listK (K := K) rfl) (pv 1) pe_int (fun _ _ => rfl)) (pa_cons (pe_call G__law_pressed (hr.mono (by omega)) (by rfl) T.g__law_pressed T.F__law_pressed.kp T.b__law_pressed .nil pass0 (pa_cons (pv 0) pa_nil)) (pa_cons pe_int pa_nil)))) pa_nil)))
      (pss_cons (ps_for PassesOwn.never rfl (pi_listK (K := K) rfl (pe_slice (sl_listK (K := K) rfl) (pv 1) (po_some pe_int) po_none)) (pg_name (i := 4) sc__law_flat.nd rfl (Or.inl rfl)) (pss_cons (ps_set (i := 5) sc__law_flat.nd rfl (Or.inl rfl) (pe_op op_add (pe_ix (ix_tupK (K := K) rfl) (pe_ix (ix_listK (K := K) rfl) (pv 3) (pe_un un_neg pe_int) (fun _ _ => rfl)) pe_int (fun _ _ => rfl)) pe_int))
      (pss_cons (ps_if (pt_cmpR op_gt (pv 5) (pv 2) (nomark _)) (pss_one (ps_set (i := 5) sc__law_flat.nd rfl (Or.inl rfl) (pv 2))) pss_nil)
      (pss_one (ps_expr (pe_bmK2 (K := K) rfl PySem.F.plainAttrs_list PySem.F.slot_list_append PySem.F.type_list_append mt_append (pv 3) (pa_cons (pe_tup (pa_cons (pv 4) (pa_cons (pe_call G__law_pressed (hr.mono (by omega)) (by rfl) T.g__law_pressed T.F__law_pressed.kp T.b__law_pressed .nil pass0 (pa_cons (pv 0) pa_nil)) (pa_cons (pe_op op_add pe_int (pe_call G__law_pick (hr.mono (by omega)) (by rfl) T.g__law_pick T.F__law_pick.kp T.b__law_pick .nil pass0 (pa_cons (pv 0) (pa_cons (pv 5) pa_nil)))) pa_nil)))) pa_nil)))))))
      (pss_one (ps_ret (pv 3))))), ?_⟩
    walk_at "g"
    refine ⟨_, _, _, _, rfl, rfl, .inl ha, atI_nat (j := 0) rfl, ?_⟩
    walk_at "g"
    refine ⟨b, M, rfl, hB, fun l0 H1 ll0 la0 s1 g1 hB1 => ?_⟩
    walk_at "g"
    refine ⟨szK rfl, fun p1 hp1 => ?_⟩
    have r0 : Rp M (upd H1 p1 (.tup [.str m0, .str l0, .int 0])) (.ref p1) (flE (m0, l0, 0)) := Rp.newT (hM.gr g1) hp1 (.cons (.str _) (.cons (.str _) (.one (.int _))))
    have hB2 := hB1.same (same_new hp1 (o := .tup [.str m0, .str l0, .int 0]))
    have s2 : Sx (one b) H (upd H1 p1 (.tup [.str m0, .str l0, .int 0])) := s1.trans (Sx.new hp1)
    have g2 : Gr H (upd H1 p1 (.tup [.str m0, .str l0, .int 0])) := g1.trans Gr.upd
    generalize upd H1 p1 (.tup [.str m0, .str l0, .int 0]) = H2 at r0 hB2 s2 g2
    walk_at "g"
    refine ⟨szK rfl, fun F hF => ?_⟩
    have Fb : F ≠ b := fun z => hB2.there (by rw [← z]; exact hF)
    have eF : upd H2 F (.lst [.ref p1]) F = some (.lst [.ref p1]) := upd_same
    have nF0 : H F = none := by
      cases e : H F with
      | none => rfl
      | some o => exact absurd hF (g2 F (ne_none e))
    have hB3 := (hB2.more hF).same (same_new hF (o := .lst [.ref p1]))
    have hM3 : Mk (also M F) (upd H2 F (.lst [.ref p1])) := ((hM.gr g2).gr Gr.upd).also upd_there
    have r3 : Rp (also M F) (upd H2 F (.lst [.ref p1])) (.ref p1) (flE (m0, l0, 0)) := (r0.fresh hF).sx (Sx.new hF)
    have s3 : Sx (one b) H (upd H2 F (.lst [.ref p1])) := s2.trans (Sx.new hF)
    have g3 : Gr H (upd H2 F (.lst [.ref p1])) := g2.trans Gr.upd
    have aF : a ≠ F := rd_ne ha nF0
    generalize upd H2 F (.lst [.ref p1]) = H3 at eF hB3 hM3 r3 s3 g3
    walk_at "g"
    have ha3 := sx_rd s3 (show ¬ one b a from ab) ha
    refine ⟨a, _, rfl, .inl ha3, fun p4 hp4 => ?_⟩
    rw [show cutV ((m0 :: mr).map V.str) (some 1) none = mr.map V.str from cut1 _ _]
    have p4F : p4 ≠ F := fun z => by rw [z, eF] at hp4; cases hp4
    have p4b : p4 ≠ b := fun z => hB3.there (by rw [← z]; exact hp4)
    have e4 : upd H3 p4 (.lst (mr.map V.str)) p4 = some (.lst (mr.map V.str)) := upd_same
    have eF := same_new hp4 (o := .lst (mr.map V.str)) _ _ eF
    have hB4 := hB3.same (same_new hp4 (o := .lst (mr.map V.str)))
    have hM4 : Mk (also M F) (upd H3 p4 (.lst (mr.map V.str))) := hM3.gr Gr.upd
    have r4 := r3.sx (Sx.new hp4 (o := .lst (mr.map V.str)))
    have s4 : Sx (one b) H (upd H3 p4 (.lst (mr.map V.str))) := s3.trans (Sx.new hp4)
    have g4 : Gr H (upd H3 p4 (.lst (mr.map V.str))) := g3.trans Gr.upd
    generalize upd H3 p4 (.lst (mr.map V.str)) = H4 at e4 eF hB4 hM4 r4 s4 g4
    refine ⟨p4, rfl, ⟨_, SqL.of e4⟩, ?_⟩
    refine for_list (K := K) (a := p4) (xs := mr.map V.str) (fun i σ H' => (∃ y4 y5, σ = [some (.ref b), some (.ref a), some (.int (dp : Nat)), some (.ref F), y4, y5]) ∧ H' p4 = some (.lst (mr.map V.str)) ∧ Sx (also (one b) F) H H' ∧ Gr H H' ∧ Bag K (also M F) H' b ∧ Mk (also M F) H' ∧ ∃ (vs : List V) (es : List FlE), H' F = some (.lst vs) ∧ RpAll (also M F) H' vs (es.map flE) ∧ es.map (·.1) = (m0 :: mr).take (i + 1) ∧ (∀ e ∈ es, e.2.1.length ≤ 30 ∧ asc e.2.1 ∧ e.2.2 ≤ dp) ∧ ∃ e r, es = e :: r ∧ e.2.2 = 0 ∧ ∀ x ∈ r, 1 ≤ x.2.2) ⟨⟨_, _, rfl⟩, e4, s4.le (fun c z => .inl z), g4, hB4, hM4, [.ref p1], [(m0, l0, 0)], eF, .one r4, rfl, fun e he => (by rw [List.mem_singleton.mp he]; exact ⟨ll0, la0, Nat.zero_le _⟩), _, _, rfl, rfl, fun x hx => nomatch hx⟩ (fun i σ H' _ p => SqL.of p.2.1) (fun i x σ H' hx p => ?_) (fun σ H' p => ?_)
    · obtain ⟨⟨y4, y5, rfl⟩, e4, s5, g5, hB5, hM5, vs, es, eF, rs, k1, k2, e0, r0, rfl, k3, k4⟩ := p
      rw [List.getElem?_map] at hx
      obtain ⟨m, hm, rfl⟩ := Option.map_eq_some_iff.mp hx
      have ls := rs.length
      rw [List.length_map] at ls
      obtain ⟨us, u, eu, ru, rl⟩ : ∃ us u, vs = us ++ [u] ∧ RpAll (also M F) H' us ((e0 :: r0).dropLast.map flE) ∧ Rp (also M F) H' u (flE ((e0 :: r0).getLast (by simp))) := by
        have e : (e0 :: r0).map flE = (e0 :: r0).dropLast.map flE ++ [flE ((e0 :: r0).getLast (by simp))] := by
          rw [← List.map_singleton, ← List.map_append, List.dropLast_concat_getLast]
        rw [e] at rs
        exact rs.last
      obtain ⟨la1, la2, la3⟩ := k2 _ (List.getLast_mem (l := e0 :: r0) (by simp))
      generalize (e0 :: r0).getLast (by simp) = le at rl la1 la2 la3
      obtain ⟨t, ts, rfl, nt, ht, rt⟩ := Rp.tupN rl
      obtain ⟨t1, t2, t3, rfl, q1, q2, q3⟩ := rt.inv3
      cases q3
      walk_at "g"
      rw [eu] at eF
      refine ⟨_, _, _, _, rfl, rfl, SqL.of eF, atI_last _ _, ?_⟩
      refine ⟨t, _, _, _, rfl, rfl, .inl ht, atI_nat (j := 2) rfl, ?_⟩
      refine ⟨_, _, rfl, rfl, ?_⟩
      dsimp only [gName]
      with_reducible refine seq_join (fun σ3 H3 => ∃ mo : Nat, σ3 = [some (.ref b), some (.ref a), some (.int (dp : Nat)), some (.ref F), some (.str m), some (.int (mo : Nat))] ∧ H3 = H' ∧ 1 ≤ mo ∧ mo ≤ dp) (fun hN => ?_) (fun σ3 H3 c => ?_)
      · walk_at "g"
        walk_at "if"
        · exact ⟨_, rfl, hN _ _ ⟨dp, rfl, rfl, d1, Nat.le_refl _⟩⟩
        · rename_i hc
          have hc : (le.2.2 : Int) + 1 ≤ (dp : Int) := by simpa using hc
          exact hN _ _ ⟨le.2.2 + 1, rfl, rfl, by omega, by omega⟩
      obtain ⟨mo, rfl, rfl, mo1, mo2⟩ := c
      walk_at "g"
      refine ⟨.inl ⟨rfl, _, SqL.of eF⟩, ?_⟩
      walk_at "g"
      refine ⟨b, also M F, rfl, hB5, fun l H6 ll la s6 g6 hB6 => ?_⟩
      walk_at "g"
      refine ⟨b, mo, also M F, rfl, hB6, by omega, by omega, fun w H7 h0 h1 hA7 hB7 => ?_⟩
      obtain ⟨lv, rfl⟩ : ∃ k : Nat, w = (k : Int) := ⟨w.toNat, by omega⟩
      have s67 : Sx (one b) H3 H7 := s6.trans hA7.sx
      have g67 : Gr H3 H7 := g6.trans (At.gr hA7 hB7.there)
      have wb : also M F b := .inl mb
      have wF : also M F F := .inr rfl
      have e47 := s67 _ _ p4b e4
      have eF7 := s67 _ _ Fb eF
      have rs7 := rs.sx (s67.le (one_le wb))
      walk_at "g"
      refine ⟨szK rfl, fun p7 hp7 => ?_⟩
      have hp7 : H7 p7 = none := hp7
      have p7F : F ≠ p7 := ne_of_none eF7 hp7
      have eF8 := same_new hp7 (o := .tup [.str m, .str l, .int (1 + (lv : Int))]) _ _ eF7
      refine ⟨F, _, .ref p7, rfl, rfl, eF8, ?_, ?_⟩
      · rw [← eu, ls]
        have : (e0 :: r0).length = ((e0 :: r0).map (·.1)).length := (List.length_map _).symm
        rw [this, k1, List.length_take]
        exact small1000 (by omega)
      have re : Rp (also M F) (upd H7 p7 (.tup [.str m, .str l, .int (1 + (lv : Int))])) (.ref p7) (flE (m, l, 1 + lv)) := Rp.newT (hM5.gr g67) hp7 (.cons (.str _) (.cons (.str _) (.one (by show Rp _ _ _ (PyData.int ((1 + lv : Nat) : Int)); rw [show ((1 + lv : Nat) : Int) = 1 + (lv : Int) by omega]; exact .int _))))
      have rs8 := rs7.sx (Sx.new hp7 (o := .tup [.str m, .str l, .int (1 + (lv : Int))]))
      have pF : ∀ {J : Hp} {o : HO}, Sx (also M F) J (upd J F o) := Sx.put wF
      refine ⟨⟨_, _, rfl⟩, ?_, (s5.trans ((s67.le (fun c z => .inl z)).trans (Sx.new hp7))).trans (Sx.put (.inr rfl)), ((g5.trans g67).trans Gr.upd).trans Gr.upd, ?_, ((hM5.gr g67).gr Gr.upd).gr Gr.upd, _, (e0 :: r0) ++ [(m, l, 1 + lv)], upd_same, ?_, ?_, fun e he => ?_, e0, r0 ++ [(m, l, 1 + lv)], rfl, k3, fun x hx => ?_⟩
      · rw [upd_ne p4F, upd_ne (ne_of_none e47 hp7)]
        exact e47
      · exact (hB7.same (same_new hp7)).keep (N := one F) (Sx.put rfl) (Ne.symm Fb) (fun c z => by rw [show c = F from z]; exact wF)
      · rw [List.map_append, ← eu]
        exact ((rs8.append (.one re)).sx pF)
      · rw [List.map_append, k1, List.take_add_one (i := i + 1), List.getElem?_cons_succ, hm]
        rfl
      · rcases List.mem_append.mp he with he | he
        · exact k2 e he
        · rw [List.mem_singleton.mp he]
          exact ⟨ll, la, by show 1 + lv ≤ dp; omega⟩
      · rcases List.mem_append.mp hx with hx | hx
        · exact k4 x hx
        · rw [List.mem_singleton.mp hx]
          show 1 ≤ 1 + lv
          omega
    · obtain ⟨⟨y4, y5, rfl⟩, e4, s5, g5, hB5, hM5, vs, es, eF, rs, k1, k2, k3⟩ := p
      walk_at "g"
      rw [List.length_map, List.take_of_length_le (by simp)] at k1
      exact q _ _ (.list (es.map flE)) (s5.cut nF0) g5 (hB5.less mb also_le) (.lst (hM.out nF0) (.inl eF) (rs.less also_le)) ⟨es, rfl, k1, k2, k3⟩
end
end D

namespace D
open PySem PySem.Spec PyProof.Rows L2
local macro_rules | `(tactic| walk_at "st") => `(tactic| first | exact SqT.of (by assumption) | exact Or.inl (by assumption) | exact SqT.of upd_same | fail "st")
local macro_rules | `(tactic| walk_at "ixt") => `(tactic| refine ⟨_, _, _, _, rfl, rfl, (by walk_at "st" : SqT _ _ _ _), by rfl, ?_⟩)
local macro_rules | `(tactic| walk_at "sq") => `(tactic| first | exact SqL.of (by assumption) | assumption | exact Or.inl (by assumption) | exact SqL.of upd_same | fail "sq")
local macro_rules | `(tactic| walk_at "ix") => `(tactic| refine ⟨_, _, _, _, rfl, rfl, (by walk_at "sq" : SqL _ _ _ _), by rfl, ?_⟩)
local macro_rules | `(tactic| walk_at "set") => `(tactic| refine ⟨_, _, _, _, rfl, rfl, by first | assumption | exact upd_same, by rfl, ?_⟩)
local macro_rules | `(tactic| walk_at "len") => `(tactic| refine ⟨_, _, rfl, Or.inl (by walk_at "sq" : SqL _ _ _ _), ?_⟩)
local macro_rules | `(tactic| walk_at "g") => `(tactic| repeat (first | refine ⟨_, rfl, ?_⟩ | refine ⟨_, _, rfl, rfl, ?_⟩ | refine ⟨Or.inr (by decide), ?_⟩ | refine ⟨Or.inl (by decide), ?_⟩ | refine ⟨(by decide : (0 : Int) < _), ?_⟩ | refine ⟨(⟨by decide, by decide⟩ : CDiv _ _), ?_⟩ | refine ⟨(⟨by decide, by decide, by decide⟩ : CPow _ _), ?_⟩ | refine Or.inl ⟨_, rfl, ?_⟩ | refine ⟨rfl, ?_⟩ | walk_at "ix" | walk_at "ixt" | walk_at "len" | fail "g"))
local macro_rules | `(tactic| walk_at "if") => `(tactic| refine ite2 (fun e => ?_) (fun e => ?_))
section
variable {P : Program} {w : World} {K : PySem.W.Frag} {mg : Str → Option Value} {base : Heap}
def entN (n : Nd) : Str × Str := (n.mark, n.label)
def entF (e : FlE) : Str × Str := (e.1, e.2.1)
def rdE (p : Nat × Nd) : PyData := .tuple [.int (p.1 : Nat), p.2.enc]
theorem nil_or_snoc {α : Type} : ∀ l : List α, l = [] ∨ ∃ r x, l = r ++ [x]
  | [] => .inl rfl
  | x :: r => .inr ⟨(x :: r).dropLast, (x :: r).getLast (by simp), (List.dropLast_concat_getLast (by simp)).symm⟩
/-- what is grown, as the def grows it -/
def pushF (Rl : List (Nat × Nd)) (e : FlE) : List (Nat × Nd) := (Rl.reverse.dropWhile fun p => decide (e.2.2 < p.1)).reverse ++ [(e.2.2, Nd.mk e.1 e.2.1 ((Rl.reverse.takeWhile fun p => decide (e.2.2 < p.1)).map (·.2)))]
def stackF (es : List FlE) : List (Nat × Nd) := es.foldr (fun e Rl => pushF Rl e) []
def growF (es : List FlE) : Nd := match stackF es with
  | p :: _ => p.2
  | [] => .mk (Str.ofString "") (Str.ofString "") []
theorem tw_split {α : Type} {p : α → Bool} : ∀ {a b : List α}, (∀ x ∈ a, p x = true) → (∀ x, b.head? = some x → p x = false) → (a ++ b).takeWhile p = a ∧ (a ++ b).dropWhile p = b
  | [], [], _, _ => ⟨rfl, rfl⟩
  | [], x :: r, _, h => by
    have := h x rfl
    constructor
    · show (x :: r).takeWhile p = []
      rw [List.takeWhile_cons, this]
      rfl
    · show (x :: r).dropWhile p = _
      rw [List.dropWhile_cons, this]
      rfl
  | x :: a, b, g, h => by
    obtain ⟨e1, e2⟩ := tw_split (a := a) (b := b) (fun y hy => g y (List.mem_cons_of_mem _ hy)) h
    have hx := g x List.mem_cons_self
    constructor
    · rw [List.cons_append, List.takeWhile_cons, if_pos hx, e1]
    · rw [List.cons_append, List.dropWhile_cons, if_pos hx, e2]
theorem pushF_eq {Rl1 Rl2 : List (Nat × Nd)} {e : FlE} (h2 : ∀ p ∈ Rl2, e.2.2 < p.1) (h1 : ∀ p, Rl1.getLast? = some p → p.1 ≤ e.2.2) : pushF (Rl1 ++ Rl2) e = Rl1 ++ [(e.2.2, Nd.mk e.1 e.2.1 (Rl2.reverse.map (·.2)))] := by
  obtain ⟨e1, e2⟩ := tw_split (p := fun p : Nat × Nd => decide (e.2.2 < p.1)) (a := Rl2.reverse) (b := Rl1.reverse) (fun x hx => decide_eq_true (h2 x (List.mem_reverse.mp hx))) (fun x hx => decide_eq_false (by
    rw [List.head?_reverse] at hx
    have := h1 x hx
    omega))
  unfold pushF
  rw [List.reverse_append, e1, e2, List.reverse_reverse]
def sp_grown : Sp := fun vs H Q _ => ∃ (v : V) (dp : Nat) (es : List FlE) (M : Ms), vs = [v] ∧ Rp M H v (.list (es.map flE)) ∧ Mk M H ∧ es.length ≤ 400 ∧ (∀ e ∈ es, e.2.2 ≤ dp) ∧ (∃ e r, es = e :: r ∧ e.2.2 = 0 ∧ ∀ x ∈ r, 1 ≤ x.2.2) ∧
  ∀ v' H' n, Same H H' → Rp M H' v' (Nd.enc n) → n.subs.map entN = es.map entF → n.dep ≤ dp + 1 → n = growF es → Q v' H'
theorem ok_grown (T : Txt K mg) : FnOk P w K mg base CX0 1 T.f__law_grown T.d__law_grown ["_law_flat_here"] sp_grown := by
  refine T.F__law_grown.ok sc__law_grown (fun vs H Q E h => ?_) (fun cdv A outer s H vs Q E hr h => ?_)
  · obtain ⟨_, _, _, _, rfl, _⟩ := h
    rfl
  · obtain ⟨v, dp, es, M, rfl, hR, hM, h400, hdp, hrt, q⟩ := h
    obtain ⟨a, xs, rfl, na, ha, rx⟩ := Rp.lstN hR
    have lx := rx.length
    rw [List.length_map] at lx
    refine ⟨_, (pss_cons (ps_set (i := 1) sc__law_grown.nd rfl (Or.inl rfl) (pe_lst pa_nil))
      (pss_cons (ps_for PassesOwn.never rfl (pi_range3 (by rfl) T.m_range (pa_cons (pe_op op_sub (pe_callB (call_lenK (K := K) rfl) (by rfl) T.m_len PySem.boot_len (pa_cons (pv 0) pa_nil)) pe_int) (pa_cons (pe_un un_neg pe_int) (pa_cons (pe_un un_neg pe_int) pa_nil)))) (pg_name (i := 2) sc__law_grown.nd rfl (Or.inl rfl)) (pss_cons (ps_set (i := 3) sc__law_grown.nd rfl (Or.inl rfl) (pe_lst pa_nil))
      (pss_cons (ps_while PassesOwn.never (PW.pt (pw_and (pt_truthK (K := K) rfl (pv 1) (by intro _; rfl)) (pw_and1 (pt_cmpR op_gt (pe_ix (ix_tupK (K := K) rfl) (pe_ix (ix_listK (K := K) rfl) (pv 1) (pe_un un_neg pe_int) (fun _ _ => rfl)) pe_int (fun _ _ => rfl)) (pe_ix (ix_tupK (K := K) rfl) (pe_ix (ix_listK (K := K) rfl) (pv 0) (pv 2) (fun _ _ => rfl)) pe_int (fun _ _ => rfl)) (nomark _))))) (pss_one (ps_expr (pe_bmK2 (K := K) rfl PySem.F.plainAttrs_list PySem.F.slot_list_append PySem.F.type_list_append mt_append (pv 3) (pa_cons (pe_ix (ix_tupK (K := K) rfl) (pe_bm0K2 (K := K) rfl PySem.F.plainAttrs_list PySem.F.slot_list_pop PySem.F.type_list_pop mt_pop (pv 1)) pe_int (fun _ _ => rfl)) pa_nil)))))
      (pss_one (ps_expr (pe_bmK2 (K := K) rfl PySem.F.plainAttrs_list PySem.F.slot_list_append PySem.F.type_list_append mt_append (pv 1) (pa_cons (pe_tup (pa_cons (pe_ix (ix_tupK (K := K) rfl) (pe_ix (ix_listK (K := K) rfl) (pv 0) (pv 2) (fun _ _ => rfl)) pe_int (fun _ _ => rfl)) (pa_cons (pe_tup (pa_cons (pe_ix (ix_tupK (K := K) rfl) (pe_ix (ix_listK (K := K) rfl) (pv 0) (pv 2) (fun _ _ => rfl)) pe_int (fun _ _ => rfl)) (pa_cons (pe_ix (ix_tupK (K := K) rfl) (pe_ix (ix_listK (K := K) rfl) (pv 0) (pv 2) (fun _ _ => rfl)) pe_int (fun _ _ => rfl)) (pa_cons (pe_callTy (call_tupleK (K := K) rfl) (by rfl) T.m_tuple (by decide +kernel) (pa_cons (pv 3) pa_nil)) pa_nil)))) pa_nil))) pa_nil)))))))
      (pss_one (ps_ret (pe_ix (ix_tupK (K := K) rfl) (pe_ix (ix_listK (K := K) rfl) (pv 1) pe_int (fun _ _ => rfl)) pe_int (fun _ _ => rfl)))))), ?_⟩
    walk_at "g"
    refine ⟨szK rfl, fun R hR0 => ?_⟩
    have eR : upd H R (.lst []) R = some (.lst []) := upd_same
    have hM1 : Mk (also M R) (upd H R (.lst [])) := hM.new.also upd_there
    have s1 : Same H (upd H R (.lst [])) := same_new hR0
    generalize upd H R (.lst []) = H1 at eR hM1 s1
    walk_at "g"
    have ha1 := same_rd s1 ha
    refine ⟨_, _, rfl, .inl (.inl ha1), ?_⟩
    walk_at "g"
    rw [lx]
    have rg : RgC ((es.length : Int) - 1) (-1) (-1) es.length := by
      have := RgC.neg (i := (es.length : Int) - 1) (j := -1) (by omega) (by omega) (by omega) (by omega)
      rwa [show ((es.length : Int) - 1 - -1).toNat = es.length by omega] at this
    refine ⟨_, _, _, es.length, rfl, rg, ?_⟩
    refine for_rangeC (lo := (es.length : Int) - 1) (c := -1) (n := es.length) (fun i σ H' => (∃ y2 y3, σ = [some (.ref a), some (.ref R), y2, y3]) ∧ Same H H' ∧ Mk (also M R) H' ∧ ∃ (rs : List V) (Rl : List (Nat × Nd)), H' R = some (.lst rs) ∧ RpAll (also M R) H' rs (Rl.map rdE) ∧ (Rl.reverse.map fun p => p.2.subs.map entN).flatten = (es.drop (es.length - i)).map entF ∧ (∀ p ∈ Rl, p.2.dep + p.1 ≤ dp + 1 ∧ ∃ e ∈ es.drop (es.length - i), e.2.2 = p.1) ∧ Rl.length ≤ i ∧ (i = es.length → ∃ n, Rl = [(0, n)]) ∧ Rl = stackF (es.drop (es.length - i))) ?_ (fun i σ H' hi p => ?_) (fun σ H' p => ?_)
    · refine ⟨⟨_, _, rfl⟩, s1, hM1, [], [], eR, .nil, by simp, (fun p hp => nomatch hp), Nat.le_refl _, (fun z => by
        obtain ⟨e, r, rfl, _⟩ := hrt
        simp at z), by rw [Nat.sub_zero, List.drop_length]; rfl⟩
    · obtain ⟨⟨y2, y3, rfl⟩, s2, hM2, rs, Rl, eR, rr, k1, k2, k3, k4, k5⟩ := p
      obtain ⟨k, hk⟩ : ∃ k, es.length = i + 1 + k := ⟨es.length - (i + 1), by omega⟩
      obtain ⟨e, he⟩ : ∃ e, es[k]? = some e := ⟨_, List.getElem?_eq_getElem (by omega)⟩
      have ek : (es.length : Int) - 1 + (i : Nat) * -1 = (k : Int) := by omega
      rw [ek]
      have de : es.drop k = e :: es.drop (k + 1) := by
        rw [List.drop_eq_getElem_cons (by omega)]
        congr 1
        exact (List.getElem?_eq_some_iff.mp he).2
      have d1 : es.length - i = k + 1 := by omega
      have d2 : es.length - (i + 1) = k := by omega
      rw [d1] at k1 k2 k5
      obtain ⟨u, hu, ru⟩ := rx.getD (show (es.map flE)[k]? = some (flE e) by rw [List.getElem?_map, he]; rfl)
      obtain ⟨t, ts, rfl, nt, ht, rt⟩ := Rp.tupN ru
      obtain ⟨t1, t2, t3, rfl, q1, q2, q3⟩ := rt.inv3
      cases q1; cases q2; cases q3
      have a2 := same_rd s2 ha
      have t2' := same_rd s2 ht
      walk_at "g"
      refine ⟨szK rfl, fun B hB => ?_⟩
      have RB : R ≠ B := ne_of_none eR hB
      have nB0 : H B = none := s2.free hB
      have eB : upd H' B (.lst []) B = some (.lst []) := upd_same
      have eR := same_new hB (o := .lst []) _ _ eR
      have rr := (rr.fresh hB).sx (Sx.new hB (o := .lst []))
      have s3 := s2.trans (same_new hB (o := .lst []))
      have hM3 : Mk (also (also M R) B) (upd H' B (.lst [])) := hM2.new.also upd_there
      generalize upd H' B (.lst []) = H3 at eB eR rr s3 hM3
      dsimp only [gName]
      have nR2 : also (also M R) B R := .inl (.inr rfl)
      have nB2 : also (also M R) B B := .inr rfl
      with_reducible refine seq_join (fun σ3 H4 => ∃ (Rl1 Rl2 : List (Nat × Nd)) (rs bs : List V), Rl = Rl1 ++ Rl2 ∧ σ3 = [some (.ref a), some (.ref R), some (.int (k : Nat)), some (.ref B)] ∧ Same H H4 ∧ Mk (also (also M R) B) H4 ∧ H4 R = some (.lst rs) ∧ H4 B = some (.lst bs) ∧ RpAll (also (also M R) B) H4 rs (Rl1.map rdE) ∧ RpAll (also (also M R) B) H4 bs (Rl2.reverse.map fun p => p.2.enc) ∧ (∀ p ∈ Rl2, e.2.2 < p.1) ∧ ∀ p, Rl1.getLast? = some p → p.1 ≤ e.2.2) (fun hN => ?_) (fun σ3 H4 c => ?_)
      · refine ⟨fun m σ H' => ∃ (Rl1 Rl2 : List (Nat × Nd)) (rs bs : List V), m = Rl1.length ∧ Rl = Rl1 ++ Rl2 ∧ σ = [some (.ref a), some (.ref R), some (.int (k : Nat)), some (.ref B)] ∧ Same H H' ∧ Mk (also (also M R) B) H' ∧ H' R = some (.lst rs) ∧ H' B = some (.lst bs) ∧ RpAll (also (also M R) B) H' rs (Rl1.map rdE) ∧ RpAll (also (also M R) B) H' bs (Rl2.reverse.map fun p => p.2.enc) ∧ ∀ p ∈ Rl2, e.2.2 < p.1, ⟨_, Rl, [], rs, [], rfl, (List.append_nil _).symm, rfl, s3, hM3, eR, eB, rr, .nil, fun p hp => nomatch hp⟩, fun m σ H4 hW => ?_⟩
        obtain ⟨Rl1, Rl2, rs, bs, rfl, rfl, rfl, s4, hM4, eR, eB, r1, r2, hlv⟩ := hW
        have l1 := r1.length
        have l2 := r2.length
        rw [List.length_map] at l1
        rw [List.length_map, List.length_reverse] at l2
        rw [List.length_append] at k3
        have a4 := same_rd s4 ha
        have t4 := same_rd s4 ht
        walk_at "g"
        refine ⟨!rs.isEmpty, .inl ⟨_, SqL.of eR, rfl⟩, ?_⟩
        rcases nil_or_snoc Rl1 with rfl | ⟨Rs, pl, rfl⟩
        · have : rs = [] := List.length_eq_zero_iff.mp l1
          subst this
          exact hN _ _ ⟨[], Rl2, [], bs, rfl, rfl, s4, hM4, eR, eB, r1, r2, hlv, fun p hp => nomatch hp⟩
        · obtain ⟨pv, pn⟩ := pl
          rw [List.map_append] at r1
          obtain ⟨us, u1, rfl, rus, ru1⟩ := RpAll.last r1
          obtain ⟨w, ws, rfl, nw, hw, rw1⟩ := Rp.tupN ru1
          obtain ⟨x1, x2, rfl, y1, y2⟩ := rw1.inv2
          cases y1
          rw [show (!(us ++ [V.ref w]).isEmpty) = true by simp]
          walk_at "g"
          refine ⟨_, _, _, _, rfl, rfl, SqL.of eR, atI_last _ _, ?_⟩
          refine ⟨w, _, _, _, rfl, rfl, .inl hw, atI_nat (j := 0) rfl, ?_⟩
          walk_at "g"
          refine ⟨_, _, _, _, rfl, rfl, .inl a4, atI_nat hu, ?_⟩
          refine ⟨t, _, _, _, rfl, rfl, .inl t4, atI_nat (j := 2) rfl, ?_⟩
          walk_at "g"
          by_cases hc : (e.2.2 : Int) < (pv : Nat)
          · rw [decide_eq_true hc]
            refine ⟨fun σ' H' => ∃ (Rl1 Rl2' : List (Nat × Nd)) (rs bs : List V), (Rs ++ [(pv, pn)]) ++ Rl2 = Rl1 ++ Rl2' ∧ Rl1.length < (Rs ++ [(pv, pn)]).length ∧ σ' = [some (.ref a), some (.ref R), some (.int (k : Nat)), some (.ref B)] ∧ Same H H' ∧ Mk (also (also M R) B) H' ∧ H' R = some (.lst rs) ∧ H' B = some (.lst bs) ∧ RpAll (also (also M R) B) H' rs (Rl1.map rdE) ∧ RpAll (also (also M R) B) H' bs (Rl2'.reverse.map fun p => p.2.enc) ∧ ∀ p ∈ Rl2', e.2.2 < p.1, fun σ' H' z => ?_, ?_⟩
            · obtain ⟨A1, A2, rs', bs', z1, z2, z3, z4, z5, z6, z7, z8, z9, z10⟩ := z
              exact ⟨_, z2, A1, A2, rs', bs', rfl, z1, z3, z4, z5, z6, z7, z8, z9, z10⟩
            walk_at "g"
            refine ⟨.inl ⟨rfl, _, SqL.of eB⟩, ?_⟩
            walk_at "g"
            refine ⟨.inl ⟨rfl, _, SqL.of eR⟩, R, _, .ref w, rfl, rfl, eR, ?_, ?_⟩
            · rw [List.length_append, List.length_singleton, Nat.add_sub_cancel, List.getElem?_append_right (Nat.le_refl _), Nat.sub_self]
              rfl
            rw [List.dropLast_concat]
            have sR : Sx (also (also M R) B) H4 (upd H4 R (.lst us)) := Sx.put nR2
            have eR1 : upd H4 R (.lst us) R = some (.lst us) := upd_same
            have eB1 : upd H4 R (.lst us) B = some (.lst bs) := by rw [upd_ne (Ne.symm RB)]; exact eB
            have s5 : Same H (upd H4 R (.lst us)) := same_put s4 hR0
            have hM5 := hM4.gr (Gr.upd (p := R) (o := .lst us))
            have hw1 := sx_rd sR nw hw
            have y21 := y2.sx sR
            have rus1 := rus.sx sR
            have r21 := r2.sx sR
            generalize upd H4 R (.lst us) = H5 at eR1 eB1 s5 hM5 hw1 y21 rus1 r21
            refine ⟨w, _, _, _, rfl, rfl, .inl hw1, atI_nat (j := 1) rfl, ?_⟩
            refine ⟨B, bs, x2, rfl, rfl, eB1, ?_, ?_⟩
            · have : (Rs ++ [(pv, pn)]).length + Rl2.length ≤ i := k3
              exact small1000 (by omega)
            have sB : Sx (also (also M R) B) H5 (upd H5 B (.lst (bs ++ [x2]))) := Sx.put nB2
            refine ⟨Rs, (pv, pn) :: Rl2, us, bs ++ [x2], by simp, by simp, rfl, same_put s5 nB0, hM5.gr Gr.upd, by rw [upd_ne RB]; exact eR1, upd_same, rus1.sx sB, ?_, fun p hp => ?_⟩
            · rw [List.reverse_cons, List.map_append]
              exact (r21.append (.one y21)).sx sB
            · rcases List.mem_cons.mp hp with rfl | hp
              · show e.2.2 < pv
                omega
              · exact hlv p hp
          · rw [decide_eq_false hc]
            refine hN _ _ ⟨Rs ++ [(pv, pn)], Rl2, _, bs, by simp, rfl, s4, hM4, eR, eB, by rw [List.map_append]; exact r1, r2, hlv, fun p hp => ?_⟩
            rw [List.getLast?_concat] at hp
            cases hp
            show pv ≤ e.2.2
            omega
      obtain ⟨Rl1, Rl2, rs, bs, rfl, rfl, s4, hM4, eR, eB, r1, r2, hlv, hlast⟩ := c
      have a4 := same_rd s4 ha
      have t4 := same_rd s4 ht
      have l1 := r1.length
      rw [List.length_map] at l1
      rw [List.length_append] at k3
      walk_at "g"
      refine ⟨.inl ⟨rfl, _, SqL.of eR⟩, ?_⟩
      refine ⟨_, rfl, _, rfl, _, _, _, _, rfl, rfl, .inl a4, atI_nat hu, ?_⟩
      refine ⟨t, _, _, _, rfl, rfl, .inl t4, atI_nat (j := 2) rfl, ?_⟩
      refine ⟨_, rfl, _, rfl, _, _, _, _, rfl, rfl, .inl a4, atI_nat hu, ?_⟩
      refine ⟨t, _, _, _, rfl, rfl, .inl t4, atI_nat (j := 0) rfl, ?_⟩
      refine ⟨_, rfl, _, rfl, _, _, _, _, rfl, rfl, .inl a4, atI_nat hu, ?_⟩
      refine ⟨t, _, _, _, rfl, rfl, .inl t4, atI_nat (j := 1) rfl, ?_⟩
      refine ⟨_, rfl, B, bs, rfl, .inl ⟨SqL.of eB, fun p1 hp1 => ?_⟩⟩
      have hkids : (Rl2.reverse.map fun p => p.2.enc) = (Rl2.reverse.map (·.2)).map Nd.enc := by rw [List.map_map]; rfl
      rw [hkids] at r2
      generalize hks : Rl2.reverse.map (·.2) = ks at r2 hkids
      have rk : Rp (also (also M R) B) (upd H4 p1 (.tup bs)) (.ref p1) (.tuple (ks.map Nd.enc)) := Rp.newT hM4 hp1 r2
      have r1a := r1.sx (Sx.new hp1 (o := .tup bs))
      have eR1 := same_new hp1 (o := .tup bs) _ _ eR
      have s5 := s4.trans (same_new hp1 (o := .tup bs))
      have hM5 := hM4.gr (Gr.upd (p := p1) (o := .tup bs))
      generalize upd H4 p1 (.tup bs) = H5 at rk r1a eR1 s5 hM5
      refine ⟨szK rfl, fun p2 hp2 => ?_⟩
      have hp2 : H5 p2 = none := hp2
      have rn : Rp (also (also M R) B) (upd H5 p2 (.tup [.str e.1, .str e.2.1, .ref p1])) (.ref p2) (Nd.mk e.1 e.2.1 ks).enc := by
        rw [Nd.enc_eq]
        exact Rp.newT hM5 hp2 (.cons (.str _) (.cons (.str _) (.one rk)))
      have r1b := r1a.sx (Sx.new hp2 (o := .tup [.str e.1, .str e.2.1, .ref p1]))
      have eR2 := same_new hp2 (o := .tup [.str e.1, .str e.2.1, .ref p1]) _ _ eR1
      have s6 := s5.trans (same_new hp2 (o := .tup [.str e.1, .str e.2.1, .ref p1]))
      have hM6 := hM5.gr (Gr.upd (p := p2) (o := .tup [.str e.1, .str e.2.1, .ref p1]))
      generalize upd H5 p2 (.tup [.str e.1, .str e.2.1, .ref p1]) = H6 at rn r1b eR2 s6 hM6
      refine ⟨szK rfl, fun p3 hp3 => ?_⟩
      have hp3 : H6 p3 = none := hp3
      have rp : Rp (also (also M R) B) (upd H6 p3 (.tup [.int e.2.2, .ref p2])) (.ref p3) (rdE (e.2.2, Nd.mk e.1 e.2.1 ks)) := Rp.newT hM6 hp3 (.cons (.int _) (.one rn))
      have r1c := r1b.sx (Sx.new hp3 (o := .tup [.int e.2.2, .ref p2]))
      have eR3 := same_new hp3 (o := .tup [.int e.2.2, .ref p2]) _ _ eR2
      have s7 := s6.trans (same_new hp3 (o := .tup [.int e.2.2, .ref p2]))
      have hM7 := hM6.gr (Gr.upd (p := p3) (o := .tup [.int e.2.2, .ref p2]))
      generalize upd H6 p3 (.tup [.int e.2.2, .ref p2]) = H7 at rp r1c eR3 s7 hM7
      refine ⟨R, rs, .ref p3, rfl, rfl, eR3, small1000 (by omega), ?_⟩
      have sR : Sx (also (also M R) B) H7 (upd H7 R (.lst (rs ++ [.ref p3]))) := Sx.put nR2
      have he' : e ∈ es.drop k := by rw [de]; exact List.mem_cons_self
      refine ⟨⟨_, _, rfl⟩, same_put s7 hR0, fun c z => (hM7.gr Gr.upd) c (.inl z), rs ++ [.ref p3], Rl1 ++ [(e.2.2, Nd.mk e.1 e.2.1 ks)], upd_same, ?_, ?_, fun p hp => ?_, by rw [List.length_append, List.length_singleton]; omega, fun z => ?_, by
          rw [d2, de]
          show _ = pushF (stackF (es.drop (k + 1))) e
          rw [← k5, pushF_eq hlv hlast, hks]⟩
      · rw [List.map_append]
        exact ((r1c.append (.one rp)).sx sR).less also_le
      · rw [d2, de, List.map_cons, List.reverse_append, List.map_append, List.flatten_append]
        rw [List.reverse_append, List.map_append, List.flatten_append] at k1
        rw [← k1]
        have : ([(e.2.2, Nd.mk e.1 e.2.1 ks)].reverse.map fun p : Nat × Nd => p.2.subs.map entN).flatten = entF e :: (Rl2.reverse.map fun p => p.2.subs.map entN).flatten := by
          show ((Nd.mk e.1 e.2.1 ks).subs.map entN ++ []) = _
          rw [List.append_nil, Nd.subs_eq, List.map_cons]
          congr 1
          show ((ks.map Nd.subs).flatten).map entN = _
          rw [List.map_flatten, ← hks, List.map_map, List.map_map]
          rfl
        rw [this, List.cons_append]
      · rw [d2]
        rcases List.mem_append.mp hp with hp | hp
        · obtain ⟨z1, e', z2, z3⟩ := k2 p (List.mem_append_left _ hp)
          exact ⟨z1, e', by rw [de]; exact List.mem_cons_of_mem _ z2, z3⟩
        · rw [List.mem_singleton.mp hp]
          refine ⟨?_, e, he', rfl⟩
          have hle := hdp e (List.mem_of_getElem? he)
          have : Nd.deps ks ≤ dp - e.2.2 := Nd.deps_le fun c hc => by
            rw [← hks] at hc
            obtain ⟨p', hp', rfl⟩ := List.mem_map.mp hc
            have hp' := List.mem_reverse.mp hp'
            have z1 := (k2 p' (List.mem_append_right _ hp')).1
            have z2 := hlv p' hp'
            omega
          rw [Nd.dep_eq]
          show Nd.deps ks + 1 + e.2.2 ≤ dp + 1
          omega
      · have k0 : k = 0 := by omega
        subst k0
        obtain ⟨e0, r0, rfl, z0, zr⟩ := hrt
        cases he
        refine ⟨Nd.mk e.1 e.2.1 ks, ?_⟩
        rcases nil_or_snoc Rl1 with rfl | ⟨Rs, pl, rfl⟩
        · rw [z0]
          rfl
        · have h1 := hlast pl List.getLast?_concat
          obtain ⟨_, e', m1, m2⟩ := k2 pl (List.mem_append_left _ (List.mem_append_right _ List.mem_cons_self))
          have := zr e' (by simpa using m1)
          omega
    · obtain ⟨⟨y2, y3, rfl⟩, s2, hM2, rs, Rl, eR, rr, k1, k2, k3, k4, k5⟩ := p
      obtain ⟨n, rfl⟩ := k4 rfl
      obtain ⟨w, rfl, rw1⟩ := rr.inv1
      obtain ⟨t, ts, rfl, nt, ht, rt⟩ := Rp.tupN rw1
      obtain ⟨x1, x2, rfl, y1, y2'⟩ := rt.inv2
      cases y1
      walk_at "g"
      rw [Nat.sub_self, List.drop_zero] at k1 k5
      have k1 : n.subs.map entN = es.map entF := by simpa using k1
      exact q _ _ n s2 (y2'.less also_le) k1 (by have := (k2 _ List.mem_cons_self).1; omega) (by unfold growF; rw [← k5])
end
end D

namespace D
open PySem PySem.Spec PyProof.Rows L2
local macro_rules | `(tactic| walk_at "st") => `(tactic| first | exact SqT.of (by assumption) | exact Or.inl (by assumption) | exact SqT.of upd_same | fail "st")
local macro_rules | `(tactic| walk_at "ixt") => `(tactic| refine ⟨_, _, _, _, rfl, rfl, (by walk_at "st" : SqT _ _ _ _), by rfl, ?_⟩)
local macro_rules | `(tactic| walk_at "sq") => `(tactic| first | exact SqL.of (by assumption) | assumption | exact Or.inl (by assumption) | exact SqL.of upd_same | fail "sq")
local macro_rules | `(tactic| walk_at "ix") => `(tactic| refine ⟨_, _, _, _, rfl, rfl, (by walk_at "sq" : SqL _ _ _ _), by rfl, ?_⟩)
local macro_rules | `(tactic| walk_at "set") => `(tactic| refine ⟨_, _, _, _, rfl, rfl, by first | assumption | exact upd_same, by rfl, ?_⟩)
local macro_rules | `(tactic| walk_at "len") => `(tactic| refine ⟨_, _, rfl, Or.inl (by walk_at "sq" : SqL _ _ _ _), ?_⟩)
local macro_rules | `(tactic| walk_at "g") => `(tactic| repeat (first | refine ⟨_, rfl, ?_⟩ | refine ⟨_, _, rfl, rfl, ?_⟩ | refine ⟨Or.inr (by decide), ?_⟩ | refine ⟨Or.inl (by decide), ?_⟩ | refine ⟨(by decide : (0 : Int) < _), ?_⟩ | refine ⟨(⟨by decide, by decide⟩ : CDiv _ _), ?_⟩ | refine ⟨(⟨by decide, by decide, by decide⟩ : CPow _ _), ?_⟩ | refine Or.inl ⟨_, rfl, ?_⟩ | refine ⟨rfl, ?_⟩ | walk_at "ix" | walk_at "ixt" | walk_at "len" | fail "g"))
local macro_rules | `(tactic| walk_at "if") => `(tactic| refine ite2 (fun e => ?_) (fun e => ?_))
section
variable {P : Program} {w : World} {K : PySem.W.Frag} {mg : Str → Option Value} {base : Heap}
/-- trees that the law draws -/
structure goodT (n : Nd) : Prop where
  nd : n.marks.Nodup
  dep : n.dep ≤ 60
  len : n.subs.length ≤ 400
  txt : ∀ x ∈ n.subs, (x.mark.length ≤ 60 ∧ asc x.mark) ∧ x.label.length ≤ 30 ∧ asc x.label
theorem goodT_of {n : Nd} {es : List FlE} {ms : List Str} (h : n.subs.map entN = es.map entF) (hm : es.map (·.1) = ms) (g : goodMs ms) (hl : ms.length ≤ 400) (ht : ∀ e ∈ es, e.2.1.length ≤ 30 ∧ asc e.2.1) (hd : n.dep ≤ 60) : goodT n := by
  have e1 : n.marks = ms := by
    rw [← hm]
    have := congrArg (List.map Prod.fst) h
    rw [List.map_map, List.map_map] at this
    exact this
  have l1 : n.subs.length = es.length := by
    have := congrArg List.length h
    rwa [List.length_map, List.length_map] at this
  refine ⟨by rw [e1]; exact g.1, hd, by rw [l1]; have := congrArg List.length hm; rw [List.length_map] at this; omega, fun x hx => ?_⟩
  have hx' : entN x ∈ es.map entF := by rw [← h]; exact List.mem_map.mpr ⟨x, hx, rfl⟩
  obtain ⟨e, he, ee⟩ := List.mem_map.mp hx'
  have hmk : x.mark ∈ ms := by rw [← hm]; exact List.mem_map.mpr ⟨e, he, congrArg Prod.fst ee⟩
  have hlb : e.2.1 = x.label := congrArg Prod.snd ee
  exact ⟨g.2 _ hmk, by rw [← hlb]; exact (ht e he).1, by rw [← hlb]; exact (ht e he).2⟩
end
end D

namespace D
open PySem PySem.Spec PyProof.Rows L2
local macro_rules | `(tactic| walk_at "st") => `(tactic| first | exact SqT.of (by assumption) | exact Or.inl (by assumption) | exact SqT.of upd_same | fail "st")
local macro_rules | `(tactic| walk_at "ixt") => `(tactic| refine ⟨_, _, _, _, rfl, rfl, (by walk_at "st" : SqT _ _ _ _), by rfl, ?_⟩)
local macro_rules | `(tactic| walk_at "sq") => `(tactic| first | exact SqL.of (by assumption) | assumption | exact Or.inl (by assumption) | exact SqL.of upd_same | fail "sq")
local macro_rules | `(tactic| walk_at "ix") => `(tactic| refine ⟨_, _, _, _, rfl, rfl, (by walk_at "sq" : SqL _ _ _ _), by rfl, ?_⟩)
local macro_rules | `(tactic| walk_at "set") => `(tactic| refine ⟨_, _, _, _, rfl, rfl, by first | assumption | exact upd_same, by rfl, ?_⟩)
local macro_rules | `(tactic| walk_at "len") => `(tactic| refine ⟨_, _, rfl, Or.inl (by walk_at "sq" : SqL _ _ _ _), ?_⟩)
local macro_rules | `(tactic| walk_at "g") => `(tactic| repeat (first | refine ⟨_, rfl, ?_⟩ | refine ⟨_, _, rfl, rfl, ?_⟩ | refine ⟨Or.inr (by decide), ?_⟩ | refine ⟨Or.inl (by decide), ?_⟩ | refine ⟨(by decide : (0 : Int) < _), ?_⟩ | refine ⟨(⟨by decide, by decide⟩ : CDiv _ _), ?_⟩ | refine ⟨(⟨by decide, by decide, by decide⟩ : CPow _ _), ?_⟩ | refine Or.inl ⟨_, rfl, ?_⟩ | refine ⟨rfl, ?_⟩ | walk_at "ix" | walk_at "ixt" | walk_at "len" | fail "g"))
local macro_rules | `(tactic| walk_at "if") => `(tactic| refine ite2 (fun e => ?_) (fun e => ?_))
section
variable {P : Program} {w : World} {K : PySem.W.Frag} {mg : Str → Option Value} {base : Heap}
def sp_nodes (n0 : Nat) : Sp := fun vs H Q _ => ∃ (v : V) (n : Nd) (M : Ms), vs = [v] ∧ Rp M H v n.enc ∧ Mk M H ∧ n.dep ≤ n0 ∧ n.subs.length ≤ 400 ∧ ∀ H' p us, Same H H' → H p = none → H' p = some (.lst us) → RpAll M H' us (n.subs.map Nd.enc) → Q (.ref p) H'
theorem flat_len {α : Type} {f : α → List α} : ∀ {ks : List α} {k : α}, k ∈ ks → (f k).length ≤ ((ks.map f).flatten).length
  | q :: r, k, h => by
    rw [List.map_cons, List.flatten_cons, List.length_append]
    rcases List.mem_cons.mp h with rfl | h
    · omega
    · have := flat_len (f := f) h
      omega
theorem take_flat {α β : Type} (f : α → List β) (l : List α) (i : Nat) (x : α) (h : l[i]? = some x) : ((l.take (i + 1)).map f).flatten = ((l.take i).map f).flatten ++ f x := by
  rw [List.take_add_one, h, Option.toList_some, List.map_append, List.flatten_append]
  simp
theorem flat_take_le {α β : Type} (f : α → List β) (l : List α) (i : Nat) : (((l.take i).map f).flatten).length ≤ ((l.map f).flatten).length := by
  have e : l = l.take i ++ l.drop i := (List.take_append_drop i l).symm
  have h2 : (l.map f).flatten = ((l.take i).map f).flatten ++ ((l.drop i).map f).flatten := by rw [← List.flatten_append, ← List.map_append, ← e]
  rw [h2, List.length_append]
  omega
theorem ok_nodes (T : Txt K mg) : ∀ n0, FnOk P w K mg base CX0 (n0 + 1) T.f_nodes_in T.d_nodes_in ["node"] (sp_nodes n0) := by
  intro n0
  induction n0 with
  | zero =>
    refine T.F_nodes_in.ok sc_nodes_in (fun vs H Q E h => ?_) (fun cdv A outer s H vs Q E hr h => ?_)
    · obtain ⟨_, _, _, rfl, _⟩ := h
      rfl
    · obtain ⟨v, n, M, rfl, _, _, hd, _⟩ := h
      exact absurd n.dep_pos (by omega)
  | succ n0 ih =>
    have G_nodes_in := ih
    refine T.F_nodes_in.ok sc_nodes_in (fun vs H Q E h => ?_) (fun cdv A outer s H vs Q E hr h => ?_)
    · obtain ⟨_, _, _, rfl, _⟩ := h
      rfl
    · obtain ⟨v, n, M, rfl, hR, hM, hd, hl, q⟩ := h
      have hR0 := hR
      rw [Nd.enc_eq] at hR
      obtain ⟨t, ts, rfl, nt, ht, rt⟩ := Rp.tupN hR
      obtain ⟨x1, x2, x3, rfl, q1, q2, q3⟩ := rt.inv3
      cases q1; cases q2
      obtain ⟨c, cs, rfl, nc, hc, rc⟩ := Rp.tupN q3
      have lc := rc.length
      rw [List.length_map] at lc
      refine ⟨_, (pss_cons (ps_set (i := 1) sc_nodes_in.nd rfl (Or.inl rfl) (pe_lst (pa_cons (pv 0) pa_nil)))
      (pss_cons (ps_for PassesOwn.never rfl (pi_tupK (K := K) rfl (pe_ix (ix_tupK (K := K) rfl) (pv 0) pe_int (fun _ _ => rfl))) (pg_name (i := 2) sc_nodes_in.nd rfl (Or.inl rfl)) (pss_one (ps_expr (pe_bmK2 (K := K) rfl PySem.F.plainAttrs_list PySem.F.slot_list_extend PySem.F.type_list_extend mt_extend (pv 1) (pa_cons (pe_call G_nodes_in (hr.mono (by omega)) (by rfl) T.g_nodes_in T.F_nodes_in.kp T.b_nodes_in .nil pass0 (pa_cons (pv 2) pa_nil)) pa_nil)))))
      (pss_one (ps_ret (pv 1))))), ?_⟩
      walk_at "g"
      refine ⟨szK rfl, fun o ho => ?_⟩
      have eo : upd H o (.lst [.ref t]) o = some (.lst [.ref t]) := upd_same
      have s1 : Same H (upd H o (.lst [.ref t])) := same_new ho
      have hM1 : Mk (also M o) (upd H o (.lst [.ref t])) := hM.new.also upd_there
      have r1 : Rp (also M o) (upd H o (.lst [.ref t])) (.ref t) n.enc := (hR0.fresh ho).sx (Sx.new ho)
      generalize upd H o (.lst [.ref t]) = H1 at eo s1 hM1 r1
      have ht1 := same_rd s1 ht
      have hc1 := same_rd s1 hc
      walk_at "g"
      refine ⟨⟨_, .inl hc1⟩, ?_⟩
      have se := n.subs_eq
      have ln : ((n.kids.map Nd.subs).flatten).length + 1 = n.subs.length := by rw [se]; rfl
      refine for_tup (K := K) (a := c) (xs := cs) (fun i σ H' => (∃ y2, σ = [some (.ref t), some (.ref o), y2]) ∧ Same H H' ∧ Mk (also M o) H' ∧ ∃ us, H' o = some (.lst us) ∧ RpAll (also M o) H' us ((n :: ((n.kids.take i).map Nd.subs).flatten).map Nd.enc)) ⟨⟨_, rfl⟩, s1, hM1, _, eo, .one r1⟩ (fun i σ H' _ p => same_sqt p.2.1 (.inl hc)) (fun i x σ H' hx p => ?_) (fun σ H' p => ?_)
      · obtain ⟨⟨y2, rfl⟩, s2, hM2, us, eo2, ru⟩ := p
        obtain ⟨d, hd2, rx⟩ := rc.get hx
        rw [List.getElem?_map] at hd2
        obtain ⟨k, hk, rfl⟩ := Option.map_eq_some_iff.mp hd2
        have km := List.mem_of_getElem? hk
        have kd := Nd.dep_kid km
        have kl := flat_len (f := Nd.subs) km
        walk_at "g"
        refine ⟨.inl ⟨rfl, _, SqL.of eo2⟩, ?_⟩
        walk_at "g"
        have ro : Rp (also M o) H' x k.enc := (rx.fresh ho).sx (Sx.same s2)
        refine ⟨x, k, also M o, rfl, ro, hM2, by omega, by omega, fun H3 p3 vs3 s3 hp3 e3 r3 => ?_⟩
        have eo3 := s3 _ _ eo2
        have lu := ru.length
        have l3 := r3.length
        rw [List.length_map] at lu l3
        have tf := take_flat Nd.subs n.kids i k hk
        have tl := flat_take_le Nd.subs n.kids (i + 1)
        rw [tf, List.length_append] at tl
        refine ⟨o, p3, _, _, rfl, rfl, eo3, e3, ?_, ?_⟩
        · rw [lu, l3, List.length_cons]
          exact Nat.le_of_lt (small1000 (by omega))
        · refine ⟨⟨_, rfl⟩, same_put (s2.trans s3) ho, (hM2.gr (Gr.same s3)).gr Gr.upd, _, upd_same, ?_⟩
          rw [tf, ← List.cons_append, List.map_append]
          exact ((ru.sx (Sx.same s3)).append r3).sx (Sx.put (.inr rfl))
      · obtain ⟨⟨y2, rfl⟩, s2, hM2, us, eo2, ru⟩ := p
        walk_at "g"
        rw [lc, List.take_of_length_le (Nat.le_refl _), ← se] at ru
        exact q _ _ _ s2 ho eo2 (ru.less also_le)
theorem nd_take {α : Type} {ms : List α} {m : α} {i : Nat} (h : ms.Nodup) (hm : ms[i]? = some m) : m ∉ ms.take i := by
  obtain ⟨hi, e⟩ := List.getElem?_eq_some_iff.mp hm
  have e1 : ms = ms.take i ++ m :: ms.drop (i + 1) := by rw [← e, List.getElem_cons_drop hi, List.take_append_drop]
  rw [e1, List.nodup_append] at h
  exact fun z => h.2.2 m z m List.mem_cons_self rfl
def sp_twice (K : PySem.W.Frag) : Sp := fun vs H Q _ => ∃ (a k : Addr) (ms : List Str), vs = [.ref a, .ref k] ∧ SqL K H a (ms.map V.str) ∧ SqL K H k [] ∧ ms.Nodup ∧ ms.length ≤ 400 ∧ ∀ H', Same H H' → Q .non H'
theorem ok_twice (T : Txt K mg) : FnOk P w K mg base CX0 1 T.f_first_twice T.d_first_twice ["marks", "known"] (sp_twice K) := by
  refine T.F_first_twice.ok sc_first_twice (fun vs H Q E h => ?_) (fun cdv A outer s H vs Q E hr h => ?_)
  · obtain ⟨_, _, _, rfl, _⟩ := h
    rfl
  · obtain ⟨a, k, ms, rfl, ha, hk, hnd, hl, q⟩ := h
    refine ⟨_, (pss_cons (ps_set (i := 2) sc_first_twice.nd rfl (Or.inl rfl) (pe_callTy (call_setE rfl) (by rfl) T.m_set (by decide +kernel) (pa_cons (pv 1) pa_nil)))
      (pss_cons (ps_for PassesOwn.never rfl (pi_listK (K := K) rfl (pv 0)) (pg_name (i := 3) sc_first_twice.nd rfl (Or.inl rfl)) (pss_cons (ps_if (pt_cmpR or_sinK (pv 3) (pv 2) (by rfl)) (pss_one (ps_ret (pv 3))) pss_nil)
      (pss_one (ps_expr (pe_saddK (pv 2) (pa_cons (pv 3) pa_nil))))))
      (pss_one (ps_ret pe_non)))), ?_⟩
    walk_at "g"
    refine ⟨hk, fun o ho => ?_⟩
    have ha1 := (Same.seq (same_new (o := SetK P w o (fun _ => false) 0) ho) ha)
    have e1 : upd H o (SetK P w o (fun _ => false) 0) o = some (SetK P w o (fun _ => false) 0) := upd_same
    have s1 : Same H (upd H o (SetK P w o (fun _ => false) 0)) := same_new ho
    walk_at "g"
    refine ⟨⟨_, ha1⟩, ?_⟩
    refine for_list (K := K) (a := a) (xs := ms.map V.str) (fun i σ H' => (∃ y3, σ = [some (.ref a), some (.ref k), some (.ref o), y3]) ∧ Same H H' ∧ ∃ S n, H' o = some (SetK P w o S n) ∧ (∀ m, S (.inr m) = decide (m ∈ ms.take i)) ∧ n ≤ i) ⟨⟨_, rfl⟩, s1, _, 0, e1, fun m => by simp, Nat.le_refl _⟩ (fun i σ H' _ p => p.2.1.seq ha) (fun i x σ H' hx p => ?_) (fun σ H' p => ?_)
    · obtain ⟨⟨y3, rfl⟩, s2, S, n, e2, hS, hn⟩ := p
      rw [List.getElem?_map] at hx
      obtain ⟨m, hm, rfl⟩ := Option.map_eq_some_iff.mp hx
      have hi := (List.getElem?_eq_some_iff.mp hm).1
      have nm := nd_take hnd hm
      walk_at "g"
      refine ⟨.inr m, o, S, n, rfl, rfl, e2, ?_⟩
      rw [hS, decide_eq_false nm]
      walk_at "g"
      refine ⟨⟨o, S, n, rfl, e2⟩, ?_⟩
      walk_at "g"
      refine ⟨o, .inr m, S, n, rfl, rfl, e2, ?_, ?_⟩
      · unfold scanBound
        omega
      · refine ⟨⟨_, rfl⟩, same_put s2 ho, _, _, upd_same, fun m' => ?_, ?_⟩
        · show (S (.inr m') || decide ((Sum.inr m' : Key) = .inr m)) = _
          rw [hS, List.take_add_one, hm]
          have : (decide ((Sum.inr m' : Key) = .inr m)) = decide (m' = m) := decide_eq_decide.mpr ⟨fun z => by injection z, fun z => by rw [z]⟩
          rw [this]
          simp [List.mem_append]
        · split <;> omega
    · obtain ⟨⟨y3, rfl⟩, s2, _⟩ := p
      walk_at "g"
      exact q _ s2
end
end D

namespace D
open PySem PySem.Spec PyProof.Rows L2
local macro_rules | `(tactic| walk_at "st") => `(tactic| first | exact SqT.of (by assumption) | exact Or.inl (by assumption) | exact SqT.of upd_same | fail "st")
local macro_rules | `(tactic| walk_at "ixt") => `(tactic| refine ⟨_, _, _, _, rfl, rfl, (by walk_at "st" : SqT _ _ _ _), by rfl, ?_⟩)
local macro_rules | `(tactic| walk_at "sq") => `(tactic| first | exact SqL.of (by assumption) | assumption | exact Or.inl (by assumption) | exact SqL.of upd_same | fail "sq")
local macro_rules | `(tactic| walk_at "ix") => `(tactic| refine ⟨_, _, _, _, rfl, rfl, (by walk_at "sq" : SqL _ _ _ _), by rfl, ?_⟩)
local macro_rules | `(tactic| walk_at "set") => `(tactic| refine ⟨_, _, _, _, rfl, rfl, by first | assumption | exact upd_same, by rfl, ?_⟩)
local macro_rules | `(tactic| walk_at "len") => `(tactic| refine ⟨_, _, rfl, Or.inl (by walk_at "sq" : SqL _ _ _ _), ?_⟩)
local macro_rules | `(tactic| walk_at "g") => `(tactic| repeat (first | refine ⟨_, rfl, ?_⟩ | refine ⟨_, _, rfl, rfl, ?_⟩ | refine ⟨Or.inr (by decide), ?_⟩ | refine ⟨Or.inl (by decide), ?_⟩ | refine ⟨(by decide : (0 : Int) < _), ?_⟩ | refine ⟨(⟨by decide, by decide⟩ : CDiv _ _), ?_⟩ | refine ⟨(⟨by decide, by decide, by decide⟩ : CPow _ _), ?_⟩ | refine Or.inl ⟨_, rfl, ?_⟩ | refine ⟨rfl, ?_⟩ | walk_at "ix" | walk_at "ixt" | walk_at "len" | fail "g"))
local macro_rules | `(tactic| walk_at "if") => `(tactic| refine ite2 (fun e => ?_) (fun e => ?_))
section
variable {P : Program} {w : World} {K : PySem.W.Frag} {mg : Str → Option Value} {base : Heap}
def sRoot : Str := Str.ofString "_root"
def sNodes : Str := Str.ofString "_nodes"
def sParents : Str := Str.ofString "_parents"
theorem putF_ne {f g : Str} {v x : V} {r : List (Str × V)} (h : ¬ g = f) : putF f v ((g, x) :: r) = (g, x) :: putF f v r := by
  show (if g = f then _ else _) = _
  rw [if_neg h]
theorem pf_nodes (v x : V) : putF (Str.ofString "_nodes") x [(sRoot, v)] = [(sRoot, v), (sNodes, x)] := by
  rw [putF_ne (by decide +kernel)]
  rfl
theorem pf_parents (v x y : V) : putF (Str.ofString "_parents") y [(sRoot, v), (sNodes, x)] = [(sRoot, v), (sNodes, x), (sParents, y)] := by
  rw [putF_ne (by decide +kernel), putF_ne (by decide +kernel)]
  rfl
theorem flat_ge {α : Type} {f : α → List α} (h : ∀ k, 1 ≤ (f k).length) : ∀ ks : List α, ks.length ≤ ((ks.map f).flatten).length
  | [] => Nat.le_refl _
  | k :: r => by
    rw [List.map_cons, List.flatten_cons, List.length_append, List.length_cons]
    have := flat_ge h r
    have := h k
    omega
theorem kids_len (n : Nd) : n.kids.length < n.subs.length := by
  rw [Nd.subs_eq, List.length_cons]
  have := flat_ge (f := Nd.subs) (fun k => k.subs_len_pos) n.kids
  omega
theorem sub_len_le : ∀ (n : Nd), ∀ k ∈ n.subs, k.subs.length ≤ n.subs.length := Nd.ind (p := fun n => ∀ k ∈ n.subs, k.subs.length ≤ n.subs.length) fun n ih k hk => by
  rw [Nd.subs_eq n] at hk
  rcases List.mem_cons.mp hk with rfl | hk
  · exact Nat.le_refl _
  · obtain ⟨l, hl, hkl⟩ := List.mem_flatten.mp hk
    obtain ⟨c, hc, rfl⟩ := List.mem_map.mp hl
    have h1 := ih c hc k hkl
    have h2 := flat_len (f := Nd.subs) hc
    rw [Nd.subs_eq n, List.length_cons]
    omega
theorem zip_fst {α β : Type} : ∀ (a : List α) (b : List β), a.length = b.length → (a.zip b).map (·.1) = a
  | [], _, _ => by simp
  | x :: r, [], h => by simp at h
  | x :: r, y :: q, h => by
    rw [List.zip_cons_cons, List.map_cons, zip_fst r q (by simpa using h)]
/-- a page of the tree n -/
def PageAt (C : Addr) (M : Ms) (H : Hp) (v : V) (n : Nd) (r : V) : Prop := ∃ (a dx : Addr) (dn : Addr) (on : Obj) (pv : V) (us : List V), v = .ref a ∧ ¬ M a ∧ H a = some (.ins C dx [(sRoot, r), (sNodes, .ref dn), (sParents, pv)]) ∧ Rp M H r n.enc ∧ ¬ M dn ∧ H dn = some (.frz on (.dK (kvS (n.marks.zip us)))) ∧ RpAll M H us (n.subs.map Nd.enc)
theorem PageAt.sx {C : Addr} {M : Ms} {H H' : Hp} {v r : V} {n : Nd} (h : PageAt C M H v n r) (s : Sx M H H') : PageAt C M H' v n r := by
  obtain ⟨a, dx, dn, on, pv, us, rfl, na, ha, hr, nn, hn, hu⟩ := h
  exact ⟨a, dx, dn, on, pv, us, rfl, na, s _ _ na ha, hr.sx s, nn, s _ _ nn hn, hu.sx s⟩
def sp_page (C : Addr) : Sp := fun vs H Q _ => ∃ (a dx : Addr) (v : V) (n : Nd) (M : Ms), vs = [.ref a, v] ∧ H a = some (.ins C dx []) ∧ M a ∧ Rp M H v n.enc ∧ Mk M H ∧ goodT n ∧
  ∀ H' dn on pv us, Sx (one a) H H' → Gr H H' → H' a = some (.ins C dx [(sRoot, v), (sNodes, .ref dn), (sParents, pv)]) → ¬ M dn → H' dn = some (.frz on (.dK (kvS (n.marks.zip us)))) → RpAll M H' us (n.subs.map Nd.enc) → Q .non H'
theorem ok_page (T : Txt K mg) : FnOk P w K mg base CX0 62 T.f_Page___init__ T.d_Page___init__ ["self", "root"] (sp_page T.C_Page) := by
  have G_nodes_in := ok_nodes (P := P) (w := w) (base := base) T 60
  have G_first_twice := ok_twice (P := P) (w := w) (base := base) T
  refine T.F_Page___init__.ok sc_Page___init__ (fun vs H Q E h => ?_) (fun cdv A outer s H vs Q E hr h => ?_)
  · obtain ⟨_, _, _, _, _, rfl, _⟩ := h
    rfl
  · obtain ⟨a, dx, v, n, M, rfl, ha, ma, hR, hM, hg, q⟩ := h
    refine ⟨_, (pss_cons (ps_set (i := 2) sc_Page___init__.nd rfl (Or.inl rfl) (pe_call G_nodes_in (hr.mono (by omega)) (by rfl) T.g_nodes_in T.F_nodes_in.kp T.b_nodes_in .nil pass0 (pa_cons (pv 1) pa_nil)))
      (pss_cons (ps_set (i := 3) sc_Page___init__.nd rfl (Or.inl rfl) (pe_call G_first_twice (hr.mono (by omega)) (by rfl) T.g_first_twice T.F_first_twice.kp T.b_first_twice .nil pass0 (pa_cons (pe_lc (own := [("node", 4)]) (g := gName 4) (tt := tYes) (by rfl) sc_Page___init__.nd (pi_listK (K := K) rfl (pv 2)) (blkOk_by (own := [("node", 4)]) (N := ["self", "root", "nodes", "twice", "node", "child"]) (sc := defScope s_Page___init__) (by decide +kernel)) (fun _ _ _ _ _ => (pg_name (i := 4) sc_Page___init__.nd rfl (Or.inl rfl))) (fun _ _ _ _ _ => pts_nil) (fun _ _ _ _ _ => (pe_ix (ix_tupK (K := K) rfl) (pv 4) pe_int (fun _ _ => rfl)))) (pa_cons (pe_lst pa_nil) pa_nil))))
      (pss_cons (ps_if (pt_cmpR op_notN (pv 3) pe_non (nomark _)) (pss_one ps_never) pss_nil)
      (pss_cons (ps_if (pt_cmpR op_gt (pe_callB (call_lenK (K := K) rfl) (by rfl) T.m_len PySem.boot_len (pa_cons (pv 2) pa_nil)) (pe_glob (v := .int 400) rfl T.c_MOST_NODES ⟨_, rfl⟩) (nomark _)) (pss_one ps_never) pss_nil)
      (pss_cons (ps_fld (pv 0) (pv 1) rfl)
      (pss_cons (ps_fld (pv 0) (pe_frz (pe_dc (own := [("node", 4)]) (g := gName 4) (tt := tYes) (by rfl) sc_Page___init__.nd (pi_listK (K := K) rfl (pv 2)) (blkOk_by (own := [("node", 4)]) (N := ["self", "root", "nodes", "twice", "node", "child"]) (sc := defScope s_Page___init__) (by decide +kernel)) (fun _ _ _ _ _ => (pg_name (i := 4) sc_Page___init__.nd rfl (Or.inl rfl))) (fun _ _ _ _ _ => pts_nil) (fun _ _ _ _ _ => (pe_ix (ix_tupK (K := K) rfl) (pv 4) pe_int (fun _ _ => rfl))) (fun _ _ _ _ _ => (pv 4)))) rfl)
      (pss_one (ps_fld (pv 0) (pe_frz (pe_dc2 (own := [("node", 4), ("child", 5)]) (vb := [5]) (ga := gName 4) (gb := gName 5) (qa := tYes) (qb := tYes) (by rfl) sc_Page___init__.nd (pi_listK (K := K) rfl (pv 2)) (blkOk_by (own := [("node", 4), ("child", 5)]) (N := ["self", "root", "nodes", "twice", "node", "child"]) (sc := defScope s_Page___init__) (by decide +kernel)) (by decide) (fun _ _ _ _ _ => (pg_name (i := 4) sc_Page___init__.nd rfl (Or.inl rfl))) (fun _ _ _ _ _ => pts_nil) (fun _ _ _ _ _ => (pi_tupK (K := K) rfl (pe_ix (ix_tupK (K := K) rfl) (pv 4) pe_int (fun _ _ => rfl)))) (fun _ _ _ _ _ => (pg_name (i := 5) sc_Page___init__.nd rfl (Or.inl rfl))) (fun _ _ _ _ _ => pts_nil) (fun _ _ _ _ _ => (pe_ix (ix_tupK (K := K) rfl) (pv 5) pe_int (fun _ _ => rfl))) (fun _ _ _ _ _ => (pe_ix (ix_tupK (K := K) rfl) (pv 4) pe_int (fun _ _ => rfl))))) rfl)))))))), ?_⟩
    walk_at "g"
    refine ⟨v, n, M, rfl, hR, hM, hg.dep, hg.len, fun H1 p us s1 hp ep ru => ?_⟩
    have lu := ru.length
    rw [List.length_map] at lu
    have hgl := hg.len
    walk_at "g"
    refine ⟨⟨_, SqL.of ep⟩, fun D hD => ?_⟩
    refine list_loop (K := K) (a := p) (xs := us) (fun j H' => Same H1 H' ∧ H' D = some (.lst ((n.marks.take j).map V.str))) ⟨same_new hD, upd_same⟩ (fun j H' _ z => SqL.of (z.1 _ _ ep)) (fun j x H' hx z => ?_) (fun H2 z => ?_)
    · obtain ⟨s2, eD⟩ := z
      obtain ⟨d, hd, rx⟩ := ru.get hx
      rw [List.getElem?_map] at hd
      obtain ⟨k, hk, rfl⟩ := Option.map_eq_some_iff.mp hd
      have rx := rx.sx (Sx.same s2)
      rw [Nd.enc_eq] at rx
      obtain ⟨t, ts, rfl, nt, ht, rt⟩ := Rp.tupN rx
      obtain ⟨x1, x2, x3, rfl, q1, q2, q3⟩ := rt.inv3
      cases q1
      refine ⟨rfl, ?_⟩
      walk_at "g"
      refine ⟨_, eD, small1000 (by rw [List.length_map, List.length_take]; unfold Nd.marks; rw [List.length_map]; omega), same_put s2 hD, ?_⟩
      rw [upd_same, List.take_add_one, show n.marks[j]? = some k.mark by unfold Nd.marks; rw [List.getElem?_map, hk]; rfl, List.map_append]
      rfl
    · obtain ⟨s2, eD⟩ := z
      rw [List.take_of_length_le (by unfold Nd.marks; rw [List.length_map]; omega)] at eD
      walk_at "g"
      refine ⟨szK rfl, fun e he => ?_⟩
      refine ⟨D, e, n.marks, rfl, SqL.of (same_new he _ _ eD), SqL.of upd_same, hg.nd, by unfold Nd.marks; rw [List.length_map]; omega, fun H3 s3 => ?_⟩
      have t3 : Same H1 H3 := s2.trans ((same_new he).trans s3)
      have ep3 := t3 _ _ ep
      have ru3 := ru.sx (Sx.same t3)
      have s13 : Same H H3 := s1.trans t3
      have ha3 := s13 _ _ ha
      walk_at "g"
      rw [decide_eq_false (show ¬ (400 : Int) < (us.length : Int) by omega)]
      walk_at "g"
      refine ⟨a, _, dx, [], rfl, ha3, T.cl_Page, T.nA_Page__root, by decide, ?_⟩
      have hM3 : Mk M H3 := hM.gr (Gr.same s13)
      have ap : a ≠ p := fun z => by rw [z, hp] at ha; cases ha
      have sa : ∀ {J : Hp} {o : HO}, Sx (one a) J (upd J a o) := Sx.put rfl
      have le : ∀ c, one a c → M c := fun c z => by rw [show c = a from z]; exact ma
      have s4 : Sx (one a) H (upd H3 a (.ins T.C_Page dx [(sRoot, v)])) := (Sx.same s13).trans sa
      have g4 : Gr H (upd H3 a (.ins T.C_Page dx [(sRoot, v)])) := (Gr.same s13).trans Gr.upd
      have ea4 : upd H3 a (.ins T.C_Page dx [(sRoot, v)]) a = some (.ins T.C_Page dx [(sRoot, v)]) := upd_same
      have ep4 : upd H3 a (.ins T.C_Page dx [(sRoot, v)]) p = some (.lst us) := by rw [upd_ne (Ne.symm ap)]; exact ep3
      have ru4 := ru3.sx ((sa (J := H3) (o := .ins T.C_Page dx [(sRoot, v)])).le le)
      have hM4 := hM3.gr (Gr.upd (p := a) (o := .ins T.C_Page dx [(sRoot, v)]))
      show tSeq _ _ _ _ (upd H3 a (.ins T.C_Page dx [(sRoot, v)]))
      generalize upd H3 a (.ins T.C_Page dx [(sRoot, v)]) = H4 at s4 g4 ea4 ep4 ru4 hM4
      walk_at "g"
      refine ⟨⟨_, SqL.of ep4⟩, fun D4 hD4 => ?_⟩
      have lmk : n.marks.length = us.length := by unfold Nd.marks; rw [List.length_map]; omega
      have Da : D4 ≠ a := fun z => by rw [z, ea4] at hD4; cases hD4
      have Dp : D4 ≠ p := fun z => by rw [z, ep4] at hD4; cases hD4
      refine list_loop (K := K) (a := p) (xs := us) (fun j H' => Same H4 H' ∧ H' D4 = some (.dK (kvS ((n.marks.zip us).take j)))) ⟨same_new hD4, upd_same⟩ (fun j H' _ z => SqL.of (z.1 _ _ ep4)) (fun j x H' hx z => ?_) (fun H5 z => ?_)
      · obtain ⟨s5, eD⟩ := z
        obtain ⟨d, hd, rx⟩ := ru4.get hx
        rw [List.getElem?_map] at hd
        obtain ⟨k, hk, rfl⟩ := Option.map_eq_some_iff.mp hd
        have rx := rx.sx (Sx.same s5)
        rw [Nd.enc_eq] at rx
        obtain ⟨t, ts, rfl, nt, ht, rt⟩ := Rp.tupN rx
        obtain ⟨x1, x2, x3, rfl, q1, q2, q3⟩ := rt.inv3
        cases q1
        have hmk : n.marks[j]? = some k.mark := by unfold Nd.marks; rw [List.getElem?_map, hk]; rfl
        have hz : (n.marks.zip us)[j]? = some (k.mark, .ref t) := by rw [List.getElem?_zip_eq_some]; exact ⟨hmk, hx⟩
        refine ⟨rfl, ?_⟩
        walk_at "g"
        refine ⟨_, .inr k.mark, rfl, eD, ?_, ?_⟩
        · rw [kvS_len, List.length_take]
          exact small1000 (by rw [List.length_zip]; omega)
        · refine ⟨same_put s5 hD4, ?_⟩
          rw [upd_same, putK_new, List.take_add_one, hz]
          · rfl
          · rw [List.map_take, zip_fst _ _ lmk]
            exact nd_take hg.nd hmk
      obtain ⟨s5, eD⟩ := z
      rw [List.take_of_length_le (by rw [List.length_zip]; omega)] at eD
      refine ⟨D4, _, rfl, eD, trivial, fun od => ?_⟩
      have ea5 : upd H5 D4 (.frz od (.dK (kvS (n.marks.zip us)))) a = some (.ins T.C_Page dx [(sRoot, v)]) := by rw [upd_ne (Ne.symm Da)]; exact s5 _ _ ea4
      have s6 : Same H4 (upd H5 D4 (.frz od (.dK (kvS (n.marks.zip us))))) := same_put s5 hD4
      have eD6 : upd H5 D4 (.frz od (.dK (kvS (n.marks.zip us)))) D4 = some (.frz od (.dK (kvS (n.marks.zip us)))) := upd_same
      have nD : ¬ M D4 := hM4.out hD4
      walk_at "g"
      refine ⟨a, _, dx, _, rfl, ea5, T.cl_Page, T.nA_Page__nodes, (by show 1 < 1000; decide), ?_⟩
      rw [pf_nodes]
      have s7 : Sx (one a) H (upd (upd H5 D4 (.frz od (.dK (kvS (n.marks.zip us))))) a (.ins T.C_Page dx [(sRoot, v), (sNodes, .ref D4)])) := s4.trans ((Sx.same s6).trans sa)
      have g7 : Gr H (upd (upd H5 D4 (.frz od (.dK (kvS (n.marks.zip us))))) a (.ins T.C_Page dx [(sRoot, v), (sNodes, .ref D4)])) := g4.trans ((Gr.same s6).trans Gr.upd)
      have ea7 : upd (upd H5 D4 (.frz od (.dK (kvS (n.marks.zip us))))) a (.ins T.C_Page dx [(sRoot, v), (sNodes, .ref D4)]) a = some (.ins T.C_Page dx [(sRoot, v), (sNodes, .ref D4)]) := upd_same
      have eD7 : upd (upd H5 D4 (.frz od (.dK (kvS (n.marks.zip us))))) a (.ins T.C_Page dx [(sRoot, v), (sNodes, .ref D4)]) D4 = some (.frz od (.dK (kvS (n.marks.zip us)))) := by rw [upd_ne Da]; exact eD6
      have ep7 : upd (upd H5 D4 (.frz od (.dK (kvS (n.marks.zip us))))) a (.ins T.C_Page dx [(sRoot, v), (sNodes, .ref D4)]) p = some (.lst us) := by rw [upd_ne (Ne.symm ap)]; exact s6 _ _ ep4
      have ru7 := ru4.sx ((Sx.same s6).trans ((sa (J := upd H5 D4 (.frz od (.dK (kvS (n.marks.zip us))))) (o := .ins T.C_Page dx [(sRoot, v), (sNodes, .ref D4)])).le le))
      generalize upd (upd H5 D4 (.frz od (.dK (kvS (n.marks.zip us))))) a (.ins T.C_Page dx [(sRoot, v), (sNodes, .ref D4)]) = H7 at s7 g7 ea7 eD7 ep7 ru7
      walk_at "g"
      refine ⟨⟨_, SqL.of ep7⟩, fun D8 hD8 => ?_⟩
      have D8a : D8 ≠ a := fun z => by rw [z, ea7] at hD8; cases hD8
      refine list_loop (K := K) (a := p) (xs := us) (fun j H' => Same H7 H' ∧ ∃ kvs, H' D8 = some (.dK kvs) ∧ kvs.length ≤ j * 400) ⟨same_new hD8, [], upd_same, Nat.zero_le _⟩ (fun j H' _ z => SqL.of (z.1 _ _ ep7)) (fun j x H' hx z => ?_) (fun H9 z => ?_)
      · obtain ⟨s8, kvs, eD, lk⟩ := z
        have hj := (List.getElem?_eq_some_iff.mp hx).1
        obtain ⟨d, hd, rx⟩ := ru7.get hx
        rw [List.getElem?_map] at hd
        obtain ⟨k, hk, rfl⟩ := Option.map_eq_some_iff.mp hd
        have kl := sub_len_le n k (List.mem_of_getElem? hk)
        have kl2 := kids_len k
        rw [Nd.enc_eq] at rx
        obtain ⟨t, ts, rfl, nt, ht, rt⟩ := Rp.tupN rx
        obtain ⟨x1, x2, x3, rfl, q1, q2, q3⟩ := rt.inv3
        cases q1
        obtain ⟨c, cs, rfl, nc, hc, rc⟩ := Rp.tupN q3
        have lc := rc.length
        rw [List.length_map] at lc
        have hc8 := same_rd s8 hc
        have ht8 := same_rd s8 ht
        refine ⟨rfl, ?_⟩
        walk_at "g"
        refine ⟨⟨_, .inl hc8⟩, ?_⟩
        refine tup_loop (K := K) (a := c) (xs := cs) (fun i H' => Same H7 H' ∧ ∃ kvs, H' D8 = some (.dK kvs) ∧ kvs.length ≤ j * 400 + i) ⟨s8, kvs, eD, by omega⟩ (fun i H' _ z => same_sqt z.1 (.inl hc)) (fun i x H6 hx z => ?_) (fun H6 z => ?_)
        · obtain ⟨s9, kv2, eD9, lk9⟩ := z
          obtain ⟨d, hd, rx⟩ := rc.get hx
          rw [List.getElem?_map] at hd
          obtain ⟨k2, hk2, rfl⟩ := Option.map_eq_some_iff.mp hd
          have hi := (List.getElem?_eq_some_iff.mp hx).1
          rw [Nd.enc_eq] at rx
          obtain ⟨t2, ts2, rfl, nt2, ht2, rt2⟩ := Rp.tupN rx
          obtain ⟨z1, z2, z3, rfl, w1, w2, w3⟩ := rt2.inv3
          cases w1
          have ht9 := same_rd s9 ht
          have ht29 := same_rd s9 ht2
          refine ⟨rfl, ?_⟩
          walk_at "g"
          refine ⟨kv2, .inr k2.mark, rfl, eD9, small1000000 (by omega), same_put s9 hD8, _, upd_same, ?_⟩
          have := length_putK kv2 (Sum.inr k2.mark) (V.str k.mark)
          omega
        · obtain ⟨s9, kv2, eD9, lk9⟩ := z
          exact ⟨s9, kv2, eD9, by rw [Nat.succ_mul]; omega⟩
      obtain ⟨s8, kvs, eD, lk⟩ := z
      refine ⟨D8, _, rfl, eD, trivial, fun od2 => ?_⟩
      have s9 : Same H7 (upd H9 D8 (.frz od2 (.dK kvs))) := same_put s8 hD8
      walk_at "g"
      refine ⟨a, _, dx, _, rfl, s9 _ _ ea7, T.cl_Page, T.nA_Page__parents, (by show 2 < 1000; decide), ?_⟩
      rw [pf_parents]
      have s10 : Sx (one a) H (upd (upd H9 D8 (.frz od2 (.dK kvs))) a (.ins T.C_Page dx [(sRoot, v), (sNodes, .ref D4), (sParents, .ref D8)])) := s7.trans ((Sx.same s9).trans sa)
      refine q _ _ od _ us s10 (g7.trans ((Gr.same s9).trans Gr.upd)) upd_same nD ?_ (ru7.sx ((Sx.same s9).trans (sa.le le)))
      rw [upd_ne Da]
      exact s9 _ _ eD7
end
end D

namespace D
open PySem PySem.Spec PyProof.Rows L2
local macro_rules | `(tactic| walk_at "st") => `(tactic| first | exact SqT.of (by assumption) | exact Or.inl (by assumption) | exact SqT.of upd_same | fail "st")
local macro_rules | `(tactic| walk_at "ixt") => `(tactic| refine ⟨_, _, _, _, rfl, rfl, (by walk_at "st" : SqT _ _ _ _), by rfl, ?_⟩)
local macro_rules | `(tactic| walk_at "sq") => `(tactic| first | exact SqL.of (by assumption) | assumption | exact Or.inl (by assumption) | exact SqL.of upd_same | fail "sq")
local macro_rules | `(tactic| walk_at "ix") => `(tactic| refine ⟨_, _, _, _, rfl, rfl, (by walk_at "sq" : SqL _ _ _ _), by rfl, ?_⟩)
local macro_rules | `(tactic| walk_at "set") => `(tactic| refine ⟨_, _, _, _, rfl, rfl, by first | assumption | exact upd_same, by rfl, ?_⟩)
local macro_rules | `(tactic| walk_at "len") => `(tactic| refine ⟨_, _, rfl, Or.inl (by walk_at "sq" : SqL _ _ _ _), ?_⟩)
local macro_rules | `(tactic| walk_at "g") => `(tactic| repeat (first | refine ⟨_, rfl, ?_⟩ | refine ⟨_, _, rfl, rfl, ?_⟩ | refine ⟨Or.inr (by decide), ?_⟩ | refine ⟨Or.inl (by decide), ?_⟩ | refine ⟨(by decide : (0 : Int) < _), ?_⟩ | refine ⟨(⟨by decide, by decide⟩ : CDiv _ _), ?_⟩ | refine ⟨(⟨by decide, by decide, by decide⟩ : CPow _ _), ?_⟩ | refine Or.inl ⟨_, rfl, ?_⟩ | refine ⟨rfl, ?_⟩ | walk_at "ix" | walk_at "ixt" | walk_at "len" | fail "g"))
local macro_rules | `(tactic| walk_at "if") => `(tactic| refine ite2 (fun e => ?_) (fun e => ?_))
section
variable {P : Program} {w : World} {K : PySem.W.Frag} {mg : Str → Option Value} {base : Heap}
def sRule : Str := Str.ofString "rule"
def sPage : Str := Str.ofString "_page"
def sMarks : Str := Str.ofString "_marks"
def sAt : Str := Str.ofString "_at"
def sBut : Str := Str.ofString "button "
def isB (l : Str) : Bool := Txt.startswith l sBut
theorem isB_cut (l : Str) : decide (V.str (cutS l none (some 7)) = V.str sBut) = isB l := by
  have hl : sBut.length = 7 := by decide +kernel
  have h7 : sBut.cps.toList.length = 7 := hl
  have e1 : (cutS l none (some 7)).cps.toList = l.cps.toList.take 7 := by
    unfold cutS
    have a : HT.sIx l.length 0 none = 0 := rfl
    have b : HT.sIx l.length l.length (some 7) = min 7 l.length := by
      unfold HT.sIx
      simp
    rw [a, b]
    show (List.take (min 7 l.length - 0) (List.drop 0 l.cps.toList)) = _
    rw [List.drop_zero, Nat.sub_zero]
    have : l.length = l.cps.toList.length := Array.length_toList.symm
    rw [this, ← List.take_eq_take_min]
  have e2 : isB l = (decide (7 ≤ l.length) && (l.cps.toList.take 7 == sBut.cps.toList)) := by
    show (decide (0 + sBut.length ≤ l.length) && Builtin.Str.subAt l sBut 0) = _
    rw [PySem.StrLaws.subAt_eq, hl, List.drop_zero, Nat.zero_add]
  rw [e2]
  by_cases c : l.cps.toList.take 7 = sBut.cps.toList
  · have c2 : 7 ≤ l.length := by
      have := congrArg List.length c
      rw [List.length_take, h7] at this
      have : l.length = l.cps.toList.length := Array.length_toList.symm
      omega
    rw [decide_eq_true c2, c]
    rw [show decide (V.str (cutS l none (some 7)) = V.str sBut) = true from decide_eq_true (by congr 1; exact sg_ext (e1.trans c))]
    simp
  · rw [show (l.cps.toList.take 7 == sBut.cps.toList) = false from by simpa using c, Bool.and_false]
    refine decide_eq_false fun z => c ?_
    rw [← e1]
    exact congrArg (fun x : Str => x.cps.toList) (V.str.inj z)
/-- the marks of the buttons -/
def btns (n : Nd) : List Str := (n.subs.filter fun x => isB x.label).map Nd.mark
theorem btns_nd {n : Nd} (h : n.marks.Nodup) : (btns n).Nodup := h.sublist (List.filter_sublist.map _)
theorem btns_len (n : Nd) : (btns n).length ≤ n.subs.length := by
  unfold btns
  rw [List.length_map]
  exact List.length_filter_le _ _
theorem btns_mem {n : Nd} {m : Str} (h : m ∈ btns n) : m ∈ n.marks := by
  obtain ⟨x, hx, rfl⟩ := List.mem_map.mp h
  exact List.mem_map.mpr ⟨x, (List.mem_filter.mp hx).1, rfl⟩
def sp_top (C : Addr) : Sp := fun vs H Q _ => ∃ (v r : V) (n : Nd) (M : Ms), vs = [v] ∧ PageAt C M H v n r ∧ Q r H
theorem ok_top (T : Txt K mg) : FnOk P w K mg base CX0 1 T.f_Page_top T.d_Page_top ["self"] (sp_top T.C_Page) := by
  refine T.F_Page_top.ok sc_Page_top (fun vs H Q E h => ?_) (fun cdv A outer s H vs Q E hr h => ?_)
  · obtain ⟨_, _, _, _, rfl, _⟩ := h
    rfl
  · obtain ⟨v, r, n, M, rfl, hP, q⟩ := h
    obtain ⟨a, dx, dn, on, gv, us, rfl, na, ha, hr', nn, hn, hu⟩ := hP
    refine ⟨_, (pss_one (ps_ret (pe_fldK (K := K) rfl (pv 0) rfl))), ?_⟩
    walk_at "g"
    exact ⟨a, _, dx, _, r, rfl, ha, T.cl_Page, T.nA_Page__root, rfl, q⟩
theorem PageAt.root {C : Addr} {M : Ms} {H : Hp} {v r : V} {n : Nd} (h : PageAt C M H v n r) : Rp M H r n.enc := by
  obtain ⟨a, dx, dn, on, gv, us, rfl, na, ha, hr, nn, hn, hu⟩ := h
  exact hr
theorem PageAt.ins {C : Addr} {M : Ms} {H : Hp} {v r : V} {n : Nd} (h : PageAt C M H v n r) : ∃ a dx fs, v = .ref a ∧ H a = some (.ins C dx fs) := by
  obtain ⟨a, dx, dn, on, gv, us, rfl, na, ha, hr, nn, hn, hu⟩ := h
  exact ⟨a, dx, _, rfl, ha⟩
theorem lk_nodes (x y z : V) : ([(sRoot, x), (sNodes, y), (sParents, z)] : List (Str × V)).lookup (Str.ofString "_nodes") = some y := by
  rw [List.lookup_cons, List.lookup_cons]
  rw [show (Str.ofString "_nodes" == sRoot) = false by decide +kernel, show (Str.ofString "_nodes" == sNodes) = true by decide +kernel]
theorem zip_val {ms : List Str} {ws : List V} {j : Nat} {m : Str} {u : V} (nd : ms.Nodup) (hl : ms.length = ws.length) (hm : ms[j]? = some m) (hu : ws[j]? = some u) : valV (kvS (ms.zip ws)) (.inr m) = some u :=
  valS_of (i := j) (by rw [zip_fst _ _ hl]; exact nd) (by rw [List.getElem?_zip_eq_some]; exact ⟨hm, hu⟩)
def sp_pat (C : Addr) : Sp := fun vs H Q _ => ∃ (v r : V) (n k : Nd) (j : Nat) (M : Ms), vs = [v, .str k.mark] ∧ PageAt C M H v n r ∧ n.marks.Nodup ∧ n.subs[j]? = some k ∧ ∀ u, Rp M H u k.enc → Q u H
theorem ok_pat (T : Txt K mg) : FnOk P w K mg base CX0 1 T.f_Page___getitem__ T.d_Page___getitem__ ["self", "mark"] (sp_pat T.C_Page) := by
  refine T.F_Page___getitem__.ok sc_Page___getitem__ (fun vs H Q E h => ?_) (fun cdv A outer s H vs Q E hr h => ?_)
  · obtain ⟨_, _, _, _, _, _, rfl, _⟩ := h
    rfl
  · obtain ⟨v, r, n, k, j, M, rfl, hP, hnd, hk, q⟩ := h
    obtain ⟨a, dx, dn, on, gv, us, rfl, na, ha, hr', nn, hn, hu⟩ := hP
    have lu := hu.length
    rw [List.length_map] at lu
    have lmk : n.marks.length = n.subs.length := by unfold Nd.marks; rw [List.length_map]
    obtain ⟨u0, hu0, ru0⟩ := hu.getD (show (n.subs.map Nd.enc)[j]? = some k.enc by rw [List.getElem?_map, hk]; rfl)
    have hval : valV (kvS (n.marks.zip us)) (.inr k.mark) = some u0 := zip_val hnd (by omega) (by unfold Nd.marks; rw [List.getElem?_map, hk]; rfl) hu0
    have hg : DGet H dn (.str k.mark) (some u0) := .inl ⟨_, .inr k.mark, .inr ⟨on, hn⟩, rfl, hval.symm⟩
    refine ⟨_, (pss_cons (ps_if (pt_cmp (pc_dnotin (hu_of hr) (pv 1) (pe_fldK (K := K) rfl (pv 0) rfl))) (pss_one ps_never) pss_nil)
      (pss_one (ps_ret (pe_dget (hu_of hr) (pe_fldK (K := K) rfl (pv 0) rfl) (pv 1) (fun _ _ => rfl))))), ?_⟩
    walk_at "g"
    refine ⟨a, _, dx, _, _, rfl, ha, T.cl_Page, T.nA_Page__nodes, lk_nodes _ _ _, ?_⟩
    refine ⟨dn, _, rfl, hg, ?_⟩
    walk_at "g"
    refine ⟨a, _, dx, _, _, rfl, ha, T.cl_Page, T.nA_Page__nodes, lk_nodes _ _ _, ?_⟩
    walk_at "g"
    exact ⟨dn, _, rfl, hg, q u0 ru0⟩
def sp_iterP (CP : Addr) (m : Nat) : Sp := fun vs H Q _ => ∃ (a : Addr) (r : V) (n : Nd) (dn : Addr) (on : Obj) (us : List V) (dx : Addr) (pv : V), vs = [.ref a] ∧ H a = some (.ins CP dx [(sRoot, r), (sNodes, .ref dn), (sParents, pv)]) ∧ H dn = some (.frz on (.dK (kvS (n.marks.zip us)))) ∧ ∀ it, H it = none → m ≤ it → Q (.ref it) (upd H it (ItDk dn on (kvS (n.marks.zip us)).length 0 it))
theorem ok_iterP (T : Txt K mg) : FnW P w K mg base CX0 1 T.f_Page___iter__ T.d_Page___iter__ ["self"] (sp_iterP T.C_Page) := by
  refine Fun.okW T.F_Page___iter__ sc_Page___iter__ (fun n vs H Q E h => ?_) (fun m cdv A outer s H vs Q E hm hr h => ?_)
  · obtain ⟨_, _, _, _, _, _, _, _, rfl, _⟩ := h
    rfl
  · obtain ⟨a, r, n, dn, on, us, dx, gv, rfl, ha, hd, q⟩ := h
    refine ⟨_, (pss_one (ps_ret (pe_callB call_iterD (by rfl) T.m_iter (by decide +kernel) (pa_cons (pe_fldK (K := K) rfl (pv 0) rfl) pa_nil)))), ?_⟩
    walk_at "g"
    refine ⟨a, _, dx, _, _, rfl, ha, T.cl_Page, T.nA_Page__nodes, lk_nodes _ _ _, ?_⟩
    exact ⟨dn, on, _, rfl, hd, fun it hi hn => q it hi (Nat.le_trans hm hn)⟩
theorem dk_loop {d : Addr} {o : Obj} {kvs : List (Key × V)} {Qd : Hp → Prop} {H0 : Hp} {B : V → Hp → (Hp → Prop) → Prop} (Pv : Nat → Hp → Prop) (h0 : Pv 0 H0) (hl : ∀ i H, i ≤ kvs.length → Pv i H → H d = some (.frz o (.dK kvs))) (hs : ∀ i k v H, kvs[i]? = some (k, v) → Pv i H → B (kV k) H (Pv (i + 1))) (hd : ∀ H, Pv kvs.length H → Qd H) :
    ∃ W : Nat → Nat → Hp → Prop, (∃ m, W 0 m H0) ∧ ∀ i m H, W i m H → ((Itk d o kvs).stop i H ∧ Qd H) ∨ ((Itk d o kvs).go i H ∧ ∃ Nx : Hp → Prop, (∀ H', Nx H' → ∃ m', m' < m ∧ W (i + 1) m' H') ∧ ∀ x H', (Itk d o kvs).yld i H x H' → B x H' Nx) := by
  refine ⟨fun i m H => m = kvs.length - i ∧ i ≤ kvs.length ∧ Pv i H, ⟨_, rfl, Nat.zero_le _, h0⟩, ?_⟩
  rintro i m H ⟨rfl, hi, p⟩
  have q := hl i H hi p
  by_cases hlt : i < kvs.length
  · refine .inr ⟨⟨q, hlt⟩, Pv (i + 1), fun H' p' => ⟨kvs.length - (i + 1), by omega, rfl, hlt, p'⟩, fun x H' y => ?_⟩
    obtain ⟨e, k, v, ek, ex⟩ := y
    subst e ex
    exact hs i k v _ ek p
  · have e : i = kvs.length := by omega
    subst e
    exact .inl ⟨⟨q, Nat.le_refl _⟩, hd H p⟩
theorem drop_upd {H : Hp} {it : Addr} {o : HO} (h : H it = none) : ItX.dropH (upd H it o) it = H := by
  funext b
  by_cases e : b = it
  · rw [e, ItX.dropH_same, h]
  · rw [ItX.dropH_ne e, upd_ne e]
/-- a tuple, known to its object -/
def TupF (H : Hp) (t : Addr) (xs : List V) : Prop := ∃ o : Obj, H t = some (.frz o (.tup xs)) ∧ o.cls = .type "tuple" ∧ o.dict = none
theorem TupF.rd {H : Hp} {t : Addr} {xs : List V} (h : TupF H t xs) : Rd H t (.tup xs) := by
  obtain ⟨o, e, _⟩ := h
  exact .inr ⟨o, e⟩
theorem TupF.sq {K : PySem.W.Frag} {H : Hp} {t : Addr} {xs : List V} (h : TupF H t xs) : SqT K H t xs := .inl h.rd
theorem TupF.ty {H : Hp} {t : Addr} {xs : List V} (h : TupF H t xs) : tyTup (.ref t) H := by
  obtain ⟨o, e, h1, h2⟩ := h
  exact ⟨t, o, _, rfl, e, h1, h2⟩
theorem TupF.sx {M : Ms} {H H' : Hp} {t : Addr} {xs : List V} (h : TupF H t xs) (s : Sx M H H') (n : ¬ M t) : TupF H' t xs := by
  obtain ⟨o, e, h1, h2⟩ := h
  exact ⟨o, s _ _ n e, h1, h2⟩
theorem TupF.same {H H' : Hp} {t : Addr} {xs : List V} (h : TupF H t xs) (s : Same H H') : TupF H' t xs := by
  obtain ⟨o, e, h1, h2⟩ := h
  exact ⟨o, s _ _ e, h1, h2⟩
def sp_btn (C : Addr) : Sp := fun vs H Q _ => ∃ (v r : V) (n : Nd) (M : Ms), vs = [v] ∧ PageAt C M H v n r ∧ goodT n ∧ ∀ H' t, Same H H' → H t = none → TupF H' t ((btns n).map V.str) → Q (.ref t) H'
theorem ok_btn (T : Txt K mg) : FnOk P w K mg base CX0 4 T.f_buttons T.d_buttons ["page"] (sp_btn T.C_Page) := by
  have G_Page___getitem__ := ok_pat (P := P) (w := w) (base := base) T
  have W_Page___iter__ := ok_iterP (P := P) (w := w) (base := base) T
  refine T.F_buttons.ok sc_buttons (fun vs H Q E h => ?_) (fun cdv A outer s H vs Q E hr h => ?_)
  · obtain ⟨_, _, _, _, rfl, _⟩ := h
    rfl
  · obtain ⟨v, r, n, M, rfl, hP, hg, q⟩ := h
    obtain ⟨a, dx, dn, on, gv, us, rfl, na, ha, hr', nn, hn, hu⟩ := id hP
    have lu := hu.length
    rw [List.length_map] at lu
    have lmk : n.marks.length = n.subs.length := by unfold Nd.marks; rw [List.length_map]
    have hlen := hg.len
    refine ⟨_, (pss_one (ps_ret (pe_callTy (call_tupleF (K := K) rfl) (by rfl) T.m_tuple (by decide +kernel) (pa_cons (pe_lc (own := [("mark", 1)]) (g := gName 1)  (by rfl) sc_buttons.nd (pi_ownD T.li_Page W_Page___iter__ T.b_Page___iter__ (hr.mono (by omega)) pass0 (pv 0)) (blkOk_by (own := [("mark", 1)]) (N := ["page", "mark"]) (sc := defScope s_buttons) (by decide +kernel)) (fun _ _ _ _ _ => (pg_name (i := 1) sc_buttons.nd rfl (Or.inl rfl))) (fun _ _ _ _ _ => (pts_one (pt_val (pe_m1 PySem.F.slot_str_startswith PySem.F.type_str_startswith mt_startswith (pe_ix (ix_tupK (K := K) rfl) (pe_ownIx (pv 0) (pv 1) T.a_Page___getitem__ T.n_Page___getitem__ T.i_Page___getitem__ G_Page___getitem__ T.b_Page___getitem__ (hr.mono (by omega)) pass0 (fun _ _ => by with_unfolding_all rfl)) pe_int (fun _ _ => rfl)) pe_str)))) (fun _ _ _ _ _ => (pv 1))) pa_nil)))), ?_⟩
    walk_at "g"
    refine ⟨a, dx, _, rfl, ha, fun m => ⟨a, r, n, dn, on, us, dx, gv, rfl, ha, hn, fun it hit hm => ⟨it, dn, on, _, rfl, upd_same, hm, fun D hD => ?_⟩⟩⟩
    rw [drop_upd hit] at hD ⊢
    refine dk_loop (fun j H' => Same H H' ∧ H' D = some (.lst ((((n.subs.take j).filter fun x => isB x.label).map Nd.mark).map V.str))) ⟨same_new hD, upd_same⟩ (fun j H' _ z => z.1 _ _ hn) (fun j k v H5 hx5 z => ?_) (fun H5 z => ?_)
    · obtain ⟨s5, eD⟩ := z
      unfold kvS at hx5
      rw [List.getElem?_map] at hx5
      obtain ⟨⟨m6, w6⟩, hz6, e6⟩ := Option.map_eq_some_iff.mp hx5
      cases e6
      have hm6 := (List.getElem?_zip_eq_some.mp hz6).1
      unfold Nd.marks at hm6
      rw [List.getElem?_map] at hm6
      obtain ⟨k6, hk6, rfl⟩ := Option.map_eq_some_iff.mp hm6
      have hj := (List.getElem?_eq_some_iff.mp hk6).1
      have hP5 := hP.sx (Sx.same s5)
      show gName 1 (V.str k6.mark) _ _ _
      walk_at "g"
      refine ⟨a, dx, _, rfl, s5 _ _ ha, .ref a, r, n, k6, j, M, rfl, hP5, hg.nd, hk6, fun u hu6 => ?_⟩
      rw [Nd.enc_eq] at hu6
      obtain ⟨t, ts, rfl, nt, ht, rt⟩ := Rp.tupN hu6
      obtain ⟨y1, y2, y3, rfl, q1, q2, q3⟩ := rt.inv3
      cases q1; cases q2
      walk_at "g"
      refine ⟨⟨_, rfl⟩, ?_⟩
      walk_at "g"
      show if isB k6.label = true then _ else _
      by_cases hc : isB k6.label = true
      · rw [if_pos hc]
        refine ⟨_, rfl, _, eD, ?_, same_put s5 hD, ?_⟩
        · rw [List.length_map, List.length_map]
          have := List.length_filter_le (fun x : Nd => isB x.label) (n.subs.take j)
          rw [List.length_take] at this
          exact small1000 (by omega)
        · rw [upd_same, List.take_add_one, hk6, Option.toList_some, List.filter_append, List.filter_cons_of_pos (by simpa using hc), List.filter_nil, List.map_append, List.map_append]
          rfl
      · rw [if_neg hc]
        refine ⟨s5, ?_⟩
        rw [List.take_add_one, hk6, Option.toList_some, List.filter_append, List.filter_cons_of_neg (by simpa using hc), List.filter_nil, List.append_nil]
        exact eD
    · obtain ⟨s5, eD⟩ := z
      rw [show (kvS (n.marks.zip us)).length = n.marks.length by rw [kvS_len, List.length_zip]; omega, lmk, List.take_length] at eD
      refine ⟨D, _, rfl, .inl (.inl eD), fun t ot ht h1 h2 => ?_⟩
      exact q _ t (s5.trans (same_new ht)) (by cases e : H t with | none => rfl | some o => rw [s5 _ _ e] at ht; cases ht) ⟨ot, upd_same, h1, h2⟩
end
end D

namespace D
open PySem PySem.Spec PyProof.Rows L2
local macro_rules | `(tactic| walk_at "st") => `(tactic| first | exact SqT.of (by assumption) | exact Or.inl (by assumption) | exact SqT.of upd_same | fail "st")
local macro_rules | `(tactic| walk_at "ixt") => `(tactic| refine ⟨_, _, _, _, rfl, rfl, (by walk_at "st" : SqT _ _ _ _), by rfl, ?_⟩)
local macro_rules | `(tactic| walk_at "sq") => `(tactic| first | exact SqL.of (by assumption) | assumption | exact Or.inl (by assumption) | exact SqL.of upd_same | fail "sq")
local macro_rules | `(tactic| walk_at "ix") => `(tactic| refine ⟨_, _, _, _, rfl, rfl, (by walk_at "sq" : SqL _ _ _ _), by rfl, ?_⟩)
local macro_rules | `(tactic| walk_at "set") => `(tactic| refine ⟨_, _, _, _, rfl, rfl, by first | assumption | exact upd_same, by rfl, ?_⟩)
local macro_rules | `(tactic| walk_at "len") => `(tactic| refine ⟨_, _, rfl, Or.inl (by walk_at "sq" : SqL _ _ _ _), ?_⟩)
local macro_rules | `(tactic| walk_at "g") => `(tactic| repeat (first | refine ⟨_, rfl, ?_⟩ | refine ⟨_, _, rfl, rfl, ?_⟩ | refine ⟨Or.inr (by decide), ?_⟩ | refine ⟨Or.inl (by decide), ?_⟩ | refine ⟨(by decide : (0 : Int) < _), ?_⟩ | refine ⟨(⟨by decide, by decide⟩ : CDiv _ _), ?_⟩ | refine ⟨(⟨by decide, by decide, by decide⟩ : CPow _ _), ?_⟩ | refine Or.inl ⟨_, rfl, ?_⟩ | refine ⟨rfl, ?_⟩ | walk_at "ix" | walk_at "ixt" | walk_at "len" | fail "g"))
local macro_rules | `(tactic| walk_at "if") => `(tactic| refine ite2 (fun e => ?_) (fun e => ?_))
section
variable {P : Program} {w : World} {K : PySem.W.Frag} {mg : Str → Option Value} {base : Heap}
def rules : List Str := [Str.ofString "none", Str.ofString "first", Str.ofString "near"]
structure TRul (K : PySem.W.Frag) (mg : Str → Option Value) where
  p : Addr
  t : mg "RULES" = some (.ref p)
  sq : ∀ H, SqT K H p (rules.map V.str)
/-- a focus -/
def foc (C dx : Addr) (ru : Str) (gv : V) (tm : Addr) (av : V) : HO := .ins C dx [(sRule, .str ru), (sPage, gv), (sMarks, .ref tm), (sAt, av)]
def atV : Option Str → V
  | none => .non
  | some m => .str m
theorem atV_inj {o p : Option Str} (h : atV o = atV p) : o = p := by
  cases o <;> cases p <;> first | rfl | (injection h with h; rw [h]) | cases h
theorem lkR (a b c d : V) : ([(sRule, a), (sPage, b), (sMarks, c), (sAt, d)] : List (Str × V)).lookup (Str.ofString "rule") = some a := by
  rw [List.lookup_cons]
  rw [show (Str.ofString "rule" == sRule) = true by decide +kernel]
theorem lkP (a b c d : V) : ([(sRule, a), (sPage, b), (sMarks, c), (sAt, d)] : List (Str × V)).lookup (Str.ofString "_page") = some b := by
  rw [List.lookup_cons, List.lookup_cons]
  rw [show (Str.ofString "_page" == sRule) = false by decide +kernel, show (Str.ofString "_page" == sPage) = true by decide +kernel]
theorem lkM (a b c d : V) : ([(sRule, a), (sPage, b), (sMarks, c), (sAt, d)] : List (Str × V)).lookup (Str.ofString "_marks") = some c := by
  rw [List.lookup_cons, List.lookup_cons, List.lookup_cons]
  rw [show (Str.ofString "_marks" == sRule) = false by decide +kernel, show (Str.ofString "_marks" == sPage) = false by decide +kernel, show (Str.ofString "_marks" == sMarks) = true by decide +kernel]
theorem lkA (a b c d : V) : ([(sRule, a), (sPage, b), (sMarks, c), (sAt, d)] : List (Str × V)).lookup (Str.ofString "_at") = some d := by
  rw [List.lookup_cons, List.lookup_cons, List.lookup_cons, List.lookup_cons]
  rw [show (Str.ofString "_at" == sRule) = false by decide +kernel, show (Str.ofString "_at" == sPage) = false by decide +kernel, show (Str.ofString "_at" == sMarks) = false by decide +kernel, show (Str.ofString "_at" == sAt) = true by decide +kernel]
theorem lkPut (a b c d : V) : ([(sRule, a), (sPage, b), (sMarks, c), (sAt, d)] : List (Str × V)).lookup (Str.ofString "put") = none := by
  rw [List.lookup_cons, List.lookup_cons, List.lookup_cons, List.lookup_cons]
  rw [show (Str.ofString "put" == sRule) = false by decide +kernel, show (Str.ofString "put" == sPage) = false by decide +kernel, show (Str.ofString "put" == sMarks) = false by decide +kernel, show (Str.ofString "put" == sAt) = false by decide +kernel]
  rfl
theorem lkStep (a b c d : V) : ([(sRule, a), (sPage, b), (sMarks, c), (sAt, d)] : List (Str × V)).lookup (Str.ofString "step") = none := by
  rw [List.lookup_cons, List.lookup_cons, List.lookup_cons, List.lookup_cons]
  rw [show (Str.ofString "step" == sRule) = false by decide +kernel, show (Str.ofString "step" == sPage) = false by decide +kernel, show (Str.ofString "step" == sMarks) = false by decide +kernel, show (Str.ofString "step" == sAt) = false by decide +kernel]
  rfl
theorem pfAt (a b c d x : V) : putF (Str.ofString "_at") x [(sRule, a), (sPage, b), (sMarks, c), (sAt, d)] = [(sRule, a), (sPage, b), (sMarks, c), (sAt, x)] := by
  rw [putF_ne (by decide +kernel), putF_ne (by decide +kernel), putF_ne (by decide +kernel)]
  show _ :: _ :: _ :: (if sAt = Str.ofString "_at" then _ else _) = _
  rw [if_pos (by decide +kernel)]
def sp_fat (C : Addr) : Sp := fun vs H Q _ => ∃ (a dx tm : Addr) (ru : Str) (gv av : V), vs = [.ref a] ∧ H a = some (foc C dx ru gv tm av) ∧ Q av H
theorem ok_fat (T : Txt K mg) : FnOk P w K mg base CX0 1 T.f_Focus_at T.d_Focus_at ["self"] (sp_fat T.C_Focus) := by
  refine T.F_Focus_at.ok sc_Focus_at (fun vs H Q E h => ?_) (fun cdv A outer s H vs Q E hr h => ?_)
  · obtain ⟨_, _, _, _, _, _, rfl, _⟩ := h
    rfl
  · obtain ⟨a, dx, tm, ru, gv, av, rfl, ha, q⟩ := h
    refine ⟨_, (pss_one (ps_ret (pe_fldK (K := K) rfl (pv 0) rfl))), ?_⟩
    walk_at "g"
    exact ⟨a, _, dx, _, av, rfl, ha, T.cl_Focus, T.nA_Focus__at, lkA _ _ _ _, q⟩
def sp_fpage (C : Addr) : Sp := fun vs H Q _ => ∃ (a dx tm : Addr) (ru : Str) (gv av : V), vs = [.ref a] ∧ H a = some (foc C dx ru gv tm av) ∧ Q gv H
theorem ok_fpage (T : Txt K mg) : FnOk P w K mg base CX0 1 T.f_Focus_page T.d_Focus_page ["self"] (sp_fpage T.C_Focus) := by
  refine T.F_Focus_page.ok sc_Focus_page (fun vs H Q E h => ?_) (fun cdv A outer s H vs Q E hr h => ?_)
  · obtain ⟨_, _, _, _, _, _, rfl, _⟩ := h
    rfl
  · obtain ⟨a, dx, tm, ru, gv, av, rfl, ha, q⟩ := h
    refine ⟨_, (pss_one (ps_ret (pe_fldK (K := K) rfl (pv 0) rfl))), ?_⟩
    walk_at "g"
    exact ⟨a, _, dx, _, gv, rfl, ha, T.cl_Focus, T.nA_Focus__page, lkP _ _ _ _, q⟩
def sp_fset (C : Addr) : Sp := fun vs H Q _ => ∃ (a dx tm : Addr) (ru : Str) (gv av : V) (bs : List Str) (o : Option Str), vs = [.ref a, atV o] ∧ H a = some (foc C dx ru gv tm av) ∧ TupF H tm (bs.map V.str) ∧ (∀ m, o = some m → m ∈ bs) ∧ Q .non (upd H a (foc C dx ru gv tm (atV o)))
theorem ok_fset (T : Txt K mg) : FnOk P w K mg base CX0 1 T.f_Focus_at_setter T.d_Focus_at_setter ["self", "mark"] (sp_fset T.C_Focus) := by
  refine T.F_Focus_at_setter.ok sc_Focus_at_setter (fun vs H Q E h => ?_) (fun cdv A outer s H vs Q E hr h => ?_)
  · obtain ⟨_, _, _, _, _, _, _, _, rfl, _⟩ := h
    rfl
  · obtain ⟨a, dx, tm, ru, gv, av, bs, o, rfl, ha, htm, hm, q⟩ := h
    refine ⟨_, (pss_cons (ps_if (PW.pt (pw_and (pt_cmpR op_notN (pv 1) pe_non (nomark _)) (pw_and1 (pt_cmpR (op_notIn_seqK (K := K) rfl) (pv 1) (pe_fldK (K := K) rfl (pv 0) rfl) (by rfl))))) (pss_one ps_never) pss_nil)
      (pss_one (ps_fld (pv 0) (pv 1) rfl))), ?_⟩
    cases o with
    | none =>
      walk_at "g"
      refine ⟨a, _, dx, _, rfl, ha, T.cl_Focus, T.nA_Focus__at, by show 4 < 1000; decide, ?_⟩
      rw [pfAt]
      exact q
    | some m =>
      have hm := hm m rfl
      walk_at "g"
      refine ⟨a, _, dx, _, _, rfl, ha, T.cl_Focus, T.nA_Focus__marks, lkM _ _ _ _, ?_⟩
      refine ⟨tm, _, rfl, .inr (htm.sq), rfl, flat_strs _, ?_⟩
      rw [show inV (atV (some m)) (List.map V.str bs) = true from (in_strs m bs).trans (decide_eq_true hm)]
      walk_at "g"
      refine ⟨a, _, dx, _, rfl, ha, T.cl_Focus, T.nA_Focus__at, by show 4 < 1000; decide, ?_⟩
      rw [pfAt]
      exact q
def sp_fput (C : Addr) : Sp := fun vs H Q _ => ∃ (a dx tm : Addr) (ru : Str) (gv av : V) (bs : List Str) (o : Option Str), vs = [.ref a, atV o] ∧ H a = some (foc C dx ru gv tm av) ∧ TupF H tm (bs.map V.str) ∧ (∀ m, o = some m → m ∈ bs) ∧ Q (atV o) (upd H a (foc C dx ru gv tm (atV o)))
theorem ok_fput (T : Txt K mg) : FnOk P w K mg base CX0 5 T.f_Focus_put T.d_Focus_put ["self", "mark"] (sp_fput T.C_Focus) := by
  have G_Focus_at_setter := ok_fset (P := P) (w := w) (base := base) T
  refine T.F_Focus_put.ok sc_Focus_put (fun vs H Q E h => ?_) (fun cdv A outer s H vs Q E hr h => ?_)
  · obtain ⟨_, _, _, _, _, _, _, _, rfl, _⟩ := h
    rfl
  · obtain ⟨a, dx, tm, ru, gv, av, bs, o, rfl, ha, htm, hm, q⟩ := h
    refine ⟨_, (pss_cons (ps_prop (pv 0) (pv 1) T.cl_Focus T.S_Focus_at G_Focus_at_setter (hr.mono (by omega)) T.b_Focus_at_setter rfl)
      (pss_one (ps_ret (pv 1)))), ?_⟩
    walk_at "g"
    refine ⟨a, dx, _, rfl, ha, a, dx, tm, ru, gv, av, bs, o, rfl, ha, htm, hm, ?_⟩
    walk_at "g"
    exact q
/-- one step on, or back -/
def stepO (bs : List Str) : Option Str → Bool → Option Str
  | none, true => bs[0]?
  | none, false => bs[bs.length - 1]?
  | some m, true => if bs.idxOf m + 1 < bs.length then bs[bs.idxOf m + 1]? else bs[0]?
  | some m, false => if 0 < bs.idxOf m then bs[bs.idxOf m - 1]? else bs[bs.length - 1]?
theorem stepO_mem {bs : List Str} {o : Option Str} {nx : Bool} {m : Str} (h : stepO bs o nx = some m) : m ∈ bs := by
  cases o <;> cases nx <;> unfold stepO at h
  · exact List.mem_of_getElem? h
  · exact List.mem_of_getElem? h
  · dsimp only at h
    split at h <;> exact List.mem_of_getElem? h
  · dsimp only at h
    split at h <;> exact List.mem_of_getElem? h
def wayS (nx : Bool) : Str := if nx then Str.ofString "next" else Str.ofString "back"
theorem way_t : decide (V.str (wayS true) = V.str (Str.ofString "next")) = true := by decide +kernel
theorem way_f : decide (V.str (wayS false) = V.str (Str.ofString "next")) = false := by decide +kernel
def sp_fstep (C : Addr) : Sp := fun vs H Q _ => ∃ (a dx tm : Addr) (ru : Str) (gv : V) (bs : List Str) (o : Option Str) (nx : Bool), vs = [.ref a, .str (wayS nx)] ∧ H a = some (foc C dx ru gv tm (atV o)) ∧ TupF H tm (bs.map V.str) ∧ bs.Nodup ∧ bs.length ≤ 400 ∧ (∀ m, o = some m → m ∈ bs) ∧
  ∀ H', Sx (one a) H H' → Gr H H' → H' a = some (foc C dx ru gv tm (atV (stepO bs o nx))) → Q (atV (stepO bs o nx)) H'
theorem ok_fstep (T : Txt K mg) : FnOk P w K mg base CX0 2 T.f_Focus_step T.d_Focus_step ["self", "way"] (sp_fstep T.C_Focus) := by
  refine T.F_Focus_step.ok sc_Focus_step (fun vs H Q E h => ?_) (fun cdv A outer s H vs Q E hr h => ?_)
  · obtain ⟨_, _, _, _, _, _, _, _, rfl, _⟩ := h
    rfl
  · obtain ⟨a, dx, tm, ru, gv, bs, o, nx, rfl, ha, htm, hnd, hbl, hm, q⟩ := h
    refine ⟨_, (pss_cons (ps_set (i := 2) sc_Focus_step.nd rfl (Or.inl rfl) (pe_fldK (K := K) rfl (pv 0) rfl))
      (pss_cons (ps_if (pt_not (pt_truthK (K := K) rfl (pv 2) (by intro _; rfl))) (pss_one (ps_ret pe_non)) pss_nil)
      (pss_cons (ps_if (pt_cmpR op_isN (pe_fldK (K := K) rfl (pv 0) rfl) pe_non (nomark _)) (pss_one (ps_fld (pv 0) (pe_ifExp (pt_cmpR op_eq (pv 1) pe_str (nomark _)) (pe_ix (ix_tupK (K := K) rfl) (pv 2) pe_int (fun _ _ => rfl)) (pe_ix (ix_tupK (K := K) rfl) (pv 2) (pe_un un_neg pe_int) (fun _ _ => rfl))) rfl)) (pss_cons (ps_set (i := 3) sc_Focus_step.nd rfl (Or.inl rfl) (pe_op op_add (pe_mG ty_tup PySem.F.plainAttrs_tuple PySem.F.slot_tuple_index PySem.F.type_tuple_index (mt_tup_indexS (K := K) rfl) (pv 2) (pa_cons (pe_fldK (K := K) rfl (pv 0) rfl) pa_nil)) (pe_ifExp (pt_cmpR op_eq (pv 1) pe_str (nomark _)) pe_int (pe_un un_neg pe_int))))
      (pss_one (ps_fld (pv 0) (pe_ix (ix_tupK (K := K) rfl) (pv 2) (pe_op op_mod (pv 3) (pe_callB (call_lenK (K := K) rfl) (by rfl) T.m_len PySem.boot_len (pa_cons (pv 2) pa_nil))) (fun _ _ => rfl)) rfl))))
      (pss_one (ps_ret (pe_fldK (K := K) rfl (pv 0) rfl)))))), ?_⟩
    walk_at "g"
    refine ⟨a, _, dx, _, _, rfl, ha, T.cl_Focus, T.nA_Focus__marks, lkM _ _ _ _, ?_⟩
    walk_at "g"
    by_cases hb : bs = []
    · have ho : o = none := by
        cases o with
        | none => rfl
        | some m => exact absurd (hm m rfl) (by rw [hb]; exact List.not_mem_nil)
      subst hb ho
      refine ⟨false, .inr (.inl ⟨_, htm.sq, rfl⟩), ?_⟩
      walk_at "g"
      have e : stepO [] none nx = none := by cases nx <;> rfl
      rw [e] at q
      exact q H Sx.refl Gr.refl ha
    have hp : 0 < bs.length := List.length_pos_iff.mpr hb
    have bl : (bs.map V.str).length = bs.length := List.length_map _
    refine ⟨true, .inr (.inl ⟨_, htm.sq, by cases bs with | nil => exact absurd rfl hb | cons m r => rfl⟩), ?_⟩
    walk_at "g"
    refine ⟨a, _, dx, _, _, rfl, ha, T.cl_Focus, T.nA_Focus__at, lkA _ _ _ _, ?_⟩
    walk_at "g"
    have nm : ∀ x : V, putF (Str.ofString "_at") x [(sRule, .str ru), (sPage, gv), (sMarks, .ref tm), (sAt, atV o)] = [(sRule, .str ru), (sPage, gv), (sMarks, .ref tm), (sAt, x)] := fun x => pfAt _ _ _ _ x
    -- what is left once the mark is known
    have fin : ∀ (m : Str) (H1 : Hp), stepO bs o nx = some m → H1 = upd H a (.ins T.C_Focus dx (putF (Str.ofString "_at") (.str m) [(sRule, .str ru), (sPage, gv), (sMarks, .ref tm), (sAt, atV o)])) → Q (.str m) H1 ∧ H1 a = some (foc T.C_Focus dx ru gv tm (.str m)) := fun m H1 e e1 => by
      rw [nm] at e1
      subst e1
      have e2 : atV (stepO bs o nx) = .str m := by rw [e]; rfl
      rw [e2] at q
      exact ⟨q _ (Sx.put rfl) Gr.upd upd_same, upd_same⟩
    have at' : ∀ {i : Nat} {m : Str}, bs[i]? = some m → (bs.map V.str)[i]? = some (.str m) := fun h => by rw [List.getElem?_map, h]; rfl
    have last : atI (bs.map V.str) (-1) = (bs.map V.str)[bs.length - 1]? := by
      obtain ⟨l, x, rfl⟩ : ∃ l x, bs = l ++ [x] := ⟨bs.dropLast, bs.getLast hb, (List.dropLast_concat_getLast hb).symm⟩
      rw [List.map_append, List.map_singleton, atI_last]
      simp
    cases o with
    | none =>
      rw [show decide (atV none = V.non) = true from decide_eq_true rfl]
      walk_at "g"
      cases nx with
      | true =>
        obtain ⟨m, hm0⟩ : ∃ m, bs[0]? = some m := ⟨_, List.getElem?_eq_getElem hp⟩
        rw [way_t]
        walk_at "g"
        refine ⟨tm, _, 0, .str m, rfl, rfl, htm.sq, atI_nat (j := 0) (at' hm0), ?_⟩
        walk_at "g"
        refine ⟨a, _, dx, _, rfl, ha, T.cl_Focus, T.nA_Focus__at, by show 4 < 1000; decide, ?_⟩
        walk_at "g"
        obtain ⟨f1, f2⟩ := fin m _ hm0 rfl
        exact ⟨a, _, dx, _, _, rfl, f2, T.cl_Focus, T.nA_Focus__at, lkA _ _ _ _, f1⟩
      | false =>
        obtain ⟨m, hm0⟩ : ∃ m, bs[bs.length - 1]? = some m := ⟨_, List.getElem?_eq_getElem (by omega)⟩
        rw [way_f]
        walk_at "g"
        refine ⟨tm, _, -1, .str m, rfl, rfl, htm.sq, last.trans (at' hm0), ?_⟩
        walk_at "g"
        refine ⟨a, _, dx, _, rfl, ha, T.cl_Focus, T.nA_Focus__at, by show 4 < 1000; decide, ?_⟩
        walk_at "g"
        obtain ⟨f1, f2⟩ := fin m _ hm0 rfl
        exact ⟨a, _, dx, _, _, rfl, f2, T.cl_Focus, T.nA_Focus__at, lkA _ _ _ _, f1⟩
    | some m =>
      have hmem := hm m rfl
      have hk : bs.idxOf m < bs.length := List.idxOf_lt_length_of_mem hmem
      have hkm : bs[bs.idxOf m]? = some m := by rw [List.getElem?_eq_getElem hk, List.getElem_idxOf]
      rw [show decide (atV (some m) = V.non) = false from decide_eq_false (fun z => nomatch z)]
      walk_at "g"
      refine ⟨htm.ty, ?_⟩
      walk_at "g"
      refine ⟨a, _, dx, _, _, rfl, ha, T.cl_Focus, T.nA_Focus__at, lkA _ _ _ _, ?_⟩
      refine ⟨tm, bs, m, bs.idxOf m, rfl, rfl, htm.sq, hkm, fun i hi e => ?_, ?_⟩
      · have h1 := (List.getElem?_eq_some_iff.mp e).1
        have := (List.getElem?_inj h1 hnd).mp (e.trans hkm.symm)
        omega
      walk_at "g"
      cases nx with
      | true =>
        rw [way_t]
        obtain ⟨j, m2, hj, e2, ej⟩ : ∃ (j : Nat) (m2 : Str), bs[j]? = some m2 ∧ stepO bs (some m) true = some m2 ∧ ((bs.idxOf m : Int) + 1) % (bs.length : Int) = (j : Int) := by
          by_cases c : bs.idxOf m + 1 < bs.length
          · refine ⟨bs.idxOf m + 1, _, List.getElem?_eq_getElem c, ?_, ?_⟩
            · unfold stepO
              dsimp only
              rw [if_pos c, List.getElem?_eq_getElem c]
            · rw [Int.emod_eq_of_lt (by omega) (by omega)]
              rfl
          · refine ⟨0, _, List.getElem?_eq_getElem hp, ?_, ?_⟩
            · unfold stepO
              dsimp only
              rw [if_neg c, List.getElem?_eq_getElem hp]
            · rw [show (bs.idxOf m : Int) + 1 = (bs.length : Int) by omega, Int.emod_self]
              rfl
        walk_at "g"
        refine ⟨tm, _, rfl, .inr htm.sq, _, _, rfl, rfl, by rw [bl]; omega, ?_⟩
        refine ⟨tm, _, _, .str m2, rfl, rfl, htm.sq, by rw [bl]; show atI _ (((bs.idxOf m : Int) + 1) % (bs.length : Int)) = _; rw [ej]; exact atI_nat (at' hj), ?_⟩
        walk_at "g"
        refine ⟨a, _, dx, _, rfl, ha, T.cl_Focus, T.nA_Focus__at, by show 4 < 1000; decide, ?_⟩
        walk_at "g"
        obtain ⟨f1, f2⟩ := fin m2 _ e2 rfl
        exact ⟨a, _, dx, _, _, rfl, f2, T.cl_Focus, T.nA_Focus__at, lkA _ _ _ _, f1⟩
      | false =>
        rw [way_f]
        obtain ⟨j, m2, hj, e2, ej⟩ : ∃ (j : Nat) (m2 : Str), bs[j]? = some m2 ∧ stepO bs (some m) false = some m2 ∧ ((bs.idxOf m : Int) + -1) % (bs.length : Int) = (j : Int) := by
          by_cases c : 0 < bs.idxOf m
          · refine ⟨bs.idxOf m - 1, _, List.getElem?_eq_getElem (by omega), ?_, ?_⟩
            · unfold stepO
              dsimp only
              rw [if_pos c, List.getElem?_eq_getElem (by omega)]
            · rw [Int.emod_eq_of_lt (by omega) (by omega)]
              omega
          · refine ⟨bs.length - 1, _, List.getElem?_eq_getElem (by omega), ?_, ?_⟩
            · unfold stepO
              dsimp only
              rw [if_neg c, List.getElem?_eq_getElem (by omega)]
            · rw [show bs.idxOf m = 0 by omega]
              rw [show ((0 : Nat) : Int) + -1 = ((bs.length : Int) - 1) + (bs.length : Int) * (-1) by omega, Int.add_mul_emod_self_left, Int.emod_eq_of_lt (by omega) (by omega)]
              omega
        walk_at "g"
        refine ⟨tm, _, rfl, .inr htm.sq, _, _, rfl, rfl, by rw [bl]; omega, ?_⟩
        refine ⟨tm, _, _, .str m2, rfl, rfl, htm.sq, by rw [bl]; show atI _ (((bs.idxOf m : Int) + -1) % (bs.length : Int)) = _; rw [ej]; exact atI_nat (at' hj), ?_⟩
        walk_at "g"
        refine ⟨a, _, dx, _, rfl, ha, T.cl_Focus, T.nA_Focus__at, by show 4 < 1000; decide, ?_⟩
        walk_at "g"
        obtain ⟨f1, f2⟩ := fin m2 _ e2 rfl
        exact ⟨a, _, dx, _, _, rfl, f2, T.cl_Focus, T.nA_Focus__at, lkA _ _ _ _, f1⟩
end
end D

namespace D
open PySem PySem.Spec PyProof.Rows L2
local macro_rules | `(tactic| walk_at "st") => `(tactic| first | exact SqT.of (by assumption) | exact Or.inl (by assumption) | exact SqT.of upd_same | fail "st")
local macro_rules | `(tactic| walk_at "ixt") => `(tactic| refine ⟨_, _, _, _, rfl, rfl, (by walk_at "st" : SqT _ _ _ _), by rfl, ?_⟩)
local macro_rules | `(tactic| walk_at "sq") => `(tactic| first | exact SqL.of (by assumption) | assumption | exact Or.inl (by assumption) | exact SqL.of upd_same | fail "sq")
local macro_rules | `(tactic| walk_at "ix") => `(tactic| refine ⟨_, _, _, _, rfl, rfl, (by walk_at "sq" : SqL _ _ _ _), by rfl, ?_⟩)
local macro_rules | `(tactic| walk_at "set") => `(tactic| refine ⟨_, _, _, _, rfl, rfl, by first | assumption | exact upd_same, by rfl, ?_⟩)
local macro_rules | `(tactic| walk_at "len") => `(tactic| refine ⟨_, _, rfl, Or.inl (by walk_at "sq" : SqL _ _ _ _), ?_⟩)
local macro_rules | `(tactic| walk_at "g") => `(tactic| repeat (first | refine ⟨_, rfl, ?_⟩ | refine ⟨_, _, rfl, rfl, ?_⟩ | refine ⟨Or.inr (by decide), ?_⟩ | refine ⟨Or.inl (by decide), ?_⟩ | refine ⟨(by decide : (0 : Int) < _), ?_⟩ | refine ⟨(⟨by decide, by decide⟩ : CDiv _ _), ?_⟩ | refine ⟨(⟨by decide, by decide, by decide⟩ : CPow _ _), ?_⟩ | refine Or.inl ⟨_, rfl, ?_⟩ | refine ⟨rfl, ?_⟩ | walk_at "ix" | walk_at "ixt" | walk_at "len" | fail "g"))
local macro_rules | `(tactic| walk_at "if") => `(tactic| refine ite2 (fun e => ?_) (fun e => ?_))
section
variable {P : Program} {w : World} {K : PySem.W.Frag} {mg : Str → Option Value} {base : Heap}
theorem pfI0 (x : V) : putF (Str.ofString "rule") x [] = [(sRule, x)] := rfl
theorem pfI1 (a x : V) : putF (Str.ofString "_page") x [(sRule, a)] = [(sRule, a), (sPage, x)] := by
  rw [putF_ne (by decide +kernel)]
  rfl
theorem pfI2 (a b x : V) : putF (Str.ofString "_marks") x [(sRule, a), (sPage, b)] = [(sRule, a), (sPage, b), (sMarks, x)] := by
  rw [putF_ne (by decide +kernel), putF_ne (by decide +kernel)]
  rfl
theorem pfI3 (a b c x : V) : putF (Str.ofString "_at") x [(sRule, a), (sPage, b), (sMarks, c)] = [(sRule, a), (sPage, b), (sMarks, c), (sAt, x)] := by
  rw [putF_ne (by decide +kernel), putF_ne (by decide +kernel), putF_ne (by decide +kernel)]
  rfl
def sp_finit (CF CP : Addr) : Sp := fun vs H Q _ => ∃ (a dx : Addr) (gv r : V) (ru : Str) (n : Nd) (M : Ms), vs = [.ref a, gv, .str ru] ∧ ru ∈ rules ∧ H a = some (.ins CF dx []) ∧ M a ∧ PageAt CP M H gv n r ∧ Mk M H ∧ goodT n ∧
  ∀ H' tm, Sx (one a) H H' → Gr H H' → H' a = some (foc CF dx ru gv tm .non) → ¬ M tm → TupF H' tm ((btns n).map V.str) → Q .non H'
theorem ok_finit (T : Txt K mg) (Z : TRul K mg) : FnOk P w K mg base CX0 6 T.f_Focus___init__ T.d_Focus___init__ ["self", "page", "rule"] (sp_finit T.C_Focus T.C_Page) := by
  have G_buttons := ok_btn (P := P) (w := w) (base := base) T
  refine T.F_Focus___init__.ok0 sc_Focus___init__ (fun vs H Q E h => ?_) (fun cdv A outer s H vs Q E hr h => ?_)
  · obtain ⟨_, _, _, _, _, _, _, rfl, _⟩ := h
    rfl
  · obtain ⟨a, dx, gv, r, ru, n, M, rfl, hru, ha, ma, hP, hM, hg, q⟩ := h
    refine ⟨_, (pss_cons (ps_if (pt_cmpR (op_notIn_seqK (K := K) rfl) (pv 2) (pe_glob (v := .ref Z.p) rfl Z.t rfl) (by rfl)) (pss_one ps_never) pss_nil)
      (pss_cons (ps_fld (pv 0) (pv 2) rfl)
      (pss_cons (ps_fld (pv 0) (pv 1) rfl)
      (pss_cons (ps_fld (pv 0) (pe_call G_buttons (hr.mono (by omega)) (by rfl) T.g_buttons T.F_buttons.kp T.b_buttons .nil pass0 (pa_cons (pv 1) pa_nil)) rfl)
      (pss_one (ps_fld (pv 0) pe_non rfl)))))), ?_⟩
    walk_at "g"
    refine ⟨Z.p, _, rfl, .inr (Z.sq _), rfl, flat_strs _, ?_⟩
    rw [show inV (V.str ru) (List.map V.str rules) = true from (in_strs ru rules).trans (decide_eq_true hru)]
    walk_at "g"
    refine ⟨a, _, dx, _, rfl, ha, T.cl_Focus, T.nA_Focus_rule, by show 0 < 1000; decide, ?_⟩
    rw [pfI0]
    have ha1 : upd H a (.ins T.C_Focus dx [(sRule, .str ru)]) a = some (.ins T.C_Focus dx [(sRule, .str ru)]) := upd_same
    have s1 : Sx (one a) H (upd H a (.ins T.C_Focus dx [(sRule, .str ru)])) := Sx.put rfl
    have g1 : Gr H (upd H a (.ins T.C_Focus dx [(sRule, .str ru)])) := Gr.upd
    generalize upd H a (.ins T.C_Focus dx [(sRule, .str ru)]) = H1 at ha1 s1 g1
    walk_at "g"
    refine ⟨a, _, dx, _, rfl, ha1, T.cl_Focus, T.nA_Focus__page, by show 1 < 1000; decide, ?_⟩
    rw [pfI1]
    have ha2 : upd H1 a (.ins T.C_Focus dx [(sRule, .str ru), (sPage, gv)]) a = some (.ins T.C_Focus dx [(sRule, .str ru), (sPage, gv)]) := upd_same
    have s2 : Sx (one a) H (upd H1 a (.ins T.C_Focus dx [(sRule, .str ru), (sPage, gv)])) := s1.trans (Sx.put rfl)
    have g2 : Gr H (upd H1 a (.ins T.C_Focus dx [(sRule, .str ru), (sPage, gv)])) := g1.trans Gr.upd
    generalize upd H1 a (.ins T.C_Focus dx [(sRule, .str ru), (sPage, gv)]) = H2 at ha2 s2 g2
    have am : ∀ x, one a x → M x := fun x z => by rw [show x = a from z]; exact ma
    walk_at "g"
    refine ⟨gv, r, n, M, rfl, hP.sx (s2.le am), hg, fun H3 tm s3 ht htm => ?_⟩
    have nm : ¬ M tm := (hM.gr g2).out ht
    have nam : tm ≠ a := fun z => nm (by rw [z]; exact ma)
    walk_at "g"
    refine ⟨a, _, dx, _, rfl, s3 _ _ ha2, T.cl_Focus, T.nA_Focus__marks, by show 2 < 1000; decide, ?_⟩
    rw [pfI2]
    have ha4 : upd H3 a (.ins T.C_Focus dx [(sRule, .str ru), (sPage, gv), (sMarks, .ref tm)]) a = some (.ins T.C_Focus dx [(sRule, .str ru), (sPage, gv), (sMarks, .ref tm)]) := upd_same
    have s4 : Sx (one a) H3 (upd H3 a (.ins T.C_Focus dx [(sRule, .str ru), (sPage, gv), (sMarks, .ref tm)])) := Sx.put rfl
    have g4 : Gr H3 (upd H3 a (.ins T.C_Focus dx [(sRule, .str ru), (sPage, gv), (sMarks, .ref tm)])) := Gr.upd
    generalize upd H3 a (.ins T.C_Focus dx [(sRule, .str ru), (sPage, gv), (sMarks, .ref tm)]) = H4 at ha4 s4 g4
    walk_at "g"
    refine ⟨a, _, dx, _, rfl, ha4, T.cl_Focus, T.nA_Focus__at, by show 3 < 1000; decide, ?_⟩
    rw [pfI3]
    exact q _ tm (s2.trans ((Sx.same s3).trans (s4.trans (Sx.put rfl)))) (g2.trans ((Gr.same s3).trans (g4.trans Gr.upd))) upd_same nm ((htm.sx (M := one a) s4 nam).sx (M := one a) (Sx.put rfl) nam)
def sp_stepped (K : PySem.W.Frag) : Sp := fun vs H Q _ => ∃ (a : Addr) (bs : List Str) (o : Option Str) (nx : Bool), vs = [.ref a, atV o, .str (wayS nx)] ∧ SqL K H a (bs.map V.str) ∧ bs.Nodup ∧ bs.length ≤ 400 ∧ (∀ m, o = some m → m ∈ bs) ∧ Q (atV (stepO bs o nx)) H
theorem ok_stepped (T : Txt K mg) : FnOk P w K mg base CX0 1 T.f__law_stepped T.d__law_stepped ["_law_marks_here", "_law_at", "_law_way"] (sp_stepped K) := by
  refine T.F__law_stepped.ok sc__law_stepped (fun vs H Q E h => ?_) (fun cdv A outer s H vs Q E hr h => ?_)
  · obtain ⟨_, _, _, _, rfl, _⟩ := h
    rfl
  · obtain ⟨a, bs, o, nx, rfl, ha, hnd, hbl, hm, q⟩ := h
    refine ⟨_, (pss_cons (ps_if (pt_cmpR op_eq (pe_callB (call_lenK (K := K) rfl) (by rfl) T.m_len PySem.boot_len (pa_cons (pv 0) pa_nil)) pe_int (nomark _)) (pss_one (ps_ret pe_non)) pss_nil)
      (pss_cons (ps_if (pt_cmpR op_isN (pv 1) pe_non (nomark _)) (pss_one (ps_ret (pe_ifExp (pt_cmpR op_eq (pv 2) pe_str (nomark _)) (pe_ix (ix_listK (K := K) rfl) (pv 0) pe_int (fun _ _ => rfl)) (pe_ix (ix_listK (K := K) rfl) (pv 0) (pe_un un_neg pe_int) (fun _ _ => rfl))))) pss_nil)
      (pss_cons (ps_set (i := 3) sc__law_stepped.nd rfl (Or.inl rfl) (pe_bmK2 (K := K) rfl PySem.F.plainAttrs_list PySem.F.slot_list_index PySem.F.type_list_index mt_index (pv 0) (pa_cons (pv 1) pa_nil)))
      (pss_cons (ps_if (pt_cmpR op_eq (pv 2) pe_str (nomark _)) (pss_one (ps_ret (pe_ifExp (pt_cmpR op_lt (pe_op op_add (pv 3) pe_int) (pe_callB (call_lenK (K := K) rfl) (by rfl) T.m_len PySem.boot_len (pa_cons (pv 0) pa_nil)) (nomark _)) (pe_ix (ix_listK (K := K) rfl) (pv 0) (pe_op op_add (pv 3) pe_int) (fun _ _ => rfl)) (pe_ix (ix_listK (K := K) rfl) (pv 0) pe_int (fun _ _ => rfl))))) pss_nil)
      (pss_one (ps_ret (pe_ifExp (pt_cmpR op_gt (pv 3) pe_int (nomark _)) (pe_ix (ix_listK (K := K) rfl) (pv 0) (pe_op op_sub (pv 3) pe_int) (fun _ _ => rfl)) (pe_ix (ix_listK (K := K) rfl) (pv 0) (pe_un un_neg pe_int) (fun _ _ => rfl))))))))), ?_⟩
    have bl : (bs.map V.str).length = bs.length := List.length_map _
    walk_at "g"
    by_cases hb : bs = []
    · have ho : o = none := by
        cases o with
        | none => rfl
        | some m => exact absurd (hm m rfl) (by rw [hb]; exact List.not_mem_nil)
      subst hb ho
      rw [show decide (V.int ↑(List.map V.str []).length = V.int 0) = true from decide_eq_true rfl]
      walk_at "g"
      have e : stepO [] none nx = none := by cases nx <;> rfl
      rw [e] at q
      exact q
    have hp : 0 < bs.length := List.length_pos_iff.mpr hb
    rw [show decide (V.int ↑(List.map V.str bs).length = V.int 0) = false from decide_eq_false (fun z => by injection z with z; rw [bl] at z; omega)]
    have at' : ∀ {i : Nat} {m : Str}, bs[i]? = some m → (bs.map V.str)[i]? = some (.str m) := fun h => by rw [List.getElem?_map, h]; rfl
    have last : atI (bs.map V.str) (-1) = (bs.map V.str)[bs.length - 1]? := by
      obtain ⟨l, x, rfl⟩ : ∃ l x, bs = l ++ [x] := ⟨bs.dropLast, bs.getLast hb, (List.dropLast_concat_getLast hb).symm⟩
      rw [List.map_append, List.map_singleton, atI_last]
      simp
    walk_at "g"
    cases o with
    | none =>
      rw [show decide (atV none = V.non) = true from decide_eq_true rfl]
      walk_at "g"
      cases nx with
      | true =>
        obtain ⟨m, hm0⟩ : ∃ m, bs[0]? = some m := ⟨_, List.getElem?_eq_getElem hp⟩
        rw [show stepO bs none true = some m from hm0] at q
        rw [way_t]
        walk_at "g"
        refine ⟨a, _, 0, .str m, rfl, rfl, ha, atI_nat (j := 0) (at' hm0), ?_⟩
        exact q
      | false =>
        obtain ⟨m, hm0⟩ : ∃ m, bs[bs.length - 1]? = some m := ⟨_, List.getElem?_eq_getElem (by omega)⟩
        rw [show stepO bs none false = some m from hm0] at q
        rw [way_f]
        walk_at "g"
        refine ⟨a, _, -1, .str m, rfl, rfl, ha, last.trans (at' hm0), ?_⟩
        exact q
    | some m =>
      have hmem := hm m rfl
      have hk : bs.idxOf m < bs.length := List.idxOf_lt_length_of_mem hmem
      have hkm : bs[bs.idxOf m]? = some m := by rw [List.getElem?_eq_getElem hk, List.getElem_idxOf]
      rw [show decide (atV (some m) = V.non) = false from decide_eq_false (fun z => nomatch z)]
      walk_at "g"
      refine ⟨.inl ⟨rfl, _, ha⟩, ?_⟩
      walk_at "g"
      refine ⟨a, _, .str m, bs.idxOf m, .str m, rfl, rfl, ha, rfl, flat_strs _, at' hkm, beq_self_eq_true _, fun i z' hi e => ?_, ?_⟩
      · rw [List.getElem?_map] at e
        obtain ⟨m2, hm2, rfl⟩ := Option.map_eq_some_iff.mp e
        have h1 := (List.getElem?_eq_some_iff.mp hm2).1
        show (m2 == m) = false
        rw [beq_eq_false_iff_ne]
        rintro rfl
        have := (List.getElem?_inj h1 hnd).mp (hm2.trans hkm.symm)
        omega
      walk_at "g"
      cases nx with
      | true =>
        rw [way_t]
        walk_at "g"
        unfold stepO at q
        dsimp only at q
        walk_at "if"
        · rename_i e
          have c : bs.idxOf m + 1 < bs.length := by
            have := of_decide_eq_true e
            rw [bl] at this
            omega
          rw [if_pos c, List.getElem?_eq_getElem c] at q
          walk_at "g"
          exact ⟨a, _, _, _, rfl, rfl, ha, (atI_nat (j := bs.idxOf m + 1) (at' (List.getElem?_eq_getElem c))), q⟩
        · rename_i e
          have c : ¬ bs.idxOf m + 1 < bs.length := fun z => e (decide_eq_true (by rw [bl]; omega))
          rw [if_neg c, List.getElem?_eq_getElem hp] at q
          walk_at "g"
          exact ⟨a, _, 0, _, rfl, rfl, ha, (atI_nat (j := 0) (at' (List.getElem?_eq_getElem hp))), q⟩
      | false =>
        rw [way_f]
        walk_at "g"
        unfold stepO at q
        dsimp only at q
        walk_at "if"
        · rename_i e
          have c : 0 < bs.idxOf m := by
            have := of_decide_eq_true e
            omega
          rw [if_pos c, List.getElem?_eq_getElem (by omega)] at q
          walk_at "g"
          refine ⟨a, _, _, _, rfl, rfl, ha, ?_, q⟩
          show atI _ ((bs.idxOf m : Int) - 1) = _
          rw [show (bs.idxOf m : Int) - 1 = ((bs.idxOf m - 1 : Nat) : Int) by omega]
          exact atI_nat (at' (List.getElem?_eq_getElem (by omega)))
        · rename_i e
          have c : ¬ 0 < bs.idxOf m := fun z => e (decide_eq_true (by omega))
          rw [if_neg c, List.getElem?_eq_getElem (by omega)] at q
          walk_at "g"
          exact ⟨a, _, -1, _, rfl, rfl, ha, last.trans (at' (List.getElem?_eq_getElem (by omega))), q⟩
end
end D

namespace D
open PySem PySem.Spec PyProof.Rows L2
local macro_rules | `(tactic| walk_at "st") => `(tactic| first | exact SqT.of (by assumption) | exact Or.inl (by assumption) | exact SqT.of upd_same | fail "st")
local macro_rules | `(tactic| walk_at "ixt") => `(tactic| refine ⟨_, _, _, _, rfl, rfl, (by walk_at "st" : SqT _ _ _ _), by rfl, ?_⟩)
local macro_rules | `(tactic| walk_at "sq") => `(tactic| first | exact SqL.of (by assumption) | assumption | exact Or.inl (by assumption) | exact SqL.of upd_same | fail "sq")
local macro_rules | `(tactic| walk_at "ix") => `(tactic| refine ⟨_, _, _, _, rfl, rfl, (by walk_at "sq" : SqL _ _ _ _), by rfl, ?_⟩)
local macro_rules | `(tactic| walk_at "set") => `(tactic| refine ⟨_, _, _, _, rfl, rfl, by first | assumption | exact upd_same, by rfl, ?_⟩)
local macro_rules | `(tactic| walk_at "len") => `(tactic| refine ⟨_, _, rfl, Or.inl (by walk_at "sq" : SqL _ _ _ _), ?_⟩)
local macro_rules | `(tactic| walk_at "g") => `(tactic| repeat (first | refine ⟨_, rfl, ?_⟩ | refine ⟨_, _, rfl, rfl, ?_⟩ | refine ⟨Or.inr (by decide), ?_⟩ | refine ⟨Or.inl (by decide), ?_⟩ | refine ⟨(by decide : (0 : Int) < _), ?_⟩ | refine ⟨(⟨by decide, by decide⟩ : CDiv _ _), ?_⟩ | refine ⟨(⟨by decide, by decide, by decide⟩ : CPow _ _), ?_⟩ | refine Or.inl ⟨_, rfl, ?_⟩ | refine ⟨rfl, ?_⟩ | walk_at "ix" | walk_at "ixt" | walk_at "len" | fail "g"))
local macro_rules | `(tactic| walk_at "if") => `(tactic| refine ite2 (fun e => ?_) (fun e => ?_))
section
variable {P : Program} {w : World} {K : PySem.W.Frag} {mg : Str → Option Value} {base : Heap}
theorem sub_self {K : PySem.W.Frag} {C : Addr} (ox : OexC K C) : PySem.W.subIn K (.ref C) (.ref C) = some true := by
  obtain ⟨nm, q, N, bs, bm, sn, sub, ab, col, dd, k0, k1, k2, k3, k5, h, _⟩ := ox.cls
  show (PySem.W.clsIn K C).bind _ = _
  unfold PySem.W.clsIn
  rw [h]
  show (if (Value.ref C :: bm).isEmpty = true then none else some ((Value.ref C :: bm).contains (Value.ref C))) = _
  rw [if_neg (by simp), List.contains_cons]
  simp
/-- the class of a caught error -/
theorem exm_own {K : PySem.W.Frag} {D C : Addr} {b : Bool} (be : PySem.W.subIn K (.ref C) (.type "BaseException") = some true) (hd : PySem.W.hasDictIn K C = true) (ty : PySem.W.typeIn K (.ref C) = some (.type "type")) (h : PySem.W.subIn K (.ref D) (.ref C) = some b) : PySem.W.exmOne K (.ref D) (.ref C) = some b := by
  obtain ⟨cd, hc, _⟩ := PySem.W.any_some hd
  unfold PySem.W.exmOne
  rw [if_pos (by rw [be]; rfl)]
  show (if ((PySem.W.clsIn K C).isSome && PySem.W.typeIn K (.ref C) == some (.type "type")) = true then PySem.W.subIn K (.ref D) (.ref C) else none) = some b
  rw [if_pos (by rw [hc, ty]; rfl), h]
def sMark : Str := Str.ofString "mark"
theorem ok_nonode (T : Txt K mg) : FnOk P w K mg base CX0 1 T.f_NoNode___init__ T.d_NoNode___init__ ["self", "mark"] (sp_err1 K T.C_NoNode sMark) := by
  refine T.F_NoNode___init__.ok sc_NoNode___init__ (fun vs H Q E h => ?_) (fun cdv A outer s H vs Q E hr h => ?_)
  · obtain ⟨_, _, rfl, _⟩ := h
    rfl
  · obtain ⟨a, y, rfl, ox, no, ha, q⟩ := h
    refine ⟨_, (pss_one (ps_ost (pv 0) (pv 1))), ?_⟩
    walk_at "g"
    exact ⟨a, _, rfl, ox, no, .inl ⟨ha, fun dx h n => q dx h n⟩⟩
theorem ok_badrule (T : Txt K mg) : FnOk P w K mg base CX0 1 T.f_BadRule___init__ T.d_BadRule___init__ ["self", "rule"] (sp_err1 K T.C_BadRule sRule) := by
  refine T.F_BadRule___init__.ok sc_BadRule___init__ (fun vs H Q E h => ?_) (fun cdv A outer s H vs Q E hr h => ?_)
  · obtain ⟨_, _, rfl, _⟩ := h
    rfl
  · obtain ⟨a, y, rfl, ox, no, ha, q⟩ := h
    refine ⟨_, (pss_one (ps_ost (pv 0) (pv 1))), ?_⟩
    walk_at "g"
    exact ⟨a, _, rfl, ox, no, .inl ⟨ha, fun dx h n => q dx h n⟩⟩
def sp_fbad (C CE : Addr) : Sp := fun vs H Q E => ∃ (a dx tm : Addr) (ru : Str) (gv av : V) (bs : List Str) (z : Str), vs = [.ref a, .str z] ∧ H a = some (foc C dx ru gv tm av) ∧ TupF H tm (bs.map V.str) ∧ z ∉ bs ∧
  ∀ d, H d = none → E (.ref CE) (some d) (upd H d (.xd [(sMark, .str z)]))
theorem ok_fsbad (T : Txt K mg) : FnOk P w K mg base (L2.CX P w) 3 T.f_Focus_at_setter T.d_Focus_at_setter ["self", "mark"] (sp_fbad T.C_Focus T.C_NoNode) := by
  have G_NoNode___init__ := ok_nonode (P := P) (w := w) (base := base) T
  refine T.F_Focus_at_setter.okX sc_Focus_at_setter (fun vs H Q E h => ?_) (fun cdv A outer s H vs Q E hr h => ?_)
  · obtain ⟨_, _, _, _, _, _, _, _, rfl, _⟩ := h
    rfl
  · obtain ⟨a, dx, tm, ru, gv, av, bs, z, rfl, ha, htm, hz, q⟩ := h
    refine ⟨_, (pss_cons (ps_if (PW.pt (pw_and (pt_cmpR op_notN (pv 1) pe_non (nomark _)) (pw_and1 (pt_cmpR (op_notIn_seqK (K := K) rfl) (pv 1) (pe_fldK (K := K) rfl (pv 0) rfl) (by rfl))))) (pss_one (ps_raise rfl (takes_of rfl rfl rfl rfl) (pmk_oex T.ox_NoNode T.iC_NoNode T.tI_NoNode G_NoNode___init__ (hr.mono (by omega)) T.b_NoNode___init__ .nil pass0 (by rfl) T.g_NoNode (pa_cons (pv 1) pa_nil)))) pss_nil)
      (pss_one (ps_fld (pv 0) (pv 1) rfl))), ?_⟩
    walk_at "g"
    refine ⟨a, _, dx, _, _, rfl, ha, T.cl_Focus, T.nA_Focus__marks, lkM _ _ _ _, ?_⟩
    refine ⟨tm, _, rfl, .inr htm.sq, rfl, flat_strs _, ?_⟩
    rw [show inV (.str z) (List.map V.str bs) = false from (in_strs z bs).trans (decide_eq_false hz)]
    walk_at "g"
    exact mk_err1 T.ox_NoNode T.nf_NoNode_mark q
theorem ok_fpbad (T : Txt K mg) : FnOk P w K mg base (L2.CX P w) 6 T.f_Focus_put T.d_Focus_put ["self", "mark"] (sp_fbad T.C_Focus T.C_NoNode) := by
  have G_Focus_at_setter := ok_fsbad (P := P) (w := w) (base := base) T
  refine T.F_Focus_put.okX sc_Focus_put (fun vs H Q E h => ?_) (fun cdv A outer s H vs Q E hr h => ?_)
  · obtain ⟨_, _, _, _, _, _, _, _, rfl, _⟩ := h
    rfl
  · obtain ⟨a, dx, tm, ru, gv, av, bs, z, rfl, ha, htm, hz, q⟩ := h
    refine ⟨_, (pss_cons (ps_propS (pv 0) (pv 1) T.cl_Focus T.S_Focus_at G_Focus_at_setter (hr.mono (by omega)) T.b_Focus_at_setter (fun σ => passAt (takes_of rfl rfl rfl rfl) σ) rfl)
      (pss_one (ps_ret (pv 1)))), ?_⟩
    walk_at "g"
    exact ⟨a, dx, _, rfl, ha, a, dx, tm, ru, gv, av, bs, z, rfl, ha, htm, hz, q⟩
def sp_refused (C : Addr) : Sp := fun vs H Q _ => ∃ (a dx tm : Addr) (ru : Str) (gv av : V) (bs : List Str) (z : Str), vs = [.ref a, .str z] ∧ H a = some (foc C dx ru gv tm av) ∧ TupF H tm (bs.map V.str) ∧ z ∉ bs ∧ ∀ H', Same H H' → Q (.bl true) H'
theorem ok_refused (T : Txt K mg) : FnOk P w K mg base CX0 7 T.f__law_refused T.d__law_refused ["_law_held", "_law_mark"] (sp_refused T.C_Focus) := by
  have G_Focus_put := ok_fpbad (P := P) (w := w) (base := base) T
  refine T.F__law_refused.ok sc__law_refused (fun vs H Q E h => ?_) (fun cdv A outer s H vs Q E hr h => ?_)
  · obtain ⟨_, _, _, _, _, _, _, _, rfl, _⟩ := h
    rfl
  · obtain ⟨a, dx, tm, ru, gv, av, bs, z, rfl, ha, htm, hz, q⟩ := h
    refine ⟨_, (pss_cons (ps_try_as (i := 2) rfl rfl sc__law_refused.nd rfl rfl ⟨rfl, by decide, .inl T.g_NoNode⟩ takes0 (fun W pn xe tk _ => (pss_one (ps_expr (pe_methS (pv 0) T.cl_Focus ⟨T.a_Focus_put, T.i_Focus_put, T.F_Focus_put.kp⟩ G_Focus_put (hr.mono (by omega)) T.b_Focus_put (fun σ => passAt tk σ) (pa_cons (pv 1) pa_nil))))) (fun a oe cls d pn hz hf => (pss_one (ps_ret (pe_and (pe_callB (call_isX hz hf) (by rfl) T.m_isinstance (by decide +kernel) (pa_cons (pv 2) (pa_cons (pe_glob (v := .ref T.C_ScreenError) rfl T.g_ScreenError rfl) pa_nil))) (pe_and (pe_not (pe_callB (call_isX hz hf) (by rfl) T.m_isinstance (by decide +kernel) (pa_cons (pv 2) (pa_cons (pe_glob (v := .ref T.C_BadRule) rfl T.g_BadRule rfl) pa_nil)))) (pe_and (pe_callB (call_isi1K (K := K) rfl) (by rfl) T.m_isinstance (by decide +kernel) (pa_cons (pe_xf T.xf_NoNode T.nf_NoNode_mark hz hf (pv 2)) (pa_cons (pe_bltn (v := .ty "str") (u := .type "str") (by rfl) T.m_str (by decide +kernel) rfl) pa_nil))) (pe_one (pe_cmpR op_eq (pe_xf T.xf_NoNode T.nf_NoNode_mark hz hf (pv 2)) (pv 1) (nomark _))))))))))
      (pss_one (ps_ret pe_bl))), ?_⟩
    walk_at "g"
    refine ⟨a, dx, _, rfl, ha, lkPut _ _ _ _, ?_⟩
    walk_at "g"
    refine ⟨a, dx, tm, ru, gv, av, bs, z, rfl, ha, htm, hz, fun d hd => ?_⟩
    refine ⟨true, exm_own T.be_NoNode T.hd_NoNode T.ty_NoNode (sub_self T.ox_NoNode), fun _ ex hex => ?_, fun z => by cases z⟩
    have sd : Same H (upd H d (.xd [(sMark, .str z)])) := same_new hd
    have ed : upd H d (.xd [(sMark, .str z)]) d = some (.xd [(sMark, .str z)]) := upd_same
    walk_at "g"
    refine ⟨T.C_NoNode, d, _, .ref T.C_ScreenError, .ref T.C_ScreenError, true, rfl, rfl, T.is_NoNode, ed, rfl, fun u r => r, kit_err T.hd_ScreenError T.ty_ScreenError T.ne_NoNode_ScreenError T.s_NoNode_ScreenError, ?_⟩
    walk_at "g"
    refine ⟨T.C_NoNode, d, _, .ref T.C_BadRule, .ref T.C_BadRule, false, rfl, rfl, T.is_NoNode, ed, rfl, fun u r => r, kit_err T.hd_BadRule T.ty_BadRule T.ne_NoNode_BadRule T.s_NoNode_BadRule, ?_⟩
    walk_at "g"
    refine ⟨d, _, _, rfl, ed, rfl, ?_⟩
    walk_at "g"
    refine ⟨_, _, _, _, true, rfl, .ty _, .base (.str _), kit_ty (by decide +kernel), ?_⟩
    walk_at "g"
    refine ⟨d, _, _, rfl, ed, rfl, ?_⟩
    walk_at "g"
    rw [show decide (V.str z = V.str z) = true from decide_eq_true rfl]
    exact q _ sd
end
end D

namespace D
open PySem PySem.Spec PyProof.Rows L2
local macro_rules | `(tactic| walk_at "st") => `(tactic| first | exact SqT.of (by assumption) | exact Or.inl (by assumption) | exact SqT.of upd_same | fail "st")
local macro_rules | `(tactic| walk_at "ixt") => `(tactic| refine ⟨_, _, _, _, rfl, rfl, (by walk_at "st" : SqT _ _ _ _), by rfl, ?_⟩)
local macro_rules | `(tactic| walk_at "sq") => `(tactic| first | exact SqL.of (by assumption) | assumption | exact Or.inl (by assumption) | exact SqL.of upd_same | fail "sq")
local macro_rules | `(tactic| walk_at "ix") => `(tactic| refine ⟨_, _, _, _, rfl, rfl, (by walk_at "sq" : SqL _ _ _ _), by rfl, ?_⟩)
local macro_rules | `(tactic| walk_at "set") => `(tactic| refine ⟨_, _, _, _, rfl, rfl, by first | assumption | exact upd_same, by rfl, ?_⟩)
local macro_rules | `(tactic| walk_at "len") => `(tactic| refine ⟨_, _, rfl, Or.inl (by walk_at "sq" : SqL _ _ _ _), ?_⟩)
local macro_rules | `(tactic| walk_at "g") => `(tactic| repeat (first | refine ⟨_, rfl, ?_⟩ | refine ⟨_, _, rfl, rfl, ?_⟩ | refine ⟨Or.inr (by decide), ?_⟩ | refine ⟨Or.inl (by decide), ?_⟩ | refine ⟨(by decide : (0 : Int) < _), ?_⟩ | refine ⟨(⟨by decide, by decide⟩ : CDiv _ _), ?_⟩ | refine ⟨(⟨by decide, by decide, by decide⟩ : CPow _ _), ?_⟩ | refine Or.inl ⟨_, rfl, ?_⟩ | refine ⟨rfl, ?_⟩ | walk_at "ix" | walk_at "ixt" | walk_at "len" | fail "g"))
local macro_rules | `(tactic| walk_at "if") => `(tactic| refine ite2 (fun e => ?_) (fun e => ?_))
section
variable {P : Program} {w : World} {K : PySem.W.Frag} {mg : Str → Option Value} {base : Heap}
theorem all_lay {k : Nat} : ∀ {ds : List PyData}, (∀ d ∈ ds, PyData.canLay0 d = true ∧ d.depth ≤ k) → PyData.canLayAll0 ds = true ∧ PyData.depthAll ds ≤ k
  | [], _ => ⟨rfl, Nat.zero_le _⟩
  | d :: r, h => by
    obtain ⟨a1, a2⟩ := h d List.mem_cons_self
    obtain ⟨i1, i2⟩ := all_lay fun z hz => h z (List.mem_cons_of_mem _ hz)
    constructor
    · simp only [PyData.canLayAll0, a1, i1, Bool.and_self]
    · simp only [PyData.depthAll]
      exact Nat.max_le.mpr ⟨a2, i2⟩
theorem enc_lay : ∀ n : Nd, (∀ x ∈ n.subs, asc x.mark ∧ asc x.label) → PyData.canLay0 n.enc = true ∧ n.enc.depth ≤ 2 * n.dep := Nd.ind fun n ih h => by
  have hn := h n (by rw [Nd.subs_eq]; exact List.mem_cons_self)
  have g1 := asc_gd hn.1
  have g2 := asc_gd hn.2
  have hk : ∀ d ∈ n.kids.map Nd.enc, PyData.canLay0 d = true ∧ d.depth ≤ 2 * Nd.deps n.kids := fun d hd => by
    obtain ⟨k, hkm, rfl⟩ := List.mem_map.mp hd
    obtain ⟨i1, i2⟩ := ih k hkm fun x hx => h x (by rw [Nd.subs_eq]; exact List.mem_cons_of_mem _ (List.mem_flatten.mpr ⟨_, List.mem_map.mpr ⟨k, hkm, rfl⟩, hx⟩))
    have := Nd.deps_mem hkm
    exact ⟨i1, by omega⟩
  obtain ⟨k1, k2⟩ := all_lay hk
  rw [Nd.enc_eq, Nd.dep_eq]
  constructor
  · simp only [PyData.canLay0, PyData.canLayAll0, k1, Bool.and_true, Bool.and_self]
    have e1 := g1.lay
    have e2 := g2.lay
    simp only [PyData.canLay0] at e1 e2
    rw [e1, e2]
    rfl
  · simp only [PyData.depth, PyData.depthAll]
    omega
theorem enc_shaped {n : Nd} (h : ∀ x ∈ n.subs, asc x.mark ∧ asc x.label) (hd : n.dep ≤ 30) : SeqAt.shaped n.enc = true := by
  obtain ⟨a, b⟩ := enc_lay n h
  exact Bool.and_eq_true_iff.mpr ⟨a, decide_eq_true (by omega)⟩
theorem eqv_encs : ∀ {ks ls : List Nd}, (∀ k ∈ ks, ∀ l : Nd, PyData.eqv k.enc l.enc = true → k = l) → PyData.eqvAll (ks.map Nd.enc) (ls.map Nd.enc) = true → ks = ls
  | [], [], _, _ => rfl
  | [], _ :: _, _, h => by simp [PyData.eqvAll] at h
  | _ :: _, [], _, h => by simp [PyData.eqvAll] at h
  | k :: ks, l :: ls, ih, h => by
    simp only [List.map_cons, PyData.eqvAll, Bool.and_eq_true] at h
    rw [ih k List.mem_cons_self l h.1, eqv_encs (fun z hz => ih z (List.mem_cons_of_mem _ hz)) h.2]
theorem eqv_enc : ∀ n l : Nd, PyData.eqv n.enc l.enc = true → n = l := Nd.ind fun n ih l h => by
  rw [Nd.enc_eq n, Nd.enc_eq l] at h
  simp only [PyData.eqv, PyData.eqvAll, Bool.and_eq_true, Bool.and_true] at h
  obtain ⟨h1, h2, h3⟩ := h
  have hk := eqv_encs ih h3
  cases n with
  | mk a b c =>
    cases l with
    | mk a' b' c' =>
      have e1 : a = a' := eq_of_beq h1
      have e2 : b = b' := eq_of_beq h2
      have e3 : c = c' := hk
      rw [e1, e2, e3]
/-- a tree as the law grows it -/
structure good5 (n : Nd) : Prop where
  g : goodT n
  d : n.dep ≤ 5
theorem good5.asc (h : good5 n) : ∀ x ∈ n.subs, asc x.mark ∧ asc x.label := fun x hx => ⟨(h.g.txt x hx).1.2, (h.g.txt x hx).2.2⟩
theorem lk_root (x y z : V) : ([(sRoot, x), (sNodes, y), (sParents, z)] : List (Str × V)).lookup (Str.ofString "_root") = some x := by
  rw [List.lookup_cons]
  rw [show (Str.ofString "_root" == sRoot) = true by decide +kernel]
def sp_peq (C : Addr) : Sp := fun vs H Q _ => ∃ (v v2 r r2 : V) (n n2 : Nd) (M : Ms), vs = [v, v2] ∧ PageAt C M H v n r ∧ PageAt C M H v2 n2 r2 ∧ good5 n ∧ good5 n2 ∧ ∀ c : Bool, (c = true → n = n2) → Q (.bl c) H
theorem ok_peq (T : Txt K mg) : FnOk P w K mg base CX0 2 T.f_Page___eq__ T.d_Page___eq__ ["self", "other"] (sp_peq T.C_Page) := by
  refine T.F_Page___eq__.ok sc_Page___eq__ (fun vs H Q E h => ?_) (fun cdv A outer s H vs Q E hr h => ?_)
  · obtain ⟨_, _, _, _, _, _, _, rfl, _⟩ := h
    rfl
  · obtain ⟨v, v2, r, r2, n, n2, M, rfl, hP, hP2, hg, hg2, q⟩ := h
    obtain ⟨a, dx, dn, on, gv, us, rfl, na, ha, hrt, nn, hn, hu⟩ := hP
    obtain ⟨a2, dx2, dn2, on2, gv2, us2, rfl, na2, ha2, hrt2, nn2, hn2, hu2⟩ := hP2
    refine ⟨_, (pss_one (ps_ret (pe_and (pe_callB (call_isCK T.in_Page) (by rfl) T.m_isinstance (by decide +kernel) (pa_cons (pv 1) (pa_cons (pe_glob (v := .ref T.C_Page) rfl T.g_Page rfl) pa_nil))) (pe_one (pe_cmpR (op_eqDK (K := K) rfl hr.units) (pe_fldK (K := K) rfl (pv 0) rfl) (pe_fldK (K := K) rfl (pv 1) rfl) (nomark _)))))), ?_⟩
    walk_at "g"
    refine ⟨a2, dx2, _, rfl, ha2, ?_⟩
    walk_at "g"
    refine ⟨a, _, dx, _, _, rfl, ha, T.cl_Page, T.nA_Page__root, lk_root _ _ _, ?_⟩
    walk_at "g"
    refine ⟨a2, _, dx2, _, _, rfl, ha2, T.cl_Page, T.nA_Page__root, lk_root _ _ _, ?_⟩
    refine ⟨_, _, Rp.dp _ _ hrt, Rp.dp _ _ hrt2, enc_shaped hg.asc (by have := hg.d; omega), enc_shaped hg2.asc (by have := hg2.d; omega), ?_⟩
    exact q _ (eqv_enc n n2)
def nearO (m : Str) (old new : List Str) : Option Str := (old.drop (old.idxOf m + 1) ++ (old.take (old.idxOf m)).reverse).find? fun x => decide (x ∈ new)
theorem rCatA_of {x y : V} {H : Hp} {Q : VK} {a c : Addr} {xs ys : List V} (hx : x = .ref a) (hy : y = .ref c) (h1 : SqT K H a xs) (h2 : SqT K H c ys) (hz : xs.length + ys.length ≤ sizeLine) (h : ∀ p H', Same H H' → SqT K H' p (xs ++ ys) → Q (.ref p) H') : rCatA K x y H Q := by
  refine ⟨a, c, xs, ys, hx, hy, h1, h2, hz, fun e => ?_, fun _ e => ?_, fun _ _ p hp => ?_⟩
  · exact h c H (fun _ _ z => z) (by rw [e]; exact h2)
  · exact h a H (fun _ _ z => z) (by rw [e, List.append_nil]; exact h1)
  · exact h p _ (same_new hp) (.inl (.inl upd_same))
theorem cut_from (xs : List V) (i : Nat) (h : i ≤ xs.length) : cutV xs (some ((i : Nat) : Int)) none = xs.drop i := by
  unfold cutV
  rw [HT.sIx_nat, HT.sIx_none, Nat.min_eq_left h]
  exact List.take_of_length_le (by rw [List.length_drop]; omega)
theorem cut_to (xs : List V) (i : Nat) (h : i ≤ xs.length) : cutV xs none (some ((i : Nat) : Int)) = xs.take i := by
  unfold cutV
  rw [HT.sIx_nat, HT.sIx_none, Nat.min_eq_left h, List.drop_zero, Nat.sub_zero]
theorem sq_same {H H' : Hp} {a : Addr} {xs : List V} (h : SqT K H a xs) (s : Same H H') : SqT K H' a xs := by
  rcases h with h | h
  · exact .inl (same_rd s h)
  · exact .inr h
def sp_near (K : PySem.W.Frag) : Sp := fun vs H Q _ => ∃ (m : Str) (tb th : Addr) (old new : List Str), vs = [.str m, .ref tb, .ref th] ∧ TupF H tb (old.map V.str) ∧ TupF H th (new.map V.str) ∧ m ∈ old ∧ old.Nodup ∧ old.length ≤ 400 ∧ ∀ H', Same H H' → Q (atV (nearO m old new)) H'
theorem ok_near (T : Txt K mg) : FnOk P w K mg base CX0 1 T.f__near T.d__near ["lost", "before", "behind"] (sp_near K) := by
  refine T.F__near.ok sc__near (fun vs H Q E h => ?_) (fun cdv A outer s H vs Q E hr h => ?_)
  · obtain ⟨_, _, _, _, _, rfl, _⟩ := h
    rfl
  · obtain ⟨m, tb, th, old, new, rfl, htb, hth, hm, hnd, h400, q⟩ := h
    have hk : old.idxOf m < old.length := List.idxOf_lt_length_of_mem hm
    have hkm : old[old.idxOf m]? = some m := by rw [List.getElem?_eq_getElem hk, List.getElem_idxOf]
    have ol : (old.map V.str).length = old.length := List.length_map _
    refine ⟨_, (pss_cons (ps_set (i := 3) sc__near.nd rfl (Or.inl rfl) (pe_mG ty_tup PySem.F.plainAttrs_tuple PySem.F.slot_tuple_index PySem.F.type_tuple_index (mt_tup_indexS (K := K) rfl) (pv 1) (pa_cons (pv 0) pa_nil)))
      (pss_cons (ps_for PassesOwn.never rfl (pi_tupK (K := K) rfl (pe_op (op_catAK (K := K) rfl) (pe_slice (sl_tupK (K := K) rfl) (pv 1) (po_some (pe_op op_add (pv 3) pe_int)) po_none) (pe_revT (K := K) rfl (pe_slice (sl_tupK (K := K) rfl) (pv 1) po_none (po_some (pv 3)))))) (pg_name (i := 4) sc__near.nd rfl (Or.inl rfl)) (pss_one (ps_if (pt_cmpR (op_in_seqK (K := K) rfl) (pv 4) (pv 2) (by rfl)) (pss_one (ps_ret (pv 4))) pss_nil)))
      (pss_one (ps_ret pe_non)))), ?_⟩
    walk_at "g"
    refine ⟨htb.ty, ?_⟩
    walk_at "g"
    refine ⟨tb, old, m, old.idxOf m, rfl, rfl, htb.sq, hkm, fun i hi e => ?_, ?_⟩
    · have h1 := (List.getElem?_eq_some_iff.mp e).1
      have := (List.getElem?_inj h1 hnd).mp (e.trans hkm.symm)
      omega
    walk_at "g"
    refine ⟨tb, _, rfl, htb.sq, fun z => ?_, fun _ p1 hp1 => ?_⟩
    · have := z.1
      rw [show ((old.idxOf m : Int) + 1) = ((old.idxOf m + 1 : Nat) : Int) by omega, HT.sIx_nat] at this
      omega
    rw [show ((old.idxOf m : Int) + 1) = ((old.idxOf m + 1 : Nat) : Int) by omega, cut_from _ _ (by rw [ol]; omega)]
    have s1 := same_new hp1 (o := .tup ((old.map V.str).drop (old.idxOf m + 1)))
    have e1 : upd H p1 (.tup ((old.map V.str).drop (old.idxOf m + 1))) p1 = some (.tup ((old.map V.str).drop (old.idxOf m + 1))) := upd_same
    generalize upd H p1 (.tup ((old.map V.str).drop (old.idxOf m + 1))) = H1 at s1 e1
    walk_at "g"
    refine ⟨tb, _, rfl, (htb.same s1).sq, fun z => ?_, fun _ p2 hp2 => ?_⟩
    · have := z.2
      rw [HT.sIx_nat, ol] at this
      omega
    rw [cut_to _ _ (by rw [ol]; omega)]
    have s2 := same_new hp2 (o := .tup ((old.map V.str).take (old.idxOf m)))
    have e2 : upd H1 p2 (.tup ((old.map V.str).take (old.idxOf m))) p2 = some (.tup ((old.map V.str).take (old.idxOf m))) := upd_same
    generalize upd H1 p2 (.tup ((old.map V.str).take (old.idxOf m))) = H2 at s2 e2
    refine ⟨p2, _, rfl, SqT.of e2, fun p3 hp3 => ?_⟩
    have s3 := s2.trans (same_new hp3 (o := .tup ((old.map V.str).take (old.idxOf m)).reverse))
    have e3 : upd H2 p3 (.tup ((old.map V.str).take (old.idxOf m)).reverse) p3 = some (.tup ((old.map V.str).take (old.idxOf m)).reverse) := upd_same
    generalize upd H2 p3 (.tup ((old.map V.str).take (old.idxOf m)).reverse) = H3 at s3 e3
    refine rCatA_of (K := K) rfl rfl (SqT.of (s3 _ _ e1)) (SqT.of e3) (Nat.le_of_lt (small1000 (by rw [List.length_reverse, List.length_take, List.length_drop, ol]; omega))) fun p4 H4 s4 h4 => ?_
    have S4 := s1.trans (s3.trans s4)
    obtain ⟨L, hL⟩ : ∃ L, L = old.drop (old.idxOf m + 1) ++ (old.take (old.idxOf m)).reverse := ⟨_, rfl⟩
    have hLv : (old.map V.str).drop (old.idxOf m + 1) ++ ((old.map V.str).take (old.idxOf m)).reverse = L.map V.str := by
      rw [hL, List.map_append, List.map_drop, List.map_reverse, List.map_take]
    rw [hLv] at h4
    have hq : nearO m old new = L.find? fun x => decide (x ∈ new) := by rw [hL]; rfl
    rw [hq] at q
    clear hq hLv hL e1 e2 e3 s1 s2 s3 s4
    refine ⟨p4, rfl, ⟨_, h4⟩, ?_⟩
    refine for_tup (K := K) (a := p4) (xs := L.map V.str) (fun i σ H' => (∃ y4, σ = [some (.str m), some (.ref tb), some (.ref th), some (.int (old.idxOf m : Nat)), y4]) ∧ Same H4 H' ∧ (L.take i).find? (fun x => decide (x ∈ new)) = none) ⟨⟨_, rfl⟩, fun _ _ z => z, by rw [List.take_zero]; rfl⟩ (fun i σ H' _ p => sq_same h4 p.2.1) (fun i x σ H' hx p => ?_) (fun σ H' p => ?_)
    · obtain ⟨⟨y4, rfl⟩, s5, hf⟩ := p
      rw [List.getElem?_map] at hx
      obtain ⟨y, hy, rfl⟩ := Option.map_eq_some_iff.mp hx
      walk_at "g"
      refine ⟨th, _, rfl, .inr (hth.same (S4.trans s5)).sq, rfl, flat_strs _, ?_⟩
      by_cases c : y ∈ new
      · rw [show inV (.str y) (List.map V.str new) = true from (in_strs y new).trans (decide_eq_true c)]
        have hl : L = L.take i ++ y :: L.drop (i + 1) := by
          have h1 := (List.getElem?_eq_some_iff.mp hy)
          obtain ⟨h1, h2⟩ := h1
          rw [← h2, ← List.drop_eq_getElem_cons h1, List.take_append_drop]
        rw [hl, List.find?_append, hf, List.find?_cons_of_pos (by simpa using c)] at q
        walk_at "g"
        exact q H' (S4.trans s5)
      · rw [show inV (.str y) (List.map V.str new) = false from (in_strs y new).trans (decide_eq_false c)]
        walk_at "g"
        refine ⟨⟨_, rfl⟩, s5, ?_⟩
        rw [List.take_add_one, hy, List.find?_append, hf, Option.toList_some, List.find?_cons_of_neg (by simpa using c)]
        rfl
    · obtain ⟨⟨y4, rfl⟩, s5, hf⟩ := p
      rw [List.length_map, List.take_length] at hf
      rw [hf] at q
      walk_at "g"
      exact q H' (S4.trans s5)
def sNear : Str := Str.ofString "near"
def sFirst : Str := Str.ofString "first"
def sNone : Str := Str.ofString "none"
def settleO (ru : Str) (o : Option Str) (old new : List Str) : Option Str := match o with
  | none => none
  | some m => if m ∈ new then some m else if ru = sNear then nearO m old new else if ru = sFirst then new[0]? else none
theorem nearO_mem {m t : Str} {old new : List Str} (h : nearO m old new = some t) : t ∈ new := by
  have := List.find?_some h
  exact of_decide_eq_true this
theorem settleO_mem {ru t : Str} {o : Option Str} {old new : List Str} (h : settleO ru o old new = some t) : t ∈ new := by
  cases o with
  | none => cases h
  | some m =>
    unfold settleO at h
    dsimp only at h
    split at h
    · rename_i c
      cases h
      exact c
    · split at h
      · exact nearO_mem h
      · split at h
        · exact List.mem_of_getElem? h
        · cases h
def sp_settled (K : PySem.W.Frag) : Sp := fun vs H Q _ => ∃ (o : Option Str) (ru : Str) (tb th : Addr) (old new : List Str), vs = [atV o, .str ru, .ref tb, .ref th] ∧ TupF H tb (old.map V.str) ∧ TupF H th (new.map V.str) ∧ (∀ m, o = some m → m ∈ old) ∧ old.Nodup ∧ old.length ≤ 400 ∧ ∀ H', Same H H' → Q (atV (settleO ru o old new)) H'
theorem ok_settled (T : Txt K mg) : FnOk P w K mg base CX0 3 T.f__settled T.d__settled ["mark", "rule", "before", "behind"] (sp_settled K) := by
  have G__near := ok_near (P := P) (w := w) (base := base) T
  refine T.F__settled.ok sc__settled (fun vs H Q E h => ?_) (fun cdv A outer s H vs Q E hr h => ?_)
  · obtain ⟨_, _, _, _, _, _, rfl, _⟩ := h
    rfl
  · obtain ⟨o, ru, tb, th, old, new, rfl, htb, hth, hm, hnd, h400, q⟩ := h
    refine ⟨_, (pss_cons (ps_if (PW.pt (pw_or (pt_cmpR op_isN (pv 0) pe_non (nomark _)) (pw_or1 (pt_cmpR (op_in_seqK (K := K) rfl) (pv 0) (pv 3) (by rfl))))) (pss_one (ps_ret (pv 0))) pss_nil)
      (pss_cons (ps_if (pt_cmpR op_eq (pv 1) pe_str (nomark _)) (pss_one (ps_ret (pe_call G__near (hr.mono (by omega)) (by rfl) T.g__near T.F__near.kp T.b__near .nil pass0 (pa_cons (pv 0) (pa_cons (pv 2) (pa_cons (pv 3) pa_nil)))))) pss_nil)
      (pss_cons (ps_if (PW.pt (pw_and (pt_cmpR op_eq (pv 1) pe_str (nomark _)) (pw_and1 (pt_truthK (K := K) rfl (pv 3) (by intro _; rfl))))) (pss_one (ps_ret (pe_ix (ix_tupK (K := K) rfl) (pv 3) pe_int (fun _ _ => rfl)))) pss_nil)
      (pss_one (ps_ret pe_non))))), ?_⟩
    cases o with
    | none =>
      walk_at "g"
      exact q H (fun _ _ z => z)
    | some m =>
      have hm := hm m rfl
      walk_at "g"
      refine ⟨th, _, rfl, .inr hth.sq, rfl, flat_strs _, ?_⟩
      unfold settleO at q
      dsimp only at q
      by_cases c : m ∈ new
      · rw [show inV (atV (some m)) (List.map V.str new) = true from (in_strs m new).trans (decide_eq_true c)]
        rw [if_pos c] at q
        walk_at "g"
        exact q H (fun _ _ z => z)
      · rw [show inV (atV (some m)) (List.map V.str new) = false from (in_strs m new).trans (decide_eq_false c)]
        rw [if_neg c] at q
        walk_at "g"
        by_cases c1 : ru = sNear
        · rw [if_pos c1] at q
          rw [show decide (V.str ru = V.str (Str.ofString "near")) = true from decide_eq_true (by rw [c1]; rfl)]
          walk_at "g"
          refine ⟨m, tb, th, old, new, rfl, htb, hth, hm, hnd, h400, fun H' s' => ?_⟩
          exact q H' s'
        · rw [if_neg c1] at q
          rw [show decide (V.str ru = V.str (Str.ofString "near")) = false from decide_eq_false (fun z => c1 (by injection z))]
          walk_at "g"
          by_cases c2 : ru = sFirst
          · rw [if_pos c2] at q
            rw [show decide (V.str ru = V.str (Str.ofString "first")) = true from decide_eq_true (by rw [c2]; rfl)]
            walk_at "g"
            cases new with
            | nil =>
              refine ⟨false, .inr (.inl ⟨_, hth.sq, rfl⟩), ?_⟩
              walk_at "g"
              exact q H (fun _ _ z => z)
            | cons y r =>
              refine ⟨true, .inr (.inl ⟨_, hth.sq, rfl⟩), ?_⟩
              walk_at "g"
              refine ⟨th, _, 0, .str y, rfl, rfl, hth.sq, atI_nat (j := 0) rfl, ?_⟩
              exact q H (fun _ _ z => z)
          · rw [if_neg c2] at q
            rw [show decide (V.str ru = V.str (Str.ofString "first")) = false from decide_eq_false (fun z => c2 (by injection z))]
            walk_at "g"
            exact q H (fun _ _ z => z)
theorem pfM (a b c d x : V) : putF (Str.ofString "_marks") x [(sRule, a), (sPage, b), (sMarks, c), (sAt, d)] = [(sRule, a), (sPage, b), (sMarks, x), (sAt, d)] := by
  rw [putF_ne (by decide +kernel), putF_ne (by decide +kernel)]
  show _ :: _ :: (if sMarks = Str.ofString "_marks" then _ else _) = _
  rw [if_pos (by decide +kernel)]
theorem pfP (a b c d x : V) : putF (Str.ofString "_page") x [(sRule, a), (sPage, b), (sMarks, c), (sAt, d)] = [(sRule, a), (sPage, x), (sMarks, c), (sAt, d)] := by
  rw [putF_ne (by decide +kernel)]
  show _ :: (if sPage = Str.ofString "_page" then _ else _) = _
  rw [if_pos (by decide +kernel)]
def sp_turn (CF CP : Addr) : Sp := fun vs H Q _ => ∃ (a dx tm : Addr) (ru : Str) (gv gv2 r r2 : V) (n n2 : Nd) (o : Option Str) (M : Ms), vs = [.ref a, gv2] ∧ H a = some (foc CF dx ru gv tm (atV o)) ∧ M a ∧ Mk M H ∧ ¬ M tm ∧ TupF H tm ((btns n).map V.str) ∧ PageAt CP M H gv n r ∧ PageAt CP M H gv2 n2 r2 ∧ good5 n ∧ good5 n2 ∧ (∀ m, o = some m → m ∈ btns n) ∧
  ∀ H' tm2, Sx (one a) H H' → Gr H H' → H' a = some (foc CF dx ru gv2 tm2 (atV (settleO ru o (btns n) (btns n2)))) → ¬ M tm2 → TupF H' tm2 ((btns n2).map V.str) → Q (atV (settleO ru o (btns n) (btns n2))) H'
theorem ok_turn (T : Txt K mg) : FnOk P w K mg base CX0 8 T.f_Focus_turn T.d_Focus_turn ["self", "page"] (sp_turn T.C_Focus T.C_Page) := by
  have G_Page___eq__ := ok_peq (P := P) (w := w) (base := base) T
  have G_buttons := ok_btn (P := P) (w := w) (base := base) T
  have G__settled := ok_settled (P := P) (w := w) (base := base) T
  refine T.F_Focus_turn.ok sc_Focus_turn (fun vs H Q E h => ?_) (fun cdv A outer s H vs Q E hr h => ?_)
  · obtain ⟨_, _, _, _, _, _, _, _, _, _, _, _, rfl, _⟩ := h
    rfl
  · obtain ⟨a, dx, tm, ru, gv, gv2, r, r2, n, n2, o, M, rfl, ha, ma, hM, ntm, htm, hP, hP2, hg, hg2, ho, q⟩ := h
    refine ⟨_, (pss_cons (ps_if (pt_cmpR (op_neOwn T.nq_Page T.a_Page___eq__ T.i_Page___eq__ T.nf_Page T.in_Page.hm G_Page___eq__ T.b_Page___eq__ (hr.mono (by omega)) pass0) (pv 1) (pe_fldK (K := K) rfl (pv 0) rfl) (nomark _)) (pss_cons (ps_set (i := 2) sc_Focus_turn.nd rfl (Or.inl rfl) (pe_call G_buttons (hr.mono (by omega)) (by rfl) T.g_buttons T.F_buttons.kp T.b_buttons .nil pass0 (pa_cons (pv 1) pa_nil)))
      (pss_cons (ps_fld (pv 0) (pe_call G__settled (hr.mono (by omega)) (by rfl) T.g__settled T.F__settled.kp T.b__settled .nil pass0 (pa_cons (pe_fldK (K := K) rfl (pv 0) rfl) (pa_cons (pe_fldK (K := K) rfl (pv 0) rfl) (pa_cons (pe_fldK (K := K) rfl (pv 0) rfl) (pa_cons (pv 2) pa_nil))))) rfl)
      (pss_one (ps_fld (pv 0) (pv 2) rfl)))) pss_nil)
      (pss_cons (ps_fld (pv 0) (pv 1) rfl)
      (pss_one (ps_ret (pe_fldK (K := K) rfl (pv 0) rfl))))), ?_⟩
    obtain ⟨pa, pdx, pfs, rfl, hpa⟩ := hP.ins
    obtain ⟨pa2, pdx2, pfs2, rfl, hpa2⟩ := hP2.ins
    have am : ∀ x, one a x → M x := fun x z => by rw [show x = a from z]; exact ma
    have bn4 : (btns n).length ≤ 400 := Nat.le_trans (btns_len n) hg.g.len
    with_reducible refine seq_join (fun σ3 H3 => ∃ (tm2 : Addr) (y2 : Option V), σ3 = [some (.ref a), some (.ref pa2), y2] ∧ Sx (one a) H H3 ∧ Gr H H3 ∧ H3 a = some (foc T.C_Focus dx ru (.ref pa) tm2 (atV (settleO ru o (btns n) (btns n2)))) ∧ ¬ M tm2 ∧ TupF H3 tm2 ((btns n2).map V.str)) (fun hN => ?_) (fun σ3 H3 c => ?_)
    · walk_at "g"
      refine ⟨a, _, dx, _, _, rfl, ha, T.cl_Focus, T.nA_Focus__page, lkP _ _ _ _, ?_⟩
      refine ⟨pa2, _, _, pa, _, _, rfl, rfl, hpa2, hpa, .ref pa2, .ref pa, r2, r, n2, n, M, rfl, hP2, hP, hg2, hg, fun c hc => ⟨c, rfl, ?_⟩⟩
      cases c with
      | true =>
        have en := hc rfl
        subst en
        have e : settleO ru o (btns n2) (btns n2) = o := by
          cases o with
          | none => rfl
          | some m =>
            unfold settleO
            dsimp only
            rw [if_pos (ho m rfl)]
        exact ⟨false, rfl, hN _ _ ⟨tm, _, rfl, Sx.refl, Gr.refl, by rw [e]; exact ha, ntm, htm⟩⟩
      | false =>
        walk_at "g"
        refine ⟨.ref pa2, r2, n2, M, rfl, hP2, hg2.g, fun H1 t s1 ht htq => ?_⟩
        have nt : ¬ M t := hM.out ht
        have nta : t ≠ a := fun z => nt (by rw [z]; exact ma)
        have ha1 := s1 _ _ ha
        walk_at "g"
        refine ⟨a, _, dx, _, _, rfl, ha1, T.cl_Focus, T.nA_Focus__at, lkA _ _ _ _, ?_⟩
        walk_at "g"
        refine ⟨a, _, dx, _, _, rfl, ha1, T.cl_Focus, T.nA_Focus_rule, lkR _ _ _ _, ?_⟩
        walk_at "g"
        refine ⟨a, _, dx, _, _, rfl, ha1, T.cl_Focus, T.nA_Focus__marks, lkM _ _ _ _, ?_⟩
        walk_at "g"
        refine ⟨o, ru, tm, t, btns n, btns n2, rfl, htm.same s1, htq, ho, btns_nd hg.g.nd, bn4, fun H2 s2 => ?_⟩
        have ha2 := s2 _ _ ha1
        walk_at "g"
        refine ⟨a, _, dx, _, rfl, ha2, T.cl_Focus, T.nA_Focus__at, by show 4 < 1000; decide, ?_⟩
        rw [pfAt]
        generalize hx : settleO ru o (btns n) (btns n2) = o2 at hN ⊢
        have e3 : upd H2 a (.ins T.C_Focus dx [(sRule, .str ru), (sPage, .ref pa), (sMarks, .ref tm), (sAt, atV o2)]) a = some (.ins T.C_Focus dx [(sRule, .str ru), (sPage, .ref pa), (sMarks, .ref tm), (sAt, atV o2)]) := upd_same
        walk_at "g"
        refine ⟨a, _, dx, _, rfl, e3, T.cl_Focus, T.nA_Focus__marks, by show 4 < 1000; decide, ?_⟩
        rw [pfM]
        have s12 := s1.trans s2
        exact hN _ _ ⟨t, _, rfl, (Sx.same s12).trans ((Sx.put (M := one a) rfl).trans (Sx.put (M := one a) rfl)), (Gr.same s12).trans (Gr.upd.trans Gr.upd), upd_same, nt, ((htq.same s2).sx (M := one a) (Sx.put rfl) nta).sx (M := one a) (Sx.put rfl) nta⟩
    · obtain ⟨tm2, y2, rfl, s3, g3, e3, nm2, htm2⟩ := c
      have nam : tm2 ≠ a := fun z => nm2 (by rw [z]; exact ma)
      walk_at "g"
      refine ⟨a, _, dx, _, rfl, e3, T.cl_Focus, T.nA_Focus__page, by show 4 < 1000; decide, ?_⟩
      rw [pfP]
      have e4 : upd H3 a (foc T.C_Focus dx ru (.ref pa2) tm2 (atV (settleO ru o (btns n) (btns n2)))) a = some (foc T.C_Focus dx ru (.ref pa2) tm2 (atV (settleO ru o (btns n) (btns n2)))) := upd_same
      walk_at "g"
      refine ⟨a, _, dx, _, _, rfl, e4, T.cl_Focus, T.nA_Focus__at, lkA _ _ _ _, ?_⟩
      exact q _ tm2 (s3.trans (Sx.put rfl)) (g3.trans Gr.upd) e4 nm2 (htm2.sx (M := one a) (Sx.put rfl) nam)
end
end D

namespace D
open PySem PySem.Spec PyProof.Rows L2
local macro_rules | `(tactic| walk_at "st") => `(tactic| first | exact SqT.of (by assumption) | exact Or.inl (by assumption) | exact SqT.of upd_same | fail "st")
local macro_rules | `(tactic| walk_at "ixt") => `(tactic| refine ⟨_, _, _, _, rfl, rfl, (by walk_at "st" : SqT _ _ _ _), by rfl, ?_⟩)
local macro_rules | `(tactic| walk_at "sq") => `(tactic| first | exact SqL.of (by assumption) | assumption | exact Or.inl (by assumption) | exact SqL.of upd_same | fail "sq")
local macro_rules | `(tactic| walk_at "ix") => `(tactic| refine ⟨_, _, _, _, rfl, rfl, (by walk_at "sq" : SqL _ _ _ _), by rfl, ?_⟩)
local macro_rules | `(tactic| walk_at "set") => `(tactic| refine ⟨_, _, _, _, rfl, rfl, by first | assumption | exact upd_same, by rfl, ?_⟩)
local macro_rules | `(tactic| walk_at "len") => `(tactic| refine ⟨_, _, rfl, Or.inl (by walk_at "sq" : SqL _ _ _ _), ?_⟩)
local macro_rules | `(tactic| walk_at "g") => `(tactic| repeat (first | refine ⟨_, rfl, ?_⟩ | refine ⟨_, _, rfl, rfl, ?_⟩ | refine ⟨Or.inr (by decide), ?_⟩ | refine ⟨Or.inl (by decide), ?_⟩ | refine ⟨(by decide : (0 : Int) < _), ?_⟩ | refine ⟨(⟨by decide, by decide⟩ : CDiv _ _), ?_⟩ | refine ⟨(⟨by decide, by decide, by decide⟩ : CPow _ _), ?_⟩ | refine Or.inl ⟨_, rfl, ?_⟩ | refine ⟨rfl, ?_⟩ | walk_at "ix" | walk_at "ixt" | walk_at "len" | fail "g"))
local macro_rules | `(tactic| walk_at "if") => `(tactic| refine ite2 (fun e => ?_) (fun e => ?_))
section
variable {P : Program} {w : World} {K : PySem.W.Frag} {mg : Str → Option Value} {base : Heap}
theorem erase_perm {α : Type} : ∀ (l : List α) (j : Nat) (d : α), l[j]? = some d → (d :: l.eraseIdx j).Perm l
  | [], j, d, h => by simp at h
  | x :: r, 0, d, h => by
    have e := Option.some.inj h
    subst e
    exact .refl _
  | x :: r, j + 1, d, h => by
    have ih := erase_perm r j d h
    show (d :: x :: r.eraseIdx j).Perm (x :: r)
    exact (List.Perm.swap x d _).trans (ih.cons x)
def sp_mingV (K : PySem.W.Frag) : Sp := fun vs H Q _ => ∃ (b a : Addr) (xs : List V) (M : Ms), vs = [.ref b, .ref a] ∧ Bag K M H b ∧ Mk M H ∧ SqL K H a xs ∧ xs.length ≤ 1000 ∧
  ∀ H' p ys, Sx (one b) H H' → Gr H H' → Bag K M H' b → H p = none → H' p = some (.lst ys) → ys.Perm xs → Q (.ref p) H'
theorem ok_mingV (T : Txt K mg) : FnOk P w K mg base CX0 3 T.f__law_mingled T.d__law_mingled ["_law_bag_here", "_law_things"] (sp_mingV K) := by
  have G__law_pick := ok_pick (P := P) (w := w) (base := base) T
  refine T.F__law_mingled.ok sc__law_mingled (fun vs H Q E h => ?_) (fun cdv A outer s H vs Q E hr h => ?_)
  · obtain ⟨_, _, _, _, rfl, _⟩ := h
    rfl
  · obtain ⟨b, a, xs, M, rfl, hB, hM, hS, hl, q⟩ := h
    refine ⟨_, (pss_cons (ps_set (i := 2) sc__law_mingled.nd rfl (Or.inl rfl) (pe_callTy (call_listK (K := K) rfl) (by rfl) T.m_list (by decide +kernel) (pa_cons (pv 1) pa_nil)))
      (pss_cons (ps_set (i := 3) sc__law_mingled.nd rfl (Or.inl rfl) (pe_lst pa_nil))
      (pss_cons (ps_for PassesOwn.never rfl (pi_range1 (by rfl) T.m_range (pa_cons (pe_callB (call_lenK (K := K) rfl) (by rfl) T.m_len PySem.boot_len (pa_cons (pv 1) pa_nil)) pa_nil)) (pg_name (i := 4) sc__law_mingled.nd rfl (Or.inl rfl)) (pss_one (ps_expr (pe_bmK2 (K := K) rfl PySem.F.plainAttrs_list PySem.F.slot_list_append PySem.F.type_list_append mt_append (pv 3) (pa_cons (pe_bmK2 (K := K) rfl PySem.F.plainAttrs_list PySem.F.slot_list_pop PySem.F.type_list_pop mt_popAt (pv 2) (pa_cons (pe_call G__law_pick (hr.mono (by omega)) (by rfl) T.g__law_pick T.F__law_pick.kp T.b__law_pick .nil pass0 (pa_cons (pv 0) (pa_cons (pe_callB (call_lenK (K := K) rfl) (by rfl) T.m_len PySem.boot_len (pa_cons (pv 2) pa_nil)) pa_nil))) pa_nil)) pa_nil)))))
      (pss_one (ps_ret (pv 3)))))), ?_⟩
    refine ⟨.ref a, rfl, a, xs, rfl, .inl hS, fun l nl => ?_⟩
    refine ⟨by show 0 ≤ sizeLine; exact Nat.zero_le _, fun o no => ?_⟩
    have lo : l ≠ o := ne_of_none upd_same no
    generalize e1 : upd (upd H l _) o _ = H1
    have s1 : Same H H1 := fun c u e => by rw [← e1]; exact same_new no c u (same_new nl c u e)
    have l1 : H1 l = some (.lst xs) := by rw [← e1, upd_ne lo, upd_same]
    have o1 : H1 o = some (.lst []) := by rw [← e1, upd_same]
    have no0 : H o = none := by
      rw [upd_ne lo.symm] at no
      exact no
    clear e1
    refine ⟨.ref a, rfl, a, xs, rfl, .inl (s1.seq hS), ?_⟩
    refine ⟨_, rfl, by omega, by omega, ?_⟩
    have hbl : b ≠ l := fun z => hB.there (by rw [z]; exact nl)
    have hbo : b ≠ o := fun z => hB.there (by rw [z]; exact no0)
    let N : Ms := also (also M l) o
    let F : Ms := also (also (one b) l) o
    have FN : ∀ c, F c → N c := fun c z => z.elim (fun z => z.elim (fun z => .inl (.inl (one_le hB.w c z))) fun z => .inl (.inr z)) .inr
    have hB1 : Bag K N H1 b := by
      have h1 := (hB.more nl).more no0
      exact h1.keep (N := fun _ => False) (fun c u _ e => s1 c u e) (fun z => z) (fun _ z => z.elim)
    refine for_range (lo := 0) (n := (xs.length : Int).toNat) (fun i σ H2 => (∃ y4, σ = [some (.ref b), some (.ref a), some (.ref l), some (.ref o), y4]) ∧ Sx F H H2 ∧ Gr H H2 ∧ Bag K N H2 b ∧
      ∃ ls os, H2 l = some (.lst ls) ∧ H2 o = some (.lst os) ∧ ls.length + i = xs.length ∧ os.length = i ∧ (ls ++ os).Perm xs) ?_ (fun i σ H2 hi p => ?_) (fun σ H2 p => ?_)
    · exact ⟨⟨_, rfl⟩, Sx.same s1, Gr.same s1, hB1, xs, [], l1, o1, by omega, rfl, by rw [List.append_nil]⟩
    · obtain ⟨⟨y4, rfl⟩, s2, g2, hB2, ls, os, l2, o2, e1, e2, m1⟩ := p
      have hls : 0 < ls.length := by omega
      refine ⟨.ref o, rfl, .inl ⟨rfl, _, SqL.of o2⟩, .ref l, rfl, .inl ⟨rfl, _, SqL.of l2⟩, ?_⟩
      walk_at "g"
      refine ⟨b, _, N, rfl, hB2, by omega, by omega, fun w H3 h0 h1 hA3 hB3 => ?_⟩
      have l3 : H3 l = some (.lst ls) := (hA3 l hbl.symm).trans l2
      have o3 : H3 o = some (.lst os) := (hA3 o hbo.symm).trans o2
      obtain ⟨j, rfl⟩ : ∃ j : Nat, w = (j : Int) := ⟨w.toNat, by omega⟩
      have hj : j < ls.length := by omega
      have s3 : Sx F H2 H3 := hA3.sx.le fun c z => .inl (.inl z)
      refine ⟨l, ls, (j : Int), j, ls[j], rfl, rfl, l3, by omega, by omega, ?_, List.getElem?_eq_getElem hj, ?_⟩
      · exact seqIx hj
      · have lno : o ≠ l := lo.symm
        have o4 : upd H3 l (.lst (ls.eraseIdx j)) o = some (.lst os) := by rw [upd_ne lno]; exact o3
        refine ⟨o, os, ls[j], rfl, rfl, o4, small1000000 (by omega), ?_⟩
        have s4 : Sx F H3 (upd (upd H3 l (.lst (ls.eraseIdx j))) o (.lst (os ++ [ls[j]]))) := (Sx.put (show F l from .inl (.inr rfl))).trans (Sx.put (show F o from .inr rfl))
        refine ⟨⟨_, rfl⟩, s2.trans (s3.trans s4), g2.trans ((At.gr hA3 hB3.there).trans (Gr.upd.trans Gr.upd)), ?_, ls.eraseIdx j, os ++ [ls[j]], ?_, upd_same, ?_, ?_, ?_⟩
        · exact (hB3.keep (N := one l) (Sx.put rfl) hbl (fun c z => by rw [show c = l from z]; exact .inl (.inr rfl))).keep (N := one o) (Sx.put rfl) hbo (fun c z => by rw [show c = o from z]; exact .inr rfl)
        · rw [upd_ne lo, upd_same]
        · rw [List.length_eraseIdx_of_lt hj]
          omega
        · rw [List.length_append, e2]
          rfl
        · refine List.Perm.trans ?_ m1
          rw [← List.append_assoc]
          refine (List.perm_append_comm).trans ?_
          exact (List.Perm.append_right os (erase_perm ls j _ (List.getElem?_eq_getElem hj)))
    · obtain ⟨⟨y4, rfl⟩, s2, g2, hB2, ls, os, l2, o2, e1, e2, m1⟩ := p
      have z : ls = [] := List.length_eq_zero_iff.mp (by omega)
      rw [z] at m1
      exact ⟨.ref o, rfl, q _ o os ((s2.cut no0).cut nl) g2 (hB2.less hB.w fun c z => .inl (.inl z)) no0 o2 m1⟩
/-- the marks of the rows that are buttons -/
def lsF (es : List FlE) : List Str := (es.filter fun e => isB e.2.1).map (·.1)
theorem btns_of {n : Nd} {es : List FlE} (h : n.subs.map entN = es.map entF) : btns n = lsF es := by
  have e1 : btns n = ((n.subs.map entN).filter fun p => isB p.2).map (·.1) := by
    unfold btns
    rw [List.filter_map, List.map_map]
    rfl
  rw [e1, h, List.filter_map, List.map_map]
  rfl
def sp_listed : Sp := fun vs H Q _ => ∃ (v : V) (es : List FlE) (M : Ms), vs = [v] ∧ Rp M H v (.list (es.map flE)) ∧ es.length ≤ 400 ∧ (∀ e ∈ es, e.2.1.length ≤ 30) ∧ ∀ H' p, Same H H' → H p = none → H' p = some (.lst ((lsF es).map V.str)) → Q (.ref p) H'
theorem ok_listed (T : Txt K mg) : FnOk P w K mg base CX0 1 T.f__law_listed T.d__law_listed ["_law_flat_here"] sp_listed := by
  refine T.F__law_listed.ok sc__law_listed (fun vs H Q E h => ?_) (fun cdv A outer s H vs Q E hr h => ?_)
  · obtain ⟨_, _, _, rfl, _⟩ := h
    rfl
  · obtain ⟨v, es, M, rfl, hR, hl, h30, q⟩ := h
    obtain ⟨fl, fs, rfl, nfl, hfl, rfs⟩ := Rp.lstN hR
    have lfs := rfs.length
    rw [List.length_map] at lfs
    refine ⟨_, (pss_one (ps_ret (pe_lc (own := [("_law_row", 1)]) (g := gName 1)  (by rfl) sc__law_listed.nd (pi_listK (K := K) rfl (pv 0)) (blkOk_by (own := [("_law_row", 1)]) (N := ["_law_flat_here", "_law_row"]) (sc := defScope s__law_listed) (by decide +kernel)) (fun _ _ _ _ _ => (pg_name (i := 1) sc__law_listed.nd rfl (Or.inl rfl))) (fun _ _ _ _ _ => (pts_one (pt_cmpR op_eq (pe_slice sl_str (pe_ix (ix_tupK (K := K) rfl) (pv 1) pe_int (fun _ _ => rfl)) po_none (po_some pe_int)) pe_str (nomark _)))) (fun _ _ _ _ _ => (pe_ix (ix_tupK (K := K) rfl) (pv 1) pe_int (fun _ _ => rfl)))))), ?_⟩
    walk_at "g"
    refine ⟨⟨_, .inl hfl⟩, fun D hD => ?_⟩
    refine list_loop (K := K) (a := fl) (xs := fs) (fun j H' => Same H H' ∧ H' D = some (.lst ((lsF (es.take j)).map V.str))) ⟨same_new hD, upd_same⟩ (fun j H' _ z => .inl (same_rd z.1 hfl)) (fun j x6 H6 hx6 p => ?_) (fun H6 p => ?_)
    · obtain ⟨s6, eD⟩ := p
      obtain ⟨d6, hd6, ru⟩ := rfs.get hx6
      rw [List.getElem?_map] at hd6
      obtain ⟨e6, he6, rfl⟩ := Option.map_eq_some_iff.mp hd6
      have hj := (List.getElem?_eq_some_iff.mp he6).1
      have hb6 := h30 e6 (List.mem_of_getElem? he6)
      obtain ⟨tp, ts, rfl, nt, ht, rt⟩ := Rp.tupN ru
      obtain ⟨y1, y2, y3, rfl, c1, c2, c3⟩ := rt.inv3
      cases c1; cases c2; cases c3
      have t6 := same_rd s6 ht
      walk_at "g"
      refine ⟨Nat.le_of_lt (small1000 (by omega)), ?_⟩
      walk_at "g"
      rw [show decide (V.str (cutS e6.2.1 none (some 7)) = V.str (Str.ofString "button ")) = isB e6.2.1 from isB_cut _]
      by_cases hc : isB e6.2.1 = true
      · rw [hc]
        walk_at "g"
        refine ⟨_, eD, ?_, same_put s6 hD, ?_⟩
        · rw [List.length_map]
          unfold lsF
          rw [List.length_map]
          have := List.length_filter_le (fun e : FlE => isB e.2.1) (es.take j)
          rw [List.length_take] at this
          exact small1000 (by omega)
        · unfold lsF
          rw [upd_same, List.take_add_one, he6, Option.toList_some, List.filter_append, List.filter_cons_of_pos (by simpa using hc), List.filter_nil, List.map_append, List.map_append]
          rfl
      · rw [show isB e6.2.1 = false by simpa using hc]
        refine ⟨s6, ?_⟩
        unfold lsF at eD ⊢
        rw [List.take_add_one, he6, Option.toList_some, List.filter_append, List.filter_cons_of_neg (by simpa using hc), List.filter_nil, List.append_nil]
        exact eD
    · obtain ⟨s6, eD⟩ := p
      rw [List.take_of_length_le (show es.length ≤ fs.length by omega)] at eD
      exact q H6 D s6 (by exact hD) eD
end
end D

namespace D
open PySem PySem.Spec PyProof.Rows L2
local macro_rules | `(tactic| walk_at "st") => `(tactic| first | exact SqT.of (by assumption) | exact Or.inl (by assumption) | exact SqT.of upd_same | fail "st")
local macro_rules | `(tactic| walk_at "ixt") => `(tactic| refine ⟨_, _, _, _, rfl, rfl, (by walk_at "st" : SqT _ _ _ _), by rfl, ?_⟩)
local macro_rules | `(tactic| walk_at "sq") => `(tactic| first | exact SqL.of (by assumption) | assumption | exact Or.inl (by assumption) | exact SqL.of upd_same | fail "sq")
local macro_rules | `(tactic| walk_at "ix") => `(tactic| refine ⟨_, _, _, _, rfl, rfl, (by walk_at "sq" : SqL _ _ _ _), by rfl, ?_⟩)
local macro_rules | `(tactic| walk_at "set") => `(tactic| refine ⟨_, _, _, _, rfl, rfl, by first | assumption | exact upd_same, by rfl, ?_⟩)
local macro_rules | `(tactic| walk_at "len") => `(tactic| refine ⟨_, _, rfl, Or.inl (by walk_at "sq" : SqL _ _ _ _), ?_⟩)
local macro_rules | `(tactic| walk_at "g") => `(tactic| repeat (first | refine ⟨_, rfl, ?_⟩ | refine ⟨_, _, rfl, rfl, ?_⟩ | refine ⟨Or.inr (by decide), ?_⟩ | refine ⟨Or.inl (by decide), ?_⟩ | refine ⟨(by decide : (0 : Int) < _), ?_⟩ | refine ⟨(⟨by decide, by decide⟩ : CDiv _ _), ?_⟩ | refine ⟨(⟨by decide, by decide, by decide⟩ : CPow _ _), ?_⟩ | refine Or.inl ⟨_, rfl, ?_⟩ | refine ⟨rfl, ?_⟩ | walk_at "ix" | walk_at "ixt" | walk_at "len" | fail "g"))
local macro_rules | `(tactic| walk_at "if") => `(tactic| refine ite2 (fun e => ?_) (fun e => ?_))
section
variable {P : Program} {w : World} {K : PySem.W.Frag} {mg : Str → Option Value} {base : Heap}
theorem scal_at (a c : Option Str) : scal (atV a) (atV c) = true := by cases a <;> cases c <;> rfl
theorem idx_at {l : List Str} {x : Str} {i : Nat} (nd : l.Nodup) (h : l[i]? = some x) : l.idxOf x = i := by
  have hm := List.mem_of_getElem? h
  have hi := List.idxOf_lt_length_of_mem hm
  have e : l[l.idxOf x]? = some x := by rw [List.getElem?_eq_getElem hi, List.getElem_idxOf]
  exact (List.getElem?_inj hi nd).mp (e.trans h.symm)
theorem near_in {m : Str} {old new : List Str} {x : Str} (h : nearO m old new = some x) : x ∈ old ∧ x ∈ new := by
  have h1 := List.mem_of_find?_eq_some h
  have h2 := List.find?_some h
  refine ⟨?_, of_decide_eq_true h2⟩
  rcases List.mem_append.mp h1 with z | z
  · exact List.mem_of_mem_drop z
  · exact List.mem_of_mem_take (List.mem_reverse.mp z)
theorem near_none {m y : Str} {old new : List Str} (h : nearO m old new = none) (hy : y ∈ old) (hn : y ∈ new) : y = m := by
  have h1 := List.find?_eq_none.mp h
  by_cases e : y = m
  · exact e
  obtain ⟨i, hi, rfl⟩ := List.getElem_of_mem hy
  refine absurd (decide_eq_true hn) (h1 _ ?_)
  have hne : i ≠ old.idxOf m := fun z => e (by subst z; exact List.getElem_idxOf hi)
  rcases Nat.lt_or_gt_of_ne hne with z | z
  · refine List.mem_append_right _ (List.mem_reverse.mpr ?_)
    exact List.mem_take_iff_getElem.mpr ⟨i, by omega, rfl⟩
  · refine List.mem_append_left _ ?_
    exact List.mem_drop_iff_getElem.mpr ⟨i - (old.idxOf m + 1), by omega, by congr 1; omega⟩
theorem near_split {m x : Str} {old new : List Str} (hm : m ∈ old) (nd : old.Nodup) (hmn : m ∉ new) (h : nearO m old new = some x) :
    (old.idxOf m < old.idxOf x ∧ ∀ i, old.idxOf m < i → i < old.idxOf x → ∀ y, old[i]? = some y → y ∉ new) ∨ (old.idxOf x < old.idxOf m ∧ ∀ i, old.idxOf x < i → ∀ y, old[i]? = some y → y ∉ new) := by
  have hk := List.idxOf_lt_length_of_mem hm
  have ekm : old[old.idxOf m]? = some m := by rw [List.getElem?_eq_getElem hk, List.getElem_idxOf]
  generalize hk0 : old.idxOf m = k at *
  unfold nearO at h
  rw [hk0, List.find?_append] at h
  cases hd : (old.drop (k + 1)).find? (fun x => decide (x ∈ new)) with
  | some y =>
    rw [hd] at h
    cases h
    obtain ⟨hx, as, bs, e, hno⟩ := List.find?_eq_some_iff_append.mp hd
    have ej : old[k + 1 + as.length]? = some x := by
      rw [← List.getElem?_drop, e, List.getElem?_append_right (Nat.le_refl _), Nat.sub_self]
      rfl
    have ij := idx_at nd ej
    refine .inl ⟨by omega, fun i h1 h2 y hy hyn => ?_⟩
    have : (old.drop (k + 1))[i - (k + 1)]? = some y := by rw [List.getElem?_drop, show k + 1 + (i - (k + 1)) = i by omega]; exact hy
    rw [e, List.getElem?_append_left (by omega)] at this
    have := hno y (List.mem_of_getElem? this)
    simp [hyn] at this
  | none =>
    rw [hd] at h
    have h : ((old.take k).reverse).find? (fun x => decide (x ∈ new)) = some x := h
    have hd := List.find?_eq_none.mp hd
    obtain ⟨hx, as, bs, e, hno⟩ := List.find?_eq_some_iff_append.mp h
    have e2 : old.take k = bs.reverse ++ x :: as.reverse := by
      have := congrArg List.reverse e
      rw [List.reverse_reverse, List.reverse_append, List.reverse_cons, List.append_assoc] at this
      exact this
    have lk : k = bs.length + 1 + as.length := by
      have := congrArg List.length e2
      rw [List.length_take, List.length_append, List.length_cons, List.length_reverse, List.length_reverse] at this
      omega
    have tk : ∀ i, i < k → old[i]? = (old.take k)[i]? := fun i hi => by rw [List.getElem?_take_of_lt hi]
    have ej : old[bs.length]? = some x := by
      rw [tk _ (by omega), e2, List.getElem?_append_right (by rw [List.length_reverse]; exact Nat.le_refl _), List.length_reverse, Nat.sub_self]
      rfl
    have ij := idx_at nd ej
    refine .inr ⟨by omega, fun i h1 y hy hyn => ?_⟩
    rcases Nat.lt_trichotomy i k with z | z | z
    · rw [tk i z, e2, List.getElem?_append_right (by rw [List.length_reverse]; omega), List.length_reverse] at hy
      obtain ⟨c, hc⟩ : ∃ c, i - bs.length = c + 1 := ⟨i - bs.length - 1, by omega⟩
      rw [hc, List.getElem?_cons_succ] at hy
      have := hno y (List.mem_reverse.mp (List.mem_of_getElem? hy))
      simp [hyn] at this
    · rw [z, ekm] at hy
      cases hy
      exact hmn hyn
    · have : (old.drop (k + 1))[i - (k + 1)]? = some y := by rw [List.getElem?_drop, show k + 1 + (i - (k + 1)) = i by omega]; exact hy
      exact hd y (List.mem_of_getElem? this) (decide_eq_true hyn)
theorem cut_mid (xs : List V) (i j : Nat) (h : i ≤ j) (h2 : j ≤ xs.length) : cutV xs (some ((i : Nat) : Int)) (some ((j : Nat) : Int)) = (xs.drop i).take (j - i) := by
  unfold cutV
  rw [HT.sIx_nat, HT.sIx_nat]
  rw [Nat.min_eq_left (show i ≤ xs.length by omega)]
  first | rfl | rw [Nat.min_eq_left h2]
def sp_turned (K : PySem.W.Frag) : Sp := fun vs H Q _ => ∃ (ru : Str) (o : Option Str) (po pn : Addr) (old new : List Str), vs = [.str ru, atV o, .ref po, .ref pn, atV (settleO ru o old new)] ∧ ru ∈ rules ∧ H po = some (.lst (old.map V.str)) ∧ H pn = some (.lst (new.map V.str)) ∧ (∀ m, o = some m → m ∈ old) ∧ old.Nodup ∧ old.length ≤ 400 ∧ ∀ H', Same H H' → Q (.bl true) H'
theorem ok_turned (T : Txt K mg) : FnOk P w K mg base CX0 1 T.f__law_turned T.d__law_turned ["_law_word", "_law_lost", "_law_old", "_law_new", "_law_told"] (sp_turned K) := by
  refine T.F__law_turned.ok sc__law_turned (fun vs H Q E h => ?_) (fun cdv A outer s H vs Q E hr h => ?_)
  · obtain ⟨_, _, _, _, _, _, rfl, _⟩ := h
    rfl
  · obtain ⟨ru, o, po, pn, old, new, rfl, hru, hpo, hpn, ho, hnd, h400, q⟩ := h
    have q0 := q H (fun _ _ z => z)
    refine ⟨_, (pss_cons (ps_if (PW.pt (pw_or (pt_cmpR op_isN (pv 1) pe_non (nomark _)) (pw_or1 (PW.pt (pw_and (pt_cmpR op_eq (pv 0) pe_str (nomark _)) (pw_and1 (pt_cmpR (op_notIn_seqK (K := K) rfl) (pv 1) (pv 3) (by rfl)))))))) (pss_one (ps_ret (pe_cmpR op_isN (pv 4) pe_non (nomark _)))) pss_nil)
      (pss_cons (ps_if (pt_cmpR (op_in_seqK (K := K) rfl) (pv 1) (pv 3) (by rfl)) (pss_one (ps_ret (pe_cmpR op_eq (pv 4) (pv 1) (nomark _)))) pss_nil)
      (pss_cons (ps_if (pt_cmpR op_eq (pv 0) pe_str (nomark _)) (pss_one (ps_ret (pe_ifExp (pt_truthK (K := K) rfl (pv 3) (by intro _; rfl)) (pe_cmpR op_eq (pv 4) (pe_ix (ix_listK (K := K) rfl) (pv 3) pe_int (fun _ _ => rfl)) (nomark _)) (pe_cmpR op_isN (pv 4) pe_non (nomark _))))) pss_nil)
      (pss_cons (ps_set (i := 5) sc__law_turned.nd rfl (Or.inr rfl) (pe_lc (own := [("_law_mark", 7)]) (g := gName 7)  (by rfl) sc__law_turned.nd (pi_listK (K := K) rfl (pv 2)) (blkOk_by (own := [("_law_mark", 7)]) (N := ["_law_word", "_law_lost", "_law_old", "_law_new", "_law_told", "_law_left", "_law_behind", "_law_mark"]) (sc := defScope s__law_turned) (by decide +kernel)) (fun _ _ _ _ _ => (pg_name (i := 7) sc__law_turned.nd rfl (Or.inl rfl))) (fun _ _ _ _ _ => (pts_one (pt_cmpR (op_in_seqK (K := K) rfl) (pv 7) (pv 3) (by rfl)))) (fun _ _ _ _ _ => (pv 7))))
      (pss_cons (ps_if (pt_not (pt_truthK (K := K) rfl (pv 5) (by intro _; rfl))) (pss_one (ps_ret (pe_cmpR op_isN (pv 4) pe_non (nomark _)))) pss_nil)
      (pss_cons (ps_if (pt_cmpR (op_notIn_seqK (K := K) rfl) (pv 4) (pv 5) (by rfl)) (pss_one (ps_ret pe_bl)) pss_nil)
      (pss_cons (ps_set (i := 6) sc__law_turned.nd rfl (Or.inl rfl) (pe_slice (sl_listK (K := K) rfl) (pv 2) (po_some (pe_op op_add (pe_bmK2 (K := K) rfl PySem.F.plainAttrs_list PySem.F.slot_list_index PySem.F.type_list_index mt_index (pv 2) (pa_cons (pv 4) pa_nil)) pe_int)) po_none))
      (pss_cons (ps_if (pt_cmpR op_gt (pe_bmK2 (K := K) rfl PySem.F.plainAttrs_list PySem.F.slot_list_index PySem.F.type_list_index mt_index (pv 2) (pa_cons (pv 4) pa_nil)) (pe_bmK2 (K := K) rfl PySem.F.plainAttrs_list PySem.F.slot_list_index PySem.F.type_list_index mt_index (pv 2) (pa_cons (pv 1) pa_nil)) (nomark _)) (pss_one (ps_set (i := 6) sc__law_turned.nd rfl (Or.inl rfl) (pe_slice (sl_listK (K := K) rfl) (pv 2) (po_some (pe_op op_add (pe_bmK2 (K := K) rfl PySem.F.plainAttrs_list PySem.F.slot_list_index PySem.F.type_list_index mt_index (pv 2) (pa_cons (pv 1) pa_nil)) pe_int)) (po_some (pe_bmK2 (K := K) rfl PySem.F.plainAttrs_list PySem.F.slot_list_index PySem.F.type_list_index mt_index (pv 2) (pa_cons (pv 4) pa_nil)))))) pss_nil)
      (pss_one (ps_ret (pe_cmpR op_eq (pe_callB (call_lenK (K := K) rfl) (by rfl) T.m_len PySem.boot_len (pa_cons (pe_lc (own := [("_law_mark", 7)]) (g := gName 7)  (by rfl) sc__law_turned.nd (pi_listK (K := K) rfl (pv 6)) (blkOk_by (own := [("_law_mark", 7)]) (N := ["_law_word", "_law_lost", "_law_old", "_law_new", "_law_told", "_law_left", "_law_behind", "_law_mark"]) (sc := defScope s__law_turned) (by decide +kernel)) (fun _ _ _ _ _ => (pg_name (i := 7) sc__law_turned.nd rfl (Or.inl rfl))) (fun _ _ _ _ _ => (pts_one (pt_cmpR (op_in_seqK (K := K) rfl) (pv 7) (pv 5) (by rfl)))) (fun _ _ _ _ _ => (pv 7))) pa_nil)) pe_int (nomark _)))))))))))), ?_⟩
    cases o with
    | none =>
      walk_at "g"
      exact q0
    | some m =>
      have hm := ho m rfl
      have inn : ∀ b, inV (atV (some m)) (List.map V.str new) = b ↔ decide (m ∈ new) = b := fun b => by rw [show inV (atV (some m)) (List.map V.str new) = decide (m ∈ new) from in_strs m new]
      by_cases c : m ∈ new
      · have es : settleO ru (some m) old new = some m := by
          unfold settleO
          dsimp only
          rw [if_pos c]
        rw [es]
        have ei := (inn true).mpr (decide_eq_true c)
        walk_at "g"
        by_cases c0 : ru = sNone
        · rw [show decide (V.str ru = V.str (Str.ofString "none")) = true from decide_eq_true (by rw [c0]; rfl)]
          walk_at "g"
          refine ⟨flat_strs _, ?_⟩
          rw [ei]
          walk_at "g"
          refine ⟨flat_strs _, ?_⟩
          rw [ei]
          walk_at "g"
          rw [show decide (atV (some m) = atV (some m)) = true from decide_eq_true rfl]
          exact q0
        · rw [show decide (V.str ru = V.str (Str.ofString "none")) = false from decide_eq_false (fun z => c0 (by injection z))]
          walk_at "g"
          refine ⟨flat_strs _, ?_⟩
          rw [ei]
          walk_at "g"
          rw [show decide (atV (some m) = atV (some m)) = true from decide_eq_true rfl]
          exact q0
      · have ei := (inn false).mpr (decide_eq_false c)
        walk_at "g"
        by_cases c0 : ru = sNone
        · have es : settleO ru (some m) old new = none := by
            unfold settleO
            dsimp only
            rw [if_neg c, c0, if_neg (by decide +kernel), if_neg (by decide +kernel)]
          rw [es]
          rw [show decide (V.str ru = V.str (Str.ofString "none")) = true from decide_eq_true (by rw [c0]; rfl)]
          walk_at "g"
          refine ⟨flat_strs _, ?_⟩
          rw [ei]
          walk_at "g"
          exact q0
        · rw [show decide (V.str ru = V.str (Str.ofString "none")) = false from decide_eq_false (fun z => c0 (by injection z))]
          walk_at "g"
          refine ⟨flat_strs _, ?_⟩
          rw [ei]
          walk_at "g"
          by_cases c1 : ru = sFirst
          · have es : settleO ru (some m) old new = new[0]? := by
              unfold settleO
              dsimp only
              rw [if_neg c, c1, if_neg (by decide +kernel), if_pos rfl]
            rw [es]
            rw [show decide (V.str ru = V.str (Str.ofString "first")) = true from decide_eq_true (by rw [c1]; rfl)]
            walk_at "g"
            cases new with
            | nil =>
              refine ⟨false, .inl ⟨_, SqL.of hpn, rfl⟩, ?_⟩
              walk_at "g"
              exact q0
            | cons y r =>
              refine ⟨true, .inl ⟨_, SqL.of hpn, rfl⟩, ?_⟩
              walk_at "g"
              refine ⟨pn, _, 0, .str y, rfl, rfl, SqL.of hpn, atI_nat (j := 0) rfl, scal_at (some y) (some y), ?_⟩
              rw [show decide (atV (y :: r)[0]? = V.str y) = true from decide_eq_true rfl]
              exact q0
          · rw [show decide (V.str ru = V.str (Str.ofString "first")) = false from decide_eq_false (fun z => c1 (by injection z))]
            have hn : ru = sNear := by
              have : ru = Str.ofString "none" ∨ ru = Str.ofString "first" ∨ ru = Str.ofString "near" := by
                unfold rules at hru
                simpa using hru
              rcases this with z | z | z
              · exact absurd z c0
              · exact absurd z c1
              · exact z
            have es : settleO ru (some m) old new = nearO m old new := by
              unfold settleO
              dsimp only
              rw [if_neg c, if_pos hn]
            rw [es]
            walk_at "g"
            refine ⟨⟨_, SqL.of hpo⟩, fun D hD => ?_⟩
            refine list_loop (K := K) (a := po) (xs := old.map V.str) (fun j H' => Same H H' ∧ H' D = some (.lst (((old.take j).filter fun x => decide (x ∈ new)).map V.str))) ⟨same_new hD, upd_same⟩ (fun j H' _ z => SqL.of (z.1 _ _ hpo)) (fun j x6 H6 hx6 p => ?_) (fun H6 p => ?_)
            · obtain ⟨s6, eD⟩ := p
              rw [List.getElem?_map] at hx6
              obtain ⟨y, hy, rfl⟩ := Option.map_eq_some_iff.mp hx6
              have hj := (List.getElem?_eq_some_iff.mp hy).1
              walk_at "g"
              refine ⟨pn, _, rfl, .inl (SqL.of (s6 _ _ hpn)), rfl, flat_strs _, ?_⟩
              by_cases cy : y ∈ new
              · rw [show inV (.str y) (List.map V.str new) = true from (in_strs y new).trans (decide_eq_true cy)]
                walk_at "g"
                refine ⟨_, eD, ?_, same_put s6 hD, ?_⟩
                · rw [List.length_map]
                  have := List.length_filter_le (fun x : Str => decide (x ∈ new)) (old.take j)
                  rw [List.length_take] at this
                  exact small1000 (by omega)
                · rw [upd_same, List.take_add_one, hy, Option.toList_some, List.filter_append, List.filter_cons_of_pos (by simpa using cy), List.filter_nil, List.map_append]
                  rfl
              · rw [show inV (.str y) (List.map V.str new) = false from (in_strs y new).trans (decide_eq_false cy)]
                refine ⟨false, rfl, s6, ?_⟩
                rw [List.take_add_one, hy, Option.toList_some, List.filter_append, List.filter_cons_of_neg (by simpa using cy), List.filter_nil, List.append_nil]
                exact eD
            · obtain ⟨s6, eD⟩ := p
              rw [List.length_map, List.take_length] at eD
              obtain ⟨left, hleft⟩ : ∃ left, left = old.filter fun x => decide (x ∈ new) := ⟨_, rfl⟩
              rw [← hleft] at eD
              have mleft : ∀ y, y ∈ left ↔ y ∈ old ∧ y ∈ new := fun y => by rw [hleft, List.mem_filter, decide_eq_true_iff]
              have hpo6 := s6 _ _ hpo
              walk_at "g"
              by_cases cl : left = []
              · have en : nearO m old new = none := by
                  cases e : nearO m old new with
                  | none => rfl
                  | some x => exact absurd ((mleft x).mpr (near_in e)) (by rw [cl]; exact List.not_mem_nil)
                rw [en]
                refine ⟨false, .inl ⟨_, SqL.of eD, by rw [cl]; rfl⟩, ?_⟩
                walk_at "g"
                exact q H6 s6
              · obtain ⟨x, en⟩ : ∃ x, nearO m old new = some x := by
                  cases e : nearO m old new with
                  | some x => exact ⟨x, rfl⟩
                  | none =>
                    obtain ⟨y, hy⟩ := List.exists_mem_of_ne_nil _ cl
                    have hy2 := (mleft y).mp hy
                    have := near_none e hy2.1 hy2.2
                    exact absurd (this ▸ hy2.2) c
                rw [en]
                have hx := near_in en
                have hxl := (mleft x).mpr hx
                refine ⟨true, .inl ⟨_, SqL.of eD, by cases left with | nil => exact absurd rfl cl | cons a r => rfl⟩, ?_⟩
                walk_at "g"
                refine ⟨flat_strs _, ?_⟩
                rw [show inV (atV (some x)) (List.map V.str left) = true from (in_strs x left).trans (decide_eq_true hxl)]
                walk_at "g"
                have fst : ∀ y, y ∈ old → ∀ (i : Nat) (z' : V), i < old.idxOf y → (old.map V.str)[i]? = some z' → eqV z' (.str y) = false := fun y hy i z' hi e => by
                  rw [List.getElem?_map] at e
                  obtain ⟨m2, hm2, rfl⟩ := Option.map_eq_some_iff.mp e
                  show (m2 == y) = false
                  rw [beq_eq_false_iff_ne]
                  rintro rfl
                  have := idx_at hnd hm2
                  omega
                have ath : ∀ y, y ∈ old → (old.map V.str)[old.idxOf y]? = some (.str y) := fun y hy => by
                  have := List.idxOf_lt_length_of_mem hy
                  rw [List.getElem?_map, List.getElem?_eq_getElem this, List.getElem_idxOf]
                  rfl
                have lox := List.idxOf_lt_length_of_mem hx.1
                have lom := List.idxOf_lt_length_of_mem hm
                have olen : (old.map V.str).length = old.length := List.length_map _
                refine ⟨.inl ⟨rfl, _, SqL.of hpo6⟩, ?_⟩
                walk_at "g"
                refine ⟨po, _, .str x, old.idxOf x, .str x, rfl, rfl, SqL.of hpo6, rfl, flat_strs _, ath x hx.1, beq_self_eq_true _, fst x hx.1, ?_⟩
                walk_at "g"
                refine ⟨po, _, rfl, SqL.of hpo6, fun p4 hp4 => ?_⟩
                have hp4 : H6 p4 = none := hp4
                rw [show ((old.idxOf x : Int) + 1) = ((old.idxOf x + 1 : Nat) : Int) by omega, cut_from _ _ (by rw [olen]; omega), show (old.map V.str).drop (old.idxOf x + 1) = (old.drop (old.idxOf x + 1)).map V.str from List.map_drop.symm]
                have s7 := same_new hp4 (o := .lst ((old.drop (old.idxOf x + 1)).map V.str))
                have e7 : upd H6 p4 (.lst ((old.drop (old.idxOf x + 1)).map V.str)) p4 = some (.lst ((old.drop (old.idxOf x + 1)).map V.str)) := upd_same
                generalize upd H6 p4 (.lst ((old.drop (old.idxOf x + 1)).map V.str)) = H7 at s7 e7
                have hpo7 := s7 _ _ hpo6
                have eD7 := s7 _ _ eD
                dsimp only [gName]
                with_reducible refine seq_join (fun σ3 H3 => ∃ (pB : Addr) (beh : List Str), σ3 = [some (.str ru), some (atV (some m)), some (.ref po), some (.ref pn), some (atV (some x)), some (.ref D), some (.ref pB), none] ∧ Same H7 H3 ∧ H3 pB = some (.lst (beh.map V.str)) ∧ beh.length ≤ 400 ∧ ∀ y ∈ beh, y ∉ new) (fun hN => ?_) (fun σ3 H3 cc => ?_)
                · refine ⟨_, rfl, .inl ⟨rfl, _, SqL.of hpo7⟩, ?_⟩
                  walk_at "g"
                  refine ⟨po, _, .str x, old.idxOf x, .str x, rfl, rfl, SqL.of hpo7, rfl, flat_strs _, ath x hx.1, beq_self_eq_true _, fst x hx.1, ?_⟩
                  walk_at "g"
                  refine ⟨.inl ⟨rfl, _, SqL.of hpo7⟩, ?_⟩
                  walk_at "g"
                  refine ⟨po, _, .str m, old.idxOf m, .str m, rfl, rfl, SqL.of hpo7, rfl, flat_strs _, ath m hm, beq_self_eq_true _, fst m hm, ?_⟩
                  walk_at "g"
                  walk_at "if"
                  · rename_i hc
                    have hc : old.idxOf m < old.idxOf x := by
                      have := of_decide_eq_true hc
                      omega
                    have spl : ∀ i, old.idxOf m < i → i < old.idxOf x → ∀ y, old[i]? = some y → y ∉ new := by
                      rcases near_split hm hnd c en with z | z
                      · exact z.2
                      · exact absurd z.1 (by omega)
                    walk_at "g"
                    refine ⟨.inl ⟨rfl, _, SqL.of hpo7⟩, ?_⟩
                    walk_at "g"
                    refine ⟨po, _, .str m, old.idxOf m, .str m, rfl, rfl, SqL.of hpo7, rfl, flat_strs _, ath m hm, beq_self_eq_true _, fst m hm, ?_⟩
                    walk_at "g"
                    refine ⟨.inl ⟨rfl, _, SqL.of hpo7⟩, ?_⟩
                    walk_at "g"
                    refine ⟨po, _, .str x, old.idxOf x, .str x, rfl, rfl, SqL.of hpo7, rfl, flat_strs _, ath x hx.1, beq_self_eq_true _, fst x hx.1, ?_⟩
                    walk_at "g"
                    refine ⟨po, _, rfl, SqL.of hpo7, fun p5 hp5 => ?_⟩
                    have hp5 : H7 p5 = none := hp5
                    rw [show ((old.idxOf m : Int) + 1) = ((old.idxOf m + 1 : Nat) : Int) by omega, cut_mid _ _ _ (by omega) (by rw [olen]; omega), show ((old.map V.str).drop (old.idxOf m + 1)).take (old.idxOf x - (old.idxOf m + 1)) = ((old.drop (old.idxOf m + 1)).take (old.idxOf x - (old.idxOf m + 1))).map V.str by rw [List.map_take, List.map_drop]]
                    refine hN _ _ ⟨p5, _, rfl, same_new hp5, upd_same, by rw [List.length_take, List.length_drop]; omega, fun y hy => ?_⟩
                    obtain ⟨i, hi, rfl⟩ := List.getElem_of_mem hy
                    rw [List.length_take, List.length_drop] at hi
                    refine spl (old.idxOf m + 1 + i) (by omega) (by omega) _ ?_
                    rw [List.getElem_take, List.getElem_drop]
                    exact List.getElem?_eq_getElem _
                  · rename_i hc
                    have hc : ¬ old.idxOf m < old.idxOf x := fun z => hc (decide_eq_true (by omega))
                    have spl : ∀ i, old.idxOf x < i → ∀ y, old[i]? = some y → y ∉ new := by
                      rcases near_split hm hnd c en with z | z
                      · exact absurd z.1 hc
                      · exact z.2
                    refine hN _ _ ⟨p4, _, rfl, fun _ _ z => z, e7, by rw [List.length_drop]; omega, fun y hy => ?_⟩
                    obtain ⟨i, hi, rfl⟩ := List.getElem_of_mem hy
                    rw [List.length_drop] at hi
                    refine spl (old.idxOf x + 1 + i) (by omega) _ ?_
                    rw [List.getElem_drop]
                    exact List.getElem?_eq_getElem _
                · obtain ⟨pB, beh, rfl, s8, e8, lb, hb⟩ := cc
                  have eD8 := s8 _ _ eD7
                  walk_at "g"
                  refine ⟨⟨_, SqL.of e8⟩, fun D2 hD2 => ?_⟩
                  refine list_loop (K := K) (a := pB) (xs := beh.map V.str) (fun j H' => Same H3 H' ∧ H' D2 = some (.lst [])) ⟨same_new hD2, upd_same⟩ (fun j H' _ z => SqL.of (z.1 _ _ e8)) (fun j x9 H9 hx9 p => ?_) (fun H9 p => ?_)
                  · obtain ⟨s9, eD9⟩ := p
                    rw [List.getElem?_map] at hx9
                    obtain ⟨y, hy, rfl⟩ := Option.map_eq_some_iff.mp hx9
                    have hy2 := hb y (List.mem_of_getElem? hy)
                    have eL9 := s9 _ _ eD8
                    walk_at "g"
                    refine ⟨flat_strs _, ?_⟩
                    rw [show inV (.str y) (List.map V.str left) = false from (in_strs y left).trans (decide_eq_false fun z => hy2 ((mleft y).mp z).2)]
                    exact ⟨false, rfl, s9, eD9⟩
                  · obtain ⟨s9, eD9⟩ := p
                    walk_at "g"
                    exact q H9 (s6.trans (s7.trans (s8.trans s9)))
end
end D

namespace D
open PySem PySem.Spec PyProof.Rows L2
local macro_rules | `(tactic| walk_at "st") => `(tactic| first | exact SqT.of (by assumption) | exact Or.inl (by assumption) | exact SqT.of upd_same | fail "st")
local macro_rules | `(tactic| walk_at "ixt") => `(tactic| refine ⟨_, _, _, _, rfl, rfl, (by walk_at "st" : SqT _ _ _ _), by rfl, ?_⟩)
local macro_rules | `(tactic| walk_at "sq") => `(tactic| first | exact SqL.of (by assumption) | assumption | exact Or.inl (by assumption) | exact SqL.of upd_same | fail "sq")
local macro_rules | `(tactic| walk_at "ix") => `(tactic| refine ⟨_, _, _, _, rfl, rfl, (by walk_at "sq" : SqL _ _ _ _), by rfl, ?_⟩)
local macro_rules | `(tactic| walk_at "set") => `(tactic| refine ⟨_, _, _, _, rfl, rfl, by first | assumption | exact upd_same, by rfl, ?_⟩)
local macro_rules | `(tactic| walk_at "len") => `(tactic| refine ⟨_, _, rfl, Or.inl (by walk_at "sq" : SqL _ _ _ _), ?_⟩)
local macro_rules | `(tactic| walk_at "g") => `(tactic| repeat (first | refine ⟨_, rfl, ?_⟩ | refine ⟨_, _, rfl, rfl, ?_⟩ | refine ⟨Or.inr (by decide), ?_⟩ | refine ⟨Or.inl (by decide), ?_⟩ | refine ⟨(by decide : (0 : Int) < _), ?_⟩ | refine ⟨(⟨by decide, by decide⟩ : CDiv _ _), ?_⟩ | refine ⟨(⟨by decide, by decide, by decide⟩ : CPow _ _), ?_⟩ | refine Or.inl ⟨_, rfl, ?_⟩ | refine ⟨rfl, ?_⟩ | walk_at "ix" | walk_at "ixt" | walk_at "len" | fail "g"))
local macro_rules | `(tactic| walk_at "if") => `(tactic| refine ite2 (fun e => ?_) (fun e => ?_))
section
variable {P : Program} {w : World} {K : PySem.W.Frag} {mg : Str → Option Value} {base : Heap}
/-- rows that may be grown -/
structure gF (es : List FlE) : Prop where
  ms : goodMs (es.map (·.1))
  len : es.length ≤ 400
  lab : ∀ e ∈ es, e.2.1.length ≤ 30 ∧ asc e.2.1 ∧ e.2.2 ≤ 4
  hd : ∃ e r, es = e :: r ∧ e.2.2 = 0 ∧ ∀ x ∈ r, 1 ≤ x.2.2
def unS : V → Str
  | .str z => z
  | _ => Str.ofString ""
theorem perm_strs {ys : List V} {ms : List Str} (h : ys.Perm (ms.map V.str)) : ∃ zs : List Str, ys = zs.map V.str ∧ zs.Perm ms := by
  refine ⟨ys.map unS, ?_, ?_⟩
  · rw [List.map_map]
    conv => lhs; rw [← List.map_id ys]
    refine List.map_congr_left fun y hy => ?_
    obtain ⟨z, _, rfl⟩ := List.mem_map.mp (h.mem_iff.mp hy)
    rfl
  · have := h.map unS
    rw [List.map_map] at this
    have e : (unS ∘ V.str) = id := rfl
    rwa [e, List.map_id] at this
theorem goodMs_sub {a b : List Str} (h : goodMs b) (s : a.Sublist b) : goodMs a := ⟨h.1.sublist s, fun m hm => h.2 m (s.subset hm)⟩
theorem goodMs_perm {a b : List Str} (h : goodMs b) (s : a.Perm b) : goodMs a := ⟨s.nodup_iff.mpr h.1, fun m hm => h.2 m (s.mem_iff.mp hm)⟩
def sp_fresh (K : PySem.W.Frag) : Sp := fun vs H Q _ => ∃ (b pa : Addr) (pool : List Str) (M : Ms), vs = [.ref b, .ref pa] ∧ Bag K M H b ∧ Mk M H ∧ Rd H pa (.lst (pool.map V.str)) ∧ goodMs pool ∧ pool ≠ [] ∧ pool.length ≤ 400 ∧ pa ≠ b ∧ Dr K M b H (fun d => ∃ es : List FlE, d = .list (es.map flE) ∧ gF es) Q
theorem ok_fresh (T : Txt K mg) : FnOk P w K mg base CX0 8 T.f__law_fresh T.d__law_fresh ["_law_bag_here", "_law_pool"] (sp_fresh K) := by
  have G__law_pick := ok_pick (P := P) (w := w) (base := base) T
  have G__law_mingled := ok_mingV (P := P) (w := w) (base := base) T
  have G__law_flat := ok_flat (P := P) (w := w) (base := base) T
  refine T.F__law_fresh.ok sc__law_fresh (fun vs H Q E h => ?_) (fun cdv A outer s H vs Q E hr h => ?_)
  · obtain ⟨_, _, _, _, rfl, _⟩ := h
    rfl
  · obtain ⟨b, pa, pool, M, rfl, hB, hM, hp, gp, hne, h400, pb, q⟩ := h
    have pl : (pool.map V.str).length = pool.length := List.length_map _
    have hp0 : 0 < pool.length := List.length_pos_iff.mpr hne
    refine ⟨_, (pss_one (ps_ret (pe_call G__law_flat (hr.mono (by omega)) (by rfl) T.g__law_flat T.F__law_flat.kp T.b__law_flat .nil pass0 (pa_cons (pv 0) (pa_cons (pe_slice (sl_listK (K := K) rfl) (pe_call G__law_mingled (hr.mono (by omega)) (by rfl) T.g__law_mingled T.F__law_mingled.kp T.b__law_mingled .nil pass0 (pa_cons (pv 0) (pa_cons (pv 1) pa_nil))) po_none (po_some (pe_op op_add pe_int (pe_call G__law_pick (hr.mono (by omega)) (by rfl) T.g__law_pick T.F__law_pick.kp T.b__law_pick .nil pass0 (pa_cons (pv 0) (pa_cons (pe_callB (call_lenK (K := K) rfl) (by rfl) T.m_len PySem.boot_len (pa_cons (pv 1) pa_nil)) pa_nil)))))) (pa_cons pe_int pa_nil)))))), ?_⟩
    walk_at "g"
    refine ⟨b, pa, _, M, rfl, hB, hM, .inl hp, by rw [pl]; omega, fun H1 p ys s1 g1 hB1 hpn hpy hperm => ?_⟩
    obtain ⟨zs, rfl, hz⟩ := perm_strs hperm
    have hp1 := sx_rd s1 (fun z : pa = b => pb z) hp
    have hM1 := hM.gr g1
    have lz : zs.length = pool.length := hz.length_eq
    walk_at "g"
    refine ⟨b, pool.length, M, by rw [pl]; rfl, hB1, by omega, by omega, fun w2 H2 b0 b1 hA2 hB2 => ?_⟩
    obtain ⟨n, rfl⟩ : ∃ k : Nat, w2 = (k : Int) := ⟨w2.toNat, by omega⟩
    have pnb : p ≠ b := fun z => by rw [z] at hpn; exact hB.there hpn
    have hp2 := (hA2 p pnb).trans hpy
    walk_at "g"
    refine ⟨p, _, rfl, SqL.of hp2, fun p4 hp4 => ?_⟩
    have hp4 : H2 p4 = none := hp4
    rw [show (1 + (n : Int)) = ((1 + n : Nat) : Int) by omega, cut_to _ _ (by rw [List.length_map]; omega), show (zs.map V.str).take (1 + n) = (zs.take (1 + n)).map V.str from List.map_take.symm]
    have e4 : upd H2 p4 (.lst ((zs.take (1 + n)).map V.str)) p4 = some (.lst ((zs.take (1 + n)).map V.str)) := upd_same
    have s4 := same_new hp4 (o := .lst ((zs.take (1 + n)).map V.str))
    generalize upd H2 p4 (.lst ((zs.take (1 + n)).map V.str)) = H4 at e4 s4
    have g2 := g1.trans (hA2.gr hB2.there)
    have hM2 := hM.gr g2
    have n4 := hM2.out hp4
    walk_at "g"
    refine ⟨b, .ref p4, 4, zs.take (1 + n), M, rfl, hB2.same s4, hM2.gr (Gr.same s4), .lst n4 (.inl e4) (RpAll.strs _), (fun z => by have := congrArg List.length z; rw [List.length_take, List.length_nil] at this; omega), by rw [List.length_take]; omega, by omega, by omega, fun v5 H5 d5 s5 g5 hB5 r5 hd5 => ?_⟩
    obtain ⟨es, rfl, k1, k2, k3⟩ := hd5
    refine q _ _ _ (s1.trans (hA2.sx.trans ((Sx.same s4).trans s5))) (g2.trans ((Gr.same s4).trans g5)) hB5 r5 ⟨es, rfl, ⟨?_, ?_, k2, k3⟩⟩
    · rw [k1]
      exact goodMs_sub (goodMs_perm gp hz) (List.take_sublist _ _)
    · have := congrArg List.length k1
      rw [List.length_map, List.length_take] at this
      omega
def WornI (K : PySem.W.Frag) (M : Ms) (b a O : Addr) (lost : Option Str) (H2 : Hp) (es0 : List FlE) (i : Nat) (σ : L2.St) (H' : Hp) : Prop := (∃ y4 y5 y6 y7 y8, σ = [some (.ref b), some (.ref a), some (atV lost), some (.ref O), y4, y5, y6, y7, y8]) ∧ Sx (also (one b) O) H2 H' ∧ Gr H2 H' ∧ Bag K (also M O) H' b ∧ Mk (also M O) H' ∧ ∃ (vs : List V) (es : List FlE), H' O = some (.lst vs) ∧ RpAll (also M O) H' vs (es.map flE) ∧ (es.map (·.1)).Sublist ((es0.map (·.1)).take (i + 1)) ∧ (∀ e ∈ es, e.2.1.length ≤ 30 ∧ asc e.2.1 ∧ e.2.2 ≤ 4) ∧ ∃ e r, es = e :: r ∧ e.2.2 = 0 ∧ ∀ x ∈ r, 1 ≤ x.2.2
def sp_worn (K : PySem.W.Frag) : Sp := fun vs H Q _ => ∃ (b : Addr) (fv : V) (lost : Option Str) (es : List FlE) (M : Ms), vs = [.ref b, fv, atV lost] ∧ Bag K M H b ∧ Mk M H ∧ Rp M H fv (.list (es.map flE)) ∧ gF es ∧ Dr K M b H (fun d => ∃ es : List FlE, d = .list (es.map flE) ∧ gF es) Q
theorem ok_worn (T : Txt K mg) : FnOk P w K mg base CX0 8 T.f__law_worn T.d__law_worn ["_law_bag_here", "_law_flat_here", "_law_lost"] (sp_worn K) := by
  have G__law_pick := ok_pick (P := P) (w := w) (base := base) T
  have G__law_pressed := ok_pressed (P := P) (w := w) (base := base) T
  refine T.F__law_worn.ok sc__law_worn (fun vs H Q E h => ?_) (fun cdv A outer s H vs Q E hr h => ?_)
  · obtain ⟨_, _, _, _, _, rfl, _⟩ := h
    rfl
  · obtain ⟨b, fv, lost, es, M, rfl, hB, hM, hR, hg, q⟩ := h
    obtain ⟨a, xs, rfl, na, ha, rx⟩ := Rp.lstN hR
    have lx := rx.length
    rw [List.length_map] at lx
    obtain ⟨e0, r0, rfl, z0, z1⟩ := hg.hd
    have hlen := hg.len
    have mb := hB.w
    have ab : a ≠ b := fun z => na (by rw [z]; exact mb)
    refine ⟨_, (pss_cons (ps_set (i := 3) sc__law_worn.nd rfl (Or.inl rfl) (pe_slice (sl_listK (K := K) rfl) (pv 1) po_none (po_some pe_int)))
      (pss_cons (ps_for PassesOwn.never rfl (pi_listK (K := K) rfl (pe_slice (sl_listK (K := K) rfl) (pv 1) (po_some pe_int) po_none)) (pg_tupK (K := K) rfl rfl (pgs_cons (pg_name (i := 4) sc__law_worn.nd rfl (Or.inl rfl)) (pgs_cons (pg_name (i := 5) sc__law_worn.nd rfl (Or.inl rfl)) (pgs_cons (pg_name (i := 6) sc__law_worn.nd rfl (Or.inl rfl)) pgs_nil)))) (pss_cons (ps_set (i := 7) sc__law_worn.nd rfl (Or.inl rfl) (pe_call G__law_pick (hr.mono (by omega)) (by rfl) T.g__law_pick T.F__law_pick.kp T.b__law_pick .nil pass0 (pa_cons (pv 0) (pa_cons pe_int pa_nil))))
      (pss_one (ps_if (PW.pt (pw_and (pt_cmpR op_gt (pv 7) pe_int (nomark _)) (pw_and1 (pt_cmpR op_ne (pv 4) (pv 2) (nomark _))))) (pss_cons (ps_set (i := 8) sc__law_worn.nd rfl (Or.inl rfl) (pe_op op_add (pe_ix (ix_tupK (K := K) rfl) (pe_ix (ix_listK (K := K) rfl) (pv 3) (pe_un un_neg pe_int) (fun _ _ => rfl)) pe_int (fun _ _ => rfl)) pe_int))
      (pss_one (ps_expr (pe_bmK2 (K := K) rfl PySem.F.plainAttrs_list PySem.F.slot_list_append PySem.F.type_list_append mt_append (pv 3) (pa_cons (pe_tup (pa_cons (pv 4) (pa_cons (pe_ifExp (pt_cmpR op_eq (pv 7) pe_int (nomark _)) (pe_call G__law_pressed (hr.mono (by omega)) (by rfl) T.g__law_pressed T.F__law_pressed.kp T.b__law_pressed .nil pass0 (pa_cons (pv 0) pa_nil)) (pv 5)) (pa_cons (pe_ifExp (pt_cmpR op_lt (pv 6) (pv 8) (nomark _)) (pv 6) (pv 8)) pa_nil)))) pa_nil))))) pss_nil))))
      (pss_one (ps_ret (pv 3))))), ?_⟩
    obtain ⟨x0, xr, rfl, rx0, rxr⟩ : ∃ x0 xr, xs = x0 :: xr ∧ Rp M H x0 (flE e0) ∧ RpAll M H xr (r0.map flE) := by
      rw [List.map_cons] at rx
      cases rx with
      | cons p q => exact ⟨_, _, rfl, p, q⟩
    have lxr : xr.length = r0.length := by simpa using lx
    walk_at "g"
    refine ⟨a, _, rfl, .inl ha, fun O hO => ?_⟩
    have hO : H O = none := hO
    rw [show cutV (x0 :: xr) none (some 1) = [x0] from cut_to (x0 :: xr) 1 (by rw [List.length_cons]; omega)]
    have eO : upd H O (.lst [x0]) O = some (.lst [x0]) := upd_same
    have s0 := same_new hO (o := .lst [x0])
    have hM1 : Mk (also M O) (upd H O (.lst [x0])) := hM.new.also upd_there
    have hB1 := (hB.more hO).same s0
    have rx01 := (rx0.fresh hO).sx (Sx.same s0)
    have Ob : O ≠ b := fun z => hB.there (by rw [← z]; exact hO)
    have aO : a ≠ O := rd_ne ha hO
    have ha1 := same_rd s0 ha
    generalize upd H O (.lst [x0]) = H1 at eO s0 hM1 hB1 rx01 ha1
    walk_at "g"
    refine ⟨a, _, rfl, .inl ha1, fun p1 hp1 => ?_⟩
    have hp1 : H1 p1 = none := hp1
    rw [cut1]
    have e1 : upd H1 p1 (.lst xr) p1 = some (.lst xr) := upd_same
    have s1 := s0.trans (same_new hp1 (o := .lst xr))
    have eO1 := same_new hp1 (o := .lst xr) _ _ eO
    have hM2 : Mk (also M O) (upd H1 p1 (.lst xr)) := hM1.gr Gr.upd
    have hB2 := hB1.same (same_new hp1 (o := .lst xr))
    have rx02 := rx01.sx (Sx.new hp1 (o := .lst xr))
    have p1O : p1 ≠ O := fun z => by rw [z, eO] at hp1; cases hp1
    have p1b : p1 ≠ b := fun z => hB1.there (by rw [← z]; exact hp1)
    have rxr2 := (rxr.fresh hO).sx (Sx.same s1)
    generalize upd H1 p1 (.lst xr) = H2 at e1 s1 eO1 hM2 hB2 rx02 rxr2
    refine ⟨p1, rfl, ⟨_, SqL.of e1⟩, ?_⟩
    have lab0 := hg.lab e0 List.mem_cons_self
    refine for_list (K := K) (a := p1) (xs := xr) (WornI K M b a O lost H2 (e0 :: r0)) ⟨⟨_, _, _, _, _, rfl⟩, Sx.refl, Gr.refl, hB2, hM2, [x0], [e0], eO1, .one rx02, (by simp), (fun e he => by rw [List.mem_singleton.mp he]; exact lab0), e0, [], rfl, z0, fun x hx => nomatch hx⟩ (fun i σ H' _ p => SqL.of (p.2.1 _ _ (fun z => z.elim (fun z => p1b z) (fun z => p1O z)) e1)) (fun i x σ H3 hx p => ?_) (fun σ H3 p => ?_)
    · obtain ⟨⟨y4, y5, y6, y7, y8, rfl⟩, s3, g3, hB3, hM3, vs, es', eF, rs, k1, k2, f0, q0, rfl, k3, k4⟩ := p
      obtain ⟨d6, hd6, ru6⟩ := rxr2.get hx
      rw [List.getElem?_map] at hd6
      obtain ⟨e, he, rfl⟩ := Option.map_eq_some_iff.mp hd6
      have hi := (List.getElem?_eq_some_iff.mp he).1
      have labe := hg.lab e (List.mem_cons_of_mem _ (List.mem_of_getElem? he))
      have dpe := z1 e (List.mem_of_getElem? he)
      have le1 : ∀ x, also (one b) O x → also M O x := fun x z => z.elim (fun z => .inl (by rw [show x = b from z]; exact mb)) .inr
      have ru7 := ru6.sx (s3.le le1)
      obtain ⟨t, ts, rfl, nt, ht, rt⟩ := Rp.tupN ru7
      obtain ⟨t1, t2, t3, rfl, q1, q2, q3⟩ := rt.inv3
      cases q1; cases q2; cases q3
      refine ⟨t, _, rfl, .inl ht, rfl, _, _, rfl, _, _, rfl, _, _, rfl, rfl, ?_⟩
      walk_at "g"
      refine ⟨b, 6, also M O, rfl, hB3, by omega, by omega, fun w4 H4 c0 c1 hA4 hB4 => ?_⟩
      have wb : also M O b := .inl mb
      have wO : also M O O := .inr rfl
      have ls := rs.length
      rw [List.length_map] at ls
      obtain ⟨us, u, eu, ru, rl⟩ : ∃ us u, vs = us ++ [u] ∧ RpAll (also M O) H3 us ((f0 :: q0).dropLast.map flE) ∧ Rp (also M O) H3 u (flE ((f0 :: q0).getLast (by simp))) := by
        have e : (f0 :: q0).map flE = (f0 :: q0).dropLast.map flE ++ [flE ((f0 :: q0).getLast (by simp))] := by
          rw [← List.map_singleton, ← List.map_append, List.dropLast_concat_getLast]
        rw [e] at rs
        exact rs.last
      obtain ⟨la1, la2, la3⟩ := k2 _ (List.getLast_mem (l := f0 :: q0) (by simp))
      generalize (f0 :: q0).getLast (by simp) = le at rl la1 la2 la3
      obtain ⟨tl, tls, rfl, ntl, htl, rtl⟩ := Rp.tupN rl
      obtain ⟨t1, t2, t3, rfl, q1, q2, q3⟩ := rtl.inv3
      cases q3
      have em : ((e0 :: r0).map (·.1))[i + 1]? = some e.1 := by rw [List.getElem?_map, List.getElem?_cons_succ, he]; rfl
      have stay : ((f0 :: q0).map (·.1)).Sublist (((e0 :: r0).map (·.1)).take (i + 1 + 1)) := by
        rw [List.take_add_one]
        exact k1.trans (List.sublist_append_left _ _)
      have app : ∀ (H5 : Hp) (l : Str) (dv : Nat) (dvi : Int) (p7 : Addr), Sx (one b) H3 H5 → Gr H3 H5 → Bag K (also M O) H5 b → H5 p7 = none → l.length ≤ 30 → asc l → 1 ≤ dv → dv ≤ 4 → Rp (also M O) (upd H5 p7 (.tup [.str e.1, .str l, .int dvi])) (.ref p7) (flE (e.1, l, dv)) → RpAll (also M O) H5 vs ((f0 :: q0).map flE) → WornI K M b a O lost H2 (e0 :: r0) (i + 1) [some (V.ref b), some (V.ref a), some (atV lost), some (V.ref O), some (V.str e.1), some (V.str e.2.1), some (V.int (e.2.2 : Nat)), some (V.int w4), some (V.int ((le.2.2 : Int) + 1))] (upd (upd H5 p7 (.tup [.str e.1, .str l, .int dvi])) O (.lst (vs ++ [.ref p7]))) := fun H5 l dv dvi p7 S5 G5 hB5 hp7 ll la d1 d4 re rs5 => by
        have rs8 := rs5.sx (Sx.new hp7 (o := .tup [.str e.1, .str l, .int dvi]))
        have pF : ∀ {J : Hp} {o : HO}, Sx (also M O) J (upd J O o) := Sx.put wO
        exact ⟨⟨_, _, _, _, _, rfl⟩, s3.trans ((S5.le fun c z => .inl z).trans ((Sx.new hp7).trans (Sx.put (.inr rfl)))), g3.trans (G5.trans (Gr.upd.trans Gr.upd)), (hB5.same (same_new hp7)).keep (N := one O) (Sx.put rfl) (Ne.symm Ob) (fun c z => by rw [show c = O from z]; exact wO), ((hM3.gr G5).gr Gr.upd).gr Gr.upd, _, (f0 :: q0) ++ [(e.1, l, dv)], upd_same, by rw [List.map_append]; exact ((rs8.append (.one re)).sx pF), by rw [List.map_append, List.take_add_one, em]; exact k1.append (List.Sublist.refl _), fun x hx => (List.mem_append.mp hx).elim (k2 x) (fun z => by rw [List.mem_singleton.mp z]; exact ⟨ll, la, d4⟩), f0, q0 ++ [(e.1, l, dv)], rfl, k3, fun x hx => (List.mem_append.mp hx).elim (k4 x) (fun z => by rw [List.mem_singleton.mp z]; exact d1)⟩
      walk_at "g"
      by_cases hw : 0 < w4
      · rw [show decide (0 < w4) = true from decide_eq_true hw]
        walk_at "g"
        refine ⟨scal_at (some e.1) lost, ?_⟩
        by_cases hl : some e.1 = lost
        · rw [show decide (V.str e.1 = atV lost) = true from decide_eq_true (by rw [← hl]; rfl)]
          refine ⟨false, rfl, ?_⟩
          exact ⟨⟨_, _, _, _, _, rfl⟩, s3.trans (hA4.sx.le fun c z => .inl z), g3.trans (hA4.gr hB4.there), hB4, hM3.gr (hA4.gr hB4.there), vs, f0 :: q0, hA4.sx _ _ Ob eF, rs.sx (hA4.sx.le (one_le wb)), stay, k2, f0, q0, rfl, k3, k4⟩
        · rw [show decide (V.str e.1 = atV lost) = false from decide_eq_false (fun z => hl (atV_inj (o := some e.1) z))]
          have eF4 := hA4.sx _ _ Ob eF
          rw [eu] at eF4
          have htl4 := sx_rd (hA4.sx.le (one_le wb)) ntl htl
          walk_at "g"
          refine ⟨_, _, _, _, rfl, rfl, SqL.of eF4, atI_last _ _, ?_⟩
          refine ⟨tl, _, _, _, rfl, rfl, .inl htl4, atI_nat (j := 2) rfl, ?_⟩
          walk_at "g"
          refine ⟨.inl ⟨rfl, _, SqL.of eF4⟩, ?_⟩
          walk_at "g"
          by_cases hw1 : w4 = 1
          · rw [show decide (V.int w4 = V.int 1) = true from decide_eq_true (by rw [hw1])]
            walk_at "g"
            refine ⟨b, also M O, rfl, hB4, fun l H5 ll la s5 g5 hB5 => ?_⟩
            have S5 : Sx (one b) H3 H5 := hA4.sx.trans s5
            have G5 : Gr H3 H5 := (hA4.gr hB4.there).trans g5
            have eF5 := S5 _ _ Ob eF
            have e15 := (s3.trans (S5.le fun c z => .inl z)) _ _ (fun z => z.elim (fun z => p1b z) (fun z => p1O z)) e1
            have rs5 := rs.sx (S5.le (one_le wb))
            walk_at "g"
            walk_at "if"
            · rename_i hd
              have hd1 : e.2.2 < le.2.2 + 1 := by have := of_decide_eq_true hd; omega
              refine ⟨_, rfl, szK rfl, fun p7 hp7 => ?_⟩
              have hp7 : H5 p7 = none := hp7
              have re : Rp (also M O) (upd H5 p7 (.tup [.str e.1, .str l, .int ((e.2.2 : Nat) : Int)])) (.ref p7) (flE (e.1, l, e.2.2)) := Rp.newT (hM3.gr G5) hp7 (.cons (.str _) (.cons (.str _) (.one (by show Rp _ _ _ (PyData.int ((e.2.2 : Nat) : Int)); rw [show ((e.2.2 : Nat) : Int) = ((e.2.2 : Nat) : Int) by omega]; exact .int _))))
              have eF8 := same_new hp7 (o := .tup [.str e.1, .str l, .int ((e.2.2 : Nat) : Int)]) _ _ eF5
              refine ⟨O, _, .ref p7, rfl, rfl, eF8, ?_, ?_⟩
              · have := k1.length_le
                rw [List.length_map, List.length_take, List.length_map] at this
                exact small1000 (by omega)
              exact app H5 l e.2.2 ((e.2.2 : Nat) : Int) p7 S5 G5 hB5 hp7 ll la (by omega) (by have := labe.2.2; omega) re rs5
            · rename_i hd
              have hd1 : ¬ e.2.2 < le.2.2 + 1 := by exact fun z => hd (decide_eq_true (by omega))
              refine ⟨_, rfl, szK rfl, fun p7 hp7 => ?_⟩
              have hp7 : H5 p7 = none := hp7
              have re : Rp (also M O) (upd H5 p7 (.tup [.str e.1, .str l, .int ((le.2.2 : Int) + 1)])) (.ref p7) (flE (e.1, l, (le.2.2 + 1))) := Rp.newT (hM3.gr G5) hp7 (.cons (.str _) (.cons (.str _) (.one (by show Rp _ _ _ (PyData.int (((le.2.2 + 1) : Nat) : Int)); rw [show (((le.2.2 + 1) : Nat) : Int) = ((le.2.2 : Int) + 1) by omega]; exact .int _))))
              have eF8 := same_new hp7 (o := .tup [.str e.1, .str l, .int ((le.2.2 : Int) + 1)]) _ _ eF5
              refine ⟨O, _, .ref p7, rfl, rfl, eF8, ?_, ?_⟩
              · have := k1.length_le
                rw [List.length_map, List.length_take, List.length_map] at this
                exact small1000 (by omega)
              exact app H5 l (le.2.2 + 1) ((le.2.2 : Int) + 1) p7 S5 G5 hB5 hp7 ll la (by omega) (by have := labe.2.2; omega) re rs5
          · rw [show decide (V.int w4 = V.int 1) = false from decide_eq_false (fun z => hw1 (by injection z))]
            have S5 : Sx (one b) H3 H4 := hA4.sx
            have G5 : Gr H3 H4 := hA4.gr hB4.there
            have eF5 := S5 _ _ Ob eF
            have e15 := (s3.trans (S5.le fun c z => .inl z)) _ _ (fun z => z.elim (fun z => p1b z) (fun z => p1O z)) e1
            have rs5 := rs.sx (S5.le (one_le wb))
            walk_at "g"
            walk_at "if"
            · rename_i hd
              have hd1 : e.2.2 < le.2.2 + 1 := by have := of_decide_eq_true hd; omega
              refine ⟨_, rfl, szK rfl, fun p7 hp7 => ?_⟩
              have hp7 : H4 p7 = none := hp7
              have re : Rp (also M O) (upd H4 p7 (.tup [.str e.1, .str e.2.1, .int ((e.2.2 : Nat) : Int)])) (.ref p7) (flE (e.1, e.2.1, e.2.2)) := Rp.newT (hM3.gr G5) hp7 (.cons (.str _) (.cons (.str _) (.one (by show Rp _ _ _ (PyData.int ((e.2.2 : Nat) : Int)); rw [show ((e.2.2 : Nat) : Int) = ((e.2.2 : Nat) : Int) by omega]; exact .int _))))
              have eF8 := same_new hp7 (o := .tup [.str e.1, .str e.2.1, .int ((e.2.2 : Nat) : Int)]) _ _ eF5
              refine ⟨O, _, .ref p7, rfl, rfl, eF8, ?_, ?_⟩
              · have := k1.length_le
                rw [List.length_map, List.length_take, List.length_map] at this
                exact small1000 (by omega)
              exact app H4 e.2.1 e.2.2 ((e.2.2 : Nat) : Int) p7 S5 G5 hB4 hp7 labe.1 labe.2.1 (by omega) (by have := labe.2.2; omega) re rs5
            · rename_i hd
              have hd1 : ¬ e.2.2 < le.2.2 + 1 := by exact fun z => hd (decide_eq_true (by omega))
              refine ⟨_, rfl, szK rfl, fun p7 hp7 => ?_⟩
              have hp7 : H4 p7 = none := hp7
              have re : Rp (also M O) (upd H4 p7 (.tup [.str e.1, .str e.2.1, .int ((le.2.2 : Int) + 1)])) (.ref p7) (flE (e.1, e.2.1, (le.2.2 + 1))) := Rp.newT (hM3.gr G5) hp7 (.cons (.str _) (.cons (.str _) (.one (by show Rp _ _ _ (PyData.int (((le.2.2 + 1) : Nat) : Int)); rw [show (((le.2.2 + 1) : Nat) : Int) = ((le.2.2 : Int) + 1) by omega]; exact .int _))))
              have eF8 := same_new hp7 (o := .tup [.str e.1, .str e.2.1, .int ((le.2.2 : Int) + 1)]) _ _ eF5
              refine ⟨O, _, .ref p7, rfl, rfl, eF8, ?_, ?_⟩
              · have := k1.length_le
                rw [List.length_map, List.length_take, List.length_map] at this
                exact small1000 (by omega)
              exact app H4 e.2.1 (le.2.2 + 1) ((le.2.2 : Int) + 1) p7 S5 G5 hB4 hp7 labe.1 labe.2.1 (by omega) (by have := labe.2.2; omega) re rs5
      · rw [show decide (0 < w4) = false from decide_eq_false hw]
        exact ⟨⟨_, _, _, _, _, rfl⟩, s3.trans (hA4.sx.le fun c z => .inl z), g3.trans (hA4.gr hB4.there), hB4, hM3.gr (hA4.gr hB4.there), vs, f0 :: q0, hA4.sx _ _ Ob eF, rs.sx (hA4.sx.le (one_le wb)), stay, k2, f0, q0, rfl, k3, k4⟩
    · obtain ⟨⟨y4, y5, y6, y7, y8, rfl⟩, s3, g3, hB3, hM3, vs, es', eF, rs, k1, k2, k3⟩ := p
      walk_at "g"
      have hl := (k1.trans (List.take_sublist _ _)).length_le
      rw [List.length_map, List.length_map] at hl
      exact q _ H3 (.list (es'.map flE)) (((Sx.same s1).trans s3).cut hO) ((Gr.same s1).trans g3) (hB3.less mb also_le) (.lst (hM.out hO) (.inl eF) (rs.less also_le)) ⟨es', rfl, ⟨goodMs_sub hg.ms (k1.trans (List.take_sublist _ _)), by omega, k2, k3⟩⟩
def sp_next (K : PySem.W.Frag) : Sp := fun vs H Q _ => ∃ (b pa : Addr) (fv : V) (lost : Option Str) (es : List FlE) (pool : List Str) (M : Ms), vs = [.ref b, fv, .ref pa, atV lost] ∧ Bag K M H b ∧ Mk M H ∧ Rp M H fv (.list (es.map flE)) ∧ gF es ∧ Rd H pa (.lst (pool.map V.str)) ∧ goodMs pool ∧ pool ≠ [] ∧ pool.length ≤ 400 ∧ pa ≠ b ∧ Dr K M b H (fun d => ∃ es : List FlE, d = .list (es.map flE) ∧ gF es) Q
theorem ok_next (T : Txt K mg) : FnOk P w K mg base CX0 9 T.f__law_next T.d__law_next ["_law_bag_here", "_law_flat_here", "_law_pool", "_law_lost"] (sp_next K) := by
  have G__law_pick := ok_pick (P := P) (w := w) (base := base) T
  have G__law_fresh := ok_fresh (P := P) (w := w) (base := base) T
  have G__law_worn := ok_worn (P := P) (w := w) (base := base) T
  refine T.F__law_next.ok sc__law_next (fun vs H Q E h => ?_) (fun cdv A outer s H vs Q E hr h => ?_)
  · obtain ⟨_, _, _, _, _, _, _, rfl, _⟩ := h
    rfl
  · obtain ⟨b, pa, fv, lost, es, pool, M, rfl, hB, hM, hR, hg, hp, gp, hne, h400, pb, q⟩ := h
    refine ⟨_, (pss_cons (ps_if (pt_cmpR op_eq (pe_call G__law_pick (hr.mono (by omega)) (by rfl) T.g__law_pick T.F__law_pick.kp T.b__law_pick .nil pass0 (pa_cons (pv 0) (pa_cons pe_int pa_nil))) pe_int (nomark _)) (pss_one (ps_ret (pe_call G__law_fresh (hr.mono (by omega)) (by rfl) T.g__law_fresh T.F__law_fresh.kp T.b__law_fresh .nil pass0 (pa_cons (pv 0) (pa_cons (pv 2) pa_nil))))) pss_nil)
      (pss_one (ps_ret (pe_call G__law_worn (hr.mono (by omega)) (by rfl) T.g__law_worn T.F__law_worn.kp T.b__law_worn .nil pass0 (pa_cons (pv 0) (pa_cons (pv 1) (pa_cons (pe_ifExp (pt_cmpR op_eq (pe_call G__law_pick (hr.mono (by omega)) (by rfl) T.g__law_pick T.F__law_pick.kp T.b__law_pick .nil pass0 (pa_cons (pv 0) (pa_cons pe_int pa_nil))) pe_int (nomark _)) (pv 3) pe_non) pa_nil))))))), ?_⟩
    walk_at "g"
    refine ⟨b, 3, M, rfl, hB, by omega, by omega, fun w1 H1 a0 a1 hA1 hB1 => ?_⟩
    have q1 : Dr K M b H1 (fun d => ∃ es : List FlE, d = .list (es.map flE) ∧ gF es) Q := fun v H' d s g hb r p => q v H' d (hA1.sx.trans s) ((hA1.gr hB1.there).trans g) hb r p
    have hM1 := hM.gr (hA1.gr hB1.there)
    walk_at "g"
    by_cases c : w1 = 0
    · rw [show decide (V.int w1 = V.int 0) = true from decide_eq_true (by rw [c])]
      walk_at "g"
      exact ⟨b, pa, pool, M, rfl, hB1, hM1, sx_rd hA1.sx (fun z : pa = b => pb z) hp, gp, hne, h400, pb, q1⟩
    · rw [show decide (V.int w1 = V.int 0) = false from decide_eq_false (fun z => c (by injection z))]
      walk_at "g"
      refine ⟨b, 2, M, rfl, hB1, by omega, by omega, fun w2 H2 b0 b1 hA2 hB2 => ?_⟩
      have q2 : Dr K M b H2 (fun d => ∃ es : List FlE, d = .list (es.map flE) ∧ gF es) Q := fun v H' d s g hb r p => q1 v H' d (hA2.sx.trans s) ((hA2.gr hB2.there).trans g) hb r p
      have hM2 := hM1.gr (hA2.gr hB2.there)
      have hR2 := hR.sx ((hA1.sx.trans hA2.sx).le (one_le hB.w))
      walk_at "g"
      by_cases c2 : w2 = 0
      · rw [show decide (V.int w2 = V.int 0) = true from decide_eq_true (by rw [c2])]
        walk_at "g"
        exact ⟨b, fv, lost, es, M, rfl, hB2, hM2, hR2, hg, q2⟩
      · rw [show decide (V.int w2 = V.int 0) = false from decide_eq_false (fun z => c2 (by injection z))]
        walk_at "g"
        exact ⟨b, fv, none, es, M, rfl, hB2, hM2, hR2, hg, q2⟩
end
end D

namespace D
open PySem PySem.Spec PyProof.Rows L2
local macro_rules | `(tactic| walk_at "st") => `(tactic| first | exact SqT.of (by assumption) | exact Or.inl (by assumption) | exact SqT.of upd_same | fail "st")
local macro_rules | `(tactic| walk_at "ixt") => `(tactic| refine ⟨_, _, _, _, rfl, rfl, (by walk_at "st" : SqT _ _ _ _), by rfl, ?_⟩)
local macro_rules | `(tactic| walk_at "sq") => `(tactic| first | exact SqL.of (by assumption) | assumption | exact Or.inl (by assumption) | exact SqL.of upd_same | fail "sq")
local macro_rules | `(tactic| walk_at "ix") => `(tactic| refine ⟨_, _, _, _, rfl, rfl, (by walk_at "sq" : SqL _ _ _ _), by rfl, ?_⟩)
local macro_rules | `(tactic| walk_at "set") => `(tactic| refine ⟨_, _, _, _, rfl, rfl, by first | assumption | exact upd_same, by rfl, ?_⟩)
local macro_rules | `(tactic| walk_at "len") => `(tactic| refine ⟨_, _, rfl, Or.inl (by walk_at "sq" : SqL _ _ _ _), ?_⟩)
local macro_rules | `(tactic| walk_at "g") => `(tactic| repeat (first | refine ⟨_, rfl, ?_⟩ | refine ⟨_, _, rfl, rfl, ?_⟩ | refine ⟨Or.inr (by decide), ?_⟩ | refine ⟨Or.inl (by decide), ?_⟩ | refine ⟨(by decide : (0 : Int) < _), ?_⟩ | refine ⟨(⟨by decide, by decide⟩ : CDiv _ _), ?_⟩ | refine ⟨(⟨by decide, by decide, by decide⟩ : CPow _ _), ?_⟩ | refine Or.inl ⟨_, rfl, ?_⟩ | refine ⟨rfl, ?_⟩ | walk_at "ix" | walk_at "ixt" | walk_at "len" | fail "g"))
local macro_rules | `(tactic| walk_at "if") => `(tactic| refine ite2 (fun e => ?_) (fun e => ?_))
section
variable {P : Program} {w : World} {K : PySem.W.Frag} {mg : Str → Option Value} {base : Heap}
theorem PageAt.fresh {C : Addr} {M : Ms} {H : Hp} {v r : V} {n : Nd} {p : Addr} (h : PageAt C M H v n r) (hp : H p = none) : PageAt C (also M p) H v n r := by
  obtain ⟨a, dx, dn, on, gv, us, rfl, na, ha, hr, nn, hn, hu⟩ := h
  exact ⟨a, dx, dn, on, gv, us, rfl, fun z => z.elim na fun z => (by rw [show a = p from z, hp] at ha; cases ha), ha, hr.fresh hp, fun z => z.elim nn fun z => (by rw [show dn = p from z, hp] at hn; cases hn), hn, hu.fresh hp⟩
theorem made_same {H1 HA H' : Hp} {x : Addr} (hx : H1 x = none) (sA : Same H1 HA) (s : Sx (one x) HA H') : Same H1 H' := fun c o e => s c o (fun z => by rw [show c = x from z, hx] at e; cases e) (sA c o e)
/-- one of the group: the row oa of what the law holds, the focus f -/
def OneAt (CF CP : Addr) (M : Ms) (H : Hp) (oa f : Addr) (word : Str) (row : Nat) (fv : V) (es : List FlE) (o : Option Str) : Prop := ∃ (dx tm : Addr) (gv r : V) (n : Nd), H oa = some (.lst [.str word, .ref f, fv, atV o, .int (row : Nat)]) ∧ M oa ∧ M f ∧ H f = some (foc CF dx word gv tm (atV o)) ∧ PageAt CP M H gv n r ∧ n = growF es ∧ good5 n ∧ n.subs.map entN = es.map entF ∧ ¬ M tm ∧ TupF H tm ((btns n).map V.str) ∧ gF es ∧ Rp M H fv (.list (es.map flE)) ∧ word ∈ rules ∧ ∀ m, o = some m → m ∈ btns n
theorem OneAt.sx {CF CP : Addr} {M N : Ms} {H H' : Hp} {oa f : Addr} {word : Str} {row : Nat} {fv : V} {es : List FlE} {o : Option Str} (h : OneAt CF CP M H oa f word row fv es o) (s : Sx N H H') (le : ∀ x, N x → M x) (nw : ¬ N oa) (nf : ¬ N f) : OneAt CF CP M H' oa f word row fv es o := by
  obtain ⟨dx, tm, gv, r, n, h1, h2, h3, h4, h5, h6, h7, h8, h9, h10, h11, h12, h13⟩ := h
  exact ⟨dx, tm, gv, r, n, s _ _ nw h1, h2, h3, s _ _ nf h4, h5.sx (s.le le), h6, h7, h8, h9, h10.sx s (fun z => h9 (le _ z)), h11, h12.sx (s.le le), h13⟩
theorem OneAt.same {CF CP : Addr} {M : Ms} {H H' : Hp} {oa f : Addr} {word : Str} {row : Nat} {fv : V} {es : List FlE} {o : Option Str} (h : OneAt CF CP M H oa f word row fv es o) (s : Same H H') : OneAt CF CP M H' oa f word row fv es o := h.sx (N := fun _ => False) (Sx.same s) (fun _ z => z.elim) (fun z => z) (fun z => z)
theorem OneAt.fresh {CF CP : Addr} {M : Ms} {H : Hp} {oa f p : Addr} {word : Str} {row : Nat} {fv : V} {es : List FlE} {o : Option Str} (h : OneAt CF CP M H oa f word row fv es o) (hp : H p = none) : OneAt CF CP (also M p) H oa f word row fv es o := by
  obtain ⟨dx, tm, gv, r, n, h1, h2, h3, h4, h5, h6, h7, h8, h9, h10, h11, h12, h13⟩ := h
  refine ⟨dx, tm, gv, r, n, h1, .inl h2, .inl h3, h4, h5.fresh hp, h6, h7, h8, fun z => z.elim h9 fun z => ?_, h10, h11, h12.fresh hp, h13⟩
  obtain ⟨ot, e, _⟩ := h10
  rw [show tm = p from z, hp] at e; cases e
def wf (b wa f : Addr) : Ms := fun x => x = b ∨ x = wa ∨ x = f
def sp_deeds (K : PySem.W.Frag) (CF CP : Addr) : Sp := fun vs H Q _ => ∃ (b oa f pa : Addr) (word : Str) (row : Nat) (fv : V) (es : List FlE) (o : Option Str) (pool : List Str) (M : Ms), vs = [.ref b, .ref oa, .ref pa] ∧ Bag K M H b ∧ Mk M H ∧ OneAt CF CP M H oa f word row fv es o ∧ oa ≠ b ∧ f ≠ b ∧ oa ≠ f ∧ Rd H pa (.lst (pool.map V.str)) ∧ pool ≠ [] ∧ pool.length ≤ 400 ∧ ¬ M pa ∧
  ∀ H' o', Sx (wf b oa f) H H' → Gr H H' → Bag K M H' b → OneAt CF CP M H' oa f word row fv es o' → Q (.bl true) H'
theorem ok_deeds (T : Txt K mg) : FnOk P w K mg base CX0 12 T.f__law_deeds T.d__law_deeds ["_law_bag_here", "_law_one", "_law_pool"] (sp_deeds K T.C_Focus T.C_Page) := by
  have G__law_pick := ok_pick (P := P) (w := w) (base := base) T
  have G__law_choice := ok_choice (P := P) (w := w) (base := base) T
  have G__law_listed := ok_listed (P := P) (w := w) (base := base) T
  have G__law_stepped := ok_stepped (P := P) (w := w) (base := base) T
  have G__law_refused := ok_refused (P := P) (w := w) (base := base) T
  have G_Focus_put := ok_fput (P := P) (w := w) (base := base) T
  have G_Focus_step := ok_fstep (P := P) (w := w) (base := base) T
  have G_Focus_at := ok_fat (P := P) (w := w) (base := base) T
  refine T.F__law_deeds.ok sc__law_deeds (fun vs H Q E h => ?_) (fun cdv A outer s H vs Q E hr h => ?_)
  · obtain ⟨_, _, _, _, _, _, _, _, _, _, _, rfl, _⟩ := h
    rfl
  · obtain ⟨b, oa, f, pa, word, row, fv, es, o, pool, M, rfl, hB, hM, hO, ob, fb, of', hp, pne, p400, npa, q⟩ := h
    obtain ⟨dx, tm, gv, r, n, hoa, moa, mf, hf, pg, en, hg, he, ntm, htm, gf, hfv, hw, ho⟩ := hO
    have mb := hB.w
    have pab : pa ≠ b := fun z => npa (by rw [z]; exact mb)
    have tmb : tm ≠ b := fun z => ntm (by rw [z]; exact mb)
    have bnd := btns_nd hg.g.nd
    have bl4 : (btns n).length ≤ 400 := Nat.le_trans (btns_len n) hg.g.len
    have eb := btns_of he
    have leM : ∀ x, wf b oa f x → M x := fun x z => by
      rcases z with rfl | rfl | rfl
      · exact mb
      · exact moa
      · exact mf
    have fin : ∀ (H1 : Hp) (o1 : Option Str), Sx (wf b oa f) H H1 → Gr H H1 → Bag K M H1 b → H1 oa = some (.lst [.str word, .ref f, fv, atV o1, .int (row : Nat)]) → H1 f = some (foc T.C_Focus dx word gv tm (atV o1)) → (∀ m, o1 = some m → m ∈ btns n) → Q (.bl true) H1 := fun H1 o1 s1 g1 b1 e1 e2 h1 => by
      exact q H1 o1 s1 g1 b1 ⟨dx, tm, gv, r, n, e1, moa, mf, e2, pg.sx (s1.le leM), en, hg, he, ntm, htm.sx s1 (fun z => ntm (leM _ z)), gf, hfv.sx (s1.le leM), hw, h1⟩
    refine ⟨_, (pss_cons (ps_set (i := 3) sc__law_deeds.nd rfl (Or.inl rfl) (pe_ix (ix_listK (K := K) rfl) (pv 1) pe_int (fun _ _ => rfl)))
      (pss_cons (ps_set (i := 4) sc__law_deeds.nd rfl (Or.inl rfl) (pe_call G__law_listed (hr.mono (by omega)) (by rfl) T.g__law_listed T.F__law_listed.kp T.b__law_listed .nil pass0 (pa_cons (pe_ix (ix_listK (K := K) rfl) (pv 1) pe_int (fun _ _ => rfl)) pa_nil)))
      (pss_cons (ps_for PassesOwn.never rfl (pi_range1 (by rfl) T.m_range (pa_cons (pe_call G__law_pick (hr.mono (by omega)) (by rfl) T.g__law_pick T.F__law_pick.kp T.b__law_pick .nil pass0 (pa_cons (pv 0) (pa_cons pe_int pa_nil))) pa_nil)) (pg_name (i := 5) sc__law_deeds.nd rfl (Or.inl rfl)) (pss_cons (ps_set (i := 6) sc__law_deeds.nd rfl (Or.inl rfl) (pe_call G__law_pick (hr.mono (by omega)) (by rfl) T.g__law_pick T.F__law_pick.kp T.b__law_pick .nil pass0 (pa_cons (pv 0) (pa_cons pe_int pa_nil))))
      (pss_cons (ps_set (i := 7) sc__law_deeds.nd rfl (Or.inl rfl) (pe_ix (ix_listK (K := K) rfl) (pv 1) pe_int (fun _ _ => rfl)))
      (pss_cons (ps_if (pt_cmpR op_eq (pv 6) pe_int (nomark _)) (pss_cons (ps_set (i := 8) sc__law_deeds.nd rfl (Or.inl rfl) (pe_call G__law_choice (hr.mono (by omega)) (by rfl) T.g__law_choice T.F__law_choice.kp T.b__law_choice .nil pass0 (pa_cons (pv 0) (pa_cons (pv 2) pa_nil))))
      (pss_one (ps_if (PW.pt (pw_and (pt_cmpR (op_notIn_seqK (K := K) rfl) (pv 8) (pv 4) (by rfl)) (pw_and1 (pt_not (pt_val (pe_call G__law_refused (hr.mono (by omega)) (by rfl) T.g__law_refused T.F__law_refused.kp T.b__law_refused .nil pass0 (pa_cons (pv 3) (pa_cons (pv 8) pa_nil)))))))) (pss_one (ps_ret pe_bl)) pss_nil))) (pss_one (ps_if (pt_cmpR op_lt (pv 6) pe_int (nomark _)) (pss_cons (ps_set (i := 9) sc__law_deeds.nd rfl (Or.inl rfl) (pe_ix (ix_listK (K := K) rfl) (pe_lst (pa_cons pe_str (pa_cons pe_str pa_nil))) (pv 6) (fun _ _ => rfl)))
      (pss_cons (ps_asg (pe_call G__law_stepped (hr.mono (by omega)) (by rfl) T.g__law_stepped T.F__law_stepped.kp T.b__law_stepped .nil pass0 (pa_cons (pv 4) (pa_cons (pe_ix (ix_listK (K := K) rfl) (pv 1) pe_int (fun _ _ => rfl)) (pa_cons (pv 9) pa_nil)))) (pg_sub (pv 1) pe_int set_list))
      (pss_one (ps_set (i := 7) sc__law_deeds.nd rfl (Or.inl rfl) (pe_meth (pv 3) T.cl_Focus ⟨T.a_Focus_step, T.i_Focus_step, T.F_Focus_step.kp⟩ G_Focus_step (hr.mono (by omega)) T.b_Focus_step .nil pass0 (pa_cons (pv 9) pa_nil)))))) (pss_one (ps_if (PW.pt (pw_and (pt_cmpR op_lt (pv 6) pe_int (nomark _)) (pw_and1 (pt_truthK (K := K) rfl (pv 4) (by intro _; rfl))))) (pss_cons (ps_asg (pe_call G__law_choice (hr.mono (by omega)) (by rfl) T.g__law_choice T.F__law_choice.kp T.b__law_choice .nil pass0 (pa_cons (pv 0) (pa_cons (pv 4) pa_nil))) (pg_sub (pv 1) pe_int set_list))
      (pss_one (ps_set (i := 7) sc__law_deeds.nd rfl (Or.inl rfl) (pe_meth (pv 3) T.cl_Focus ⟨T.a_Focus_put, T.i_Focus_put, T.F_Focus_put.kp⟩ G_Focus_put (hr.mono (by omega)) T.b_Focus_put .nil pass0 (pa_cons (pe_ix (ix_listK (K := K) rfl) (pv 1) pe_int (fun _ _ => rfl)) pa_nil))))) (pss_cons (ps_asg pe_non (pg_sub (pv 1) pe_int set_list))
      (pss_one (ps_set (i := 7) sc__law_deeds.nd rfl (Or.inl rfl) (pe_meth (pv 3) T.cl_Focus ⟨T.a_Focus_put, T.i_Focus_put, T.F_Focus_put.kp⟩ G_Focus_put (hr.mono (by omega)) T.b_Focus_put .nil pass0 (pa_cons pe_non pa_nil))))))))))
      (pss_one (ps_if (PW.pt (pw_or (pt_cmpR op_ne (pv 7) (pe_ix (ix_listK (K := K) rfl) (pv 1) pe_int (fun _ _ => rfl)) (nomark _)) (pw_or1 (pt_cmpR op_ne (pe_prop (pv 3) T.cl_Focus T.P_Focus_at G_Focus_at (hr.mono (by omega)) T.b_Focus_at .nil pass0 rfl) (pe_ix (ix_listK (K := K) rfl) (pv 1) pe_int (fun _ _ => rfl)) (nomark _))))) (pss_one (ps_ret pe_bl)) pss_nil))))))
      (pss_one (ps_ret pe_bl))))), ?_⟩
    walk_at "g"
    refine ⟨fv, es, M, rfl, hfv, gf.len, fun e he => (gf.lab e he).1, fun H1 ml s1 hml0 hml => ?_⟩
    rw [← eb] at hml
    have nml : ¬ M ml := hM.out hml0
    have mlb : ml ≠ b := fun z => nml (by rw [z]; exact mb)
    have hB1 := hB.same s1
    walk_at "g"
    refine ⟨b, 4, M, rfl, hB1, by omega, by omega, fun w1 H2 a0 a1 hA2 hB2 => ?_⟩
    have s2 : Sx (wf b oa f) H H2 := (Sx.same s1).trans (hA2.sx.le fun x z => .inl z)
    have g2 : Gr H H2 := (Gr.same s1).trans (hA2.gr hB2.there)
    have obn : ¬ one b oa := fun z => ob z
    have fbn : ¬ one b f := fun z => fb z
    have hml2 := hA2.sx _ _ (fun z : ml = b => mlb z) hml
    walk_at "g"
    refine ⟨by omega, by omega, ?_⟩
    refine for_range (lo := 0) (n := w1.toNat) (fun i σ H' => ∃ (y5 y6 y7 y8 y9 : Option V) (o' : Option Str), σ = [some (.ref b), some (.ref oa), some (.ref pa), some (.ref f), some (.ref ml), y5, y6, y7, y8, y9] ∧ Sx (wf b oa f) H H' ∧ Gr H H' ∧ Bag K M H' b ∧ H' ml = some (.lst ((btns n).map V.str)) ∧ H' oa = some (.lst [.str word, .ref f, fv, atV o', .int (row : Nat)]) ∧ H' f = some (foc T.C_Focus dx word gv tm (atV o')) ∧ ∀ m, o' = some m → m ∈ btns n) ⟨_, _, _, _, _, o, rfl, s2, g2, hB2, hml2, hA2.sx _ _ obn (s1 _ _ hoa), hA2.sx _ _ fbn (s1 _ _ hf), ho⟩ (fun i σ H3 hi c => ?_) (fun σ H3 c => ?_)
    · clear s2 g2 hml2 hB2 hA2 hB1 hml hml0 hoa hf s1 hB ho q fin a0 a1
      obtain ⟨y5, y6, y7, y8, y9, o', rfl, s3, g3, hB3, ml3, oa3, f3, ho3⟩ := c
      walk_at "g"
      refine ⟨b, 7, M, rfl, hB3, by omega, by omega, fun way H4 b0 b1 hA4 hB4 => ?_⟩
      have s4 : Sx (wf b oa f) H H4 := s3.trans (hA4.sx.le fun x z => .inl z)
      have g4 := g3.trans (hA4.gr hB4.there)
      have oa4 := hA4.sx _ _ obn oa3
      have f4 := hA4.sx _ _ fbn f3
      have ml4 := hA4.sx _ _ (fun z : ml = b => mlb z) ml3
      have pa4 := sx_rd s4 (fun z => npa (leM _ z)) hp
      have htm4 := htm.sx s4 (fun z => ntm (leM _ z))
      clear s3 g3 hB3 ml3 oa3 f3 hA4
      refine ⟨_, rfl, oa, _, 3, _, rfl, rfl, SqL.of oa4, rfl, ?_⟩
      dsimp only [gName]
      with_reducible refine seq_join (fun σ3 H5 => ∃ (o1 : Option Str) (y6 y8 y9 : Option V), σ3 = [some (.ref b), some (.ref oa), some (.ref pa), some (.ref f), some (.ref ml), some (.int (0 + (i : Nat))), y6, some (atV o1), y8, y9] ∧ Sx (wf b oa f) H H5 ∧ Gr H H5 ∧ Bag K M H5 b ∧ H5 ml = some (.lst ((btns n).map V.str)) ∧ H5 oa = some (.lst [.str word, .ref f, fv, atV o1, .int (row : Nat)]) ∧ H5 f = some (foc T.C_Focus dx word gv tm (atV o1)) ∧ ∀ m, o1 = some m → m ∈ btns n) (fun hN => ?_) (fun σ3 H5 c => ?_)
      · by_cases h6 : way = 6
        · subst h6
          walk_at "g"
          refine ⟨b, pa, _, M, rfl, hB4, .inl pa4, pab, by rw [List.length_map]; exact List.length_pos_iff.mpr pne, by rw [List.length_map]; omega, fun v H5 hv hA5 hB5 => ?_⟩
          obtain ⟨z, _, rfl⟩ := List.mem_map.mp hv
          have oa5 := hA5.sx _ _ obn oa4
          have f5 := hA5.sx _ _ fbn f4
          have ml5 := hA5.sx _ _ (fun z : ml = b => mlb z) ml4
          have htm5 := htm4.sx hA5.sx (fun z => tmb z)
          have s5 : Sx (wf b oa f) H H5 := s4.trans (hA5.sx.le fun x z => .inl z)
          have g5 := g4.trans (hA5.gr hB5.there)
          walk_at "g"
          first | refine ⟨flat_strs _, ?_⟩ | refine ⟨ml, _, rfl, .inl (SqL.of ml5), rfl, flat_strs _, ?_⟩
          by_cases hz : z ∈ btns n
          · rw [show inV (.str z) (List.map V.str (btns n)) = true from (in_strs z _).trans (decide_eq_true hz)]
            refine ⟨false, rfl, ?_⟩
            exact hN _ _ ⟨o', _, _, _, rfl, s5, g5, hB5, ml5, oa5, f5, ho3⟩
          · rw [show inV (.str z) (List.map V.str (btns n)) = false from (in_strs z _).trans (decide_eq_false hz)]
            walk_at "g"
            refine ⟨f, dx, tm, word, gv, atV o', btns n, z, rfl, f5, htm5, hz, fun H6 s6 => ?_⟩
            refine ⟨true, rfl, ?_⟩
            exact hN _ _ ⟨o', _, _, _, rfl, s5.trans (Sx.same s6), g5.trans (Gr.same s6), hB5.same s6, s6 _ _ ml5, s6 _ _ oa5, s6 _ _ f5, ho3⟩
        · walk_at "g"
          rw [show decide (V.int way = V.int 6) = false from decide_eq_false (fun z => h6 (by injection z))]
          walk_at "g"
          by_cases h2 : way < 2
          · rw [show decide (way < 2) = true from decide_eq_true h2]
            walk_at "g"
            refine ⟨szK rfl, fun p5 hp5 => ?_⟩
            have hp5 : H4 p5 = none := hp5
            obtain ⟨nx, hnx⟩ : ∃ nx, atI [V.str (Str.ofString "next"), .str (Str.ofString "back")] way = some (.str (wayS nx)) := by
              have : way = 0 ∨ way = 1 := by omega
              rcases this with rfl | rfl
              · exact ⟨true, rfl⟩
              · exact ⟨false, rfl⟩
            have s5 := same_new hp5 (o := .lst [V.str (Str.ofString "next"), .str (Str.ofString "back")])
            have e5 : upd H4 p5 (.lst [V.str (Str.ofString "next"), .str (Str.ofString "back")]) p5 = some (.lst [V.str (Str.ofString "next"), .str (Str.ofString "back")]) := upd_same
            have g5 : Gr H4 (upd H4 p5 (.lst [V.str (Str.ofString "next"), .str (Str.ofString "back")])) := Gr.upd
            generalize upd H4 p5 (.lst [V.str (Str.ofString "next"), .str (Str.ofString "back")]) = H5 at s5 e5 g5
            have oa5 := s5 _ _ oa4
            have ml5 := s5 _ _ ml4
            walk_at "g"
            refine ⟨p5, _, _, _, rfl, rfl, SqL.of e5, hnx, ?_⟩
            walk_at "g"
            refine ⟨ml, btns n, o', nx, rfl, SqL.of ml5, bnd, bl4, ho3, ?_⟩
            walk_at "g"
            refine ⟨_, _, _, _, rfl, rfl, oa5, rfl, ?_⟩
            have e6 : upd H5 oa (.lst [.str word, .ref f, fv, atV (stepO (btns n) o' nx), .int (row : Nat)]) oa = some (.lst [.str word, .ref f, fv, atV (stepO (btns n) o' nx), .int (row : Nat)]) := upd_same
            have f6 : upd H5 oa (.lst [.str word, .ref f, fv, atV (stepO (btns n) o' nx), .int (row : Nat)]) f = some (foc T.C_Focus dx word gv tm (atV o')) := by rw [upd_ne (fun z => of' z.symm)]; exact s5 _ _ f4
            have mlo : ml ≠ oa := fun z => nml (by rw [z]; exact moa)
            have mlf : ml ≠ f := fun z => nml (by rw [z]; exact mf)
            have tmo : tm ≠ oa := fun z => ntm (by rw [z]; exact moa)
            have ml6 : upd H5 oa (.lst [.str word, .ref f, fv, atV (stepO (btns n) o' nx), .int (row : Nat)]) ml = some (.lst ((btns n).map V.str)) := by rw [upd_ne mlo]; exact ml5
            have htm6 := (htm4.same s5).sx (M := one oa) (Sx.put (o := .lst [.str word, .ref f, fv, atV (stepO (btns n) o' nx), .int (row : Nat)]) rfl) tmo
            have hB6 := (hB4.same s5).keep (N := one oa) (Sx.put (o := .lst [.str word, .ref f, fv, atV (stepO (btns n) o' nx), .int (row : Nat)]) rfl) (fun z => ob z.symm) (fun x z => by rw [show x = oa from z]; exact moa)
            have s6 : Sx (wf b oa f) H5 (upd H5 oa (.lst [.str word, .ref f, fv, atV (stepO (btns n) o' nx), .int (row : Nat)])) := Sx.put (.inr (.inl rfl))
            have g6 : Gr H5 (upd H5 oa (.lst [.str word, .ref f, fv, atV (stepO (btns n) o' nx), .int (row : Nat)])) := Gr.upd
            walk_at "g"
            refine ⟨f, dx, _, rfl, f6, lkStep _ _ _ _, ?_⟩
            walk_at "g"
            refine ⟨f, dx, tm, word, gv, btns n, o', nx, rfl, f6, htm6, bnd, bl4, ho3, fun H7 s7 g7 e7 => ?_⟩
            exact hN _ _ ⟨stepO (btns n) o' nx, _, _, _, rfl, s4.trans ((Sx.same s5).trans (s6.trans (s7.le fun x z => .inr (.inr z)))), g4.trans (g5.trans (g6.trans g7)), hB6.keep s7 (fun z => fb z.symm) (fun x z => by rw [show x = f from z]; exact mf), s7 _ _ (fun z : ml = f => mlf z) ml6, s7 _ _ (fun z : oa = f => of' z) e6, e7, fun m hm => stepO_mem hm⟩
          · rw [show decide (way < 2) = false from decide_eq_false h2]
            have mlo : ml ≠ oa := fun z => nml (by rw [z]; exact moa)
            have mlf : ml ≠ f := fun z => nml (by rw [z]; exact mf)
            have tmo : tm ≠ oa := fun z => ntm (by rw [z]; exact moa)
            obtain ⟨k, hk, ht⟩ : ∃ k : Bool, (k = true → btns n ≠ []) ∧ ∀ (P : Bool → Hp → Prop), P k H4 → (tAnd (tTest (tOp (rI0 fun i j => V.bl (decide (i < j))) (tVar 6) (tC (V.int 5)))) (tTruth K (tVar 4))) [some (.ref b), some (.ref oa), some (.ref pa), some (.ref f), some (.ref ml), some (.int (0 + (i : Nat))), some (.int way), some (atV o'), y8, y9] H4 P := by
              by_cases h5 : way < 5
              · refine ⟨!((btns n).map V.str).isEmpty, (fun e z => by rw [z] at e; cases e), fun P hP => ?_⟩
                walk_at "g"
                rw [show decide (way < 5) = true from decide_eq_true h5]
                walk_at "g"
                exact ⟨_, .inl ⟨_, SqL.of ml4, rfl⟩, hP⟩
              · refine ⟨false, (fun z => nomatch z), fun P hP => ?_⟩
                walk_at "g"
                rw [show decide (way < 5) = false from decide_eq_false h5]
                exact hP
            refine ht _ ?_
            cases k with
            | true =>
              have hne := hk rfl
              have hp0 : 0 < (btns n).length := List.length_pos_iff.mpr hne
              walk_at "g"
              refine ⟨b, ml, _, M, rfl, hB4, SqL.of ml4, mlb, by rw [List.length_map]; exact hp0, by rw [List.length_map]; omega, fun v H5 hv hA5 hB5 => ?_⟩
              obtain ⟨m, hm, rfl⟩ := List.mem_map.mp hv
              have hm1 : ∀ z, some m = some z → z ∈ btns n := fun z e => by cases e; exact hm
              have oa5 := hA5.sx _ _ obn oa4
              have s5 : Sx (wf b oa f) H H5 := s4.trans (hA5.sx.le fun x z => .inl z)
              have g5 := g4.trans (hA5.gr hB5.there)
              have e6 : upd H5 oa (.lst [.str word, .ref f, fv, atV (some m), .int (row : Nat)]) oa = some (.lst [.str word, .ref f, fv, atV (some m), .int (row : Nat)]) := upd_same
              have f6 : upd H5 oa (.lst [.str word, .ref f, fv, atV (some m), .int (row : Nat)]) f = some (foc T.C_Focus dx word gv tm (atV o')) := by rw [upd_ne (fun z => of' z.symm)]; exact hA5.sx _ _ fbn f4
              have ml6 : upd H5 oa (.lst [.str word, .ref f, fv, atV (some m), .int (row : Nat)]) ml = some (.lst ((btns n).map V.str)) := by rw [upd_ne mlo]; exact hA5.sx _ _ (fun z : ml = b => mlb z) ml4
              have htm6 := (htm4.sx hA5.sx (fun z => tmb z)).sx (M := one oa) (Sx.put (o := (.lst [.str word, .ref f, fv, atV (some m), .int (row : Nat)])) rfl) tmo
              have hB6 := hB5.keep (N := one oa) (Sx.put (o := (.lst [.str word, .ref f, fv, atV (some m), .int (row : Nat)])) rfl) (fun z => ob z.symm) (fun x z => by rw [show x = oa from z]; exact moa)
              have s6 : Sx (wf b oa f) H5 (upd H5 oa (.lst [.str word, .ref f, fv, atV (some m), .int (row : Nat)])) := Sx.put (.inr (.inl rfl))
              have g6 : Gr H5 (upd H5 oa (.lst [.str word, .ref f, fv, atV (some m), .int (row : Nat)])) := Gr.upd
              walk_at "g"
              refine ⟨_, _, _, _, rfl, rfl, oa5, rfl, ?_⟩
              walk_at "g"
              refine ⟨f, dx, _, rfl, f6, lkPut _ _ _ _, ?_⟩
              walk_at "g"
              refine ⟨f, dx, tm, word, gv, atV o', btns n, some m, rfl, f6, htm6, hm1, ?_⟩
              have s7 : Sx (one f) (upd H5 oa (.lst [.str word, .ref f, fv, atV (some m), .int (row : Nat)])) (upd (upd H5 oa (.lst [.str word, .ref f, fv, atV (some m), .int (row : Nat)])) f (foc T.C_Focus dx word gv tm (atV (some m)))) := Sx.put rfl
              exact hN _ _ ⟨some m, _, _, _, rfl, s5.trans (s6.trans (s7.le fun x z => .inr (.inr z))), g5.trans (g6.trans Gr.upd), hB6.keep s7 (fun z => fb z.symm) (fun x z => by rw [show x = f from z]; exact mf), s7 _ _ (fun z : ml = f => mlf z) ml6, s7 _ _ (fun z : oa = f => of' z) e6, upd_same, hm1⟩
            | false =>
              have hm1 : ∀ z, none = some z → z ∈ btns n := fun z e => nomatch e
              have hB5 := hB4
              have oa5 := oa4
              have s5 := s4
              have g5 := g4
              have hA5 : At b H4 H4 := fun _ _ => rfl
              walk_at "g"
              have e6 : upd H4 oa (.lst [.str word, .ref f, fv, atV (none), .int (row : Nat)]) oa = some (.lst [.str word, .ref f, fv, atV (none), .int (row : Nat)]) := upd_same
              have f6 : upd H4 oa (.lst [.str word, .ref f, fv, atV (none), .int (row : Nat)]) f = some (foc T.C_Focus dx word gv tm (atV o')) := by rw [upd_ne (fun z => of' z.symm)]; exact hA5.sx _ _ fbn f4
              have ml6 : upd H4 oa (.lst [.str word, .ref f, fv, atV (none), .int (row : Nat)]) ml = some (.lst ((btns n).map V.str)) := by rw [upd_ne mlo]; exact hA5.sx _ _ (fun z : ml = b => mlb z) ml4
              have htm6 := (htm4.sx hA5.sx (fun z => tmb z)).sx (M := one oa) (Sx.put (o := (.lst [.str word, .ref f, fv, atV (none), .int (row : Nat)])) rfl) tmo
              have hB6 := hB5.keep (N := one oa) (Sx.put (o := (.lst [.str word, .ref f, fv, atV (none), .int (row : Nat)])) rfl) (fun z => ob z.symm) (fun x z => by rw [show x = oa from z]; exact moa)
              have s6 : Sx (wf b oa f) H4 (upd H4 oa (.lst [.str word, .ref f, fv, atV (none), .int (row : Nat)])) := Sx.put (.inr (.inl rfl))
              have g6 : Gr H4 (upd H4 oa (.lst [.str word, .ref f, fv, atV (none), .int (row : Nat)])) := Gr.upd
              walk_at "g"
              refine ⟨_, _, _, _, rfl, rfl, oa5, rfl, ?_⟩
              walk_at "g"
              refine ⟨f, dx, _, rfl, f6, lkPut _ _ _ _, ?_⟩
              walk_at "g"
              refine ⟨f, dx, tm, word, gv, atV o', btns n, none, rfl, f6, htm6, hm1, ?_⟩
              have s7 : Sx (one f) (upd H4 oa (.lst [.str word, .ref f, fv, atV (none), .int (row : Nat)])) (upd (upd H4 oa (.lst [.str word, .ref f, fv, atV (none), .int (row : Nat)])) f (foc T.C_Focus dx word gv tm (atV (none)))) := Sx.put rfl
              exact hN _ _ ⟨none, _, _, _, rfl, s5.trans (s6.trans (s7.le fun x z => .inr (.inr z))), g5.trans (g6.trans Gr.upd), hB6.keep s7 (fun z => fb z.symm) (fun x z => by rw [show x = f from z]; exact mf), s7 _ _ (fun z : ml = f => mlf z) ml6, s7 _ _ (fun z : oa = f => of' z) e6, upd_same, hm1⟩
      · obtain ⟨o1, y6, y8, y9, rfl, s5, g5, hB5, ml5, oa5, f5, ho5⟩ := c
        walk_at "g"
        refine ⟨scal_at o1 o1, ?_⟩
        rw [show decide (atV o1 = atV o1) = true from decide_eq_true rfl]
        walk_at "g"
        refine ⟨f, dx, _, rfl, f5, f, dx, tm, word, gv, atV o1, rfl, f5, ?_⟩
        walk_at "g"
        refine ⟨scal_at o1 o1, ?_⟩
        rw [show decide (atV o1 = atV o1) = true from decide_eq_true rfl]
        walk_at "g"
        exact ⟨_, _, _, _, _, o1, rfl, s5, g5, hB5, ml5, oa5, f5, ho5⟩
    · obtain ⟨y5, y6, y7, y8, y9, o', rfl, s3, g3, hB3, ml3, oa3, f3, ho3⟩ := c
      walk_at "g"
      exact fin H3 o' s3 g3 hB3 oa3 f3 ho3
end
end D

namespace D
open PySem PySem.Spec PyProof.Rows L2
local macro_rules | `(tactic| walk_at "st") => `(tactic| first | exact SqT.of (by assumption) | exact Or.inl (by assumption) | exact SqT.of upd_same | fail "st")
local macro_rules | `(tactic| walk_at "ixt") => `(tactic| refine ⟨_, _, _, _, rfl, rfl, (by walk_at "st" : SqT _ _ _ _), by rfl, ?_⟩)
local macro_rules | `(tactic| walk_at "sq") => `(tactic| first | exact SqL.of (by assumption) | assumption | exact Or.inl (by assumption) | exact SqL.of upd_same | fail "sq")
local macro_rules | `(tactic| walk_at "ix") => `(tactic| refine ⟨_, _, _, _, rfl, rfl, (by walk_at "sq" : SqL _ _ _ _), by rfl, ?_⟩)
local macro_rules | `(tactic| walk_at "set") => `(tactic| refine ⟨_, _, _, _, rfl, rfl, by first | assumption | exact upd_same, by rfl, ?_⟩)
local macro_rules | `(tactic| walk_at "len") => `(tactic| refine ⟨_, _, rfl, Or.inl (by walk_at "sq" : SqL _ _ _ _), ?_⟩)
local macro_rules | `(tactic| walk_at "g") => `(tactic| repeat (first | refine ⟨_, rfl, ?_⟩ | refine ⟨_, _, rfl, rfl, ?_⟩ | refine ⟨Or.inr (by decide), ?_⟩ | refine ⟨Or.inl (by decide), ?_⟩ | refine ⟨(by decide : (0 : Int) < _), ?_⟩ | refine ⟨(⟨by decide, by decide⟩ : CDiv _ _), ?_⟩ | refine ⟨(⟨by decide, by decide, by decide⟩ : CPow _ _), ?_⟩ | refine Or.inl ⟨_, rfl, ?_⟩ | refine ⟨rfl, ?_⟩ | walk_at "ix" | walk_at "ixt" | walk_at "len" | fail "g"))
local macro_rules | `(tactic| walk_at "if") => `(tactic| refine ite2 (fun e => ?_) (fun e => ?_))
section
variable {P : Program} {w : World} {K : PySem.W.Frag} {mg : Str → Option Value} {base : Heap}
/-- texts and boxes may be compared -/
theorem strs_canlay : ∀ {ms : List Str}, (∀ m ∈ ms, asc m) → PyData.canLayAll0 (ms.map PyData.str) = true ∧ PyData.depthAll (ms.map PyData.str) = 0
  | [], _ => ⟨rfl, rfl⟩
  | m :: r, h => by
    have i := strs_canlay fun z hz => h z (List.mem_cons_of_mem _ hz)
    have g := asc_gd (h m List.mem_cons_self)
    constructor
    · simp only [List.map_cons, PyData.canLayAll0, g.lay, i.1, Bool.and_self]
    · simp only [List.map_cons, PyData.depthAll, i.2, PyData.depth]
      rfl
theorem strs_lay {ms : List Str} (h : ∀ m ∈ ms, asc m) : SeqAt.shaped (.list (ms.map PyData.str)) = true := by
  have i := strs_canlay h
  refine Bool.and_eq_true_iff.mpr ⟨by simp only [PyData.canLay0, i.1], decide_eq_true ?_⟩
  simp only [PyData.depth, i.2]
  decide
theorem strs_eqv {ms : List Str} (h : ∀ m ∈ ms, asc m) : PyData.eqv (.list (ms.map PyData.str)) (.list (ms.map PyData.str)) = true :=
  SeqAt.eqv_refl _ (by simp only [PyData.canLay0, (strs_canlay h).1])
theorem str_dp {K : PySem.W.Frag} {H : Hp} {l : Addr} {ns : List Str} (h : H l = some (.lst (ns.map V.str))) : Dp K H (.ref l) (.list (ns.map PyData.str)) := .lst (.inl (.inl h)) (RpAll.dp (M := fun _ => False) _ _ (RpAll.strs ns))
theorem lkTurn (a b c d : V) : ([(sRule, a), (sPage, b), (sMarks, c), (sAt, d)] : List (Str × V)).lookup (Str.ofString "turn") = none := by
  rw [List.lookup_cons, List.lookup_cons, List.lookup_cons, List.lookup_cons]
  rw [show (Str.ofString "turn" == sRule) = false by decide +kernel, show (Str.ofString "turn" == sPage) = false by decide +kernel, show (Str.ofString "turn" == sMarks) = false by decide +kernel, show (Str.ofString "turn" == sAt) = false by decide +kernel]
  rfl
def two (a f : Addr) : Ms := fun x => x = a ∨ x = f
/-- a page of the rows es -/
structure PgOf (CP : Addr) (M : Ms) (H : Hp) (gv : V) (es : List FlE) : Prop where
  pg : ∃ r, PageAt CP M H gv (growF es) r
  g : good5 (growF es)
  e : (growF es).subs.map entN = es.map entF
theorem PgOf.sx {CP : Addr} {M : Ms} {H H' : Hp} {gv : V} {es : List FlE} (h : PgOf CP M H gv es) (s : Sx M H H') : PgOf CP M H' gv es := by
  obtain ⟨r, hr⟩ := h.pg
  exact ⟨⟨r, hr.sx s⟩, h.g, h.e⟩
def sp_gone (K : PySem.W.Frag) (CF CP : Addr) : Sp := fun vs H Q _ => ∃ (oa f : Addr) (word : Str) (row : Nat) (fv fv2 gv2 : V) (es es2 : List FlE) (o : Option Str) (M : Ms), vs = [.ref oa, fv2, gv2] ∧ Mk M H ∧ OneAt CF CP M H oa f word row fv es o ∧ oa ≠ f ∧ Rp M H fv2 (.list (es2.map flE)) ∧ gF es2 ∧ PgOf CP M H gv2 es2 ∧
  ∀ H' o', Sx (two oa f) H H' → Gr H H' → OneAt CF CP M H' oa f word row fv2 es2 o' → Q (.bl true) H'
theorem ok_gone (T : Txt K mg) : FnOk P w K mg base CX0 14 T.f__law_gone T.d__law_gone ["_law_one", "_law_after", "_law_page"] (sp_gone K T.C_Focus T.C_Page) := by
  have G_Focus_turn := ok_turn (P := P) (w := w) (base := base) T
  have G__law_turned := ok_turned (P := P) (w := w) (base := base) T
  have G__law_listed := ok_listed (P := P) (w := w) (base := base) T
  have G_Focus_page := ok_fpage (P := P) (w := w) (base := base) T
  have G_Focus_at := ok_fat (P := P) (w := w) (base := base) T
  have G_Page_top := ok_top (P := P) (w := w) (base := base) T
  have G__law_grown := ok_grown (P := P) (w := w) (base := base) T
  have G_buttons := ok_btn (P := P) (w := w) (base := base) T
  refine T.F__law_gone.ok sc__law_gone (fun vs H Q E h => ?_) (fun cdv A outer s H vs Q E hr h => ?_)
  · obtain ⟨_, _, _, _, _, _, _, _, _, _, _, rfl, _⟩ := h
    rfl
  · obtain ⟨oa, f, word, row, fv, fv2, gv2, es, es2, o, M, rfl, hM, hO, of', hfv2, gf2, hpg2, q⟩ := h
    obtain ⟨dx, tm, gv, r, n, hoa, moa, mf, hf, pg, en, hg, he, ntm, htm, gf, hfv, hw, ho⟩ := hO
    obtain ⟨⟨r2, pg2⟩, hg2, he2⟩ := hpg2
    generalize hn2 : growF es2 = n2 at pg2 hg2 he2
    have eb := btns_of he
    have eb2 := btns_of he2
    have fM : ∀ x, one f x → M x := fun x z => by rw [show x = f from z]; exact mf
    have ofn : ¬ one f oa := fun z => of' z
    refine ⟨_, (pss_cons (ps_set (i := 3) sc__law_gone.nd rfl (Or.inl rfl) (pe_meth (pe_ix (ix_listK (K := K) rfl) (pv 0) pe_int (fun _ _ => rfl)) T.cl_Focus ⟨T.a_Focus_turn, T.i_Focus_turn, T.F_Focus_turn.kp⟩ G_Focus_turn (hr.mono (by omega)) T.b_Focus_turn .nil pass0 (pa_cons (pv 2) pa_nil)))
      (pss_cons (ps_if (PW.pt (pw_and (pt_cmpR op_notN (pv 3) pe_non (nomark _)) (pw_and1 (pt_not (pt_val (pe_callB (call_isi1K (K := K) rfl) (by rfl) T.m_isinstance (by decide +kernel) (pa_cons (pv 3) (pa_cons (pe_bltn (v := .ty "str") (u := .type "str") (by rfl) T.m_str (by decide +kernel) rfl) pa_nil)))))))) (pss_one (ps_ret pe_bl)) pss_nil)
      (pss_cons (ps_if (pt_not (pt_val (pe_call G__law_turned (hr.mono (by omega)) (by rfl) T.g__law_turned T.F__law_turned.kp T.b__law_turned .nil pass0 (pa_cons (pe_ix (ix_listK (K := K) rfl) (pv 0) pe_int (fun _ _ => rfl)) (pa_cons (pe_ix (ix_listK (K := K) rfl) (pv 0) pe_int (fun _ _ => rfl)) (pa_cons (pe_call G__law_listed (hr.mono (by omega)) (by rfl) T.g__law_listed T.F__law_listed.kp T.b__law_listed .nil pass0 (pa_cons (pe_ix (ix_listK (K := K) rfl) (pv 0) pe_int (fun _ _ => rfl)) pa_nil)) (pa_cons (pe_call G__law_listed (hr.mono (by omega)) (by rfl) T.g__law_listed T.F__law_listed.kp T.b__law_listed .nil pass0 (pa_cons (pv 1) pa_nil)) (pa_cons (pv 3) pa_nil)))))))) (pss_one (ps_ret pe_bl)) pss_nil)
      (pss_cons (ps_asg (pv 1) (pg_sub (pv 0) pe_int set_list))
      (pss_cons (ps_asg (pv 3) (pg_sub (pv 0) pe_int set_list))
      (pss_cons (ps_set (i := 4) sc__law_gone.nd rfl (Or.inl rfl) (pe_prop (pe_ix (ix_listK (K := K) rfl) (pv 0) pe_int (fun _ _ => rfl)) T.cl_Focus T.P_Focus_page G_Focus_page (hr.mono (by omega)) T.b_Focus_page .nil pass0 rfl))
      (pss_cons (ps_if (pt_cmpR op_ne (pe_fldK (K := K) rfl (pe_ix (ix_listK (K := K) rfl) (pv 0) pe_int (fun _ _ => rfl)) rfl) (pe_ix (ix_listK (K := K) rfl) (pv 0) pe_int (fun _ _ => rfl)) (nomark _)) (pss_one (ps_ret pe_bl)) pss_nil)
      (pss_one (ps_ret (pe_and (pe_cmpR op_eq (pe_prop (pe_ix (ix_listK (K := K) rfl) (pv 0) pe_int (fun _ _ => rfl)) T.cl_Focus T.P_Focus_at G_Focus_at (hr.mono (by omega)) T.b_Focus_at .nil pass0 rfl) (pv 3) (nomark _)) (pe_and (pe_cmpR (op_eqDK (K := K) rfl hr.units) (pe_prop (pv 4) T.cl_Page T.P_Page_top G_Page_top (hr.mono (by omega)) T.b_Page_top .nil pass0 rfl) (pe_call G__law_grown (hr.mono (by omega)) (by rfl) T.g__law_grown T.F__law_grown.kp T.b__law_grown .nil pass0 (pa_cons (pv 1) pa_nil)) (nomark _)) (pe_one (pe_cmpR (op_eqDK (K := K) rfl hr.units) (pe_callTy (call_listK (K := K) rfl) (by rfl) T.m_list (by decide +kernel) (pa_cons (pe_call G_buttons (hr.mono (by omega)) (by rfl) T.g_buttons T.F_buttons.kp T.b_buttons .nil pass0 (pa_cons (pv 4) pa_nil)) pa_nil)) (pe_call G__law_listed (hr.mono (by omega)) (by rfl) T.g__law_listed T.F__law_listed.kp T.b__law_listed .nil pass0 (pa_cons (pv 1) pa_nil)) (nomark _)))))))))))))), ?_⟩
    walk_at "g"
    refine ⟨f, dx, _, rfl, hf, lkTurn _ _ _ _, ?_⟩
    walk_at "g"
    refine ⟨f, dx, tm, word, gv, gv2, r, r2, n, n2, o, M, rfl, hf, mf, hM, ntm, htm, pg, pg2, hg, hg2, ho, fun H1 tm2 s1 g1 e1 nm2 htm2 => ?_⟩
    obtain ⟨o2, ho2⟩ : ∃ o2, o2 = settleO word o (btns n) (btns n2) := ⟨_, rfl⟩
    have hoa1 := s1 _ _ ofn hoa
    rw [← ho2] at e1
    rw [← ho2]
    show gName 3 (atV o2) _ _ _
    dsimp only [gName]
    with_reducible refine seq_join (fun σ3 H3 => σ3 = [some (.ref oa), some fv2, some gv2, some (atV o2), none] ∧ H3 = H1) (fun hN => ?_) (fun σ3 H3 c => ?_)
    · cases o2 with
      | none =>
        refine ⟨_, rfl, rfl, _, rfl, ?_⟩
        rw [show decide (atV none = V.non) = true from decide_eq_true rfl]
        exact hN _ _ ⟨rfl, rfl⟩
      | some m =>
        walk_at "g"
        refine ⟨_, _, _, _, true, rfl, .ty _, .base (.str _), kit_ty (by decide +kernel), ?_⟩
        refine ⟨true, rfl, ?_⟩
        exact hN _ _ ⟨rfl, rfl⟩
    obtain ⟨rfl, eh⟩ := c
    subst eh
    have hfv1 := hfv.sx (s1.le fM)
    have hfv21 := hfv2.sx (s1.le fM)
    have hM1 := hM.gr g1
    have pg21 := pg2.sx (s1.le fM)
    walk_at "g"
    refine ⟨fv, es, M, rfl, hfv1, gf.len, fun e he => (gf.lab e he).1, fun H2 p1 s2 hp1 e2 => ?_⟩
    walk_at "g"
    refine ⟨fv2, es2, M, rfl, hfv21.sx (Sx.same s2), gf2.len, fun e he => (gf2.lab e he).1, fun H4 p2 s4 hp2 e4 => ?_⟩
    rw [← eb] at e2
    rw [← eb2] at e4
    walk_at "g"
    refine ⟨word, o, p1, p2, btns n, btns n2, by rw [ho2]; rfl, hw, s4 _ _ e2, e4, ho, btns_nd hg.g.nd, Nat.le_trans (btns_len n) hg.g.len, fun H5 s5 => ?_⟩
    have s15 := s2.trans (s4.trans s5)
    have oa5 := s15 _ _ hoa1
    have e5 := s15 _ _ e1
    walk_at "g"
    refine ⟨_, _, _, _, rfl, rfl, oa5, rfl, ?_⟩
    have oa6 : upd H5 oa (.lst [.str word, .ref f, fv2, atV o, .int (row : Nat)]) oa = some (.lst [.str word, .ref f, fv2, atV o, .int (row : Nat)]) := upd_same
    have s6 : Sx (one oa) H5 (upd H5 oa (.lst [.str word, .ref f, fv2, atV o, .int (row : Nat)])) := Sx.put rfl
    have g6 : Gr H5 (upd H5 oa (.lst [.str word, .ref f, fv2, atV o, .int (row : Nat)])) := Gr.upd
    walk_at "g"
    refine ⟨_, _, _, _, rfl, rfl, oa6, rfl, ?_⟩
    obtain ⟨H7, hH7⟩ : ∃ H7, H7 = upd (upd H5 oa (.lst [.str word, .ref f, fv2, atV o, .int (row : Nat)])) oa (.lst [.str word, .ref f, fv2, atV o2, .int (row : Nat)]) := ⟨_, rfl⟩
    have oa7 : H7 oa = some (.lst [.str word, .ref f, fv2, atV o2, .int (row : Nat)]) := by rw [hH7]; exact upd_same
    have s7 : Sx (one oa) H5 H7 := by rw [hH7]; exact s6.trans (Sx.put rfl)
    have g7 : Gr H5 H7 := by rw [hH7]; exact g6.trans Gr.upd
    show (tSeq _ _) _ _ (upd (upd H5 oa (.lst [.str word, .ref f, fv2, atV o, .int (row : Nat)])) oa (.lst [.str word, .ref f, fv2, atV o2, .int (row : Nat)]))
    rw [← hH7]
    clear oa6 s6 g6 hH7
    have oM : ∀ x, one oa x → M x := fun x z => by rw [show x = oa from z]; exact moa
    have e7 := s7 _ _ (fun z : f = oa => of' z.symm) e5
    have S17 : Sx M H3 H7 := (Sx.same s15).trans (s7.le oM)
    have pg7 := pg21.sx S17
    have hM7 := (hM1.gr (Gr.same s15)).gr g7
    have hfv7 := hfv21.sx S17
    have htm7 : TupF H7 tm2 ((btns n2).map V.str) := (htm2.same s15).sx s7 (fun z => nm2 (oM _ z))
    walk_at "g"
    refine ⟨f, dx, _, rfl, e7, f, dx, tm2, word, gv2, atV o2, rfl, e7, ?_⟩
    walk_at "g"
    refine ⟨f, _, dx, _, _, rfl, e7, T.cl_Focus, T.nA_Focus_rule, lkR _ _ _ _, ?_⟩
    walk_at "g"
    rw [show decide (V.str word = V.str word) = true from decide_eq_true rfl]
    walk_at "g"
    refine ⟨f, dx, _, rfl, e7, f, dx, tm2, word, gv2, atV o2, rfl, e7, ?_⟩
    walk_at "g"
    refine ⟨scal_at o2 o2, ?_⟩
    rw [show decide (atV o2 = atV o2) = true from decide_eq_true rfl]
    walk_at "g"
    obtain ⟨pa, pdx, pfs, epa, hpa⟩ := pg7.ins
    subst epa
    refine ⟨pa, pdx, _, rfl, hpa, .ref pa, r2, n2, M, rfl, pg7, ?_⟩
    walk_at "g"
    refine ⟨fv2, 4, es2, M, rfl, hfv7, hM7, gf2.len, fun e he => (gf2.lab e he).2.2, gf2.hd, fun v8 H8 n3 s8 r8 q1 q2 q3 => ?_⟩
    have e3 : n3 = n2 := q3.trans hn2
    subst e3
    refine ⟨_, _, Rp.dp _ _ (pg7.root.sx (Sx.same s8)), Rp.dp _ _ r8, enc_shaped hg2.asc (by have := hg2.d; omega), enc_shaped hg2.asc (by have := hg2.d; omega), ?_⟩
    rw [SeqAt.eqv_refl _ (enc_lay n3 hg2.asc).1]
    walk_at "g"
    refine ⟨.ref pa, r2, n3, M, rfl, pg7.sx (Sx.same s8), hg2.g, fun H9 tq s9 htq etq => ?_⟩
    walk_at "g"
    refine ⟨tq, _, rfl, .inr etq.sq, fun D hD => ?_⟩
    have s10 : Same H9 (upd H9 D (.lst ((btns n3).map V.str))) := same_new hD
    have e10 : upd H9 D (.lst ((btns n3).map V.str)) D = some (.lst ((btns n3).map V.str)) := upd_same
    generalize upd H9 D (.lst ((btns n3).map V.str)) = H10 at s10 e10
    have S10 := s8.trans (s9.trans s10)
    have amk : ∀ m ∈ btns n3, asc m := fun m hm => by
      obtain ⟨x, hx, rfl⟩ := List.mem_map.mp (btns_mem hm)
      exact (hg2.asc x hx).1
    walk_at "g"
    refine ⟨fv2, es2, M, rfl, hfv7.sx (Sx.same S10), gf2.len, fun e he => (gf2.lab e he).1, fun H11 p11 s11 hp11 e11 => ?_⟩
    rw [← eb2] at e11
    refine ⟨_, _, str_dp (s11 _ _ e10), str_dp e11, strs_lay amk, strs_lay amk, ?_⟩
    rw [strs_eqv amk]
    have S11 := S10.trans s11
    have w1 : Sx (two oa f) H H11 := (s1.le fun x z => .inr z).trans ((Sx.same s15).trans ((s7.le fun x z => .inl z).trans (Sx.same S11)))
    refine q H11 o2 w1 (g1.trans ((Gr.same s15).trans (g7.trans (Gr.same S11)))) ⟨dx, tm2, .ref pa, r2, n3, S11 _ _ oa7, moa, mf, S11 _ _ e7, pg7.sx (Sx.same S11), hn2.symm, hg2, he2, nm2, htm7.same S11, gf2, hfv7.sx (Sx.same S11), hw, fun m hm => ?_⟩
    rw [ho2] at hm
    exact settleO_mem hm
end
end D

namespace D
open PySem PySem.Spec PyProof.Rows L2
local macro_rules | `(tactic| walk_at "st") => `(tactic| first | exact SqT.of (by assumption) | exact Or.inl (by assumption) | exact SqT.of upd_same | fail "st")
local macro_rules | `(tactic| walk_at "ixt") => `(tactic| refine ⟨_, _, _, _, rfl, rfl, (by walk_at "st" : SqT _ _ _ _), by rfl, ?_⟩)
local macro_rules | `(tactic| walk_at "sq") => `(tactic| first | exact SqL.of (by assumption) | assumption | exact Or.inl (by assumption) | exact SqL.of upd_same | fail "sq")
local macro_rules | `(tactic| walk_at "ix") => `(tactic| refine ⟨_, _, _, _, rfl, rfl, (by walk_at "sq" : SqL _ _ _ _), by rfl, ?_⟩)
local macro_rules | `(tactic| walk_at "set") => `(tactic| refine ⟨_, _, _, _, rfl, rfl, by first | assumption | exact upd_same, by rfl, ?_⟩)
local macro_rules | `(tactic| walk_at "len") => `(tactic| refine ⟨_, _, rfl, Or.inl (by walk_at "sq" : SqL _ _ _ _), ?_⟩)
local macro_rules | `(tactic| walk_at "g") => `(tactic| repeat (first | refine ⟨_, rfl, ?_⟩ | refine ⟨_, _, rfl, rfl, ?_⟩ | refine ⟨Or.inr (by decide), ?_⟩ | refine ⟨Or.inl (by decide), ?_⟩ | refine ⟨(by decide : (0 : Int) < _), ?_⟩ | refine ⟨(⟨by decide, by decide⟩ : CDiv _ _), ?_⟩ | refine ⟨(⟨by decide, by decide, by decide⟩ : CPow _ _), ?_⟩ | refine Or.inl ⟨_, rfl, ?_⟩ | refine ⟨rfl, ?_⟩ | walk_at "ix" | walk_at "ixt" | walk_at "len" | fail "g"))
local macro_rules | `(tactic| walk_at "if") => `(tactic| refine ite2 (fun e => ?_) (fun e => ?_))
section
variable {P : Program} {w : World} {K : PySem.W.Frag} {mg : Str → Option Value} {base : Heap}
/-- one of the group -/
structure Gm where
  oa : Addr
  f : Addr
  word : Str
  row : Nat
/-- the group's places lie apart -/
structure Apt (b G : Addr) (M : Ms) (gs : List Gm) : Prop where
  mG : M G
  Gb : G ≠ b
  ob : ∀ g ∈ gs, g.oa ≠ b ∧ g.f ≠ b ∧ G ≠ g.oa ∧ G ≠ g.f
  of' : ∀ g ∈ gs, ∀ k ∈ gs, g.oa ≠ k.f
  oo : ∀ g ∈ gs, ∀ k ∈ gs, g.oa = k.oa → g = k
  ff : ∀ g ∈ gs, ∀ k ∈ gs, g.f = k.f → g = k
  row : ∀ g ∈ gs, g.row < 2
/-- the group -/
structure Grp (K : PySem.W.Frag) (CF CP b G pa : Addr) (pool : List Str) (M : Ms) (gs : List Gm) (H : Hp) : Prop where
  bag : Bag K M H b
  ok : Mk M H
  G' : H G = some (.lst (gs.map fun g => .ref g.oa))
  pool' : Rd H pa (.lst (pool.map V.str))
  npa : ¬ M pa
  grp : ∀ g ∈ gs, ∃ fv es o, OneAt CF CP M H g.oa g.f g.word g.row fv es o
section
variable {CF CP b G pa : Addr} {pool : List Str} {M : Ms} {gs : List Gm} {H H' : Hp}
theorem OneAt.m {oa f : Addr} {word : Str} {row : Nat} {fv : V} {es : List FlE} {o : Option Str} (h : OneAt CF CP M H oa f word row fv es o) : M oa ∧ M f := by
  obtain ⟨dx, tm, gv, r, n, h1, h2, h3, h4⟩ := h
  exact ⟨h2, h3⟩
theorem Grp.same (h : Grp K CF CP b G pa pool M gs H) (s : Same H H') : Grp K CF CP b G pa pool M gs H' :=
  ⟨h.bag.same s, h.ok.gr (Gr.same s), s _ _ h.G', same_rd s h.pool', h.npa, fun g hg => by
    obtain ⟨fv, es, o, ho⟩ := h.grp g hg
    exact ⟨fv, es, o, ho.same s⟩⟩
theorem Grp.pick (h : Grp K CF CP b G pa pool M gs H) (A : Apt b G M gs) (s : Sx (one b) H H') (g : Gr H H') (hB : Bag K M H' b) : Grp K CF CP b G pa pool M gs H' :=
  ⟨hB, h.ok.gr g, s _ _ A.Gb h.G', sx_rd s (fun z : pa = b => h.npa (by rw [z]; exact hB.w)) h.pool', h.npa, fun g hg => by
    obtain ⟨fv, es, o, ho⟩ := h.grp g hg
    obtain ⟨a1, a2, _⟩ := A.ob g hg
    exact ⟨fv, es, o, ho.sx s (one_le hB.w) a1 a2⟩⟩
theorem Grp.one' (h : Grp K CF CP b G pa pool M gs H) (A : Apt b G M gs) {g : Gm} (hg : g ∈ gs) (s : Sx (wf b g.oa g.f) H H') (gr : Gr H H') (hB : Bag K M H' b) {fv : V} {es : List FlE} {o : Option Str} (ho : OneAt CF CP M H' g.oa g.f g.word g.row fv es o) : Grp K CF CP b G pa pool M gs H' := by
  obtain ⟨m1, m2⟩ := ho.m
  obtain ⟨a1, a2, a3, a4⟩ := A.ob g hg
  have le : ∀ x, wf b g.oa g.f x → M x := fun x z => by
    rcases z with rfl | rfl | rfl
    · exact hB.w
    · exact m1
    · exact m2
  refine ⟨hB, h.ok.gr gr, s _ _ (fun z => ?_) h.G', sx_rd s (fun z => h.npa (le _ z)) h.pool', h.npa, fun k hk => ?_⟩
  · rcases z with z | z | z
    · exact A.Gb z
    · exact a3 z
    · exact a4 z
  · by_cases e : k = g
    · subst e
      exact ⟨fv, es, o, ho⟩
    · obtain ⟨fv', es', o', ho'⟩ := h.grp k hk
      obtain ⟨b1, b2, b3, b4⟩ := A.ob k hk
      refine ⟨fv', es', o', ho'.sx s le (fun z => ?_) (fun z => ?_)⟩
      · rcases z with z | z | z
        · exact b1 z
        · exact e (A.oo k hk g hg z)
        · exact A.of' k hk g hg z
      · rcases z with z | z | z
        · exact b2 z
        · exact A.of' g hg k hk z.symm
        · exact e (A.ff k hk g hg z)
end
theorem Apt.add {CF CP b G pa p x : Addr} {pool : List Str} {M : Ms} {gs : List Gm} {H : Hp} {word : Str} {row : Nat} (A : Apt b G M gs) (R : Grp K CF CP b G pa pool M gs H) (hx : H x = none) (hp : H p = none) (px : p ≠ x) (hr : row < 2) : Apt b G (also (also M x) p) (gs ++ [⟨p, x, word, row⟩]) := by
  have th : ∀ y, M y → ∀ z, H z = none → y ≠ z := fun y hy z hz e => R.ok y hy (by rw [e]; exact hz)
  have mm : ∀ g ∈ gs, M g.oa ∧ M g.f := fun g hg => by
    obtain ⟨fv, es, o, ho⟩ := R.grp g hg
    exact ho.m
  have cs : ∀ g, g ∈ gs ++ [(⟨p, x, word, row⟩ : Gm)] → g ∈ gs ∨ g = ⟨p, x, word, row⟩ := fun g hg => by
    rcases List.mem_append.mp hg with z | z
    · exact .inl z
    · exact .inr (List.mem_singleton.mp z)
  refine ⟨.inl (.inl A.mG), A.Gb, fun g hg => ?_, fun g hg k hk => ?_, fun g hg k hk e => ?_, fun g hg k hk e => ?_, fun g hg => ?_⟩
  · rcases cs g hg with z | rfl
    · exact A.ob g z
    · exact ⟨(th b R.bag.w p hp).symm, (th b R.bag.w x hx).symm, th G A.mG p hp, th G A.mG x hx⟩
  · rcases cs g hg with z | rfl <;> rcases cs k hk with y | rfl
    · exact A.of' g z k y
    · exact th _ (mm g z).1 x hx
    · exact (th _ (mm k y).2 p hp).symm
    · exact px
  · rcases cs g hg with z | rfl <;> rcases cs k hk with y | rfl
    · exact A.oo g z k y e
    · exact absurd e (th _ (mm g z).1 p hp)
    · exact absurd e.symm (th _ (mm k y).1 p hp)
    · rfl
  · rcases cs g hg with z | rfl <;> rcases cs k hk with y | rfl
    · exact A.ff g z k y e
    · exact absurd e (th _ (mm g z).2 x hx)
    · exact absurd e.symm (th _ (mm k y).2 x hx)
    · rfl
  · rcases cs g hg with z | rfl
    · exact A.row g z
    · exact hr
theorem Grp.add {CF CP b G pa p x : Addr} {pool : List Str} {M : Ms} {gs : List Gm} {H H2 H3 : Hp} {word : Str} {row : Nat} {fv : V} {es : List FlE} {ls : List V} (R : Grp K CF CP b G pa pool M gs H) (A : Apt b G M gs) (hx : H x = none) (S : Same H H2) (hx2 : H2 x ≠ none) (hp : H2 p = none)
    (e3 : H3 = upd (upd H2 p (.lst ls)) G (.lst (gs.map (fun g => V.ref g.oa) ++ [.ref p]))) (hn : OneAt CF CP (also (also M x) p) H3 p x word row fv es none) : Grp K CF CP b G pa pool (also (also M x) p) (gs ++ [⟨p, x, word, row⟩]) H3 := by
  subst e3
  have bG : b ≠ G := fun z => A.Gb z.symm
  have pG : p ≠ G := fun z => (R.ok.gr (Gr.same S)) G A.mG (by rw [← z]; exact hp)
  have paG : pa ≠ G := fun z => R.npa (by rw [z]; exact A.mG)
  have le : ∀ y, one G y → also (also M x) p y := fun y z => by rw [show y = G from z]; exact .inl (.inl A.mG)
  have sG : ∀ {J : Hp} {o : HO}, Sx (one G) J (upd J G o) := Sx.put rfl
  refine ⟨(((R.bag.more hx).same S).more hp |>.same (same_new hp)).keep sG bG le, ?_, ?_, ?_, fun z => ?_, fun g hg => ?_⟩
  · exact (((R.ok.gr (Gr.same S)).also hx2).new.also upd_there).gr Gr.upd
  · rw [upd_same, List.map_append]
    rfl
  · exact sx_rd sG (fun z : pa = G => paG z) (same_rd (same_new hp) (same_rd S R.pool'))
  · rcases z with (z | z) | z
    · exact R.npa z
    · exact rd_ne R.pool' hx z
    · exact rd_ne (same_rd S R.pool') hp z
  · rcases List.mem_append.mp hg with z | z
    · obtain ⟨fv', es', o', ho⟩ := R.grp g z
      obtain ⟨a1, a2, a3, a4⟩ := A.ob g z
      exact ⟨fv', es', o', ((((ho.fresh hx).same S).fresh hp).same (same_new hp)).sx sG le (fun y : g.oa = G => a3 y.symm) (fun y : g.f = G => a4 y.symm)⟩
    · rw [List.mem_singleton.mp z]
      exact ⟨fv, es, none, hn⟩
theorem Grp.leM {CF CP b G pa : Addr} {pool : List Str} {M : Ms} {gs : List Gm} {H : Hp} (R : Grp K CF CP b G pa pool M gs H) {g : Gm} (hg : g ∈ gs) : ∀ x, wf b g.oa g.f x → M x := fun x z => by
  obtain ⟨fv, es, o, ho⟩ := R.grp g hg
  rcases z with rfl | rfl | rfl
  · exact R.bag.w
  · exact ho.m.1
  · exact ho.m.2
theorem gs_mem {gs : List Gm} {x : V} (h : x ∈ gs.map fun g => V.ref g.oa) : ∃ g ∈ gs, x = .ref g.oa := by
  obtain ⟨g, hg, rfl⟩ := List.mem_map.mp h
  exact ⟨g, hg, rfl⟩
/-- the rows of a turn -/
structure Fls (M : Ms) (H : Hp) (lf : Addr) (v0 v1 : V) (es0 es1 : List FlE) : Prop where
  row : H lf = some (.lst [v0, v1])
  nlf : ¬ M lf
  r0 : Rp M H v0 (.list (es0.map flE))
  r1 : Rp M H v1 (.list (es1.map flE))
  g0 : gF es0
  g1 : gF es1
theorem Fls.sx {M : Ms} {H H' : Hp} {lf : Addr} {v0 v1 : V} {es0 es1 : List FlE} (h : Fls M H lf v0 v1 es0 es1) (s : Sx M H H') : Fls M H' lf v0 v1 es0 es1 := ⟨s _ _ h.nlf h.row, h.nlf, h.r0.sx s, h.r1.sx s, h.g0, h.g1⟩
theorem Fls.fresh {M : Ms} {H : Hp} {lf p : Addr} {v0 v1 : V} {es0 es1 : List FlE} (h : Fls M H lf v0 v1 es0 es1) (hp : H p = none) : Fls (also M p) H lf v0 v1 es0 es1 := ⟨h.row, fun z => z.elim h.nlf fun z => (by have := h.row; rw [show lf = p from z, hp] at this; cases this), h.r0.fresh hp, h.r1.fresh hp, h.g0, h.g1⟩
/-- the pages of a turn -/
structure Pgs (CP : Addr) (M : Ms) (H : Hp) (lp : Addr) (g0 g1 : V) (es0 es1 : List FlE) : Prop where
  row : H lp = some (.lst [g0, g1])
  nlp : ¬ M lp
  p0 : PgOf CP M H g0 es0
  p1 : PgOf CP M H g1 es1
theorem Pgs.sx {CP : Addr} {M : Ms} {H H' : Hp} {lp : Addr} {g0 g1 : V} {es0 es1 : List FlE} (h : Pgs CP M H lp g0 g1 es0 es1) (s : Sx M H H') : Pgs CP M H' lp g0 g1 es0 es1 := ⟨s _ _ h.nlp h.row, h.nlp, h.p0.sx s, h.p1.sx s⟩
theorem PgOf.fresh {CP : Addr} {M : Ms} {H : Hp} {gv : V} {es : List FlE} {p : Addr} (h : PgOf CP M H gv es) (hp : H p = none) : PgOf CP (also M p) H gv es := by
  obtain ⟨r, hr⟩ := h.pg
  exact ⟨⟨r, hr.fresh hp⟩, h.g, h.e⟩
theorem PageAt.less {C : Addr} {M : Ms} {H : Hp} {v r : V} {n : Nd} {p : Addr} (h : PageAt C (also M p) H v n r) : PageAt C M H v n r := by
  obtain ⟨a, dx, dn, on, gv, us, rfl, na, ha, hr, nn, hn, hu⟩ := h
  exact ⟨a, dx, dn, on, gv, us, rfl, fun z => na (.inl z), ha, hr.less also_le, fun z => nn (.inl z), hn, hu.less also_le⟩
theorem PgOf.less {CP : Addr} {M : Ms} {H : Hp} {gv : V} {es : List FlE} {p : Addr} (h : PgOf CP (also M p) H gv es) : PgOf CP M H gv es := by
  obtain ⟨r, hr⟩ := h.pg
  exact ⟨⟨r, hr.less⟩, h.g, h.e⟩
theorem Pgs.fresh {CP : Addr} {M : Ms} {H : Hp} {lp p : Addr} {g0 g1 : V} {es0 es1 : List FlE} (h : Pgs CP M H lp g0 g1 es0 es1) (hp : H p = none) : Pgs CP (also M p) H lp g0 g1 es0 es1 := ⟨h.row, fun z => z.elim h.nlp fun z => (by have := h.row; rw [show lp = p from z, hp] at this; cases this), h.p0.fresh hp, h.p1.fresh hp⟩
theorem if_tC {c : Bool} {a b : Int} {σ : L2.St} {H : Hp} {Q : V → Hp → Prop} (h : ∀ v : Int, (v = a ∨ v = b) → Q (.int v) H) : if c = true then tC (V.int a) σ H Q else tC (V.int b) σ H Q := by
  cases c
  · exact h b (.inr rfl)
  · exact h a (.inl rfl)
theorem ok_pgs {CP lf : Addr} {v0 v1 : V} {es0 es1 : List FlE} {M : Ms} {H : Hp} {Q : VK} {x0 x1 x2 x4 x5 x6 x7 x8 x9 x10 x11 : Option V} (hM : Mk M H) (F : Fls M H lf v0 v1 es0 es1) (q : ∀ H' lp g0 g1, Same H H' → Pgs CP M H' lp g0 g1 es0 es1 → Q (.ref lp) H') :
    tLc (iList K (tVar 3)) (gName 11) tYes (tMake CP (sp_page CP) [] E0 (tCons (tCall sp_grown [] E0 (tCons (tVar 11) tNil)) tNil)) (List.map (fun x : Str × Nat => x.snd) [(Str.ofString "_law_flat_here", 11)]) [x0, x1, x2, some (.ref lf), x4, x5, x6, x7, x8, x9, x10, x11] H Q := by
  have Zs := fun (H : Hp) (C x dx : Addr) (hx : H x = none) (hdx : H dx = none) (hne : dx ≠ x) => (same_new (o := .own x) hdx).trans (same_new (p := x) (o := .ins C dx []) (by rw [upd_ne (fun z => hne z.symm)]; exact hx))
  have F0 := F.row
  walk_at "g"
  refine ⟨⟨_, SqL.of F0⟩, fun D hD => ?_⟩
  have nD := hM.out hD
  have hM1 : Mk (also M D) (upd H D (.lst [])) := hM.new.also upd_there
  have F1 := (F.fresh hD).sx (Sx.same (same_new hD (o := .lst [])))
  refine list_loop (K := K) (a := lf) (xs := [v0, v1]) (fun j H' => Same H H' ∧ Gr (upd H D (.lst [])) H' ∧ Sx (also M D) (upd H D (.lst [])) H' ∧ ∃ ps : List V, H' D = some (.lst ps) ∧ ps.length = j ∧ (∀ g, ps[0]? = some g → PgOf CP (also M D) H' g es0) ∧ (∀ g, ps[1]? = some g → PgOf CP (also M D) H' g es1)) ⟨same_new hD, Gr.refl, Sx.refl, [], upd_same, rfl, (fun g z => by cases z), fun g z => by cases z⟩ (fun j H' _ z => SqL.of (z.1 _ _ F0)) (fun j x H2 hx p => ?_) (fun H2 p => ?_)
  · obtain ⟨s2, gr2, sx2, ps, eD, lp, p0, p1⟩ := p
    have F2 := F1.sx sx2
    have hM2 := hM1.gr gr2
    obtain ⟨es, ex, rx, gx⟩ : ∃ es, ((j = 0 ∧ es = es0) ∨ (j = 1 ∧ es = es1)) ∧ Rp (also M D) H2 x (.list (es.map flE)) ∧ gF es := by
      match j, hx with
      | 0, hx => cases hx; exact ⟨es0, .inl ⟨rfl, rfl⟩, F2.r0, F2.g0⟩
      | 1, hx => cases hx; exact ⟨es1, .inr ⟨rfl, rfl⟩, F2.r1, F2.g1⟩
    walk_at "g"
    refine ⟨x, 4, es, also M D, rfl, rx, hM2, gx.len, fun e he => (gx.lab e he).2.2, gx.hd, fun v3 H3 n s3 r3 q1 q2 q3 => ?_⟩
    have hg : goodT n := goodT_of q1 rfl gx.ms (by rw [List.length_map]; exact gx.len) (fun e he => ⟨(gx.lab e he).1, (gx.lab e he).2.1⟩) (by omega)
    have hM3 := hM2.gr (Gr.same s3)
    walk_at "g"
    intro x4 dx4 hx4 hdx4 hne4
    have hx4 : H3 x4 = none := hx4
    have SA4 := Zs H3 CP x4 dx4 hx4 hdx4 hne4
    refine ⟨x4, dx4, v3, n, also (also M D) x4, rfl, upd_same, .inr rfl, (r3.fresh hx4).sx (Sx.same SA4), (hM3.gr (Gr.same SA4)).also (ne_none upd_same), hg, fun H4 dn4 on4 gq4 us4 sx4 gx4 e4 nd4 hd4 hu4 => ⟨rfl, ?_⟩⟩
    have S4 := made_same hx4 SA4 sx4
    have pg4 : PageAt CP (also M D) H4 (.ref x4) n v3 := ⟨x4, dx4, dn4, on4, _, us4, rfl, hM3.out hx4, e4, r3.sx (Sx.same S4), fun z => nd4 (.inl z), hd4, hu4.less also_le⟩
    have S24 := s3.trans S4
    have eD4 := S24 _ _ eD
    have sD : Sx (also M D) H4 (upd H4 D (.lst (ps ++ [.ref x4]))) := Sx.put (.inr rfl)
    have pn : PgOf CP (also M D) (upd H4 D (.lst (ps ++ [.ref x4]))) (.ref x4) es := ⟨⟨v3, by rw [← q3]; exact pg4.sx sD⟩, ⟨by rw [← q3]; exact hg, by rw [← q3]; exact q2⟩, by rw [← q3]; exact q1⟩
    refine ⟨_, eD4, small1000 (by have : j < 2 := (List.getElem?_eq_some_iff.mp hx).1; omega), same_put (s2.trans S24) hD, (gr2.trans (Gr.same S24)).trans Gr.upd, (sx2.trans (Sx.same S24)).trans sD, _, upd_same, by rw [List.length_append, lp]; rfl, fun g hg0 => ?_, fun g hg1 => ?_⟩
    · rcases ex with ⟨rfl, rfl⟩ | ⟨rfl, rfl⟩
      · have : ps = [] := List.length_eq_zero_iff.mp lp
        subst this
        cases hg0
        exact pn
      · rw [List.getElem?_append_left (by omega)] at hg0
        exact ((p0 g hg0).sx (Sx.same S24)).sx sD
    · rcases ex with ⟨rfl, rfl⟩ | ⟨rfl, rfl⟩
      · have : ps = [] := List.length_eq_zero_iff.mp lp
        subst this
        cases hg1
      · obtain ⟨p', rfl⟩ : ∃ p', ps = [p'] := List.length_eq_one_iff.mp lp
        cases hg1
        exact pn
  · obtain ⟨s2, gr2, sx2, ps, eD, lp, p0, p1⟩ := p
    obtain ⟨g0, g1, rfl⟩ : ∃ g0 g1, ps = [g0, g1] := by
      match ps, lp with
      | [g0, g1], _ => exact ⟨g0, g1, rfl⟩
    exact q H2 D g0 g1 s2 ⟨eD, nD, (p0 g0 rfl).less, (p1 g1 rfl).less⟩
end
end D

namespace D
open PySem PySem.Spec PyProof.Rows L2
local macro_rules | `(tactic| walk_at "st") => `(tactic| first | exact SqT.of (by assumption) | exact Or.inl (by assumption) | exact SqT.of upd_same | fail "st")
local macro_rules | `(tactic| walk_at "ixt") => `(tactic| refine ⟨_, _, _, _, rfl, rfl, (by walk_at "st" : SqT _ _ _ _), by rfl, ?_⟩)
local macro_rules | `(tactic| walk_at "sq") => `(tactic| first | exact SqL.of (by assumption) | assumption | exact Or.inl (by assumption) | exact SqL.of upd_same | fail "sq")
local macro_rules | `(tactic| walk_at "ix") => `(tactic| refine ⟨_, _, _, _, rfl, rfl, (by walk_at "sq" : SqL _ _ _ _), by rfl, ?_⟩)
local macro_rules | `(tactic| walk_at "set") => `(tactic| refine ⟨_, _, _, _, rfl, rfl, by first | assumption | exact upd_same, by rfl, ?_⟩)
local macro_rules | `(tactic| walk_at "len") => `(tactic| refine ⟨_, _, rfl, Or.inl (by walk_at "sq" : SqL _ _ _ _), ?_⟩)
local macro_rules | `(tactic| walk_at "g") => `(tactic| repeat (first | refine ⟨_, rfl, ?_⟩ | refine ⟨_, _, rfl, rfl, ?_⟩ | refine ⟨Or.inr (by decide), ?_⟩ | refine ⟨Or.inl (by decide), ?_⟩ | refine ⟨(by decide : (0 : Int) < _), ?_⟩ | refine ⟨(⟨by decide, by decide⟩ : CDiv _ _), ?_⟩ | refine ⟨(⟨by decide, by decide, by decide⟩ : CPow _ _), ?_⟩ | refine Or.inl ⟨_, rfl, ?_⟩ | refine ⟨rfl, ?_⟩ | walk_at "ix" | walk_at "ixt" | walk_at "len" | fail "g"))
local macro_rules | `(tactic| walk_at "if") => `(tactic| refine ite2 (fun e => ?_) (fun e => ?_))
section
variable {P : Program} {w : World} {K : PySem.W.Frag} {mg : Str → Option Value} {base : Heap}
theorem seq_asg {te : TE} {g : TG} {u : TS} {D : Ends} {σ : L2.St} {H : Hp} (h : te σ H fun x H1 => g x σ H1 (u D)) : tSeq (tAsg te g) u D σ H := h
def sp_law (K : PySem.W.Frag) : Sp := fun vs H Q _ => ∃ (a : Addr) (ns : List Int), vs = [.ref a] ∧ SqL K H a (ns.map V.int) ∧ ns.length ≤ 63 ∧ ∀ H', Q (.bl true) H'
theorem ok_law (T : Txt K mg) (Z : TRul K mg) : FnOk P w K mg base CX0 72 T.f_law T.d_law ["_law_script"] (sp_law K) := by
  have G__law_bag := ok_bag (P := P) (w := w) (base := base) T
  have G__law_pick := ok_pick (P := P) (w := w) (base := base) T
  have G__law_marks := ok_marks (P := P) (w := w) (base := base) T
  have G__law_fresh := ok_fresh (P := P) (w := w) (base := base) T
  have G__law_grown := ok_grown (P := P) (w := w) (base := base) T
  have G_Page___init__ := ok_page (P := P) (w := w) (base := base) T
  have G_Focus___init__ := ok_finit (P := P) (w := w) (base := base) T Z
  have G__law_deeds := ok_deeds (P := P) (w := w) (base := base) T
  have G__law_next := ok_next (P := P) (w := w) (base := base) T
  have G__law_mingled := ok_mingV (P := P) (w := w) (base := base) T
  have G__law_gone := ok_gone (P := P) (w := w) (base := base) T
  refine T.F_law.ok sc_law (fun vs H Q E h => ?_) (fun cdv A outer s H vs Q E hr h => ?_)
  · obtain ⟨_, _, rfl, _⟩ := h
    rfl
  · obtain ⟨a, ns, rfl, hS, hl, q⟩ := h
    refine ⟨_, (pss_cons (ps_set (i := 1) sc_law.nd rfl (Or.inr rfl) (pe_call G__law_bag (hr.mono (by omega)) (by rfl) T.g__law_bag T.F__law_bag.kp T.b__law_bag .nil pass0 (pa_cons (pv 0) pa_nil)))
      (pss_cons (ps_set (i := 2) sc_law.nd rfl (Or.inr rfl) (pe_call G__law_marks (hr.mono (by omega)) (by rfl) T.g__law_marks T.F__law_marks.kp T.b__law_marks .nil pass0 (pa_cons (pv 1) (pa_cons (pe_ifExp (pt_cmpR op_eq (pe_call G__law_pick (hr.mono (by omega)) (by rfl) T.g__law_pick T.F__law_pick.kp T.b__law_pick .nil pass0 (pa_cons (pv 1) (pa_cons pe_int pa_nil))) pe_int (nomark _)) pe_int pe_int) pa_nil))))
      (pss_cons (ps_set (i := 3) sc_law.nd rfl (Or.inl rfl) (pe_lst (pa_cons (pe_call G__law_fresh (hr.mono (by omega)) (by rfl) T.g__law_fresh T.F__law_fresh.kp T.b__law_fresh .nil pass0 (pa_cons (pv 1) (pa_cons (pv 2) pa_nil))) (pa_cons (pe_call G__law_fresh (hr.mono (by omega)) (by rfl) T.g__law_fresh T.F__law_fresh.kp T.b__law_fresh .nil pass0 (pa_cons (pv 1) (pa_cons (pv 2) pa_nil))) pa_nil))))
      (pss_cons (ps_setLc (i := 4) (own := [("_law_flat_here", 11)]) (g := gName 11) (tt := tYes) (by rfl) sc_law.nd rfl rfl (sw_true rfl rfl rfl (by decide +kernel)) (pi_listK (K := K) rfl (pv 3)) (blkOk_by (own := [("_law_flat_here", 11)]) (N := ["_law_script", "_law_bag_here", "_law_pool", "_law_flats", "_law_pages", "_law_group", "_law_word", "_law_row", "_law_turn", "_law_one", "_law_lost", "_law_flat_here"]) (sc := defScope s_law) (by decide +kernel)) (fun _ _ _ _ _ => (pg_name (i := 11) sc_law.nd rfl (Or.inl rfl))) (fun _ _ _ _ _ => pts_nil) (fun _ _ _ _ _ => (pe_make ⟨T.mk_Page, T.a_Page___init__, T.i_Page___init__, T.kc_Page⟩ G_Page___init__ (hr.mono (by omega)) (by rfl) T.g_Page T.b_Page___init__ .nil pass0 (pa_cons (pe_call G__law_grown (hr.mono (by omega)) (by rfl) T.g__law_grown T.F__law_grown.kp T.b__law_grown .nil pass0 (pa_cons (pv 11) pa_nil)) pa_nil))))
      (pss_cons (ps_set (i := 5) sc_law.nd rfl (Or.inl rfl) (pe_lst pa_nil))
      (pss_cons (ps_for PassesOwn.never rfl (pi_listK (K := K) rfl (pe_lst (pa_cons pe_str (pa_cons pe_str (pa_cons pe_str (pa_cons (pe_ix (ix_listK (K := K) rfl) (pe_lst (pa_cons pe_str (pa_cons pe_str (pa_cons pe_str pa_nil)))) (pe_call G__law_pick (hr.mono (by omega)) (by rfl) T.g__law_pick T.F__law_pick.kp T.b__law_pick .nil pass0 (pa_cons (pv 1) (pa_cons pe_int pa_nil))) (fun _ _ => rfl)) pa_nil)))))) (pg_name (i := 6) sc_law.nd rfl (Or.inl rfl)) (pss_cons (ps_set (i := 7) sc_law.nd rfl (Or.inl rfl) (pe_ifExp (pt_cmpR op_eq (pe_callB (call_lenK (K := K) rfl) (by rfl) T.m_len PySem.boot_len (pa_cons (pv 5) pa_nil)) pe_int (nomark _)) pe_int pe_int))
      (pss_one (ps_expr (pe_bmK2 (K := K) rfl PySem.F.plainAttrs_list PySem.F.slot_list_append PySem.F.type_list_append mt_append (pv 5) (pa_cons (pe_lst (pa_cons (pv 6) (pa_cons (pe_makeN ⟨T.mk_Focus, T.a_Focus___init__, T.i_Focus___init__, T.kc_Focus⟩ G_Focus___init__ (hr.mono (by omega)) (by rfl) T.g_Focus T.kb_Focus___init__ pass0 (pa_cons (pe_ix (ix_listK (K := K) rfl) (pv 4) (pv 7) (fun _ _ => rfl)) pa_nil) (pk_cons (pv 6) pk_nil)) (pa_cons (pe_ix (ix_listK (K := K) rfl) (pv 3) (pv 7) (fun _ _ => rfl)) (pa_cons pe_non (pa_cons (pv 7) pa_nil)))))) pa_nil))))))
      (pss_cons (ps_for PassesOwn.never rfl (pi_range1 (by rfl) T.m_range (pa_cons (pe_op op_add pe_int (pe_call G__law_pick (hr.mono (by omega)) (by rfl) T.g__law_pick T.F__law_pick.kp T.b__law_pick .nil pass0 (pa_cons (pv 1) (pa_cons pe_int pa_nil)))) pa_nil)) (pg_name (i := 8) sc_law.nd rfl (Or.inl rfl)) (pss_cons (ps_for PassesOwn.never rfl (pi_listK (K := K) rfl (pv 5)) (pg_name (i := 9) sc_law.nd rfl (Or.inl rfl)) (pss_one (ps_if (pt_not (pt_val (pe_call G__law_deeds (hr.mono (by omega)) (by rfl) T.g__law_deeds T.F__law_deeds.kp T.b__law_deeds .nil pass0 (pa_cons (pv 1) (pa_cons (pv 9) (pa_cons (pv 2) pa_nil)))))) (pss_one (ps_ret pe_bl)) pss_nil)))
      (pss_cons (ps_set (i := 10) sc_law.nd rfl (Or.inl rfl) (pe_ix (ix_listK (K := K) rfl) (pe_ix (ix_listK (K := K) rfl) (pv 5) (pe_call G__law_pick (hr.mono (by omega)) (by rfl) T.g__law_pick T.F__law_pick.kp T.b__law_pick .nil pass0 (pa_cons (pv 1) (pa_cons pe_int pa_nil))) (fun _ _ => rfl)) pe_int (fun _ _ => rfl)))
      (pss_cons (ps_set (i := 3) sc_law.nd rfl (Or.inl rfl) (pe_lst (pa_cons (pe_call G__law_next (hr.mono (by omega)) (by rfl) T.g__law_next T.F__law_next.kp T.b__law_next .nil pass0 (pa_cons (pv 1) (pa_cons (pe_ix (ix_listK (K := K) rfl) (pv 3) pe_int (fun _ _ => rfl)) (pa_cons (pv 2) (pa_cons (pv 10) pa_nil))))) (pa_cons (pe_call G__law_next (hr.mono (by omega)) (by rfl) T.g__law_next T.F__law_next.kp T.b__law_next .nil pass0 (pa_cons (pv 1) (pa_cons (pe_ix (ix_listK (K := K) rfl) (pv 3) pe_int (fun _ _ => rfl)) (pa_cons (pv 2) (pa_cons (pe_ix (ix_listK (K := K) rfl) (pe_ix (ix_listK (K := K) rfl) (pv 5) pe_int (fun _ _ => rfl)) pe_int (fun _ _ => rfl)) pa_nil))))) pa_nil))))
      (pss_cons (ps_setLc (i := 4) (own := [("_law_flat_here", 11)]) (g := gName 11) (tt := tYes) (by rfl) sc_law.nd rfl rfl (sw_true rfl rfl rfl (by decide +kernel)) (pi_listK (K := K) rfl (pv 3)) (blkOk_by (own := [("_law_flat_here", 11)]) (N := ["_law_script", "_law_bag_here", "_law_pool", "_law_flats", "_law_pages", "_law_group", "_law_word", "_law_row", "_law_turn", "_law_one", "_law_lost", "_law_flat_here"]) (sc := defScope s_law) (by decide +kernel)) (fun _ _ _ _ _ => (pg_name (i := 11) sc_law.nd rfl (Or.inl rfl))) (fun _ _ _ _ _ => pts_nil) (fun _ _ _ _ _ => (pe_make ⟨T.mk_Page, T.a_Page___init__, T.i_Page___init__, T.kc_Page⟩ G_Page___init__ (hr.mono (by omega)) (by rfl) T.g_Page T.b_Page___init__ .nil pass0 (pa_cons (pe_call G__law_grown (hr.mono (by omega)) (by rfl) T.g__law_grown T.F__law_grown.kp T.b__law_grown .nil pass0 (pa_cons (pv 11) pa_nil)) pa_nil))))
      (pss_one (ps_for PassesOwn.never rfl (pi_listK (K := K) rfl (pe_call G__law_mingled (hr.mono (by omega)) (by rfl) T.g__law_mingled T.F__law_mingled.kp T.b__law_mingled .nil pass0 (pa_cons (pv 1) (pa_cons (pv 5) pa_nil)))) (pg_name (i := 9) sc_law.nd rfl (Or.inl rfl)) (pss_one (ps_if (pt_not (pt_val (pe_call G__law_gone (hr.mono (by omega)) (by rfl) T.g__law_gone T.F__law_gone.kp T.b__law_gone .nil pass0 (pa_cons (pv 9) (pa_cons (pe_ix (ix_listK (K := K) rfl) (pv 3) (pe_ix (ix_listK (K := K) rfl) (pv 9) pe_int (fun _ _ => rfl)) (fun _ _ => rfl)) (pa_cons (pe_ix (ix_listK (K := K) rfl) (pv 4) (pe_ix (ix_listK (K := K) rfl) (pv 9) pe_int (fun _ _ => rfl)) (fun _ _ => rfl)) pa_nil)))))) (pss_one (ps_ret pe_bl)) pss_nil)))))))))
      (pss_one (ps_ret (pe_cmpR op_eq (pe_callB (call_lenK (K := K) rfl) (by rfl) T.m_len PySem.boot_len (pa_cons (pe_lc (own := [("_law_one", 9)]) (g := gName 9)  (by rfl) sc_law.nd (pi_listK (K := K) rfl (pv 5)) (blkOk_by (own := [("_law_one", 9)]) (N := ["_law_script", "_law_bag_here", "_law_pool", "_law_flats", "_law_pages", "_law_group", "_law_word", "_law_row", "_law_turn", "_law_one", "_law_lost", "_law_flat_here"]) (sc := defScope s_law) (by decide +kernel)) (fun _ _ _ _ _ => (pg_name (i := 9) sc_law.nd rfl (Or.inl rfl))) (fun _ _ _ _ _ => (pts_one (pt_not (pt_val (pe_call G__law_deeds (hr.mono (by omega)) (by rfl) T.g__law_deeds T.F__law_deeds.kp T.b__law_deeds .nil pass0 (pa_cons (pv 1) (pa_cons (pv 9) (pa_cons (pv 2) pa_nil)))))))) (fun _ _ _ _ _ => (pv 9))) pa_nil)) pe_int (nomark _))))))))))), ?_⟩
    walk_at "g"
    refine ⟨a, ns, rfl, hS, hl, fun b H1 s1 nb hB1 => ?_⟩
    have hM1 : Mk (one b) H1 := fun c z => by rw [show c = b from z]; exact hB1.there
    walk_at "g"
    refine ⟨b, 8, one b, rfl, hB1, by omega, by omega, fun w1 H2 a0 a1 hA2 hB2 => ?_⟩
    walk_at "g"
    refine if_tC (fun top htop => ?_)
    obtain ⟨tn, rfl, t1, t2⟩ : ∃ k : Nat, top = (k : Int) ∧ 10 ≤ k ∧ k ≤ 40 := by rcases htop with rfl | rfl; exact ⟨40, rfl, by omega, by omega⟩; exact ⟨10, rfl, by omega, by omega⟩
    have hM2 := hM1.gr (hA2.gr hB2.there)
    walk_at "g"
    refine ⟨b, tn, one b, rfl, hB2, hM2, by omega, by omega, fun v3 H3 d3 s3 g3 hB3 r3 hd3 => ?_⟩
    obtain ⟨pool, rfl, lpl, gpl⟩ := hd3
    obtain ⟨pa, ys, rfl, npa, hpa, rys⟩ := Rp.lstN r3
    have ey := rys.ofStrs
    subst ey
    have hM3 := hM2.gr g3
    clear hM2 hM1 hB1 hA2 hB2 s1 s3 g3 hS hl r3 htop a0 a1
    have plne : pool ≠ [] := fun z => by rw [z, List.length_nil] at lpl; omega
    have pab : pa ≠ b := fun z => npa z
    dsimp only [gName]
    walk_at "g"
    refine ⟨b, pa, pool, one b, rfl, hB3, hM3, hpa, gpl, plne, by omega, pab, fun v0 H4 d4 s4 g4 hB4 r4 hd4 => ?_⟩
    obtain ⟨es0, rfl, gf0⟩ := hd4
    have hM4 := hM3.gr g4
    walk_at "g"
    refine ⟨b, pa, pool, one b, rfl, hB4, hM4, sx_rd s4 npa hpa, gpl, plne, by omega, pab, fun v1 H5 d5 s5 g5 hB5 r5 hd5 => ?_⟩
    obtain ⟨es1, rfl, gf1⟩ := hd5
    have hM5 := hM4.gr g5
    have hpa5 := sx_rd s5 npa (sx_rd s4 npa hpa)
    refine ⟨szK rfl, fun lf hlf => ?_⟩
    have hlf : H5 lf = none := hlf
    have F6 : Fls (one b) (upd H5 lf (.lst [v0, v1])) lf v0 v1 es0 es1 := ⟨upd_same, hM5.out hlf, (r4.sx s5).sx (Sx.new hlf), r5.sx (Sx.new hlf), gf0, gf1⟩
    have s6 := same_new hlf (o := .lst [v0, v1])
    have hM6 := hM5.gr (Gr.same s6)
    have hB6 := hB5.same s6
    have hpa6 := same_rd s6 hpa5
    generalize upd H5 lf (.lst [v0, v1]) = H6 at F6 s6 hM6 hB6 hpa6
    clear hM5 hM4 hM3 hB5 hB4 hB3 r4 r5 rys hpa hpa5 s4 s5 g4 g5 s6 hlf
    dsimp only [gName]
    refine seq_asg (ok_pgs hM6 F6 fun H7 lp g0 g1 s7 P7 => ?_)
    have F7 := F6.sx (Sx.same s7)
    have hM7 := hM6.gr (Gr.same s7)
    have hB7 := hB6.same s7
    have hpa7 := same_rd s7 hpa6
    clear F6 hM6 hB6 hpa6 s7
    dsimp only [gName]
    refine seq_asg ?_
    refine ⟨szK rfl, fun G hG => ?_⟩
    have hG : H7 G = none := hG
    have paG : pa ≠ G := rd_ne hpa7 hG
    have A8 : Apt b G (also (one b) G) [] := ⟨.inr rfl, fun z => hB7.there (by rw [← z]; exact hG), (fun g z => nomatch z), (fun g z => nomatch z), (fun g z => nomatch z), (fun g z => nomatch z), fun g z => nomatch z⟩
    have R8 : Grp K T.C_Focus T.C_Page b G pa pool (also (one b) G) [] (upd H7 G (.lst [])) := ⟨(hB7.more hG).same (same_new hG), hM7.new.also upd_there, upd_same, same_rd (same_new hG) hpa7, fun z => z.elim npa fun z => paG z, fun g z => nomatch z⟩
    have F8 := (F7.fresh hG).sx (Sx.same (same_new hG (o := .lst [])))
    have P8 := (P7.fresh hG).sx (Sx.same (same_new hG (o := .lst [])))
    generalize upd H7 G (.lst []) = H8 at R8 F8 P8
    clear F7 P7 hM7 hB7 hpa7 hG paG npa
    dsimp only [gName]
    walk_at "g"
    refine ⟨szK rfl, fun p1 hp1 => ?_⟩
    have hp1 : H8 p1 = none := hp1
    have s9 := same_new hp1 (o := .lst [V.str (Str.ofString "none"), .str (Str.ofString "first"), .str (Str.ofString "near")])
    have e9 : upd H8 p1 (.lst [V.str (Str.ofString "none"), .str (Str.ofString "first"), .str (Str.ofString "near")]) p1 = some (.lst [V.str (Str.ofString "none"), .str (Str.ofString "first"), .str (Str.ofString "near")]) := upd_same
    have p1b : p1 ≠ b := fun z => R8.bag.there (by rw [← z]; exact hp1)
    generalize upd H8 p1 (.lst [V.str (Str.ofString "none"), .str (Str.ofString "first"), .str (Str.ofString "near")]) = H9 at s9 e9
    have R9 := R8.same s9
    walk_at "g"
    refine ⟨b, 3, _, rfl, R9.bag, by omega, by omega, fun w2 H10 b0 b1 hA10 hB10 => ?_⟩
    have R10 := R9.pick A8 hA10.sx (hA10.gr hB10.there) hB10
    have s810 : Sx (also (one b) G) H8 H10 := (Sx.same s9).trans (hA10.sx.le fun x z => .inl z)
    have F10 := F8.sx s810
    have P10 := P8.sx s810
    have e10 := (hA10 p1 p1b).trans e9
    obtain ⟨wd, hwd, hwr⟩ : ∃ wd : Str, atI [V.str (Str.ofString "none"), .str (Str.ofString "first"), .str (Str.ofString "near")] w2 = some (.str wd) ∧ wd ∈ rules := by
      have : w2 = 0 ∨ w2 = 1 ∨ w2 = 2 := by omega
      rcases this with rfl | rfl | rfl
      · exact ⟨_, rfl, by decide +kernel⟩
      · exact ⟨_, rfl, by decide +kernel⟩
      · exact ⟨_, rfl, by decide +kernel⟩
    refine ⟨p1, _, _, _, rfl, rfl, SqL.of e10, hwd, ?_⟩
    walk_at "g"
    refine ⟨szK rfl, fun W hW => ?_⟩
    have hW : H10 W = none := hW
    obtain ⟨ws, hws⟩ : ∃ ws : List Str, ws = [Str.ofString "none", Str.ofString "first", Str.ofString "near", wd] := ⟨_, rfl⟩
    have wsr : ∀ x ∈ ws, x ∈ rules := fun x hx => by
      rw [hws] at hx
      simp only [List.mem_cons, List.not_mem_nil, or_false] at hx
      rcases hx with rfl | rfl | rfl | rfl
      · decide +kernel
      · decide +kernel
      · decide +kernel
      · exact hwr
    have wsl : ws.length = 4 := by rw [hws]; rfl
    rw [show ([V.str (Str.ofString "none"), V.str (Str.ofString "first"), V.str (Str.ofString "near"), V.str wd] : List V) = ws.map V.str by rw [hws]; rfl]
    have e11 : upd H10 W (.lst (ws.map V.str)) W = some (.lst (ws.map V.str)) := upd_same
    have R11 := R10.same (same_new hW (o := .lst (ws.map V.str)))
    have F11 := F10.sx (Sx.same (same_new hW (o := .lst (ws.map V.str))))
    have P11 := P10.sx (Sx.same (same_new hW (o := .lst (ws.map V.str))))
    have nW := R10.ok.out hW
    generalize upd H10 W (.lst (ws.map V.str)) = H11 at e11 R11 F11 P11
    clear R8 F8 P8 R9 R10 F10 P10 s9 e9 e10 s810 hwd hwr hws hA10 hB10 hp1
    refine ⟨W, rfl, ⟨_, SqL.of e11⟩, ?_⟩
    refine for_list (K := K) (a := W) (xs := ws.map V.str) (fun i σ H' => ∃ (y6 y7 : Option V) (M : Ms) (gs : List Gm), σ = [some (.ref a), some (.ref b), some (.ref pa), some (.ref lf), some (.ref lp), some (.ref G), y6, y7, none, none, none, none] ∧ gs.length = i ∧ Apt b G M gs ∧ Grp K T.C_Focus T.C_Page b G pa pool M gs H' ∧ Fls M H' lf v0 v1 es0 es1 ∧ Pgs T.C_Page M H' lp g0 g1 es0 es1 ∧ H' W = some (.lst (ws.map V.str)) ∧ ¬ M W) ⟨_, _, _, [], rfl, rfl, A8, R11, F11, P11, e11, nW⟩ (fun i σ H' _ p => by obtain ⟨y6, y7, M, gs, _, _, _, _, _, _, e, _⟩ := p; exact SqL.of e) (fun i x σ H' hx p => ?_) (fun σ H' p => ?_)
    · clear A8 R11 F11 P11 e11 nW
      obtain ⟨y6, y7, M, gs, rfl, lg, A, R, F, P', eW, nW⟩ := p
      rw [List.getElem?_map] at hx
      obtain ⟨word, hwo, rfl⟩ := Option.map_eq_some_iff.mp hx
      have hwr := wsr word (List.mem_of_getElem? hwo)
      have hi := (List.getElem?_eq_some_iff.mp hwo).1
      have RG := R.G'
      walk_at "g"
      refine if_tC (fun rv hrv => ?_)
      obtain ⟨row, rfl, hrow⟩ : ∃ k : Nat, rv = (k : Int) ∧ k < 2 := by rcases hrv with rfl | rfl; exact ⟨1, rfl, by omega⟩; exact ⟨0, rfl, by omega⟩
      obtain ⟨vr, gr, esr, hvr, hgr, rr, gfr, pr⟩ : ∃ vr gr esr, atI [v0, v1] (row : Int) = some vr ∧ atI [g0, g1] (row : Int) = some gr ∧ Rp M H' vr (.list (esr.map flE)) ∧ gF esr ∧ PgOf T.C_Page M H' gr esr := by
        have : row = 0 ∨ row = 1 := by omega
        rcases this with rfl | rfl
        · exact ⟨v0, g0, es0, rfl, rfl, F.r0, F.g0, P'.p0⟩
        · exact ⟨v1, g1, es1, rfl, rfl, F.r1, F.g1, P'.p1⟩
      have FL := F.row
      have PL := P'.row
      walk_at "g"
      refine ⟨.inl ⟨rfl, _, SqL.of RG⟩, ?_⟩
      walk_at "g"
      refine ⟨lp, _, _, _, rfl, rfl, SqL.of PL, hgr, ?_⟩
      walk_at "g"
      intro x dx hx hdx hne
      have hx : H' x = none := hx
      obtain ⟨r, pg⟩ := pr.pg
      have SA := (same_new (o := .own x) hdx).trans (same_new (p := x) (o := .ins T.C_Focus dx []) (by rw [upd_ne (fun z => hne z.symm)]; exact hx))
      refine ⟨x, dx, gr, r, word, growF esr, also M x, rfl, hwr, upd_same, .inr rfl, (pg.fresh hx).sx (Sx.same SA), (R.ok.gr (Gr.same SA)).also (ne_none upd_same), pr.g.g, fun H2 tm sx2 gx2 ex2 ntm htm => ⟨rfl, ?_⟩⟩
      have S2 := made_same hx SA sx2
      have FL2 := S2 _ _ FL
      have RG2 := S2 _ _ RG
      walk_at "g"
      refine ⟨lf, _, _, _, rfl, rfl, SqL.of FL2, hvr, ?_⟩
      walk_at "g"
      refine ⟨szK rfl, fun p hp => ?_⟩
      have hp : H2 p = none := hp
      have px : p ≠ x := fun z => by rw [z, ex2] at hp; cases hp
      have pG : p ≠ G := fun z => by rw [z, RG2] at hp; cases hp
      have hp0 : H' p = none := S2.free hp
      refine ⟨G, _, .ref p, rfl, rfl, same_new hp _ _ RG2, small1000 (by rw [List.length_map]; omega), ?_⟩
      have M4 : ∀ {J : Hp} {o : HO}, Sx (also (also M x) p) J (upd J G o) := Sx.put (.inl (.inl A.mG))
      have s24 : Sx (also (also M x) p) H2 (upd (upd H2 p (.lst [.str word, .ref x, vr, .non, .int (row : Nat)])) G (.lst (gs.map (fun g => V.ref g.oa) ++ [.ref p]))) := (Sx.new hp).trans M4
      have xG : x ≠ G := fun z => by rw [z, RG2] at ex2; cases ex2
      have ntm' : ¬ also (also M x) p tm := fun z => z.elim ntm fun z => by
        obtain ⟨ot, e, _⟩ := htm
        rw [show tm = p from z, hp] at e; cases e
      have hOne : OneAt T.C_Focus T.C_Page (also (also M x) p) (upd (upd H2 p (.lst [.str word, .ref x, vr, .non, .int (row : Nat)])) G (.lst (gs.map (fun g => V.ref g.oa) ++ [.ref p]))) p x word row vr esr none :=
        ⟨dx, tm, gr, r, growF esr, by rw [upd_ne pG]; exact upd_same, .inr rfl, .inl (.inr rfl), by rw [upd_ne xG, upd_ne px.symm]; exact ex2, ((((pg.fresh hx).sx (Sx.same S2)).fresh hp).sx s24), rfl, pr.g, pr.e, ntm', htm.sx s24 ntm', gfr, (((rr.fresh hx).sx (Sx.same S2)).fresh hp).sx s24, hwr, fun m z => by cases z⟩
      have WG : W ≠ G := fun z => nW (by rw [z]; exact A.mG)
      have eW2 := S2 _ _ eW
      refine ⟨_, _, also (also M x) p, gs ++ [⟨p, x, word, row⟩], rfl, by rw [List.length_append, lg]; rfl, A.add R hx hp0 px hrow, R.add A hx S2 (ne_none ex2) hp rfl hOne, (((F.fresh hx).sx (Sx.same S2)).fresh hp).sx s24, (((P'.fresh hx).sx (Sx.same S2)).fresh hp).sx s24, by rw [upd_ne WG]; exact same_new hp _ _ eW2, fun z => ?_⟩
      rcases z with (z | z) | z
      · exact nW z
      · rw [show W = x from z, hx] at eW; cases eW
      · rw [show W = p from z, hp] at eW2; cases eW2
    · obtain ⟨y6, y7, M, gs, rfl, lg, A, R, F, P', eW, nW⟩ := p
      rw [List.length_map, wsl] at lg
      clear A8 R11 F11 P11 e11 nW eW P' wsr wsl hW
      walk_at "g"
      refine ⟨b, 6, M, rfl, R.bag, by omega, by omega, fun w3 H12 c0 c1 hA12 hB12 => ?_⟩
      have R12 := R.pick A hA12.sx (hA12.gr hB12.there) hB12
      have F12 := F.sx (hA12.sx.le (one_le R.bag.w))
      walk_at "g"
      refine ⟨by omega, by omega, ?_⟩
      refine for_range (lo := 0) (n := (2 + w3).toNat) (fun i σ H' => ∃ (y4 y6 y7 y8 y9 y10 : Option V) (lf : Addr) (v0 v1 : V) (es0 es1 : List FlE), σ = [some (.ref a), some (.ref b), some (.ref pa), some (.ref lf), y4, some (.ref G), y6, y7, y8, y9, y10, none] ∧ Grp K T.C_Focus T.C_Page b G pa pool M gs H' ∧ Fls M H' lf v0 v1 es0 es1) ⟨_, _, _, _, _, _, lf, v0, v1, es0, es1, rfl, R12, F12⟩ (fun i σ H' hi c => ?_) (fun σ H' c => ?_)
      · clear R F R12 F12 hA12 hB12
        obtain ⟨y4, y6, y7, y8, y9, y10, lf, v0, v1, es0, es1, rfl, R, F⟩ := c
        have RG := R.G'
        walk_at "g"
        refine ⟨⟨_, SqL.of RG⟩, ?_⟩
        refine for_list (K := K) (a := G) (xs := gs.map fun g => V.ref g.oa) (fun j σ H' => (∃ y9, σ = [some (.ref a), some (.ref b), some (.ref pa), some (.ref lf), y4, some (.ref G), y6, y7, some (.int (0 + (i : Nat))), y9, y10, none]) ∧ Grp K T.C_Focus T.C_Page b G pa pool M gs H' ∧ Fls M H' lf v0 v1 es0 es1) ⟨⟨_, rfl⟩, R, F⟩ (fun j σ H' _ p => SqL.of p.2.1.G') (fun j x σ H2 hx p => ?_) (fun σ H2 p => ?_)
        · obtain ⟨⟨y9, rfl⟩, R2, F2⟩ := p
          obtain ⟨g, hg, rfl⟩ := gs_mem (List.mem_of_getElem? hx)
          obtain ⟨fv, es, o, ho⟩ := R2.grp g hg
          obtain ⟨a1, a2, _⟩ := A.ob g hg
          walk_at "g"
          refine ⟨b, g.oa, g.f, pa, g.word, g.row, fv, es, o, pool, M, rfl, R2.bag, R2.ok, ho, a1, a2, A.of' g hg g hg, R2.pool', plne, by omega, R2.npa, fun H9 o' s9 g9 hB9 hO9 => ?_⟩
          walk_at "g"
          exact ⟨⟨_, rfl⟩, R2.one' A hg s9 g9 hB9 hO9, F2.sx (s9.le (R2.leM hg))⟩
        · obtain ⟨⟨y9, rfl⟩, R2, F2⟩ := p
          clear R F RG
          have RG2 := R2.G'
          walk_at "g"
          refine ⟨b, 3, M, rfl, R2.bag, by omega, by omega, fun w4 H3 d0 d1 hA3 hB3 => ?_⟩
          have R3 := R2.pick A hA3.sx (hA3.gr hB3.there) hB3
          have F3 := F2.sx (hA3.sx.le (one_le R2.bag.w))
          obtain ⟨k, rfl⟩ : ∃ k : Nat, w4 = (k : Int) := ⟨w4.toNat, by omega⟩
          obtain ⟨gk, hgk⟩ : ∃ g, gs[k]? = some g := ⟨_, List.getElem?_eq_getElem (by omega)⟩
          obtain ⟨fvk, esk, ok, hok⟩ := R3.grp gk (List.mem_of_getElem? hgk)
          obtain ⟨dxk, tmk, gvk, rk, nk, hoak, _⟩ := hok
          refine ⟨G, _, _, .ref gk.oa, rfl, rfl, SqL.of R3.G', atI_nat (by rw [List.getElem?_map, hgk]; rfl), ?_⟩
          have FL3 := F3.row
          walk_at "g"
          refine ⟨b, pa, v0, ok, es0, pool, M, rfl, R3.bag, R3.ok, F3.r0, F3.g0, R3.pool', gpl, plne, by omega, pab, fun n0 H4 dd4 s4 g4 hB4 r4 hd4 => ?_⟩
          obtain ⟨fs0, rfl, gf0⟩ := hd4
          have R4 := R3.pick A s4 g4 hB4
          have F4 := F3.sx (s4.le (one_le R3.bag.w))
          obtain ⟨g3, hg3⟩ : ∃ g, gs[3]? = some g := ⟨_, List.getElem?_eq_getElem (by omega)⟩
          obtain ⟨fv3, es3, o3, ho3⟩ := R4.grp g3 (List.mem_of_getElem? hg3)
          obtain ⟨dx3, tm3, gv3, r3, n3, hoa3, _⟩ := ho3
          have FL4 := F4.row
          walk_at "g"
          refine ⟨G, _, 3, .ref g3.oa, rfl, rfl, SqL.of R4.G', atI_nat (j := 3) (by rw [List.getElem?_map, hg3]; rfl), ?_⟩
          walk_at "g"
          refine ⟨b, pa, v1, o3, es1, pool, M, rfl, R4.bag, R4.ok, F4.r1, F4.g1, R4.pool', gpl, plne, by omega, pab, fun n1 H5 dd5 s5 g5 hB5 r5 hd5 => ?_⟩
          obtain ⟨fs1, rfl, gf1⟩ := hd5
          have R5 := R4.pick A s5 g5 hB5
          have r45 := r4.sx (s5.le (one_le R3.bag.w))
          clear F2 R2 R3 F3 R4 F4 FL3 FL4 hoak hoa3 hB3 hB4 hB5 s4 s5 g4 g5 r4 RG2 hA3
          refine ⟨szK rfl, fun lf2 hlf => ?_⟩
          have hlf : H5 lf2 = none := hlf
          have F6 : Fls M (upd H5 lf2 (.lst [n0, n1])) lf2 n0 n1 fs0 fs1 := ⟨upd_same, R5.ok.out hlf, r45.sx (Sx.new hlf), r5.sx (Sx.new hlf), gf0, gf1⟩
          have R6 := R5.same (same_new hlf (o := .lst [n0, n1]))
          generalize upd H5 lf2 (.lst [n0, n1]) = H6 at F6 R6
          clear R5 r45 r5
          dsimp only [gName]
          refine seq_asg (ok_pgs R6.ok F6 fun H7 lp2 p0 p1 s7 P7 => ?_)
          have F7 := F6.sx (Sx.same s7)
          have R7 := R6.same s7
          clear F6 R6 s7
          dsimp only [gName]
          walk_at "g"
          refine ⟨b, G, _, M, rfl, R7.bag, R7.ok, SqL.of R7.G', by rw [List.length_map]; omega, fun H8 p ys s8 g8 hB8 hpn hpy hperm => ?_⟩
          have R8 := R7.pick A s8 g8 hB8
          have S8 : Sx M H7 H8 := s8.le (one_le R7.bag.w)
          have F8 := F7.sx S8
          have P8 := P7.sx S8
          have nMp := R7.ok.out hpn
          clear R7 F7 P7 hB8 S8 s8 g8 hpn
          refine ⟨p, rfl, ⟨_, SqL.of hpy⟩, ?_⟩
          refine for_list (K := K) (a := p) (xs := ys) (fun j σ H' => (∃ y9, σ = [some (.ref a), some (.ref b), some (.ref pa), some (.ref lf2), some (.ref lp2), some (.ref G), y6, y7, some (.int (0 + (i : Nat))), y9, some (atV ok), none]) ∧ Grp K T.C_Focus T.C_Page b G pa pool M gs H' ∧ Fls M H' lf2 n0 n1 fs0 fs1 ∧ Pgs T.C_Page M H' lp2 p0 p1 fs0 fs1 ∧ H' p = some (.lst ys)) ⟨⟨_, rfl⟩, R8, F8, P8, hpy⟩ (fun j σ H' _ z => SqL.of z.2.2.2.2) (fun j x σ H9 hx z => ?_) (fun σ H9 z => ?_)
          · obtain ⟨⟨y9, rfl⟩, R9, F9, P9, e9⟩ := z
            obtain ⟨g, hg, rfl⟩ := gs_mem (hperm.mem_iff.mp (List.mem_of_getElem? hx))
            obtain ⟨fv, es, o, ho⟩ := R9.grp g hg
            obtain ⟨a1, a2, _⟩ := A.ob g hg
            have hrow := A.row g hg
            obtain ⟨vr, gr, esr, hvr, hgr, rr, gfr, pr⟩ : ∃ vr gr esr, atI [n0, n1] (g.row : Int) = some vr ∧ atI [p0, p1] (g.row : Int) = some gr ∧ Rp M H9 vr (.list (esr.map flE)) ∧ gF esr ∧ PgOf T.C_Page M H9 gr esr := by
              have : g.row = 0 ∨ g.row = 1 := by omega
              rcases this with e | e
              · rw [e]
                exact ⟨n0, p0, fs0, rfl, rfl, F9.r0, F9.g0, P9.p0⟩
              · rw [e]
                exact ⟨n1, p1, fs1, rfl, rfl, F9.r1, F9.g1, P9.p1⟩
            obtain ⟨dx9, tm9, gv9, r9, n9, hoa9, _⟩ := id ho
            have FL9 := F9.row
            have PL9 := P9.row
            walk_at "g"
            refine ⟨lf2, _, _, _, rfl, rfl, SqL.of FL9, hvr, ?_⟩
            walk_at "g"
            refine ⟨lp2, _, _, _, rfl, rfl, SqL.of PL9, hgr, ?_⟩
            walk_at "g"
            refine ⟨g.oa, g.f, g.word, g.row, fv, vr, gr, es, esr, o, M, rfl, R9.ok, ho, A.of' g hg g hg, rr, gfr, pr, fun H10 o' s10 g10 hO10 => ?_⟩
            have tw : ∀ x, two g.oa g.f x → wf b g.oa g.f x := fun x z => z.elim (fun z => .inr (.inl z)) fun z => .inr (.inr z)
            have tM : ∀ x, two g.oa g.f x → M x := fun x z => R9.leM hg x (tw x z)
            have hB10 := R9.bag.keep s10 (fun z => z.elim (fun z => a1 z.symm) fun z => a2 z.symm) tM
            have S10 := s10.le tM
            walk_at "g"
            exact ⟨⟨_, rfl⟩, R9.one' A hg (s10.le tw) g10 hB10 hO10, F9.sx S10, P9.sx S10, S10 _ _ nMp e9⟩
          · obtain ⟨⟨y9, rfl⟩, R9, F9, P9, e9⟩ := z
            exact ⟨_, _, _, _, _, _, lf2, n0, n1, fs0, fs1, rfl, R9, F9⟩
      · obtain ⟨y4, y6, y7, y8, y9, y10, lf, v0, v1, es0, es1, rfl, R, F⟩ := c
        have RG := R.G'
        walk_at "g"
        refine ⟨⟨_, SqL.of RG⟩, fun D hD => ?_⟩
        have nD := R.ok.out hD
        refine list_loop (K := K) (a := G) (xs := gs.map fun g => V.ref g.oa) (fun j H2 => Grp K T.C_Focus T.C_Page b G pa pool M gs H2 ∧ H2 D = some (.lst [])) ⟨R.same (same_new hD), upd_same⟩ (fun j H2 _ z => SqL.of z.1.G') (fun j x H2 hx z => ?_) (fun H2 z => ?_)
        · obtain ⟨R2, eD⟩ := z
          obtain ⟨g, hg, rfl⟩ := gs_mem (List.mem_of_getElem? hx)
          obtain ⟨fv, es, o, ho⟩ := R2.grp g hg
          obtain ⟨a1, a2, _⟩ := A.ob g hg
          walk_at "g"
          refine ⟨b, g.oa, g.f, pa, g.word, g.row, fv, es, o, pool, M, rfl, R2.bag, R2.ok, ho, a1, a2, A.of' g hg g hg, R2.pool', plne, by omega, R2.npa, fun H9 o' s9 g9 hB9 hO9 => ?_⟩
          refine ⟨true, rfl, ?_⟩
          exact ⟨R2.one' A hg s9 g9 hB9 hO9, s9 _ _ (fun z => nD (R2.leM hg _ z)) eD⟩
        · obtain ⟨R2, eD⟩ := z
          walk_at "g"
          exact q H2
end
end D

namespace D
open PySem PySem.Spec PyProof.Rows L2
theorem rul_sq {K : PySem.W.Frag} {p : Addr} {arr : Array Value} {n : Nat} (l : K.lookup p = some ⟨.type "tuple", none, .seq arr n, #[]⟩) (v : Vals (rules.map V.str) arr.toList) (H : Hp) : SqT K H p (rules.map V.str) := by
  refine .inr ⟨_, arr, n, l, rfl, rfl, ?_, v⟩
  have e : arr.size = 3 := by
    rw [← Array.length_toList, ← v.length]
    rfl
  rw [e, sizeLine_eq]
  decide
theorem all_mk {l : PySem.W.OpenLaw} {w : World} {K : PySem.W.Frag} {h : Heap} {mg : Str → Option Value} {fa : Addr} {f__wall f_buttons f__near f__settled f_nodes_in f_first_twice f__law_mixed f__law_bag f__law_pick f__law_choice f__law_mingled f__law_text f__law_label f__law_pressed f__law_marks f__law_flat f__law_grown f__law_fresh f__law_worn f__law_listed f__law_turned f__law_stepped f__law_refused f__law_deeds f__law_gone f__law_next f_law C_Focus f_Focus___init__ f_Focus_page p_Focus_page f_Focus_at p_Focus_at f_Focus_at_setter f_Focus_put f_Focus_step f_Focus_turn C_Page f_Page___init__ f_Page_top p_Page_top f_Page_shown p_Page_shown f_Page___getitem__ f_Page___contains__ f_Page___iter__ f_Page___eq__ f_Page_parent C_ScreenError C_TooMany f_TooMany___init__ C_TwiceMarked f_TwiceMarked___init__ C_NoNode f_NoNode___init__ C_BadRule f_BadRule___init__ : Addr} (X : K.In h) (G : h.Ns mainGlobals mg) (hfa : mg "law" = some (.ref fa))
    {od__wall an__wall : Option Addr} {sl__wall : Array (Option Value)} {oc__wall kV__wall dc__wall pm__wall cd__wall ct__wall : Value}
    (a__wall : PySem.W.nsIn K mainGlobals "_wall" = some (some (.ref f__wall))) (l__wall : K.lookup f__wall = some ⟨oc__wall, od__wall, .func (PySem.W.fnOf "_wall" "_wall" (defArgs s__wall) (defBody s__wall) (defScope s__wall) .none kV__wall dc__wall pm__wall an__wall cd__wall ct__wall), sl__wall⟩) (c__wall : PySem.W.codeIn K cd__wall "_wall" = true) (k__wall : PySem.W.keepIn K (.ref f__wall) = true)
    {od_buttons an_buttons : Option Addr} {sl_buttons : Array (Option Value)} {oc_buttons kV_buttons dc_buttons pm_buttons cd_buttons ct_buttons : Value}
    (a_buttons : PySem.W.nsIn K mainGlobals "buttons" = some (some (.ref f_buttons))) (l_buttons : K.lookup f_buttons = some ⟨oc_buttons, od_buttons, .func (PySem.W.fnOf "buttons" "buttons" (defArgs s_buttons) (defBody s_buttons) (defScope s_buttons) .none kV_buttons dc_buttons pm_buttons an_buttons cd_buttons ct_buttons), sl_buttons⟩) (c_buttons : PySem.W.codeIn K cd_buttons "buttons" = true) (k_buttons : PySem.W.keepIn K (.ref f_buttons) = true)
    {od__near an__near : Option Addr} {sl__near : Array (Option Value)} {oc__near kV__near dc__near pm__near cd__near ct__near : Value}
    (a__near : PySem.W.nsIn K mainGlobals "_near" = some (some (.ref f__near))) (l__near : K.lookup f__near = some ⟨oc__near, od__near, .func (PySem.W.fnOf "_near" "_near" (defArgs s__near) (defBody s__near) (defScope s__near) .none kV__near dc__near pm__near an__near cd__near ct__near), sl__near⟩) (c__near : PySem.W.codeIn K cd__near "_near" = true) (k__near : PySem.W.keepIn K (.ref f__near) = true)
    {od__settled an__settled : Option Addr} {sl__settled : Array (Option Value)} {oc__settled kV__settled dc__settled pm__settled cd__settled ct__settled : Value}
    (a__settled : PySem.W.nsIn K mainGlobals "_settled" = some (some (.ref f__settled))) (l__settled : K.lookup f__settled = some ⟨oc__settled, od__settled, .func (PySem.W.fnOf "_settled" "_settled" (defArgs s__settled) (defBody s__settled) (defScope s__settled) .none kV__settled dc__settled pm__settled an__settled cd__settled ct__settled), sl__settled⟩) (c__settled : PySem.W.codeIn K cd__settled "_settled" = true) (k__settled : PySem.W.keepIn K (.ref f__settled) = true)
    {od_nodes_in an_nodes_in : Option Addr} {sl_nodes_in : Array (Option Value)} {oc_nodes_in kV_nodes_in dc_nodes_in pm_nodes_in cd_nodes_in ct_nodes_in : Value}
    (a_nodes_in : PySem.W.nsIn K mainGlobals "nodes_in" = some (some (.ref f_nodes_in))) (l_nodes_in : K.lookup f_nodes_in = some ⟨oc_nodes_in, od_nodes_in, .func (PySem.W.fnOf "nodes_in" "nodes_in" (defArgs s_nodes_in) (defBody s_nodes_in) (defScope s_nodes_in) .none kV_nodes_in dc_nodes_in pm_nodes_in an_nodes_in cd_nodes_in ct_nodes_in), sl_nodes_in⟩) (c_nodes_in : PySem.W.codeIn K cd_nodes_in "nodes_in" = true) (k_nodes_in : PySem.W.keepIn K (.ref f_nodes_in) = true)
    {od_first_twice an_first_twice : Option Addr} {sl_first_twice : Array (Option Value)} {oc_first_twice kV_first_twice dc_first_twice pm_first_twice cd_first_twice ct_first_twice : Value}
    (a_first_twice : PySem.W.nsIn K mainGlobals "first_twice" = some (some (.ref f_first_twice))) (l_first_twice : K.lookup f_first_twice = some ⟨oc_first_twice, od_first_twice, .func (PySem.W.fnOf "first_twice" "first_twice" (defArgs s_first_twice) (defBody s_first_twice) (defScope s_first_twice) .none kV_first_twice dc_first_twice pm_first_twice an_first_twice cd_first_twice ct_first_twice), sl_first_twice⟩) (c_first_twice : PySem.W.codeIn K cd_first_twice "first_twice" = true) (k_first_twice : PySem.W.keepIn K (.ref f_first_twice) = true)
    {od__law_mixed an__law_mixed : Option Addr} {sl__law_mixed : Array (Option Value)} {oc__law_mixed kV__law_mixed dc__law_mixed pm__law_mixed cd__law_mixed ct__law_mixed : Value}
    (a__law_mixed : PySem.W.nsIn K mainGlobals "_law_mixed" = some (some (.ref f__law_mixed))) (l__law_mixed : K.lookup f__law_mixed = some ⟨oc__law_mixed, od__law_mixed, .func (PySem.W.fnOf "_law_mixed" "_law_mixed" (defArgs s__law_mixed) (defBody s__law_mixed) (defScope s__law_mixed) .none kV__law_mixed dc__law_mixed pm__law_mixed an__law_mixed cd__law_mixed ct__law_mixed), sl__law_mixed⟩) (c__law_mixed : PySem.W.codeIn K cd__law_mixed "_law_mixed" = true) (k__law_mixed : PySem.W.keepIn K (.ref f__law_mixed) = true)
    {od__law_bag an__law_bag : Option Addr} {sl__law_bag : Array (Option Value)} {oc__law_bag kV__law_bag dc__law_bag pm__law_bag cd__law_bag ct__law_bag : Value}
    (a__law_bag : PySem.W.nsIn K mainGlobals "_law_bag" = some (some (.ref f__law_bag))) (l__law_bag : K.lookup f__law_bag = some ⟨oc__law_bag, od__law_bag, .func (PySem.W.fnOf "_law_bag" "_law_bag" (defArgs s__law_bag) (defBody s__law_bag) (defScope s__law_bag) .none kV__law_bag dc__law_bag pm__law_bag an__law_bag cd__law_bag ct__law_bag), sl__law_bag⟩) (c__law_bag : PySem.W.codeIn K cd__law_bag "_law_bag" = true) (k__law_bag : PySem.W.keepIn K (.ref f__law_bag) = true)
    {od__law_pick an__law_pick : Option Addr} {sl__law_pick : Array (Option Value)} {oc__law_pick kV__law_pick dc__law_pick pm__law_pick cd__law_pick ct__law_pick : Value}
    (a__law_pick : PySem.W.nsIn K mainGlobals "_law_pick" = some (some (.ref f__law_pick))) (l__law_pick : K.lookup f__law_pick = some ⟨oc__law_pick, od__law_pick, .func (PySem.W.fnOf "_law_pick" "_law_pick" (defArgs s__law_pick) (defBody s__law_pick) (defScope s__law_pick) .none kV__law_pick dc__law_pick pm__law_pick an__law_pick cd__law_pick ct__law_pick), sl__law_pick⟩) (c__law_pick : PySem.W.codeIn K cd__law_pick "_law_pick" = true) (k__law_pick : PySem.W.keepIn K (.ref f__law_pick) = true)
    {od__law_choice an__law_choice : Option Addr} {sl__law_choice : Array (Option Value)} {oc__law_choice kV__law_choice dc__law_choice pm__law_choice cd__law_choice ct__law_choice : Value}
    (a__law_choice : PySem.W.nsIn K mainGlobals "_law_choice" = some (some (.ref f__law_choice))) (l__law_choice : K.lookup f__law_choice = some ⟨oc__law_choice, od__law_choice, .func (PySem.W.fnOf "_law_choice" "_law_choice" (defArgs s__law_choice) (defBody s__law_choice) (defScope s__law_choice) .none kV__law_choice dc__law_choice pm__law_choice an__law_choice cd__law_choice ct__law_choice), sl__law_choice⟩) (c__law_choice : PySem.W.codeIn K cd__law_choice "_law_choice" = true) (k__law_choice : PySem.W.keepIn K (.ref f__law_choice) = true)
    {od__law_mingled an__law_mingled : Option Addr} {sl__law_mingled : Array (Option Value)} {oc__law_mingled kV__law_mingled dc__law_mingled pm__law_mingled cd__law_mingled ct__law_mingled : Value}
    (a__law_mingled : PySem.W.nsIn K mainGlobals "_law_mingled" = some (some (.ref f__law_mingled))) (l__law_mingled : K.lookup f__law_mingled = some ⟨oc__law_mingled, od__law_mingled, .func (PySem.W.fnOf "_law_mingled" "_law_mingled" (defArgs s__law_mingled) (defBody s__law_mingled) (defScope s__law_mingled) .none kV__law_mingled dc__law_mingled pm__law_mingled an__law_mingled cd__law_mingled ct__law_mingled), sl__law_mingled⟩) (c__law_mingled : PySem.W.codeIn K cd__law_mingled "_law_mingled" = true) (k__law_mingled : PySem.W.keepIn K (.ref f__law_mingled) = true)
    {od__law_text an__law_text : Option Addr} {sl__law_text : Array (Option Value)} {oc__law_text kV__law_text dc__law_text pm__law_text cd__law_text ct__law_text : Value}
    (a__law_text : PySem.W.nsIn K mainGlobals "_law_text" = some (some (.ref f__law_text))) (l__law_text : K.lookup f__law_text = some ⟨oc__law_text, od__law_text, .func (PySem.W.fnOf "_law_text" "_law_text" (defArgs s__law_text) (defBody s__law_text) (defScope s__law_text) .none kV__law_text dc__law_text pm__law_text an__law_text cd__law_text ct__law_text), sl__law_text⟩) (c__law_text : PySem.W.codeIn K cd__law_text "_law_text" = true) (k__law_text : PySem.W.keepIn K (.ref f__law_text) = true)
    {od__law_label an__law_label : Option Addr} {sl__law_label : Array (Option Value)} {oc__law_label kV__law_label dc__law_label pm__law_label cd__law_label ct__law_label : Value}
    (a__law_label : PySem.W.nsIn K mainGlobals "_law_label" = some (some (.ref f__law_label))) (l__law_label : K.lookup f__law_label = some ⟨oc__law_label, od__law_label, .func (PySem.W.fnOf "_law_label" "_law_label" (defArgs s__law_label) (defBody s__law_label) (defScope s__law_label) .none kV__law_label dc__law_label pm__law_label an__law_label cd__law_label ct__law_label), sl__law_label⟩) (c__law_label : PySem.W.codeIn K cd__law_label "_law_label" = true) (k__law_label : PySem.W.keepIn K (.ref f__law_label) = true)
    {od__law_pressed an__law_pressed : Option Addr} {sl__law_pressed : Array (Option Value)} {oc__law_pressed kV__law_pressed dc__law_pressed pm__law_pressed cd__law_pressed ct__law_pressed : Value}
    (a__law_pressed : PySem.W.nsIn K mainGlobals "_law_pressed" = some (some (.ref f__law_pressed))) (l__law_pressed : K.lookup f__law_pressed = some ⟨oc__law_pressed, od__law_pressed, .func (PySem.W.fnOf "_law_pressed" "_law_pressed" (defArgs s__law_pressed) (defBody s__law_pressed) (defScope s__law_pressed) .none kV__law_pressed dc__law_pressed pm__law_pressed an__law_pressed cd__law_pressed ct__law_pressed), sl__law_pressed⟩) (c__law_pressed : PySem.W.codeIn K cd__law_pressed "_law_pressed" = true) (k__law_pressed : PySem.W.keepIn K (.ref f__law_pressed) = true)
    {od__law_marks an__law_marks : Option Addr} {sl__law_marks : Array (Option Value)} {oc__law_marks kV__law_marks dc__law_marks pm__law_marks cd__law_marks ct__law_marks : Value}
    (a__law_marks : PySem.W.nsIn K mainGlobals "_law_marks" = some (some (.ref f__law_marks))) (l__law_marks : K.lookup f__law_marks = some ⟨oc__law_marks, od__law_marks, .func (PySem.W.fnOf "_law_marks" "_law_marks" (defArgs s__law_marks) (defBody s__law_marks) (defScope s__law_marks) .none kV__law_marks dc__law_marks pm__law_marks an__law_marks cd__law_marks ct__law_marks), sl__law_marks⟩) (c__law_marks : PySem.W.codeIn K cd__law_marks "_law_marks" = true) (k__law_marks : PySem.W.keepIn K (.ref f__law_marks) = true)
    {od__law_flat an__law_flat : Option Addr} {sl__law_flat : Array (Option Value)} {oc__law_flat kV__law_flat dc__law_flat pm__law_flat cd__law_flat ct__law_flat : Value}
    (a__law_flat : PySem.W.nsIn K mainGlobals "_law_flat" = some (some (.ref f__law_flat))) (l__law_flat : K.lookup f__law_flat = some ⟨oc__law_flat, od__law_flat, .func (PySem.W.fnOf "_law_flat" "_law_flat" (defArgs s__law_flat) (defBody s__law_flat) (defScope s__law_flat) .none kV__law_flat dc__law_flat pm__law_flat an__law_flat cd__law_flat ct__law_flat), sl__law_flat⟩) (c__law_flat : PySem.W.codeIn K cd__law_flat "_law_flat" = true) (k__law_flat : PySem.W.keepIn K (.ref f__law_flat) = true)
    {od__law_grown an__law_grown : Option Addr} {sl__law_grown : Array (Option Value)} {oc__law_grown kV__law_grown dc__law_grown pm__law_grown cd__law_grown ct__law_grown : Value}
    (a__law_grown : PySem.W.nsIn K mainGlobals "_law_grown" = some (some (.ref f__law_grown))) (l__law_grown : K.lookup f__law_grown = some ⟨oc__law_grown, od__law_grown, .func (PySem.W.fnOf "_law_grown" "_law_grown" (defArgs s__law_grown) (defBody s__law_grown) (defScope s__law_grown) .none kV__law_grown dc__law_grown pm__law_grown an__law_grown cd__law_grown ct__law_grown), sl__law_grown⟩) (c__law_grown : PySem.W.codeIn K cd__law_grown "_law_grown" = true) (k__law_grown : PySem.W.keepIn K (.ref f__law_grown) = true)
    {od__law_fresh an__law_fresh : Option Addr} {sl__law_fresh : Array (Option Value)} {oc__law_fresh kV__law_fresh dc__law_fresh pm__law_fresh cd__law_fresh ct__law_fresh : Value}
    (a__law_fresh : PySem.W.nsIn K mainGlobals "_law_fresh" = some (some (.ref f__law_fresh))) (l__law_fresh : K.lookup f__law_fresh = some ⟨oc__law_fresh, od__law_fresh, .func (PySem.W.fnOf "_law_fresh" "_law_fresh" (defArgs s__law_fresh) (defBody s__law_fresh) (defScope s__law_fresh) .none kV__law_fresh dc__law_fresh pm__law_fresh an__law_fresh cd__law_fresh ct__law_fresh), sl__law_fresh⟩) (c__law_fresh : PySem.W.codeIn K cd__law_fresh "_law_fresh" = true) (k__law_fresh : PySem.W.keepIn K (.ref f__law_fresh) = true)
    {od__law_worn an__law_worn : Option Addr} {sl__law_worn : Array (Option Value)} {oc__law_worn kV__law_worn dc__law_worn pm__law_worn cd__law_worn ct__law_worn : Value}
    (a__law_worn : PySem.W.nsIn K mainGlobals "_law_worn" = some (some (.ref f__law_worn))) (l__law_worn : K.lookup f__law_worn = some ⟨oc__law_worn, od__law_worn, .func (PySem.W.fnOf "_law_worn" "_law_worn" (defArgs s__law_worn) (defBody s__law_worn) (defScope s__law_worn) .none kV__law_worn dc__law_worn pm__law_worn an__law_worn cd__law_worn ct__law_worn), sl__law_worn⟩) (c__law_worn : PySem.W.codeIn K cd__law_worn "_law_worn" = true) (k__law_worn : PySem.W.keepIn K (.ref f__law_worn) = true)
    {od__law_listed an__law_listed : Option Addr} {sl__law_listed : Array (Option Value)} {oc__law_listed kV__law_listed dc__law_listed pm__law_listed cd__law_listed ct__law_listed : Value}
    (a__law_listed : PySem.W.nsIn K mainGlobals "_law_listed" = some (some (.ref f__law_listed))) (l__law_listed : K.lookup f__law_listed = some ⟨oc__law_listed, od__law_listed, .func (PySem.W.fnOf "_law_listed" "_law_listed" (defArgs s__law_listed) (defBody s__law_listed) (defScope s__law_listed) .none kV__law_listed dc__law_listed pm__law_listed an__law_listed cd__law_listed ct__law_listed), sl__law_listed⟩) (c__law_listed : PySem.W.codeIn K cd__law_listed "_law_listed" = true) (k__law_listed : PySem.W.keepIn K (.ref f__law_listed) = true)
    {od__law_turned an__law_turned : Option Addr} {sl__law_turned : Array (Option Value)} {oc__law_turned kV__law_turned dc__law_turned pm__law_turned cd__law_turned ct__law_turned : Value}
    (a__law_turned : PySem.W.nsIn K mainGlobals "_law_turned" = some (some (.ref f__law_turned))) (l__law_turned : K.lookup f__law_turned = some ⟨oc__law_turned, od__law_turned, .func (PySem.W.fnOf "_law_turned" "_law_turned" (defArgs s__law_turned) (defBody s__law_turned) (defScope s__law_turned) .none kV__law_turned dc__law_turned pm__law_turned an__law_turned cd__law_turned ct__law_turned), sl__law_turned⟩) (c__law_turned : PySem.W.codeIn K cd__law_turned "_law_turned" = true) (k__law_turned : PySem.W.keepIn K (.ref f__law_turned) = true)
    {od__law_stepped an__law_stepped : Option Addr} {sl__law_stepped : Array (Option Value)} {oc__law_stepped kV__law_stepped dc__law_stepped pm__law_stepped cd__law_stepped ct__law_stepped : Value}
    (a__law_stepped : PySem.W.nsIn K mainGlobals "_law_stepped" = some (some (.ref f__law_stepped))) (l__law_stepped : K.lookup f__law_stepped = some ⟨oc__law_stepped, od__law_stepped, .func (PySem.W.fnOf "_law_stepped" "_law_stepped" (defArgs s__law_stepped) (defBody s__law_stepped) (defScope s__law_stepped) .none kV__law_stepped dc__law_stepped pm__law_stepped an__law_stepped cd__law_stepped ct__law_stepped), sl__law_stepped⟩) (c__law_stepped : PySem.W.codeIn K cd__law_stepped "_law_stepped" = true) (k__law_stepped : PySem.W.keepIn K (.ref f__law_stepped) = true)
    {od__law_refused an__law_refused : Option Addr} {sl__law_refused : Array (Option Value)} {oc__law_refused kV__law_refused dc__law_refused pm__law_refused cd__law_refused ct__law_refused : Value}
    (a__law_refused : PySem.W.nsIn K mainGlobals "_law_refused" = some (some (.ref f__law_refused))) (l__law_refused : K.lookup f__law_refused = some ⟨oc__law_refused, od__law_refused, .func (PySem.W.fnOf "_law_refused" "_law_refused" (defArgs s__law_refused) (defBody s__law_refused) (defScope s__law_refused) .none kV__law_refused dc__law_refused pm__law_refused an__law_refused cd__law_refused ct__law_refused), sl__law_refused⟩) (c__law_refused : PySem.W.codeIn K cd__law_refused "_law_refused" = true) (k__law_refused : PySem.W.keepIn K (.ref f__law_refused) = true)
    {od__law_deeds an__law_deeds : Option Addr} {sl__law_deeds : Array (Option Value)} {oc__law_deeds kV__law_deeds dc__law_deeds pm__law_deeds cd__law_deeds ct__law_deeds : Value}
    (a__law_deeds : PySem.W.nsIn K mainGlobals "_law_deeds" = some (some (.ref f__law_deeds))) (l__law_deeds : K.lookup f__law_deeds = some ⟨oc__law_deeds, od__law_deeds, .func (PySem.W.fnOf "_law_deeds" "_law_deeds" (defArgs s__law_deeds) (defBody s__law_deeds) (defScope s__law_deeds) .none kV__law_deeds dc__law_deeds pm__law_deeds an__law_deeds cd__law_deeds ct__law_deeds), sl__law_deeds⟩) (c__law_deeds : PySem.W.codeIn K cd__law_deeds "_law_deeds" = true) (k__law_deeds : PySem.W.keepIn K (.ref f__law_deeds) = true)
    {od__law_gone an__law_gone : Option Addr} {sl__law_gone : Array (Option Value)} {oc__law_gone kV__law_gone dc__law_gone pm__law_gone cd__law_gone ct__law_gone : Value}
    (a__law_gone : PySem.W.nsIn K mainGlobals "_law_gone" = some (some (.ref f__law_gone))) (l__law_gone : K.lookup f__law_gone = some ⟨oc__law_gone, od__law_gone, .func (PySem.W.fnOf "_law_gone" "_law_gone" (defArgs s__law_gone) (defBody s__law_gone) (defScope s__law_gone) .none kV__law_gone dc__law_gone pm__law_gone an__law_gone cd__law_gone ct__law_gone), sl__law_gone⟩) (c__law_gone : PySem.W.codeIn K cd__law_gone "_law_gone" = true) (k__law_gone : PySem.W.keepIn K (.ref f__law_gone) = true)
    {od__law_next an__law_next : Option Addr} {sl__law_next : Array (Option Value)} {oc__law_next kV__law_next dc__law_next pm__law_next cd__law_next ct__law_next : Value}
    (a__law_next : PySem.W.nsIn K mainGlobals "_law_next" = some (some (.ref f__law_next))) (l__law_next : K.lookup f__law_next = some ⟨oc__law_next, od__law_next, .func (PySem.W.fnOf "_law_next" "_law_next" (defArgs s__law_next) (defBody s__law_next) (defScope s__law_next) .none kV__law_next dc__law_next pm__law_next an__law_next cd__law_next ct__law_next), sl__law_next⟩) (c__law_next : PySem.W.codeIn K cd__law_next "_law_next" = true) (k__law_next : PySem.W.keepIn K (.ref f__law_next) = true)
    {od_law an_law : Option Addr} {sl_law : Array (Option Value)} {oc_law kV_law dc_law pm_law cd_law ct_law : Value}
    (a_law : PySem.W.nsIn K mainGlobals "law" = some (some (.ref f_law))) (l_law : K.lookup f_law = some ⟨oc_law, od_law, .func (PySem.W.fnOf "law" "law" (defArgs s_law) (defBody s_law) (defScope s_law) .none kV_law dc_law pm_law an_law cd_law ct_law), sl_law⟩) (c_law : PySem.W.codeIn K cd_law "law" = true) (k_law : PySem.W.keepIn K (.ref f_law) = true)
    (aC_Focus : PySem.W.nsIn K mainGlobals "Focus" = some (some (.ref C_Focus))) (pg_Focus : PySem.W.plainGet K C_Focus Str.empty = true) (hd_Focus : PySem.W.hasDictIn K C_Focus = true) (po_Focus : PySem.W.plainOver K C_Focus = true) (sa_Focus : PySem.W.findIn K (.ref C_Focus) "__setattr__" = some (some (.builtin "object.__setattr__"))) (mk_Focus : PySem.W.makesIn K C_Focus = true) (kc_Focus : PySem.W.keepIn K (.ref C_Focus) = true) (nf_Focus : PySem.W.notFirst K C_Focus (.ref C_Focus) = true) (ih_Focus : PySem.W.findIn K (.ref C_Focus) "__class__" = some (some (.builtin "object.__class__"))) (ig_Focus : PySem.W.specialIn K (.builtin "object.__class__") "__get__" = some (some (.builtin "getset_descriptor.__get__"))) (it_Focus : PySem.W.takesIn K (.builtin "object.__class__") = some true) (io_Focus : PySem.W.mroIn K C_Focus (.type "object") = some true) (ik_Focus : PySem.W.kitOne K (.ref C_Focus) (.ref C_Focus) = some true)
    (nA_Focus__at : PySem.W.findIn K (.ref C_Focus) "_at" = some none)
    (nA_Focus__marks : PySem.W.findIn K (.ref C_Focus) "_marks" = some none)
    (nA_Focus__page : PySem.W.findIn K (.ref C_Focus) "_page" = some none)
    (nA_Focus_rule : PySem.W.findIn K (.ref C_Focus) "rule" = some none)
    {od_Focus___init__ an_Focus___init__ : Option Addr} {sl_Focus___init__ : Array (Option Value)} {oc_Focus___init__ kV_Focus___init__ dc_Focus___init__ pm_Focus___init__ cd_Focus___init__ ct_Focus___init__ : Value}
    (a_Focus___init__ : PySem.W.findIn K (.ref C_Focus) "__init__" = some (some (.ref f_Focus___init__))) (i_Focus___init__ : PySem.W.isFn K (.ref f_Focus___init__) = true) (n_Focus___init__ : PySem.W.fnIn K f_Focus___init__ = true)
    {dt_Focus___init__ : Addr} {da_Focus___init__ : Array Value} {dn_Focus___init__ : Nat}
    (l_Focus___init__ : K.lookup f_Focus___init__ = some ⟨oc_Focus___init__, od_Focus___init__, .func (PySem.W.fnOf "__init__" "Focus.__init__" (defArgs s_Focus___init__) (defBody s_Focus___init__) (defScope s_Focus___init__) (.ref dt_Focus___init__) kV_Focus___init__ dc_Focus___init__ pm_Focus___init__ an_Focus___init__ cd_Focus___init__ ct_Focus___init__), sl_Focus___init__⟩) (c_Focus___init__ : PySem.W.codeIn K cd_Focus___init__ "Focus.__init__" = true) (k_Focus___init__ : PySem.W.keepIn K (.ref f_Focus___init__) = true)
    (ld_Focus___init__ : K.lookup dt_Focus___init__ = some ⟨.type "tuple", none, .seq da_Focus___init__ dn_Focus___init__, #[]⟩) (vd_Focus___init__ : Vals [V.str (PySem.Str.ofString "near")] da_Focus___init__.toList)
    {od_Focus_page an_Focus_page : Option Addr} {sl_Focus_page : Array (Option Value)} {oc_Focus_page kV_Focus_page dc_Focus_page pm_Focus_page cd_Focus_page ct_Focus_page : Value}
    {re_Focus_page : List Value} (a_Focus_page : PySem.W.findIn K (.ref C_Focus) "page" = some (some (.ref p_Focus_page))) (ge_Focus_page : PySem.W.specialIn K (.ref p_Focus_page) "__get__" = some (some (.builtin "property.__get__"))) (ta_Focus_page : PySem.W.takesIn K (.ref p_Focus_page) = some true) (re1_Focus_page : PySem.W.recIn K p_Focus_page "property" = some (.ref f_Focus_page :: re_Focus_page))
    (l_Focus_page : K.lookup f_Focus_page = some ⟨oc_Focus_page, od_Focus_page, .func (PySem.W.fnOf "page" "Focus.page" (defArgs s_Focus_page) (defBody s_Focus_page) (defScope s_Focus_page) .none kV_Focus_page dc_Focus_page pm_Focus_page an_Focus_page cd_Focus_page ct_Focus_page), sl_Focus_page⟩) (c_Focus_page : PySem.W.codeIn K cd_Focus_page "Focus.page" = true) (k_Focus_page : PySem.W.keepIn K (.ref f_Focus_page) = true)
    {od_Focus_at an_Focus_at : Option Addr} {sl_Focus_at : Array (Option Value)} {oc_Focus_at kV_Focus_at dc_Focus_at pm_Focus_at cd_Focus_at ct_Focus_at : Value}
    {re_Focus_at : List Value} (a_Focus_at : PySem.W.findIn K (.ref C_Focus) "at" = some (some (.ref p_Focus_at))) (ge_Focus_at : PySem.W.specialIn K (.ref p_Focus_at) "__get__" = some (some (.builtin "property.__get__"))) (ta_Focus_at : PySem.W.takesIn K (.ref p_Focus_at) = some true) (re1_Focus_at : PySem.W.recIn K p_Focus_at "property" = some (.ref f_Focus_at :: re_Focus_at))
    (l_Focus_at : K.lookup f_Focus_at = some ⟨oc_Focus_at, od_Focus_at, .func (PySem.W.fnOf "at" "Focus.at" (defArgs s_Focus_at) (defBody s_Focus_at) (defScope s_Focus_at) .none kV_Focus_at dc_Focus_at pm_Focus_at an_Focus_at cd_Focus_at ct_Focus_at), sl_Focus_at⟩) (c_Focus_at : PySem.W.codeIn K cd_Focus_at "Focus.at" = true) (k_Focus_at : PySem.W.keepIn K (.ref f_Focus_at) = true)
    {od_Focus_at_setter an_Focus_at_setter : Option Addr} {sl_Focus_at_setter : Array (Option Value)} {oc_Focus_at_setter kV_Focus_at_setter dc_Focus_at_setter pm_Focus_at_setter cd_Focus_at_setter ct_Focus_at_setter : Value}
    {ra_Focus_at_setter : Value} {rr_Focus_at_setter : List Value} (tk_Focus_at_setter : PySem.W.takerIn K C_Focus "at" = some (some (.ref p_Focus_at))) (ty_Focus_at_setter : PySem.W.typeIn K (.ref p_Focus_at) = some (.type "property")) (rs_Focus_at_setter : PySem.W.recIn K p_Focus_at "property" = some (ra_Focus_at_setter :: .ref f_Focus_at_setter :: rr_Focus_at_setter))
    (l_Focus_at_setter : K.lookup f_Focus_at_setter = some ⟨oc_Focus_at_setter, od_Focus_at_setter, .func (PySem.W.fnOf "at" "Focus.at" (defArgs s_Focus_at_setter) (defBody s_Focus_at_setter) (defScope s_Focus_at_setter) .none kV_Focus_at_setter dc_Focus_at_setter pm_Focus_at_setter an_Focus_at_setter cd_Focus_at_setter ct_Focus_at_setter), sl_Focus_at_setter⟩) (c_Focus_at_setter : PySem.W.codeIn K cd_Focus_at_setter "Focus.at" = true) (k_Focus_at_setter : PySem.W.keepIn K (.ref f_Focus_at_setter) = true)
    {od_Focus_put an_Focus_put : Option Addr} {sl_Focus_put : Array (Option Value)} {oc_Focus_put kV_Focus_put dc_Focus_put pm_Focus_put cd_Focus_put ct_Focus_put : Value}
    (a_Focus_put : PySem.W.findIn K (.ref C_Focus) "put" = some (some (.ref f_Focus_put))) (i_Focus_put : PySem.W.isFn K (.ref f_Focus_put) = true) (n_Focus_put : PySem.W.fnIn K f_Focus_put = true)
    (l_Focus_put : K.lookup f_Focus_put = some ⟨oc_Focus_put, od_Focus_put, .func (PySem.W.fnOf "put" "Focus.put" (defArgs s_Focus_put) (defBody s_Focus_put) (defScope s_Focus_put) .none kV_Focus_put dc_Focus_put pm_Focus_put an_Focus_put cd_Focus_put ct_Focus_put), sl_Focus_put⟩) (c_Focus_put : PySem.W.codeIn K cd_Focus_put "Focus.put" = true) (k_Focus_put : PySem.W.keepIn K (.ref f_Focus_put) = true)
    {od_Focus_step an_Focus_step : Option Addr} {sl_Focus_step : Array (Option Value)} {oc_Focus_step kV_Focus_step dc_Focus_step pm_Focus_step cd_Focus_step ct_Focus_step : Value}
    (a_Focus_step : PySem.W.findIn K (.ref C_Focus) "step" = some (some (.ref f_Focus_step))) (i_Focus_step : PySem.W.isFn K (.ref f_Focus_step) = true) (n_Focus_step : PySem.W.fnIn K f_Focus_step = true)
    (l_Focus_step : K.lookup f_Focus_step = some ⟨oc_Focus_step, od_Focus_step, .func (PySem.W.fnOf "step" "Focus.step" (defArgs s_Focus_step) (defBody s_Focus_step) (defScope s_Focus_step) .none kV_Focus_step dc_Focus_step pm_Focus_step an_Focus_step cd_Focus_step ct_Focus_step), sl_Focus_step⟩) (c_Focus_step : PySem.W.codeIn K cd_Focus_step "Focus.step" = true) (k_Focus_step : PySem.W.keepIn K (.ref f_Focus_step) = true)
    {od_Focus_turn an_Focus_turn : Option Addr} {sl_Focus_turn : Array (Option Value)} {oc_Focus_turn kV_Focus_turn dc_Focus_turn pm_Focus_turn cd_Focus_turn ct_Focus_turn : Value}
    (a_Focus_turn : PySem.W.findIn K (.ref C_Focus) "turn" = some (some (.ref f_Focus_turn))) (i_Focus_turn : PySem.W.isFn K (.ref f_Focus_turn) = true) (n_Focus_turn : PySem.W.fnIn K f_Focus_turn = true)
    (l_Focus_turn : K.lookup f_Focus_turn = some ⟨oc_Focus_turn, od_Focus_turn, .func (PySem.W.fnOf "turn" "Focus.turn" (defArgs s_Focus_turn) (defBody s_Focus_turn) (defScope s_Focus_turn) .none kV_Focus_turn dc_Focus_turn pm_Focus_turn an_Focus_turn cd_Focus_turn ct_Focus_turn), sl_Focus_turn⟩) (c_Focus_turn : PySem.W.codeIn K cd_Focus_turn "Focus.turn" = true) (k_Focus_turn : PySem.W.keepIn K (.ref f_Focus_turn) = true)
    (aC_Page : PySem.W.nsIn K mainGlobals "Page" = some (some (.ref C_Page))) (pg_Page : PySem.W.plainGet K C_Page Str.empty = true) (hd_Page : PySem.W.hasDictIn K C_Page = true) (po_Page : PySem.W.plainOver K C_Page = true) (sa_Page : PySem.W.findIn K (.ref C_Page) "__setattr__" = some (some (.builtin "object.__setattr__"))) (mk_Page : PySem.W.makesIn K C_Page = true) (kc_Page : PySem.W.keepIn K (.ref C_Page) = true) (nf_Page : PySem.W.notFirst K C_Page (.ref C_Page) = true) (ih_Page : PySem.W.findIn K (.ref C_Page) "__class__" = some (some (.builtin "object.__class__"))) (ig_Page : PySem.W.specialIn K (.builtin "object.__class__") "__get__" = some (some (.builtin "getset_descriptor.__get__"))) (it_Page : PySem.W.takesIn K (.builtin "object.__class__") = some true) (io_Page : PySem.W.mroIn K C_Page (.type "object") = some true) (ik_Page : PySem.W.kitOne K (.ref C_Page) (.ref C_Page) = some true)
    (ns_Page : PySem.W.noSeq K C_Page = true)
    (nl_Page : PySem.W.findIn K (.ref C_Page) "__len__" = some none) (nh_Page : PySem.W.findIn K (.ref C_Page) "__length_hint__" = some none)
    (nq_Page : PySem.W.findIn K (.ref C_Page) "__ne__" = some (some (.builtin "object.__ne__")))
    (nA_Page__nodes : PySem.W.findIn K (.ref C_Page) "_nodes" = some none)
    (nA_Page__parents : PySem.W.findIn K (.ref C_Page) "_parents" = some none)
    (nA_Page__root : PySem.W.findIn K (.ref C_Page) "_root" = some none)
    {od_Page___init__ an_Page___init__ : Option Addr} {sl_Page___init__ : Array (Option Value)} {oc_Page___init__ kV_Page___init__ dc_Page___init__ pm_Page___init__ cd_Page___init__ ct_Page___init__ : Value}
    (a_Page___init__ : PySem.W.findIn K (.ref C_Page) "__init__" = some (some (.ref f_Page___init__))) (i_Page___init__ : PySem.W.isFn K (.ref f_Page___init__) = true) (n_Page___init__ : PySem.W.fnIn K f_Page___init__ = true)
    (l_Page___init__ : K.lookup f_Page___init__ = some ⟨oc_Page___init__, od_Page___init__, .func (PySem.W.fnOf "__init__" "Page.__init__" (defArgs s_Page___init__) (defBody s_Page___init__) (defScope s_Page___init__) .none kV_Page___init__ dc_Page___init__ pm_Page___init__ an_Page___init__ cd_Page___init__ ct_Page___init__), sl_Page___init__⟩) (c_Page___init__ : PySem.W.codeIn K cd_Page___init__ "Page.__init__" = true) (k_Page___init__ : PySem.W.keepIn K (.ref f_Page___init__) = true)
    {od_Page_top an_Page_top : Option Addr} {sl_Page_top : Array (Option Value)} {oc_Page_top kV_Page_top dc_Page_top pm_Page_top cd_Page_top ct_Page_top : Value}
    {re_Page_top : List Value} (a_Page_top : PySem.W.findIn K (.ref C_Page) "top" = some (some (.ref p_Page_top))) (ge_Page_top : PySem.W.specialIn K (.ref p_Page_top) "__get__" = some (some (.builtin "property.__get__"))) (ta_Page_top : PySem.W.takesIn K (.ref p_Page_top) = some true) (re1_Page_top : PySem.W.recIn K p_Page_top "property" = some (.ref f_Page_top :: re_Page_top))
    (l_Page_top : K.lookup f_Page_top = some ⟨oc_Page_top, od_Page_top, .func (PySem.W.fnOf "top" "Page.top" (defArgs s_Page_top) (defBody s_Page_top) (defScope s_Page_top) .none kV_Page_top dc_Page_top pm_Page_top an_Page_top cd_Page_top ct_Page_top), sl_Page_top⟩) (c_Page_top : PySem.W.codeIn K cd_Page_top "Page.top" = true) (k_Page_top : PySem.W.keepIn K (.ref f_Page_top) = true)
    {od_Page_shown an_Page_shown : Option Addr} {sl_Page_shown : Array (Option Value)} {oc_Page_shown kV_Page_shown dc_Page_shown pm_Page_shown cd_Page_shown ct_Page_shown : Value}
    {re_Page_shown : List Value} (a_Page_shown : PySem.W.findIn K (.ref C_Page) "shown" = some (some (.ref p_Page_shown))) (ge_Page_shown : PySem.W.specialIn K (.ref p_Page_shown) "__get__" = some (some (.builtin "property.__get__"))) (ta_Page_shown : PySem.W.takesIn K (.ref p_Page_shown) = some true) (re1_Page_shown : PySem.W.recIn K p_Page_shown "property" = some (.ref f_Page_shown :: re_Page_shown))
    (l_Page_shown : K.lookup f_Page_shown = some ⟨oc_Page_shown, od_Page_shown, .func (PySem.W.fnOf "shown" "Page.shown" (defArgs s_Page_shown) (defBody s_Page_shown) (defScope s_Page_shown) .none kV_Page_shown dc_Page_shown pm_Page_shown an_Page_shown cd_Page_shown ct_Page_shown), sl_Page_shown⟩) (c_Page_shown : PySem.W.codeIn K cd_Page_shown "Page.shown" = true) (k_Page_shown : PySem.W.keepIn K (.ref f_Page_shown) = true)
    {od_Page___getitem__ an_Page___getitem__ : Option Addr} {sl_Page___getitem__ : Array (Option Value)} {oc_Page___getitem__ kV_Page___getitem__ dc_Page___getitem__ pm_Page___getitem__ cd_Page___getitem__ ct_Page___getitem__ : Value}
    (a_Page___getitem__ : PySem.W.findIn K (.ref C_Page) "__getitem__" = some (some (.ref f_Page___getitem__))) (i_Page___getitem__ : PySem.W.isFn K (.ref f_Page___getitem__) = true) (n_Page___getitem__ : PySem.W.fnIn K f_Page___getitem__ = true)
    (l_Page___getitem__ : K.lookup f_Page___getitem__ = some ⟨oc_Page___getitem__, od_Page___getitem__, .func (PySem.W.fnOf "__getitem__" "Page.__getitem__" (defArgs s_Page___getitem__) (defBody s_Page___getitem__) (defScope s_Page___getitem__) .none kV_Page___getitem__ dc_Page___getitem__ pm_Page___getitem__ an_Page___getitem__ cd_Page___getitem__ ct_Page___getitem__), sl_Page___getitem__⟩) (c_Page___getitem__ : PySem.W.codeIn K cd_Page___getitem__ "Page.__getitem__" = true) (k_Page___getitem__ : PySem.W.keepIn K (.ref f_Page___getitem__) = true)
    {od_Page___contains__ an_Page___contains__ : Option Addr} {sl_Page___contains__ : Array (Option Value)} {oc_Page___contains__ kV_Page___contains__ dc_Page___contains__ pm_Page___contains__ cd_Page___contains__ ct_Page___contains__ : Value}
    (a_Page___contains__ : PySem.W.findIn K (.ref C_Page) "__contains__" = some (some (.ref f_Page___contains__))) (i_Page___contains__ : PySem.W.isFn K (.ref f_Page___contains__) = true) (n_Page___contains__ : PySem.W.fnIn K f_Page___contains__ = true)
    (l_Page___contains__ : K.lookup f_Page___contains__ = some ⟨oc_Page___contains__, od_Page___contains__, .func (PySem.W.fnOf "__contains__" "Page.__contains__" (defArgs s_Page___contains__) (defBody s_Page___contains__) (defScope s_Page___contains__) .none kV_Page___contains__ dc_Page___contains__ pm_Page___contains__ an_Page___contains__ cd_Page___contains__ ct_Page___contains__), sl_Page___contains__⟩) (c_Page___contains__ : PySem.W.codeIn K cd_Page___contains__ "Page.__contains__" = true) (k_Page___contains__ : PySem.W.keepIn K (.ref f_Page___contains__) = true)
    {od_Page___iter__ an_Page___iter__ : Option Addr} {sl_Page___iter__ : Array (Option Value)} {oc_Page___iter__ kV_Page___iter__ dc_Page___iter__ pm_Page___iter__ cd_Page___iter__ ct_Page___iter__ : Value}
    (a_Page___iter__ : PySem.W.findIn K (.ref C_Page) "__iter__" = some (some (.ref f_Page___iter__))) (i_Page___iter__ : PySem.W.isFn K (.ref f_Page___iter__) = true) (n_Page___iter__ : PySem.W.fnIn K f_Page___iter__ = true)
    (l_Page___iter__ : K.lookup f_Page___iter__ = some ⟨oc_Page___iter__, od_Page___iter__, .func (PySem.W.fnOf "__iter__" "Page.__iter__" (defArgs s_Page___iter__) (defBody s_Page___iter__) (defScope s_Page___iter__) .none kV_Page___iter__ dc_Page___iter__ pm_Page___iter__ an_Page___iter__ cd_Page___iter__ ct_Page___iter__), sl_Page___iter__⟩) (c_Page___iter__ : PySem.W.codeIn K cd_Page___iter__ "Page.__iter__" = true) (k_Page___iter__ : PySem.W.keepIn K (.ref f_Page___iter__) = true)
    {od_Page___eq__ an_Page___eq__ : Option Addr} {sl_Page___eq__ : Array (Option Value)} {oc_Page___eq__ kV_Page___eq__ dc_Page___eq__ pm_Page___eq__ cd_Page___eq__ ct_Page___eq__ : Value}
    (a_Page___eq__ : PySem.W.findIn K (.ref C_Page) "__eq__" = some (some (.ref f_Page___eq__))) (i_Page___eq__ : PySem.W.isFn K (.ref f_Page___eq__) = true) (n_Page___eq__ : PySem.W.fnIn K f_Page___eq__ = true)
    (l_Page___eq__ : K.lookup f_Page___eq__ = some ⟨oc_Page___eq__, od_Page___eq__, .func (PySem.W.fnOf "__eq__" "Page.__eq__" (defArgs s_Page___eq__) (defBody s_Page___eq__) (defScope s_Page___eq__) .none kV_Page___eq__ dc_Page___eq__ pm_Page___eq__ an_Page___eq__ cd_Page___eq__ ct_Page___eq__), sl_Page___eq__⟩) (c_Page___eq__ : PySem.W.codeIn K cd_Page___eq__ "Page.__eq__" = true) (k_Page___eq__ : PySem.W.keepIn K (.ref f_Page___eq__) = true)
    {od_Page_parent an_Page_parent : Option Addr} {sl_Page_parent : Array (Option Value)} {oc_Page_parent kV_Page_parent dc_Page_parent pm_Page_parent cd_Page_parent ct_Page_parent : Value}
    (a_Page_parent : PySem.W.findIn K (.ref C_Page) "parent" = some (some (.ref f_Page_parent))) (i_Page_parent : PySem.W.isFn K (.ref f_Page_parent) = true) (n_Page_parent : PySem.W.fnIn K f_Page_parent = true)
    (l_Page_parent : K.lookup f_Page_parent = some ⟨oc_Page_parent, od_Page_parent, .func (PySem.W.fnOf "parent" "Page.parent" (defArgs s_Page_parent) (defBody s_Page_parent) (defScope s_Page_parent) .none kV_Page_parent dc_Page_parent pm_Page_parent an_Page_parent cd_Page_parent ct_Page_parent), sl_Page_parent⟩) (c_Page_parent : PySem.W.codeIn K cd_Page_parent "Page.parent" = true) (k_Page_parent : PySem.W.keepIn K (.ref f_Page_parent) = true)
    (aC_ScreenError : PySem.W.nsIn K mainGlobals "ScreenError" = some (some (.ref C_ScreenError))) (hd_ScreenError : PySem.W.hasDictIn K C_ScreenError = true) (ty_ScreenError : PySem.W.typeIn K (.ref C_ScreenError) = some (.type "type")) (be_ScreenError : PySem.W.subIn K (.ref C_ScreenError) (.type "BaseException") = some true) (vb_ScreenError : PySem.W.subIn K (.ref C_ScreenError) (.type "ValueError") = some true)
    (aC_TooMany : PySem.W.nsIn K mainGlobals "TooMany" = some (some (.ref C_TooMany))) (hd_TooMany : PySem.W.hasDictIn K C_TooMany = true) (ty_TooMany : PySem.W.typeIn K (.ref C_TooMany) = some (.type "type")) (be_TooMany : PySem.W.subIn K (.ref C_TooMany) (.type "BaseException") = some true) (vb_TooMany : PySem.W.subIn K (.ref C_TooMany) (.type "ValueError") = some true)
    {nm_TooMany q_TooMany : Str} {N_TooMany : Addr} {bs_TooMany bm_TooMany : List Value} {sn_TooMany : List Str} {sub_TooMany : List Value} {ab_TooMany : Bool} {col_TooMany : Option Bool} {dd_TooMany : Option Addr} {k0_TooMany k1_TooMany k2_TooMany k3_TooMany k5_TooMany : Option Value} (lx_TooMany : K.lookup C_TooMany = some (excClassObj nm_TooMany q_TooMany C_TooMany N_TooMany bs_TooMany bm_TooMany true sn_TooMany sub_TooMany ab_TooMany col_TooMany dd_TooMany k0_TooMany k1_TooMany k2_TooMany k3_TooMany k5_TooMany "ValueError.__new__")) (rv_TooMany : PySem.HandSPX.refsVE bm_TooMany = true)
    (sa_TooMany : PySem.W.findIn K (.ref C_TooMany) "__setattr__" = some (some (.builtin "object.__setattr__"))) (kc_TooMany : PySem.W.keepIn K (.ref C_TooMany) = true) (ga_TooMany : PySem.W.findIn K (.ref C_TooMany) "__getattribute__" = some (some (.builtin "BaseException.__getattribute__"))) (gg_TooMany : PySem.W.findIn K (.ref C_TooMany) "__getattr__" = some none) (ca_TooMany : PySem.W.findIn K (.ref C_TooMany) "__class__" = some (some (.builtin "object.__class__"))) (cg_TooMany : PySem.W.specialIn K (.builtin "object.__class__") "__get__" = some (some (.builtin "getset_descriptor.__get__"))) (ck_TooMany : PySem.W.takesIn K (.builtin "object.__class__") = some true) (mo_TooMany : PySem.W.mroIn K C_TooMany (.type "object") = some true)
    {od_TooMany___init__ an_TooMany___init__ : Option Addr} {sl_TooMany___init__ : Array (Option Value)} {oc_TooMany___init__ kV_TooMany___init__ dc_TooMany___init__ pm_TooMany___init__ cd_TooMany___init__ ct_TooMany___init__ : Value} (iC_TooMany : PySem.W.findIn K (.ref C_TooMany) "__init__" = some (some (.ref f_TooMany___init__))) (tI_TooMany : PySem.W.typeIn K (.ref f_TooMany___init__) = some (.type "function"))
    (l_TooMany___init__ : K.lookup f_TooMany___init__ = some ⟨oc_TooMany___init__, od_TooMany___init__, .func (PySem.W.fnOf "__init__" "TooMany.__init__" (defArgs s_TooMany___init__) (defBody s_TooMany___init__) (defScope s_TooMany___init__) .none kV_TooMany___init__ dc_TooMany___init__ pm_TooMany___init__ an_TooMany___init__ cd_TooMany___init__ ct_TooMany___init__), sl_TooMany___init__⟩) (c_TooMany___init__ : PySem.W.codeIn K cd_TooMany___init__ "TooMany.__init__" = true) (k_TooMany___init__ : PySem.W.keepIn K (.ref f_TooMany___init__) = true)
    (nf_TooMany_count : PySem.W.findIn K (.ref C_TooMany) "count" = some none)
    (aC_TwiceMarked : PySem.W.nsIn K mainGlobals "TwiceMarked" = some (some (.ref C_TwiceMarked))) (hd_TwiceMarked : PySem.W.hasDictIn K C_TwiceMarked = true) (ty_TwiceMarked : PySem.W.typeIn K (.ref C_TwiceMarked) = some (.type "type")) (be_TwiceMarked : PySem.W.subIn K (.ref C_TwiceMarked) (.type "BaseException") = some true) (vb_TwiceMarked : PySem.W.subIn K (.ref C_TwiceMarked) (.type "ValueError") = some true)
    {nm_TwiceMarked q_TwiceMarked : Str} {N_TwiceMarked : Addr} {bs_TwiceMarked bm_TwiceMarked : List Value} {sn_TwiceMarked : List Str} {sub_TwiceMarked : List Value} {ab_TwiceMarked : Bool} {col_TwiceMarked : Option Bool} {dd_TwiceMarked : Option Addr} {k0_TwiceMarked k1_TwiceMarked k2_TwiceMarked k3_TwiceMarked k5_TwiceMarked : Option Value} (lx_TwiceMarked : K.lookup C_TwiceMarked = some (excClassObj nm_TwiceMarked q_TwiceMarked C_TwiceMarked N_TwiceMarked bs_TwiceMarked bm_TwiceMarked true sn_TwiceMarked sub_TwiceMarked ab_TwiceMarked col_TwiceMarked dd_TwiceMarked k0_TwiceMarked k1_TwiceMarked k2_TwiceMarked k3_TwiceMarked k5_TwiceMarked "ValueError.__new__")) (rv_TwiceMarked : PySem.HandSPX.refsVE bm_TwiceMarked = true)
    (sa_TwiceMarked : PySem.W.findIn K (.ref C_TwiceMarked) "__setattr__" = some (some (.builtin "object.__setattr__"))) (kc_TwiceMarked : PySem.W.keepIn K (.ref C_TwiceMarked) = true) (ga_TwiceMarked : PySem.W.findIn K (.ref C_TwiceMarked) "__getattribute__" = some (some (.builtin "BaseException.__getattribute__"))) (gg_TwiceMarked : PySem.W.findIn K (.ref C_TwiceMarked) "__getattr__" = some none) (ca_TwiceMarked : PySem.W.findIn K (.ref C_TwiceMarked) "__class__" = some (some (.builtin "object.__class__"))) (cg_TwiceMarked : PySem.W.specialIn K (.builtin "object.__class__") "__get__" = some (some (.builtin "getset_descriptor.__get__"))) (ck_TwiceMarked : PySem.W.takesIn K (.builtin "object.__class__") = some true) (mo_TwiceMarked : PySem.W.mroIn K C_TwiceMarked (.type "object") = some true)
    {od_TwiceMarked___init__ an_TwiceMarked___init__ : Option Addr} {sl_TwiceMarked___init__ : Array (Option Value)} {oc_TwiceMarked___init__ kV_TwiceMarked___init__ dc_TwiceMarked___init__ pm_TwiceMarked___init__ cd_TwiceMarked___init__ ct_TwiceMarked___init__ : Value} (iC_TwiceMarked : PySem.W.findIn K (.ref C_TwiceMarked) "__init__" = some (some (.ref f_TwiceMarked___init__))) (tI_TwiceMarked : PySem.W.typeIn K (.ref f_TwiceMarked___init__) = some (.type "function"))
    (l_TwiceMarked___init__ : K.lookup f_TwiceMarked___init__ = some ⟨oc_TwiceMarked___init__, od_TwiceMarked___init__, .func (PySem.W.fnOf "__init__" "TwiceMarked.__init__" (defArgs s_TwiceMarked___init__) (defBody s_TwiceMarked___init__) (defScope s_TwiceMarked___init__) .none kV_TwiceMarked___init__ dc_TwiceMarked___init__ pm_TwiceMarked___init__ an_TwiceMarked___init__ cd_TwiceMarked___init__ ct_TwiceMarked___init__), sl_TwiceMarked___init__⟩) (c_TwiceMarked___init__ : PySem.W.codeIn K cd_TwiceMarked___init__ "TwiceMarked.__init__" = true) (k_TwiceMarked___init__ : PySem.W.keepIn K (.ref f_TwiceMarked___init__) = true)
    (nf_TwiceMarked_mark : PySem.W.findIn K (.ref C_TwiceMarked) "mark" = some none)
    (aC_NoNode : PySem.W.nsIn K mainGlobals "NoNode" = some (some (.ref C_NoNode))) (hd_NoNode : PySem.W.hasDictIn K C_NoNode = true) (ty_NoNode : PySem.W.typeIn K (.ref C_NoNode) = some (.type "type")) (be_NoNode : PySem.W.subIn K (.ref C_NoNode) (.type "BaseException") = some true) (vb_NoNode : PySem.W.subIn K (.ref C_NoNode) (.type "ValueError") = some true)
    {nm_NoNode q_NoNode : Str} {N_NoNode : Addr} {bs_NoNode bm_NoNode : List Value} {sn_NoNode : List Str} {sub_NoNode : List Value} {ab_NoNode : Bool} {col_NoNode : Option Bool} {dd_NoNode : Option Addr} {k0_NoNode k1_NoNode k2_NoNode k3_NoNode k5_NoNode : Option Value} (lx_NoNode : K.lookup C_NoNode = some (excClassObj nm_NoNode q_NoNode C_NoNode N_NoNode bs_NoNode bm_NoNode true sn_NoNode sub_NoNode ab_NoNode col_NoNode dd_NoNode k0_NoNode k1_NoNode k2_NoNode k3_NoNode k5_NoNode "ValueError.__new__")) (rv_NoNode : PySem.HandSPX.refsVE bm_NoNode = true)
    (sa_NoNode : PySem.W.findIn K (.ref C_NoNode) "__setattr__" = some (some (.builtin "object.__setattr__"))) (kc_NoNode : PySem.W.keepIn K (.ref C_NoNode) = true) (ga_NoNode : PySem.W.findIn K (.ref C_NoNode) "__getattribute__" = some (some (.builtin "BaseException.__getattribute__"))) (gg_NoNode : PySem.W.findIn K (.ref C_NoNode) "__getattr__" = some none) (ca_NoNode : PySem.W.findIn K (.ref C_NoNode) "__class__" = some (some (.builtin "object.__class__"))) (cg_NoNode : PySem.W.specialIn K (.builtin "object.__class__") "__get__" = some (some (.builtin "getset_descriptor.__get__"))) (ck_NoNode : PySem.W.takesIn K (.builtin "object.__class__") = some true) (mo_NoNode : PySem.W.mroIn K C_NoNode (.type "object") = some true)
    {od_NoNode___init__ an_NoNode___init__ : Option Addr} {sl_NoNode___init__ : Array (Option Value)} {oc_NoNode___init__ kV_NoNode___init__ dc_NoNode___init__ pm_NoNode___init__ cd_NoNode___init__ ct_NoNode___init__ : Value} (iC_NoNode : PySem.W.findIn K (.ref C_NoNode) "__init__" = some (some (.ref f_NoNode___init__))) (tI_NoNode : PySem.W.typeIn K (.ref f_NoNode___init__) = some (.type "function"))
    (l_NoNode___init__ : K.lookup f_NoNode___init__ = some ⟨oc_NoNode___init__, od_NoNode___init__, .func (PySem.W.fnOf "__init__" "NoNode.__init__" (defArgs s_NoNode___init__) (defBody s_NoNode___init__) (defScope s_NoNode___init__) .none kV_NoNode___init__ dc_NoNode___init__ pm_NoNode___init__ an_NoNode___init__ cd_NoNode___init__ ct_NoNode___init__), sl_NoNode___init__⟩) (c_NoNode___init__ : PySem.W.codeIn K cd_NoNode___init__ "NoNode.__init__" = true) (k_NoNode___init__ : PySem.W.keepIn K (.ref f_NoNode___init__) = true)
    (nf_NoNode_mark : PySem.W.findIn K (.ref C_NoNode) "mark" = some none)
    (aC_BadRule : PySem.W.nsIn K mainGlobals "BadRule" = some (some (.ref C_BadRule))) (hd_BadRule : PySem.W.hasDictIn K C_BadRule = true) (ty_BadRule : PySem.W.typeIn K (.ref C_BadRule) = some (.type "type")) (be_BadRule : PySem.W.subIn K (.ref C_BadRule) (.type "BaseException") = some true) (vb_BadRule : PySem.W.subIn K (.ref C_BadRule) (.type "ValueError") = some true)
    {nm_BadRule q_BadRule : Str} {N_BadRule : Addr} {bs_BadRule bm_BadRule : List Value} {sn_BadRule : List Str} {sub_BadRule : List Value} {ab_BadRule : Bool} {col_BadRule : Option Bool} {dd_BadRule : Option Addr} {k0_BadRule k1_BadRule k2_BadRule k3_BadRule k5_BadRule : Option Value} (lx_BadRule : K.lookup C_BadRule = some (excClassObj nm_BadRule q_BadRule C_BadRule N_BadRule bs_BadRule bm_BadRule true sn_BadRule sub_BadRule ab_BadRule col_BadRule dd_BadRule k0_BadRule k1_BadRule k2_BadRule k3_BadRule k5_BadRule "ValueError.__new__")) (rv_BadRule : PySem.HandSPX.refsVE bm_BadRule = true)
    (sa_BadRule : PySem.W.findIn K (.ref C_BadRule) "__setattr__" = some (some (.builtin "object.__setattr__"))) (kc_BadRule : PySem.W.keepIn K (.ref C_BadRule) = true) (ga_BadRule : PySem.W.findIn K (.ref C_BadRule) "__getattribute__" = some (some (.builtin "BaseException.__getattribute__"))) (gg_BadRule : PySem.W.findIn K (.ref C_BadRule) "__getattr__" = some none) (ca_BadRule : PySem.W.findIn K (.ref C_BadRule) "__class__" = some (some (.builtin "object.__class__"))) (cg_BadRule : PySem.W.specialIn K (.builtin "object.__class__") "__get__" = some (some (.builtin "getset_descriptor.__get__"))) (ck_BadRule : PySem.W.takesIn K (.builtin "object.__class__") = some true) (mo_BadRule : PySem.W.mroIn K C_BadRule (.type "object") = some true)
    {od_BadRule___init__ an_BadRule___init__ : Option Addr} {sl_BadRule___init__ : Array (Option Value)} {oc_BadRule___init__ kV_BadRule___init__ dc_BadRule___init__ pm_BadRule___init__ cd_BadRule___init__ ct_BadRule___init__ : Value} (iC_BadRule : PySem.W.findIn K (.ref C_BadRule) "__init__" = some (some (.ref f_BadRule___init__))) (tI_BadRule : PySem.W.typeIn K (.ref f_BadRule___init__) = some (.type "function"))
    (l_BadRule___init__ : K.lookup f_BadRule___init__ = some ⟨oc_BadRule___init__, od_BadRule___init__, .func (PySem.W.fnOf "__init__" "BadRule.__init__" (defArgs s_BadRule___init__) (defBody s_BadRule___init__) (defScope s_BadRule___init__) .none kV_BadRule___init__ dc_BadRule___init__ pm_BadRule___init__ an_BadRule___init__ cd_BadRule___init__ ct_BadRule___init__), sl_BadRule___init__⟩) (c_BadRule___init__ : PySem.W.codeIn K cd_BadRule___init__ "BadRule.__init__" = true) (k_BadRule___init__ : PySem.W.keepIn K (.ref f_BadRule___init__) = true)
    (nf_BadRule_rule : PySem.W.findIn K (.ref C_BadRule) "rule" = some none)
    (ne_TooMany_ScreenError : C_TooMany ≠ C_ScreenError) (s_TooMany_ScreenError : PySem.W.subIn K (.ref C_TooMany) (.ref C_ScreenError) = some true)
    (ne_TooMany_TwiceMarked : C_TooMany ≠ C_TwiceMarked) (s_TooMany_TwiceMarked : PySem.W.subIn K (.ref C_TooMany) (.ref C_TwiceMarked) = some false)
    (ne_TooMany_NoNode : C_TooMany ≠ C_NoNode) (s_TooMany_NoNode : PySem.W.subIn K (.ref C_TooMany) (.ref C_NoNode) = some false)
    (ne_TooMany_BadRule : C_TooMany ≠ C_BadRule) (s_TooMany_BadRule : PySem.W.subIn K (.ref C_TooMany) (.ref C_BadRule) = some false)
    (ne_TwiceMarked_ScreenError : C_TwiceMarked ≠ C_ScreenError) (s_TwiceMarked_ScreenError : PySem.W.subIn K (.ref C_TwiceMarked) (.ref C_ScreenError) = some true)
    (ne_TwiceMarked_TooMany : C_TwiceMarked ≠ C_TooMany) (s_TwiceMarked_TooMany : PySem.W.subIn K (.ref C_TwiceMarked) (.ref C_TooMany) = some false)
    (ne_TwiceMarked_NoNode : C_TwiceMarked ≠ C_NoNode) (s_TwiceMarked_NoNode : PySem.W.subIn K (.ref C_TwiceMarked) (.ref C_NoNode) = some false)
    (ne_TwiceMarked_BadRule : C_TwiceMarked ≠ C_BadRule) (s_TwiceMarked_BadRule : PySem.W.subIn K (.ref C_TwiceMarked) (.ref C_BadRule) = some false)
    (ne_NoNode_ScreenError : C_NoNode ≠ C_ScreenError) (s_NoNode_ScreenError : PySem.W.subIn K (.ref C_NoNode) (.ref C_ScreenError) = some true)
    (ne_NoNode_TooMany : C_NoNode ≠ C_TooMany) (s_NoNode_TooMany : PySem.W.subIn K (.ref C_NoNode) (.ref C_TooMany) = some false)
    (ne_NoNode_TwiceMarked : C_NoNode ≠ C_TwiceMarked) (s_NoNode_TwiceMarked : PySem.W.subIn K (.ref C_NoNode) (.ref C_TwiceMarked) = some false)
    (ne_NoNode_BadRule : C_NoNode ≠ C_BadRule) (s_NoNode_BadRule : PySem.W.subIn K (.ref C_NoNode) (.ref C_BadRule) = some false)
    (ne_BadRule_ScreenError : C_BadRule ≠ C_ScreenError) (s_BadRule_ScreenError : PySem.W.subIn K (.ref C_BadRule) (.ref C_ScreenError) = some true)
    (ne_BadRule_TooMany : C_BadRule ≠ C_TooMany) (s_BadRule_TooMany : PySem.W.subIn K (.ref C_BadRule) (.ref C_TooMany) = some false)
    (ne_BadRule_TwiceMarked : C_BadRule ≠ C_TwiceMarked) (s_BadRule_TwiceMarked : PySem.W.subIn K (.ref C_BadRule) (.ref C_TwiceMarked) = some false)
    (ne_BadRule_NoNode : C_BadRule ≠ C_NoNode) (s_BadRule_NoNode : PySem.W.subIn K (.ref C_BadRule) (.ref C_NoNode) = some false)
    {t_MOST_NODES : Tok} (z_MOST_NODES : PySem.W.nsIn K mainGlobals "MOST_NODES" = some (some (.int 400 t_MOST_NODES)))
    (z_ValueError : PySem.W.nsIn K mainGlobals "ValueError" = some none)
    (z_abs : PySem.W.nsIn K mainGlobals "abs" = some none)
    (z_enumerate : PySem.W.nsIn K mainGlobals "enumerate" = some none)
    (z_int : PySem.W.nsIn K mainGlobals "int" = some none)
    (z_isinstance : PySem.W.nsIn K mainGlobals "isinstance" = some none)
    (z_iter : PySem.W.nsIn K mainGlobals "iter" = some none)
    (z_len : PySem.W.nsIn K mainGlobals "len" = some none)
    (z_list : PySem.W.nsIn K mainGlobals "list" = some none)
    (z_range : PySem.W.nsIn K mainGlobals "range" = some none)
    (z_set : PySem.W.nsIn K mainGlobals "set" = some none)
    (z_str : PySem.W.nsIn K mainGlobals "str" = some none)
    (z_tuple : PySem.W.nsIn K mainGlobals "tuple" = some none)
    {pR : Addr} {arR : Array Value} {nR : Nat} (uR : PySem.W.nsIn K mainGlobals "RULES" = some (some (.ref pR))) (lR : K.lookup pR = some ⟨.type "tuple", none, .seq arR nR, #[]⟩) (vR : Vals (rules.map V.str) arR.toList) :
    ∃ fd : FuncData, (∀ (s : Shared) (v : Value), BindsTo s fd ⟨[v], []⟩ [("_law_script", v)]) ∧ ∀ base : Heap, K.In base → base.Ns mainGlobals mg → FnOk l.prog w K mg base CX0 72 fa fd ["_law_script"] (sp_law K) := by
  have e := hfa.symm.trans (PySem.W.mg_of X G a_law)
  cases e
  let T : Txt K mg := { f__wall := f__wall, d__wall := _, F__wall := fun_mk (st := s__wall) l__wall c__wall k__wall, b__wall := (fun_mk (st := s__wall) l__wall c__wall k__wall).binds fun _ _ _ _ _ _ us hl => match us, hl with | [_], _ => rfl, g__wall := PySem.W.mg_of X G a__wall, f_buttons := f_buttons, d_buttons := _, F_buttons := fun_mk (st := s_buttons) l_buttons c_buttons k_buttons, b_buttons := (fun_mk (st := s_buttons) l_buttons c_buttons k_buttons).binds fun _ _ _ _ _ _ us hl => match us, hl with | [_], _ => rfl, g_buttons := PySem.W.mg_of X G a_buttons, f__near := f__near, d__near := _, F__near := fun_mk (st := s__near) l__near c__near k__near, b__near := (fun_mk (st := s__near) l__near c__near k__near).binds fun _ _ _ _ _ _ us hl => match us, hl with | [_, _, _], _ => rfl, g__near := PySem.W.mg_of X G a__near, f__settled := f__settled, d__settled := _, F__settled := fun_mk (st := s__settled) l__settled c__settled k__settled, b__settled := (fun_mk (st := s__settled) l__settled c__settled k__settled).binds fun _ _ _ _ _ _ us hl => match us, hl with | [_, _, _, _], _ => rfl, g__settled := PySem.W.mg_of X G a__settled, f_nodes_in := f_nodes_in, d_nodes_in := _, F_nodes_in := fun_mk (st := s_nodes_in) l_nodes_in c_nodes_in k_nodes_in, b_nodes_in := (fun_mk (st := s_nodes_in) l_nodes_in c_nodes_in k_nodes_in).binds fun _ _ _ _ _ _ us hl => match us, hl with | [_], _ => rfl, g_nodes_in := PySem.W.mg_of X G a_nodes_in, f_first_twice := f_first_twice, d_first_twice := _, F_first_twice := fun_mk (st := s_first_twice) l_first_twice c_first_twice k_first_twice, b_first_twice := (fun_mk (st := s_first_twice) l_first_twice c_first_twice k_first_twice).binds fun _ _ _ _ _ _ us hl => match us, hl with | [_, _], _ => rfl, g_first_twice := PySem.W.mg_of X G a_first_twice, f__law_mixed := f__law_mixed, d__law_mixed := _, F__law_mixed := fun_mk (st := s__law_mixed) l__law_mixed c__law_mixed k__law_mixed, b__law_mixed := (fun_mk (st := s__law_mixed) l__law_mixed c__law_mixed k__law_mixed).binds fun _ _ _ _ _ _ us hl => match us, hl with | [_, _], _ => rfl, g__law_mixed := PySem.W.mg_of X G a__law_mixed, f__law_bag := f__law_bag, d__law_bag := _, F__law_bag := fun_mk (st := s__law_bag) l__law_bag c__law_bag k__law_bag, b__law_bag := (fun_mk (st := s__law_bag) l__law_bag c__law_bag k__law_bag).binds fun _ _ _ _ _ _ us hl => match us, hl with | [_], _ => rfl, g__law_bag := PySem.W.mg_of X G a__law_bag, f__law_pick := f__law_pick, d__law_pick := _, F__law_pick := fun_mk (st := s__law_pick) l__law_pick c__law_pick k__law_pick, b__law_pick := (fun_mk (st := s__law_pick) l__law_pick c__law_pick k__law_pick).binds fun _ _ _ _ _ _ us hl => match us, hl with | [_, _], _ => rfl, g__law_pick := PySem.W.mg_of X G a__law_pick, f__law_choice := f__law_choice, d__law_choice := _, F__law_choice := fun_mk (st := s__law_choice) l__law_choice c__law_choice k__law_choice, b__law_choice := (fun_mk (st := s__law_choice) l__law_choice c__law_choice k__law_choice).binds fun _ _ _ _ _ _ us hl => match us, hl with | [_, _], _ => rfl, g__law_choice := PySem.W.mg_of X G a__law_choice, f__law_mingled := f__law_mingled, d__law_mingled := _, F__law_mingled := fun_mk (st := s__law_mingled) l__law_mingled c__law_mingled k__law_mingled, b__law_mingled := (fun_mk (st := s__law_mingled) l__law_mingled c__law_mingled k__law_mingled).binds fun _ _ _ _ _ _ us hl => match us, hl with | [_, _], _ => rfl, g__law_mingled := PySem.W.mg_of X G a__law_mingled, f__law_text := f__law_text, d__law_text := _, F__law_text := fun_mk (st := s__law_text) l__law_text c__law_text k__law_text, b__law_text := (fun_mk (st := s__law_text) l__law_text c__law_text k__law_text).binds fun _ _ _ _ _ _ us hl => match us, hl with | [_, _, _], _ => rfl, g__law_text := PySem.W.mg_of X G a__law_text, f__law_label := f__law_label, d__law_label := _, F__law_label := fun_mk (st := s__law_label) l__law_label c__law_label k__law_label, b__law_label := (fun_mk (st := s__law_label) l__law_label c__law_label k__law_label).binds fun _ _ _ _ _ _ us hl => match us, hl with | [_], _ => rfl, g__law_label := PySem.W.mg_of X G a__law_label, f__law_pressed := f__law_pressed, d__law_pressed := _, F__law_pressed := fun_mk (st := s__law_pressed) l__law_pressed c__law_pressed k__law_pressed, b__law_pressed := (fun_mk (st := s__law_pressed) l__law_pressed c__law_pressed k__law_pressed).binds fun _ _ _ _ _ _ us hl => match us, hl with | [_], _ => rfl, g__law_pressed := PySem.W.mg_of X G a__law_pressed, f__law_marks := f__law_marks, d__law_marks := _, F__law_marks := fun_mk (st := s__law_marks) l__law_marks c__law_marks k__law_marks, b__law_marks := (fun_mk (st := s__law_marks) l__law_marks c__law_marks k__law_marks).binds fun _ _ _ _ _ _ us hl => match us, hl with | [_, _], _ => rfl, g__law_marks := PySem.W.mg_of X G a__law_marks, f__law_flat := f__law_flat, d__law_flat := _, F__law_flat := fun_mk (st := s__law_flat) l__law_flat c__law_flat k__law_flat, b__law_flat := (fun_mk (st := s__law_flat) l__law_flat c__law_flat k__law_flat).binds fun _ _ _ _ _ _ us hl => match us, hl with | [_, _, _], _ => rfl, g__law_flat := PySem.W.mg_of X G a__law_flat, f__law_grown := f__law_grown, d__law_grown := _, F__law_grown := fun_mk (st := s__law_grown) l__law_grown c__law_grown k__law_grown, b__law_grown := (fun_mk (st := s__law_grown) l__law_grown c__law_grown k__law_grown).binds fun _ _ _ _ _ _ us hl => match us, hl with | [_], _ => rfl, g__law_grown := PySem.W.mg_of X G a__law_grown, f__law_fresh := f__law_fresh, d__law_fresh := _, F__law_fresh := fun_mk (st := s__law_fresh) l__law_fresh c__law_fresh k__law_fresh, b__law_fresh := (fun_mk (st := s__law_fresh) l__law_fresh c__law_fresh k__law_fresh).binds fun _ _ _ _ _ _ us hl => match us, hl with | [_, _], _ => rfl, g__law_fresh := PySem.W.mg_of X G a__law_fresh, f__law_worn := f__law_worn, d__law_worn := _, F__law_worn := fun_mk (st := s__law_worn) l__law_worn c__law_worn k__law_worn, b__law_worn := (fun_mk (st := s__law_worn) l__law_worn c__law_worn k__law_worn).binds fun _ _ _ _ _ _ us hl => match us, hl with | [_, _, _], _ => rfl, g__law_worn := PySem.W.mg_of X G a__law_worn, f__law_listed := f__law_listed, d__law_listed := _, F__law_listed := fun_mk (st := s__law_listed) l__law_listed c__law_listed k__law_listed, b__law_listed := (fun_mk (st := s__law_listed) l__law_listed c__law_listed k__law_listed).binds fun _ _ _ _ _ _ us hl => match us, hl with | [_], _ => rfl, g__law_listed := PySem.W.mg_of X G a__law_listed, f__law_turned := f__law_turned, d__law_turned := _, F__law_turned := fun_mk (st := s__law_turned) l__law_turned c__law_turned k__law_turned, b__law_turned := (fun_mk (st := s__law_turned) l__law_turned c__law_turned k__law_turned).binds fun _ _ _ _ _ _ us hl => match us, hl with | [_, _, _, _, _], _ => rfl, g__law_turned := PySem.W.mg_of X G a__law_turned, f__law_stepped := f__law_stepped, d__law_stepped := _, F__law_stepped := fun_mk (st := s__law_stepped) l__law_stepped c__law_stepped k__law_stepped, b__law_stepped := (fun_mk (st := s__law_stepped) l__law_stepped c__law_stepped k__law_stepped).binds fun _ _ _ _ _ _ us hl => match us, hl with | [_, _, _], _ => rfl, g__law_stepped := PySem.W.mg_of X G a__law_stepped, f__law_refused := f__law_refused, d__law_refused := _, F__law_refused := fun_mk (st := s__law_refused) l__law_refused c__law_refused k__law_refused, b__law_refused := (fun_mk (st := s__law_refused) l__law_refused c__law_refused k__law_refused).binds fun _ _ _ _ _ _ us hl => match us, hl with | [_, _], _ => rfl, g__law_refused := PySem.W.mg_of X G a__law_refused, f__law_deeds := f__law_deeds, d__law_deeds := _, F__law_deeds := fun_mk (st := s__law_deeds) l__law_deeds c__law_deeds k__law_deeds, b__law_deeds := (fun_mk (st := s__law_deeds) l__law_deeds c__law_deeds k__law_deeds).binds fun _ _ _ _ _ _ us hl => match us, hl with | [_, _, _], _ => rfl, g__law_deeds := PySem.W.mg_of X G a__law_deeds, f__law_gone := f__law_gone, d__law_gone := _, F__law_gone := fun_mk (st := s__law_gone) l__law_gone c__law_gone k__law_gone, b__law_gone := (fun_mk (st := s__law_gone) l__law_gone c__law_gone k__law_gone).binds fun _ _ _ _ _ _ us hl => match us, hl with | [_, _, _], _ => rfl, g__law_gone := PySem.W.mg_of X G a__law_gone, f__law_next := f__law_next, d__law_next := _, F__law_next := fun_mk (st := s__law_next) l__law_next c__law_next k__law_next, b__law_next := (fun_mk (st := s__law_next) l__law_next c__law_next k__law_next).binds fun _ _ _ _ _ _ us hl => match us, hl with | [_, _, _, _], _ => rfl, g__law_next := PySem.W.mg_of X G a__law_next, f_law := fa, d_law := _, F_law := fun_mk (st := s_law) l_law c_law k_law, b_law := (fun_mk (st := s_law) l_law c_law k_law).binds fun _ _ _ _ _ _ us hl => match us, hl with | [_], _ => rfl, g_law := PySem.W.mg_of X G a_law, C_Focus := C_Focus, g_Focus := PySem.W.mg_of X G aC_Focus, cl_Focus := ⟨pg_Focus, hd_Focus, po_Focus, sa_Focus⟩, mk_Focus := mk_Focus, kc_Focus := kc_Focus, nf_Focus := nf_Focus, in_Focus := ⟨⟨pg_Focus, hd_Focus, po_Focus, sa_Focus⟩, ih_Focus, ig_Focus, it_Focus, io_Focus, ik_Focus⟩, nA_Focus__at := nA_Focus__at, nA_Focus__marks := nA_Focus__marks, nA_Focus__page := nA_Focus__page, nA_Focus_rule := nA_Focus_rule, f_Focus___init__ := f_Focus___init__, d_Focus___init__ := _, F_Focus___init__ := (funD_mk (st := s_Focus___init__) (dvs := [V.str (PySem.Str.ofString "near")]) (by simp) l_Focus___init__ c_Focus___init__ k_Focus___init__ ld_Focus___init__ vd_Focus___init__), b_Focus___init__ := binds_all (funD_mk (st := s_Focus___init__) (dvs := [V.str (PySem.Str.ofString "near")]) (by simp) l_Focus___init__ c_Focus___init__ k_Focus___init__ ld_Focus___init__ vd_Focus___init__) (by simp) fun _ _ _ _ _ _ _ us its l1 l2 => match us, its, l1, l2 with | [_, _, _], [_], _, _ => ⟨_, rfl, rfl⟩, bd_Focus___init__ := (funD_mk (st := s_Focus___init__) (dvs := [V.str (PySem.Str.ofString "near")]) (by simp) l_Focus___init__ c_Focus___init__ k_Focus___init__ ld_Focus___init__ vd_Focus___init__).binds1 2 0 (by simp) rfl fun _ _ _ _ _ _ _ us its l1 l2 => match us, its, l1, l2 with | [_, _], [_], _, _ => ⟨_, rfl, rfl⟩, kb_Focus___init__ := binds_kw (funD_mk (st := s_Focus___init__) (dvs := [V.str (PySem.Str.ofString "near")]) (by simp) l_Focus___init__ c_Focus___init__ k_Focus___init__ ld_Focus___init__ vd_Focus___init__) (by simp) fun _ _ _ _ _ _ _ us its ws l1 l2 l3 => match us, its, ws, l1, l2, l3 with | [_, _], [_], [_], _, _, _ => ⟨_, rfl, rfl⟩, a_Focus___init__ := a_Focus___init__, i_Focus___init__ := i_Focus___init__, n_Focus___init__ := n_Focus___init__, f_Focus_page := f_Focus_page, d_Focus_page := _, F_Focus_page := fun_mk (st := s_Focus_page) l_Focus_page c_Focus_page k_Focus_page, b_Focus_page := (fun_mk (st := s_Focus_page) l_Focus_page c_Focus_page k_Focus_page).binds fun _ _ _ _ _ _ us hl => match us, hl with | [_], _ => rfl, p_Focus_page := p_Focus_page, P_Focus_page := ⟨a_Focus_page, ge_Focus_page, ta_Focus_page, ⟨_, re1_Focus_page⟩⟩, f_Focus_at := f_Focus_at, d_Focus_at := _, F_Focus_at := fun_mk (st := s_Focus_at) l_Focus_at c_Focus_at k_Focus_at, b_Focus_at := (fun_mk (st := s_Focus_at) l_Focus_at c_Focus_at k_Focus_at).binds fun _ _ _ _ _ _ us hl => match us, hl with | [_], _ => rfl, p_Focus_at := p_Focus_at, P_Focus_at := ⟨a_Focus_at, ge_Focus_at, ta_Focus_at, ⟨_, re1_Focus_at⟩⟩, f_Focus_at_setter := f_Focus_at_setter, d_Focus_at_setter := _, F_Focus_at_setter := fun_mk (st := s_Focus_at_setter) l_Focus_at_setter c_Focus_at_setter k_Focus_at_setter, b_Focus_at_setter := (fun_mk (st := s_Focus_at_setter) l_Focus_at_setter c_Focus_at_setter k_Focus_at_setter).binds fun _ _ _ _ _ _ us hl => match us, hl with | [_, _], _ => rfl, S_Focus_at := ⟨tk_Focus_at_setter, ty_Focus_at_setter, ⟨_, _, rs_Focus_at_setter⟩⟩, f_Focus_put := f_Focus_put, d_Focus_put := _, F_Focus_put := fun_mk (st := s_Focus_put) l_Focus_put c_Focus_put k_Focus_put, b_Focus_put := (fun_mk (st := s_Focus_put) l_Focus_put c_Focus_put k_Focus_put).binds fun _ _ _ _ _ _ us hl => match us, hl with | [_, _], _ => rfl, a_Focus_put := a_Focus_put, i_Focus_put := i_Focus_put, n_Focus_put := n_Focus_put, f_Focus_step := f_Focus_step, d_Focus_step := _, F_Focus_step := fun_mk (st := s_Focus_step) l_Focus_step c_Focus_step k_Focus_step, b_Focus_step := (fun_mk (st := s_Focus_step) l_Focus_step c_Focus_step k_Focus_step).binds fun _ _ _ _ _ _ us hl => match us, hl with | [_, _], _ => rfl, a_Focus_step := a_Focus_step, i_Focus_step := i_Focus_step, n_Focus_step := n_Focus_step, f_Focus_turn := f_Focus_turn, d_Focus_turn := _, F_Focus_turn := fun_mk (st := s_Focus_turn) l_Focus_turn c_Focus_turn k_Focus_turn, b_Focus_turn := (fun_mk (st := s_Focus_turn) l_Focus_turn c_Focus_turn k_Focus_turn).binds fun _ _ _ _ _ _ us hl => match us, hl with | [_, _], _ => rfl, a_Focus_turn := a_Focus_turn, i_Focus_turn := i_Focus_turn, n_Focus_turn := n_Focus_turn, C_Page := C_Page, g_Page := PySem.W.mg_of X G aC_Page, cl_Page := ⟨pg_Page, hd_Page, po_Page, sa_Page⟩, mk_Page := mk_Page, kc_Page := kc_Page, nf_Page := nf_Page, in_Page := ⟨⟨pg_Page, hd_Page, po_Page, sa_Page⟩, ih_Page, ig_Page, it_Page, io_Page, ik_Page⟩, ns_Page := ns_Page, nq_Page := nq_Page, nA_Page__nodes := nA_Page__nodes, nA_Page__parents := nA_Page__parents, nA_Page__root := nA_Page__root, f_Page___init__ := f_Page___init__, d_Page___init__ := _, F_Page___init__ := fun_mk (st := s_Page___init__) l_Page___init__ c_Page___init__ k_Page___init__, b_Page___init__ := (fun_mk (st := s_Page___init__) l_Page___init__ c_Page___init__ k_Page___init__).binds fun _ _ _ _ _ _ us hl => match us, hl with | [_, _], _ => rfl, a_Page___init__ := a_Page___init__, i_Page___init__ := i_Page___init__, n_Page___init__ := n_Page___init__, f_Page_top := f_Page_top, d_Page_top := _, F_Page_top := fun_mk (st := s_Page_top) l_Page_top c_Page_top k_Page_top, b_Page_top := (fun_mk (st := s_Page_top) l_Page_top c_Page_top k_Page_top).binds fun _ _ _ _ _ _ us hl => match us, hl with | [_], _ => rfl, p_Page_top := p_Page_top, P_Page_top := ⟨a_Page_top, ge_Page_top, ta_Page_top, ⟨_, re1_Page_top⟩⟩, f_Page_shown := f_Page_shown, d_Page_shown := _, F_Page_shown := fun_mk (st := s_Page_shown) l_Page_shown c_Page_shown k_Page_shown, b_Page_shown := (fun_mk (st := s_Page_shown) l_Page_shown c_Page_shown k_Page_shown).binds fun _ _ _ _ _ _ us hl => match us, hl with | [_], _ => rfl, p_Page_shown := p_Page_shown, P_Page_shown := ⟨a_Page_shown, ge_Page_shown, ta_Page_shown, ⟨_, re1_Page_shown⟩⟩, f_Page___getitem__ := f_Page___getitem__, d_Page___getitem__ := _, F_Page___getitem__ := fun_mk (st := s_Page___getitem__) l_Page___getitem__ c_Page___getitem__ k_Page___getitem__, b_Page___getitem__ := (fun_mk (st := s_Page___getitem__) l_Page___getitem__ c_Page___getitem__ k_Page___getitem__).binds fun _ _ _ _ _ _ us hl => match us, hl with | [_, _], _ => rfl, a_Page___getitem__ := a_Page___getitem__, i_Page___getitem__ := i_Page___getitem__, n_Page___getitem__ := n_Page___getitem__, f_Page___contains__ := f_Page___contains__, d_Page___contains__ := _, F_Page___contains__ := fun_mk (st := s_Page___contains__) l_Page___contains__ c_Page___contains__ k_Page___contains__, b_Page___contains__ := (fun_mk (st := s_Page___contains__) l_Page___contains__ c_Page___contains__ k_Page___contains__).binds fun _ _ _ _ _ _ us hl => match us, hl with | [_, _], _ => rfl, a_Page___contains__ := a_Page___contains__, i_Page___contains__ := i_Page___contains__, n_Page___contains__ := n_Page___contains__, f_Page___iter__ := f_Page___iter__, d_Page___iter__ := _, F_Page___iter__ := fun_mk (st := s_Page___iter__) l_Page___iter__ c_Page___iter__ k_Page___iter__, b_Page___iter__ := (fun_mk (st := s_Page___iter__) l_Page___iter__ c_Page___iter__ k_Page___iter__).binds fun _ _ _ _ _ _ us hl => match us, hl with | [_], _ => rfl, a_Page___iter__ := a_Page___iter__, i_Page___iter__ := i_Page___iter__, n_Page___iter__ := n_Page___iter__, f_Page___eq__ := f_Page___eq__, d_Page___eq__ := _, F_Page___eq__ := fun_mk (st := s_Page___eq__) l_Page___eq__ c_Page___eq__ k_Page___eq__, b_Page___eq__ := (fun_mk (st := s_Page___eq__) l_Page___eq__ c_Page___eq__ k_Page___eq__).binds fun _ _ _ _ _ _ us hl => match us, hl with | [_, _], _ => rfl, a_Page___eq__ := a_Page___eq__, i_Page___eq__ := i_Page___eq__, n_Page___eq__ := n_Page___eq__, f_Page_parent := f_Page_parent, d_Page_parent := _, F_Page_parent := fun_mk (st := s_Page_parent) l_Page_parent c_Page_parent k_Page_parent, b_Page_parent := (fun_mk (st := s_Page_parent) l_Page_parent c_Page_parent k_Page_parent).binds fun _ _ _ _ _ _ us hl => match us, hl with | [_, _], _ => rfl, a_Page_parent := a_Page_parent, i_Page_parent := i_Page_parent, n_Page_parent := n_Page_parent, li_Page := ⟨a_Page___iter__, i_Page___iter__, nl_Page, nh_Page⟩, C_ScreenError := C_ScreenError, g_ScreenError := PySem.W.mg_of X G aC_ScreenError, hd_ScreenError := hd_ScreenError, ty_ScreenError := ty_ScreenError, be_ScreenError := be_ScreenError, vb_ScreenError := vb_ScreenError, C_TooMany := C_TooMany, g_TooMany := PySem.W.mg_of X G aC_TooMany, hd_TooMany := hd_TooMany, ty_TooMany := ty_TooMany, be_TooMany := be_TooMany, vb_TooMany := vb_TooMany, ox_TooMany := ⟨⟨_, _, _, _, _, _, _, _, _, _, _, _, _, _, _, lx_TooMany, rv_TooMany⟩, sa_TooMany, be_TooMany, ty_TooMany, kc_TooMany⟩, xf_TooMany := ⟨ga_TooMany, gg_TooMany, be_TooMany, hd_TooMany⟩, is_TooMany := ⟨ga_TooMany, gg_TooMany, be_TooMany, hd_TooMany, ca_TooMany, cg_TooMany, ck_TooMany, mo_TooMany⟩, f_TooMany___init__ := f_TooMany___init__, d_TooMany___init__ := _, F_TooMany___init__ := fun_mk (st := s_TooMany___init__) l_TooMany___init__ c_TooMany___init__ k_TooMany___init__, b_TooMany___init__ := (fun_mk (st := s_TooMany___init__) l_TooMany___init__ c_TooMany___init__ k_TooMany___init__).binds fun _ _ _ _ _ _ us hl => match us, hl with | [_, _], _ => rfl, iC_TooMany := iC_TooMany, tI_TooMany := tI_TooMany, nf_TooMany_count := nf_TooMany_count, C_TwiceMarked := C_TwiceMarked, g_TwiceMarked := PySem.W.mg_of X G aC_TwiceMarked, hd_TwiceMarked := hd_TwiceMarked, ty_TwiceMarked := ty_TwiceMarked, be_TwiceMarked := be_TwiceMarked, vb_TwiceMarked := vb_TwiceMarked, ox_TwiceMarked := ⟨⟨_, _, _, _, _, _, _, _, _, _, _, _, _, _, _, lx_TwiceMarked, rv_TwiceMarked⟩, sa_TwiceMarked, be_TwiceMarked, ty_TwiceMarked, kc_TwiceMarked⟩, xf_TwiceMarked := ⟨ga_TwiceMarked, gg_TwiceMarked, be_TwiceMarked, hd_TwiceMarked⟩, is_TwiceMarked := ⟨ga_TwiceMarked, gg_TwiceMarked, be_TwiceMarked, hd_TwiceMarked, ca_TwiceMarked, cg_TwiceMarked, ck_TwiceMarked, mo_TwiceMarked⟩, f_TwiceMarked___init__ := f_TwiceMarked___init__, d_TwiceMarked___init__ := _, F_TwiceMarked___init__ := fun_mk (st := s_TwiceMarked___init__) l_TwiceMarked___init__ c_TwiceMarked___init__ k_TwiceMarked___init__, b_TwiceMarked___init__ := (fun_mk (st := s_TwiceMarked___init__) l_TwiceMarked___init__ c_TwiceMarked___init__ k_TwiceMarked___init__).binds fun _ _ _ _ _ _ us hl => match us, hl with | [_, _], _ => rfl, iC_TwiceMarked := iC_TwiceMarked, tI_TwiceMarked := tI_TwiceMarked, nf_TwiceMarked_mark := nf_TwiceMarked_mark, C_NoNode := C_NoNode, g_NoNode := PySem.W.mg_of X G aC_NoNode, hd_NoNode := hd_NoNode, ty_NoNode := ty_NoNode, be_NoNode := be_NoNode, vb_NoNode := vb_NoNode, ox_NoNode := ⟨⟨_, _, _, _, _, _, _, _, _, _, _, _, _, _, _, lx_NoNode, rv_NoNode⟩, sa_NoNode, be_NoNode, ty_NoNode, kc_NoNode⟩, xf_NoNode := ⟨ga_NoNode, gg_NoNode, be_NoNode, hd_NoNode⟩, is_NoNode := ⟨ga_NoNode, gg_NoNode, be_NoNode, hd_NoNode, ca_NoNode, cg_NoNode, ck_NoNode, mo_NoNode⟩, f_NoNode___init__ := f_NoNode___init__, d_NoNode___init__ := _, F_NoNode___init__ := fun_mk (st := s_NoNode___init__) l_NoNode___init__ c_NoNode___init__ k_NoNode___init__, b_NoNode___init__ := (fun_mk (st := s_NoNode___init__) l_NoNode___init__ c_NoNode___init__ k_NoNode___init__).binds fun _ _ _ _ _ _ us hl => match us, hl with | [_, _], _ => rfl, iC_NoNode := iC_NoNode, tI_NoNode := tI_NoNode, nf_NoNode_mark := nf_NoNode_mark, C_BadRule := C_BadRule, g_BadRule := PySem.W.mg_of X G aC_BadRule, hd_BadRule := hd_BadRule, ty_BadRule := ty_BadRule, be_BadRule := be_BadRule, vb_BadRule := vb_BadRule, ox_BadRule := ⟨⟨_, _, _, _, _, _, _, _, _, _, _, _, _, _, _, lx_BadRule, rv_BadRule⟩, sa_BadRule, be_BadRule, ty_BadRule, kc_BadRule⟩, xf_BadRule := ⟨ga_BadRule, gg_BadRule, be_BadRule, hd_BadRule⟩, is_BadRule := ⟨ga_BadRule, gg_BadRule, be_BadRule, hd_BadRule, ca_BadRule, cg_BadRule, ck_BadRule, mo_BadRule⟩, f_BadRule___init__ := f_BadRule___init__, d_BadRule___init__ := _, F_BadRule___init__ := fun_mk (st := s_BadRule___init__) l_BadRule___init__ c_BadRule___init__ k_BadRule___init__, b_BadRule___init__ := (fun_mk (st := s_BadRule___init__) l_BadRule___init__ c_BadRule___init__ k_BadRule___init__).binds fun _ _ _ _ _ _ us hl => match us, hl with | [_, _], _ => rfl, iC_BadRule := iC_BadRule, tI_BadRule := tI_BadRule, nf_BadRule_rule := nf_BadRule_rule, ne_TooMany_ScreenError := ne_TooMany_ScreenError, s_TooMany_ScreenError := s_TooMany_ScreenError, ne_TooMany_TwiceMarked := ne_TooMany_TwiceMarked, s_TooMany_TwiceMarked := s_TooMany_TwiceMarked, ne_TooMany_NoNode := ne_TooMany_NoNode, s_TooMany_NoNode := s_TooMany_NoNode, ne_TooMany_BadRule := ne_TooMany_BadRule, s_TooMany_BadRule := s_TooMany_BadRule, ne_TwiceMarked_ScreenError := ne_TwiceMarked_ScreenError, s_TwiceMarked_ScreenError := s_TwiceMarked_ScreenError, ne_TwiceMarked_TooMany := ne_TwiceMarked_TooMany, s_TwiceMarked_TooMany := s_TwiceMarked_TooMany, ne_TwiceMarked_NoNode := ne_TwiceMarked_NoNode, s_TwiceMarked_NoNode := s_TwiceMarked_NoNode, ne_TwiceMarked_BadRule := ne_TwiceMarked_BadRule, s_TwiceMarked_BadRule := s_TwiceMarked_BadRule, ne_NoNode_ScreenError := ne_NoNode_ScreenError, s_NoNode_ScreenError := s_NoNode_ScreenError, ne_NoNode_TooMany := ne_NoNode_TooMany, s_NoNode_TooMany := s_NoNode_TooMany, ne_NoNode_TwiceMarked := ne_NoNode_TwiceMarked, s_NoNode_TwiceMarked := s_NoNode_TwiceMarked, ne_NoNode_BadRule := ne_NoNode_BadRule, s_NoNode_BadRule := s_NoNode_BadRule, ne_BadRule_ScreenError := ne_BadRule_ScreenError, s_BadRule_ScreenError := s_BadRule_ScreenError, ne_BadRule_TooMany := ne_BadRule_TooMany, s_BadRule_TooMany := s_BadRule_TooMany, ne_BadRule_TwiceMarked := ne_BadRule_TwiceMarked, s_BadRule_TwiceMarked := s_BadRule_TwiceMarked, ne_BadRule_NoNode := ne_BadRule_NoNode, s_BadRule_NoNode := s_BadRule_NoNode, t_MOST_NODES := _, c_MOST_NODES := PySem.W.mg_of X G z_MOST_NODES, m_ValueError := PySem.W.mg_none_of X G z_ValueError, m_abs := PySem.W.mg_none_of X G z_abs, m_enumerate := PySem.W.mg_none_of X G z_enumerate, m_int := PySem.W.mg_none_of X G z_int, m_isinstance := PySem.W.mg_none_of X G z_isinstance, m_iter := PySem.W.mg_none_of X G z_iter, m_len := PySem.W.mg_none_of X G z_len, m_list := PySem.W.mg_none_of X G z_list, m_range := PySem.W.mg_none_of X G z_range, m_set := PySem.W.mg_none_of X G z_set, m_str := PySem.W.mg_none_of X G z_str, m_tuple := PySem.W.mg_none_of X G z_tuple }
  let Z : TRul K mg := { p := pR, t := PySem.W.mg_of X G uR, sq := rul_sq lR vR }
  exact ⟨_, fun s v => .of_eq rfl, fun base _ _ => ok_law (base := base) T Z⟩
end D
open PySem PySem.W PyProof.Rows
set_option maxHeartbeats 0 in
theorem PySem.Challenge.cw_drawnanew_k22_whole_focus_holds : PySem.Challenge.rw_drawnanew_k22_whole_focus.Holds := by
  w_on; o_law; k_head; (case hw => w_witness2)
  k_fill
  refine L2.walk_of (l := PySem.Challenge.rw_drawnanew_k22_whole_focus) (n := 63) (k := 72) (x := "_law_script") (CX := fun _ => L2.CX0) (sp := fun w => D.sp_law _) rfl (by decide) rfl ⟨rfl, by decide, by decide⟩ (fun w h Y => PySem.W.kIn_of Y) ?F (fun _ _ a ns hl _ hS => ⟨a, ns, rfl, hS, hl, fun _ => rfl⟩) (fun _ _ _ _ _ h => h)
  case F =>
    intro w mg fa h KX G hmg
    refine' D.all_mk KX G hmg ?a__wall ?l__wall ?c__wall ?k__wall ?a_buttons ?l_buttons ?c_buttons ?k_buttons ?a__near ?l__near ?c__near ?k__near ?a__settled ?l__settled ?c__settled ?k__settled ?a_nodes_in ?l_nodes_in ?c_nodes_in ?k_nodes_in ?a_first_twice ?l_first_twice ?c_first_twice ?k_first_twice ?a__law_mixed ?l__law_mixed ?c__law_mixed ?k__law_mixed ?a__law_bag ?l__law_bag ?c__law_bag ?k__law_bag ?a__law_pick ?l__law_pick ?c__law_pick ?k__law_pick ?a__law_choice ?l__law_choice ?c__law_choice ?k__law_choice ?a__law_mingled ?l__law_mingled ?c__law_mingled ?k__law_mingled ?a__law_text ?l__law_text ?c__law_text ?k__law_text ?a__law_label ?l__law_label ?c__law_label ?k__law_label ?a__law_pressed ?l__law_pressed ?c__law_pressed ?k__law_pressed ?a__law_marks ?l__law_marks ?c__law_marks ?k__law_marks ?a__law_flat ?l__law_flat ?c__law_flat ?k__law_flat ?a__law_grown ?l__law_grown ?c__law_grown ?k__law_grown ?a__law_fresh ?l__law_fresh ?c__law_fresh ?k__law_fresh ?a__law_worn ?l__law_worn ?c__law_worn ?k__law_worn ?a__law_listed ?l__law_listed ?c__law_listed ?k__law_listed ?a__law_turned ?l__law_turned ?c__law_turned ?k__law_turned ?a__law_stepped ?l__law_stepped ?c__law_stepped ?k__law_stepped ?a__law_refused ?l__law_refused ?c__law_refused ?k__law_refused ?a__law_deeds ?l__law_deeds ?c__law_deeds ?k__law_deeds ?a__law_gone ?l__law_gone ?c__law_gone ?k__law_gone ?a__law_next ?l__law_next ?c__law_next ?k__law_next ?a_law ?l_law ?c_law ?k_law ?aC_Focus ?pg_Focus ?hd_Focus ?po_Focus ?sa_Focus ?mk_Focus ?kc_Focus ?nf_Focus ?ih_Focus ?ig_Focus ?it_Focus ?io_Focus ?ik_Focus ?nA_Focus__at ?nA_Focus__marks ?nA_Focus__page ?nA_Focus_rule ?a_Focus___init__ ?i_Focus___init__ ?n_Focus___init__ ?l_Focus___init__ ?c_Focus___init__ ?k_Focus___init__ ?ld_Focus___init__ ?vd_Focus___init__ ?a_Focus_page ?ge_Focus_page ?ta_Focus_page ?re1_Focus_page ?l_Focus_page ?c_Focus_page ?k_Focus_page ?a_Focus_at ?ge_Focus_at ?ta_Focus_at ?re1_Focus_at ?l_Focus_at ?c_Focus_at ?k_Focus_at ?tk_Focus_at_setter ?ty_Focus_at_setter ?rs_Focus_at_setter ?l_Focus_at_setter ?c_Focus_at_setter ?k_Focus_at_setter ?a_Focus_put ?i_Focus_put ?n_Focus_put ?l_Focus_put ?c_Focus_put ?k_Focus_put ?a_Focus_step ?i_Focus_step ?n_Focus_step ?l_Focus_step ?c_Focus_step ?k_Focus_step ?a_Focus_turn ?i_Focus_turn ?n_Focus_turn ?l_Focus_turn ?c_Focus_turn ?k_Focus_turn ?aC_Page ?pg_Page ?hd_Page ?po_Page ?sa_Page ?mk_Page ?kc_Page ?nf_Page ?ih_Page ?ig_Page ?it_Page ?io_Page ?ik_Page ?ns_Page ?nl_Page ?nh_Page ?nq_Page ?nA_Page__nodes ?nA_Page__parents ?nA_Page__root ?a_Page___init__ ?i_Page___init__ ?n_Page___init__ ?l_Page___init__ ?c_Page___init__ ?k_Page___init__ ?a_Page_top ?ge_Page_top ?ta_Page_top ?re1_Page_top ?l_Page_top ?c_Page_top ?k_Page_top ?a_Page_shown ?ge_Page_shown ?ta_Page_shown ?re1_Page_shown ?l_Page_shown ?c_Page_shown ?k_Page_shown ?a_Page___getitem__ ?i_Page___getitem__ ?n_Page___getitem__ ?l_Page___getitem__ ?c_Page___getitem__ ?k_Page___getitem__ ?a_Page___contains__ ?i_Page___contains__ ?n_Page___contains__ ?l_Page___contains__ ?c_Page___contains__ ?k_Page___contains__ ?a_Page___iter__ ?i_Page___iter__ ?n_Page___iter__ ?l_Page___iter__ ?c_Page___iter__ ?k_Page___iter__ ?a_Page___eq__ ?i_Page___eq__ ?n_Page___eq__ ?l_Page___eq__ ?c_Page___eq__ ?k_Page___eq__ ?a_Page_parent ?i_Page_parent ?n_Page_parent ?l_Page_parent ?c_Page_parent ?k_Page_parent ?aC_ScreenError ?hd_ScreenError ?ty_ScreenError ?be_ScreenError ?vb_ScreenError ?aC_TooMany ?hd_TooMany ?ty_TooMany ?be_TooMany ?vb_TooMany ?lx_TooMany ?rv_TooMany ?sa_TooMany ?kc_TooMany ?ga_TooMany ?gg_TooMany ?ca_TooMany ?cg_TooMany ?ck_TooMany ?mo_TooMany ?iC_TooMany ?tI_TooMany ?l_TooMany___init__ ?c_TooMany___init__ ?k_TooMany___init__ ?nf_TooMany_count ?aC_TwiceMarked ?hd_TwiceMarked ?ty_TwiceMarked ?be_TwiceMarked ?vb_TwiceMarked ?lx_TwiceMarked ?rv_TwiceMarked ?sa_TwiceMarked ?kc_TwiceMarked ?ga_TwiceMarked ?gg_TwiceMarked ?ca_TwiceMarked ?cg_TwiceMarked ?ck_TwiceMarked ?mo_TwiceMarked ?iC_TwiceMarked ?tI_TwiceMarked ?l_TwiceMarked___init__ ?c_TwiceMarked___init__ ?k_TwiceMarked___init__ ?nf_TwiceMarked_mark ?aC_NoNode ?hd_NoNode ?ty_NoNode ?be_NoNode ?vb_NoNode ?lx_NoNode ?rv_NoNode ?sa_NoNode ?kc_NoNode ?ga_NoNode ?gg_NoNode ?ca_NoNode ?cg_NoNode ?ck_NoNode ?mo_NoNode ?iC_NoNode ?tI_NoNode ?l_NoNode___init__ ?c_NoNode___init__ ?k_NoNode___init__ ?nf_NoNode_mark ?aC_BadRule ?hd_BadRule ?ty_BadRule ?be_BadRule ?vb_BadRule ?lx_BadRule ?rv_BadRule ?sa_BadRule ?kc_BadRule ?ga_BadRule ?gg_BadRule ?ca_BadRule ?cg_BadRule ?ck_BadRule ?mo_BadRule ?iC_BadRule ?tI_BadRule ?l_BadRule___init__ ?c_BadRule___init__ ?k_BadRule___init__ ?nf_BadRule_rule ?ne_TooMany_ScreenError ?s_TooMany_ScreenError ?ne_TooMany_TwiceMarked ?s_TooMany_TwiceMarked ?ne_TooMany_NoNode ?s_TooMany_NoNode ?ne_TooMany_BadRule ?s_TooMany_BadRule ?ne_TwiceMarked_ScreenError ?s_TwiceMarked_ScreenError ?ne_TwiceMarked_TooMany ?s_TwiceMarked_TooMany ?ne_TwiceMarked_NoNode ?s_TwiceMarked_NoNode ?ne_TwiceMarked_BadRule ?s_TwiceMarked_BadRule ?ne_NoNode_ScreenError ?s_NoNode_ScreenError ?ne_NoNode_TooMany ?s_NoNode_TooMany ?ne_NoNode_TwiceMarked ?s_NoNode_TwiceMarked ?ne_NoNode_BadRule ?s_NoNode_BadRule ?ne_BadRule_ScreenError ?s_BadRule_ScreenError ?ne_BadRule_TooMany ?s_BadRule_TooMany ?ne_BadRule_TwiceMarked ?s_BadRule_TwiceMarked ?ne_BadRule_NoNode ?s_BadRule_NoNode ?z_MOST_NODES ?z_ValueError ?z_abs ?z_enumerate ?z_int ?z_isinstance ?z_iter ?z_len ?z_list ?z_range ?z_set ?z_str ?z_tuple ?uR ?lR ?vR
    (case a__wall => k_is); (case l__wall => k_is); (case c__wall => k_is); (case k__wall => k_is); (case a_buttons => k_is); (case l_buttons => k_is); (case c_buttons => k_is); (case k_buttons => k_is); (case a__near => k_is); (case l__near => k_is); (case c__near => k_is); (case k__near => k_is); (case a__settled => k_is); (case l__settled => k_is); (case c__settled => k_is); (case k__settled => k_is); (case a_nodes_in => k_is); (case l_nodes_in => k_is); (case c_nodes_in => k_is); (case k_nodes_in => k_is); (case a_first_twice => k_is); (case l_first_twice => k_is); (case c_first_twice => k_is); (case k_first_twice => k_is); (case a__law_mixed => k_is); (case l__law_mixed => k_is); (case c__law_mixed => k_is); (case k__law_mixed => k_is); (case a__law_bag => k_is); (case l__law_bag => k_is); (case c__law_bag => k_is); (case k__law_bag => k_is); (case a__law_pick => k_is); (case l__law_pick => k_is); (case c__law_pick => k_is); (case k__law_pick => k_is); (case a__law_choice => k_is); (case l__law_choice => k_is); (case c__law_choice => k_is); (case k__law_choice => k_is); (case a__law_mingled => k_is); (case l__law_mingled => k_is); (case c__law_mingled => k_is); (case k__law_mingled => k_is); (case a__law_text => k_is); (case l__law_text => k_is); (case c__law_text => k_is); (case k__law_text => k_is); (case a__law_label => k_is); (case l__law_label => k_is); (case c__law_label => k_is); (case k__law_label => k_is); (case a__law_pressed => k_is); (case l__law_pressed => k_is); (case c__law_pressed => k_is); (case k__law_pressed => k_is); (case a__law_marks => k_is); (case l__law_marks => k_is); (case c__law_marks => k_is); (case k__law_marks => k_is); (case a__law_flat => k_is); (case l__law_flat => k_is); (case c__law_flat => k_is); (case k__law_flat => k_is); (case a__law_grown => k_is); (case l__law_grown => k_is); (case c__law_grown => k_is); (case k__law_grown => k_is); (case a__law_fresh => k_is); (case l__law_fresh => k_is); (case c__law_fresh => k_is); (case k__law_fresh => k_is); (case a__law_worn => k_is); (case l__law_worn => k_is); (case c__law_worn => k_is); (case k__law_worn => k_is); (case a__law_listed => k_is); (case l__law_listed => k_is); (case c__law_listed => k_is); (case k__law_listed => k_is); (case a__law_turned => k_is); (case l__law_turned => k_is); (case c__law_turned => k_is); (case k__law_turned => k_is); (case a__law_stepped => k_is); (case l__law_stepped => k_is); (case c__law_stepped => k_is); (case k__law_stepped => k_is); (case a__law_refused => k_is); (case l__law_refused => k_is); (case c__law_refused => k_is); (case k__law_refused => k_is); (case a__law_deeds => k_is); (case l__law_deeds => k_is); (case c__law_deeds => k_is); (case k__law_deeds => k_is); (case a__law_gone => k_is); (case l__law_gone => k_is); (case c__law_gone => k_is); (case k__law_gone => k_is); (case a__law_next => k_is); (case l__law_next => k_is); (case c__law_next => k_is); (case k__law_next => k_is); (case a_law => k_is); (case l_law => k_is); (case c_law => k_is); (case k_law => k_is); (case aC_Focus => k_is); (case pg_Focus => k_is); (case hd_Focus => k_is); (case po_Focus => k_is); (case sa_Focus => k_is); (case mk_Focus => k_is); (case kc_Focus => k_is); (case nf_Focus => k_is); (case ih_Focus => k_is); (case ig_Focus => k_is); (case it_Focus => k_is); (case io_Focus => k_is); (case ik_Focus => first | exact rfl | decide +kernel | k_is); (case nA_Focus__at => k_is); (case nA_Focus__marks => k_is); (case nA_Focus__page => k_is); (case nA_Focus_rule => k_is); (case a_Focus___init__ => k_is); (case i_Focus___init__ => k_is); (case n_Focus___init__ => k_is); (case l_Focus___init__ => k_is); (case c_Focus___init__ => k_is); (case k_Focus___init__ => k_is); (case ld_Focus___init__ => k_is); (case vd_Focus___init__ => repeat first | exact .nil | refine .cons ⟨_, rfl⟩ ?_); (case a_Focus_page => k_is); (case ge_Focus_page => k_is); (case ta_Focus_page => k_is); (case re1_Focus_page => k_is); (case l_Focus_page => k_is); (case c_Focus_page => k_is); (case k_Focus_page => k_is); (case a_Focus_at => k_is); (case ge_Focus_at => k_is); (case ta_Focus_at => k_is); (case re1_Focus_at => k_is); (case l_Focus_at => k_is); (case c_Focus_at => k_is); (case k_Focus_at => k_is); (case tk_Focus_at_setter => k_is); (case ty_Focus_at_setter => k_is); (case rs_Focus_at_setter => k_is); (case l_Focus_at_setter => k_is); (case c_Focus_at_setter => k_is); (case k_Focus_at_setter => k_is); (case a_Focus_put => k_is); (case i_Focus_put => k_is); (case n_Focus_put => k_is); (case l_Focus_put => k_is); (case c_Focus_put => k_is); (case k_Focus_put => k_is); (case a_Focus_step => k_is); (case i_Focus_step => k_is); (case n_Focus_step => k_is); (case l_Focus_step => k_is); (case c_Focus_step => k_is); (case k_Focus_step => k_is); (case a_Focus_turn => k_is); (case i_Focus_turn => k_is); (case n_Focus_turn => k_is); (case l_Focus_turn => k_is); (case c_Focus_turn => k_is); (case k_Focus_turn => k_is); (case aC_Page => k_is); (case pg_Page => k_is); (case hd_Page => k_is); (case po_Page => k_is); (case sa_Page => k_is); (case mk_Page => k_is); (case kc_Page => k_is); (case nf_Page => k_is); (case ih_Page => k_is); (case ig_Page => k_is); (case it_Page => k_is); (case io_Page => k_is); (case ik_Page => first | exact rfl | decide +kernel | k_is); (case ns_Page => k_is); (case nl_Page => k_is); (case nh_Page => k_is); (case nq_Page => k_is); (case nA_Page__nodes => k_is); (case nA_Page__parents => k_is); (case nA_Page__root => k_is); (case a_Page___init__ => k_is); (case i_Page___init__ => k_is); (case n_Page___init__ => k_is); (case l_Page___init__ => k_is); (case c_Page___init__ => k_is); (case k_Page___init__ => k_is); (case a_Page_top => k_is); (case ge_Page_top => k_is); (case ta_Page_top => k_is); (case re1_Page_top => k_is); (case l_Page_top => k_is); (case c_Page_top => k_is); (case k_Page_top => k_is); (case a_Page_shown => k_is); (case ge_Page_shown => k_is); (case ta_Page_shown => k_is); (case re1_Page_shown => k_is); (case l_Page_shown => k_is); (case c_Page_shown => k_is); (case k_Page_shown => k_is); (case a_Page___getitem__ => k_is); (case i_Page___getitem__ => k_is); (case n_Page___getitem__ => k_is); (case l_Page___getitem__ => k_is); (case c_Page___getitem__ => k_is); (case k_Page___getitem__ => k_is); (case a_Page___contains__ => k_is); (case i_Page___contains__ => k_is); (case n_Page___contains__ => k_is); (case l_Page___contains__ => k_is); (case c_Page___contains__ => k_is); (case k_Page___contains__ => k_is); (case a_Page___iter__ => k_is); (case i_Page___iter__ => k_is); (case n_Page___iter__ => k_is); (case l_Page___iter__ => k_is); (case c_Page___iter__ => k_is); (case k_Page___iter__ => k_is); (case a_Page___eq__ => k_is); (case i_Page___eq__ => k_is); (case n_Page___eq__ => k_is); (case l_Page___eq__ => k_is); (case c_Page___eq__ => k_is); (case k_Page___eq__ => k_is); (case a_Page_parent => k_is); (case i_Page_parent => k_is); (case n_Page_parent => k_is); (case l_Page_parent => k_is); (case c_Page_parent => k_is); (case k_Page_parent => k_is); (case aC_ScreenError => k_is); (case hd_ScreenError => k_is); (case ty_ScreenError => k_is); (case be_ScreenError => k_is); (case vb_ScreenError => k_is); (case aC_TooMany => k_is); (case hd_TooMany => k_is); (case ty_TooMany => k_is); (case be_TooMany => k_is); (case vb_TooMany => k_is); (case lx_TooMany => k_is); (case rv_TooMany => decide +kernel); (case sa_TooMany => k_is); (case kc_TooMany => k_is); (case ga_TooMany => k_is); (case gg_TooMany => k_is); (case ca_TooMany => k_is); (case cg_TooMany => k_is); (case ck_TooMany => k_is); (case mo_TooMany => k_is); (case iC_TooMany => k_is); (case tI_TooMany => k_is); (case l_TooMany___init__ => k_is); (case c_TooMany___init__ => k_is); (case k_TooMany___init__ => k_is); (case nf_TooMany_count => k_is); (case aC_TwiceMarked => k_is); (case hd_TwiceMarked => k_is); (case ty_TwiceMarked => k_is); (case be_TwiceMarked => k_is); (case vb_TwiceMarked => k_is); (case lx_TwiceMarked => k_is); (case rv_TwiceMarked => decide +kernel); (case sa_TwiceMarked => k_is); (case kc_TwiceMarked => k_is); (case ga_TwiceMarked => k_is); (case gg_TwiceMarked => k_is); (case ca_TwiceMarked => k_is); (case cg_TwiceMarked => k_is); (case ck_TwiceMarked => k_is); (case mo_TwiceMarked => k_is); (case iC_TwiceMarked => k_is); (case tI_TwiceMarked => k_is); (case l_TwiceMarked___init__ => k_is); (case c_TwiceMarked___init__ => k_is); (case k_TwiceMarked___init__ => k_is); (case nf_TwiceMarked_mark => k_is); (case aC_NoNode => k_is); (case hd_NoNode => k_is); (case ty_NoNode => k_is); (case be_NoNode => k_is); (case vb_NoNode => k_is); (case lx_NoNode => k_is); (case rv_NoNode => decide +kernel); (case sa_NoNode => k_is); (case kc_NoNode => k_is); (case ga_NoNode => k_is); (case gg_NoNode => k_is); (case ca_NoNode => k_is); (case cg_NoNode => k_is); (case ck_NoNode => k_is); (case mo_NoNode => k_is); (case iC_NoNode => k_is); (case tI_NoNode => k_is); (case l_NoNode___init__ => k_is); (case c_NoNode___init__ => k_is); (case k_NoNode___init__ => k_is); (case nf_NoNode_mark => k_is); (case aC_BadRule => k_is); (case hd_BadRule => k_is); (case ty_BadRule => k_is); (case be_BadRule => k_is); (case vb_BadRule => k_is); (case lx_BadRule => k_is); (case rv_BadRule => decide +kernel); (case sa_BadRule => k_is); (case kc_BadRule => k_is); (case ga_BadRule => k_is); (case gg_BadRule => k_is); (case ca_BadRule => k_is); (case cg_BadRule => k_is); (case ck_BadRule => k_is); (case mo_BadRule => k_is); (case iC_BadRule => k_is); (case tI_BadRule => k_is); (case l_BadRule___init__ => k_is); (case c_BadRule___init__ => k_is); (case k_BadRule___init__ => k_is); (case nf_BadRule_rule => k_is); (case ne_TooMany_ScreenError => decide +kernel); (case s_TooMany_ScreenError => k_is); (case ne_TooMany_TwiceMarked => decide +kernel); (case s_TooMany_TwiceMarked => k_is); (case ne_TooMany_NoNode => decide +kernel); (case s_TooMany_NoNode => k_is); (case ne_TooMany_BadRule => decide +kernel); (case s_TooMany_BadRule => k_is); (case ne_TwiceMarked_ScreenError => decide +kernel); (case s_TwiceMarked_ScreenError => k_is); (case ne_TwiceMarked_TooMany => decide +kernel); (case s_TwiceMarked_TooMany => k_is); (case ne_TwiceMarked_NoNode => decide +kernel); (case s_TwiceMarked_NoNode => k_is); (case ne_TwiceMarked_BadRule => decide +kernel); (case s_TwiceMarked_BadRule => k_is); (case ne_NoNode_ScreenError => decide +kernel); (case s_NoNode_ScreenError => k_is); (case ne_NoNode_TooMany => decide +kernel); (case s_NoNode_TooMany => k_is); (case ne_NoNode_TwiceMarked => decide +kernel); (case s_NoNode_TwiceMarked => k_is); (case ne_NoNode_BadRule => decide +kernel); (case s_NoNode_BadRule => k_is); (case ne_BadRule_ScreenError => decide +kernel); (case s_BadRule_ScreenError => k_is); (case ne_BadRule_TooMany => decide +kernel); (case s_BadRule_TooMany => k_is); (case ne_BadRule_TwiceMarked => decide +kernel); (case s_BadRule_TwiceMarked => k_is); (case ne_BadRule_NoNode => decide +kernel); (case s_BadRule_NoNode => k_is); (case z_MOST_NODES => k_is); (case z_ValueError => k_is); (case z_abs => k_is); (case z_enumerate => k_is); (case z_int => k_is); (case z_isinstance => k_is); (case z_iter => k_is); (case z_len => k_is); (case z_list => k_is); (case z_range => k_is); (case z_set => k_is); (case z_str => k_is); (case z_tuple => k_is); (case uR => k_is); (case lR => k_is); (case vR => exact .cons ⟨_, rfl⟩ (.cons ⟨_, rfl⟩ (.cons ⟨_, rfl⟩ .nil)))

