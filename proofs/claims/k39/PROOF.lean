import PyProof.Rows.All
import Wide.All
import OpenK.AllK
import Wide.FinOn
import PyProof.Rows.IntBool
import HandS.ForMost
import HandS.IsInst
import HandS.TupAny
import HandS.Conv
import HandS.More
import HandS.Style
import HandS.Property
import HandS.Star
import HandS.DictComp
import HandS.RaiseMore
import HandS.SetFor
import HandS.SlotsOwn
import HandS.Codes
import KE.GoesEnum
import HandS.Deep
import HandS.Strs
import HandS.ReCall
import HandS.Zip
import HandS.Flow
import HandS.ForExc
import HandS.ExcInit
import HandS.ExcField
import HandS.ExcIs
import KE.KExcIs
import HandS.OwnIter
import HandS.IterNext
import HandS.HotCalls
import HandS.ExcInitHot
import HandS.WordsExc
import PyProof.ReprRoads
import PyProof.ReprBulk
import PyProof.P3Eq
import PyProof.AutoSeq1
import HandS.IterVal
import HandS.SetKeys
import HandS.Defaults
import OpenK.KMore
import HandS.TryOnly
import HandS.MakeKw
import PyProof.InstEq
import HandS.New0
import HandS.ClsMeth
import HandS.Finally
import PySem.Challenge.RW_drawnanew_k39_whole_schedules
set_option Elab.async false
set_option linter.all false
set_option maxRecDepth 100000
set_option maxHeartbeats 4000000
namespace D
open PySem PySem.Spec PyProof.Rows L2

/-! ### rules that the layer lacks -/
def bI (b : Bool) : Int := if b = true then 1 else 0
theorem op_mul_ib {X : Cx} : OpR X (binaryOp .Mult) (fun x y H Q => ∃ i k, x = .int i ∧ y = .bl k ∧ Q (.int (i * bI k)) H) := by
  intro pins s σ H x y v u Q I rx ry h
  obtain ⟨i, k, rfl, rfl, q⟩ := h
  obtain ⟨t, rfl⟩ := rx
  cases ry
  exact PySem.IntBool.mul_int_bool ⟨.int (i * bI k), H, I.tok _, ⟨_, rfl⟩, q⟩

/-! ### heaps: M the addresses that may be written -/
abbrev Ms := Addr → Prop
def Sx (M : Ms) (H H' : Hp) : Prop := ∀ a o, ¬ M a → H a = some o → H' a = some o
def one (b : Addr) : Ms := fun a => a = b
def also (M : Ms) (b : Addr) : Ms := fun a => M a ∨ a = b
/-- what may be written stands -/
def Mk (M : Ms) (H : Hp) : Prop := ∀ a, M a → H a ≠ none
theorem Sx.refl {M : Ms} {H : Hp} : Sx M H H := fun _ _ _ h => h
theorem Sx.trans {M : Ms} {H H1 H2 : Hp} (a : Sx M H H1) (b : Sx M H1 H2) : Sx M H H2 := fun c o n h => b c o n (a c o n h)
theorem Sx.le {M N : Ms} {H H' : Hp} (s : Sx M H H') (h : ∀ a, M a → N a) : Sx N H H' := fun a o n e => s a o (fun m => n (h a m)) e
theorem Sx.same {M : Ms} {H H' : Hp} (s : Same H H') : Sx M H H' := fun a o _ e => s a o e
theorem Sx.new {M : Ms} {H : Hp} {p : Addr} {o : HO} (h : H p = none) : Sx M H (upd H p o) := fun a u _ e => by
  rw [upd_ne (ne_of_none e h)]
  exact e
theorem Sx.put {M : Ms} {H : Hp} {p : Addr} {o : HO} (h : M p) : Sx M H (upd H p o) := fun a u n e => by
  rw [upd_ne (fun z => n (by rw [z]; exact h))]
  exact e
theorem same_new {H : Hp} {p : Addr} {o : HO} (h : H p = none) : Same H (upd H p o) := fun a u e => by
  rw [upd_ne (ne_of_none e h)]
  exact e
theorem Mk.step {M : Ms} {H H' : Hp} (m : Mk M H) (h : ∀ a, H a ≠ none → H' a ≠ none) : Mk M H' := fun a z => h a (m a z)
theorem there_new {H : Hp} {p a : Addr} {o : HO} (h : H a ≠ none) : upd H p o a ≠ none := by
  by_cases e : a = p
  · subst e
    rw [upd_same]
    exact fun z => nomatch z
  · rw [upd_ne e]
    exact h
/-- nothing goes -/
def Gr (H H' : Hp) : Prop := ∀ a, H a ≠ none → H' a ≠ none
theorem Gr.refl {H : Hp} : Gr H H := fun _ h => h
theorem Gr.trans {H H1 H2 : Hp} (a : Gr H H1) (b : Gr H1 H2) : Gr H H2 := fun c h => b c (a c h)
theorem Gr.upd {H : Hp} {p : Addr} {o : HO} : Gr H (upd H p o) := fun _ h => there_new h
theorem Gr.same {H H' : Hp} (s : Same H H') : Gr H H' := fun a h => by
  cases e : H a with
  | none => exact absurd e h
  | some o =>
    rw [s a o e]
    exact fun z => nomatch z
theorem Mk.gr {M : Ms} {H H' : Hp} (m : Mk M H) (g : Gr H H') : Mk M H' := fun a z => g a (m a z)
theorem Mk.out {M : Ms} {H : Hp} {p : Addr} (m : Mk M H) (h : H p = none) : ¬ M p := fun z => m p z h
theorem Mk.also {M : Ms} {H : Hp} {p : Addr} (m : Mk M H) (h : H p ≠ none) : Mk (also M p) H := fun a z => by
  rcases z with z | rfl
  · exact m a z
  · exact h
theorem ne_none {H : Hp} {p : Addr} {o : HO} (h : H p = some o) : H p ≠ none := by
  rw [h]
  exact fun z => nomatch z
theorem upd_there {H : Hp} {p : Addr} {o : HO} : upd H p o p ≠ none := by
  rw [upd_same]
  exact fun z => nomatch z

/-! ### lists and tuples that are read -/
theorem sx_rd {M : Ms} {H H' : Hp} {a : Addr} {u : HO} (s : Sx M H H') (n : ¬ M a) (h : Rd H a u) : Rd H' a u := by
  rcases h with h | ⟨o, h⟩
  · exact .inl (s a _ n h)
  · exact .inr ⟨o, s a _ n h⟩
theorem sx_l {K : PySem.W.Frag} {M : Ms} {H H' : Hp} {a : Addr} {xs : List V} (s : Sx M H H') (n : ¬ M a) (h : SqL K H a xs) : SqL K H' a xs := by
  rcases h with h | h
  · exact .inl (sx_rd s n h)
  · exact .inr h
theorem sx_t {K : PySem.W.Frag} {M : Ms} {H H' : Hp} {a : Addr} {xs : List V} (s : Sx M H H') (n : ¬ M a) (h : SqT K H a xs) : SqT K H' a xs := by
  rcases h with h | h
  · exact .inl (sx_rd s n h)
  · exact .inr h

/-! ### data -/
/-- a tuple that stands -/
inductive RdT (H : Hp) (a : Addr) (xs : List V) : Prop
  | inl (h : H a = some (.tup xs))
theorem RdT.rd {H : Hp} {a : Addr} {xs : List V} (h : RdT H a xs) : Rd H a (.tup xs) := h.casesOn fun h => .inl h
theorem RdT.at {H : Hp} {a : Addr} {xs : List V} (h : RdT H a xs) : H a = some (.tup xs) := h.casesOn fun h => h
theorem sx_rt {M : Ms} {H H' : Hp} {a : Addr} {u : List V} (s : Sx M H H') (n : ¬ M a) (h : RdT H a u) : RdT H' a u := .inl (s a _ n h.at)
mutual
inductive Rp (M : Ms) (H : Hp) : V → PyData → Prop
  | non : Rp M H .non .none
  | bl (b : Bool) : Rp M H (.bl b) (.bool b)
  | int (i : Int) : Rp M H (.int i) (.int i)
  | str (x : Str) : Rp M H (.str x) (.str x)
  | lst {a : Addr} {xs : List V} {ds : List PyData} : ¬ M a → Rd H a (.lst xs) → RpAll M H xs ds → Rp M H (.ref a) (.list ds)
  | tup {a : Addr} {xs : List V} {ds : List PyData} : ¬ M a → RdT H a xs → RpAll M H xs ds → Rp M H (.ref a) (.tuple ds)
inductive RpAll (M : Ms) (H : Hp) : List V → List PyData → Prop
  | nil : RpAll M H [] []
  | cons {v : V} {vs : List V} {d : PyData} {ds : List PyData} : Rp M H v d → RpAll M H vs ds → RpAll M H (v :: vs) (d :: ds)
end
section
variable {K : PySem.W.Frag} {M N : Ms} {H H' : Hp}
mutual
theorem Rp.imp (f : ∀ a u, ¬ M a → Rd H a u → ¬ N a) (fl : ∀ a u, ¬ M a → Rd H a u → Rd H' a u) (ft : ∀ a xs, ¬ M a → RdT H a xs → RdT H' a xs) : ∀ (d : PyData) (v : V), Rp M H v d → Rp N H' v d
  | .none, _, h => by cases h; exact .non
  | .bool b, _, h => by cases h; exact .bl b
  | .int i, _, h => by cases h; exact .int i
  | .str x, _, h => by cases h; exact .str x
  | .list ds, _, h => by
    cases h with
    | lst n s r => exact .lst (f _ _ n s) (fl _ _ n s) (RpAll.imp f fl ft ds _ r)
  | .tuple ds, _, h => by
    cases h with
    | tup n s r => exact .tup (f _ _ n s.rd) (ft _ _ n s) (RpAll.imp f fl ft ds _ r)
  | .dict _, _, h => by cases h
theorem RpAll.imp (f : ∀ a u, ¬ M a → Rd H a u → ¬ N a) (fl : ∀ a u, ¬ M a → Rd H a u → Rd H' a u) (ft : ∀ a xs, ¬ M a → RdT H a xs → RdT H' a xs) : ∀ (ds : List PyData) (vs : List V), RpAll M H vs ds → RpAll N H' vs ds
  | [], _, h => by cases h; exact .nil
  | d :: ds, _, h => by
    cases h with
    | cons h1 h2 => exact .cons (Rp.imp f fl ft d _ h1) (RpAll.imp f fl ft ds _ h2)
end
theorem Rp.sx {v : V} {d : PyData} (s : Sx M H H') (h : Rp M H v d) : Rp M H' v d := Rp.imp (fun _ _ n _ => n) (fun _ _ n q => sx_rd s n q) (fun _ _ n q => sx_rt s n q) d v h
theorem RpAll.sx {vs : List V} {ds : List PyData} (s : Sx M H H') (h : RpAll M H vs ds) : RpAll M H' vs ds := RpAll.imp (fun _ _ n _ => n) (fun _ _ n q => sx_rd s n q) (fun _ _ n q => sx_rt s n q) ds vs h
/-- fewer that may be written -/
theorem Rp.less {v : V} {d : PyData} (f : ∀ a, N a → M a) (h : Rp M H v d) : Rp N H v d := Rp.imp (fun a _ n _ m => n (f a m)) (fun _ _ _ q => q) (fun _ _ _ q => q) d v h
theorem RpAll.less {vs : List V} {ds : List PyData} (f : ∀ a, N a → M a) (h : RpAll M H vs ds) : RpAll N H vs ds := RpAll.imp (fun a _ n _ m => n (f a m)) (fun _ _ _ q => q) (fun _ _ _ q => q) ds vs h

/-- an address that no datum reads: nothing stands there -/
theorem sql_kept {a p : Addr} {xs : List V} {o : HO} (h : SqL K H a xs) (n : H p = none) : SqL K (upd H p o) a xs := sx_l (M := fun _ => False) (Sx.new n) (fun z => z) h
theorem sqt_kept {a p : Addr} {xs : List V} {o : HO} (h : SqT K H a xs) (n : H p = none) : SqT K (upd H p o) a xs := sx_t (M := fun _ => False) (Sx.new n) (fun z => z) h

mutual
theorem Rp.dp : ∀ (d : PyData) (v : V), Rp M H v d → Dp K H v d
  | .none, _, h => by cases h; exact .non
  | .bool b, _, h => by cases h; exact .bl b
  | .int i, _, h => by cases h; exact .int i
  | .str x, _, h => by cases h; exact .str x
  | .list ds, _, h => by
    cases h with
    | lst n s r => exact .lst (.inl s) (RpAll.dp ds _ r)
  | .tuple ds, _, h => by
    cases h with
    | tup n s r => exact .tup (.inl s.rd) (RpAll.dp ds _ r)
  | .dict _, _, h => by cases h
theorem RpAll.dp : ∀ (ds : List PyData) (vs : List V), RpAll M H vs ds → DpAll K H vs ds
  | [], _, h => by cases h; exact .nil
  | d :: ds, _, h => by
    cases h with
    | cons h1 h2 => exact .cons (Rp.dp d _ h1) (RpAll.dp ds _ h2)
end
theorem RpAll.length : ∀ {ds : List PyData} {vs : List V}, RpAll M H vs ds → vs.length = ds.length
  | [], _, h => by cases h; rfl
  | d :: ds, _, h => by
    cases h with
    | cons _ h2 =>
      rw [List.length_cons, List.length_cons, RpAll.length h2]
theorem RpAll.get : ∀ {ds : List PyData} {vs : List V} {i : Nat} {v : V}, RpAll M H vs ds → vs[i]? = some v → ∃ d, ds[i]? = some d ∧ Rp M H v d
  | [], _, i, v, h, e => by cases h; simp at e
  | d :: ds, _, 0, v, h, e => by
    cases h with
    | cons h1 _ =>
      have e1 := Option.some.inj e
      subst e1
      exact ⟨d, rfl, h1⟩
  | d :: ds, _, i + 1, v, h, e => by
    cases h with
    | cons _ h2 => exact RpAll.get (i := i) h2 e
theorem RpAll.getD : ∀ {ds : List PyData} {vs : List V} {i : Nat} {d : PyData}, RpAll M H vs ds → ds[i]? = some d → ∃ v, vs[i]? = some v ∧ Rp M H v d
  | [], _, i, v, h, e => by simp at e
  | d :: ds, _, 0, v, h, e => by
    cases h with
    | cons h1 _ =>
      have e1 := Option.some.inj e
      subst e1
      exact ⟨_, rfl, h1⟩
  | d :: ds, _, i + 1, v, h, e => by
    cases h with
    | cons _ h2 => exact RpAll.getD (i := i) h2 e
theorem RpAll.append : ∀ {ds es : List PyData} {vs us : List V}, RpAll M H vs ds → RpAll M H us es → RpAll M H (vs ++ us) (ds ++ es)
  | [], _, _, _, h, g => by cases h; exact g
  | d :: ds, _, _, _, h, g => by
    cases h with
    | cons h1 h2 => exact .cons h1 (RpAll.append h2 g)
theorem RpAll.take : ∀ (n : Nat) {ds : List PyData} {vs : List V}, RpAll M H vs ds → RpAll M H (vs.take n) (ds.take n)
  | 0, _, _, _ => .nil
  | n + 1, [], _, h => by cases h; exact .nil
  | n + 1, d :: ds, _, h => by
    cases h with
    | cons h1 h2 => exact .cons h1 (RpAll.take n h2)
theorem RpAll.drop : ∀ (n : Nat) {ds : List PyData} {vs : List V}, RpAll M H vs ds → RpAll M H (vs.drop n) (ds.drop n)
  | 0, _, _, h => h
  | n + 1, [], _, h => by cases h; exact .nil
  | n + 1, d :: ds, _, h => by
    cases h with
    | cons h1 h2 => exact RpAll.drop n h2
theorem RpAll.one {v : V} {d : PyData} (h : Rp M H v d) : RpAll M H [v] [d] := .cons h .nil
theorem RpAll.eraseIdx : ∀ (n : Nat) {ds : List PyData} {vs : List V}, RpAll M H vs ds → RpAll M H (vs.eraseIdx n) (ds.eraseIdx n)
  | _, [], _, h => by cases h; exact .nil
  | 0, d :: ds, _, h => by
    cases h with
    | cons h1 h2 => exact h2
  | n + 1, d :: ds, _, h => by
    cases h with
    | cons h1 h2 => exact .cons h1 (RpAll.eraseIdx n h2)
theorem RpAll.ints : ∀ (ns : List Int), RpAll M H (ns.map V.int) (ns.map PyData.int)
  | [] => .nil
  | n :: r => .cons (.int n) (RpAll.ints r)
theorem RpAll.ofInts : ∀ {ns : List Int} {vs : List V}, RpAll M H vs (ns.map PyData.int) → vs = ns.map V.int
  | [], _, h => by cases h; rfl
  | n :: r, _, h => by
    cases h with
    | cons h1 h2 =>
      cases h1
      rw [RpAll.ofInts h2]
      rfl
end

/-- a fresh address may be written from now on -/
theorem rd_ne {H : Hp} {a p : Addr} {u : HO} (h : Rd H a u) (n : H p = none) : a ≠ p := fun e => by
  subst e
  rcases h with h | ⟨o, h⟩ <;> rw [n] at h <;> cases h
theorem Rp.fresh {M : Ms} {H : Hp} {p : Addr} (hp : H p = none) : ∀ {d : PyData} {v : V}, Rp M H v d → Rp (also M p) H v d := fun {d v} h => Rp.imp (fun a u n r z => z.elim n fun e => rd_ne r hp e) (fun _ _ _ q => q) (fun _ _ _ q => q) d v h
theorem RpAll.fresh {M : Ms} {H : Hp} {p : Addr} (hp : H p = none) {ds : List PyData} {vs : List V} (h : RpAll M H vs ds) : RpAll (also M p) H vs ds := RpAll.imp (fun a u n r z => z.elim n fun e => rd_ne r hp e) (fun _ _ _ q => q) (fun _ _ _ q => q) ds vs h
theorem also_le {M : Ms} {p : Addr} : ∀ a, M a → also M p a := fun _ h => .inl h

/-! ### the bag of a script's numbers -/
structure Bag (K : PySem.W.Frag) (M : Ms) (H : Hp) (b : Addr) : Prop where
  w : M b
  h : ∃ (n : Addr) (ns : List Int) (p r t s : Int), H b = some (.lst [.ref n, .int p, .int r, .int t, .int s]) ∧ ¬ M n ∧ Rd H n (.lst (ns.map V.int)) ∧ 0 ≤ p ∧ 0 ≤ r
/-- only the object at b has changed -/
def At (b : Addr) (H H' : Hp) : Prop := ∀ a, a ≠ b → H' a = H a
theorem At.upd {b : Addr} {H : Hp} {o : HO} : At b H (upd H b o) := fun _ n => upd_ne n
theorem At.sx {b : Addr} {H H' : Hp} (h : At b H H') : Sx (one b) H H' := fun a o n e => (h a n).trans e
theorem Bag.there {K : PySem.W.Frag} {M : Ms} {H : Hp} {b : Addr} (h : Bag K M H b) : H b ≠ none := by
  obtain ⟨_, n, ns, p, r, t, s, e, _⟩ := h
  exact ne_none e
/-- other things are written, new ones made -/
theorem Bag.keep {K : PySem.W.Frag} {M N : Ms} {H H' : Hp} {b : Addr} (h : Bag K M H b) (s : Sx N H H') (nb : ¬ N b) (le : ∀ a, N a → M a) : Bag K M H' b := by
  obtain ⟨w, n, ns, p, r, t, sd, e, hn, rd, q⟩ := h
  exact ⟨w, n, ns, p, r, t, sd, s _ _ nb e, hn, sx_rd s (fun z => hn (le _ z)) rd, q⟩
theorem Bag.more {K : PySem.W.Frag} {M : Ms} {H : Hp} {b p : Addr} (h : Bag K M H b) (hp : H p = none) : Bag K (also M p) H b := by
  obtain ⟨w, n, ns, q, r, t, sd, e, hn, rd, z⟩ := h
  exact ⟨.inl w, n, ns, q, r, t, sd, e, fun m => m.elim hn fun e => rd_ne rd hp e, rd, z⟩
theorem Bag.less {K : PySem.W.Frag} {M N : Ms} {H : Hp} {b : Addr} (h : Bag K M H b) (w : N b) (f : ∀ a, N a → M a) : Bag K N H b := by
  obtain ⟨_, n, ns, q, r, t, sd, e, hn, rd, z⟩ := h
  exact ⟨w, n, ns, q, r, t, sd, e, fun m => hn (f _ m), rd, z⟩
theorem one_le {M : Ms} {b : Addr} (w : M b) : ∀ a, one b a → M a := fun a e => by
  have e' : a = b := e
  rw [e']
  exact w
/-- a draw: behind it the bag stands, all else too -/
def Dr (K : PySem.W.Frag) (M : Ms) (b : Addr) (H : Hp) (R : PyData → Prop) (Q : VK) : Prop := ∀ v H' d, Sx (one b) H H' → Gr H H' → Bag K M H' b → Rp M H' v d → R d → Q v H'
/-- a def that writes nothing -/
def Pu (M : Ms) (H : Hp) (R : PyData → Prop) (Q : VK) : Prop := ∀ v H' d, Same H H' → Rp M H' v d → R d → Q v H'

/-! ### loops that the layer has no short rule for -/
theorem for_enum {K : PySem.W.Frag} {a : Addr} {xs : List V} {g : TG} {tb : TS} {D : Ends} {σ : L2.St} {H : Hp} (Pv : Nat → L2.St → Hp → Prop) (h0 : Pv 0 σ H) (hl : ∀ i σ H, i ≤ xs.length → Pv i σ H → SqL K H a xs)
    (hs : ∀ i x T σ H, xs[i]? = some x → H T = none → Pv i σ H → g (.ref T) σ (upd H T (.tup [.int (i : Nat), x])) fun σ2 H2 => tb { D with nx := Pv (i + 1), ct := Pv (i + 1), bk := D.nx } σ2 H2) (hd : ∀ σ H, Pv xs.length σ H → D.nx σ H) :
    ∃ W : Nat → Nat → L2.St → Hp → Prop, (∃ m, W 0 m σ H) ∧ ∀ i m σ H, W i m σ H →
      ((Ite K a).stop i H ∧ D.nx σ H) ∨ ((Ite K a).go i H ∧ ∃ N : L2.St → Hp → Prop, (∀ σ' H', N σ' H' → ∃ m', m' < m ∧ W (i + 1) m' σ' H') ∧ ∀ x H', (Ite K a).yld i H x H' → g x σ H' fun σ2 H2 => tb { D with nx := N, ct := N, bk := D.nx } σ2 H2) := by
  refine ⟨fun i m σ H => m = xs.length - i ∧ i ≤ xs.length ∧ Pv i σ H, ⟨xs.length, by simp, Nat.zero_le _, h0⟩, ?_⟩
  rintro i m σ H ⟨rfl, hi, p⟩
  have q := hl i σ H hi p
  by_cases hlt : i < xs.length
  · refine .inr ⟨⟨xs, xs[i], q, by simp [hlt]⟩, Pv (i + 1), fun σ' H' p' => ⟨xs.length - (i + 1), by omega, rfl, hlt, p'⟩, fun x H' y => ?_⟩
    obtain ⟨T, z, rfl, hT, rfl, hz⟩ := y
    exact hs i z T σ _ (hz xs q) hT p
  · have e : i = xs.length := by omega
    subst e
    exact .inl ⟨⟨xs, q, Nat.le_refl _⟩, hd σ H p⟩

theorem seqIx {j n : Nat} (h : j < n) : seqIndex? (j : Int) n = some j := by
  unfold seqIndex?
  have h1 : ¬ ((j : Int) < 0) := by omega
  have h2 : (0 : Int) ≤ (j : Int) := by omega
  have h3 : (j : Int) < (n : Int) := by omega
  simp only [if_neg h1, decide_eq_true h2, decide_eq_true h3, Bool.and_self, if_true, Int.toNat_natCast]
theorem small1000000 {n : Nat} (h : n ≤ 1000000) : n < sizeLine := Nat.lt_of_le_of_lt h (by decide)
theorem At.gr {b : Addr} {H H' : Hp} (h : At b H H') (hb : H' b ≠ none) : Gr H H' := fun a n => by
  by_cases e : a = b
  · rw [e]
    exact hb
  · rw [h a e]
    exact n

/-- what did not stand needs no leave -/
theorem Sx.cut {M : Ms} {H H' : Hp} {p : Addr} (s : Sx (also M p) H H') (n : H p = none) : Sx M H H' := fun a o m e => s a o (fun z => z.elim m fun z => by
  rw [z, n] at e
  cases e) e

theorem str_len (x y : Str) : (x ++ y).length = x.length + y.length := by
  show (x.cps ++ y.cps).size = _
  rw [Array.size_append]
  rfl

theorem log2_10 {v : Int} (h0 : 0 ≤ v) (h1 : v < 10) : v.natAbs.log2 < 1920 := Nat.lt_of_le_of_lt (Nat.log2_le_self _) (by omega)
theorem dig_len {v : Int} (h0 : 0 ≤ v) (h1 : v < 10) : (Str.ofString (toString v)).length = 1 := by
  have h : v = 0 ∨ v = 1 ∨ v = 2 ∨ v = 3 ∨ v = 4 ∨ v = 5 ∨ v = 6 ∨ v = 7 ∨ v = 8 ∨ v = 9 := by omega
  rcases h with rfl | rfl | rfl | rfl | rfl | rfl | rfl | rfl | rfl | rfl <;> decide +kernel
def isLab : V → Bool
  | .str z => decide (z.length ≤ 30)
  | _ => false
theorem lab_all (xs : List V) (h : xs.all isLab = true) : ∀ v ∈ xs, ∃ z : Str, v = V.str z ∧ z.length ≤ 30 := fun v hv => by
  have h1 := List.all_eq_true.mp h v hv
  cases v with
  | str z => exact ⟨z, rfl, of_decide_eq_true h1⟩
  | _ => cases h1

theorem sz2 {x y : V} : [x, y].length ≤ sizeLine := by show 2 ≤ sizeLine; decide
/-! ### sizes of nodes -/
def mx (ns : List Int) : Int := ns.foldl (fun a b => if a < b then b else a) 0
theorem foldmx : ∀ (ns : List Int) (a : Int), a ≤ ns.foldl (fun a b => if a < b then b else a) a ∧ (∀ n ∈ ns, n ≤ ns.foldl (fun a b => if a < b then b else a) a) ∧ (ns.foldl (fun a b => if a < b then b else a) a = a ∨ ns.foldl (fun a b => if a < b then b else a) a ∈ ns)
  | [], a => ⟨Int.le_refl _, (fun _ h => nomatch h), .inl rfl⟩
  | n :: r, a => by
    have ih := foldmx r (if a < n then n else a)
    simp only [List.foldl_cons]
    obtain ⟨h1, h2, h3⟩ := ih
    refine ⟨?_, fun m hm => ?_, ?_⟩
    · split at h1 <;> split <;> omega
    · rcases List.mem_cons.mp hm with rfl | hm
      · split at h1 <;> split <;> omega
      · exact h2 m hm
    · rcases h3 with h3 | h3
      · by_cases c : a < n
        · right
          rw [if_pos c] at h3 ⊢
          rw [h3]
          exact List.mem_cons_self
        · left
          rw [if_neg c] at h3 ⊢
          exact h3
      · exact .inr (List.mem_cons_of_mem _ h3)
theorem mx_of {ns : List Int} {m : Int} (h0 : ∀ n ∈ ns, 0 ≤ n) (hm : m ∈ ns) (hle : ∀ y, y ∈ ns → y ≤ m) : m = mx ns := by
  obtain ⟨h1, h2, h3⟩ := foldmx ns 0
  have a := h2 m hm
  have b := h0 m hm
  unfold mx
  rcases h3 with h3 | h3
  · omega
  · have c := hle _ h3
    omega
theorem mx_take {ns : List Int} {i : Nat} {z : Int} (h : ns[i]? = some z) : mx (ns.take (i + 1)) = if mx (ns.take i) < z then z else mx (ns.take i) := by
  unfold mx
  rw [List.take_add_one, h, List.foldl_append]
  rfl
def sRow : Str := "row"
def sCol : Str := "col"
def szf (z : Str) (ps : List (Int × Int)) : Int × Int :=
  if ps = [] then (if z = sRow ∨ z = sCol then (0, 0) else ((z.length : Int), 1))
  else if z = sRow then ((ps.map (·.1)).sum, mx (ps.map (·.2))) else (mx (ps.map (·.1)), (ps.map (·.2)).sum)
/-- pairs -/
def pD (p : Int × Int) : PyData := .tuple [.int p.1, .int p.2]
theorem Rp.pair {M : Ms} {H : Hp} {v : V} {p : Int × Int} (h : Rp M H v (pD p)) : ∃ t, v = .ref t ∧ Rd H t (.tup [.int p.1, .int p.2]) := by
  cases h with
  | @tup a xs _ n s r =>
    cases r with
    | cons h1 h2 =>
      cases h2 with
      | cons h3 h4 =>
        cases h1
        cases h3
        cases h4
        exact ⟨a, rfl, s.rd⟩
theorem RpAll.pair {M : Ms} {H : Hp} {vs : List V} {ps : List (Int × Int)} {i : Nat} {v : V} (h : RpAll M H vs (ps.map pD)) (hv : vs[i]? = some v) : ∃ p t, ps[i]? = some p ∧ v = .ref t ∧ Rd H t (.tup [.int p.1, .int p.2]) := by
  obtain ⟨d, hd, hr⟩ := h.get hv
  rw [List.getElem?_map] at hd
  obtain ⟨p, hp, rfl⟩ := Option.map_eq_some_iff.mp hd
  obtain ⟨t, e, r⟩ := hr.pair
  exact ⟨p, t, hp, e, r⟩
theorem same_rd {H H' : Hp} {a : Addr} {u : HO} (s : Same H H') (h : Rd H a u) : Rd H' a u := sx_rd (M := fun _ => False) (Sx.same s) (fun z => z) h

/-! ### the layer's rules with the written part named, for comprehensions -/
section
variable {X : Cx} {K : PySem.W.Frag}
theorem ix_listK (h : X.K = K) : IxR X (rIxL K) := by subst h; exact ix_list
theorem ix_tupK (h : X.K = K) : IxR X (rIxT K) := by subst h; exact ix_tup
theorem sl_listK (h : X.K = K) : SlR X (rSlL K) := by subst h; exact sl_list
theorem sl_tupK (h : X.K = K) : SlR X (rSlA K) := by subst h; exact sl_tupA
theorem op_in_seqK (h : X.K = K) : OpR X (compareOp .In) (rIn K false) := by subst h; exact op_in_seq
theorem op_notIn_seqK (h : X.K = K) : OpR X (compareOp .NotIn) (rIn K true) := by subst h; exact op_notIn_seq
theorem op_catAK (h : X.K = K) : OpR X (binaryOp .Add) (rCatA K) := by subst h; exact op_catA
theorem op_eqDK (h : X.K = K) (hu : X.A.units + 64 < cLine) : OpR X (compareOp .Eq) (rEqD K) := by subst h; exact op_eqD hu
theorem op_neDK (h : X.K = K) (hu : X.A.units + 64 < cLine) : OpR X (compareOp .NotEq) (rNeD K) := by subst h; exact op_neD hu
def rLenS (K : PySem.W.Frag) : List V → Hp → VK → Prop := fun xs H Q => ∃ p ys, xs = [.ref p] ∧ (SqL K H p ys ∨ SqT K H p ys) ∧ Q (.int ys.length) H
theorem call_lenK (h : X.K = K) : CallR X (.builtin "len") (rLenS K) := by subst h; exact call_len_seq
def rListS (K : PySem.W.Frag) : List V → Hp → VK → Prop := fun xs H Q => ∃ p ys, xs = [.ref p] ∧ (SqL K H p ys ∨ SqT K H p ys) ∧ ∀ l, H l = none → Q (.ref l) (upd H l (.lst ys))
theorem call_listK (h : X.K = K) : CallR X (.type "list") (rListS K) := by subst h; exact call_list_of
def rTupS (K : PySem.W.Frag) : List V → Hp → VK → Prop := fun xs H Q => ∃ p ys, xs = [.ref p] ∧ ((SqL K H p ys ∧ ∀ l, H l = none → Q (.ref l) (upd H l (.tup ys))) ∨ (SqT K H p ys ∧ Q (.ref p) H))
theorem call_tupleK (h : X.K = K) : CallR X (.type "tuple") (rTupS K) := by subst h; exact call_tuple_of
theorem cr_sumK (h : X.K = K) (hc : X.calm = true) : CallR X (.builtin "sum") (rSum K) := by subst h; exact cr_sum hc
theorem cr_maxK (h : X.K = K) (hc : X.calm = true) : CallR X (.builtin "max") (rMax K) := by subst h; exact cr_max hc
theorem cr_minK (h : X.K = K) (hc : X.calm = true) : CallR X (.builtin "min") (rMin K) := by subst h; exact cr_min hc
theorem cr_anyK (h : X.K = K) (hc : X.calm = true) : CallR X (.builtin "any") (rAny K) := by subst h; exact cr_any hc
theorem cr_allK (h : X.K = K) (hc : X.calm = true) : CallR X (.builtin "all") (rAll K) := by subst h; exact cr_all hc
theorem call_isi1K (h : X.K = K) : CallR X (.builtin "isinstance") (rIsi K) := by subst h; exact call_isi
theorem call_isiTK (h : X.K = K) : CallR X (.builtin "isinstance") (rIsiT K) := by subst h; exact call_isiT
def tTruth (K : PySem.W.Frag) (ta : TE) : TT := fun σ H Q => ta σ H fun x H' => ∃ k, TruV K x H' k ∧ Q k H'
theorem pt_truthK {a : Expr} {ta : TE} (h : X.K = K) (ha : PE X a ta) (he : ∀ whole, isTrue a X.env whole = (do let v ← whole; standAt a.pos; holding [v] (truthy v))) : PT X a (tTruth K ta) := by subst h; exact pt_truth ha he
theorem pe_fldK {e : Expr} {f : Str} {pos : Pos} {ta : TE} (h : X.K = K) (he : PE X e ta) (hb : attributeBase e f X.env (eval e X.env) = eval e X.env) : PE X (.Attribute e f pos) (tFld K ta f) := by subst h; exact pe_fld he hb
theorem pi_listK {tg l : Expr} {tl : TE} (h : X.K = K) (hl : PE X l tl) : PI X tg l (iList K tl) := by subst h; exact pi_list hl
theorem pi_tupK {tg l : Expr} {tl : TE} (h : X.K = K) (hl : PE X l tl) : PI X tg l (iTup K tl) := by subst h; exact pi_tup hl
theorem pg_tupK {es : List Expr} {k : Nat} {t : TGs} {n : Nat} {pos : Pos} (hK : X.K = K) (hc : X.calm = true) (h : PGs X es t)
    (hn : (assignEach es X.env).length = n := by rfl) (hst : (assignEach es X.env).findIdx? (·.1) = none := by rfl) : PG X (.Tuple es k pos) (gTup K n t) := by subst hK; exact pg_tup hc h hn hst
theorem pi_enumK {e : Expr} {ta : TA} {p pos tpos : Pos} {elts : List Expr} {kk : Nat} (hK : X.K = K) (hg : Gl X "enumerate") (hm : X.mg "enumerate" = none) (ha : PA X [e] ta) (hs : starEach [e] X.env = [(false, eval e X.env)] := by rfl) :
    PI X (.Tuple elts kk tpos) (.Call (.Name "enumerate" p) [e] [] pos) (iEnum K ta) := by subst hK; exact pi_enum hg hm ha hs
theorem pi_zipK {e e2 : Expr} {ta : TA} {p pos tpos : Pos} {elts : List Expr} {kk : Nat} (hK : X.K = K) (hg : Gl X "zip") (hm : X.mg "zip" = none) (ha : PA X [e, e2] ta)
    (hs : starEach [e, e2] X.env = (false, eval e X.env) :: starEach [e2] X.env := by rfl) (hpl : (backTo pos (starEach [e2] X.env)).any (·.1) = false := by rfl) :
    PI X (.Tuple elts kk tpos) (.Call (.Name "zip" p) [e, e2] [] pos) (iZip K ta) := by subst hK; exact pi_zip hg hm ha hs hpl
end

/-- a comprehension over a list whose elements make nothing -/
theorem lc_vals {K : PySem.W.Frag} {a : Addr} {xs ys : List V} {g : TG} {tt : TT} {te : TE} {vs : List Nat} {σ : L2.St} {H : Hp} {D : Addr} {Qd : Hp → Prop} (hD : H D = none) (hS : SqL K H a xs) (hn : ys.length = xs.length) (hz : xs.length ≤ 1000000)
    (hs : ∀ (i : Nat) (x y : V) (H' : Hp) (C : VK) (N : Hp → Prop), xs[i]? = some x → ys[i]? = some y → Same H H' → C y H' → g x (wipe σ vs) H' fun σ2 H2 => wipe σ2 vs = wipe σ vs ∧ tt σ2 H2 fun b H3 => if b = true then te σ2 H3 C else N H3)
    (hd : ∀ H', Same H H' → H' D = some (.lst ys) → Qd H') :
    ∃ W : Nat → Nat → Hp → Prop, (∃ m, W 0 m (upd H D (.lst []))) ∧ ∀ i m H, W i m H →
      ((Itl K a).stop i H ∧ Qd H) ∨ ((Itl K a).go i H ∧ ∃ Nx : Hp → Prop, (∀ H', Nx H' → ∃ m', m' < m ∧ W (i + 1) m' H') ∧ ∀ x H', (Itl K a).yld i H x H' → g x (wipe σ vs) H' fun σ2 H2 => wipe σ2 vs = wipe σ vs ∧ tt σ2 H2 fun b H3 =>
        if b = true then te σ2 H3 fun y H4 => ∃ acc, H4 D = some (.lst acc) ∧ acc.length < sizeLine ∧ Nx (upd H4 D (.lst (acc ++ [y]))) else Nx H3) := by
  refine lc_list (K := K) (a := a) (xs := xs) (fun i H' => Same H H' ∧ H' D = some (.lst (ys.take i))) ⟨same_new hD, by rw [upd_same]; rfl⟩ (fun i H' _ p => p.1.seq hS) (fun i x H' hx p => ?_) (fun H' p => ?_)
  · have hi : i < ys.length := by
      rw [hn]
      exact (List.getElem?_eq_some_iff.mp hx).1
    refine hs i x ys[i] H' _ _ hx (List.getElem?_eq_getElem hi) p.1 ⟨_, p.2, ?_, fun c o e => ?_, ?_⟩
    · rw [List.length_take]
      exact small1000000 (by omega)
    · rw [upd_ne (ne_of_none e hD)]
      exact p.1 c o e
    · rw [upd_same, List.take_add_one, List.getElem?_eq_getElem hi]
      rfl
  · refine hd H' p.1 ?_
    have e := p.2
    rw [← hn, List.take_length] at e
    exact e
theorem same_sqt {K : PySem.W.Frag} {H H' : Hp} {a : Addr} {xs : List V} (s : Same H H') (h : SqT K H a xs) : SqT K H' a xs := sx_t (M := fun _ => False) (Sx.same s) (fun z => z) h
/-- a comprehension over a tuple whose elements make nothing -/
theorem lc_valsT {K : PySem.W.Frag} {a : Addr} {xs ys : List V} {g : TG} {tt : TT} {te : TE} {vs : List Nat} {σ : L2.St} {H : Hp} {D : Addr} {Qd : Hp → Prop} (hD : H D = none) (hS : SqT K H a xs) (hn : ys.length = xs.length) (hz : xs.length ≤ 1000000)
    (hs : ∀ (i : Nat) (x y : V) (H' : Hp) (C : VK) (N : Hp → Prop), xs[i]? = some x → ys[i]? = some y → Same H H' → C y H' → g x (wipe σ vs) H' fun σ2 H2 => wipe σ2 vs = wipe σ vs ∧ tt σ2 H2 fun b H3 => if b = true then te σ2 H3 C else N H3)
    (hd : ∀ H', Same H H' → H' D = some (.lst ys) → Qd H') :
    ∃ W : Nat → Nat → Hp → Prop, (∃ m, W 0 m (upd H D (.lst []))) ∧ ∀ i m H, W i m H →
      ((Itt K a).stop i H ∧ Qd H) ∨ ((Itt K a).go i H ∧ ∃ Nx : Hp → Prop, (∀ H', Nx H' → ∃ m', m' < m ∧ W (i + 1) m' H') ∧ ∀ x H', (Itt K a).yld i H x H' → g x (wipe σ vs) H' fun σ2 H2 => wipe σ2 vs = wipe σ vs ∧ tt σ2 H2 fun b H3 =>
        if b = true then te σ2 H3 fun y H4 => ∃ acc, H4 D = some (.lst acc) ∧ acc.length < sizeLine ∧ Nx (upd H4 D (.lst (acc ++ [y]))) else Nx H3) := by
  refine lc_tup (K := K) (a := a) (xs := xs) (fun i H' => Same H H' ∧ H' D = some (.lst (ys.take i))) ⟨same_new hD, by rw [upd_same]; rfl⟩ (fun i H' _ p => same_sqt p.1 hS) (fun i x H' hx p => ?_) (fun H' p => ?_)
  · have hi : i < ys.length := by
      rw [hn]
      exact (List.getElem?_eq_some_iff.mp hx).1
    refine hs i x ys[i] H' _ _ hx (List.getElem?_eq_getElem hi) p.1 ⟨_, p.2, ?_, fun c o e => ?_, ?_⟩
    · rw [List.length_take]
      exact small1000000 (by omega)
    · rw [upd_ne (ne_of_none e hD)]
      exact p.1 c o e
    · rw [upd_same, List.take_add_one, List.getElem?_eq_getElem hi]
      rfl
  · refine hd H' p.1 ?_
    have e := p.2
    rw [← hn, List.take_length] at e
    exact e

/-- two ways meet behind an if without else -/
theorem join2 {b : Bool} {A : Prop} {N : L2.St → Hp → Prop} {σ : L2.St} {H : Hp} (Pv : L2.St → Hp → Prop) (h1 : b = true → (∀ σ H, Pv σ H → N σ H) → A) (h2 : b = false → Pv σ H) (hN : ∀ σ H, Pv σ H → N σ H) : if b = true then A else N σ H := by
  cases b with
  | true =>
    rw [if_pos rfl]
    exact h1 rfl hN
  | false =>
    rw [if_neg Bool.false_ne_true]
    exact hN _ _ (h2 rfl)


theorem RpAll.rep {M : Ms} {H : Hp} {xs : List V} {ds : List PyData} (h : RpAll M H xs ds) : ∀ n : Nat, RpAll M H (List.replicate n xs).flatten (List.replicate n ds).flatten
  | 0 => .nil
  | n + 1 => by
    rw [List.replicate_succ, List.replicate_succ, List.flatten_cons, List.flatten_cons]
    exact h.append (RpAll.rep h n)
theorem Bag.same {K : PySem.W.Frag} {M : Ms} {H H' : Hp} {b : Addr} (h : Bag K M H b) (s : Same H H') : Bag K M H' b := h.keep (N := fun _ => False) (Sx.same s) (fun z => z) (fun _ z => z.elim)
/-- a list of data that may still be written -/
def Ld (M : Ms) (H : Hp) (a : Addr) (ds : List PyData) : Prop := ¬ M a ∧ ∃ xs, H a = some (.lst xs) ∧ RpAll M H xs ds
theorem Ld.rp {M : Ms} {H : Hp} {a : Addr} {ds : List PyData} (h : Ld M H a ds) : Rp M H (.ref a) (.list ds) := by
  obtain ⟨n, xs, e, r⟩ := h
  exact .lst n (.inl e) r
theorem Ld.sx {M : Ms} {H H' : Hp} {a : Addr} {ds : List PyData} (h : Ld M H a ds) (s : Sx M H H') : Ld M H' a ds := by
  obtain ⟨n, xs, e, r⟩ := h
  exact ⟨n, xs, s _ _ n e, r.sx s⟩
theorem Ld.new {M : Ms} {H : Hp} {a : Addr} {xs : List V} {ds : List PyData} (m : Mk M H) (h : H a = none) (r : RpAll M H xs ds) : Ld M (upd H a (.lst xs)) a ds := ⟨m.out h, xs, upd_same, r.sx (Sx.new h)⟩
/-- a comprehension over a list: each element a datum, made on the way -/
theorem lc_data {K : PySem.W.Frag} {a : Addr} {xs : List V} {ys : List PyData} {g : TG} {tt : TT} {te : TE} {vs : List Nat} {σ : L2.St} {H : Hp} {D : Addr} {Qd : Hp → Prop} (M : Ms) (hM : Mk M H) (hD : H D = none) (hS : SqL K H a xs) (hn : ys.length = xs.length) (hz : xs.length ≤ 1000000)
    (hs : ∀ (i : Nat) (x : V) (y : PyData) (H' : Hp) (C : VK) (N : Hp → Prop), xs[i]? = some x → ys[i]? = some y → Same H H' → Mk (also M D) H' → (∀ v H2, Same H' H2 → Rp (also M D) H2 v y → C v H2) → g x (wipe σ vs) H' fun σ2 H2 => wipe σ2 vs = wipe σ vs ∧ tt σ2 H2 fun b H3 => if b = true then te σ2 H3 C else N H3)
    (hd : ∀ H', Same H H' → Ld M H' D ys → Qd H') :
    ∃ W : Nat → Nat → Hp → Prop, (∃ m, W 0 m (upd H D (.lst []))) ∧ ∀ i m H, W i m H →
      ((Itl K a).stop i H ∧ Qd H) ∨ ((Itl K a).go i H ∧ ∃ Nx : Hp → Prop, (∀ H', Nx H' → ∃ m', m' < m ∧ W (i + 1) m' H') ∧ ∀ x H', (Itl K a).yld i H x H' → g x (wipe σ vs) H' fun σ2 H2 => wipe σ2 vs = wipe σ vs ∧ tt σ2 H2 fun b H3 =>
        if b = true then te σ2 H3 fun y H4 => ∃ acc, H4 D = some (.lst acc) ∧ acc.length < sizeLine ∧ Nx (upd H4 D (.lst (acc ++ [y]))) else Nx H3) := by
  refine lc_list (K := K) (a := a) (xs := xs) (fun i H' => Same H H' ∧ ∃ acc, H' D = some (.lst acc) ∧ RpAll (also M D) H' acc (ys.take i)) ⟨same_new hD, [], upd_same, by rw [List.take_zero]; exact .nil⟩ (fun i H' _ p => p.1.seq hS) (fun i x H' hx p => ?_) (fun H' p => ?_)
  · obtain ⟨s, acc, e, r⟩ := p
    have hi : i < ys.length := by
      rw [hn]
      exact (List.getElem?_eq_some_iff.mp hx).1
    have hl := r.length
    rw [List.length_take] at hl
    refine hs i x ys[i] H' _ _ hx (List.getElem?_eq_getElem hi) s ((hM.gr (Gr.same s)).also (ne_none e)) fun v H2 s2 rv => ?_
    refine ⟨acc, s2 _ _ e, small1000000 (by omega), fun c o q => ?_, acc ++ [v], upd_same, ?_⟩
    · rw [upd_ne (ne_of_none q hD)]
      exact s2 _ _ (s c o q)
    · rw [List.take_add_one, List.getElem?_eq_getElem hi]
      exact ((r.sx (Sx.same s2)).append (.one rv)).sx (Sx.put (.inr rfl))
  · obtain ⟨s, acc, e, r⟩ := p
    rw [← hn, List.take_length] at r
    exact hd H' s ⟨hM.out hD, acc, e, r.less also_le⟩

theorem cut_hi (xs : List V) (n : Nat) : cutV xs none (some (n : Int)) = xs.take n := by
  unfold cutV
  rw [show HT.sIx xs.length 0 none = 0 from HT.sIx_none .., show HT.sIx xs.length xs.length (some (n : Int)) = min n xs.length from HT.sIx_nat _ _ n, List.drop_zero, Nat.sub_zero]
  rw [List.take_eq_take_iff]
  omega

theorem szK {n : Nat} (h : Nat.ble n 1000 = true) : n ≤ sizeLine := Nat.le_of_lt (small1000 (Nat.le_of_ble_eq_true h))

/-- what holds behind a statement, said once for all its ways -/
theorem seq_join {t u : TS} {D : Ends} {σ : L2.St} {H : Hp} (Pv : L2.St → Hp → Prop) (h : (∀ σ H, Pv σ H → u D σ H) → t { D with nx := u D } σ H) (hN : ∀ σ H, Pv σ H → u D σ H) : tSeq t u D σ H := h hN

theorem lc_str {z : Str} {g : TG} {tt : TT} {te : TE} {vs : List Nat} {σ : L2.St} {H1 : Hp} {D : Addr} {Qd : Hp → Prop} (Pv : Nat → Hp → Prop) (h0 : Pv 0 (upd H1 D (.lst [])))
    (hs : ∀ i c H, z.cps[i]? = some c → Pv i H → g (.str ⟨#[c]⟩) (wipe σ vs) H fun σ2 H2 => wipe σ2 vs = wipe σ vs ∧ tt σ2 H2 fun b H3 =>
      if b = true then te σ2 H3 fun y H4 => ∃ acc, H4 D = some (.lst acc) ∧ acc.length < sizeLine ∧ Pv (i + 1) (upd H4 D (.lst (acc ++ [y]))) else Pv (i + 1) H3) (hd : ∀ H, Pv z.cps.size H → Qd H) :
    ∃ W : Nat → Nat → Hp → Prop, (∃ m, W 0 m (upd H1 D (.lst []))) ∧ ∀ i m H, W i m H →
      ((Its z).stop i H ∧ Qd H) ∨ ((Its z).go i H ∧ ∃ Nx : Hp → Prop, (∀ H', Nx H' → ∃ m', m' < m ∧ W (i + 1) m' H') ∧ ∀ x H', (Its z).yld i H x H' → g x (wipe σ vs) H' fun σ2 H2 => wipe σ2 vs = wipe σ vs ∧ tt σ2 H2 fun b H3 =>
        if b = true then te σ2 H3 fun y H4 => ∃ acc, H4 D = some (.lst acc) ∧ acc.length < sizeLine ∧ Nx (upd H4 D (.lst (acc ++ [y]))) else Nx H3) := by
  refine ⟨fun i m H => m = z.cps.size - i ∧ i ≤ z.cps.size ∧ Pv i H, ⟨_, rfl, Nat.zero_le _, h0⟩, ?_⟩
  rintro i m H ⟨rfl, hi, p⟩
  by_cases hlt : i < z.cps.size
  · refine .inr ⟨hlt, Pv (i + 1), fun H' p' => ⟨z.cps.size - (i + 1), by omega, rfl, hlt, p'⟩, fun x H' y => ?_⟩
    obtain ⟨e, c, hc, rfl⟩ := y
    subst e
    exact hs i c _ hc p
  · have e : i = z.cps.size := by omega
    subst e
    exact .inl ⟨Nat.le_refl _, hd H p⟩
/-- a comprehension over a text whose elements make nothing -/
theorem lc_valsS {z : Str} {ys : List V} {g : TG} {tt : TT} {te : TE} {vs : List Nat} {σ : L2.St} {H : Hp} {D : Addr} {Qd : Hp → Prop} (hD : H D = none) (hn : ys.length = z.cps.size) (hz : z.cps.size ≤ 1000000)
    (hs : ∀ (i : Nat) (c : Nat) (y : V) (H' : Hp) (C : VK) (N : Hp → Prop), z.cps[i]? = some c → ys[i]? = some y → Same H H' → C y H' → g (.str ⟨#[c]⟩) (wipe σ vs) H' fun σ2 H2 => wipe σ2 vs = wipe σ vs ∧ tt σ2 H2 fun b H3 => if b = true then te σ2 H3 C else N H3)
    (hd : ∀ H', Same H H' → H' D = some (.lst ys) → Qd H') :
    ∃ W : Nat → Nat → Hp → Prop, (∃ m, W 0 m (upd H D (.lst []))) ∧ ∀ i m H, W i m H →
      ((Its z).stop i H ∧ Qd H) ∨ ((Its z).go i H ∧ ∃ Nx : Hp → Prop, (∀ H', Nx H' → ∃ m', m' < m ∧ W (i + 1) m' H') ∧ ∀ x H', (Its z).yld i H x H' → g x (wipe σ vs) H' fun σ2 H2 => wipe σ2 vs = wipe σ vs ∧ tt σ2 H2 fun b H3 =>
        if b = true then te σ2 H3 fun y H4 => ∃ acc, H4 D = some (.lst acc) ∧ acc.length < sizeLine ∧ Nx (upd H4 D (.lst (acc ++ [y]))) else Nx H3) := by
  refine lc_str (z := z) (fun i H' => Same H H' ∧ H' D = some (.lst (ys.take i))) ⟨same_new hD, by rw [upd_same]; rfl⟩ (fun i c H' hc p => ?_) (fun H' p => ?_)
  · have hi : i < ys.length := by
      rw [hn]
      exact (Array.getElem?_eq_some_iff.mp hc).1
    refine hs i c ys[i] H' _ _ hc (List.getElem?_eq_getElem hi) p.1 ⟨_, p.2, ?_, fun c o e => ?_, ?_⟩
    · rw [List.length_take]
      exact small1000000 (by omega)
    · rw [upd_ne (ne_of_none e hD)]
      exact p.1 c o e
    · rw [upd_same, List.take_add_one, List.getElem?_eq_getElem hi]
      rfl
  · refine hd H' p.1 ?_
    have e := p.2
    rw [← hn, List.take_length] at e
    exact e

theorem cut1 (y : V) (r : List V) : cutV (y :: r) (some 1) none = r := by
  unfold cutV
  rw [show HT.sIx (y :: r).length 0 (some 1) = min 1 (y :: r).length from HT.sIx_nat (y :: r).length 0 1, HT.sIx_none]
  rw [show min 1 (y :: r).length = 1 by
      rw [List.length_cons]
      omega]
  show List.take ((y :: r).length - 1) r = r
  rw [List.length_cons, Nat.add_sub_cancel]
  exact List.take_length

theorem rd_ty {K : PySem.W.Frag} {H : Hp} {a : Addr} {xs : List V} (h : Rd H a (.tup xs)) : TyX K H (.ref a) (.type "tuple") := by
  rcases h with h | ⟨o, h⟩
  · exact .base (.tup h)
  · exact .fTuple h
/-- a comprehension over a tuple: each element a datum, made on the way -/
theorem lc_dataT {K : PySem.W.Frag} {a : Addr} {xs : List V} {ys : List PyData} {g : TG} {tt : TT} {te : TE} {vs : List Nat} {σ : L2.St} {H : Hp} {D : Addr} {Qd : Hp → Prop} (M : Ms) (hM : Mk M H) (hD : H D = none) (hS : SqT K H a xs) (hn : ys.length = xs.length) (hz : xs.length ≤ 1000000)
    (hs : ∀ (i : Nat) (x : V) (y : PyData) (H' : Hp) (C : VK) (N : Hp → Prop), xs[i]? = some x → ys[i]? = some y → Same H H' → Mk (also M D) H' → (∀ v H2, Same H' H2 → Rp (also M D) H2 v y → C v H2) → g x (wipe σ vs) H' fun σ2 H2 => wipe σ2 vs = wipe σ vs ∧ tt σ2 H2 fun b H3 => if b = true then te σ2 H3 C else N H3)
    (hd : ∀ H', Same H H' → Ld M H' D ys → Qd H') :
    ∃ W : Nat → Nat → Hp → Prop, (∃ m, W 0 m (upd H D (.lst []))) ∧ ∀ i m H, W i m H →
      ((Itt K a).stop i H ∧ Qd H) ∨ ((Itt K a).go i H ∧ ∃ Nx : Hp → Prop, (∀ H', Nx H' → ∃ m', m' < m ∧ W (i + 1) m' H') ∧ ∀ x H', (Itt K a).yld i H x H' → g x (wipe σ vs) H' fun σ2 H2 => wipe σ2 vs = wipe σ vs ∧ tt σ2 H2 fun b H3 =>
        if b = true then te σ2 H3 fun y H4 => ∃ acc, H4 D = some (.lst acc) ∧ acc.length < sizeLine ∧ Nx (upd H4 D (.lst (acc ++ [y]))) else Nx H3) := by
  refine lc_tup (K := K) (a := a) (xs := xs) (fun i H' => Same H H' ∧ ∃ acc, H' D = some (.lst acc) ∧ RpAll (also M D) H' acc (ys.take i)) ⟨same_new hD, [], upd_same, by rw [List.take_zero]; exact .nil⟩ (fun i H' _ p => same_sqt p.1 hS) (fun i x H' hx p => ?_) (fun H' p => ?_)
  · obtain ⟨s, acc, e, r⟩ := p
    have hi : i < ys.length := by
      rw [hn]
      exact (List.getElem?_eq_some_iff.mp hx).1
    have hl := r.length
    rw [List.length_take] at hl
    refine hs i x ys[i] H' _ _ hx (List.getElem?_eq_getElem hi) s ((hM.gr (Gr.same s)).also (ne_none e)) fun v H2 s2 rv => ?_
    refine ⟨acc, s2 _ _ e, small1000000 (by omega), fun c o q => ?_, acc ++ [v], upd_same, ?_⟩
    · rw [upd_ne (ne_of_none q hD)]
      exact s2 _ _ (s c o q)
    · rw [List.take_add_one, List.getElem?_eq_getElem hi]
      exact ((r.sx (Sx.same s2)).append (.one rv)).sx (Sx.put (.inr rfl))
  · obtain ⟨s, acc, e, r⟩ := p
    rw [← hn, List.take_length] at r
    exact hd H' s ⟨hM.out hD, acc, e, r.less also_le⟩


/-- a list that is made beside stays away -/
theorem same_put {H H' : Hp} {p : Addr} {o : HO} (s : Same H H') (h : H p = none) : Same H (upd H' p o) := fun a u e => by
  rw [upd_ne (ne_of_none e h)]
  exact s a u e
end D

namespace D
open PySem PySem.Spec PyProof.Rows L2
/-! ### forms -/
inductive Fm where
  | is (n : Int) | get (x : Str) | sum (f g : Fm) | same (f g : Fm) | pick (f g h : Fm)
def sIs : Str := "is"
def sGet : Str := "get"
def sSum : Str := "sum"
def sSame : Str := "same"
def sPick : Str := "pick"
namespace Fm
def word : Fm → Str
  | .is _ => sIs | .get _ => sGet | .sum _ _ => sSum | .same _ _ => sSame | .pick _ _ _ => sPick
def enc : Fm → PyData
  | .is n => .tuple [.str sIs, .int n]
  | .get x => .tuple [.str sGet, .str x]
  | .sum f g => .tuple [.str sSum, f.enc, g.enc]
  | .same f g => .tuple [.str sSame, f.enc, g.enc]
  | .pick f g h => .tuple [.str sPick, f.enc, g.enc, h.enc]
def subs : Fm → List Fm
  | .is _ => [] | .get _ => [] | .sum f g => [f, g] | .same f g => [f, g] | .pick f g h => [f, g, h]
def dep : Fm → Nat
  | .is _ => 1 | .get _ => 1
  | .sum f g => max f.dep g.dep + 1 | .same f g => max f.dep g.dep + 1
  | .pick f g h => max f.dep (max g.dep h.dep) + 1
def size : Fm → Nat
  | .is _ => 1 | .get _ => 1
  | .sum f g => f.size + g.size + 1 | .same f g => f.size + g.size + 1
  | .pick f g h => f.size + g.size + h.size + 1
def val (ρ : Str → Int) : Fm → Int
  | .is n => n | .get x => ρ x
  | .sum f g => (f.val ρ + g.val ρ) % 10
  | .same f g => if f.val ρ = g.val ρ then 1 else 0
  | .pick f g h => if f.val ρ = 0 then h.val ρ else g.val ρ
def ok (nm : Str → Prop) : Fm → Prop
  | .is n => 0 ≤ n ∧ n ≤ 9 | .get x => nm x
  | .sum f g => f.ok nm ∧ g.ok nm | .same f g => f.ok nm ∧ g.ok nm
  | .pick f g h => f.ok nm ∧ g.ok nm ∧ h.ok nm
theorem dep_pos : ∀ f : Fm, 1 ≤ f.dep
  | .is _ => Nat.le_refl _ | .get _ => Nat.le_refl _
  | .sum f g => by show 1 ≤ max f.dep g.dep + 1; omega
  | .same f g => by show 1 ≤ max f.dep g.dep + 1; omega
  | .pick f g h => by show 1 ≤ max f.dep (max g.dep h.dep) + 1; omega
theorem val_range {ρ : Str → Int} {nm : Str → Prop} (h : ∀ x, nm x → 0 ≤ ρ x ∧ ρ x ≤ 9) : ∀ f : Fm, f.ok nm → 0 ≤ f.val ρ ∧ f.val ρ ≤ 9
  | .is n, o => o
  | .get x, o => h x o
  | .sum f g, o => by
    show 0 ≤ (f.val ρ + g.val ρ) % 10 ∧ (f.val ρ + g.val ρ) % 10 ≤ 9
    omega
  | .same f g, o => by
    show 0 ≤ (if f.val ρ = g.val ρ then (1 : Int) else 0) ∧ (if f.val ρ = g.val ρ then (1 : Int) else 0) ≤ 9
    split <;> decide
  | .pick f g k, o => by
    show 0 ≤ (if f.val ρ = 0 then k.val ρ else g.val ρ) ∧ (if f.val ρ = 0 then k.val ρ else g.val ρ) ≤ 9
    split
    · exact val_range h k o.2.2
    · exact val_range h g o.2.1
end Fm
section
variable {M : Ms} {H : Hp} {v : V}
theorem Rp.tupN {ds : List PyData} (h : Rp M H v (.tuple ds)) : ∃ a xs, v = .ref a ∧ ¬ M a ∧ Rd H a (.tup xs) ∧ RpAll M H xs ds := by
  cases h with
  | @tup a xs _ n s r => exact ⟨a, xs, rfl, n, s.rd, r⟩
theorem Rp.tupX {ds : List PyData} (h : Rp M H v (.tuple ds)) : ∃ a xs, v = .ref a ∧ ¬ M a ∧ H a = some (.tup xs) ∧ RpAll M H xs ds := by
  cases h with
  | @tup a xs _ n s r => exact ⟨a, xs, rfl, n, s.at, r⟩
theorem Rp.lstN {ds : List PyData} (h : Rp M H v (.list ds)) : ∃ a xs, v = .ref a ∧ ¬ M a ∧ Rd H a (.lst xs) ∧ RpAll M H xs ds := by
  cases h with
  | @lst a xs _ n s r => exact ⟨a, xs, rfl, n, s, r⟩
theorem Rp.int_inv {i : Int} (h : Rp M H v (.int i)) : v = .int i := by cases h; rfl
theorem Rp.str_inv {x : Str} (h : Rp M H v (.str x)) : v = .str x := by cases h; rfl
theorem RpAll.inv1 {xs : List V} {d1 : PyData} (h : RpAll M H xs [d1]) : ∃ v1, xs = [v1] ∧ Rp M H v1 d1 := by
  cases h with | cons h1 h2 => cases h2; exact ⟨_, rfl, h1⟩
theorem RpAll.inv2 {xs : List V} {d1 d2 : PyData} (h : RpAll M H xs [d1, d2]) : ∃ v1 v2, xs = [v1, v2] ∧ Rp M H v1 d1 ∧ Rp M H v2 d2 := by
  cases h with | cons h1 h2 => obtain ⟨v2, rfl, r2⟩ := h2.inv1; exact ⟨_, _, rfl, h1, r2⟩
theorem RpAll.inv3 {xs : List V} {d1 d2 d3 : PyData} (h : RpAll M H xs [d1, d2, d3]) : ∃ v1 v2 v3, xs = [v1, v2, v3] ∧ Rp M H v1 d1 ∧ Rp M H v2 d2 ∧ Rp M H v3 d3 := by
  cases h with | cons h1 h2 => obtain ⟨v2, v3, rfl, r2, r3⟩ := h2.inv2; exact ⟨_, _, _, rfl, h1, r2, r3⟩
theorem RpAll.inv4 {xs : List V} {d1 d2 d3 d4 : PyData} (h : RpAll M H xs [d1, d2, d3, d4]) : ∃ v1 v2 v3 v4, xs = [v1, v2, v3, v4] ∧ Rp M H v1 d1 ∧ Rp M H v2 d2 ∧ Rp M H v3 d3 ∧ Rp M H v4 d4 := by
  cases h with | cons h1 h2 => obtain ⟨v2, v3, v4, rfl, r2, r3, r4⟩ := h2.inv3; exact ⟨_, _, _, _, rfl, h1, r2, r3, r4⟩
/-- what stands of a form -/
inductive FmAt (M : Ms) (H : Hp) : Fm → List V → Prop
  | is (n : Int) : FmAt M H (.is n) [.str sIs, .int n]
  | get (x : Str) : FmAt M H (.get x) [.str sGet, .str x]
  | sum {f g : Fm} {u w : V} (a : Rp M H u f.enc) (b : Rp M H w g.enc) : FmAt M H (.sum f g) [.str sSum, u, w]
  | same {f g : Fm} {u w : V} (a : Rp M H u f.enc) (b : Rp M H w g.enc) : FmAt M H (.same f g) [.str sSame, u, w]
  | pick {f g h : Fm} {u w z : V} (a : Rp M H u f.enc) (b : Rp M H w g.enc) (c : Rp M H z h.enc) : FmAt M H (.pick f g h) [.str sPick, u, w, z]
theorem Rp.form {f : Fm} (h : Rp M H v f.enc) : ∃ a xs, v = .ref a ∧ ¬ M a ∧ Rd H a (.tup xs) ∧ FmAt M H f xs := by
  cases f with
  | is n =>
    obtain ⟨a, xs, rfl, n, s, r⟩ := Rp.tupN h
    obtain ⟨v1, v2, rfl, r1, r2⟩ := r.inv2
    cases r1; cases r2
    exact ⟨a, _, rfl, n, s, .is _⟩
  | get x =>
    obtain ⟨a, xs, rfl, n, s, r⟩ := Rp.tupN h
    obtain ⟨v1, v2, rfl, r1, r2⟩ := r.inv2
    cases r1; cases r2
    exact ⟨a, _, rfl, n, s, .get _⟩
  | sum f g =>
    obtain ⟨a, xs, rfl, n, s, r⟩ := Rp.tupN h
    obtain ⟨v1, v2, v3, rfl, r1, r2, r3⟩ := r.inv3
    cases r1
    exact ⟨a, _, rfl, n, s, .sum r2 r3⟩
  | same f g =>
    obtain ⟨a, xs, rfl, n, s, r⟩ := Rp.tupN h
    obtain ⟨v1, v2, v3, rfl, r1, r2, r3⟩ := r.inv3
    cases r1
    exact ⟨a, _, rfl, n, s, .same r2 r3⟩
  | pick f g k =>
    obtain ⟨a, xs, rfl, n, s, r⟩ := Rp.tupN h
    obtain ⟨v1, v2, v3, v4, rfl, r1, r2, r3, r4⟩ := r.inv4
    cases r1
    exact ⟨a, _, rfl, n, s, .pick r2 r3 r4⟩
theorem FmAt.rp {f : Fm} {xs : List V} {a : Addr} (h : FmAt M H f xs) (n : ¬ M a) (s : RdT H a xs) : Rp M H (.ref a) f.enc := by
  cases h with
  | is k => exact .tup n s (.cons (.str _) (.one (.int _)))
  | get x => exact .tup n s (.cons (.str _) (.one (.str _)))
  | sum a b => exact .tup n s (.cons (.str _) (.cons a (.one b)))
  | same a b => exact .tup n s (.cons (.str _) (.cons a (.one b)))
  | pick a b c => exact .tup n s (.cons (.str _) (.cons a (.cons b (.one c))))
end

/-! ### names -/
def isNm (x : Str) : Prop := 1 ≤ x.length ∧ x.length ≤ 8 ∧ ∀ c ∈ x.cps.toList, 97 ≤ c ∧ c ≤ 122
def addN (acc : List Str) (n : Str) : List Str := if n ∈ acc then acc else acc ++ [n]
def Fm.names : Fm → List Str
  | .is _ => [] | .get x => [x]
  | .sum f g => g.names.foldl addN (f.names.foldl addN [])
  | .same f g => g.names.foldl addN (f.names.foldl addN [])
  | .pick f g h => h.names.foldl addN (g.names.foldl addN (f.names.foldl addN []))
theorem addN_mem {acc : List Str} {n x : Str} (h : x ∈ addN acc n) : x ∈ acc ∨ x = n := by
  unfold addN at h
  split at h
  · exact .inl h
  · rcases List.mem_append.mp h with h | h
    · exact .inl h
    · exact .inr (List.mem_singleton.mp h)
theorem addsN_mem : ∀ (ns acc : List Str) (x : Str), x ∈ ns.foldl addN acc → x ∈ acc ∨ x ∈ ns
  | [], acc, x, h => .inl h
  | n :: r, acc, x, h => by
    rcases addsN_mem r (addN acc n) x h with h | h
    · rcases addN_mem h with h | h
      · exact .inl h
      · exact .inr (by rw [h]; exact List.mem_cons_self)
    · exact .inr (List.mem_cons_of_mem _ h)
theorem Fm.names_ok {nm : Str → Prop} : ∀ f : Fm, f.ok nm → ∀ x ∈ f.names, nm x
  | .is _, _, x, h => nomatch h
  | .get y, o, x, h => by rw [List.mem_singleton.mp h]; exact o
  | .sum f g, o, x, h => by
    rcases addsN_mem _ _ _ h with h | h
    · rcases addsN_mem _ _ _ h with h | h
      · exact nomatch h
      · exact f.names_ok o.1 x h
    · exact g.names_ok o.2 x h
  | .same f g, o, x, h => by
    rcases addsN_mem _ _ _ h with h | h
    · rcases addsN_mem _ _ _ h with h | h
      · exact nomatch h
      · exact f.names_ok o.1 x h
    · exact g.names_ok o.2 x h
  | .pick f g k, o, x, h => by
    rcases addsN_mem _ _ _ h with h | h
    · rcases addsN_mem _ _ _ h with h | h
      · rcases addsN_mem _ _ _ h with h | h
        · exact nomatch h
        · exact f.names_ok o.1 x h
      · exact g.names_ok o.2.1 x h
    · exact k.names_ok o.2.2 x h
theorem addN_len (acc : List Str) (n : Str) : (addN acc n).length ≤ acc.length + 1 := by
  unfold addN
  split
  · omega
  · rw [List.length_append]
    exact Nat.le_refl _
theorem addsN_len : ∀ (ns acc : List Str), (ns.foldl addN acc).length ≤ acc.length + ns.length
  | [], acc => Nat.le_refl _
  | n :: r, acc => by
    have h1 := addsN_len r (addN acc n)
    have h2 := addN_len acc n
    show (r.foldl addN (addN acc n)).length ≤ acc.length + (r.length + 1)
    omega
theorem Fm.names_len : ∀ f : Fm, f.names.length ≤ f.size
  | .is _ => Nat.zero_le _
  | .get _ => Nat.le_refl _
  | .sum f g => by
    have h1 := f.names_len; have h2 := g.names_len; have h3 := addsN_len f.names []; have h4 := addsN_len g.names (f.names.foldl addN [])
    show (g.names.foldl addN (f.names.foldl addN [])).length ≤ f.size + g.size + 1
    rw [List.length_nil] at h3
    omega
  | .same f g => by
    have h1 := f.names_len; have h2 := g.names_len; have h3 := addsN_len f.names []; have h4 := addsN_len g.names (f.names.foldl addN [])
    show (g.names.foldl addN (f.names.foldl addN [])).length ≤ f.size + g.size + 1
    rw [List.length_nil] at h3
    omega
  | .pick f g k => by
    have h1 := f.names_len; have h2 := g.names_len; have h3 := addsN_len f.names []; have h4 := addsN_len g.names (f.names.foldl addN [])
    have h5 := k.names_len; have h6 := addsN_len k.names (g.names.foldl addN (f.names.foldl addN []))
    show (k.names.foldl addN (g.names.foldl addN (f.names.foldl addN []))).length ≤ f.size + g.size + k.size + 1
    rw [List.length_nil] at h3
    omega
theorem Fm.size_le : ∀ (d : Nat) (f : Fm), f.dep ≤ d → f.size ≤ 4 ^ d
  | 0, f, h => absurd f.dep_pos (by omega)
  | d + 1, .is _, _ => Nat.pow_pos (by decide)
  | d + 1, .get _, _ => Nat.pow_pos (by decide)
  | d + 1, .sum f g, h => by
    have h0 : max f.dep g.dep + 1 ≤ d + 1 := h
    have h1 := Fm.size_le d f (by omega)
    have h2 := Fm.size_le d g (by omega)
    have h3 : 1 ≤ 4 ^ d := Nat.pow_pos (by decide)
    show f.size + g.size + 1 ≤ 4 ^ d * 4
    omega
  | d + 1, .same f g, h => by
    have h0 : max f.dep g.dep + 1 ≤ d + 1 := h
    have h1 := Fm.size_le d f (by omega)
    have h2 := Fm.size_le d g (by omega)
    have h3 : 1 ≤ 4 ^ d := Nat.pow_pos (by decide)
    show f.size + g.size + 1 ≤ 4 ^ d * 4
    omega
  | d + 1, .pick f g k, h => by
    have h0 : max f.dep (max g.dep k.dep) + 1 ≤ d + 1 := h
    have h1 := Fm.size_le d f (by omega)
    have h2 := Fm.size_le d g (by omega)
    have h4 := Fm.size_le d k (by omega)
    have h3 : 1 ≤ 4 ^ d := Nat.pow_pos (by decide)
    show f.size + g.size + k.size + 1 ≤ 4 ^ d * 4
    omega
theorem in_strs (n : Str) (acc : List Str) : inV (.str n) (acc.map V.str) = decide (n ∈ acc) := by
  unfold inV
  rw [List.any_map, Bool.eq_iff_iff, List.any_eq_true, decide_eq_true_iff]
  constructor
  · rintro ⟨x, hx, e⟩
    have e' : (x == n) = true := e
    rw [beq_iff_eq] at e'
    rw [← e']
    exact hx
  · intro h
    exact ⟨n, h, by show (n == n) = true; exact beq_self_eq_true n⟩
theorem flat_strs (acc : List Str) : (acc.map V.str).all flatV = true := by
  rw [List.all_map, List.all_eq_true]
  intro x _
  rfl
theorem RpAll.strs {M : Ms} {H : Hp} : ∀ (ns : List Str), RpAll M H (ns.map V.str) (ns.map PyData.str)
  | [] => .nil
  | n :: r => .cons (.str n) (RpAll.strs r)
theorem RpAll.ofStrs {M : Ms} {H : Hp} : ∀ {ns : List Str} {vs : List V}, RpAll M H vs (ns.map PyData.str) → vs = ns.map V.str
  | [], _, h => by cases h; rfl
  | n :: r, _, h => by
    cases h with
    | cons h1 h2 =>
      cases h1
      rw [RpAll.ofStrs h2]
      rfl

theorem sign_lo {c : Nat} (h : 97 ≤ c) : decide (({ cps := #[c] } : Str).cps.toList < (Str.ofString "a").cps.toList) = false := by
  rw [show (Str.ofString "a").cps.toList = [97] by decide +kernel, decide_eq_false_iff_not]
  show ¬ [c] < [97]
  rw [List.cons_lt_cons_iff]
  rintro (h1 | ⟨_, h1⟩)
  · omega
  · exact absurd h1 (by decide)
theorem sign_hi {c : Nat} (h : c ≤ 122) : decide ((Str.ofString "z").cps.toList < ({ cps := #[c] } : Str).cps.toList) = false := by
  rw [show (Str.ofString "z").cps.toList = [122] by decide +kernel, decide_eq_false_iff_not]
  show ¬ [122] < [c]
  rw [List.cons_lt_cons_iff]
  rintro (h1 | ⟨_, h1⟩)
  · omega
  · exact absurd h1 (by decide)

/-- a form with its level -/
def lvD (p : Fm × Nat) : PyData := .tuple [p.1.enc, .int (p.2 : Int)]
def szs (ps : List (Fm × Nat)) : Nat := (ps.map fun p => p.1.size).sum
theorem szs_app (ps qs : List (Fm × Nat)) : szs (ps ++ qs) = szs ps + szs qs := by
  unfold szs
  rw [List.map_append, List.sum_append_nat]
theorem szs_rev (ps : List (Fm × Nat)) : szs ps.reverse = szs ps := by
  unfold szs
  rw [List.map_reverse, List.sum_reverse]
theorem subs_size (f : Fm) (n : Nat) : szs (f.subs.map fun g => (g, n)) + 1 = f.size := by
  cases f <;> simp [szs, Fm.subs, Fm.size] <;> omega
theorem subs_ok {nm : Str → Prop} {f g : Fm} (h : f.ok nm) (hg : g ∈ f.subs) : g.ok nm := by
  cases f <;> simp [Fm.subs] at hg <;> simp [Fm.ok] at h
  all_goals (first | (rcases hg with rfl | rfl | rfl <;> simp_all) | (rcases hg with rfl | rfl <;> simp_all))
theorem subs_dep {f g : Fm} (hg : g ∈ f.subs) : g.dep + 1 ≤ f.dep := by
  cases f <;> simp [Fm.subs] at hg <;> simp [Fm.dep]
  all_goals (first | (rcases hg with rfl | rfl | rfl <;> omega) | (rcases hg with rfl | rfl <;> omega))
theorem subs_len (f : Fm) : f.subs.length ≤ 3 := by cases f <;> simp [Fm.subs]
theorem RpAll.reverse {M : Ms} {H : Hp} : ∀ {vs : List V} {ds : List PyData}, RpAll M H vs ds → RpAll M H vs.reverse ds.reverse
  | _, [], h => by cases h; exact .nil
  | _, d :: ds, h => by
    cases h with
    | cons h1 h2 =>
      rw [List.reverse_cons, List.reverse_cons]
      exact (RpAll.reverse h2).append (.one h1)
theorem RpAll.last {M : Ms} {H : Hp} {vs : List V} {ds : List PyData} {d : PyData} (h : RpAll M H vs (ds ++ [d])) : ∃ us v, vs = us ++ [v] ∧ RpAll M H us ds ∧ Rp M H v d := by
  have h1 := h.reverse
  rw [List.reverse_append] at h1
  generalize hv : vs.reverse = ws at h1
  cases h1 with
  | @cons v us _ _ a b =>
    have e : vs = us.reverse ++ [v] := by
      rw [← List.reverse_reverse vs, hv, List.reverse_cons]
    refine ⟨us.reverse, v, e, ?_, a⟩
    have b' : RpAll M H us ds.reverse := b
    have := b'.reverse
    rw [List.reverse_reverse] at this
    exact this

theorem Fm.size_pos : ∀ f : Fm, 1 ≤ f.size
  | .is _ => Nat.le_refl _ | .get _ => Nat.le_refl _
  | .sum f g => by show 1 ≤ f.size + g.size + 1; omega
  | .same f g => by show 1 ≤ f.size + g.size + 1; omega
  | .pick f g h => by show 1 ≤ f.size + g.size + h.size + 1; omega
theorem szs_len : ∀ ps : List (Fm × Nat), ps.length ≤ szs ps
  | [] => Nat.le_refl _
  | p :: r => by
    have h1 := szs_len r
    have h2 := p.1.size_pos
    show r.length + 1 ≤ ((p :: r).map fun p => p.1.size).sum
    rw [List.map_cons, List.sum_cons]
    unfold szs at h1
    omega

def stepN (acc : List Str) (s : Fm) : List Str := s.names.foldl addN acc
theorem names_fold (f : Fm) (h : ∀ x, f ≠ .get x) : f.names = f.subs.foldl stepN [] := by
  cases f with
  | get x => exact absurd rfl (h x)
  | _ => rfl
theorem fold_take {α β : Type} (g : β → α → β) (b : β) (l : List α) (i : Nat) (x : α) (h : l[i]? = some x) : (l.take (i + 1)).foldl g b = g ((l.take i).foldl g b) x := by
  rw [List.take_add_one, h, List.foldl_append]
  rfl
end D

namespace D
open PySem PySem.Spec PyProof.Rows L2
theorem sub_len {α : Type} [DecidableEq α] : ∀ (l2 l1 : List α), l1.Nodup → (∀ x ∈ l1, x ∈ l2) → l1.length ≤ l2.length ∧ (l1.length = l2.length → l2.Nodup)
  | [], l1, _, h => by
    cases l1 with
    | nil => exact ⟨Nat.le_refl _, fun _ => .nil⟩
    | cons x r => exact nomatch h x List.mem_cons_self
  | y :: r, l1, nd, h => by
    by_cases hy : y ∈ l1
    · have nd1 : (l1.erase y).Nodup := nd.erase y
      have h1 : ∀ x ∈ l1.erase y, x ∈ r := fun x hx => by
        have hx' := (nd.mem_erase_iff).mp hx
        rcases List.mem_cons.mp (h x hx'.2) with e | e
        · exact absurd e hx'.1
        · exact e
      obtain ⟨a, b⟩ := sub_len r (l1.erase y) nd1 h1
      have le := List.length_erase_of_mem hy
      have pos : 0 < l1.length := List.length_pos_of_mem hy
      refine ⟨by rw [List.length_cons]; omega, fun e => ?_⟩
      rw [List.length_cons] at e
      refine List.nodup_cons.mpr ⟨fun hr => ?_, b (by omega)⟩
      have h2 : ∀ x ∈ l1, x ∈ r := fun x hx => by
        rcases List.mem_cons.mp (h x hx) with e | e
        · rw [e]; exact hr
        · exact e
      have := (sub_len r l1 nd h2).1
      omega
    · have h2 : ∀ x ∈ l1, x ∈ r := fun x hx => by
        rcases List.mem_cons.mp (h x hx) with e | e
        · rw [e] at hx; exact absurd hx hy
        · exact e
      have := (sub_len r l1 nd h2).1
      refine ⟨by rw [List.length_cons]; omega, fun e => ?_⟩
      rw [List.length_cons] at e
      omega
section
variable {X : Cx}
def tLenSetT (K : PySem.W.Frag) (ta : TE) : TE := fun σ H Q => ta σ H fun x H1 => ∃ (l : Addr) (ns : List Int), x = V.ref l ∧ SqT K H1 l (ns.map V.int) ∧ ns.length ≤ 1000 ∧ ∀ c : Nat, (c = ns.length ↔ ns.Nodup) → Q (.int c) H1
theorem pe_lenSetT {K : PySem.W.Frag} {a : Expr} {ta : TE} {p p2 q pos : Pos} (hK : X.K = K) (hc : X.calm = true) (hg : Gl X "len") (hm : X.mg "len" = none) (hg2 : Gl X "set") (hm2 : X.mg "set" = none) (ha : PE X a ta)
    (na : starEach [a] X.env = (false, eval a X.env) :: starEach [] X.env := by rfl) : PE X (.Call (.Name "len" p) [.Call (.Name "set" p2) [a] [] q] [] pos) (tLenSetT K ta) := by
  subst hK
  refine ⟨fun pins s σ H Q I h => ?_⟩
  refine Call_ (ld_blt I hg hm PySem.boot_len ?_)
  refine PyProof.Rows.callWith_builtin1 (PyProof.Rows.args_cons ?_ rfl) rfl rfl
  refine Call_ (ld_blt I hg2 hm2 PyProof.Rows.boot_set ?_)
  refine PyProof.Rows.callWith_type1 (PyProof.Rows.args_cons (thn (ha.run pins s σ H _ I h) fun v s1 ⟨x, H1, I1, r1, q1⟩ => PyProof.Rows.args_nil ?_) na) na rfl
  obtain ⟨l, ns, rfl, hq, h1, q1⟩ := q1
  cases r1
  obtain ⟨its, rv, pt, hz⟩ := I1.tuple hq
  have hi : IntsAre its.toArray.toList ns := ints_of_vals rv
  refine call_set_tupI ns (I1.ok.hd hc) (show s1.heap.IsTuple l its.toArray from pt) hi (by unfold scanBound; omega) fun h' tk c R1 hcn k => ?_
  obtain ⟨o, es, ep, t, ho, hex, hdt, g, nd, hm2, hb, hf, hn, hr, hl2⟩ := R1
  refine PyProof.Rows.args_nil ?_
  have I2 : Inv X pins σ H1 { s1 with heap := h', toks := tk } := I1.kept k
  have hsub : ∀ x ∈ es.toList.map keyOf, x ∈ ns := fun x hx => of_decide_eq_true ((hm2 x).mpr hx)
  have hsup : ∀ x ∈ ns, x ∈ es.toList.map keyOf := fun x hx => (hm2 x).mp (decide_eq_true hx)
  have hlen : (es.toList.map keyOf).length = es.size := by rw [List.length_map, Array.length_toList]
  have hc2 : es.size = ns.length ↔ ns.Nodup := by
    obtain ⟨a1, a2⟩ := sub_len ns _ nd hsub
    refine ⟨fun e => a2 (by rw [hlen, e]), fun hnd => ?_⟩
    have b1 := (sub_len (es.toList.map keyOf) ns hnd hsup).1
    omega
  exact call_len_set ho hex hdt hf (by unfold scanBound at hb; omega) ⟨.int es.size, H1, I2.tok _, ⟨_, rfl⟩, q1 es.size hc2⟩
end
end D

namespace D
open PySem PySem.Spec PyProof.Rows L2
section
variable {X : Cx} {C g : Addr} {n : Nat} {CX : CXT} {sp : Sp} {E : XK} {fd : FuncData} {ps : List Str}
/-- x op y, two instances of one class with its own def for op -/
def rOwnI (C : Addr) (sp : Sp) (E : XK) : R2 := fun x y H Q => ∃ a dx fs b dy gs, x = .ref a ∧ y = .ref b ∧ H a = some (.ins C dx fs) ∧ H b = some (.ins C dy gs) ∧ sp [x, y] H Q E
theorem op_ownI {op : CmpOp} (hop : ∀ a b, compareOp op a b = richCompare op a b) (hs : PySem.W.findIn X.K (.ref C) (cmpInfo op).2.1 = some (some (.ref g))) (hf : PySem.W.isFn X.K (.ref g) = true) (hn : PySem.W.notFirst X.K C (.ref C) = true)
    (F : FnOk X.prog X.w X.K X.mg X.base CX n g fd ps sp) (hb : Binds X.K fd ps []) (hr : Room n X.A) (hx : Passes CX X E) : OpR X (compareOp op) (rOwnI C sp E) := by
  intro pins s σ H x y v u Q I rx ry h
  obtain ⟨a, dx, fs, b, dy, gs, rfl, rfl, ha, hb2, q⟩ := h
  cases (show v = Value.ref a from rx)
  cases (show u = Value.ref b from ry)
  obtain ⟨mA, O, _⟩ := ins_get I.hok ha
  obtain ⟨od, J, _⟩ := O.look
  obtain ⟨mA', O', _⟩ := ins_get I.hok hb2
  obtain ⟨od', J', _⟩ := O'.look
  obtain ⟨m, hF⟩ := I.fr
  rw [hop]
  refine PySem.W.cmp_K (op := op) (tb := .ref C) hr.units0 hF I.ok.mod.kin J J'.type hn hs hf ?_
  refine wpAny_mono (run_fn (us := [.ref a, .ref b]) (vs := [.ref a, .ref b]) F hr hb .nil hx I (.cons rfl (.cons rfl .nil)) q) (fun w s' z => ?_) fun _ _ x => x
  obtain ⟨z', H', I', rz, qz⟩ := z
  exact SlX.cmpback rz ⟨z', H', I', rz, qz⟩
/-- an instance is called -/
def tCallOI (C : Addr) (sp : Sp) (E : XK) (tf : TE) (t : TA) : TE := fun σ H Q => tf σ H fun y H1 => ∃ a dx fs, y = V.ref a ∧ t σ H1 fun vs H2 => H2 a = some (.ins C dx fs) ∧ sp (V.ref a :: vs) H2 Q E
theorem pe_callOI {fe e : Expr} {es : List Expr} {pos : Pos} {tf : TE} {t : TA} (c : StX.CallO X.K C g) (F : FnOk X.prog X.w X.K X.mg X.base CX n g fd ps sp) (hb : Binds X.K fd ps []) (hr : Room n X.A) (hx : Passes CX X E) (hf : PE X fe tf) (ha : PA X (e :: es) t)
    (ht : eval (.Call fe (e :: es) [] pos) X.env = (do callWith pos (← eval fe X.env) [] (backTo pos (starEach (e :: es) X.env)) (backToKw pos (keywordEach [] X.env))) := by rfl)
    (he : starEach (e :: es) X.env = (false, eval e X.env) :: starEach es X.env := by rfl) (hpl : (backTo pos (starEach es X.env)).any (·.1) = false := by rfl) : PE X (.Call fe (e :: es) [] pos) (tCallOI C sp E tf t) := by
  refine ⟨fun pins s σ H Q I h => ?_⟩
  refine Call_ (thn (hf.run pins s σ H _ I h) fun u s1 ⟨y, H1, I1, ry, a, dx, fs, ey, q⟩ => ?_) ht
  subst ey
  cases (show u = Value.ref a from ry)
  refine StX.callO_with (thn (ha.run pos pins s1 σ H1 _ I1 q) fun us s2 ⟨vs, H2, I2, r, hi, q2⟩ => ?_) he hpl
  obtain ⟨ox, od, J, hd⟩ := StX.insC_at I2 (.inr ⟨dx, fs, hi⟩)
  exact ⟨⟨C, ox, od, J, hd⟩, StX.run_callO c (F.raw hb .nil) hr hx I2 (.inr ⟨dx, fs, hi⟩) r (by rw [List.append_nil]; exact q2)⟩
/-- isinstance of an own class -/
def rIsC (C : Addr) : List V → Hp → VK → Prop := fun xs H Q => ∃ a dx fs, xs = [.ref a, .ref C] ∧ H a = some (.ins C dx fs) ∧ Q (.bl true) H
theorem call_isCK (c : C8.InsC X.K C) : CallR X (.builtin "isinstance") (rIsC C) := C8.call_isC c
end
end D

namespace PySem
theorem meets_enumerate_newT (l : Addr) (items : Array Value) :
    Meets (Builtin.«enumerate.__new__» ⟨[.type "enumerate", .ref l], []⟩) (fun _ R s => s.heap.IsTuple l items ∧
      R (.ok (.ret (.ref (s.heap.push { cls := .type "tuple_iterator", data := .fields #[.ref l, .int 0 0] }).objs.size)))
        { s with heap := (s.heap.push { cls := .type "tuple_iterator", data := .fields #[.ref l, .int 0 0] }).push { cls := .type "enumerate", data := .fields #[.none, .bool false, .ref s.heap.objs.size, rawInt 0, .none, .none] } }) :=
  .of_wp fun prog w A R s h => by
    obtain ⟨hp, g, d, tk, os⟩ := s; obtain ⟨hL, h⟩ := h
    have hsub := sub_enumerate
    wp_walk
    refine wpAny_stack_any fun st => wpAny_pure ?_
    split
    · rename_i c _ _ _ _ _
      cases (c == Value.type "enumerate")
      · wp_walk using wpAny_pyIter_tuple hL
        exact ⟨_, rfl, h⟩
      · wp_walk using wpAny_pyIter_tuple hL
        exact ⟨_, rfl, h⟩
    · wp_walk using wpAny_pyIter_tuple hL
      exact ⟨_, rfl, h⟩
section
variable {prog : Program} {w : World} {A : Around} {E : Value → Shared → Prop} {s : Shared}
theorem call_enumerate_tuple {l : Addr} {items : Array Value} {Q : Value → Shared → Prop} (hL : s.heap.IsTuple l items)
    (h : ∀ h', IsEnum h' (s.heap.objs.size + 1) s.heap.objs.size 0 .none → h'.IsTupleIter s.heap.objs.size l 0 → h'.objs.size = s.heap.objs.size + 2 →
      (∀ b o, s.heap.get? b = some o → h'.get? b = some o) → Q (.ref (s.heap.objs.size + 1)) { s with heap := h' }) :
    wpAny (model prog w) A (call (.type "enumerate") [.ref l]) Q E s := by
  refine callType_new F.called_enumerate (by decide) (F.typeCall_enumerate_1 _) (F.newCall_enumerate_1 _) (fun obj => F.args_object_init_2 obj _) F.entry_enumerate_new
    (meets_enumerate_newT l items) ⟨hL, ?_⟩
  have hz : (s.heap.push { cls := .type "tuple_iterator", data := .fields #[.ref l, .int 0 0] }).objs.size = s.heap.objs.size + 1 := Heap.size_push ..
  show _ ∧ _
  rw [hz]
  have he : IsEnum ((s.heap.push { cls := .type "tuple_iterator", data := .fields #[.ref l, .int 0 0] }).push
      { cls := .type "enumerate", data := .fields #[.none, .bool false, .ref s.heap.objs.size, rawInt 0, .none, .none] }) (s.heap.objs.size + 1) s.heap.objs.size 0 .none := by
    have := Heap.get?_push_size (s.heap.push { cls := .type "tuple_iterator", data := .fields #[.ref l, .int 0 0] })
      (o := { cls := .type "enumerate", data := .fields #[.none, .bool false, .ref s.heap.objs.size, rawInt 0, .none, .none] }) rfl
    rw [hz] at this; exact this
  refine ⟨⟨_, he, rfl⟩, h _ he ⟨_, Heap.get?_push_of_some _ (Heap.get?_push_size _ rfl), rfl, rfl⟩ (by rw [Heap.size_push, hz]) fun b o x => Heap.get?_push_of_some _ (Heap.get?_push_of_some _ x)⟩
end
end PySem
namespace D
open PySem PySem.Spec PyProof.Rows L2
/-- the tuple at a, each item in a new pair with its place -/
def Itet (K : PySem.W.Frag) (a : Addr) : It :=
  ⟨fun i H => ∃ (xs : List V) (x : V), SqT K H a xs ∧ xs[i]? = some x, fun i H v H' => ∃ T x, v = .ref T ∧ H T = none ∧ H' = upd H T (.tup [.int (i : Nat), x]) ∧ ∀ xs, SqT K H a xs → xs[i]? = some x, fun i H => ∃ xs : List V, SqT K H a xs ∧ xs.length = i⟩
theorem turn_enumT {P : Program} {w : World} {K : PySem.W.Frag} {elts : List Expr} {kk : Nat} {tpos : Pos} (a e it : Addr) :
    Turn P w K (.Tuple elts kk tpos) (Itet K a) [e, it] e (fun i h => (∃ old, IsEnum h e it ((i : Nat) : Int) old) ∧ h.IsTupleIter it a i ∧ e ≠ it) where
  mem := by simp
  obj := fun i h st b hb => by
    obtain ⟨⟨old, he⟩, ⟨o, ho, hc, hd⟩, _⟩ := st
    have e' : b = e ∨ b = it := by simpa using hb
    rcases e' with z | z
    · rw [z]; exact ⟨_, he, fun v q => nomatch q⟩
    · rw [z]; exact ⟨o, ho, fun v q => by rw [hd] at q; cases q⟩
  keep := fun i h h' st k => let ⟨⟨old, he⟩, hi, hne⟩ := st; ⟨⟨old, k e (by simp) _ he⟩, hi.at fun o q => k it (by simp) o q, hne⟩
  item := by
    intro X hP hw hK hc i pins s σ H E I hf st hg
    subst hP hw hK
    obtain ⟨⟨old, he⟩, hit, hne⟩ := st
    obtain ⟨xs, x, hq, hx⟩ := hg
    obtain ⟨its, rv, p, hz⟩ := I.tuple hq
    have p2 : s.heap.IsTuple a its.toArray := p
    obtain ⟨u, hu, ru⟩ := rv.get hx
    have hel : e < s.heap.objs.size := Heap.lt_size he
    have hil : it < s.heap.objs.size := by obtain ⟨_, q, _⟩ := hit; exact Heap.lt_size q
    have hai : a ≠ it := fun z => by
      obtain ⟨o1, q1, c1, _⟩ := hit
      obtain ⟨o2, q2, c2, _⟩ := p2
      rw [z, q1] at q2
      cases q2
      rw [c1] at c2
      exact absurd c2 (by decide)
    have hea : e ≠ a := fun z => by
      obtain ⟨o2, q2, c2, _⟩ := p2
      rw [← z, he] at q2
      cases q2
      exact absurd (show Value.type "enumerate" = Value.type "tuple" from c2) (by decide)
    have hlt : i < its.toArray.size := by
      have := (List.getElem?_eq_some_iff.mp hu).1
      simpa using this
    refine wpAny_pyNext_enum_itemD (Draws.tuple (A := X.A.in1) (I.ok.hd hc) it a hai its.toArray) he ⟨hit, p2⟩ hlt hne (fun z => by
      rcases List.mem_cons.mp z with z | z
      · exact hne z
      · exact hea (List.mem_singleton.mp z)) fun x' h' tk hP ho hst' hT hsz hk => ?_
    obtain rfl : x' = u := by
      have h1 : its.toArray[i]? = some x' := hP
      rw [List.getElem?_toArray, hu] at h1
      exact (Option.some.inj h1).symm
    refine ⟨_, rfl, wpAny_letOwnedTupleGo_enum (s := { s with heap := h', toks := tk + 1 }) ho fun h'' he' sb => ?_⟩
    have hT2 : h''.get? s.heap.objs.size = some { cls := .type "tuple", data := .seq #[.int i tk, x'] } := (sb.2 _ (Nat.ne_of_gt hel)).trans hT
    have new : ObjOk X.prog X.w (upd H s.heap.objs.size (.tup [.int (i : Nat), x])) h'' s.heap.objs.size (.tup [.int (i : Nat), x]) :=
      ⟨by show 2 ≤ sizeLine; decide, [.int i tk, x'], .cons ⟨_, rfl⟩ (.cons ru .nil), ⟨_, hT2, rfl, _, rfl⟩⟩
    have I1 : Inv X pins σ (upd H s.heap.objs.size (.tup [.int (i : Nat), x])) { s with heap := h'', toks := tk + 1 } :=
      I.turnedNew (ch := [e, it]) (fun b ob hb q => (sb.2 b (fun z => hb (by simp [z]))).trans (hk b ob (fun z => hb (by simp [z])) (fun z => hb (by simp [z])) q)) hf (Nat.le_refl _) new
    refine ⟨.ref s.heap.objs.size, _, I1, rfl, ⟨_, x, rfl, I.hok.fresh (Nat.le_refl _), rfl, fun ys hy => by rw [I.tuple_inj hy hq]; exact hx⟩, ⟨⟨x', ?_⟩, hst'.1.at fun o q => (sb.2 it (Ne.symm hne)).trans q, hne⟩, fun b hb => ?_⟩
    · have e1 : ((i + 1 : Nat) : Int) = (i : Int) + 1 := by omega
      rw [e1]; exact he'
    · have hb' : b < s.heap.objs.size := by
        have e' : b = e ∨ b = it := by simpa using hb
        rcases e' with z | z
        · rw [z]; exact hel
        · rw [z]; exact hil
      rw [upd_ne (Nat.ne_of_lt hb')]
      exact (hf b hb).1
  done := by
    intro X hP hw hK hc i pins s σ H E I hf st hg
    subst hP hw hK
    obtain ⟨⟨old, he⟩, hit, hne⟩ := st
    obtain ⟨xs, hq, hx⟩ := hg
    obtain ⟨its, rv, p, hz⟩ := I.tuple hq
    have p2 : s.heap.IsTuple a its.toArray := p
    obtain ⟨f0, f1, f2, f3, f4, f5⟩ := hf it (by simp)
    have hl := rv.length
    have hai : a ≠ it := fun z => by
      obtain ⟨o1, q1, c1, _⟩ := hit
      obtain ⟨o2, q2, c2, _⟩ := p2
      rw [z, q1] at q2
      cases q2
      rw [c1] at c2
      exact absurd c2 (by decide)
    have en : i = its.toArray.size := by
      rw [List.size_toArray]
      omega
    exact wpAny_pyNext_enum_endD (Draws.tuple (A := X.A.in1) (I.ok.hd hc) it a hai its.toArray) he (show _ ∧ _ from ⟨by rw [← en]; exact hit, p2⟩) fun h' eb => ⟨rfl, I.turned (t' := s.toks) (fun b o hb q => eb b o hb q) f0 f1 f3 f4 f5⟩
  self := fun A i s Q E st h => let ⟨⟨_, he⟩, _⟩ := st; wpAny_pyIter_enum he h
def iEnumT (K : PySem.W.Frag) (ta : TA) : TI := fun σ H R => ta σ H fun vs H1 => ∃ a xs, vs = [.ref a] ∧ SqT K H1 a xs ∧ R (Itet K a) H1
theorem pi_enumTK {K : PySem.W.Frag} {X : Cx} {e : Expr} {ta : TA} {p pos tpos : Pos} {elts : List Expr} {kk : Nat} (hK : X.K = K) (hg : Gl X "enumerate") (hm : X.mg "enumerate" = none) (ha : PA X [e] ta) (hs : starEach [e] X.env = [(false, eval e X.env)] := by rfl) :
    PI X (.Tuple elts kk tpos) (.Call (.Name "enumerate" p) [e] [] pos) (iEnumT K ta) := by
  subst hK
  refine ⟨fun pins s σ H R I h => ?_⟩
  refine Call_ (ld_blt I hg hm boot_enumerate (PyProof.Rows.callWith_type1 (thn (ha.run pos pins s σ H _ I h) fun us s1 ⟨vs, H1, I1, r1, q1⟩ => ?_) hs rfl))
  obtain ⟨a, xs, ex, hq, q⟩ := q1
  subst ex
  cases r1 with
  | cons r rr =>
    cases rr
    cases r
    obtain ⟨its, rv, p', hz⟩ := I1.tuple hq
    refine call_enumerate_tuple (show s1.heap.IsTuple a its.toArray from p') fun h' he hit hsz hk => wpAny_pyIter_enum he ?_
    have I2 : Inv X pins σ H1 { s1 with heap := h' } := I1.kept (t' := s1.toks) hk
    refine ⟨s1.heap.objs.size + 1, [s1.heap.objs.size + 1, s1.heap.objs.size], _, _, H1, rfl, I2, turn_enumT a (s1.heap.objs.size + 1) s1.heap.objs.size, ⟨⟨.none, he⟩, hit, Nat.succ_ne_self _⟩, fun b hb => ?_, q⟩
    have e' : b = s1.heap.objs.size + 1 ∨ b = s1.heap.objs.size := by simpa using hb
    have hle : s1.heap.objs.size ≤ b := by
      rcases e' with z | z
      · rw [z]; exact Nat.le_add_right _ _
      · rw [z]; exact Nat.le_refl _
    exact I1.fpOk hle (I1.hok.fresh hle)
theorem for_enumT {K : PySem.W.Frag} {a : Addr} {xs : List V} {g : TG} {tb : TS} {D : Ends} {σ : L2.St} {H : Hp} (Pv : Nat → L2.St → Hp → Prop) (h0 : Pv 0 σ H) (hl : ∀ i σ H, i ≤ xs.length → Pv i σ H → SqT K H a xs)
    (hs : ∀ i x T σ H, xs[i]? = some x → H T = none → Pv i σ H → g (.ref T) σ (upd H T (.tup [.int (i : Nat), x])) fun σ2 H2 => tb { D with nx := Pv (i + 1), ct := Pv (i + 1), bk := D.nx } σ2 H2) (hd : ∀ σ H, Pv xs.length σ H → D.nx σ H) :
    ∃ W : Nat → Nat → L2.St → Hp → Prop, (∃ m, W 0 m σ H) ∧ ∀ i m σ H, W i m σ H →
      ((Itet K a).stop i H ∧ D.nx σ H) ∨ ((Itet K a).go i H ∧ ∃ N : L2.St → Hp → Prop, (∀ σ' H', N σ' H' → ∃ m', m' < m ∧ W (i + 1) m' σ' H') ∧ ∀ x H', (Itet K a).yld i H x H' → g x σ H' fun σ2 H2 => tb { D with nx := N, ct := N, bk := D.nx } σ2 H2) := by
  refine ⟨fun i m σ H => m = xs.length - i ∧ i ≤ xs.length ∧ Pv i σ H, ⟨xs.length, by simp, Nat.zero_le _, h0⟩, ?_⟩
  rintro i m σ H ⟨rfl, hi, p⟩
  have q := hl i σ H hi p
  by_cases hlt : i < xs.length
  · refine .inr ⟨⟨xs, xs[i], q, by simp [hlt]⟩, Pv (i + 1), fun σ' H' p' => ⟨xs.length - (i + 1), by omega, rfl, hlt, p'⟩, fun x H' y => ?_⟩
    obtain ⟨T, z, rfl, hT, rfl, hz⟩ := y
    exact hs i z T σ _ (hz xs q) hT p
  · have e : i = xs.length := by omega
    subst e
    exact .inl ⟨⟨xs, q, rfl⟩, hd σ H p⟩
/-- comprehensions over enumerate -/
theorem lc_enum {K : PySem.W.Frag} {a : Addr} {xs : List V} {g : TG} {tt : TT} {te : TE} {vs : List Nat} {σ : L2.St} {H1 : Hp} {D : Addr} {Qd : Hp → Prop} (Pv : Nat → Hp → Prop) (h0 : Pv 0 (upd H1 D (.lst []))) (hl : ∀ i H, i ≤ xs.length → Pv i H → SqL K H a xs)
    (hs : ∀ i x T H, xs[i]? = some x → H T = none → Pv i H → g (.ref T) (wipe σ vs) (upd H T (.tup [.int (i : Nat), x])) fun σ2 H2 => wipe σ2 vs = wipe σ vs ∧ tt σ2 H2 fun b H3 =>
      if b = true then te σ2 H3 fun y H4 => ∃ acc, H4 D = some (.lst acc) ∧ acc.length < sizeLine ∧ Pv (i + 1) (upd H4 D (.lst (acc ++ [y]))) else Pv (i + 1) H3) (hd : ∀ H, Pv xs.length H → Qd H) :
    ∃ W : Nat → Nat → Hp → Prop, (∃ m, W 0 m (upd H1 D (.lst []))) ∧ ∀ i m H, W i m H →
      ((Ite K a).stop i H ∧ Qd H) ∨ ((Ite K a).go i H ∧ ∃ Nx : Hp → Prop, (∀ H', Nx H' → ∃ m', m' < m ∧ W (i + 1) m' H') ∧ ∀ x H', (Ite K a).yld i H x H' → g x (wipe σ vs) H' fun σ2 H2 => wipe σ2 vs = wipe σ vs ∧ tt σ2 H2 fun b H3 =>
        if b = true then te σ2 H3 fun y H4 => ∃ acc, H4 D = some (.lst acc) ∧ acc.length < sizeLine ∧ Nx (upd H4 D (.lst (acc ++ [y]))) else Nx H3) := by
  refine ⟨fun i m H => m = xs.length - i ∧ i ≤ xs.length ∧ Pv i H, ⟨xs.length, by simp, Nat.zero_le _, h0⟩, ?_⟩
  rintro i m H ⟨rfl, hi, p⟩
  have q := hl i H hi p
  by_cases hlt : i < xs.length
  · refine .inr ⟨⟨xs, xs[i], q, by simp [hlt]⟩, Pv (i + 1), fun H' p' => ⟨xs.length - (i + 1), by omega, rfl, hlt, p'⟩, fun x H' y => ?_⟩
    obtain ⟨T, z, rfl, hT, rfl, hz⟩ := y
    exact hs i z T _ (hz xs q) hT p
  · have e : i = xs.length := by omega
    subst e
    exact .inl ⟨⟨xs, q, Nat.le_refl _⟩, hd H p⟩
theorem lc_enumT {K : PySem.W.Frag} {a : Addr} {xs : List V} {g : TG} {tt : TT} {te : TE} {vs : List Nat} {σ : L2.St} {H1 : Hp} {D : Addr} {Qd : Hp → Prop} (Pv : Nat → Hp → Prop) (h0 : Pv 0 (upd H1 D (.lst []))) (hl : ∀ i H, i ≤ xs.length → Pv i H → SqT K H a xs)
    (hs : ∀ i x T H, xs[i]? = some x → H T = none → Pv i H → g (.ref T) (wipe σ vs) (upd H T (.tup [.int (i : Nat), x])) fun σ2 H2 => wipe σ2 vs = wipe σ vs ∧ tt σ2 H2 fun b H3 =>
      if b = true then te σ2 H3 fun y H4 => ∃ acc, H4 D = some (.lst acc) ∧ acc.length < sizeLine ∧ Pv (i + 1) (upd H4 D (.lst (acc ++ [y]))) else Pv (i + 1) H3) (hd : ∀ H, Pv xs.length H → Qd H) :
    ∃ W : Nat → Nat → Hp → Prop, (∃ m, W 0 m (upd H1 D (.lst []))) ∧ ∀ i m H, W i m H →
      ((Itet K a).stop i H ∧ Qd H) ∨ ((Itet K a).go i H ∧ ∃ Nx : Hp → Prop, (∀ H', Nx H' → ∃ m', m' < m ∧ W (i + 1) m' H') ∧ ∀ x H', (Itet K a).yld i H x H' → g x (wipe σ vs) H' fun σ2 H2 => wipe σ2 vs = wipe σ vs ∧ tt σ2 H2 fun b H3 =>
        if b = true then te σ2 H3 fun y H4 => ∃ acc, H4 D = some (.lst acc) ∧ acc.length < sizeLine ∧ Nx (upd H4 D (.lst (acc ++ [y]))) else Nx H3) := by
  refine ⟨fun i m H => m = xs.length - i ∧ i ≤ xs.length ∧ Pv i H, ⟨xs.length, by simp, Nat.zero_le _, h0⟩, ?_⟩
  rintro i m H ⟨rfl, hi, p⟩
  have q := hl i H hi p
  by_cases hlt : i < xs.length
  · refine .inr ⟨⟨xs, xs[i], q, by simp [hlt]⟩, Pv (i + 1), fun H' p' => ⟨xs.length - (i + 1), by omega, rfl, hlt, p'⟩, fun x H' y => ?_⟩
    obtain ⟨T, z, rfl, hT, rfl, hz⟩ := y
    exact hs i z T _ (hz xs q) hT p
  · have e : i = xs.length := by omega
    subst e
    exact .inl ⟨⟨xs, q, rfl⟩, hd H p⟩
/-- the same where each element is a value that is known: new things may be made on the way -/
theorem lc_enumV {K : PySem.W.Frag} {a : Addr} {xs ys : List V} {g : TG} {tt : TT} {te : TE} {vs : List Nat} {σ : L2.St} {H : Hp} {D : Addr} {Qd : Hp → Prop} (hD : H D = none) (hS : SqL K H a xs) (hn : ys.length = xs.length) (hz : xs.length ≤ 1000000)
    (hs : ∀ (i : Nat) (x y : V) (T : Addr) (H' : Hp) (C : VK) (N : Hp → Prop), xs[i]? = some x → ys[i]? = some y → H' T = none → Same H H' → H' D ≠ none → (∀ H2, Same (upd H' T (.tup [.int (i : Nat), x])) H2 → C y H2) → g (.ref T) (wipe σ vs) (upd H' T (.tup [.int (i : Nat), x])) fun σ2 H2 => wipe σ2 vs = wipe σ vs ∧ tt σ2 H2 fun b H3 => if b = true then te σ2 H3 C else N H3)
    (hd : ∀ H', Same H H' → H' D = some (.lst ys) → Qd H') :
    ∃ W : Nat → Nat → Hp → Prop, (∃ m, W 0 m (upd H D (.lst []))) ∧ ∀ i m H, W i m H →
      ((Ite K a).stop i H ∧ Qd H) ∨ ((Ite K a).go i H ∧ ∃ Nx : Hp → Prop, (∀ H', Nx H' → ∃ m', m' < m ∧ W (i + 1) m' H') ∧ ∀ x H', (Ite K a).yld i H x H' → g x (wipe σ vs) H' fun σ2 H2 => wipe σ2 vs = wipe σ vs ∧ tt σ2 H2 fun b H3 =>
        if b = true then te σ2 H3 fun y H4 => ∃ acc, H4 D = some (.lst acc) ∧ acc.length < sizeLine ∧ Nx (upd H4 D (.lst (acc ++ [y]))) else Nx H3) := by
  refine lc_enum (K := K) (a := a) (xs := xs) (fun i H' => Same H H' ∧ H' D = some (.lst (ys.take i))) ⟨same_new hD, by rw [upd_same]; rfl⟩ (fun i H' _ p => p.1.seq hS) (fun i x T H' hx hT p => ?_) (fun H' p => ?_)
  · have hi : i < ys.length := by
      rw [hn]
      exact (List.getElem?_eq_some_iff.mp hx).1
    refine hs i x ys[i] T H' _ _ hx (List.getElem?_eq_getElem hi) hT p.1 (ne_none p.2) fun H2 s2 => ⟨_, s2 _ _ (same_new hT _ _ p.2), ?_, ?_, ?_⟩
    · rw [List.length_take]
      exact small1000000 (by omega)
    · exact same_put (p.1.trans ((same_new hT).trans s2)) hD
    · rw [upd_same, List.take_add_one, List.getElem?_eq_getElem hi]
      rfl
  · refine hd H' p.1 ?_
    have e := p.2
    rw [← hn, List.take_length] at e
    exact e
theorem lc_enumTV {K : PySem.W.Frag} {a : Addr} {xs ys : List V} {g : TG} {tt : TT} {te : TE} {vs : List Nat} {σ : L2.St} {H : Hp} {D : Addr} {Qd : Hp → Prop} (hD : H D = none) (hS : SqT K H a xs) (hn : ys.length = xs.length) (hz : xs.length ≤ 1000000)
    (hs : ∀ (i : Nat) (x y : V) (T : Addr) (H' : Hp) (C : VK) (N : Hp → Prop), xs[i]? = some x → ys[i]? = some y → H' T = none → Same H H' → H' D ≠ none → (∀ H2, Same (upd H' T (.tup [.int (i : Nat), x])) H2 → C y H2) → g (.ref T) (wipe σ vs) (upd H' T (.tup [.int (i : Nat), x])) fun σ2 H2 => wipe σ2 vs = wipe σ vs ∧ tt σ2 H2 fun b H3 => if b = true then te σ2 H3 C else N H3)
    (hd : ∀ H', Same H H' → H' D = some (.lst ys) → Qd H') :
    ∃ W : Nat → Nat → Hp → Prop, (∃ m, W 0 m (upd H D (.lst []))) ∧ ∀ i m H, W i m H →
      ((Itet K a).stop i H ∧ Qd H) ∨ ((Itet K a).go i H ∧ ∃ Nx : Hp → Prop, (∀ H', Nx H' → ∃ m', m' < m ∧ W (i + 1) m' H') ∧ ∀ x H', (Itet K a).yld i H x H' → g x (wipe σ vs) H' fun σ2 H2 => wipe σ2 vs = wipe σ vs ∧ tt σ2 H2 fun b H3 =>
        if b = true then te σ2 H3 fun y H4 => ∃ acc, H4 D = some (.lst acc) ∧ acc.length < sizeLine ∧ Nx (upd H4 D (.lst (acc ++ [y]))) else Nx H3) := by
  refine lc_enumT (K := K) (a := a) (xs := xs) (fun i H' => Same H H' ∧ H' D = some (.lst (ys.take i))) ⟨same_new hD, by rw [upd_same]; rfl⟩ (fun i H' _ p => same_sqt p.1 hS) (fun i x T H' hx hT p => ?_) (fun H' p => ?_)
  · have hi : i < ys.length := by
      rw [hn]
      exact (List.getElem?_eq_some_iff.mp hx).1
    refine hs i x ys[i] T H' _ _ hx (List.getElem?_eq_getElem hi) hT p.1 (ne_none p.2) fun H2 s2 => ⟨_, s2 _ _ (same_new hT _ _ p.2), ?_, ?_, ?_⟩
    · rw [List.length_take]
      exact small1000000 (by omega)
    · exact same_put (p.1.trans ((same_new hT).trans s2)) hD
    · rw [upd_same, List.take_add_one, List.getElem?_eq_getElem hi]
      rfl
  · refine hd H' p.1 ?_
    have e := p.2
    rw [← hn, List.take_length] at e
    exact e
/-- elements are data that are made on the way -/
theorem lc_enumD {K : PySem.W.Frag} {a : Addr} {xs : List V} {ys : List PyData} {g : TG} {tt : TT} {te : TE} {vs : List Nat} {σ : L2.St} {H : Hp} {D : Addr} {Qd : Hp → Prop} (M : Ms) (hM : Mk M H) (hD : H D = none) (hS : SqL K H a xs) (hn : ys.length = xs.length) (hz : xs.length ≤ 1000000)
    (hs : ∀ (i : Nat) (x : V) (y : PyData) (T : Addr) (H' : Hp) (C : VK) (N : Hp → Prop), xs[i]? = some x → ys[i]? = some y → H' T = none → Same H H' → Mk (also M D) (upd H' T (.tup [.int (i : Nat), x])) → (∀ v H2, Same (upd H' T (.tup [.int (i : Nat), x])) H2 → Rp (also M D) H2 v y → C v H2) → g (.ref T) (wipe σ vs) (upd H' T (.tup [.int (i : Nat), x])) fun σ2 H2 => wipe σ2 vs = wipe σ vs ∧ tt σ2 H2 fun b H3 => if b = true then te σ2 H3 C else N H3)
    (hd : ∀ H', Same H H' → Ld M H' D ys → Qd H') :
    ∃ W : Nat → Nat → Hp → Prop, (∃ m, W 0 m (upd H D (.lst []))) ∧ ∀ i m H, W i m H →
      ((Ite K a).stop i H ∧ Qd H) ∨ ((Ite K a).go i H ∧ ∃ Nx : Hp → Prop, (∀ H', Nx H' → ∃ m', m' < m ∧ W (i + 1) m' H') ∧ ∀ x H', (Ite K a).yld i H x H' → g x (wipe σ vs) H' fun σ2 H2 => wipe σ2 vs = wipe σ vs ∧ tt σ2 H2 fun b H3 =>
        if b = true then te σ2 H3 fun y H4 => ∃ acc, H4 D = some (.lst acc) ∧ acc.length < sizeLine ∧ Nx (upd H4 D (.lst (acc ++ [y]))) else Nx H3) := by
  refine lc_enum (K := K) (a := a) (xs := xs) (fun i H' => Same H H' ∧ ∃ acc, H' D = some (.lst acc) ∧ RpAll (also M D) H' acc (ys.take i)) ⟨same_new hD, [], upd_same, by rw [List.take_zero]; exact .nil⟩ (fun i H' _ p => p.1.seq hS) (fun i x T H' hx hT p => ?_) (fun H' p => ?_)
  · obtain ⟨s, acc, e, r⟩ := p
    have hi : i < ys.length := by
      rw [hn]
      exact (List.getElem?_eq_some_iff.mp hx).1
    have hl := r.length
    rw [List.length_take] at hl
    have s1 : Same H' (upd H' T (.tup [.int (i : Nat), x])) := same_new hT
    refine hs i x ys[i] T H' _ _ hx (List.getElem?_eq_getElem hi) hT s (((hM.gr (Gr.same s)).also (ne_none e)).gr (Gr.same s1)) fun v H2 s2 rv => ?_
    refine ⟨acc, s2 _ _ (s1 _ _ e), small1000000 (by omega), ?_, acc ++ [v], upd_same, ?_⟩
    · exact same_put (s.trans (s1.trans s2)) hD
    · rw [List.take_add_one, List.getElem?_eq_getElem hi]
      exact ((r.sx (Sx.same (s1.trans s2))).append (.one rv)).sx (Sx.put (.inr rfl))
  · obtain ⟨s, acc, e, r⟩ := p
    rw [← hn, List.take_length] at r
    exact hd H' s ⟨hM.out hD, acc, e, r.less also_le⟩
end D
namespace D
open PySem PySem.Spec PyProof.Rows L2
theorem mt_lcountK {K : PySem.W.Frag} {X : Cx} (hK : X.K = K) : MtR X "list.count" (rCntI K) := by subst hK; exact mt_lcount
end D
namespace D
open PySem PySem.Spec PyProof.Rows L2
section
variable {X : Cx} {K : PySem.W.Frag} {o e : Expr} {es : List Expr} {to : TE} {t : TA} {name : Str} {apos cpos : Pos} {T id : String} {r : V → List V → Hp → VK → Prop}
theorem pe_bm0K2 (hK : X.K = K) (pa : PlainAttrs T) (slot : Slot T name id) (hty : typeOf (.builtin id) = pure (.type "method_descriptor")) (hm : MtR X id r) (ho : PE X o to)
    (hbase : attributeBase o name X.env (eval o X.env) = eval o X.env := by rfl) (hline : (apos.endLine == cpos.line) = true := by rfl) : PE X (.Call (.Attribute o name apos) [] [] cpos) (tBM0 K T r to) := by
  subst hK
  exact pe_bm0 pa slot hty hm ho hbase hline
theorem pe_bmK2 (hK : X.K = K) (pa : PlainAttrs T) (slot : Slot T name id) (hty : typeOf (.builtin id) = pure (.type "method_descriptor")) (hm : MtR X id r) (ho : PE X o to) (ha : PA X (e :: es) t)
    (hbase : attributeBase o name X.env (eval o X.env) = eval o X.env := by rfl)
    (hfew : ((backTo cpos (starEach (e :: es) X.env)).all (fun x => !x.1) && (backToKw cpos (keywordEach [] X.env)).all (fun x => x.1.isSome)
      && decide ((e :: es).length + ([] : List Keyword).length + (if ([] : List Keyword).isEmpty then 0 else 1) < 30)) = true := by rfl)
    (hline : (apos.endLine == cpos.line) = true := by rfl) (hs : starEach (e :: es) X.env = (false, eval e X.env) :: starEach es X.env := by rfl) (hplain : (backTo cpos (starEach es X.env)).any (·.1) = false := by rfl) :
    PE X (.Call (.Attribute o name apos) (e :: es) [] cpos) (tBM K T r to t) := by
  subst hK
  exact pe_bm pa slot hty hm ho ha hbase hfew hline hs hplain
end
end D

namespace D
open PySem PySem.Spec PyProof.Rows L2
/-- comprehensions' loops, whatever their bodies -/
theorem rng_loop {n : Nat} {lo : Int} {Qd : Hp → Prop} {H0 : Hp} {B : V → Hp → (Hp → Prop) → Prop} (Pv : Nat → Hp → Prop) (h0 : Pv 0 H0) (hs : ∀ i H, i < n → Pv i H → B (.int (lo + (i : Nat))) H (Pv (i + 1))) (hd : ∀ H, Pv n H → Qd H) :
    ∃ W : Nat → Nat → Hp → Prop, (∃ m, W 0 m H0) ∧ ∀ i m H, W i m H → ((Itr lo n).stop i H ∧ Qd H) ∨ ((Itr lo n).go i H ∧ ∃ Nx : Hp → Prop, (∀ H', Nx H' → ∃ m', m' < m ∧ W (i + 1) m' H') ∧ ∀ x H', (Itr lo n).yld i H x H' → B x H' Nx) := by
  refine ⟨fun i m H => m = n - i ∧ i ≤ n ∧ Pv i H, ⟨_, rfl, Nat.zero_le _, h0⟩, ?_⟩
  rintro i m H ⟨rfl, hi, p⟩
  by_cases hlt : i < n
  · refine .inr ⟨hlt, Pv (i + 1), fun H' p' => ⟨n - (i + 1), by omega, rfl, hlt, p'⟩, fun x H' y => ?_⟩
    obtain ⟨rfl, rfl⟩ := y
    exact hs i _ hlt p
  · have e : i = n := by omega
    subst e
    exact .inl ⟨Nat.le_refl _, hd H p⟩
theorem list_loop {K : PySem.W.Frag} {a : Addr} {xs : List V} {Qd : Hp → Prop} {H0 : Hp} {B : V → Hp → (Hp → Prop) → Prop} (Pv : Nat → Hp → Prop) (h0 : Pv 0 H0) (hl : ∀ i H, i ≤ xs.length → Pv i H → SqL K H a xs) (hs : ∀ i x H, xs[i]? = some x → Pv i H → B x H (Pv (i + 1))) (hd : ∀ H, Pv xs.length H → Qd H) :
    ∃ W : Nat → Nat → Hp → Prop, (∃ m, W 0 m H0) ∧ ∀ i m H, W i m H → ((Itl K a).stop i H ∧ Qd H) ∨ ((Itl K a).go i H ∧ ∃ Nx : Hp → Prop, (∀ H', Nx H' → ∃ m', m' < m ∧ W (i + 1) m' H') ∧ ∀ x H', (Itl K a).yld i H x H' → B x H' Nx) := by
  refine ⟨fun i m H => m = xs.length - i ∧ i ≤ xs.length ∧ Pv i H, ⟨_, rfl, Nat.zero_le _, h0⟩, ?_⟩
  rintro i m H ⟨rfl, hi, p⟩
  have q := hl i H hi p
  by_cases hlt : i < xs.length
  · refine .inr ⟨⟨xs, xs[i], q, by simp [hlt]⟩, Pv (i + 1), fun H' p' => ⟨xs.length - (i + 1), by omega, rfl, hlt, p'⟩, fun x H' y => ?_⟩
    obtain ⟨e, y⟩ := y
    subst e
    exact hs i x _ (y xs q) p
  · have e : i = xs.length := by omega
    subst e
    exact .inl ⟨⟨xs, q, Nat.le_refl _⟩, hd H p⟩
theorem tup_loop {K : PySem.W.Frag} {a : Addr} {xs : List V} {Qd : Hp → Prop} {H0 : Hp} {B : V → Hp → (Hp → Prop) → Prop} (Pv : Nat → Hp → Prop) (h0 : Pv 0 H0) (hl : ∀ i H, i ≤ xs.length → Pv i H → SqT K H a xs) (hs : ∀ i x H, xs[i]? = some x → Pv i H → B x H (Pv (i + 1))) (hd : ∀ H, Pv xs.length H → Qd H) :
    ∃ W : Nat → Nat → Hp → Prop, (∃ m, W 0 m H0) ∧ ∀ i m H, W i m H → ((Itt K a).stop i H ∧ Qd H) ∨ ((Itt K a).go i H ∧ ∃ Nx : Hp → Prop, (∀ H', Nx H' → ∃ m', m' < m ∧ W (i + 1) m' H') ∧ ∀ x H', (Itt K a).yld i H x H' → B x H' Nx) := by
  refine ⟨fun i m H => m = xs.length - i ∧ i ≤ xs.length ∧ Pv i H, ⟨_, rfl, Nat.zero_le _, h0⟩, ?_⟩
  rintro i m H ⟨rfl, hi, p⟩
  have q := hl i H hi p
  by_cases hlt : i < xs.length
  · refine .inr ⟨⟨xs, xs[i], q, by simp [hlt]⟩, Pv (i + 1), fun H' p' => ⟨xs.length - (i + 1), by omega, rfl, hlt, p'⟩, fun x H' y => ?_⟩
    obtain ⟨e, y⟩ := y
    subst e
    exact hs i x _ (y xs q) p
  · have e : i = xs.length := by omega
    subst e
    exact .inl ⟨⟨xs, q, Nat.le_refl _⟩, hd H p⟩
/-- a dict made of pairs of whole numbers -/
def toldK (ps : List (Int × Int)) : List (Key × V) := ps.foldl (fun k p => putK k (.inl p.2) (.int p.1)) []
theorem putK_le (c : List (Key × V)) (k : Key) (x : V) : (putK c k x).length ≤ c.length + 1 := by
  unfold putK
  split
  · rw [List.length_map]; omega
  · rw [List.length_append]; exact Nat.le_refl _
theorem toldK_snoc (ps : List (Int × Int)) (p : Int × Int) : toldK (ps ++ [p]) = putK (toldK ps) (.inl p.2) (.int p.1) := by
  unfold toldK
  rw [List.foldl_append]
  rfl
theorem told_all (ps : List (Int × Int)) : ∀ qs : List (Int × Int), (∀ p ∈ qs, p ∈ ps) → ∀ s w, valV (toldK qs) (.inl s) = some w → ∃ v, w = .int v ∧ (v, s) ∈ ps := by
  suffices h : ∀ (qs : List (Int × Int)) (c : List (Key × V)), (∀ p ∈ qs, p ∈ ps) → (∀ s w, valV c (.inl s) = some w → ∃ v, w = .int v ∧ (v, s) ∈ ps) → ∀ s w, valV (qs.foldl (fun k p => putK k (.inl p.2) (.int p.1)) c) (.inl s) = some w → ∃ v, w = .int v ∧ (v, s) ∈ ps from fun qs hq => h qs [] hq (fun s w e => nomatch e)
  intro qs
  induction qs with
  | nil => intro c _ hc; exact hc
  | cons q r ih =>
    intro c hq hc
    refine ih _ (fun p hp => hq p (List.mem_cons_of_mem _ hp)) (fun s w e => ?_)
    rw [valV_put] at e
    split at e
    · rename_i e2
      cases e2
      cases e
      exact ⟨_, rfl, hq q List.mem_cons_self⟩
    · exact hc s w e
theorem told_mem : ∀ (qs : List (Int × Int)) (p : Int × Int), p ∈ qs → ∃ w, valV (toldK qs) (.inl p.2) = some w := by
  suffices h : ∀ (qs : List (Int × Int)) (c : List (Key × V)) (s : Int), ((∃ p ∈ qs, p.2 = s) ∨ ∃ w, valV c (.inl s) = some w) → ∃ w, valV (qs.foldl (fun k p => putK k (.inl p.2) (.int p.1)) c) (.inl s) = some w from fun qs p hp => h qs [] p.2 (.inl ⟨p, hp, rfl⟩)
  intro qs
  induction qs with
  | nil =>
    intro c s h
    rcases h with ⟨_, h, _⟩ | h
    · exact nomatch h
    · exact h
  | cons q r ih =>
    intro c s h
    refine ih _ s ?_
    rcases h with ⟨p, hp, e⟩ | ⟨w, e⟩
    · rcases List.mem_cons.mp hp with rfl | hp
      · exact .inr ⟨_, by rw [valV_put, if_pos (by rw [e])]⟩
      · exact .inl ⟨p, hp, e⟩
    · right
      rw [valV_put]
      split
      · exact ⟨_, rfl⟩
      · exact ⟨w, e⟩
/-- what such a dict tells of a pair -/
theorem told_get {ps : List (Int × Int)} {p : Int × Int} (h : p ∈ ps) : ∃ v, valV (toldK ps) (.inl p.2) = some (.int v) ∧ (v, p.2) ∈ ps := by
  obtain ⟨w, e⟩ := told_mem ps p h
  obtain ⟨v, rfl, hv⟩ := told_all ps ps (fun _ h => h) _ _ e
  exact ⟨v, e, hv⟩
end D

namespace D
open PySem PySem.Spec PyProof.Rows L2
/-! ### dict comprehensions whose keys are tuples (after the layer's own for ints and texts) -/
theorem d_dictSetT {X : Cx} {pins : List (Addr × Obj)} {σ : L2.St} {H : Hp} {s : Shared} {E : Value → Shared → Prop} {D : Addr} {kvs : List (List Key × V)} {k : List Key} {b : Addr} {v : V} {u r : Value} {Q : Unit → Shared → Prop} (hu : X.A.units + 1 < cLine) (I : Inv X pins σ H s) (hD : H D = some (.dT kvs)) (hz : kvs.length < sizeLine)
    (eb : H b = some (.tup (k.map kV))) (ry : RelV (.ref b) u) (rv : RelV v r) (h : ∀ s', Inv X pins σ (upd H D (.dT (putK kvs k v))) s' → Q () s') : wpAny (model X.prog X.w) X.A (dictSet D u r) Q E s := by
  cases (show u = Value.ref b from ry)
  obtain ⟨z, hd, xs, rel, dd⟩ := dt_of I.hok hD
  have hz' : xs.length ≤ sizeLine := by rw [← Paired.length rel]; exact z
  have hl : (putK kvs k v).length ≤ sizeLine := by have := length_putK kvs k v; omega
  refine wpAny_dictSet_heap (hsz := hz') (show (tupleKind (mixKind X.prog X.w)).room X.A from Nat.lt_of_succ_lt hu) (key_of I.hok eb) dd fun h' dd' hs => h _ ?_
  obtain ⟨q, es, ep, hq, h2, h3, h4, _, h5⟩ := dd'
  refine d_write I (by rw [hD]; exact True.intro) hs ⟨q, hq⟩ ⟨hl, hd, _, (rel.put k eb rv).keeps fun c ys ec => ?_, q, es, ep, hq, h2, h3, h4, h5⟩
  rw [upd_ne (ne_of ec hD (fun z => nomatch z))]
  exact ec
theorem key_rd {P : Program} {w : World} {H : Hp} {h : Heap} {a : Addr} {ks : List Key} (ok : HOk P w H h) (e : Rd H a (.tup (ks.map kV))) : (tupleKind (mixKind P w)).is h ks a := by
  obtain ⟨_, its, r, o, h1, h2, n, h3⟩ := (show ObjOk P w H h a (.tup (ks.map kV)) from rd_of ok e)
  exact ⟨o, its.toArray, n, h1, h2, h3, by simpa using items_are r⟩
section
variable {X : Cx}
/-- something holds of all contexts that a block may have -/
abbrev InBlk (X : Cx) (sc : Scope) (F : Cx → Prop) : Prop := ∀ (t : Shared) (G : Hp) (L : Addr) (cells : List (Str × Addr)) (feet : List Addr), F (X.blk t G sc (compEnvC sc cells L X.env) feet)
/-- what a comprehension does with a new dict at D: O what stands there, Put the storing of a pair -/
def tDcG (O : Addr → HO) (Put : Addr → (Hp → Prop) → V → V → Hp → Prop) (walk : TI) (g : TG) (tt : TT) (tk tv : TE) (own : List Nat) : TE := fun σ H Q => walk σ H fun J H1 => ∀ D, H1 D = none → ∃ W : Nat → Nat → Hp → Prop, (∃ m, W 0 m (upd H1 D (O D))) ∧ ∀ i m G, W i m G →
  (J.stop i G ∧ Q (.ref D) G) ∨ (J.go i G ∧ ∃ N : Hp → Prop, (∀ G', N G' → ∃ m', m' < m ∧ W (i + 1) m' G') ∧
    ∀ x G', J.yld i G x G' → g x (wipe σ own) G' fun σ2 G2 => wipe σ2 own = wipe σ own ∧ tt σ2 G2 fun b G3 => if b = true then tk σ2 G3 fun y G4 => tv σ2 G4 fun z G5 => Put D N y z G5 else N G3)
/-- the pair is put into the dict at D -/
def PutT (D : Addr) (N : Hp → Prop) (y z : V) (G : Hp) : Prop := ∃ kvs k b, y = .ref b ∧ G b = some (.tup (k.map kV)) ∧ G D = some (.dT kvs) ∧ kvs.length < sizeLine ∧ N (upd G D (.dT (putK kvs k z)))
/-- what a storing must be -/
def Stores (X : Cx) (Put : Addr → (Hp → Prop) → V → V → Hp → Prop) : Prop := ∀ (B : Cx) (pins : List (Addr × Obj)) (σ : L2.St) (G : Hp) (t : Shared) (D : Addr) (N : Hp → Prop) (y z : V) (u r : Value) (Q : Unit → Shared → Prop) (E : Value → Shared → Prop),
  B.prog = X.prog → B.w = X.w → B.A = X.A → B.K = X.K → Inv B pins σ G t → Put D N y z G → RelV y u → RelV z r → (∀ t' G', Inv B pins σ G' t' → N G' → Q () t') → wpAny (model B.prog B.w) B.A (dictSet D u r) Q E t
theorem pe_dcG {O : Addr → HO} {Put : Addr → (Hp → Prop) → V → V → Hp → Prop} {kx vx tgt it : Expr} {ifs : List Expr} {sc : Scope} {own : List (Str × Nat)} {pos : Pos} {walk : TI} {g : TG} {tt : TT} {tk tv : TE} (mk0 : ∀ (H : Hp) (h : Heap), sysModules < h.objs.size → ObjOk X.prog X.w H (h.push { cls := .type "dict", data := .dict #[] }) h.objs.size (O h.objs.size)) (store : Stores X Put) (calm : X.calm = true) (nod : X.N.Nodup)
    (pi : PI X tgt it walk) (bo : BlkOk X.N X.env.scope sc own) (pg : InBlk X sc fun B => PG B tgt g) (pt : InBlk X sc fun B => PTs B ifs tt) (pk : InBlk X sc fun B => PE B kx tk) (pv : InBlk X sc fun B => PE B vx tv)
    (plain : ∀ x, foldedSetIterable it X.env x = pure x := by intro _; rfl) : PE X (.DictComp kx vx [⟨tgt, it, ifs, 0⟩] sc pos) (tDcG O Put walk g tt tk tv (own.map (·.2))) := ⟨fun pins s σ H Q I h => by
  rw [arm_eval_DictComp]
  have free : ∀ y ∈ sc.names, y.2 = .free → ∃ c, X.env.cells.lookup y.1 = some c := fun y hy e => (bo.free y hy e).elim (fun k => I.ok.has _ (.inl k)) fun k => I.ok.has _ (.inr k)
  refine wpAny_comprehension_free (use := none) rfl plain (closure_ok free) bo.kind (fun y hy e => by rw [bo.uniq y hy, e]) ?_
  -- what is walked, then the empty dict
  refine thn (pi.run pins s σ H _ I h) fun xv s1 hx => thn hx ?_
  rintro itv s2 ⟨ad, feet, tn, J, H2, rfl, I2, T, at2, ft2, q⟩
  refine wpAny_newObj_type (newEnv_comp ?_)
  have fresh : H2 s2.heap.objs.size = none := I2.hok.fresh (Nat.le_refl _)
  obtain ⟨W, ⟨m0, w0⟩, turn⟩ := q _ fresh
  let s3 : Shared := { s2 with heap := s2.heap.push { cls := .type "dict", data := .dict #[] } }
  let D : Addr := s2.heap.objs.size
  let H3 : Hp := upd H2 D (O D)
  let L : Addr := s3.heap.objs.size
  let e3 : Env := compEnvC sc (cellsFrom (L + 1) sc.names (cloFrom X.env.cells sc.names [])) L X.env
  let s4 : Shared := { s3 with heap := pushCells (s3.heap.push { cls := .type "dict", data := .dict #[] }) sc.names }
  have I3 : Inv X pins σ H3 s3 := I2.laid (t' := s2.toks) (fun _ _ e => Heap.get?_push_of_some _ e) (Nat.le_refl _) (mk0 _ s2.heap I2.big)
  have grown : ∀ b o, s2.heap.get? b = some o → s3.heap.get? b = some o := fun _ _ e => Heap.get?_push_of_some _ e
  have low : ∀ b ∈ feet, b < s2.heap.objs.size := fun b hb => Heap.lt_size (T.obj _ _ at2 b hb).choose_spec.1
  have ft3 : ∀ b ∈ feet, FpOk X pins H3 b ∧ b < s3.heap.objs.size := fun b hb => ⟨⟨(upd_ne (Nat.ne_of_lt (low b hb))).trans (ft2 b hb).1, (ft2 b hb).2⟩, by show b < (s2.heap.push _).objs.size; rw [Heap.size_push]; exact Nat.lt_succ_of_lt (low b hb)⟩
  have at3 : tn 0 s3.heap := T.keep _ _ _ at2 fun b _ o e => grown b o e
  have I4 : Inv (X.blk s3 H3 sc e3 feet) [] (wipe σ (own.map (·.2))) H3 s4 := block_start I3 bo nod ft3
  have at4 : tn 0 s4.heap := T.keep _ _ _ at3 fun b _ o e => pushCells_keeps _ _ _ _ (Heap.get?_push_of_some _ e)
  -- the walker's own objects in the block's context
  have foot : ∀ {σ' : L2.St} {G : Hp} {t : Shared}, Inv (X.blk s3 H3 sc e3 feet) [] σ' G t → (∀ b ∈ feet, G b = none) → ∀ b ∈ feet, FpOk (X.blk s3 H3 sc e3 feet) [] G b := by
    intro σ' G t J' none b hb
    refine ⟨none b hb, (J'.ok.exf b hb).1, J'.ok.exfs b hb, .inl hb, fun x c e => (J'.ok.exf b hb).2 x c e, ?_⟩
    intro p hp
    exact nomatch (show p ∈ ([] : List (Addr × Obj)) from by simpa using hp)
  have loop : codeAny (model X.prog X.w) X.A (.compLoop (.DictComp kx vx [⟨tgt, it, ifs, 0⟩] sc pos) 0 (.ref ad) (.ref D) e3) (compPost (model X.prog X.w) X.A X.xe none (fun v t => ∃ x G, Inv X pins σ G t ∧ RelV x v ∧ Q x G) (.ref D) L) s4 := by
    refine compLoop_anyD (fun n t => ∃ i G, Inv (X.blk s3 H3 sc e3 feet) [] (wipe σ (own.map (·.2))) G t ∧ tn i t.heap ∧ (∀ b ∈ feet, G b = none) ∧ W i n G) ?_ m0 ⟨0, H3, I4, at4, fun b hb => (ft3 b hb).1.1, w0⟩
    rintro n t ⟨i, G, IG, atG, nG, wG⟩
    obtain ⟨stop, fin⟩ | ⟨go, N, less, step⟩ := turn i n G wG
    · refine thnF (T.done (X.blk s3 H3 sc e3 feet) rfl rfl rfl calm i [] t _ G (fun _ _ => False) IG (foot IG nG) atG stop) ?_
      rintro r t6 ⟨rfl, I6⟩
      have I7 : Inv X pins σ G t6 := I3.call' (ch := feet) I6.os I6.base I6.hok I6.bare fun b hb => let z := (ft3 b hb).1.2; ⟨z.2.2.1, z.1, z.2.2.2.1, z.2.2.2.2⟩
      obtain ⟨m, names, _⟩ := I6.loc
      obtain ⟨a0, a1, a2, a3, a4, a5⟩ := I3.fpOk (Nat.le_refl _) (show G L = none from I6.free)
      exact ⟨m, names, fun h'' kept => ⟨.ref D, G, I7.turned (t' := t6.toks) (fun b o hb e => (kept.2 b hb).trans e) a0 a1 a3 a4 a5, rfl, fin⟩⟩
    · refine thnF (T.item (X.blk s3 H3 sc e3 feet) rfl rfl rfl calm i [] t _ G (fun _ _ => False) IG (foot IG nG) atG go) ?_
      rintro r t6 ⟨u, rfl, h6⟩
      refine thnF h6 ?_
      rintro _ t7 ⟨x, G7, I7, r7, y7, at7, n7⟩
      refine thnF ((pg _ _ _ _ _).run _ t7 _ G7 x u _ (I7.pinned (foot I7 n7) (T.obj _ _ at7)) r7 (step x G7 y7)) ?_
      rintro _ t8 ⟨σ8, G8, I8, wp8, q8⟩
      refine thnF ((pt _ _ _ _ _).run _ t8 σ8 G8 _ I8 q8) ?_
      rintro b t9 ⟨G9, I9, q9⟩
      have back : ∀ {t' : Shared} {G' : Hp}, Inv (X.blk s3 H3 sc e3 feet) ([] ++ pinsAt feet t7.heap) σ8 G' t' → N G' → ∃ m, m < n ∧ ∃ i G, Inv (X.blk s3 H3 sc e3 feet) [] (wipe σ (own.map (·.2))) G t' ∧ tn i t'.heap ∧ (∀ b ∈ feet, G b = none) ∧ W i m G := by
        intro t' G' I' nx
        obtain ⟨m', lt, w'⟩ := less G' nx
        have held : ∀ b ∈ feet, ∀ o, t7.heap.get? b = some o → t'.heap.get? b = some o ∧ G' b = none := fun b hb o e => let z := I'.pin (b, o) (List.mem_append_right _ (List.mem_append_right _ (mem_pinsAt hb e))); ⟨z.1, z.2.1⟩
        refine ⟨m', lt, i + 1, G', I'.unpinned.weak (by rw [← wp8, wipe_length]) fun j v e => ?_, T.keep _ _ _ at7 fun b hb o e => (held b hb o e).1, fun b hb => ?_, w'⟩
        · exact (wipe_some (wp8 ▸ e)).1
        · obtain ⟨o, e, _⟩ := T.obj _ _ at7 b hb
          exact (held b hb o e).2
      by_cases yes : b = true
      · subst yes
        refine thnF ((pk _ _ _ _ _).run _ t9 σ8 G9 _ I9 q9) ?_
        rintro ku t10 ⟨ky, G10, I10, r10, q10⟩
        refine thnF ((pv _ _ _ _ _).run _ t10 σ8 G10 _ I10 q10) ?_
        rintro vu t11 ⟨vy, G11, I11, r11, putting⟩
        exact store (X.blk s3 H3 sc e3 feet) _ _ _ _ _ _ _ _ _ _ _ _ rfl rfl rfl rfl I11 putting r10 r11 fun t12 G12 I12 nx => back I12 nx
      · have no : b = false := by cases b with | true => exact absurd rfl yes | false => rfl
        subst no
        exact back I9 q9
  exact codeAny_compStart_dict loop (T.self X.A 0 _ _ _ at4 loop)⟩
/-- keys that are tuples of ints and texts -/
abbrev tDcT (walk : TI) (g : TG) (tt : TT) (tk tv : TE) (own : List Nat) : TE := tDcG (fun _ => .dT []) PutT walk g tt tk tv own
theorem stores_T (hu : X.A.units + 1 < cLine) : Stores X PutT := by
  rintro B pins σ G t D N y z u r Q E e1 e2 e3 e4 I ⟨kvs, k, kb, rfl, tup, dict, room, nx⟩ ry rz h
  exact d_dictSetT (by rw [e3]; exact hu) I dict room tup ry rz fun t' I' => h t' _ I' nx
theorem pe_dcT {kx vx tgt it : Expr} {ifs : List Expr} {sc : Scope} {own : List (Str × Nat)} {pos : Pos} {walk : TI} {g : TG} {tt : TT} {tk tv : TE} (hu : X.A.units + 1 < cLine) (calm : X.calm = true) (nod : X.N.Nodup)
    (pi : PI X tgt it walk) (bo : BlkOk X.N X.env.scope sc own) (pg : InBlk X sc fun B => PG B tgt g) (pt : InBlk X sc fun B => PTs B ifs tt) (pk : InBlk X sc fun B => PE B kx tk) (pv : InBlk X sc fun B => PE B vx tv)
    (plain : ∀ x, foldedSetIterable it X.env x = pure x := by intro _; rfl) : PE X (.DictComp kx vx [⟨tgt, it, ifs, 0⟩] sc pos) (tDcT walk g tt tk tv (own.map (·.2))) :=
  pe_dcG (fun _ h b => dt_empty h b) (stores_T hu) calm nod pi bo pg pt pk pv plain
/-! ### dicts whose keys are tuples that may be known to their objects -/
/-- the dict at a: kvs its pairs, ks its keys with the tuples that stand for them -/
def KX (kvs : List (List Key × V)) (ks : List (List Key × Addr)) (xs : List (List Key × Addr × Value)) : Prop := Paired (fun (p : List Key × V) (q : List Key × Addr × Value) => p.1 = q.1 ∧ RelV p.2 q.2.2) kvs xs ∧ xs.map (fun q => (q.1, q.2.1)) = ks
def dXo (P : Program) (w : World) (a : Addr) (kvs : List (List Key × V)) (ks : List (List Key × Addr)) : HO := .ext fun h => kvs.length ≤ sizeLine ∧ (a == sysModules) = false ∧ ∃ xs, KX kvs ks xs ∧ (∃ o es ep, h.get? a = some o ∧ o.ExactDict ∧ o.data = .dict es ep ∧ es.toList = xs.map (entryOfKey (tupleKind (mixKind P w)))) ∧ (xs.map (·.1)).Nodup
theorem dXo_ok {P : Program} {w : World} {H : Hp} {h : Heap} {a : Addr} {kvs : List (List Key × V)} {ks : List (List Key × Addr)} {xs : List (List Key × Addr × Value)} {o : Obj} {es : Array DictEntry} {ep : Nat} (l : kvs.length ≤ sizeLine) (n : (a == sysModules) = false) (r : KX kvs ks xs) (g : h.get? a = some o) (x : o.ExactDict) (d : o.data = .dict es ep)
    (e : es.toList = xs.map (entryOfKey (tupleKind (mixKind P w)))) (nd : (xs.map (·.1)).Nodup) : ObjOk P w H h a (dXo P w a kvs ks) := by
  refine ⟨⟨l, n, xs, r, ⟨o, es, ep, g, x, d, e⟩, nd⟩, ⟨o, g⟩, ?_⟩
  rintro h1 h2 ⟨l1, n1, xs1, r1, ⟨o1, es1, ep1, g1, x1, d1, e1⟩, nd1⟩ same
  exact ⟨l1, n1, xs1, r1, ⟨o1, es1, ep1, same o1 g1, x1, d1, e1⟩, nd1⟩
/-- the tuples stand -/
def KsAt (H : Hp) (ks : List (List Key × Addr)) : Prop := ∀ p ∈ ks, Rd H p.2 (.tup (p.1.map kV))
theorem dXo_at {P : Program} {w : World} {H : Hp} {h : Heap} {a : Addr} {kvs : List (List Key × V)} {ks : List (List Key × Addr)} (ok : HOk P w H h) (e : H a = some (dXo P w a kvs ks)) (t : KsAt H ks) :
    kvs.length ≤ sizeLine ∧ (a == sysModules) = false ∧ ∃ xs, KX kvs ks xs ∧ h.DictOfH (tupleKind (mixKind P w)) a xs := by
  obtain ⟨⟨l, n, xs, r, ⟨o, es, ep, g, x, d, e1⟩, nd⟩, _⟩ := ok a _ e
  refine ⟨l, n, xs, r, o, es, ep, g, x, d, e1, fun q hq => ?_, nd⟩
  have hk : (q.1, q.2.1) ∈ ks := by rw [← r.2]; exact List.mem_map.mpr ⟨q, hq, rfl⟩
  exact key_rd ok (t _ hk)
theorem paired_keys {F : (List Key × V) → (List Key × Addr × Value) → Prop} (hF : ∀ p q, F p q → p.1 = q.1) : ∀ {kvs : List (List Key × V)} {xs : List (List Key × Addr × Value)}, Paired F kvs xs → kvs.map (·.1) = xs.map (·.1) := by
  intro kvs xs r
  induction r with
  | nil => rfl
  | cons h t ih => rw [List.map_cons, List.map_cons, ih, hF _ _ h]
theorem kx_val {kvs : List (List Key × V)} {ks : List (List Key × Addr)} {xs : List (List Key × Addr × Value)} (r : KX kvs ks xs) (k : List Key) : RelO (valV kvs k) ((atKey xs k).map (·.2)) := by
  replace r := r.1
  induction r with
  | nil => exact True.intro
  | @cons p q ps qs h t ih =>
    by_cases c : p.1 = k
    · have c' : q.1 = k := h.1.symm.trans c
      rw [valV_pos c, show atKey (q :: qs) k = some q.2 by simp [atKey, List.find?_cons, c']]
      exact h.2
    · have c' : ¬ q.1 = k := fun z => c (h.1.trans z)
      rw [valV_neg c, show atKey (q :: qs) k = atKey qs k by simp [atKey, List.find?_cons, c']]
      exact ih
/-- the keys behind a storing -/
def ksPut (kvs : List (List Key × V)) (ks : List (List Key × Addr)) (k : List Key) (b : Addr) : List (List Key × Addr) := if (valV kvs k).isSome = true then ks else ks ++ [(k, b)]
theorem kx_put {kvs : List (List Key × V)} {ks : List (List Key × Addr)} {xs : List (List Key × Addr × Value)} (r : KX kvs ks xs) (k : List Key) (b : Addr) {y : V} {u : Value} (ry : RelV y u) : KX (putK kvs k y) (ksPut kvs ks k b) (storedH xs k b u) := by
  have e : (valV kvs k).isSome = (atKey xs k).isSome := by rw [(kx_val r k).isSome_eq, Option.isSome_map]
  obtain ⟨r, rk⟩ := r
  unfold putK storedH ksPut
  rw [valV_any, e]
  by_cases c : (atKey xs k).isSome = true
  · rw [if_pos c, if_pos c, if_pos c]
    refine ⟨?_, ?_⟩
    · clear rk e c
      induction r with
      | nil => exact .nil
      | @cons p q ps qs h t ih =>
        refine .cons ?_ ih
        show (if p.1 = k then (p.1, y) else p).1 = (putAt k u q).1 ∧ RelV (if p.1 = k then (p.1, y) else p).2 (putAt k u q).2.2
        unfold putAt
        by_cases d : p.1 = k
        · rw [if_pos d, if_pos (h.1.symm.trans d)]
          exact ⟨h.1, ry⟩
        · rw [if_neg d, if_neg (fun z => d (h.1.trans z))]
          exact h
    · rw [← rk, List.map_map]
      refine List.map_congr_left fun q _ => ?_
      show ((putAt k u q).1, (putAt k u q).2.1) = _
      unfold putAt
      split <;> rfl
  · rw [if_neg c, if_neg c, if_neg c]
    exact ⟨Paired.snoc r ⟨rfl, ry⟩, by rw [List.map_append, rk]; rfl⟩
def PutX (P : Program) (w : World) (D : Addr) (N : Hp → Prop) (y z : V) (G : Hp) : Prop := ∃ kvs ks k b, y = .ref b ∧ Rd G b (.tup (k.map kV)) ∧ G D = some (dXo P w D kvs ks) ∧ KsAt G ks ∧ kvs.length < sizeLine ∧ N (upd G D (dXo P w D (putK kvs k z) (ksPut kvs ks k b)))
theorem stores_X (hu : X.A.units + 1 < cLine) : Stores X (PutX X.prog X.w) := by
  rintro B pins σ G t D N y z u r Q E e1 e2 e3 e4 I ⟨kvs, ks, k, kb, rfl, tup, dict, kat, room, nx⟩ ry rz h
  cases (show u = Value.ref kb from ry)
  rw [← e1, ← e2] at dict nx
  obtain ⟨l, n, xs, rel, dd⟩ := dXo_at I.hok dict kat
  have lx : xs.length = kvs.length := (Paired.length rel.1).symm
  refine wpAny_dictSet_heap (hsz := by omega) (show (tupleKind (mixKind B.prog B.w)).room B.A from by rw [e3]; exact Nat.lt_of_succ_lt hu) (key_rd I.hok tup) dd fun h' dd' same => h _ _ ?_ nx
  obtain ⟨o, es, ep, g, x, d, e5, _, nd⟩ := dd'
  exact d_write I (by rw [dict]; exact True.intro) same ⟨o, g⟩ (dXo_ok (Nat.le_trans (length_putK kvs k z) room) n (kx_put rel k kb rz) g x d e5 nd)
theorem dXo_empty {P : Program} {w : World} (H : Hp) (h : Heap) (b : sysModules < h.objs.size) : ObjOk P w H (h.push { cls := .type "dict", data := .dict #[] }) h.objs.size (dXo P w h.objs.size [] []) :=
  dXo_ok (xs := []) (Nat.zero_le _) (beq_eq_false_iff_ne.mpr (Ne.symm (Nat.ne_of_lt b))) ⟨.nil, rfl⟩ (Heap.get?_push_size _ rfl) ⟨rfl, rfl, rfl⟩ rfl rfl List.nodup_nil
abbrev tDcX (P : Program) (w : World) (walk : TI) (g : TG) (tt : TT) (tk tv : TE) (own : List Nat) : TE := tDcG (fun D => dXo P w D [] []) (PutX P w) walk g tt tk tv own
theorem pe_dcX {P : Program} {w : World} (hP : X.prog = P) (hw : X.w = w) {kx vx tgt it : Expr} {ifs : List Expr} {sc : Scope} {own : List (Str × Nat)} {pos : Pos} {walk : TI} {g : TG} {tt : TT} {tk tv : TE} (hu : X.A.units + 1 < cLine) (calm : X.calm = true) (nod : X.N.Nodup)
    (pi : PI X tgt it walk) (bo : BlkOk X.N X.env.scope sc own) (pg : InBlk X sc fun B => PG B tgt g) (pt : InBlk X sc fun B => PTs B ifs tt) (pk : InBlk X sc fun B => PE B kx tk) (pv : InBlk X sc fun B => PE B vx tv)
    (plain : ∀ x, foldedSetIterable it X.env x = pure x := by intro _; rfl) : PE X (.DictComp kx vx [⟨tgt, it, ifs, 0⟩] sc pos) (tDcX P w walk g tt tk tv (own.map (·.2))) := by
  subst hP hw
  exact pe_dcG (fun H h b => dXo_empty H h b) (stores_X hu) calm nod pi bo pg pt pk pv plain
/-- d[k] of such a dict -/
def tXGet (P : Program) (w : World) (td ty : TE) : TE := fun σ H Q => td σ H fun x H1 => ty σ H1 fun y H2 => ∃ a kvs ks k b v, x = .ref a ∧ y = .ref b ∧ H2 a = some (dXo P w a kvs ks) ∧ KsAt H2 ks ∧ Rd H2 b (.tup (k.map kV)) ∧ valV kvs k = some v ∧ Q v H2
theorem pe_xget {P : Program} {w : World} (hP : X.prog = P) (hw : X.w = w) (hu : X.A.units + 1 < cLine) {o i : Expr} {td ty : TE} {pos : Pos} (ho : PE X o td) (hi : PE X i ty) (hs : NoSl i) : PE X (.Subscript o i pos) (tXGet P w td ty) := by
  subst hP hw
  refine ⟨fun pins s σ H Q I h => ?_⟩
  refine subD_of PySem.F.slot_dict_getitem.lookup hs (thn (ho.run pins s σ H _ I h) fun ov s1 ⟨x, H1, I1, rx, q1⟩ => thn (hi.run pins s1 σ H1 _ I1 q1) ?_)
  rintro iv s2 ⟨y, H2, I2, ry, a, kvs, ks, k, b, v, rfl, rfl, dict, kat, tup, has, q2⟩
  obtain rfl : ov = Value.ref a := rx
  cases (show iv = Value.ref b from ry)
  obtain ⟨l, n, xs, rel, dd⟩ := dXo_at I2.hok dict kat
  have rv := kx_val rel k
  rw [has] at rv
  obtain ⟨u, hp, ru⟩ := RelO.some_of rv
  obtain ⟨p, hp', rfl⟩ := Option.map_eq_some_iff.mp hp
  refine ⟨?_, wpAny_getItem_heap (tupleKind_room_in1 hu) (key_rd I2.hok tup) dd hp' ?_⟩
  · obtain ⟨o', es, ep, g, x, _⟩ := dd
    exact ⟨o', g, x.1⟩
  · exact ⟨v, H2, I2.tok _, ru, q2⟩
/-- deep membership, in lists and in tuples -/
def rInDT (K : PySem.W.Frag) : R2 := fun x y H Q => ∃ d ds, Dp K H x d ∧ Dp K H y (.tuple ds) ∧ SeqAt.shaped d = true ∧ SeqAt.shaped (.tuple ds) = true ∧ Q (.bl (ds.any fun z => PyData.eqv z d)) H
def rNotInDT (K : PySem.W.Frag) : R2 := fun x y H Q => ∃ d ds, Dp K H x d ∧ Dp K H y (.tuple ds) ∧ SeqAt.shaped d = true ∧ SeqAt.shaped (.tuple ds) = true ∧ Q (.bl (!ds.any fun z => PyData.eqv z d)) H
theorem op_inDT {K : PySem.W.Frag} (hK : X.K = K) (hu : X.A.units + 65 < cLine) : OpR X (compareOp .In) (rInDT K) := by
  subst hK
  intro pins s σ H x y v u Q I rx ry h
  obtain ⟨d, ds, hd, he, sd, se, q⟩ := h
  obtain ⟨as, r1⟩ := Dp.reads I d x v hd rx
  obtain ⟨bs, r2⟩ := Dp.reads I (.tuple ds) y u he ry
  exact SeqAt.in_tuple_reads r2 r1 (SeqAt.canLay_of_shaped se) (SeqAt.canLay_of_shaped sd) (room_in_shaped sd hu) ⟨.bl _, H, I, rfl, q⟩
theorem op_notInDT {K : PySem.W.Frag} (hK : X.K = K) (hu : X.A.units + 65 < cLine) : OpR X (compareOp .NotIn) (rNotInDT K) := by
  subst hK
  intro pins s σ H x y v u Q I rx ry h
  obtain ⟨d, ds, hd, he, sd, se, q⟩ := h
  obtain ⟨as, r1⟩ := Dp.reads I d x v hd rx
  obtain ⟨bs, r2⟩ := Dp.reads I (.tuple ds) y u he ry
  exact SeqAt.notIn_tuple_reads r2 r1 (SeqAt.canLay_of_shaped se) (SeqAt.canLay_of_shaped sd) (room_in_shaped sd hu) ⟨.bl _, H, I, rfl, q⟩
theorem op_inDK {K : PySem.W.Frag} (hK : X.K = K) (hu : X.A.units + 65 < cLine) : OpR X (compareOp .In) (rInD K) := by subst hK; exact op_inD hu
theorem op_notInDK {K : PySem.W.Frag} (hK : X.K = K) (hu : X.A.units + 65 < cLine) : OpR X (compareOp .NotIn) (rNotInD K) := by subst hK; exact op_notInD hu
/-- t.index(n), the first place, of a tuple of ints -/
def rTIdx (K : PySem.W.Frag) : V → List V → Hp → VK → Prop := fun x xs H Q => ∃ p, ∃ ys : List Int, ∃ z j, x = .ref p ∧ xs = [.int z] ∧ SqT K H p (ys.map V.int) ∧ ys[j]? = some z ∧ (∀ m, m < j → ys[m]? ≠ some z) ∧ Q (.int (j : Nat)) H
theorem flat_ints (ys : List Int) : (ys.map V.int).all flatV = true := by induction ys <;> simp_all [flatV]
theorem mt_tup_indexI {K : PySem.W.Frag} (hK : X.K = K) : MtR X "tuple.index" (rTIdx K) := by
  subst hK
  rintro pins s σ H _ _ v us Q I rx rs ⟨p, ys, z, j, rfl, rfl, reads, found, first, q⟩
  cases rx
  obtain ⟨_, rfl, tk, rfl⟩ := vals1 rs
  obtain ⟨its, vals, ⟨⟨_, dd, _, sl⟩, stands, rfl, n, rfl⟩, _⟩ := I.tuple reads
  have size : its.length = ys.length := by simpa using vals.length.symm
  have item : ∀ m : Nat, m < ys.length → ∃ t', its[m]? = some (Value.int (ys.getD m 0) t') := by
    intro m hm
    obtain ⟨w, hw, t', rfl⟩ := vals.get (i := m) (x := V.int (ys.getD m 0)) (by simp [hm])
    exact ⟨t', hw⟩
  have eqs : ∀ (m : Nat) (hm : m < its.toArray.size), eqU (V.int z) its.toArray[m] = decide (ys.getD m 0 = z) := by
    intro m hm
    obtain ⟨t', e⟩ := item m (by simpa [size] using hm)
    have e' : its.toArray[m] = Value.int (ys.getD m 0) t' := by
      have := (List.getElem?_eq_some_iff.mp e).2
      simpa using this
    rw [e']
    rfl
  have inside := (List.getElem?_eq_some_iff.mp found).1
  have jz : ys.getD j 0 = z := by rw [List.getD_eq_getElem?_getD, found]; rfl
  have answer := TI.tuple_indexAt p its.toArray n dd sl (.int z tk) (eqU (.int z)) j (by simpa [size] using inside) (by rw [eqs, jz]; exact decide_eq_true rfl) (fun m hm lt => by
    rw [eqs]
    refine decide_eq_false fun e => first m lt ?_
    have inm : m < ys.length := by simpa [size] using hm
    rw [List.getElem?_eq_getElem inm, ← e, List.getD_eq_getElem?_getD, List.getElem?_eq_getElem inm]
    rfl)
  exact call_meets PySem.F.slot_tuple_index ⟨_, stands, rfl⟩ PySem.F.entry_tuple_index (PySem.F.args_tuple_index_2 _ _) answer
    ⟨stands, fun w hw => mem_eqAt (x := .int z) ⟨tk, rfl⟩ rfl vals (flat_ints ys) w (by simpa using hw), ⟨.int (j : Nat), H, I.tok _, ⟨_, rfl⟩, q⟩⟩
end
/-! ### loops over enumerate and zip, whatever their bodies -/
theorem enumL_loop {K : PySem.W.Frag} {a : Addr} {xs : List V} {Qd : Hp → Prop} {H0 : Hp} {B : V → Hp → (Hp → Prop) → Prop} (Pv : Nat → Hp → Prop) (h0 : Pv 0 H0) (hl : ∀ i H, i ≤ xs.length → Pv i H → SqL K H a xs) (hs : ∀ i x T H, xs[i]? = some x → H T = none → Pv i H → B (.ref T) (upd H T (.tup [.int (i : Nat), x])) (Pv (i + 1))) (hd : ∀ H, Pv xs.length H → Qd H) :
    ∃ W : Nat → Nat → Hp → Prop, (∃ m, W 0 m H0) ∧ ∀ i m H, W i m H → ((Ite K a).stop i H ∧ Qd H) ∨ ((Ite K a).go i H ∧ ∃ Nx : Hp → Prop, (∀ H', Nx H' → ∃ m', m' < m ∧ W (i + 1) m' H') ∧ ∀ x H', (Ite K a).yld i H x H' → B x H' Nx) := by
  refine ⟨fun i m H => m = xs.length - i ∧ i ≤ xs.length ∧ Pv i H, ⟨_, rfl, Nat.zero_le _, h0⟩, ?_⟩
  rintro i m H ⟨rfl, hi, p⟩
  have q := hl i H hi p
  by_cases hlt : i < xs.length
  · refine .inr ⟨⟨xs, xs[i], q, by simp [hlt]⟩, Pv (i + 1), fun H' p' => ⟨xs.length - (i + 1), by omega, rfl, hlt, p'⟩, fun x H' y => ?_⟩
    obtain ⟨T, z, rfl, hT, rfl, hz⟩ := y
    exact hs i z T _ (hz xs q) hT p
  · have e : i = xs.length := by omega
    subst e
    exact .inl ⟨⟨xs, q, Nat.le_refl _⟩, hd H p⟩
theorem enumT_loop {K : PySem.W.Frag} {a : Addr} {xs : List V} {Qd : Hp → Prop} {H0 : Hp} {B : V → Hp → (Hp → Prop) → Prop} (Pv : Nat → Hp → Prop) (h0 : Pv 0 H0) (hl : ∀ i H, i ≤ xs.length → Pv i H → SqT K H a xs) (hs : ∀ i x T H, xs[i]? = some x → H T = none → Pv i H → B (.ref T) (upd H T (.tup [.int (i : Nat), x])) (Pv (i + 1))) (hd : ∀ H, Pv xs.length H → Qd H) :
    ∃ W : Nat → Nat → Hp → Prop, (∃ m, W 0 m H0) ∧ ∀ i m H, W i m H → ((Itet K a).stop i H ∧ Qd H) ∨ ((Itet K a).go i H ∧ ∃ Nx : Hp → Prop, (∀ H', Nx H' → ∃ m', m' < m ∧ W (i + 1) m' H') ∧ ∀ x H', (Itet K a).yld i H x H' → B x H' Nx) := by
  refine ⟨fun i m H => m = xs.length - i ∧ i ≤ xs.length ∧ Pv i H, ⟨_, rfl, Nat.zero_le _, h0⟩, ?_⟩
  rintro i m H ⟨rfl, hi, p⟩
  have q := hl i H hi p
  by_cases hlt : i < xs.length
  · refine .inr ⟨⟨xs, xs[i], q, by simp [hlt]⟩, Pv (i + 1), fun H' p' => ⟨xs.length - (i + 1), by omega, rfl, hlt, p'⟩, fun x H' y => ?_⟩
    obtain ⟨T, z, rfl, hT, rfl, hz⟩ := y
    exact hs i z T _ (hz xs q) hT p
  · have e : i = xs.length := by omega
    subst e
    exact .inl ⟨⟨xs, q, rfl⟩, hd H p⟩
end D
namespace D
open PySem PySem.Spec PyProof.Rows L2
section
variable {X : Cx}
/-- tuple(list): the new object is known to have no dict -/
def rTupF (K : PySem.W.Frag) : List V → Hp → VK → Prop := fun xs H Q => ∃ p ys, xs = [.ref p] ∧ SqL K H p ys ∧ ∀ l o, H l = none → o.cls = .type "tuple" → o.dict = none → Q (.ref l) (upd H l (.frz o (.tup ys)))
theorem call_tupleF {K : PySem.W.Frag} (hK : X.K = K) : CallR X (.type "tuple") (rTupF K) := by
  subst hK
  intro pins s σ H xs us Q I r h
  obtain ⟨p, ys, rfl, hq, q⟩ := h
  obtain ⟨u, rfl, rx⟩ := vals1 r
  cases rx
  obtain ⟨its, r', pl, hz⟩ := I.list hq
  have hlen := r'.length
  refine call_tuple_list pl.isList (fun h' kp => ?_) (by simp only [List.size_toArray] <;> omega)
  have I1 : Inv X pins σ H { s with heap := h' } := I.kept (t' := s.toks) kp
  have I2 : Inv X pins σ (upd H h'.objs.size (.frz { cls := .type "tuple", data := .seq its.toArray } (.tup ys))) { s with heap := h'.push { cls := .type "tuple", data := .seq its.toArray } } :=
    I1.laid (t' := s.toks) (fun b o e => Heap.get?_push_of_some _ e) (Nat.le_refl _) (show ObjOk X.prog X.w _ _ _ (.frz _ (.tup ys)) from ⟨Heap.get?_push_size _ rfl, hz, its, r', IsTup.new _ _⟩)
  exact ⟨.ref h'.objs.size, _, I2, rfl, q _ _ (I1.hok.fresh (Nat.le_refl _)) rfl rfl⟩
/-- t[lo:hi], the cut known to its object -/
def rSlF (K : PySem.W.Frag) : V → Option Int → Option Int → Hp → VK → Prop := fun x lo hi H Q => ∃ a xs, x = .ref a ∧ SqT K H a xs ∧
  (HT.sIx xs.length 0 lo = 0 ∧ HT.sIx xs.length xs.length hi = xs.length → Q (.ref a) H) ∧ (¬ (HT.sIx xs.length 0 lo = 0 ∧ HT.sIx xs.length xs.length hi = xs.length) → ∀ p o, H p = none → o.cls = .type "tuple" → o.dict = none → Q (.ref p) (upd H p (.frz o (.tup (cutV xs lo hi)))))
theorem sl_tupF {K : PySem.W.Frag} (hK : X.K = K) : SlR X (rSlF K) := by
  subst hK
  rintro pins s σ H _ v vl vu lo hi sl Q I rx hs pl pu ⟨a, xs, rfl, reads, all, part⟩
  by_cases whole : HT.sIx xs.length 0 lo = 0 ∧ HT.sIx xs.length xs.length hi = xs.length
  · exact sl_tupA pins s σ H _ v vl vu lo hi sl Q I rx hs pl pu ⟨a, xs, rfl, reads, all, fun z => absurd whole z⟩
  · cases rx
    obtain ⟨its, vals, stands, small⟩ := I.tuple reads
    have size : its.toArray.size = xs.length := by rw [List.size_toArray]; exact vals.length.symm
    refine ⟨"tuple", _, PyProof.Rows.slot_tuple_getitem.lookup, stands.typeIs, HT.getItem_tuple_cut stands hs pl pu (by rw [size]; exact whole) ?_ (by rw [size]; exact small)⟩
    rw [size]
    have cut := (vals.drop (HT.sIx xs.length 0 lo)).take (HT.sIx xs.length xs.length hi - HT.sIx xs.length 0 lo)
    let ob : Obj := { cls := .type "tuple", data := .seq ((its.drop (HT.sIx xs.length 0 lo)).take (HT.sIx xs.length xs.length hi - HT.sIx xs.length 0 lo)).toArray }
    have good : ObjOk X.prog X.w (upd H s.heap.objs.size (.frz ob (.tup (cutV xs lo hi)))) (s.heap.push ob) s.heap.objs.size (.frz ob (.tup (cutV xs lo hi))) := ⟨Heap.get?_push_size _ rfl, Nat.le_trans (cutV_length xs lo hi) small, _, cut, IsTup.new _ _⟩
    exact ⟨.ref s.heap.objs.size, _, I.laid (t' := s.toks) (fun b ob e => Heap.get?_push_of_some _ e) (Nat.le_refl _) good, rfl, part whole _ ob (I.hok.fresh (Nat.le_refl _)) rfl rfl⟩
def tyTup (x : V) (H : Hp) : Prop := ∃ a o u, x = .ref a ∧ H a = some (.frz o u) ∧ o.cls = .type "tuple" ∧ o.dict = none
theorem ty_tup : TyOk X "tuple" tyTup := by
  intro pins σ H s x v I r h
  obtain ⟨a, o, u, rfl, e, hc, hd⟩ := h
  cases r
  obtain ⟨e2, _⟩ := I.hok a _ e
  refine ⟨⟨o, e2, hc⟩, fun b eb => ?_⟩
  cases eb
  exact ⟨o, e2, hd⟩
end
/-- rows -/
def RowAt (M : Ms) (H : Hp) (v : V) (ns : List Int) : Prop := ∃ a, v = .ref a ∧ ¬ M a ∧ Rd H a (.tup (ns.map V.int))
def RowF (M : Ms) (H : Hp) (v : V) (ns : List Int) : Prop := ∃ a o, v = .ref a ∧ ¬ M a ∧ H a = some (.frz o (.tup (ns.map V.int))) ∧ o.cls = .type "tuple" ∧ o.dict = none
theorem RowF.row {M : Ms} {H : Hp} {v : V} {ns : List Int} (h : RowF M H v ns) : RowAt M H v ns := by
  obtain ⟨a, o, e, n, ha, _⟩ := h
  exact ⟨a, e, n, .inr ⟨o, ha⟩⟩
theorem RowAt.sx {M : Ms} {H H' : Hp} {v : V} {ns : List Int} (h : RowAt M H v ns) (s : Sx M H H') : RowAt M H' v ns := by
  obtain ⟨a, e, n, ha⟩ := h
  exact ⟨a, e, n, sx_rd s n ha⟩
theorem RowF.sx {M : Ms} {H H' : Hp} {v : V} {ns : List Int} (h : RowF M H v ns) (s : Sx M H H') : RowF M H' v ns := by
  obtain ⟨a, o, e, n, ha, r⟩ := h
  exact ⟨a, o, e, n, s _ _ n ha, r⟩
theorem RowAt.less {M N : Ms} {H : Hp} {v : V} {ns : List Int} (h : RowAt M H v ns) (f : ∀ a, N a → M a) : RowAt N H v ns := by
  obtain ⟨a, e, n, ha⟩ := h
  exact ⟨a, e, fun z => n (f a z), ha⟩
theorem RowF.less {M N : Ms} {H : Hp} {v : V} {ns : List Int} (h : RowF M H v ns) (f : ∀ a, N a → M a) : RowF N H v ns := by
  obtain ⟨a, o, e, n, ha⟩ := h
  exact ⟨a, o, e, fun z => n (f a z), ha⟩
theorem RowF.fresh {M : Ms} {H : Hp} {v : V} {ns : List Int} {p : Addr} (hp : H p = none) (h : RowF M H v ns) : RowF (also M p) H v ns := by
  obtain ⟨a, o, e, n, ha, r⟩ := h
  refine ⟨a, o, e, fun z => ?_, ha, r⟩
  rcases z with z | z
  · exact n z
  · rw [show a = p from z, hp] at ha
    cases ha
end D

namespace D
open PySem PySem.Spec PyProof.Rows L2
theorem hu65 {A : Around} {k : Nat} (hr : Room k A) : A.units + 65 < cLine := by have := hr.un; omega
/-! ### idents and matches -/
abbrev IP := Int × Int
def idp (ws : List Int) : List IP := ws.mapIdx fun i w => (w, (((ws.take i).count w : Nat) : Int))
theorem idp_len (ws : List Int) : (idp ws).length = ws.length := List.length_mapIdx
theorem idp_at {ws : List Int} {i : Nat} {w : Int} (h : ws[i]? = some w) : (idp ws)[i]? = some (w, (((ws.take i).count w : Nat) : Int)) := by
  unfold idp
  rw [List.getElem?_mapIdx, h]
  rfl
theorem nodup_get {α : Type} {l : List α} : l.Nodup ↔ ∀ i j : Nat, i < j → j < l.length → l[i]? ≠ l[j]? := by
  unfold List.Nodup
  rw [List.pairwise_iff_getElem]
  constructor
  · intro h i j hij hj e
    rw [List.getElem?_eq_getElem (Nat.lt_trans hij hj), List.getElem?_eq_getElem hj] at e
    exact h i j (Nat.lt_trans hij hj) hj hij (Option.some.inj e)
  · intro h i j hi hj hij e
    exact h i j hij hj (by rw [List.getElem?_eq_getElem hi, List.getElem?_eq_getElem hj, e])
theorem idp_nodup (ws : List Int) : (idp ws).Nodup := by
  rw [nodup_get]
  intro i j hij hj
  have hj' : j < ws.length := by rw [idp_len] at hj; exact hj
  have hi' : i < ws.length := Nat.lt_trans hij hj'
  have ei : ws[i]? = some ws[i] := List.getElem?_eq_getElem hi'
  have ej : ws[j]? = some ws[j] := List.getElem?_eq_getElem hj'
  rw [idp_at ei, idp_at ej]
  intro e
  have e' := Option.some.inj e
  have e1 : ws[i] = ws[j] := congrArg Prod.fst e'
  have e2 : (((ws.take i).count ws[i] : Nat) : Int) = ((ws.take j).count ws[j] : Nat) := congrArg Prod.snd e'
  have e3 : (ws.take i).count ws[i] = (ws.take j).count ws[j] := Int.ofNat.inj e2
  rw [← e1] at e3
  have s1 : List.Sublist ((ws.take (i + 1))) (ws.take j) := by
    have : ws.take (i + 1) = (ws.take j).take (i + 1) := by rw [List.take_take]; congr 1; omega
    rw [this]
    exact List.take_sublist _ _
  have c1 := s1.count_le ws[i]
  rw [List.take_add_one, ei, List.count_append] at c1
  have : List.count ws[i] (some ws[i]).toList = 1 := by simp
  omega
def pos (B : List IP) (x : IP) : Option Nat := if x ∈ B then some (B.idxOf x) else none
theorem pos_snoc {B : List IP} {b : IP} (hb : b ∉ B) (x : IP) : pos (B ++ [b]) x = if x = b then some B.length else pos B x := by
  unfold pos
  by_cases e : x = b
  · subst e
    rw [if_pos rfl, if_pos (by simp), List.idxOf_append, if_neg hb]
    simp
  · rw [if_neg e]
    by_cases m : x ∈ B
    · rw [if_pos m, if_pos (by simp [m]), List.idxOf_append, if_pos m]
    · rw [if_neg m, if_neg (by simp [m, e])]
theorem pos_take {B : List IP} (hB : B.Nodup) {i : Nat} {b : IP} (h : B[i]? = some b) (x : IP) : pos (B.take (i + 1)) x = if x = b then some i else pos (B.take i) x := by
  have hi : i < B.length := (List.getElem?_eq_some_iff.mp h).1
  have hb : b ∉ B.take i := by
    intro hm
    obtain ⟨j, hj⟩ := List.mem_iff_getElem?.mp hm
    have hji : j < i := by
      have := (List.getElem?_eq_some_iff.mp hj).1
      rw [List.length_take] at this
      omega
    rw [List.getElem?_take_of_lt hji] at hj
    exact (nodup_get.mp hB) j i hji hi (hj.trans h.symm)
  have e : B.take (i + 1) = B.take i ++ [b] := by rw [List.take_add_one, h]; rfl
  have := pos_snoc hb x
  rw [← e, List.length_take, Nat.min_eq_left (Nat.le_of_lt hi)] at this
  exact this
theorem pos_lt {B : List IP} {x : IP} {i : Nat} (h : pos B x = some i) : i < B.length ∧ B[i]? = some x := by
  unfold pos at h
  split at h
  · rename_i m
    cases h
    have hl := List.idxOf_lt_length_of_mem m
    exact ⟨hl, by rw [List.getElem?_eq_getElem hl, List.getElem_idxOf hl]⟩
  · cases h
/-- the key of an ident in a dict -/
def kk (x : IP) : List Key := [.inl x.1, .inl x.2]
theorem kk_inj {x y : IP} (h : kk x = kk y) : x = y := by
  have h' : [(Sum.inl x.1 : Key), .inl x.2] = [.inl y.1, .inl y.2] := h
  injection h' with h1 h2
  injection h2 with h2 _
  exact Prod.ext (Sum.inl.inj h1) (Sum.inl.inj h2)
/-- what a dict tells of idents -/
def Tells (kvs : List (List Key × V)) (B : List IP) : Prop := ∀ x, valV kvs (kk x) = (pos B x).map fun (i : Nat) => V.int (i : Int)
theorem tells_nil : Tells [] [] := fun x => by
  unfold pos
  rw [if_neg (by simp)]
  rfl
theorem tells_put {kvs : List (List Key × V)} {B : List IP} (hB : B.Nodup) {i : Nat} {b : IP} (h : B[i]? = some b) (t : Tells kvs (B.take i)) : Tells (putK kvs (kk b) (.int (i : Nat))) (B.take (i + 1)) := fun x => by
  rw [valV_put, pos_take hB h]
  by_cases e : x = b
  · subst e
    rw [if_pos rfl, if_pos rfl]
    rfl
  · rw [if_neg (fun z => e (kk_inj z)), if_neg e]
    exact t x
def mst (B : List IP) (x : IP) (j : Nat) : List IP := match pos B x with
  | some i => [((i : Int), (j : Int))]
  | none => []
def mt (B N : List IP) : List IP := (N.mapIdx fun j x => mst B x j).flatten
theorem mt_step (B : List IP) {N : List IP} {j : Nat} {x : IP} (h : N[j]? = some x) : mt B (N.take (j + 1)) = mt B (N.take j) ++ mst B x j := by
  have hj : j < N.length := (List.getElem?_eq_some_iff.mp h).1
  unfold mt
  rw [List.take_add_one, h]
  show (List.mapIdx _ (List.take j N ++ [x])).flatten = _
  rw [List.mapIdx_append, List.flatten_append]
  congr 1
  rw [List.length_take, Nat.min_eq_left (Nat.le_of_lt hj)]
  show [mst B x (0 + j)].flatten = _
  rw [Nat.zero_add]
  simp
theorem mst_take {B : List IP} (hB : B.Nodup) {i : Nat} {b : IP} (h : B[i]? = some b) (x : IP) (j : Nat) : mst (B.take (i + 1)) x j = mst (B.take i) x j ++ if b = x then [((i : Int), (j : Int))] else [] := by
  have hn : b = x → pos (B.take i) x = none := fun e => by
    subst e
    unfold pos
    rw [if_neg]
    intro hm
    obtain ⟨k, hk⟩ := List.mem_iff_getElem?.mp hm
    have hji : k < i := by
      have := (List.getElem?_eq_some_iff.mp hk).1
      rw [List.length_take] at this
      omega
    rw [List.getElem?_take_of_lt hji] at hk
    exact (nodup_get.mp hB) k i hji (List.getElem?_eq_some_iff.mp h).1 (hk.trans h.symm)
  unfold mst
  rw [pos_take hB h]
  by_cases e : x = b
  · rw [if_pos e, hn e.symm, if_pos e.symm]
    rfl
  · rw [if_neg e, if_neg (fun z => e z.symm), List.append_nil]
theorem mst_nil (x : IP) (j : Nat) : mst [] x j = [] := by
  unfold mst pos
  rw [if_neg (by simp)]
theorem mst_mem {B : List IP} {x : IP} {j : Nat} {p : IP} (h : p ∈ mst B x j) : ∃ i, i < B.length ∧ p = ((i : Int), (j : Int)) := by
  unfold mst at h
  split at h
  · rename_i i e
    exact ⟨i, (pos_lt e).1, List.mem_singleton.mp h⟩
  · exact nomatch h
theorem mt_mem {B N : List IP} {p : IP} (h : p ∈ mt B N) : ∃ i j : Nat, i < B.length ∧ j < N.length ∧ p = ((i : Int), (j : Int)) := by
  unfold mt at h
  obtain ⟨l, hl, hp⟩ := List.mem_flatten.mp h
  obtain ⟨j, hj, rfl⟩ := List.mem_mapIdx.mp hl
  obtain ⟨i, hi, e⟩ := mst_mem hp
  exact ⟨i, j, hi, hj, e⟩
theorem mst_len (B : List IP) (x : IP) (j : Nat) : (mst B x j).length ≤ 1 := by
  unfold mst
  split <;> simp
theorem mt_len (B N : List IP) : (mt B N).length ≤ N.length := by
  suffices h : ∀ n, n ≤ N.length → (mt B (N.take n)).length ≤ n by
    have := h N.length (Nat.le_refl _)
    rw [List.take_length] at this
    exact this
  intro n
  induction n with
  | zero => intro _; simp [mt]
  | succ n ih =>
    intro h
    rw [mt_step B (List.getElem?_eq_getElem (by omega : n < N.length)), List.length_append]
    have := ih (by omega)
    have := mst_len B N[n] n
    omega
/-- slips -/
def atI0 (l : List Int) (i : Int) : Int := l.getD i.toNat 0
theorem atI0_nat {l : List Int} {i : Nat} {x : Int} (h : l[i]? = some x) : atI0 l (i : Int) = x := by
  unfold atI0
  rw [Int.toNat_natCast, List.getD_eq_getElem?_getD, h]
  rfl
def sst (o n : List Int) (p : IP) : List IP := if atI0 o p.1 = atI0 n p.2 then [] else [(atI0 o p.1, atI0 n p.2)]
def slp (o n : List Int) (ms : List IP) : List IP := (ms.map (sst o n)).flatten
theorem slp_step (o n : List Int) {ms : List IP} {j : Nat} {p : IP} (h : ms[j]? = some p) : slp o n (ms.take (j + 1)) = slp o n (ms.take j) ++ sst o n p := by
  unfold slp
  rw [List.take_add_one, h, List.map_append, List.flatten_append]
  simp
theorem slp_len (o n : List Int) : ∀ ms : List IP, (slp o n ms).length ≤ ms.length
  | [] => Nat.le_refl _
  | p :: r => by
    have h1 := slp_len o n r
    have h2 : (sst o n p).length ≤ 1 := by unfold sst; split <;> simp
    show ((sst o n p) ++ slp o n r).length ≤ r.length + 1
    rw [List.length_append]
    omega
/-- lost items -/
def lst1 (o : List Int) (ms : List IP) (x : Int) (j : Nat) : List Int := if x ∈ o ∧ (((o.idxOf x : Nat) : Int), (j : Int)) ∉ ms then [x] else []
def lsts (o n : List Int) (ms : List IP) : List Int := (n.mapIdx fun j x => lst1 o ms x j).flatten
theorem lsts_step (o : List Int) (ms : List IP) {n : List Int} {j : Nat} {x : Int} (h : n[j]? = some x) : lsts o (n.take (j + 1)) ms = lsts o (n.take j) ms ++ lst1 o ms x j := by
  have hj : j < n.length := (List.getElem?_eq_some_iff.mp h).1
  unfold lsts
  rw [List.take_add_one, h]
  show (List.mapIdx _ (List.take j n ++ [x])).flatten = _
  rw [List.mapIdx_append, List.flatten_append]
  congr 1
  rw [List.length_take, Nat.min_eq_left (Nat.le_of_lt hj)]
  show [lst1 o ms x (0 + j)].flatten = _
  rw [Nat.zero_add]
  simp
theorem lsts_len (o n : List Int) (ms : List IP) : (lsts o n ms).length ≤ n.length := by
  suffices h : ∀ k, k ≤ n.length → (lsts o (n.take k) ms).length ≤ k by
    have := h n.length (Nat.le_refl _)
    rw [List.take_length] at this
    exact this
  intro k
  induction k with
  | zero => intro _; simp [lsts]
  | succ k ih =>
    intro h
    rw [lsts_step o ms (List.getElem?_eq_getElem (by omega : k < n.length)), List.length_append]
    have := ih (by omega)
    have : (lst1 o ms n[k] k).length ≤ 1 := by unfold lst1; split <;> simp
    omega
/-- deep facts of pairs -/
theorem pD_lay (p : IP) : (pD p).canLay0 = true := by simp [pD, PyData.canLay0, PyData.canLayAll0]
theorem pD_depth (p : IP) : (pD p).depth = 1 := by simp [pD, PyData.depth, PyData.depthAll]
theorem pDs_lay : ∀ ps : List IP, PyData.canLayAll0 (ps.map pD) = true
  | [] => rfl
  | p :: r => by simp [PyData.canLayAll0, pD_lay p, pDs_lay r]
theorem pDs_depth : ∀ ps : List IP, PyData.depthAll (ps.map pD) ≤ 1
  | [] => Nat.zero_le _
  | p :: r => by
    have := pDs_depth r
    simp only [List.map_cons, PyData.depthAll, pD_depth p]
    omega
theorem pD_shaped (p : IP) : SeqAt.shaped (pD p) = true := by
  refine Bool.and_eq_true_iff.mpr ⟨pD_lay p, decide_eq_true ?_⟩
  rw [pD_depth]
  decide
theorem pDs_shapedL (ps : List IP) : SeqAt.shaped (.list (ps.map pD)) = true := by
  refine Bool.and_eq_true_iff.mpr ⟨by simp [PyData.canLay0, pDs_lay ps], decide_eq_true ?_⟩
  have := pDs_depth ps
  simp only [PyData.depth]
  omega
theorem pDs_shapedT (ps : List IP) : SeqAt.shaped (.tuple (ps.map pD)) = true := by
  refine Bool.and_eq_true_iff.mpr ⟨by simp [PyData.canLay0, pDs_lay ps], decide_eq_true ?_⟩
  have := pDs_depth ps
  simp only [PyData.depth]
  omega
theorem pD_eqv (p q : IP) : PyData.eqv (pD p) (pD q) = decide (p = q) := by
  simp only [pD, PyData.eqv, PyData.eqvAll, Bool.and_true]
  rw [Bool.eq_iff_iff]
  simp only [Bool.and_eq_true, decide_eq_true_iff, beq_iff_eq, Prod.ext_iff]
theorem pD_any (ps : List IP) (p : IP) : ((ps.map pD).any fun z => PyData.eqv z (pD p)) = decide (p ∈ ps) := by
  rw [List.any_map, Bool.eq_iff_iff, List.any_eq_true, decide_eq_true_iff]
  constructor
  · rintro ⟨x, hx, e⟩
    have e' : PyData.eqv (pD x) (pD p) = true := e
    rw [pD_eqv, decide_eq_true_iff] at e'
    rw [← e']
    exact hx
  · intro h
    exact ⟨p, h, by show PyData.eqv (pD p) (pD p) = true; rw [pD_eqv]; exact decide_eq_true rfl⟩
end D
namespace D
open PySem PySem.Spec PyProof.Rows L2
/-! ### a list of data that grows beside -/
def Acc (M : Ms) (H : Hp) (D : Addr) (H' : Hp) (ys : List PyData) : Prop := H D = none ∧ Same H H' ∧ ∃ acc, H' D = some (.lst acc) ∧ RpAll (also M D) H' acc ys
theorem Acc.new {M : Ms} {H : Hp} {D : Addr} (hD : H D = none) : Acc M H D (upd H D (.lst [])) [] := ⟨hD, same_new hD, [], upd_same, .nil⟩
theorem Acc.keep {M : Ms} {H H1 H2 : Hp} {D : Addr} {ys : List PyData} (h : Acc M H D H1 ys) (s : Same H1 H2) : Acc M H D H2 ys := by
  obtain ⟨hD, s0, acc, e, r⟩ := h
  exact ⟨hD, s0.trans s, acc, s _ _ e, r.sx (Sx.same s)⟩
theorem Acc.same {M : Ms} {H H1 : Hp} {D : Addr} {ys : List PyData} (h : Acc M H D H1 ys) : Same H H1 := h.2.1
theorem Acc.at {M : Ms} {H H1 : Hp} {D : Addr} {ys : List PyData} (h : Acc M H D H1 ys) : ∃ acc, H1 D = some (.lst acc) ∧ acc.length = ys.length := by
  obtain ⟨hD, s0, acc, e, r⟩ := h
  exact ⟨acc, e, r.length⟩
theorem Acc.put {M : Ms} {H H1 : Hp} {D : Addr} {ys : List PyData} {v : V} {y : PyData} (h : Acc M H D H1 ys) (r : Rp (also M D) H1 v y) (hl : ys.length ≤ 1000000) : ∃ acc, H1 D = some (.lst acc) ∧ acc.length < sizeLine ∧ Acc M H D (upd H1 D (.lst (acc ++ [v]))) (ys ++ [y]) := by
  obtain ⟨hD, s0, acc, e, ra⟩ := h
  refine ⟨acc, e, small1000000 (by rw [ra.length]; exact hl), hD, same_put s0 hD, acc ++ [v], upd_same, ?_⟩
  exact (ra.append (.one r)).sx (Sx.put (.inr rfl))
theorem Acc.mk {M : Ms} {H H1 : Hp} {D : Addr} {ys : List PyData} (h : Acc M H D H1 ys) (hM : Mk M H) : Mk (also M D) H1 := by
  obtain ⟨hD, s0, acc, e, r⟩ := h
  exact (hM.gr (Gr.same s0)).also (ne_none e)
theorem Acc.fin {M : Ms} {H H1 : Hp} {D : Addr} {ys : List PyData} (h : Acc M H D H1 ys) (hM : Mk M H) : Ld M H1 D ys := by
  obtain ⟨hD, s0, acc, e, r⟩ := h
  exact ⟨hM.out hD, acc, e, r.less also_le⟩
theorem Acc.rp {M : Ms} {H H1 : Hp} {D : Addr} {ys : List PyData} (h : Acc M H D H1 ys) (hM : Mk M H) : Rp M H1 (.ref D) (.list ys) := (h.fin hM).rp
/-- what stood ahead is read in the same way beside the list -/
theorem Acc.old {M : Ms} {H H1 : Hp} {D : Addr} {ys : List PyData} {v : V} {d : PyData} (h : Acc M H D H1 ys) (r : Rp M H v d) : Rp (also M D) H1 v d := (r.fresh h.1).sx (Sx.same h.2.1)
theorem Acc.oldM {M : Ms} {H H1 : Hp} {D : Addr} {ys : List PyData} {v : V} {d : PyData} (h : Acc M H D H1 ys) (r : Rp M H v d) : Rp M H1 v d := r.sx (Sx.same h.2.1)
end D
namespace D
open PySem PySem.Spec PyProof.Rows L2
theorem Rp.newT {M : Ms} {H : Hp} {p : Addr} {us : List V} {ds : List PyData} (hM : Mk M H) (hp : H p = none) (r : RpAll M H us ds) : Rp M (upd H p (.tup us)) (.ref p) (.tuple ds) := .tup (hM.out hp) (.inl upd_same) (r.sx (Sx.new hp))
theorem Rp.newL {M : Ms} {H : Hp} {p : Addr} {us : List V} {ds : List PyData} (hM : Mk M H) (hp : H p = none) (r : RpAll M H us ds) : Rp M (upd H p (.lst us)) (.ref p) (.list ds) := .lst (hM.out hp) (.inl upd_same) (r.sx (Sx.new hp))
theorem Mk.new {M : Ms} {H : Hp} {p : Addr} {o : HO} (hM : Mk M H) : Mk M (upd H p o) := hM.gr Gr.upd
def unI : PyData → Int
  | .int i => i
  | _ => 0
theorem perm_ints {es : List PyData} {l : List Int} (h : es.Perm (l.map PyData.int)) : ∃ ns : List Int, ns.Perm l ∧ es = ns.map PyData.int := by
  refine ⟨es.map unI, ?_, ?_⟩
  · have h1 := h.map unI
    rw [List.map_map] at h1
    have e : l.map (unI ∘ PyData.int) = l := by
      have : (unI ∘ PyData.int) = id := rfl
      rw [this, List.map_id]
    rw [e] at h1
    exact h1
  · rw [List.map_map]
    have e : ∀ x ∈ es, (PyData.int ∘ unI) x = x := fun x hx => by
      obtain ⟨i, _, rfl⟩ := List.mem_map.mp (h.mem_iff.mp hx)
      rfl
    exact (List.map_id es).symm.trans (List.map_congr_left fun x hx => (e x hx).symm)
def ten : List Int := [0, 1, 2, 3, 4, 5, 6, 7, 8, 9]
theorem ten_take (n : Nat) : (ten.take n).Nodup ∧ ∀ x ∈ ten.take n, 0 ≤ x ∧ x ≤ 9 :=
  ⟨(show ten.Nodup by decide).sublist (List.take_sublist n ten), fun x hx => (show ∀ x ∈ ten, 0 ≤ x ∧ x ≤ 9 by decide) x (List.mem_of_mem_take hx)⟩
def mxd (m : Nat) (s : Fm) : Nat := max m s.dep
theorem FmAt.two {M : Ms} {H : Hp} {f : Fm} {xs : List V} (h : FmAt M H f xs) : (∃ y z, xs = [.str y, z] ∧ (y = sIs ∨ y = sGet) ∧ f.dep = 1) ∨ ∃ y r, xs = .str y :: r ∧ r ≠ [] ∧ y ≠ sIs ∧ y ≠ sGet ∧ RpAll M H r (f.subs.map Fm.enc) ∧ f.dep = f.subs.foldl mxd 0 + 1 := by
  cases h with
  | is n => exact .inl ⟨_, _, rfl, .inl rfl, rfl⟩
  | get x => exact .inl ⟨_, _, rfl, .inr rfl, rfl⟩
  | @sum f g u w a b =>
    refine .inr ⟨_, _, rfl, by simp, by decide +kernel, by decide +kernel, .cons a (.one b), ?_⟩
    show max f.dep g.dep + 1 = max (max 0 f.dep) g.dep + 1
    omega
  | @same f g u w a b =>
    refine .inr ⟨_, _, rfl, by simp, by decide +kernel, by decide +kernel, .cons a (.one b), ?_⟩
    show max f.dep g.dep + 1 = max (max 0 f.dep) g.dep + 1
    omega
  | @pick f g k u w z a b c =>
    refine .inr ⟨_, _, rfl, by simp, by decide +kernel, by decide +kernel, .cons a (.cons b (.one c)), ?_⟩
    show max f.dep (max g.dep k.dep) + 1 = max (max (max 0 f.dep) g.dep) k.dep + 1
    omega
theorem ints_mem {l : List Int} (h : ∀ n ∈ l, 0 ≤ n ∧ n ≤ 9) {v : V} (hv : v ∈ l.map V.int) : ∃ n, v = .int n ∧ 0 ≤ n ∧ n ≤ 9 := by
  obtain ⟨n, hn, rfl⟩ := List.mem_map.mp hv
  exact ⟨n, rfl, h n hn⟩
/-- a draw of a row -/
def DrR (K : PySem.W.Frag) (M : Ms) (b : Addr) (H : Hp) (R : List Int → Prop) (Q : VK) : Prop := ∀ v H' ns, Sx (one b) H H' → Gr H H' → Bag K M H' b → RowF M H' v ns → R ns → Q v H'
end D

namespace D
open PySem PySem.Spec PyProof.Rows L2
/-! ### rows that a key mixes up -/
theorem flat_ne {α β : Type} (f : α → List β) (l : List α) : (l.map f).flatten ≠ [] ↔ ∃ x ∈ l, f x ≠ [] := by
  induction l with
  | nil => simp
  | cons a r ih =>
    rw [List.map_cons, List.flatten_cons]
    constructor
    · intro h
      by_cases c : f a = []
      · rw [c, List.nil_append] at h
        obtain ⟨x, hx, e⟩ := ih.mp h
        exact ⟨x, List.mem_cons_of_mem _ hx, e⟩
      · exact ⟨a, List.mem_cons_self, c⟩
    · rintro ⟨x, hx, e⟩ z
      obtain ⟨z1, z2⟩ := List.append_eq_nil_iff.mp z
      rcases List.mem_cons.mp hx with rfl | hx
      · exact e z1
      · exact ih.mpr ⟨x, hx, e⟩ z2
theorem flat_ne_idx {α β : Type} (f : Nat → α → List β) (l : List α) : (l.mapIdx f).flatten ≠ [] ↔ ∃ (j : Nat) (x : α), l[j]? = some x ∧ f j x ≠ [] := by
  have h := flat_ne (fun y => y) (l.mapIdx f)
  rw [List.map_id'] at h
  rw [h]
  constructor
  · rintro ⟨y, hy, e⟩
    obtain ⟨j, hj⟩ := List.mem_iff_getElem?.mp hy
    rw [List.getElem?_mapIdx] at hj
    obtain ⟨x, hx, rfl⟩ := Option.map_eq_some_iff.mp hj
    exact ⟨j, x, hx, e⟩
  · rintro ⟨j, x, hx, e⟩
    exact ⟨f j x, List.mem_iff_getElem?.mpr ⟨j, by rw [List.getElem?_mapIdx, hx]; rfl⟩, e⟩
theorem pos_of {B : List IP} (hB : B.Nodup) {i : Nat} {x : IP} (h : B[i]? = some x) : pos B x = some i := by
  have hm : x ∈ B := List.mem_of_getElem? h
  have hi := (List.getElem?_eq_some_iff.mp h).1
  have h2 := List.idxOf_lt_length_of_mem hm
  have e2 : B[B.idxOf x]? = some x := by rw [List.getElem?_eq_getElem h2, List.getElem_idxOf h2]
  unfold pos
  rw [if_pos hm]
  rcases Nat.lt_trichotomy (B.idxOf x) i with c | c | c
  · exact absurd (e2.trans h.symm) (nodup_get.mp hB _ _ c hi)
  · rw [c]
  · exact absurd (h.trans e2.symm) (nodup_get.mp hB _ _ c h2)
theorem mem_mt {B N : List IP} (hB : B.Nodup) (i j : Nat) : ((i : Int), (j : Int)) ∈ mt B N ↔ ∃ x, B[i]? = some x ∧ N[j]? = some x := by
  constructor
  · intro h
    unfold mt at h
    obtain ⟨l, hl, hp⟩ := List.mem_flatten.mp h
    obtain ⟨k, hk, rfl⟩ := List.mem_mapIdx.mp hl
    unfold mst at hp
    cases e : pos B N[k] with
    | none => rw [e] at hp; exact nomatch hp
    | some m =>
      rw [e] at hp
      have hp' := List.mem_singleton.mp hp
      injection hp' with h1 h2
      have h1' : i = m := Int.ofNat.inj h1
      have h2' : j = k := Int.ofNat.inj h2
      subst h1' h2'
      exact ⟨_, (pos_lt e).2, List.getElem?_eq_getElem hk⟩
  · rintro ⟨x, h1, h2⟩
    unfold mt
    refine List.mem_flatten.mpr ⟨mst B x j, List.mem_iff_getElem?.mpr ⟨j, by rw [List.getElem?_mapIdx, h2]; rfl⟩, ?_⟩
    unfold mst
    rw [pos_of hB h1]
    exact List.mem_singleton.mpr rfl
def badB (o n : List Int) (B N : List IP) : Bool := !(slp o n (mt B N)).isEmpty || !(lsts o n (mt B N)).isEmpty
theorem idx_of {n : List Int} (h : n.Nodup) {i : Nat} {x : Int} (e : n[i]? = some x) : n.idxOf x = i := by
  have hi := (List.getElem?_eq_some_iff.mp e).1
  have hx : x ∈ n := List.mem_of_getElem? e
  have h2 := List.idxOf_lt_length_of_mem hx
  have e2 : n[n.idxOf x]? = some x := by rw [List.getElem?_eq_getElem h2, List.getElem_idxOf h2]
  rcases Nat.lt_trichotomy (n.idxOf x) i with c | c | c
  · exact absurd (e2.trans e.symm) (nodup_get.mp h _ _ c hi)
  · exact c
  · exact absurd (e.trans e2.symm) (nodup_get.mp h _ _ c h2)
theorem bad_iff {o n : List Int} {B N : List IP} (ho : o.Nodup) (hB : B.Nodup) (lB : B.length = o.length) (lN : N.length = n.length) :
    badB o n B N = true ↔ ∃ (i j : Nat) (x y : Int) (u v : IP), o[i]? = some x ∧ n[j]? = some y ∧ B[i]? = some u ∧ N[j]? = some v ∧ decide (u = v) ≠ decide (x = y) := by
  have e1 : badB o n B N = true ↔ (slp o n (mt B N) ≠ [] ∨ lsts o n (mt B N) ≠ []) := by
    unfold badB
    rw [Bool.or_eq_true]
    constructor
    · rintro (h | h)
      · left; intro z; rw [z] at h; exact nomatch h
      · right; intro z; rw [z] at h; exact nomatch h
    · rintro (h | h)
      · left; cases e : slp o n (mt B N) with
        | nil => exact absurd e h
        | cons a r => rfl
      · right; cases e : lsts o n (mt B N) with
        | nil => exact absurd e h
        | cons a r => rfl
  rw [e1]
  have at_ : ∀ {i : Nat}, i < o.length → ∃ u, B[i]? = some u := fun {i} h => ⟨B[i]'(by omega), List.getElem?_eq_getElem _⟩
  constructor
  · rintro (h | h)
    · obtain ⟨p, hp, e⟩ := (flat_ne (sst o n) (mt B N)).mp h
      obtain ⟨i, j, hi, hj, rfl⟩ := mt_mem hp
      obtain ⟨w, h1, h2⟩ := (mem_mt hB i j).mp hp
      have x1 : o[i]? = some (o[i]'(by omega)) := List.getElem?_eq_getElem _
      have x2 : n[j]? = some (n[j]'(by omega)) := List.getElem?_eq_getElem _
      refine ⟨i, j, _, _, w, w, x1, x2, h1, h2, ?_⟩
      rw [decide_eq_true rfl]
      intro z
      have z' := of_decide_eq_true z.symm
      apply e
      unfold sst
      rw [atI0_nat x1, atI0_nat x2, if_pos z']
    · obtain ⟨j, x, hx, e⟩ := (flat_ne_idx (fun j x => lst1 o (mt B N) x j) n).mp h
      have hc : x ∈ o ∧ (((o.idxOf x : Nat) : Int), (j : Int)) ∉ mt B N := by
        by_cases c : x ∈ o ∧ (((o.idxOf x : Nat) : Int), (j : Int)) ∉ mt B N
        · exact c
        · exact absurd (if_neg c) e
      have hix := List.idxOf_lt_length_of_mem hc.1
      have hj := (List.getElem?_eq_some_iff.mp hx).1
      obtain ⟨u, hu⟩ := at_ hix
      have hv : N[j]? = some (N[j]'(by omega)) := List.getElem?_eq_getElem _
      refine ⟨o.idxOf x, j, x, x, u, _, by rw [List.getElem?_eq_getElem hix, List.getElem_idxOf hix], hx, hu, hv, ?_⟩
      rw [decide_eq_true (show x = x from rfl)]
      intro z
      have z' := of_decide_eq_true z
      exact hc.2 ((mem_mt hB _ j).mpr ⟨u, hu, by rw [hv, z']⟩)
  · rintro ⟨i, j, x, y, u, v, hx, hy, hu, hv, hne⟩
    by_cases c : u = v
    · left
      subst c
      have hp : ((i : Int), (j : Int)) ∈ mt B N := (mem_mt hB i j).mpr ⟨u, hu, hv⟩
      refine (flat_ne (sst o n) (mt B N)).mpr ⟨_, hp, ?_⟩
      unfold sst
      rw [atI0_nat hx, atI0_nat hy, if_neg]
      · simp
      · intro z
        apply hne
        rw [decide_eq_true rfl, decide_eq_true z]
    · have xy : x = y := by
        by_cases z : x = y
        · exact z
        · exact absurd (by rw [decide_eq_false c, decide_eq_false z]) hne
      subst xy
      right
      refine (flat_ne_idx (fun j x => lst1 o (mt B N) x j) n).mpr ⟨j, x, hy, ?_⟩
      have hm : x ∈ o := List.mem_of_getElem? hx
      show lst1 o (mt B N) x j ≠ []
      unfold lst1
      rw [if_pos]
      · simp
      · refine ⟨hm, fun z => ?_⟩
        rw [idx_of ho hx] at z
        obtain ⟨w, h1, h2⟩ := (mem_mt hB i j).mp z
        exact c ((Option.some.inj (hu.symm.trans h1)).trans (Option.some.inj (h2.symm.trans hv)))
end D

namespace D
open PySem PySem.Spec PyProof.Rows L2
section
variable {X : Cx} {C g : Addr} {n : Nat} {CX : CXT} {sp : Sp} {E : XK} {fd : FuncData} {ps : List Str}
theorem room_in1 {A : Around} (r : Room (n + 1) A) : Room n A.in1 := ⟨r.hd, by have := r.dp; show A.depth + 3 * n + 5 < _; omega, by have := r.un; show A.units + 1 + 16 * n + 200 < _; omega⟩
/-- a def is run one step in -/
theorem run_in1 {pins : List (Addr × Obj)} {σ : L2.St} {H : Hp} {s : Shared} {Q : VK} {us : List Value} {vs : List V} (F : FnOk X.prog X.w X.K X.mg X.base CX n g fd ps sp) (hr : Room (n + 1) X.A) (hb : Binds X.K fd ps []) (hx : Passes CX X E)
    (I : Inv X pins σ H s) (r : Vals vs us) (h : sp vs H Q E) : wpAny (model X.prog X.w) X.A.in1 (call (.ref g) us) (EP X pins σ Q) X.xe s := by
  have hl : (us ++ []).length = ps.length := by rw [List.append_nil, ← r.length]; exact F.len _ _ _ _ h
  have bd := hb s us I.kIn hl
  rw [List.append_nil] at bd
  refine wpAny_call (codeAny_mono (F.run X.A.in1 X.stack s H ⟨us, []⟩ us vs Q E (room_in1 hr) I.env0.in1 bd r h) fun r s' hq => ?_)
  match r, hq with
  | .error e, hq => exact hx pins σ H s e s' I hq
  | .ok (.ret u), hq => exact I.after hq
  | .ok .next, hq => exact False.elim hq
  | .ok .brk, hq => exact False.elim hq
  | .ok .cont, hq => exact False.elim hq
/-- what an instance's own subscript reads: the def at g answers for the instance and the index -/
def tOwnIx (C : Addr) (sp : Sp) (E : XK) (to ti : TE) : TE := fun σ H Q => to σ H fun x H1 => ti σ H1 fun y H2 => ∃ a dx fs, x = .ref a ∧ H2 a = some (.ins C dx fs) ∧ sp [x, y] H2 Q E
theorem pe_ownIx {o i : Expr} {to ti : TE} {pos : Pos} (ho : PE X o to) (hi : PE X i ti) (hs : PySem.W.findIn X.K (.ref C) "__getitem__" = some (some (.ref g))) (hf : PySem.W.fnIn X.K g = true) (hg : PySem.W.isFn X.K (.ref g) = true)
    (F : FnOk X.prog X.w X.K X.mg X.base CX n g fd ps sp) (hb : Binds X.K fd ps []) (hr : Room (n + 1) X.A) (hx : Passes CX X E)
    (hsl : ∀ ov iv, subscripted i true ov iv = runValue (.builtin "lifetime.subscript" ⟨[ov, iv], []⟩)) : PE X (.Subscript o i pos) (tOwnIx C sp E to ti) := by
  refine ⟨fun pins s σ H Q I h => ?_⟩
  refine Subscript_ (thn (ho.run pins s σ H _ I h) fun ov s1 ⟨x, H1, I1, rx, q1⟩ => thn (hi.run pins s1 σ H1 _ I1 q1) fun iv s2 ⟨y, H2, I2, ry, a, dx, fs, ex, ha, q⟩ => ?_)
  subst ex
  obtain rfl : ov = Value.ref a := rx
  obtain ⟨mA, O, _⟩ := ins_get I2.hok ha
  obtain ⟨od, J, _⟩ := O.look
  obtain ⟨m, hF⟩ := I2.fr
  exact PySem.W.sub_K hF I2.ok.mod.kin J hs hf hg (run_in1 (us := [.ref a, iv]) (vs := [.ref a, y]) F hr hb hx I2 (.cons rfl (.cons ry .nil)) q) (hsl _ _)
/-- the store into an instance by its own def -/
theorem wp_ownPut {prog : Program} {w : World} {A : Around} {Ex : Value → Shared → Prop} {s : Shared} {K : PySem.W.Frag} {x C f : Addr} {ox : Obj} {od : Option Obj} {i v : Value} {Q : Unit → Shared → Prop} (hK : K.In s.heap) (J : PySem.W.InstAt s.heap x ox C od)
    (hq : PySem.W.noSeq K C = true) (hs : PySem.W.findIn K (.ref C) "__setitem__" = some (some (.ref f))) (hf : PySem.W.isFn K (.ref f) = true)
    (h : wpAny (model prog w) A (call (.ref f) [.ref x, i, v]) (fun _ => Q ()) Ex s) : wpAny (model prog w) A (setItem (.ref x) i v) Q Ex s := by
  unfold setItem sequenceKey
  have called : wpAny (model prog w) A (callSpecial? (.ref x) "__setitem__" [i, v]) (fun r => match r with | some _ => Q () | none => fun _ => False) Ex s :=
    PySem.W.special_fn hK J hs (beq_iff_eq.mp hf) h
  refine wpAny_holding (wpAny_bind (wpAny_bind (J.type.here (wpAny_bind ((PySem.W.anyM_none hK hq).here ?_)))))
  rw [if_pos (by rfl : (!false) = true)]
  refine wpAny_pure (wpAny_bind (wpAny_mono called (fun r s' z => ?_) fun _ _ z => z))
  match r, z with
  | some _, z => exact wpAny_pure z
/-- x[i] = v, an own def's store -/
def sOwnPut (C : Addr) (sp : Sp) (E : XK) (to ti tv : TE) : TS := fun D σ H => tv σ H fun v H1 => to σ H1 fun x H2 => ti σ H2 fun y H3 => ∃ a dx fs, x = .ref a ∧ H3 a = some (.ins C dx fs) ∧ sp [x, y, v] H3 (fun _ H4 => D.nx σ H4) E
theorem ps_ownPut {o i value : Expr} {pos pos' : Pos} {to ti tv : TE} (ho : PE X o to) (hi : PE X i ti) (hv : PE X value tv) (hq : PySem.W.noSeq X.K C = true) (hs : PySem.W.findIn X.K (.ref C) "__setitem__" = some (some (.ref g))) (hf : PySem.W.isFn X.K (.ref g) = true)
    (F : FnOk X.prog X.w X.K X.mg X.base CX n g fd ps sp) (hb : Binds X.K fd ps []) (hr : Room (n + 1) X.A) (hx : Passes CX X E) (sw : swapsWith value (some (.Subscript o i pos')) pos.line X.env = pure false) :
    PS X (.Assign [.Subscript o i pos'] value pos) (sOwnPut C sp E to ti tv) := by
  refine ⟨fun pins s σ H D I h => ?_⟩
  refine wpAny_Assign_Subscript (thn (hv.run pins s σ H _ I h) fun r s1 ⟨v, H1, I1, rv, q1⟩ => thn (ho.run pins s1 σ H1 _ I1 q1) fun u s2 ⟨x, H2, I2, rx, q2⟩ => thn (hi.run pins s2 σ H2 _ I2 q2) fun iv s3 ⟨y, H3, I3, ry, a, dx, fs, ex, ha, q⟩ => ?_) sw
  subst ex
  obtain rfl : u = Value.ref a := rx
  obtain ⟨mA, O, _⟩ := ins_get I3.hok ha
  obtain ⟨od, J, _⟩ := O.look
  refine wp_ownPut I3.kIn J hq hs hf (wpAny_mono (run_fn (us := [.ref a, iv, r]) (vs := [.ref a, y, v]) F (hr.mono (Nat.le_succ n)) hb .nil hx I3 (.cons rfl (.cons ry (.cons rv .nil))) q) (fun w s' z => ?_) fun _ _ z => z)
  obtain ⟨z', H', I', _, qz⟩ := z
  exact ⟨σ, H', I', qz⟩
theorem pi_zipAK {K : PySem.W.Frag} {e e2 : Expr} {ta : TA} {p pos tpos : Pos} {elts : List Expr} {kk : Nat} (hK : X.K = K) (hg : Gl X "zip") (hm : X.mg "zip" = none) (ha : PA X [e, e2] ta)
    (hs : starEach [e, e2] X.env = (false, eval e X.env) :: starEach [e2] X.env := by rfl) (hpl : (backTo pos (starEach [e2] X.env)).any (·.1) = false := by rfl) :
    PI X (.Tuple elts kk tpos) (.Call (.Name "zip" p) [e, e2] [] pos) (RZ.iZipA K ta) := by subst hK; exact RZ.pi_zipA hg hm ha hs hpl
end
/-- the loop over two tuples side by side, whatever its body -/
theorem zipT_loop {K : PySem.W.Frag} {a b : Addr} {xs ys : List V} {Qd : Hp → Prop} {H0 : Hp} {B : V → Hp → (Hp → Prop) → Prop} (he : xs.length = ys.length) (Pv : Nat → Hp → Prop) (h0 : Pv 0 H0) (hl : ∀ i H, i ≤ xs.length → Pv i H → SqT K H a xs ∧ SqT K H b ys)
    (hs : ∀ i x y T H, xs[i]? = some x → ys[i]? = some y → H T = none → Pv i H → B (.ref T) (upd H T (.tup [x, y])) (Pv (i + 1))) (hd : ∀ H, Pv xs.length H → Qd H) :
    ∃ W : Nat → Nat → Hp → Prop, (∃ m, W 0 m H0) ∧ ∀ i m H, W i m H → ((RZ.ItzT K a b).stop i H ∧ Qd H) ∨ ((RZ.ItzT K a b).go i H ∧ ∃ Nx : Hp → Prop, (∀ H', Nx H' → ∃ m', m' < m ∧ W (i + 1) m' H') ∧ ∀ x H', (RZ.ItzT K a b).yld i H x H' → B x H' Nx) := by
  refine ⟨fun i m H => m = xs.length - i ∧ i ≤ xs.length ∧ Pv i H, ⟨_, rfl, Nat.zero_le _, h0⟩, ?_⟩
  rintro i m H ⟨rfl, hi, p⟩
  obtain ⟨q1, q2⟩ := hl i H hi p
  by_cases hlt : i < xs.length
  · refine .inr ⟨⟨xs, ys, xs[i], ys[i]'(by omega), q1, q2, by simp [hlt], List.getElem?_eq_getElem _⟩, Pv (i + 1), fun H' p' => ⟨xs.length - (i + 1), by omega, rfl, hlt, p'⟩, fun x H' y => ?_⟩
    obtain ⟨T, u, v, rfl, hT, rfl, z1, z2⟩ := y
    exact hs i u v T _ (z1 xs q1) (z2 ys q2) hT p
  · have e : i = xs.length := by omega
    subst e
    exact .inl ⟨⟨xs, ys, q1, q2, .inl (Nat.le_refl _)⟩, hd H p⟩
/-- keys of pairs -/
def idk (p : IP) : List Key := [.inl p.1, .inl p.2]
theorem idk_inj {p q : IP} (h : idk p = idk q) : p = q := by
  unfold idk at h
  injection h with h1 h2
  injection h2 with h2 _
  exact Prod.ext (Sum.inl.inj h1) (Sum.inl.inj h2)
theorem idk_kV (p : IP) : (idk p).map kV = [.int p.1, .int p.2] := rfl
/-- a dict of whole numbers by pairs -/
def DN (kvs : List (List Key × V)) (N : IP → Option Int) : Prop := ∀ p : IP, valV kvs (idk p) = (N p).map V.int
def shownN (l : List IP) (N : IP → Option Int) : IP → Option Int := fun x => if x ∈ l then some ((N x).getD 0) else none
theorem DN.put {kvs : List (List Key × V)} {N : IP → Option Int} (h : DN kvs N) (p : IP) (w : Int) : DN (putK kvs (idk p) (.int w)) (fun x => if x = p then some w else N x) := fun x => by
  rw [valV_put]
  dsimp only
  by_cases c : x = p
  · rw [if_pos (by rw [c]), if_pos c]
    rfl
  · rw [if_neg (fun z => c (idk_inj z)), if_neg c]
    exact h x
theorem DN.show {kvs : List (List Key × V)} {N : IP → Option Int} {l : List IP} {n : IP} (h : DN kvs (shownN l N)) : DN (putK kvs (idk n) (.int ((N n).getD 0))) (shownN (l ++ [n]) N) := fun x => by
  rw [h.put n _ x]
  unfold shownN
  dsimp only
  by_cases c : x = n
  · subst c
    rw [if_pos rfl, if_pos (List.mem_append_right _ (List.mem_singleton.mpr rfl))]
  · rw [if_neg c]
    by_cases d : x ∈ l
    · rw [if_pos d, if_pos (List.mem_append_left _ d)]
    · rw [if_neg d, if_neg (fun z => (List.mem_append.mp z).elim d fun e => c (List.mem_singleton.mp e))]
theorem putK_len {κ : Type} [DecidableEq κ] {c : List (κ × V)} {k : κ} {x y : V} (h : valV c k = some y) : (putK c k x).length = c.length := by
  unfold putK
  rw [if_pos]
  · exact List.length_map _
  · unfold valV at h
    obtain ⟨q, hq, _⟩ := Option.map_eq_some_iff.mp h
    have hq2 := List.find?_some (p := fun kv : κ × V => decide (kv.1 = k)) hq
    exact List.any_eq_true.mpr ⟨q, List.mem_of_find?_eq_some hq, hq2⟩
theorem putK_more {κ : Type} [DecidableEq κ] (c : List (κ × V)) (k : κ) (x : V) : (putK c k x).length ≤ c.length + 1 := by
  unfold putK
  split
  · rw [List.length_map]; omega
  · rw [List.length_append]; exact Nat.le_refl _
end D

namespace D
open PySem PySem.Spec PyProof.Rows L2
section
variable {X : Cx} {es : List Expr} {t : TA} {pos : Pos}
theorem pe_notTK {K : PySem.W.Frag} {a : Expr} {ta : TE} (hK : X.K = K) (ha : PE X a ta) : PE X (.UnaryOp .Not a pos) (tNotT K ta) := by subst hK; exact pe_notT ha
/-- a written tuple, known to its object -/
def tTupF (t : TA) : TE := fun σ H Q => t σ H fun xs H1 => xs.length ≤ sizeLine ∧ ∀ p o, H1 p = none → o.cls = .type "tuple" → o.dict = none → Q (.ref p) (upd H1 p (.frz o (.tup xs)))
theorem pe_tupF {x1} (h : PA X es t) : PE X (.Tuple es x1 pos) (tTupF t) := by
  refine ⟨fun held st sl G C J want => ?_⟩
  refine wpAny_Tuple_spliced (thn (h.run pos held st sl G _ J want) fun vals st2 ⟨items, G2, J2, rel, fits, fin⟩ => ⟨by rw [← rel.length]; exact fits, ?_⟩)
  have unused : G2 st2.heap.objs.size = none := J2.hok.fresh (Nat.le_refl _)
  let made : Obj := { cls := .type "tuple", data := .seq vals.toArray }
  refine ⟨.ref st2.heap.objs.size, upd G2 st2.heap.objs.size (.frz made (.tup items)), J2.laid (t' := st2.toks) (fun _ _ old => Heap.get?_push_of_some _ old) (Nat.le_refl _) ?_, rfl, fin _ made unused rfl rfl⟩
  exact (show ObjOk X.prog X.w _ _ _ (.frz made (.tup items)) from ⟨Heap.get?_push_size _ rfl, fits, vals, rel, ⟨_, Heap.get?_push_size _ rfl, rfl, _, rfl⟩⟩)
/-- t + u, known to its object -/
def rCatF (K : PySem.W.Frag) : R2 := fun x y H Q => ∃ a b xs ys, x = .ref a ∧ y = .ref b ∧ SqT K H a xs ∧ SqT K H b ys ∧ xs.length + ys.length ≤ sizeLine ∧
  (xs = [] → Q (.ref b) H) ∧ (xs ≠ [] → ys = [] → Q (.ref a) H) ∧ (xs ≠ [] → ys ≠ [] → ∀ p o, H p = none → o.cls = .type "tuple" → o.dict = none → Q (.ref p) (upd H p (.frz o (.tup (xs ++ ys)))))
theorem op_catF {K : PySem.W.Frag} (hK : X.K = K) : OpR X (binaryOp .Add) (rCatF K) := by
  subst hK
  intro held st sl G x y v u C J relx rely want
  obtain ⟨one', two, left, right, rfl, rfl, readL, readR, fits, none1, none2, both⟩ := want
  by_cases emp : left = []
  · exact op_catA held st sl G _ _ v u C J relx rely ⟨one', two, left, right, rfl, rfl, readL, readR, fits, none1, fun no => absurd emp no, fun no => absurd emp no⟩
  cases relx
  cases rely
  obtain ⟨itemsL, relL, tupL, _⟩ := J.tuple readL
  obtain ⟨itemsR, relR, tupR, _⟩ := J.tuple readR
  refine HT.cat_tup tupL tupR (fun no => emp (relL.nil_iff.mp no)) (fun no => ⟨.ref one', G, J, rfl, none2 emp (relR.nil_iff.mp no)⟩) (fun full => ?_) (by rw [← relL.length, ← relR.length]; exact fits)
  let made : Obj := { cls := .type "tuple", data := .seq (itemsL ++ itemsR).toArray }
  refine ⟨.ref st.heap.objs.size, _, J.laid (t' := st.toks) (o := .frz made (.tup (left ++ right))) (fun _ _ old => Heap.get?_push_of_some _ old) (Nat.le_refl _) ?_, rfl, both emp (fun no => full (relR.nil_iff.mpr no)) _ made (J.hok.fresh (Nat.le_refl _)) rfl rfl⟩
  exact ⟨Heap.get?_push_size _ rfl, by rw [List.length_append]; exact fits, _, relL.append relR, IsTup.new _ _⟩
theorem dcG_core {pins : List (Addr × Obj)} {s : Shared} {σ : L2.St} {H : Hp} {Q : VK} {O : Addr → HO} {Put : Addr → (Hp → Prop) → V → V → Hp → Prop} {kx vx tgt it : Expr} {ifs : List Expr} {sc : Scope} {own : List (Str × Nat)} {pos pos' : Pos} {walk : TI} {g : TG} {tt : TT} {tk tv : TE} {use : Option (Value → Sem Unit)} {Qf : Value → Shared → Prop}
    (mk0 : ∀ (H : Hp) (h : Heap), sysModules < h.objs.size → ObjOk X.prog X.w H (h.push { cls := .type "dict", data := .dict #[] }) h.objs.size (O h.objs.size)) (store : Stores X Put) (calm : X.calm = true) (nod : X.N.Nodup) (I : Inv X pins σ H s)
    (pi : PI X tgt it walk) (bo : BlkOk X.N X.env.scope sc own) (pg : InBlk X sc fun B => PG B tgt g) (pt : InBlk X sc fun B => PTs B ifs tt) (pk : InBlk X sc fun B => PE B kx tk) (pv : InBlk X sc fun B => PE B vx tv)
    (plain : ∀ x, foldedSetIterable it X.env x = pure x) (h : tDcG O Put walk g tt tk tv (own.map (·.2)) σ H Q)
    (behind : ∀ made frame st names G, Inv X pins σ G st → Q (.ref made) G → st.heap.Ns frame names → FpOk X pins G frame → compPost (model X.prog X.w) X.A X.xe use Qf (.ref made) frame (.ok .next) st) :
    wpAny (model X.prog X.w) X.A (comprehension (.DictComp kx vx [⟨tgt, it, ifs, 0⟩] sc pos) sc X.env pos' newDict false (eval it X.env) use) Qf X.xe s := by
  have free : ∀ y ∈ sc.names, y.2 = .free → ∃ c, X.env.cells.lookup y.1 = some c := fun y hy e => (bo.free y hy e).elim (fun k => I.ok.has _ (.inl k)) fun k => I.ok.has _ (.inr k)
  refine wpAny_comprehension_free (use := use) rfl plain (closure_ok free) bo.kind (fun y hy e => by rw [bo.uniq y hy, e]) ?_
  -- what is walked, then the empty dict
  refine thn (pi.run pins s σ H _ I h) fun xv s1 hx => thn hx ?_
  rintro itv s2 ⟨ad, feet, tn, J, H2, rfl, I2, T, at2, ft2, q⟩
  refine wpAny_newObj_type (newEnv_comp ?_)
  have fresh : H2 s2.heap.objs.size = none := I2.hok.fresh (Nat.le_refl _)
  obtain ⟨W, ⟨m0, w0⟩, turn⟩ := q _ fresh
  let s3 : Shared := { s2 with heap := s2.heap.push { cls := .type "dict", data := .dict #[] } }
  let D : Addr := s2.heap.objs.size
  let H3 : Hp := upd H2 D (O D)
  let L : Addr := s3.heap.objs.size
  let e3 : Env := compEnvC sc (cellsFrom (L + 1) sc.names (cloFrom X.env.cells sc.names [])) L X.env
  let s4 : Shared := { s3 with heap := pushCells (s3.heap.push { cls := .type "dict", data := .dict #[] }) sc.names }
  have I3 : Inv X pins σ H3 s3 := I2.laid (t' := s2.toks) (fun _ _ e => Heap.get?_push_of_some _ e) (Nat.le_refl _) (mk0 _ s2.heap I2.big)
  have grown : ∀ b o, s2.heap.get? b = some o → s3.heap.get? b = some o := fun _ _ e => Heap.get?_push_of_some _ e
  have low : ∀ b ∈ feet, b < s2.heap.objs.size := fun b hb => Heap.lt_size (T.obj _ _ at2 b hb).choose_spec.1
  have ft3 : ∀ b ∈ feet, FpOk X pins H3 b ∧ b < s3.heap.objs.size := fun b hb => ⟨⟨(upd_ne (Nat.ne_of_lt (low b hb))).trans (ft2 b hb).1, (ft2 b hb).2⟩, by show b < (s2.heap.push _).objs.size; rw [Heap.size_push]; exact Nat.lt_succ_of_lt (low b hb)⟩
  have at3 : tn 0 s3.heap := T.keep _ _ _ at2 fun b _ o e => grown b o e
  have I4 : Inv (X.blk s3 H3 sc e3 feet) [] (wipe σ (own.map (·.2))) H3 s4 := block_start I3 bo nod ft3
  have at4 : tn 0 s4.heap := T.keep _ _ _ at3 fun b _ o e => pushCells_keeps _ _ _ _ (Heap.get?_push_of_some _ e)
  -- the walker's own objects in the block's context
  have foot : ∀ {σ' : L2.St} {G : Hp} {t : Shared}, Inv (X.blk s3 H3 sc e3 feet) [] σ' G t → (∀ b ∈ feet, G b = none) → ∀ b ∈ feet, FpOk (X.blk s3 H3 sc e3 feet) [] G b := by
    intro σ' G t J' none b hb
    refine ⟨none b hb, (J'.ok.exf b hb).1, J'.ok.exfs b hb, .inl hb, fun x c e => (J'.ok.exf b hb).2 x c e, ?_⟩
    intro p hp
    exact nomatch (show p ∈ ([] : List (Addr × Obj)) from by simpa using hp)
  have loop : codeAny (model X.prog X.w) X.A (.compLoop (.DictComp kx vx [⟨tgt, it, ifs, 0⟩] sc pos) 0 (.ref ad) (.ref D) e3) (compPost (model X.prog X.w) X.A X.xe use Qf (.ref D) L) s4 := by
    refine compLoop_anyD (fun n t => ∃ i G, Inv (X.blk s3 H3 sc e3 feet) [] (wipe σ (own.map (·.2))) G t ∧ tn i t.heap ∧ (∀ b ∈ feet, G b = none) ∧ W i n G) ?_ m0 ⟨0, H3, I4, at4, fun b hb => (ft3 b hb).1.1, w0⟩
    rintro n t ⟨i, G, IG, atG, nG, wG⟩
    obtain ⟨stop, fin⟩ | ⟨go, N, less, step⟩ := turn i n G wG
    · refine thnF (T.done (X.blk s3 H3 sc e3 feet) rfl rfl rfl calm i [] t _ G (fun _ _ => False) IG (foot IG nG) atG stop) ?_
      rintro r t6 ⟨rfl, I6⟩
      have I7 : Inv X pins σ G t6 := I3.call' (ch := feet) I6.os I6.base I6.hok I6.bare fun b hb => let z := (ft3 b hb).1.2; ⟨z.2.2.1, z.1, z.2.2.2.1, z.2.2.2.2⟩
      obtain ⟨m, names, _⟩ := I6.loc
      exact behind D L t6 m G I7 fin names (I3.fpOk (Nat.le_refl _) (show G L = none from I6.free))
    · refine thnF (T.item (X.blk s3 H3 sc e3 feet) rfl rfl rfl calm i [] t _ G (fun _ _ => False) IG (foot IG nG) atG go) ?_
      rintro r t6 ⟨u, rfl, h6⟩
      refine thnF h6 ?_
      rintro _ t7 ⟨x, G7, I7, r7, y7, at7, n7⟩
      refine thnF ((pg _ _ _ _ _).run _ t7 _ G7 x u _ (I7.pinned (foot I7 n7) (T.obj _ _ at7)) r7 (step x G7 y7)) ?_
      rintro _ t8 ⟨σ8, G8, I8, wp8, q8⟩
      refine thnF ((pt _ _ _ _ _).run _ t8 σ8 G8 _ I8 q8) ?_
      rintro b t9 ⟨G9, I9, q9⟩
      have back : ∀ {t' : Shared} {G' : Hp}, Inv (X.blk s3 H3 sc e3 feet) ([] ++ pinsAt feet t7.heap) σ8 G' t' → N G' → ∃ m, m < n ∧ ∃ i G, Inv (X.blk s3 H3 sc e3 feet) [] (wipe σ (own.map (·.2))) G t' ∧ tn i t'.heap ∧ (∀ b ∈ feet, G b = none) ∧ W i m G := by
        intro t' G' I' nx
        obtain ⟨m', lt, w'⟩ := less G' nx
        have held : ∀ b ∈ feet, ∀ o, t7.heap.get? b = some o → t'.heap.get? b = some o ∧ G' b = none := fun b hb o e => let z := I'.pin (b, o) (List.mem_append_right _ (List.mem_append_right _ (mem_pinsAt hb e))); ⟨z.1, z.2.1⟩
        refine ⟨m', lt, i + 1, G', I'.unpinned.weak (by rw [← wp8, wipe_length]) fun j v e => ?_, T.keep _ _ _ at7 fun b hb o e => (held b hb o e).1, fun b hb => ?_, w'⟩
        · exact (wipe_some (wp8 ▸ e)).1
        · obtain ⟨o, e, _⟩ := T.obj _ _ at7 b hb
          exact (held b hb o e).2
      by_cases yes : b = true
      · subst yes
        refine thnF ((pk _ _ _ _ _).run _ t9 σ8 G9 _ I9 q9) ?_
        rintro ku t10 ⟨ky, G10, I10, r10, q10⟩
        refine thnF ((pv _ _ _ _ _).run _ t10 σ8 G10 _ I10 q10) ?_
        rintro vu t11 ⟨vy, G11, I11, r11, putting⟩
        exact store (X.blk s3 H3 sc e3 feet) _ _ _ _ _ _ _ _ _ _ _ _ rfl rfl rfl rfl I11 putting r10 r11 fun t12 G12 I12 nx => back I12 nx
      · have no : b = false := by cases b with | true => exact absurd rfl yes | false => rfl
        subst no
        exact back I9 q9
  exact codeAny_compStart_dict loop (T.self X.A 0 _ _ _ at4 loop)
theorem ps_setDcG {i : Nat} {y : Str} {py : Pos} {O : Addr → HO} {Put : Addr → (Hp → Prop) → V → V → Hp → Prop} {kx vx tgt it : Expr} {ifs : List Expr} {sc : Scope} {own : List (Str × Nat)} {pos spos : Pos} {walk : TI} {g : TG} {tt : TT} {tk tv : TE}
    (mk0 : ∀ (H : Hp) (h : Heap), sysModules < h.objs.size → ObjOk X.prog X.w H (h.push { cls := .type "dict", data := .dict #[] }) h.objs.size (O h.objs.size)) (store : Stores X Put) (calm : X.calm = true) (nod : X.N.Nodup) (hy : X.N[i]? = some y) (hyl : X.env.scope.names.lookup y = some .local)
    (hsw : swapsWith (.DictComp kx vx [⟨tgt, it, ifs, 0⟩] sc pos) (some (.Name y py)) spos.line X.env = pure true)
    (pi : PI X tgt it walk) (bo : BlkOk X.N X.env.scope sc own) (pg : InBlk X sc fun B => PG B tgt g) (pt : InBlk X sc fun B => PTs B ifs tt) (pk : InBlk X sc fun B => PE B kx tk) (pv : InBlk X sc fun B => PE B vx tv)
    (plain : ∀ x, foldedSetIterable it X.env x = pure x := by intro _; rfl) :
    PS X (.Assign [.Name y py] (.DictComp kx vx [⟨tgt, it, ifs, 0⟩] sc pos) spos) (tAsg (tDcG O Put walk g tt tk tv (own.map (·.2))) (gName i)) := by
  refine ⟨fun held st sl G ends J want => ?_⟩
  rw [exec_Assign_Name_used _ _ _ _ hsw]
  refine wpAny_bind (wpAny_standAt ?_)
  refine wpAny_bind ?_
  show wpAny _ X.A (do let _ ← comprehension (.DictComp kx vx [⟨tgt, it, ifs, 0⟩] sc pos) sc X.env (firstIterPos [⟨tgt, it, ifs, 0⟩] pos) newDict false (eval it X.env) (some (assign (.Name y py) X.env))) _ _ st
  have want : tDcG O Put walk g tt tk tv (own.map (·.2)) sl G (fun x G1 => gName i x sl G1 ends.nx) := want
  refine wpAny_bind (thn (dcG_core (Qf := fun _ st' => SP X held ends .next st') mk0 store calm nod J pi bo pg pt pk pv plain want fun made frame st2 names G2 J2 fin ns foot => ?_) fun _ _ last => wpAny_pure (wpAny_pure last))
  show wpAny _ _ (assign (.Name y py) X.env (.ref made)) _ _ _
  refine wpAny_assign_Name (store_ok2 (v := V.ref made) J2 nod hy (.inl hyl) rfl (fun st3 J3 ⟨place, same, way⟩ => ?_) (.inr hyl))
  obtain ⟨c0, c1, c2, c3, c4, c5⟩ := foot
  have apart : frame ≠ place := by
    rcases way with way | way
    · rw [way]; exact c1
    · exact fun e => c4 y place way e.symm
  refine ⟨names, ns.sameBut same apart, fun st4 same4 => ?_⟩
  exact ⟨_, G2, J3.turned (t' := st3.toks) (fun b _ out e => (same4.2 b out).trans e) c0 c1 c3 c4 c5, fin⟩
theorem sw_trueD {kx vx : Expr} {gs : List Comprehension} {scope : Scope} {pos py : Pos} {y : Str} {l : Nat} {env : Env} (hk : env.scope.kind = .function) (hy : env.scope.names.lookup y = some .local) (hl : (py.line == pos.line) = true)
    (ha : (scope.names.any fun (n, k) => n == y && (k == .local || k == .cell)) = false) : swapsWith (.DictComp kx vx gs scope pos) (some (.Name y py)) l env = pure true := by
  have kind : env.kindOf y = some .local := hy
  have block : env.blockKind = .function := by
    unfold Env.blockKind
    rw [hk]
    rfl
  unfold swapsWith
  simp only [block, kind, ha, Expr.pos, hl]
  rfl
theorem ps_setDcX {P : Program} {w : World} (hP : X.prog = P) (hw : X.w = w) {i : Nat} {y : Str} {py : Pos} {kx vx tgt it : Expr} {ifs : List Expr} {sc : Scope} {own : List (Str × Nat)} {pos spos : Pos} {walk : TI} {g : TG} {tt : TT} {tk tv : TE} (hu : X.A.units + 1 < cLine) (calm : X.calm = true) (nod : X.N.Nodup) (hy : X.N[i]? = some y) (hyl : X.env.scope.names.lookup y = some .local)
    (hsw : swapsWith (.DictComp kx vx [⟨tgt, it, ifs, 0⟩] sc pos) (some (.Name y py)) spos.line X.env = pure true)
    (pi : PI X tgt it walk) (bo : BlkOk X.N X.env.scope sc own) (pg : InBlk X sc fun B => PG B tgt g) (pt : InBlk X sc fun B => PTs B ifs tt) (pk : InBlk X sc fun B => PE B kx tk) (pv : InBlk X sc fun B => PE B vx tv)
    (plain : ∀ x, foldedSetIterable it X.env x = pure x := by intro _; rfl) :
    PS X (.Assign [.Name y py] (.DictComp kx vx [⟨tgt, it, ifs, 0⟩] sc pos) spos) (tAsg (tDcX P w walk g tt tk tv (own.map (·.2))) (gName i)) := by
  subst hP hw
  exact ps_setDcG (fun H h b => dXo_empty H h b) (stores_X hu) calm nod hy hyl hsw pi bo pg pt pk pv plain
theorem ps_setDcT {i : Nat} {y : Str} {py : Pos} {kx vx tgt it : Expr} {ifs : List Expr} {sc : Scope} {own : List (Str × Nat)} {pos spos : Pos} {walk : TI} {g : TG} {tt : TT} {tk tv : TE} (hu : X.A.units + 1 < cLine) (calm : X.calm = true) (nod : X.N.Nodup) (hy : X.N[i]? = some y) (hyl : X.env.scope.names.lookup y = some .local)
    (hsw : swapsWith (.DictComp kx vx [⟨tgt, it, ifs, 0⟩] sc pos) (some (.Name y py)) spos.line X.env = pure true)
    (pi : PI X tgt it walk) (bo : BlkOk X.N X.env.scope sc own) (pg : InBlk X sc fun B => PG B tgt g) (pt : InBlk X sc fun B => PTs B ifs tt) (pk : InBlk X sc fun B => PE B kx tk) (pv : InBlk X sc fun B => PE B vx tv)
    (plain : ∀ x, foldedSetIterable it X.env x = pure x := by intro _; rfl) :
    PS X (.Assign [.Name y py] (.DictComp kx vx [⟨tgt, it, ifs, 0⟩] sc pos) spos) (tAsg (tDcT walk g tt tk tv (own.map (·.2))) (gName i)) :=
  ps_setDcG (fun _ h b => dt_empty h b) (stores_T hu) calm nod hy hyl hsw pi bo pg pt pk pv plain
end
/-- a row with one item more -/
theorem cat_row {K : PySem.W.Frag} {M : Ms} {H : Hp} {v u : V} {r : List Int} {x : Int} {Q : VK} (h : RowF M H v r) (hu : RowF M H u [x]) (lr : r.length ≤ 1000) (hM : Mk M H) (q : ∀ z H', Same H H' → RowF M H' z (r ++ [x]) → Q z H') : rCatF K v u H Q := by
  obtain ⟨a, o, rfl, na, ha, h1, h2⟩ := id h
  obtain ⟨b, o2, rfl, nb, hb, h3, h4⟩ := id hu
  refine ⟨a, b, _, _, rfl, rfl, .inl (.inr ⟨o, ha⟩), .inl (.inr ⟨o2, hb⟩), ?_, fun z => ?_, fun _ z => absurd z (by simp), fun z _ p o3 hp h5 h6 => ?_⟩
  · rw [List.length_map]
    exact Nat.le_of_lt (small1000000 (by show _ + 1 ≤ _; omega))
  · have e : r = [] := by simpa using z
    subst e
    exact q _ _ (Same.refl _) hu
  · refine q _ _ (same_new hp) ⟨p, o3, rfl, hM.out hp, ?_, h5, h6⟩
    rw [upd_same, List.map_append]
theorem row_new {M : Ms} {H : Hp} {p : Addr} {o : Obj} {ns : List Int} (hM : Mk M H) (hp : H p = none) (h1 : o.cls = .type "tuple") (h2 : o.dict = none) : RowF M (upd H p (.frz o (.tup (ns.map V.int)))) (.ref p) ns := ⟨p, o, rfl, hM.out hp, upd_same, h1, h2⟩
/-- rows in a list -/
def RowsAt (good : List Int → Prop) (M : Ms) (H : Hp) (xs : List V) (nss : List (List Int)) : Prop := xs.length = nss.length ∧ ∀ (i : Nat) (ns : List Int), nss[i]? = some ns → ∃ w, xs[i]? = some w ∧ RowF M H w ns ∧ good ns
section
variable {good : List Int → Prop} {M : Ms} {H H' : Hp} {xs : List V} {nss : List (List Int)}
theorem RowsAt.get (h : RowsAt good M H xs nss) {i : Nat} {x : V} (hx : xs[i]? = some x) : ∃ ns, nss[i]? = some ns ∧ RowF M H x ns ∧ good ns := by
  have hi : i < nss.length := by rw [← h.1]; exact (List.getElem?_eq_some_iff.mp hx).1
  obtain ⟨w, hw, q, g⟩ := h.2 i _ (List.getElem?_eq_getElem hi)
  rw [hx] at hw
  cases hw
  exact ⟨_, List.getElem?_eq_getElem hi, q, g⟩
theorem RowsAt.mem (h : RowsAt good M H xs nss) {x : V} (hx : x ∈ xs) : ∃ ns, ns ∈ nss ∧ RowF M H x ns ∧ good ns := by
  obtain ⟨i, hi⟩ := List.mem_iff_getElem?.mp hx
  obtain ⟨ns, h1, h2, h3⟩ := h.get hi
  exact ⟨ns, List.mem_of_getElem? h1, h2, h3⟩
theorem RowsAt.sx (h : RowsAt good M H xs nss) (s : Sx M H H') : RowsAt good M H' xs nss := ⟨h.1, fun i ns e => by
  obtain ⟨w, h1, h2, h3⟩ := h.2 i ns e
  exact ⟨w, h1, h2.sx s, h3⟩⟩
theorem RowsAt.nil : RowsAt good M H [] [] := ⟨rfl, fun i ns e => by simp at e⟩
theorem RowsAt.append {ys : List V} {mss : List (List Int)} (h : RowsAt good M H xs nss) (g : RowsAt good M H ys mss) : RowsAt good M H (xs ++ ys) (nss ++ mss) := by
  refine ⟨by rw [List.length_append, List.length_append, h.1, g.1], fun i ns e => ?_⟩
  by_cases c : i < nss.length
  · rw [List.getElem?_append_left c] at e
    rw [List.getElem?_append_left (by rw [h.1]; exact c)]
    exact h.2 i ns e
  · rw [List.getElem?_append_right (by omega)] at e
    rw [List.getElem?_append_right (by rw [h.1]; omega), h.1]
    exact g.2 _ ns e
theorem RowsAt.one {w : V} {ns : List Int} (q : RowF M H w ns) (g : good ns) : RowsAt good M H [w] [ns] := ⟨rfl, fun i ms e => by
  cases i with
  | zero => cases e; exact ⟨w, rfl, q, g⟩
  | succ i => simp at e⟩
theorem RowsAt.less {N : Ms} (h : RowsAt good M H xs nss) (f : ∀ a, N a → M a) : RowsAt good N H xs nss := ⟨h.1, fun i ns e => by
  obtain ⟨w, h1, h2, h3⟩ := h.2 i ns e
  exact ⟨w, h1, h2.less f, h3⟩⟩
theorem RowsAt.fresh {p : Addr} (h : RowsAt good M H xs nss) (hp : H p = none) : RowsAt good (also M p) H xs nss := ⟨h.1, fun i ns e => by
  obtain ⟨w, h1, h2, h3⟩ := h.2 i ns e
  exact ⟨w, h1, h2.fresh hp, h3⟩⟩
end
end D

namespace D
open PySem PySem.Spec PyProof.Rows L2
/-! ### own errors with one field or more -/
section
variable {K : PySem.W.Frag}
/-- __init__ of an error with one field -/
def sp_err1 (K : PySem.W.Frag) (C : Addr) (f : Str) : Sp := fun vs H Q _ => ∃ (a : Addr) (y : V), vs = [.ref a, y] ∧ OexC K C ∧ PySem.W.findIn K (.ref C) f = some none ∧ H a = some (exo a C none) ∧
  ∀ dx, H dx = none → dx ≠ a → Q .non (upd (upd H dx (exd dx [(f, y)])) a (exo a C (some dx)))
theorem made_heap {H : Hp} {a dx : Addr} {o1 o2 o3 o4 : HO} (ha : H a = none) (ne : dx ≠ a) : upd (del (upd (upd (upd H a o1) dx o2) a o3) a) dx o4 = upd H dx o4 := by
  funext b
  by_cases h1 : b = dx
  · rw [h1, upd_same, upd_same]
  · rw [upd_ne h1, upd_ne h1]
    by_cases h2 : b = a
    · rw [h2, del_same, ha]
    · rw [del_ne h2, upd_ne h2, upd_ne h1, upd_ne h2]
/-- the making of an error with one field: what is asked behind its argument -/
theorem mk_err1 {C : Addr} {f : Str} {H : Hp} {v : V} {E : XK} (ox : OexC K C) (no : PySem.W.findIn K (.ref C) f = some none) (h : ∀ d, H d = none → E (.ref C) (some d) (upd H d (.xd [(f, v)]))) :
    [v].length ≤ 1000 ∧ ∀ a, H a = none → sp_err1 K C f (.ref a :: ([v] ++ [])) (upd H a (exo a C none))
      (fun u H2 => u = .non ∧ ∃ (d : Addr) (fs : List (Str × V)), H2 a = some (exo a C (some d)) ∧ H2 d = some (exd d fs) ∧ H d = none ∧ E (.ref C) (some d) (upd (del H2 a) d (.xd fs))) (fun _ _ _ => False) := by
  refine ⟨by show 1 ≤ 1000; decide, fun a ha => ⟨a, v, rfl, ox, no, upd_same, fun dx hdx hne => ⟨rfl, dx, [(f, v)], upd_same, ?_, ?_, ?_⟩⟩⟩
  · rw [upd_ne hne, upd_same]
  · rw [upd_ne hne] at hdx
    exact hdx
  · rw [made_heap ha hne]
    rw [upd_ne hne] at hdx
    exact h dx hdx
/-- __init__ of an error with two fields -/
def sp_err2 (K : PySem.W.Frag) (C : Addr) (f g : Str) : Sp := fun vs H Q _ => ∃ (a : Addr) (y z : V), vs = [.ref a, y, z] ∧ OexC K C ∧ PySem.W.findIn K (.ref C) f = some none ∧ PySem.W.findIn K (.ref C) g = some none ∧ H a = some (exo a C none) ∧
  ∀ dx, H dx = none → dx ≠ a → Q .non (upd (upd (upd H dx (exd dx [(f, y)])) a (exo a C (some dx))) dx (exd dx [(g, z), (f, y)]))
/-- isinstance facts of an error class -/
theorem kit_err {D C : Addr} {b : Bool} (hd : PySem.W.hasDictIn K C = true) (ty : PySem.W.typeIn K (.ref C) = some (.type "type")) (ne : D ≠ C) (h : PySem.W.subIn K (.ref D) (.ref C) = some b) : PySem.W.kitOne K (.ref D) (.ref C) = some b := by
  obtain ⟨cd, hc, _⟩ := PySem.W.any_some hd
  unfold PySem.W.kitOne
  rw [if_neg (by simpa using ne)]
  show (if ((PySem.W.clsIn K C).isSome && PySem.W.typeIn K (.ref C) == some (.type "type")) = true then PySem.W.subIn K (.ref D) (.ref C) else none) = some b
  rw [if_pos (by rw [hc, ty]; rfl), h]
theorem kit_self {D : Addr} : PySem.W.kitOne K (.ref D) (.ref D) = some true := by
  unfold PySem.W.kitOne
  rw [if_pos (beq_self_eq_true _)]
theorem kit_ty2 {D : Addr} {t : String} {b : Bool} (m : PySem.W.kitMeta t = true) (h : PySem.W.subIn K (.ref D) (.type t) = some b) : PySem.W.kitOne K (.ref D) (.type t) = some b := by
  unfold PySem.W.kitOne
  rw [if_neg (fun z => nomatch (beq_iff_eq.mp z : Value.ref D = Value.type t))]
  show (if PySem.W.kitMeta t = true then PySem.W.subIn K (.ref D) (.type t) else none) = some b
  rw [if_pos m, h]
end
section
variable {X : Cx} {C g : Addr} {n : Nat} {CX : CXT} {sp : Sp} {E : L2.St → XK} {fd : FuncData} {ps : List Str}
/-- isinstance(e, c), e the error that the suite holds -/
def rIsX (K : PySem.W.Frag) (cls : Value) (d : Option Addr) (a : Addr) : List V → Hp → VK → Prop := fun xs H Q => ∃ (D dd : Addr) (fs : List (Str × V)) (c : V) (cv : Value) (b : Bool), cls = .ref D ∧ d = some dd ∧ ExcC K D ∧ H dd = some (.xd fs) ∧
  xs = [.ref a, c] ∧ (∀ u, RelV c u → u = cv) ∧ PySem.W.kitOne K (.ref D) cv = some b ∧ Q (.bl b) H
theorem inst_exc {X : Cx} {pins : List (Addr × Obj)} {σ : L2.St} {H : Hp} {s : Shared} {a D dd : Addr} {oe : Obj} {fs : List (Str × V)} (I : Inv X pins σ H s) (get : s.heap.get? a = some oe) (hz : Zc (.ref D) (some dd) oe) (hf : ∃ vs, oe.data = .fields vs) (ed : H dd = some (.xd fs)) :
    ∃ od, PySem.W.InstAt s.heap a oe D (some od) := by
  have there : ObjOk X.prog X.w H s.heap dd (.xd fs) := I.hok dd _ ed
  obtain ⟨mA, hns, _⟩ := there
  obtain ⟨od, ho, _⟩ := lookIn_ns hns
  obtain ⟨vs, hd⟩ := hf
  exact ⟨od, get, hz.1, by unfold PySem.W.notCls; rw [hd] <;> rfl, by rw [hz.2]; exact ho⟩
theorem call_isX {a : Addr} {oe : Obj} {cls : Value} {d : Option Addr} {pn : List (Addr × Obj)} (hz : Zc cls d oe) (hf : ∃ vs, oe.data = .fields vs) : CallR (X.suite a ((a, oe) :: pn)) (.builtin "isinstance") (rIsX X.K cls d a) := by
  intro held s sl G args vals want J rel h
  obtain ⟨D, dd, fs, c, cv, b, rfl, rfl, EC, ed, rfl, known, kit, q⟩ := h
  match vals, rel with
  | [_, _], .cons rx (.cons rt .nil) =>
    cases rx
    have ec := known _ rt
    subst ec
    obtain ⟨get, _⟩ := J.pin (a, oe) (List.mem_append.mpr (.inl List.mem_cons_self))
    obtain ⟨od, inst⟩ := inst_exc J get hz hf ed
    obtain ⟨cdD, hcD, _⟩ := PySem.W.any_some EC.hd
    exact PySem.W.kia_one (PySem.W.kitx_exc (by rw [hcD]; rfl) EC.hg EC.hk EC.hs EC.ha EC.hn EC.ht EC.hm) J.kIn inst kit (fun z => nomatch z) fun tk => ⟨.bl b, G, J.kept (t' := tk) fun _ _ z => z, rfl, q⟩
/-- isinstance(e, (c, ..)) -/
def rIsXT (K : PySem.W.Frag) (cls : Value) (d : Option Addr) (a : Addr) : List V → Hp → VK → Prop := fun xs H Q => ∃ (D dd p : Addr) (fs : List (Str × V)) (cs : List Addr) (b : Bool), cls = .ref D ∧ d = some dd ∧ ExcC K D ∧ H dd = some (.xd fs) ∧
  xs = [.ref a, .ref p] ∧ H p = some (.tup (cs.map V.ref)) ∧ PySem.W.kitAny K (.ref D) (cs.map Value.ref) = some b ∧ Q (.bl b) H
theorem vals_refs : ∀ {cs : List Addr} {vals : List Value}, Vals (cs.map V.ref) vals → vals = cs.map Value.ref
  | [], _, .nil => rfl
  | c :: r, _, .cons h t => by
    cases h
    rw [vals_refs t]
    rfl
theorem call_isXT {a : Addr} {oe : Obj} {cls : Value} {d : Option Addr} {pn : List (Addr × Obj)} (hz : Zc cls d oe) (hf : ∃ vs, oe.data = .fields vs) : CallR (X.suite a ((a, oe) :: pn)) (.builtin "isinstance") (rIsXT X.K cls d a) := by
  intro held s sl G args vals want J rel h
  obtain ⟨D, dd, p, fs, cs, b, rfl, rfl, EC, ed, rfl, tup, kit, q⟩ := h
  match vals, rel with
  | [_, _], .cons rx (.cons rt .nil) =>
    cases rx
    cases rt
    obtain ⟨get, _⟩ := J.pin (a, oe) (List.mem_append.mpr (.inl List.mem_cons_self))
    obtain ⟨od, inst⟩ := inst_exc J get hz hf ed
    obtain ⟨cdD, hcD, _⟩ := PySem.W.any_some EC.hd
    obtain ⟨_, its, rv, ⟨⟨tc, tdict, tdata, tslots⟩, ho, hc, m, hd⟩⟩ := (show ObjOk X.prog X.w G s.heap p (.tup (cs.map V.ref)) from J.hok p _ tup)
    dsimp only at hc hd
    subst hc hd
    have ei := vals_refs rv
    subst ei
    exact PySem.W.kia_tup (PySem.W.kitx_exc (by rw [hcD]; rfl) EC.hg EC.hk EC.hs EC.ha EC.hn EC.ht EC.hm) J.kIn inst ho kit (fun z => nomatch z) fun tk => ⟨.bl b, G, J.kept (t' := tk) fun _ _ z => z, rfl, q⟩
/-! ### what may raise within a try -/
/-- a def is run one step in, what it raises goes on -/
theorem run_in1S {pins : List (Addr × Obj)} {σ : L2.St} {H : Hp} {s : Shared} {Q : VK} {us : List Value} {vs : List V} (F : FnOk X.prog X.w X.K X.mg X.base CX n g fd ps sp) (hr : Room (n + 1) X.A) (hb : Binds X.K fd ps []) (hx : PassesAt CX X σ (E σ))
    (I : Inv X pins σ H s) (r : Vals vs us) (h : sp vs H Q (E σ)) : wpAny (model X.prog X.w) X.A.in1 (call (.ref g) us) (EP X pins σ Q) X.xe s := by
  have size : (us ++ []).length = ps.length := by rw [List.append_nil, ← r.length]; exact F.len _ _ _ _ h
  have bd := hb s us I.kIn size
  rw [List.append_nil] at bd
  refine wpAny_call (codeAny_mono (F.run X.A.in1 X.stack s H ⟨us, []⟩ us vs Q (E σ) (room_in1 hr) I.env0.in1 bd r h) fun out s' told => ?_)
  match out, told with
  | .error e, told => exact hx pins H s e s' I told
  | .ok (.ret u), told => exact I.after told
  | .ok .next, told => exact False.elim told
  | .ok .brk, told => exact False.elim told
  | .ok .cont, told => exact False.elim told
def tOwnIxS (C : Addr) (sp : Sp) (E : L2.St → XK) (to ti : TE) : TE := fun σ H Q => to σ H fun x H1 => ti σ H1 fun y H2 => ∃ a dx fs, x = .ref a ∧ H2 a = some (.ins C dx fs) ∧ sp [x, y] H2 Q (E σ)
theorem pe_ownIxS {o i : Expr} {to ti : TE} {pos : Pos} (ho : PE X o to) (hi : PE X i ti) (hs : PySem.W.findIn X.K (.ref C) "__getitem__" = some (some (.ref g))) (hf : PySem.W.fnIn X.K g = true) (hg : PySem.W.isFn X.K (.ref g) = true)
    (F : FnOk X.prog X.w X.K X.mg X.base CX n g fd ps sp) (hb : Binds X.K fd ps []) (hr : Room (n + 1) X.A) (hx : ∀ σ, PassesAt CX X σ (E σ))
    (hsl : ∀ ov iv, subscripted i true ov iv = runValue (.builtin "lifetime.subscript" ⟨[ov, iv], []⟩)) : PE X (.Subscript o i pos) (tOwnIxS C sp E to ti) := by
  refine ⟨fun pins s σ H Q I h => ?_⟩
  refine Subscript_ (thn (ho.run pins s σ H _ I h) fun ov s1 ⟨x, H1, I1, rx, q1⟩ => thn (hi.run pins s1 σ H1 _ I1 q1) fun iv s2 ⟨y, H2, I2, ry, a, dx, fs, ex, ha, q⟩ => ?_)
  subst ex
  obtain rfl : ov = Value.ref a := rx
  obtain ⟨mA, O, _⟩ := ins_get I2.hok ha
  obtain ⟨od, J, _⟩ := O.look
  obtain ⟨m, hF⟩ := I2.fr
  exact PySem.W.sub_K hF I2.ok.mod.kin J hs hf hg (run_in1S (us := [.ref a, iv]) (vs := [.ref a, y]) F hr hb (hx σ) I2 (.cons rfl (.cons ry .nil)) q) (hsl _ _)
/-- a method that may raise -/
def tMethS (C : Addr) (m : Str) (sp : Sp) (E : L2.St → XK) (ta : TE) (t : TA) : TE := fun σ H Q => ta σ H fun x H1 => ∃ a dx fs, x = .ref a ∧ H1 a = some (.ins C dx fs) ∧ fs.lookup m = none ∧ t σ H1 fun vs H2 => sp (x :: vs) H2 Q (E σ)
theorem pe_methS {o e : Expr} {es : List Expr} {m : Str} {f : Addr} {pos apos : Pos} {ta : TE} {t : TA} {pl : Sem Bool} (he : PE X o ta) (c : Cls X.K C) (hm : Meth X.K C m f) (F : FnOk X.prog X.w X.K X.mg X.base CX n f fd ps sp) (hr : Room n X.A) (hb : Binds X.K fd ps []) (hx : ∀ σ, PassesAt CX X σ (E σ)) (ha : PA X (e :: es) t)
    (hst : starEach (e :: es) X.env = (false, eval e X.env) :: starEach es X.env := by rfl) (hpl : (backTo pos (starEach es X.env)).any (·.1) = false := by rfl)
    (ht : eval (.Call (.Attribute o m apos) (e :: es) [] pos) X.env = (do
      let ov ← eval o X.env
      standAt apos.atName
      let (f, first) ← holding [ov] (getMethod ov m pl)
      callWith pos f first (backTo pos (starEach (e :: es) X.env)) (backToKw pos (keywordEach [] X.env))) := by rfl) :
    PE X (.Call (.Attribute o m apos) (e :: es) [] pos) (tMethS C m sp E ta t) := by
  refine ⟨fun held st sl G want J told => ?_⟩
  refine PySem.W.methodCall_KW (pl := pl) (thn (he.run held st sl G _ J told) fun u st1 ⟨x, G1, J1, rx, a, dx, fs, ex, ea, l, q⟩ => ?_) ht
  subst ex
  obtain rfl : u = Value.ref a := rx
  refine getmeth_ok J1 ea c hm l (PySem.W.callWith_K (first := [.ref a]) (h₀ := X.base) J1.ok.mod.kin hm.kp (thn (ha.run pos held st1 sl G1 _ J1 q) fun vals st2 ⟨vs, G2, J2, rel, q2⟩ => ⟨J2.kIn, ?_⟩) hst hpl)
  exact run_fnS (us := .ref a :: vals) (vs := .ref a :: vs) F hr hb (hx sl) J2 (.cons rfl rel) q2
/-- x[i] = v, an own def's store that may raise -/
def sOwnPutS (C : Addr) (sp : Sp) (E : L2.St → XK) (to ti tv : TE) : TS := fun D σ H => tv σ H fun v H1 => to σ H1 fun x H2 => ti σ H2 fun y H3 => ∃ a dx fs, x = .ref a ∧ H3 a = some (.ins C dx fs) ∧ sp [x, y, v] H3 (fun _ H4 => D.nx σ H4) (E σ)
theorem ps_ownPutS {o i value : Expr} {pos pos' : Pos} {to ti tv : TE} (ho : PE X o to) (hi : PE X i ti) (hv : PE X value tv) (hq : PySem.W.noSeq X.K C = true) (hs : PySem.W.findIn X.K (.ref C) "__setitem__" = some (some (.ref g))) (hf : PySem.W.isFn X.K (.ref g) = true)
    (F : FnOk X.prog X.w X.K X.mg X.base CX n g fd ps sp) (hb : Binds X.K fd ps []) (hr : Room (n + 1) X.A) (hx : ∀ σ, PassesAt CX X σ (E σ)) (sw : swapsWith value (some (.Subscript o i pos')) pos.line X.env = pure false) :
    PS X (.Assign [.Subscript o i pos'] value pos) (sOwnPutS C sp E to ti tv) := by
  refine ⟨fun pins s σ H D I h => ?_⟩
  refine wpAny_Assign_Subscript (thn (hv.run pins s σ H _ I h) fun r s1 ⟨v, H1, I1, rv, q1⟩ => thn (ho.run pins s1 σ H1 _ I1 q1) fun u s2 ⟨x, H2, I2, rx, q2⟩ => thn (hi.run pins s2 σ H2 _ I2 q2) fun iv s3 ⟨y, H3, I3, ry, a, dx, fs, ex, ha, q⟩ => ?_) sw
  subst ex
  obtain rfl : u = Value.ref a := rx
  obtain ⟨mA, O, _⟩ := ins_get I3.hok ha
  obtain ⟨od, J, _⟩ := O.look
  refine wp_ownPut I3.kIn J hq hs hf (wpAny_mono (run_fnS (us := [.ref a, iv, r]) (vs := [.ref a, y, v]) F (hr.mono (Nat.le_succ n)) hb (hx σ) I3 (.cons rfl (.cons ry (.cons rv .nil))) q) (fun w s' z => ?_) fun _ _ z => z)
  obtain ⟨z', H', I', _, qz⟩ := z
  exact ⟨σ, H', I', qz⟩
end
end D

namespace D
open PySem PySem.Spec PyProof.Rows L2
/-! ### list(o), o of an own class whose __iter__ hands an iterator over a tuple out -/
/-- at it an iterator over the tuple at t, the next place is i -/
def ItT (t it : Addr) (i : Nat) : HO := .ext fun h => h.IsTupleIter it t i
/-- something stands at it -/
def AnyO (it : Addr) : HO := .ext fun h => ∃ o, h.get? it = some o
section
variable {P : Program} {w : World} {H : Hp} {h : Heap} {t it : Addr} {i : Nat}
theorem itT_ok (e : h.IsTupleIter it t i) : ObjOk P w H h it (ItT t it i) := ⟨e, ⟨_, e.choose_spec.1⟩, fun h1 h2 q k => by
  obtain ⟨o, ho, r⟩ := q
  exact ⟨o, k _ ho, r⟩⟩
theorem any_ok {o : Obj} (e : h.get? it = some o) : ObjOk P w H h it (AnyO it) := ⟨⟨_, e⟩, ⟨_, e⟩, fun h1 h2 q k => by
  obtain ⟨o, ho⟩ := q
  exact ⟨o, k _ ho⟩⟩
end
section
variable {X : Cx} {pins : List (Addr × Obj)} {σ : L2.St} {H : Hp} {s : Shared} {t it : Addr} {i : Nat}
theorem itT_get (I : Inv X pins σ H s) (e : H it = some (ItT t it i)) : s.heap.IsTupleIter it t i := (I.hok it _ e).1
/-- iter(t), t a tuple -/
def rIterT (K : PySem.W.Frag) : List V → Hp → VK → Prop := fun xs H Q => ∃ (t : Addr) (zs : List V), xs = [.ref t] ∧ SqT K H t zs ∧ ∀ it, H it = none → Q (.ref it) (upd H it (ItT t it 0))
theorem call_iterT : CallR X (.builtin "iter") (rIterT X.K) := by
  intro pins s σ H xs us Q I r h
  obtain ⟨t, zs, rfl, hq, q⟩ := h
  obtain rfl := Vals.ref1 r
  obtain ⟨its, rv, ⟨o, ho, hc, n, hd⟩, hz⟩ := I.tuple hq
  refine Calls.call_function_entry (by decide +kernel) (by decide +kernel) PySem.W.kdk_entry_iter (PySem.W.kdk_args_iter _) ?_
  unfold Builtin.«iter»
  refine wpAny_bind (m := someArgs "iter" 1 2 _) (wpAny_of_eq (a := [Value.ref t]) (by first | rfl | kernel_rfl!) ?_)
  show wpAny _ _ (pyIter (.ref t) >>= _) _ _ _
  refine wpAny_bind (wpAny_pyIter_tuple (items := its.toArray) ⟨o, ho, hc, n, hd⟩ ?_)
  refine wpAny_pure ⟨_, rfl, ?_⟩
  exact ⟨.ref s.heap.objs.size, _, I.laid (t' := s.toks) (fun b u e => Heap.get?_push_of_some _ e) (Nat.le_refl _) (itT_ok ⟨_, Heap.get?_push_size _ rfl, rfl, rfl⟩), rfl, q _ (I.hok.fresh (Nat.le_refl _))⟩
end
section
variable {prog : Program} {w : World} {A : Around} {E : Value → Shared → Prop} {s : Shared}
theorem tuple_end2 {it t : Addr} {i : Nat} {items : Array Value} {Q : Option Value → Shared → Prop} (hh : A.handled = none)
    (hit : s.heap.IsTupleIter it t i) (ht : s.heap.IsTuple t items) (hx : items[i]? = none)
    (hQ : ∀ h', (∃ o, h'.get? it = some o) → Heap.ExtBut it s.heap h' → Q none { s with heap := h' }) : wpAny (model prog w) A (pyNext (.ref it)) Q E s := by
  obtain ⟨o, ho, hc, hd⟩ := id hit
  obtain ⟨ol, hol, _, nl, hdl⟩ := ht
  unfold pyNext
  refine wpAny_bind (wpAny_attempt (wpAny_callSpecial?_slot (name := Str.ofString "__next__") hit.typeIs F.slot_tuple_iterator_next
    (wpAny_call_entry F.slot_tuple_iterator_next hit.typeIs F.entry_tuple_iterator_next ?_ (F.args_tuple_iterator_next_1 _))))
  show wpAny _ _ (field (.ref it) 0 >>= _) _ _ s
  refine wpAny_bind (wpAny_field ho hd (x := .ref t) rfl ?_)
  show wpAny _ _ (if (Value.ref t == Value.none) = true then _ else _) _ _ s
  rw [if_neg (show ¬ ((Value.ref t == Value.none) = true) from Bool.false_ne_true)]
  show wpAny _ _ (field (.ref it) 1 >>= _) _ _ s
  refine wpAny_bind (wpAny_field ho hd (x := .int i 0) rfl ?_)
  show wpAny _ _ (seqItems? (.ref t) >>= _) _ _ s
  refine wpAny_bind (wpAny_seqItems hol hdl ?_)
  simp only [Int.toNat_natCast, hx]
  refine wpAny_bind (wpAny_rule (wpAny_bind (wpAny_setField ho hd (by simp) ?_)))
  show wpAny _ _ (newExc (.type "StopIteration") [] >>= _) _ _ _
  refine wpAny_bind ?_
  simp only [newExc, newTuple]
  refine wpAny_bind (wpAny_newObj_type ?_ (by size_fits))
  refine wpAny_bind (m := firstArgMember _ _) (wpAny_of_eq (a := Value.none) (by first | rfl | (simp only [firstArgMember]; rfl)) ?_)
  refine wpAny_newObj_type ?_ (by size_fits)
  simp only [raiseNew]
  refine wpAny_bind (wpAny_handled ?_)
  first | rw [show A.in1.handled = none from hh] | rw [hh]
  refine wpAny_bind (wpAny_pure (wpAny_throw ?_))
  refine wpAny_bind (wpAny_isInstance (T := "StopIteration") (b := true) ⟨_, Heap.get?_push_size _ rfl, rfl⟩ PySem.isSubtype_stop ?_)
  refine wpAny_pure (hQ _ ⟨_, Heap.get?_push_of_some _ (Heap.get?_push_of_some _ (Heap.get?_update_self _ ho (Obj.isFreed_of_fields (Obj.data_mapFields hd _))))⟩ (((Heap.SameBut.update ..).extBut.push _).push _))
end
/-- a class whose instances have an own __iter__, without __len__ and __length_hint__ -/
structure ItK (K : PySem.W.Frag) (C fi : Addr) : Prop where
  it : PySem.W.findIn K (.ref C) "__iter__" = some (some (.ref fi))
  itF : PySem.W.isFn K (.ref fi) = true
  nolen : PySem.W.findIn K (.ref C) "__len__" = some none
  nohint : PySem.W.findIn K (.ref C) "__length_hint__" = some none
section
variable {X : Cx} {pins : List (Addr × Obj)} {σ : L2.St} {H : Hp} {s : Shared}
theorem hintK {M : Model} {A : Around} {E : Value → Shared → Prop} {Q : Bool → Shared → Prop} {K : PySem.W.Frag} {a C fi : Addr} {ox : Obj} {od : Option Obj} (hc : ItK K C fi) (hK : K.In s.heap) (J : PySem.W.InstAt s.heap a ox C od) (h : Q true s) :
    wpAny M A (Builtin.List.listLengthHint (.ref a)) Q E s := by
  unfold Builtin.List.listLengthHint
  refine wpAny_bind (wpAny_bind (J.type.here ((PySem.W.looks_findIn hK hc.nolen).here ?_)))
  refine PySem.W.KFB.if_not rfl ?_
  refine PySem.W.KFB.if_not rfl ?_
  refine wpAny_bind (wpAny_bind (J.type.here ((PySem.W.looks_findIn hK hc.nohint).here ?_)))
  exact wpAny_pure h
theorem it_loop {A1 : Around} {it t q : Addr} {xs : List V} {H0 : Hp} {Rs : Result → Shared → Prop} (hh : A1.handled = none) (nqi : q ≠ it) (nti : t ≠ it) (hT : SqT X.K H0 t xs) (htq : t ≠ q) (hl : xs.length ≤ 1000)
    (hdone : ∀ H s, Inv X pins σ H s → (∀ b, b ≠ it → b ≠ q → H b = H0 b) → H q = some (.lst xs) → H it ≠ none → Rs (.ok (.ret .none)) s) :
    ∀ (k i : Nat) (H : Hp) (s : Shared), xs.length - i = k → i ≤ xs.length → Inv X pins σ H s → (∀ b, b ≠ it → b ≠ q → H b = H0 b) → H q = some (.lst (xs.take i)) → H it = some (ItT t it i) →
      codeAny (model X.prog X.w) A1 (.builtin "list.extend.loop" ⟨[.ref q, .ref it, .none], []⟩) Rs s := by
  intro k
  induction k with
  | zero =>
    intro i H s hk hi I hH hq hit
    have ei : i = xs.length := by omega
    subst ei
    have hT' : SqT X.K H t xs := by
      unfold SqT Rd at hT ⊢
      rw [hH t nti htq]
      exact hT
    obtain ⟨its, rv, pl, hz⟩ := I.tuple hT'
    refine codeAny_builtin PySem.F.entry_extend_loop ?_
    rw [Around.under_plainId PySem.F.plain_extend_loop _]
    show wpAny _ A1.in1 (pyNext (.ref it) >>= _) _ _ s
    refine wpAny_bind (tuple_end2 (items := its.toArray) hh (itT_get I hit) (by obtain ⟨o, ho, hc, n, hd⟩ := pl; exact ⟨o, ho, hc, n, hd⟩) (by have := rv.length; simp [← this]) fun h' he hb => ?_)
    have mu : Mut (H it) := by rw [hit]; exact True.intro
    obtain ⟨o', ho'⟩ := he
    have I' := I.write (x := it) (e := it) (t' := s.toks) (o := AnyO it) (h' := h') mu (.inl rfl) (fun b o nb z => hb b o nb z) ⟨_, ho'⟩ (any_ok ho')
    refine wpAny_pure (hdone _ _ I' (fun b h1 h2 => by rw [upd_ne h1]; exact hH b h1 h2) ?_ ?_)
    · rw [upd_ne nqi, hq, List.take_length]
    · rw [upd_same]
      exact fun z => nomatch z
  | succ k ih =>
    intro i H s hk hi I hH hq hit
    have hlt : i < xs.length := by omega
    have hT' : SqT X.K H t xs := by
      unfold SqT Rd at hT ⊢
      rw [hH t nti htq]
      exact hT
    obtain ⟨its, rv, pl, hz⟩ := I.tuple hT'
    obtain ⟨u, hu, ru⟩ := rv.get (i := i) (List.getElem?_eq_getElem hlt)
    refine codeAny_builtin PySem.F.entry_extend_loop ?_
    rw [Around.under_plainId PySem.F.plain_extend_loop _]
    show wpAny _ A1.in1 (pyNext (.ref it) >>= _) _ _ s
    refine wpAny_bind (wpAny_pyNext_tuple_item (items := its.toArray) (x := u) (itT_get I hit) (by obtain ⟨o, ho, hc, n, hd⟩ := pl; exact ⟨o, ho, hc, n, hd⟩) (by rw [List.getElem?_toArray]; exact hu) fun h' e' sb => ?_)
    have mu : Mut (H it) := by rw [hit]; exact True.intro
    have I' := I.write (x := it) (e := it) (t' := s.toks) (o := ItT t it (i + 1)) (h' := h') mu (.inl rfl) (fun b o nb z => (sb.2 b nb).trans z) ⟨_, e'.choose_spec.1⟩ (itT_ok e')
    have hq' : upd H it (ItT t it (i + 1)) q = some (.lst (xs.take i)) := by rw [upd_ne nqi]; exact hq
    show wpAny _ A1.in1 (updateSeq q (·.push u) >>= _) _ _ _
    obtain ⟨z, its2, c, r2, e⟩ := I'.lstM hq'
    have hlen : (xs.take i).length = i := by rw [List.length_take]; omega
    obtain ⟨r2, hl2, e⟩ := (⟨r2, e⟩ : _ ∧ _ ∧ _)
    have l2 : its2.length = i := by rw [← r2.length, hlen]
    refine wpAny_bind (wpAny_updateSeq e rfl (wpAny_pure ⟨plainId_quiet PySem.F.plain_extend_loop _, ?_⟩) (by rw [List.size_toArray, l2, sizeLine_eq]; omega) (by show (its2.toArray.push u).size ≤ sizeLine + 1; rw [Array.size_push, List.size_toArray, l2, sizeLine_eq]; omega))
    refine ih (i + 1) _ _ (by omega) hlt (I'.lset (its' := its2 ++ [u]) (ys := xs.take (i + 1)) (t' := s.toks) hq' e (by simp) ?_ (by rw [List.length_take, sizeLine_eq]; omega)) (fun b h1 h2 => ?_) upd_same ?_
    · rw [List.take_add_one, List.getElem?_eq_getElem hlt]
      exact r2.append (.cons ru .nil)
    · rw [upd_ne h2, upd_ne h1]
      exact hH b h1 h2
    · rw [upd_ne (Ne.symm nqi), upd_same]

/-- list(o): __iter__ hands an iterator over a tuple out -/
def rListIt (K : PySem.W.Frag) (C : Addr) (sp : Sp) (E : XK) : List V → Hp → VK → Prop := fun xs H Q => ∃ a dx fs, xs = [.ref a] ∧ H a = some (.ins C dx fs) ∧
  ∀ q, H q = none → sp [.ref a] (upd H q (.lst [])) (fun v H' => ∃ it t zs, v = .ref it ∧ H' it = some (ItT t it 0) ∧ SqT K H' t zs ∧ t ≠ it ∧ t ≠ q ∧ q ≠ it ∧ H' q = some (.lst []) ∧ H' a = some (.ins C dx fs) ∧ zs.length ≤ 1000 ∧
    ∀ H'', (∀ b, b ≠ it → b ≠ q → H'' b = H' b) → H'' q = some (.lst zs) → H'' it ≠ none → Q (.ref q) H'') E
variable {CI : CXT} {C fi : Addr} {fdI : FuncData} {psI : List Str} {spI : Sp} {EI : XK} {n : Nat}
theorem extend_it {a dx q : Addr} {fs : List (Str × V)} {Hq : Hp} {Q : VK} (sb : Sub X n X.A.in1.in1) (hA : X.A.in1.handled = none) (hc : ItK X.K C fi) (FI : FnOk X.prog X.w X.K X.mg X.base CI n fi fdI psI spI) (bI : Binds X.K fdI psI []) (xI : Passes CI X EI) (I2 : Inv X pins σ Hq s) (hqq : Hq q = some (.lst [])) (ha2 : Hq a = some (.ins C dx fs))
    (hsp : spI [.ref a] Hq (fun v H' => ∃ it t zs, v = .ref it ∧ H' it = some (ItT t it 0) ∧ SqT X.K H' t zs ∧ t ≠ it ∧ t ≠ q ∧ q ≠ it ∧ H' q = some (.lst []) ∧ H' a = some (.ins C dx fs) ∧ zs.length ≤ 1000 ∧
      ∀ H'', (∀ b, b ≠ it → b ≠ q → H'' b = H' b) → H'' q = some (.lst zs) → H'' it ≠ none → Q (.ref q) H'') EI) :
    wpAny (model X.prog X.w) X.A.in1.in1 (Builtin.List.listExtendWith (.ref q) (.ref a) .none)
      (fun fin s' => match fin with | .done f => wants (fun r s₂ => r = .none ∧ EP X pins σ Q (.ref q) s₂) X.xe (.ok f) s' | .again c' => c'.quiet = true ∧ codeAny (model X.prog X.w) X.A.in1 c' (wants (fun r s₂ => r = .none ∧ EP X pins σ Q (.ref q) s₂) X.xe) s') (fun e s' => wants (fun r s₂ => r = .none ∧ EP X pins σ Q (.ref q) s₂) X.xe (.error e) s') s := by
  have hne : q ≠ a := ne_of hqq ha2 (fun z => nomatch z)
  obtain ⟨mA, J, _⟩ := ins_get I2.hok ha2
  obtain ⟨od, J, _⟩ := J.look
  obtain ⟨m0, hF⟩ := I2.fr
  unfold Builtin.List.listExtendWith
  refine wpAny_bind (J.type.here ?_)
  have h1 : Builtin.List.listSameRef (.ref q) (.ref a) = false := by simp [Builtin.List.listSameRef, hne]
  have h2 : (Value.ref C == Value.type "list") = false := rfl
  have h3 : (Value.ref C == Value.type "tuple") = false := rfl
  simp only [h1, h2, h3, Bool.or_false, Bool.false_eq_true, if_false]
  refine wpAny_bind (PySem.W.owit_iter hF I2.ok.mod.kin J hc.it hc.itF ?_)
  have e0 : Env0 X.prog X.w X.K X.mg X.base X.A.in1.in1 X.stack s Hq := by
    have e := I2.env0
    exact ⟨by rw [sb.fr]; exact e.frames, e.mod, e.bs, e.bsz, e.funs, e.frf, e.hok, e.bare⟩
  have hl := FI.len _ _ _ _ hsp
  have r2 : Vals [V.ref a] [Value.ref a] := .cons rfl .nil
  refine wpAny_call (codeAny_mono (FI.run X.A.in1.in1 X.stack s Hq ⟨[.ref a], []⟩ [.ref a] [.ref a] _ EI sb.room e0 (by
    have := bI s [.ref a] I2.kIn (by simpa using hl)
    simpa using this) r2 hsp) fun r s' hq' => ?_)
  cases r with
  | error e => exact xI pins σ Hq s e s' I2 hq'
  | ok fl =>
    cases fl with
    | next => exact False.elim hq'
    | brk => exact False.elim hq'
    | cont => exact False.elim hq'
    | ret u =>
      obtain ⟨v, H', I', rv, it, t, zs, ev, hit, hT, nti, ntq, nqi, hq2, ha', hz, q2⟩ := I2.after hq'
      subst ev
      cases rv
      unfold PySem.W.OwitIt
      have hty := (itT_get I' hit).typeIs (s := s')
      refine wpAny_specialOf hty F.slot_tuple_iterator_next.lookup ?_
      obtain ⟨mA', J', _⟩ := ins_get I'.hok ha'
      obtain ⟨od', J', _⟩ := J'.look
      refine wpAny_bind (wpAny_holding (hintK hc I'.kIn J' ?_))
      obtain ⟨z, its, k, r3, hl3, e3⟩ := I'.lstM hq2
      cases r3
      have hloop : ∀ s2, Inv X pins σ H' s2 → codeAny (model X.prog X.w) X.A.in1 (.builtin "list.extend.loop" ⟨[.ref q, .ref it, .none], []⟩) (wants (fun r s₂ => r = .none ∧ EP X pins σ Q (.ref q) s₂) X.xe) s2 := fun s2 I4 =>
        it_loop (A1 := X.A.in1) hA nqi nti hT ntq hz (fun H5 s5 I5 a1 a2 a3 => ⟨rfl, .ref q, H5, I5, rfl, q2 H5 a1 a2 a3⟩) _ 0 H' s2 rfl (Nat.zero_le _) I4 (fun _ _ _ => rfl) hq2 hit
      refine wpAny_ite_split (fun _ => ?_) (fun _ => wpAny_pure ⟨plainId_quiet PySem.F.plain_extend_loop _, hloop s' I'⟩)
      refine wpAny_bind (wpAny_rule ?_)
      refine wpAny_bind ?_
      show wpAny _ _ (updateSeq q (·.push .none) >>= fun _ => updateSeq q (·.pop)) _ _ _
      refine wpAny_bind (wpAny_updateSeq e3 rfl ?_)
      have I3 := I'.lset (f := (·.push Value.none)) (its' := [Value.none]) (ys := [.non]) (t' := s'.toks) hq2 e3 (by simp) (.cons rfl .nil) (by rw [List.length_singleton, sizeLine_eq]; decide)
      obtain ⟨z4, its4, k4, r4, hl4, e4⟩ := I3.lstM upd_same
      obtain ⟨u4, rfl, ru4⟩ := r4.one
      refine wpAny_updateSeq e4 rfl ?_ (by show 1 ≤ sizeLine; rw [sizeLine_eq]; decide) (by show 0 ≤ sizeLine + 1; exact Nat.zero_le _)
      refine wpAny_pure ⟨plainId_quiet PySem.F.plain_extend_loop _, hloop _ ?_⟩
      have I5 := I3.lset (f := (·.pop)) (its := [u4]) (its' := []) (ys := []) (t' := s'.toks) upd_same e4 (by rfl) .nil (Nat.zero_le _)
      rw [upd_upd] at I5
      have hH : upd H' q (.lst []) = H' := by
        funext b
        by_cases hb : b = q
        · rw [hb, upd_same, hq2]
        · rw [upd_ne hb]
      rw [hH] at I5
      exact I5
theorem call_listIt (hc : ItK X.K C fi) (FI : FnOk X.prog X.w X.K X.mg X.base CI n fi fdI psI spI) (bI : Binds X.K fdI psI []) (xI : Passes CI X EI) (hr : Room (n + 2) X.A) : CallR X (.type "list") (rListIt X.K C spI EI) := by
  intro pins s σ H xs us Q I rv h
  obtain ⟨a, dx, fs, rfl, ha, hq⟩ := h
  obtain ⟨u, rfl, ru⟩ := rv.one
  cases ru
  have sb : Sub X n X.A.in1.in1 := (Sub.in1 (Sub.in1 (⟨hr, rfl⟩ : Sub X (n + 2) X.A)))
  refine callType_codes (Q₁ := fun obj s₁ => obj = .ref s.heap.objs.size ∧ s₁ = { s with heap := s.heap.push { cls := .type "list", data := .seq #[] } }) PySem.F.called_list (PySem.F.typeCall_list_1 _) PySem.F.entry_list_init
    (code_list_new _ ⟨rfl, rfl⟩) fun obj s₁ h₁ => ?_
  obtain ⟨rfl, rfl⟩ := h₁
  have hS : (s.heap.push { cls := .type "list", data := .seq #[] }).get? s.heap.objs.size = some { cls := .type "list", data := .seq #[] } := Heap.get?_push_size _ rfl
  refine ⟨⟨_, hS, rfl⟩, PySem.F.args_list_init_2 _ _, ?_⟩
  have fr : H s.heap.objs.size = none := I.hok.fresh (Nat.le_refl _)
  have hsp := hq _ fr
  have I1 : Inv X pins σ (upd H s.heap.objs.size (.lst [])) { s with heap := s.heap.push { cls := .type "list", data := .seq #[] } } := I.lnew (its := []) (t' := s.toks) .nil (Nat.zero_le _)
  show wpAny _ _ (do let old ← Builtin.List.listItems (.ref s.heap.objs.size); Builtin.List.listUpdate (.ref s.heap.objs.size) (fun _ => #[]); letGo old.toList.reverse; Builtin.List.listExtendWith (.ref s.heap.objs.size) (.ref a) .none) _ _ _
  refine wpAny_bind ?_
  unfold Builtin.List.listItems
  refine wpAny_bind (wpAny_seqItems hS rfl (wpAny_pure ?_))
  show wpAny _ _ (updateSeq s.heap.objs.size (fun _ => #[]) >>= fun _ => letGo (#[] : Array Value).toList.reverse >>= fun _ => Builtin.List.listExtendWith (.ref s.heap.objs.size) (.ref a) .none) _ _ _
  refine wpAny_bind (wpAny_updateSeq hS rfl ?_)
  have I2 := I1.lset (f := fun _ => #[]) (its := []) (its' := []) (ys := []) (t' := s.toks) upd_same hS rfl .nil (Nat.zero_le _)
  rw [upd_upd] at I2
  refine wpAny_bind (wpAny_letGo ?_)
  have ha2 : upd H s.heap.objs.size (.lst []) a = some (.ins C dx fs) := by rw [upd_ne (ne_of_none ha fr)]; exact ha
  exact extend_it sb hr.hd hc FI bI xI I2 upd_same ha2 hsp
end
end D

namespace D
open PySem PySem.Spec PyProof.Rows L2
/-! ### texts as rows of signs -/
abbrev sg (z : Str) : List Nat := z.cps.toList
theorem sg_len (z : Str) : (sg z).length = z.length := Array.length_toList
theorem sg_ext {a b : Str} (h : sg a = sg b) : a = b := by
  cases a
  cases b
  congr 1
  exact Array.toList_inj.mp h
theorem sg_app (a b : Str) : sg (a ++ b) = sg a ++ sg b := Array.toList_append
theorem sg_one (c : Nat) : sg ⟨#[c]⟩ = [c] := rfl
theorem sg_cut (z : Str) (k : Nat) : sg (cutS z none (some (k : Int))) = (sg z).take k := by
  unfold cutS
  show ((z.cps.toList.drop 0).take (HT.sIx z.length z.length (some (k : Int)) - 0)) = _
  rw [HT.sIx_nat, List.drop_zero, Nat.sub_zero, ← sg_len]
  by_cases c : k ≤ (sg z).length
  · rw [Nat.min_eq_left c]
  · rw [Nat.min_eq_right (by omega), List.take_of_length_le (Nat.le_refl _), List.take_of_length_le (by omega)]
theorem sg_from (z : Str) (k : Nat) : sg (cutS z (some (k : Int)) none) = (sg z).drop k := by
  unfold cutS
  show ((z.cps.toList.drop (HT.sIx z.length 0 (some (k : Int)))).take (HT.sIx z.length z.length none - HT.sIx z.length 0 (some (k : Int)))) = _
  rw [HT.sIx_nat, HT.sIx_none, ← sg_len]
  by_cases c : k ≤ (sg z).length
  · rw [Nat.min_eq_left c, List.take_of_length_le (by rw [List.length_drop]; exact Nat.le_refl _)]
  · rw [Nat.min_eq_right (by omega), List.drop_of_length_le (Nat.le_refl _), List.drop_of_length_le (by omega)]
    simp
theorem sg_join0 : ∀ ys : List Str, sg (Str.join (Str.ofString "") ys) = (ys.map sg).flatten
  | [] => rfl
  | [y] => by
    show sg y = _
    simp
  | x :: y :: r => by
    show sg (x ++ (Str.ofString "") ++ Str.join (Str.ofString "") (y :: r)) = _
    rw [sg_app, sg_app, sg_join0 (y :: r), show sg (Str.ofString "") = [] from by decide +kernel]
    simp
end D

namespace D
open PySem PySem.Spec PyProof.Rows L2
/-! ### errors whose suites call defs -/
section
variable {X : Cx} {e : Expr} {es : List Expr} {ta : TA} {p pos : Pos}
/-- the making of an own error, outside of a suite, for the ways out that tell its context -/
theorem pmk_oexN {CX : CXT} {x : Str} {C fI : Addr} {k : Nat} {fd : FuncData} {ps : List Str} {sp : Sp} {ds : List Value} {dvs : List V} (T : OexC X.K C) (iC : PySem.W.findIn X.K (.ref C) "__init__" = some (some (.ref fI))) (tI : PySem.W.typeIn X.K (.ref fI) = some (.type "function"))
    (F1 : FnOk X.prog X.w X.K X.mg X.base CX k fI fd ps sp) (hr : Room (k + 1) X.A) (hb : Binds X.K fd ps ds) (hd : Vals dvs ds) (hx : Passes CX X (fun _ _ _ => False)) (hg : Gl X x) (hm : X.mg x = some (.ref C)) (ha : PA X (e :: es) ta)
    (hdb : (x == ("__debug__" : Str)) = false := by decide) (he : starEach (e :: es) X.env = (false, eval e X.env) :: starEach es X.env := by rfl) (hpl : (backTo pos (starEach es X.env)).any (·.1) = false := by rfl) :
    L2N.PMk X (.Call (.Name x p) (e :: es) [] pos) (tMkO C sp dvs ta) := by
  intro pins s σ H Q I h
  obtain ⟨nm, q, N, bs, bm, sn, sub, ab, col, dd, k0, k1, k2, k3, k5, hC, hbm⟩ := T.cls
  refine wpAny_Call_Name_kw (ld_glob I hg hm ?_ hdb)
  refine PySem.W.callWith_K (h₀ := X.base) I.ok.mod.kin T.kC (thn (ha.run pos pins s σ H _ I h) fun us s1 ⟨vs, H1, I1, r1, hz, q1⟩ => ⟨I1.kIn, ?_⟩) he hpl
  show wpAny _ _ (call (.ref C) us) _ _ _
  obtain ⟨hp, g, dr, tk, os⟩ := s1
  have hsz : hp.objs.size ≤ hp.objs.size + 1 := Nat.le_succ _
  have hn : H1 (hp.objs.size + 1) = none := I1.hok.fresh hsz
  have hq := q1 (hp.objs.size + 1) hn
  have kk : ∀ b o, hp.get? b = some o → ((hp.push (PySem.W.kdv_tup us)).push (PySem.HandSPX.excO C hp.objs.size)).get? b = some o := fun b o e => Heap.get?_push_of_some _ (Heap.get?_push_of_some _ e)
  have hget : ((hp.push (PySem.W.kdv_tup us)).push (PySem.HandSPX.excO C hp.objs.size)).get? (hp.objs.size + 1) = some (PySem.HandSPX.excO C hp.objs.size) := by heap_get
  have I2 : Inv X pins σ (upd H1 (hp.objs.size + 1) (exo (hp.objs.size + 1) C none)) ⟨(hp.push (PySem.W.kdv_tup us)).push (PySem.HandSPX.excO C hp.objs.size), g, dr, tk, os⟩ :=
    I1.laid (t' := tk) (a := hp.objs.size + 1) (o := exo (hp.objs.size + 1) C none) (h' := (hp.push (PySem.W.kdv_tup us)).push (PySem.HandSPX.excO C hp.objs.size)) kk hsz (exo_ok hget)
  have r2 : Vals (V.ref (hp.objs.size + 1) :: (vs ++ dvs)) (Value.ref (hp.objs.size + 1) :: (us ++ ds)) := .cons rfl (r1.append hd)
  have hl : (Value.ref (hp.objs.size + 1) :: us ++ ds).length = ps.length := by
    have e := r2.length
    rw [F1.len _ _ _ _ hq] at e
    exact e.symm
  have hus : us.length ≤ sizeLine := by
    rw [← Paired.length r1, sizeLine_eq]
    omega
  refine wpAny_call (PySem.HandSPX.call_own F.excBase_ValueError (fun Y => PySem.HandSPX.refsVE_contains Y bm hbm) (I1.kIn _ _ hC) (PySem.W.looks_findIn I1.kIn iC) (fun self => PySem.W.bind_fn I1.kIn self tI) hus
    (codeAny_mono (F1.run _ X.stack _ _ ⟨Value.ref (hp.objs.size + 1) :: us, []⟩ (Value.ref (hp.objs.size + 1) :: (us ++ ds)) _ _ (fun _ _ _ => False) (hr.make C us []) (I2.env0.make C us []) (hb _ (Value.ref (hp.objs.size + 1) :: us) I2.kIn hl) r2 hq) fun r s' hq' => ?_))
  cases r with
  | error er => exact hx pins σ _ _ er s' I2 hq'
  | ok fl =>
    cases fl with
    | ret u =>
      obtain ⟨v, H2, os2, bare2, un2, hok2, rv, ev, d, fs, ea, ed, hd1, q2⟩ := hq'
      subst ev
      obtain ⟨h2, g2, d2, t2, os'⟩ := s'
      obtain ⟨t0, G, J, kG, ge, hoe, na⟩ := mk_end0 (d2 := d2) (t2 := t2) I1 hsz kk un2 hok2 os2 bare2 ea ed hd1
      refine ⟨rv, ⟨hp.objs.size + 1, _, _, ⟨G, g2, d2, t2, os'⟩, _, .ref C, some d, rfl, J, kG, ge, hoe, ⟨rfl, rfl, fun vs hv => ?_⟩, rfl, rfl, na, rfl, bare2, raises_own T.exC T.tyC, q2⟩⟩
      cases hv
      rfl
    | next => exact False.elim hq'
    | brk => exact False.elim hq'
    | cont => exact False.elim hq'
end
section
variable {P : Program} {w : World} {K : PySem.W.Frag} {mg : Str → Option Value} {base : Heap}
/-- as Fun.okX, for the ways out that tell the error's context -/
theorem Fun.okXN {x qual : Str} {st : Stmt} {f : Addr} {fd : FuncData} {N ps : List Str} {k : Nat} {sp : Sp} (F : Fun K x qual st f fd) (S : FnScope N ps (defScope st)) (len : ∀ vs H Q E, sp vs H Q E → vs.length = ps.length)
    (hbody : ∀ (cdv : Value) (A : Around) (outer : List Env) (s : Shared) (H : Hp) (vs : List V) (Q : VK) (E : XK), Room k (A.deeper (envOfC qual (defScope st) s.heap.objs.size f cdv)) → sp vs H Q E →
      ∃ t, PSs (cxOf (L2N.CX P w) P w K mg base N qual (defScope st) f cdv A outer s H E) (defBody st) t ∧ t { nx := fun _ H' => Q .non H', rt := Q } (start N vs) H) : FnOk P w K mg base (L2N.CX P w) (k + 1) f fd ps sp := by
  obtain ⟨oc, od, kV, doc, pm, an, cdv, ct, osl, rfl, lk, hcd⟩ := F.ex
  exact fn_of lk hcd S len fun A outer s H vs Q E hr hsp => hbody cdv A outer s H vs Q E hr hsp
theorem takes0N {X : Cx} : L2N.Takes X (fun _ _ _ _ => False) := fun _ _ x => by
  obtain ⟨_, _, _, _, _, _, _, _, _, _, _, _, _, _, _, _, z⟩ := x
  exact z.elim
/-- as Fun.ok, for a def that is called in an except suite -/
theorem Fun.okH {x qual : Str} {st : Stmt} {f : Addr} {fd : FuncData} {N ps : List Str} {k : Nat} {sp : Sp} (F : Fun K x qual st f fd) (S : FnScope N ps (defScope st)) (len : ∀ vs H Q E, sp vs H Q E → vs.length = ps.length)
    (hbody : ∀ (cdv : Value) (A : Around) (outer : List Env) (s : Shared) (H : Hp) (vs : List V) (Q : VK) (E : XK) (p : Addr × Obj), L2H.RoomH k (A.deeper (envOfC qual (defScope st) s.heap.objs.size f cdv)) → sp vs H Q E →
      ∃ t, PSs (L2H.cxH CX0 P w K mg base N qual (defScope st) f cdv A outer s H E p) (defBody st) t ∧ t { nx := fun _ H' => Q .non H', rt := Q } (start N vs) H) : L2H.FnH P w K mg base CX0 (k + 1) f fd ps sp := by
  obtain ⟨oc, od, kV, doc, pm, an, cdv, ct, osl, rfl, lk, hcd⟩ := F.ex
  exact L2H.fn_ofH lk hcd S len fun A outer s H vs Q E p hot hr hsp => hbody cdv A outer s H vs Q E p hr hsp
theorem hot_suite {X : Cx} {a : Addr} {oe : Obj} {cls : Value} {d : Option Addr} {pn : List (Addr × Obj)} (hz : L2N.Zn cls d oe) (hf : ∃ vs, oe.data = .fields vs) : L2H.HotC (X.suite a ((a, oe) :: pn)) := by
  obtain ⟨vs, hv⟩ := hf
  exact ⟨(a, oe), ⟨rfl, vs, hv, hz.2.2 vs hv⟩, List.mem_cons_self⟩
theorem room_suite {k j : Nat} {A : Around} (r : Room k A) (h : j ≤ k) (v : Option Value) : L2H.RoomH j (A.mark v) := L2H.RoomH.mono ⟨r.dp, r.un⟩ h
theorem passH {X : Cx} {E : L2.St → XK} : ∀ σ, PassesAt CX0 X σ (E σ) := fun _ _ _ _ _ _ _ h => h.elim
end
end D

/-! defs that show data as text: no guard of a repr stands open where they are called -/
namespace D
open PySem PySem.Spec PyProof.Rows L2
section
variable {P : Program} {w : World} {K : PySem.W.Frag} {mg : Str → Option Value} {base : Heap} {CX : CXT} {k : Nat} {f : Addr} {fd : FuncData} {ps : List Str} {sp : Sp}
/-- as FnOk, called where no guard stands open -/
structure FnG (P : Program) (w : World) (K : PySem.W.Frag) (mg : Str → Option Value) (base : Heap) (CX : CXT) (k : Nat) (f : Addr) (fd : FuncData) (ps : List Str) (sp : Sp) : Prop where
  ln : ∀ vs H Q E, sp vs H Q E → vs.length = ps.length
  go : ∀ (A : Around) (fr : List Env) (s : Shared) (H : Hp) (args : Args) (us : List Value) (vs : List V) (Q : VK) (E : XK), A.guards = some [] → Room k A → Env0 P w K mg base A fr s H → BindsTo s fd args (ps.zip us) → Vals vs us → sp vs H Q E → codeAny (model P w) A (.call (.ref f) args) (CR CX fr P w H s Q E) s
theorem FnG.of (F : FnOk P w K mg base CX k f fd ps sp) : FnG P w K mg base CX k f fd ps sp := ⟨F.len, fun A fr s H args us vs Q E _ hr he hb hv hs => F.run A fr s H args us vs Q E hr he hb hv hs⟩
theorem FnG.bodyG {name qual : Str} {pr : Arguments} {body : List Stmt} {sc : Scope} {dV kV doc pm c ct oc : Value} {an od : Option Addr} {osl : Array (Option Value)} {N : List Str}
    (lk : K.lookup f = some ⟨oc, od, .func (PySem.W.fnOf name qual pr body sc dV kV doc pm an c ct), osl⟩) (hc : PySem.W.codeIn K c qual = true) (S : FnScope N ps sc) (ln : ∀ vs H Q E, sp vs H Q E → vs.length = ps.length)
    (hb : ∀ (A : Around) (fr : List Env) (s : Shared) (H : Hp) (vs : List V) (Q : VK) (E : XK), (A.deeper (envOfC qual sc s.heap.objs.size f c)).guards = some [] → Room k (A.deeper (envOfC qual sc s.heap.objs.size f c)) → sp vs H Q E →
      ∃ t, PSs (cxOf CX P w K mg base N qual sc f c A fr s H E) body t ∧ t { nx := fun _ H' => Q .non H', rt := Q } (start N vs) H) : FnG P w K mg base CX (k + 1) f (PySem.W.fnOf name qual pr body sc dV kV doc pm an c ct) ps sp := by
  refine ⟨ln, fun A fr s H args us vs Q E gd hr e0 bd rv hs => ?_⟩
  have n1 := ln _ _ _ _ hs
  have kin : K.In s.heap := e0.mod.kin.keeps fun x o e => (e0.bs x o e).1
  have nl : s.heap.NoLimit := e0.mod.nolimit.keeps fun x o e => (e0.bs x o e).1
  have kd : ∀ y ∈ ps.zip us, sc.names.lookup y.1 = some .local ∨ (sc.names.lookup y.1 = some .cell ∧ ((cellsFrom (s.heap.objs.size + 1) sc.names []).lookup y.1).isSome = true) := by
    rintro ⟨m, v⟩ hy
    exact (S.par m (List.of_mem_zip hy).1).imp id fun z => ⟨z, PySem.W.cellsFrom_some _ _ _ (.inl z)⟩
  refine codeAny_call_function hr.depth (kin _ _ lk) rfl S.co S.gen rfl (PySem.W.codeRec_of kin hc) (bd _ _ _ _ (wpAny_newFunctionEnv_cells S.kind kd fun ev he s1 x => ?_))
  cases he
  refine ⟨nl.keeps x.toInCall.keep, codeAny_func ?_⟩
  obtain ⟨t, ht, hq⟩ := hb A fr s H vs Q E gd (hr.deeper _) hs
  refine wpAny_mono (ht.run [] s1 (start N vs) H _ (inv_start S hr.hd e0 n1 rv x) hq) (fun fl s' z => ?_) fun e s' z => z
  cases fl with
  | ret u =>
    obtain ⟨v, σ', H', J, r, q⟩ := z
    exact ⟨v, H', J.os, J.bare, J.base, J.hok, r, q⟩
  | next =>
    obtain ⟨σ', H', J, q⟩ := z
    exact ⟨V.non, H', J.os, J.bare, J.base, J.hok, rfl, q⟩
  | brk =>
    obtain ⟨_, _, _, z⟩ := z
    exact False.elim z
  | cont =>
    obtain ⟨_, _, _, z⟩ := z
    exact False.elim z
theorem Fun.okG {x qual : Str} {st : Stmt} {N : List Str} (F : Fun K x qual st f fd) (S : FnScope N ps (defScope st)) (ln : ∀ vs H Q E, sp vs H Q E → vs.length = ps.length)
    (hb : ∀ (c : Value) (A : Around) (fr : List Env) (s : Shared) (H : Hp) (vs : List V) (Q : VK) (E : XK), (A.deeper (envOfC qual (defScope st) s.heap.objs.size f c)).guards = some [] → Room k (A.deeper (envOfC qual (defScope st) s.heap.objs.size f c)) → sp vs H Q E →
      ∃ t, PSs (cxOf CX0 P w K mg base N qual (defScope st) f c A fr s H E).nox (defBody st) t ∧ t { nx := fun _ H' => Q .non H', rt := Q } (start N vs) H) : FnG P w K mg base CX0 (k + 1) f fd ps sp := by
  obtain ⟨oc, od, kV, doc, pm, an, c, ct, osl, rfl, lk, hc⟩ := F.ex
  refine FnG.bodyG lk hc S ln fun A fr s H vs Q E gd hr hs => ?_
  obtain ⟨t, h, q⟩ := hb c A fr s H vs Q E gd hr hs
  exact ⟨t, h.nox, q⟩
end
section
variable {X : Cx} {CX : CXT} {k : Nat} {f : Addr} {fd : FuncData} {ps : List Str} {sp : Sp} {E : XK} {x : Str} {p pos : Pos} {e : Expr} {es : List Expr} {t : TA}
theorem run_fnG {pins : List (Addr × Obj)} {σ : L2.St} {H : Hp} {s : Shared} {Q : VK} {us : List Value} {vs : List V} (F : FnG X.prog X.w X.K X.mg X.base CX k f fd ps sp) (gd : X.A.guards = some []) (hr : Room k X.A) (hb : Binds X.K fd ps []) (hx : Passes CX X E)
    (I : Inv X pins σ H s) (r : Vals vs us) (h : sp vs H Q E) : wpAny (model X.prog X.w) X.A (call (.ref f) us) (EP X pins σ Q) X.xe s := by
  have hl : (us ++ ([] : List Value)).length = ps.length := by rw [List.append_nil, ← r.length]; exact F.ln _ _ _ _ h
  have bd := hb s us I.kIn hl
  rw [List.append_nil] at bd
  refine wpAny_call (codeAny_mono (F.go X.A X.stack s H ⟨us, []⟩ us vs Q E gd hr I.env0 bd r h) fun z s' hq => ?_)
  cases z with
  | error er => exact hx pins σ H s er s' I hq
  | ok fl =>
    cases fl with
    | ret u => exact I.after hq
    | next => exact hq.elim
    | brk => exact hq.elim
    | cont => exact hq.elim
theorem pe_callG (F : FnG X.prog X.w X.K X.mg X.base CX k f fd ps sp) (gd : X.A.guards = some []) (hr : Room k X.A) (hg : Gl X x) (hm : X.mg x = some (.ref f)) (hk : PySem.W.keepIn X.K (.ref f) = true) (hb : Binds X.K fd ps []) (hx : Passes CX X E) (ha : PA X (e :: es) t)
    (hdb : (x == ("__debug__" : Str)) = false := by decide) (he : starEach (e :: es) X.env = (false, eval e X.env) :: starEach es X.env := by rfl) (hpl : (backTo pos (starEach es X.env)).any (·.1) = false := by rfl) : PE X (.Call (.Name x p) (e :: es) [] pos) (tCall sp [] E t) := by
  refine ⟨fun pins s σ H Q I h => wpAny_Call_Name_kw (ld_glob I hg hm ?_ hdb)⟩
  refine PySem.W.callWith_K (h₀ := X.base) I.ok.mod.kin hk (thn (ha.run pos pins s σ H _ I h) fun us s1 ⟨vs, H1, I1, r, q⟩ => ⟨I1.kIn, ?_⟩) he hpl
  have q0 : sp (vs ++ []) H1 Q E := q
  rw [List.append_nil] at q0
  exact run_fnG F gd hr hb hx I1 r q0
theorem pe_call0G (F : FnG X.prog X.w X.K X.mg X.base CX k f fd ps sp) (gd : X.A.guards = some []) (hr : Room k X.A) (hg : Gl X x) (hm : X.mg x = some (.ref f)) (hk : PySem.W.keepIn X.K (.ref f) = true) (hb : Binds X.K fd ps []) (hx : Passes CX X E)
    (hdb : (x == ("__debug__" : Str)) = false := by decide) : PE X (.Call (.Name x p) [] [] pos) (tCall sp [] E tNil) :=
  ⟨fun pins s σ H Q I h => wpAny_Call_Name_kw (ld_glob I hg hm (PySem.W.callWith_K0 I.kIn hk (run_fnG (us := []) (vs := []) F gd hr hb hx I .nil h)) hdb)⟩
/-- repr of data -/
theorem call_reprD (gd : X.A.guards = some []) (hu : X.A.units + 200 < cLine) : CallR X (.builtin "repr") (fun xs H Q => ∃ a d, xs = [.ref a] ∧ Dp X.K H (.ref a) d ∧ d.showable = true ∧ d.hasDict = false ∧ d.depth ≤ 64 ∧ d.shown.length ≤ sizeLine ∧ Q (.str d.shown) H) := by
  intro pins s σ H xs us Q I r h
  obtain ⟨a, d, rfl, hd, h1, h2, h3, h4, q⟩ := h
  obtain ⟨u, rfl, ru⟩ := vals1 r
  obtain ⟨as, rd⟩ := Dp.reads I d _ _ hd ru
  cases ru
  exact repr_of_reads' rd h1 (fun z => by rw [h2] at z; cases z) gd (by omega) (fun b o e => e) (fun h' u tk hk => ⟨.str d.shown, H, I.kept hk, ⟨u, rfl⟩, q⟩) h4
end
end D
/-! ### all kinds -/
namespace D
open PySem PySem.Spec PyProof.Rows L2
section
variable {X : Cx}
/-- repr of data of any kind -/
theorem call_reprV (gd : X.A.guards = some []) (hu : X.A.units + 200 < cLine) : CallR X (.builtin "repr") (fun vs H Q => ∃ v d, vs = [v] ∧ Dp X.K H v d ∧ d.showable = true ∧ d.hasDict = false ∧ d.depth ≤ 64 ∧ d.shown.length ≤ sizeLine ∧ Q (.str d.shown) H) := by
  rintro pins s σ H vs us Q I r ⟨v, d, rfl, hd, h1, h2, h3, h4, q⟩
  cases hd with
  | lst h k => exact call_reprD gd hu pins s σ H _ us Q I r ⟨_, _, rfl, .lst h k, h1, h2, h3, h4, q⟩
  | tup h k => exact call_reprD gd hu pins s σ H _ us Q I r ⟨_, _, rfl, .tup h k, h1, h2, h3, h4, q⟩
  | non =>
    obtain ⟨u, rfl, ru⟩ := vals1 r
    cases (show u = Value.none from ru)
    rw [PyData.shown_none] at q
    exact PySem.P.repr_of_none ⟨.str _, H, I.tok _, ⟨_, rfl⟩, q⟩
  | bl b =>
    obtain ⟨u, rfl, ru⟩ := vals1 r
    cases (show u = Value.bool b from ru)
    rw [PyData.shown_bool] at q
    exact PySem.P.repr_of_bool ⟨.str _, H, I.tok _, ⟨_, rfl⟩, q⟩
  | int i =>
    obtain ⟨u, rfl, t, rfl⟩ := vals1 r
    rw [PyData.shown_int] at q
    exact PySem.P.repr_of_int (of_decide_eq_true h1) ⟨.str _, H, I.tok _, ⟨_, rfl⟩, q⟩
  | str y =>
    obtain ⟨u, rfl, t, rfl⟩ := vals1 r
    rw [PyData.shown_str] at q h4
    exact PySem.P.repr_of_str ⟨.str _, H, I.tok _, ⟨_, rfl⟩, q⟩ h4
end
end D
namespace D
open PySem PySem.Spec PyProof.Rows L2
/-- join, its row's part of the module named -/
theorem pe_joinK {X : Cx} {K : PySem.W.Frag} {o e : Expr} {to te : TE} {apos pos : Pos} (h : X.K = K) (ho : PE X o to) (he : PE X e te) (hs : starEach [e] X.env = [(false, eval e X.env)] := by rfl) (hb : attributeBase o "join" X.env (eval o X.env) = eval o X.env := by rfl) (hl : (apos.endLine == pos.line) = true := by rfl) :
    PE X (.Call (.Attribute o "join" apos) [e] [] pos) (tM1 (fun x xs H Q => ∃ a p, ∃ ys : List Str, x = .str a ∧ xs = [.ref p] ∧ (SqL K H p (ys.map V.str) ∨ SqT K H p (ys.map V.str)) ∧ (ys.map (·.length)).sum + ys.length * a.length ≤ 16777216 ∧ Q (.str (Txt.join a ys)) H) to te) := by
  subst h
  exact pe_join ho he hs hb hl
end D
/-! ### the law's own call: no guard stands open there -/
namespace D
open PySem PySem.Spec PyProof.Rows L2
theorem un200 {A : Around} {k : Nat} (r : Room k A) : A.units + 200 < cLine := by
  have z := r.un
  omega
section
variable {P : Program} {w : World} {K : PySem.W.Frag} {mg mb : Str → Option Value} {CX : CXT} {k : Nat} {fa a : Addr} {fd : FuncData} {x : Str} {sp : Sp} {z : Shared} {us : List Value} {ns : List Int}
theorem top_run (kx : K.In z.heap) (h1 : z.heap.Ns mainGlobals mg) (h2 : z.heap.Ns builtinsNs mb) (h3 : ∀ y : Str, y ≠ "__name__" → mb y = bootBuiltins y) (h4 : z.heap.NoLimit) (h5 : z.gens = #[]) (ha : z.heap.get? a = some { cls := .type "list", data := .seq us.toArray })
    (hr : Room k callerA) (F : ∀ base : Heap, K.In base → base.Ns mainGlobals mg → FnG P w K mg base CX k fa fd [x] sp) (bd : ∀ (s : Shared) (u : Value), BindsTo s fd ⟨[u], []⟩ [(x, u)]) (cx : ∀ H e s', CX [] H z (fun _ _ _ => False) e s' → False)
    {H : Hp} (only : Only H) (hsp : sp [.ref a] H (fun v _ => v = .bl true) fun _ _ _ => False) (hok : HOk P w H z.heap) (own : ∀ b, H b ≠ none → b = a ∧ K.lookup b = none) :
    codeAny (model P w) callerA (.call (.ref fa) ⟨[.ref a], []⟩) (fun r s' => r = .ok (.ret (.bool true)) ∧ OldK z.heap s'.heap ∧ s'.os = z.os ∧ AllBare s'.gens) z := by
  have out : ∀ {b : Addr} {o : Obj} {es : Array DictEntry} {n : Nat}, z.heap.get? b = some o → o.data = .dict es n → H b = none := fun {b o es n} e d => by
    by_cases q : H b = none
    · exact q
    · obtain ⟨rfl, _⟩ := own b q
      rw [ha] at e
      cases e
      cases (show Data.seq us.toArray _ = Data.dict es n from d)
  have ns' : ∀ {b : Addr} {m : Str → Option Value}, z.heap.Ns b m → (hidT z.heap H).Ns b m := fun {b m} h => by
    obtain ⟨o, es, n, e, d, r⟩ := h
    exact ⟨o, es, n, hidT_get e (out e d), d, r⟩
  have kb : K.In (hidT z.heap H) := fun b o e => by
    refine hidT_get (kx b o e) ?_
    by_cases q : H b = none
    · exact q
    · rw [(own b q).2] at e
      cases e
  obtain ⟨mc, l1, l2⟩ := h4
  have md : Mod K mg (hidT z.heap H) := ⟨kb, ns' h1, ⟨mb, ns' h2, h3⟩, mc, ns' l1, l2⟩
  have ev : Env0 P w K mg (hidT z.heap H) callerA [] z H := ⟨rfl, md, fun _ _ e => of_hidT e, by rw [hidT_size]; exact Nat.le_refl _, trivial, fun b m => (by cases m), hok, .of_eq h5⟩
  have run := (F _ kb (ns' h1)).go callerA [] z H ⟨[.ref a], []⟩ [.ref a] [.ref a] (fun v _ => v = .bl true) (fun _ _ _ => False) rfl hr ev (bd z (.ref a)) (.cons rfl .nil) hsp
  refine codeAny_mono run fun r s' c => ?_
  rcases r with er | fl
  · exact absurd c (cx H er s')
  · cases fl with
    | next => exact c.elim
    | brk => exact c.elim
    | cont => exact c.elim
    | ret u =>
      obtain ⟨v, H2, o1, b1, un, ok2, rv, ev⟩ := c
      cases (show v = V.bl true from ev)
      cases (show u = Value.bool true from rv)
      refine ⟨rfl, OldK.of_keep fun b o e => ?_, o1, b1⟩
      cases q : H b with
      | none => exact un.keep b o e q (fun m => by cases m) (fun m => by cases m)
      | some t =>
        rcases only b with y | ⟨ob, xs, y⟩
        · rw [q] at y; cases y
        · obtain ⟨e1, _⟩ := hok b _ y
          obtain ⟨e2, _⟩ := ok2 b _ (un.frzs b ob _ y)
          rw [e] at e1
          cases e1
          exact e2
end
theorem walk_ofG {l : PySem.W.OpenLaw} {n k : Nat} {q : Program} {loose : List Str} {XP : (Str → Option Value) → Heap → Prop} {YP : World → Heap → Prop} {d : DefRec} {K : Params → PySem.W.Frag} {sp : PySem.W.Frag → Sp} {x : Str}
    (hn : l.most = some n) (hn2 : n ≤ sizeLine) (hdf : d.params.defaults = []) (hr : Room k callerA) (hY : ∀ (w : World) (h : Heap), YP w h → (K w.params).In h)
    (F : ∀ (w : World) (mg : Str → Option Value) (fa : Addr) (h : Heap), (K w.params).In h → h.Ns mainGlobals mg → mg d.name = some (.ref fa) →
      ∃ fd : FuncData, (∀ (s : Shared) (u : Value), BindsTo s fd ⟨[u], []⟩ [(x, u)]) ∧ ∀ base : Heap, (K w.params).In base → base.Ns mainGlobals mg → FnG l.prog w (K w.params) mg base CX0 k fa fd [x] (sp (K w.params)))
    (hsp : ∀ (K : PySem.W.Frag) (H : Hp) (a : Addr) (ns : List Int), ns.length ≤ n → SqL K H a (ns.map V.int) → sp K [.ref a] H (fun v _ => v = .bl true) fun _ _ _ => False) :
    PySem.W.WalkO q loose XP YP l.row.toRowW d [] (fun f vs => PySem.call f vs) := by
  refine Att.attach_call hn hdf fun w s0 z mg mb fa o pm cd dc a us ns G Y ho hd hcd hm hob hi hle hg => ?_
  have kx := hY w _ Y
  obtain ⟨fd, bd, hF⟩ := F w mg fa _ kx G.T.g hm
  have lv := vals_ints hi
  have le1 : (ns.map V.int).length ≤ sizeLine := by
    rw [List.length_map]
    omega
  cases hk : (K w.params).lookup a with
  | some u =>
    have e := kx a u hk
    rw [hob] at e
    cases e
    have hS : SqL (K w.params) (fun _ => none) a (ns.map V.int) := .inr ⟨_, us.toArray, _, hk, rfl, rfl, rfl, by rw [List.size_toArray, ← lv.length]; exact le1, by simpa using lv⟩
    exact top_run kx G.T.g G.T.b G.T.builtins G.T.nolimit hg hob hr hF bd (fun _ _ _ c => c) (fun _ => .inl rfl) (hsp _ _ _ _ hle hS) (fun b t c => by cases (show (none : Option HO) = some t from c)) fun b c => absurd rfl c
  | none =>
    obtain ⟨H, eH⟩ : ∃ H : Hp, H = upd (fun _ => none) a (.frz { cls := .type "list", data := .seq us.toArray } (.lst (ns.map V.int))) := ⟨_, rfl⟩
    have ea : H a = some (.frz { cls := .type "list", data := .seq us.toArray } (.lst (ns.map V.int))) := by rw [eH]; exact upd_same
    have en : ∀ b, b ≠ a → H b = none := fun b c => by rw [eH]; exact upd_ne c
    refine top_run kx G.T.g G.T.b G.T.builtins G.T.nolimit hg hob hr hF bd (fun _ _ _ c => c) (H := H) (fun b => ?_) (hsp _ _ _ _ hle (.inl (.inr ⟨_, ea⟩))) (fun b t c => ?_) fun b c => ?_
    · by_cases e : b = a
      · exact .inr ⟨_, _, by rw [e]; exact ea⟩
      · exact .inl (en b e)
    · by_cases e : b = a
      · rw [e] at c
        rw [ea] at c
        cases c
        rw [e]
        exact ⟨hob, le1, us, _, lv, hob⟩
      · rw [en b e] at c
        cases c
    · by_cases e : b = a
      · rw [e]
        exact ⟨rfl, hk⟩
      · exact absurd (en b e) c
end D

namespace D
open PySem PySem.Spec PyProof.Rows L2
/-! ### defs that take any number of arguments -/
section
variable {P : Program} {w : World} {K : PySem.W.Frag} {mg : Str → Option Value} {base : Heap}
/-- what such a def promises: what is left over is a new tuple -/
def spStar (n : Nat) (sp : Sp) : Sp := fun vs H Q E => ∃ ws rest, vs = ws ++ rest ∧ ws.length = n ∧ rest.length ≤ sizeLine ∧ ∀ p, H p = Option.none → sp (ws ++ [V.ref p]) (upd H p (.tup rest)) Q E
theorem Fun.okS {x qual : Str} {st : Stmt} {f : Addr} {fd : FuncData} {N ps : List Str} {pv : Str} {k : Nat} {sp : Sp} (F : Fun K x qual st f fd) (S : FnScope N (ps ++ [pv]) (defScope st))
    (hb : ∀ (kV doc pm : Value) (an : Option Addr) (cdv ct : Value) (us rest : List Value), us.length = ps.length → bindArgs (PySem.W.fnOf x qual (defArgs st) (defBody st) (defScope st) .none kV doc pm an cdv ct) ⟨us ++ rest, []⟩ = (newTuple rest >>= fun t => pure (ps.zip us ++ [(pv, t)])))
    (body : ∀ (c : Value) (A : Around) (fr : List Env) (s : Shared) (H : Hp) (vs : List V) (Q : VK) (E : XK), Room k (A.deeper (envOfC qual (defScope st) s.heap.objs.size f c)) → sp vs H Q E →
      ∃ t, PSs (cxOf CX0 P w K mg base N qual (defScope st) f c A fr s H E) (defBody st) t ∧ t { nx := fun _ H' => Q .non H', rt := Q } (start N vs) H) : FnR P w K mg base CX0 (k + 1) f (spStar ps.length sp) := by
  obtain ⟨oc, od, kV, doc, pm, an, c, ct, osl, rfl, lk, hc⟩ := F.ex
  exact StX.fn_star lk hc S StX.cxUp_none (hb kV doc pm an c ct) fun A fr s H vs Q E hr hs => body c A fr s H vs Q E hr hs
end
section
variable {X : Cx} {CX : CXT} {k : Nat} {f : Addr} {sp : Sp} {E : XK} {x : Str} {p pos : Pos} {e : Expr} {es : List Expr} {t : TA}
theorem pe_callR (F : FnR X.prog X.w X.K X.mg X.base CX k f sp) (hr : Room k X.A) (hg : Gl X x) (hm : X.mg x = some (.ref f)) (hk : PySem.W.keepIn X.K (.ref f) = true) (hx : Passes CX X E) (ha : PA X (e :: es) t)
    (hdb : (x == ("__debug__" : Str)) = false := by decide) (he : starEach (e :: es) X.env = (false, eval e X.env) :: starEach es X.env := by rfl) (hpl : (backTo pos (starEach es X.env)).any (·.1) = false := by rfl) : PE X (.Call (.Name x p) (e :: es) [] pos) (tCall sp [] E t) := by
  refine ⟨fun pins s σ H Q I h => wpAny_Call_Name_kw (ld_glob I hg hm ?_ hdb)⟩
  refine PySem.W.callWith_K (h₀ := X.base) I.ok.mod.kin hk (thn (ha.run pos pins s σ H _ I h) fun us s1 ⟨vs, H1, I1, r, q⟩ => ⟨I1.kIn, ?_⟩) he hpl
  have q0 : sp (vs ++ []) H1 Q E := q
  rw [List.append_nil] at q0
  exact wpAny_call (run_fnR F hr hx I1 r q0)
theorem pe_callR0 (F : FnR X.prog X.w X.K X.mg X.base CX k f sp) (hr : Room k X.A) (hg : Gl X x) (hm : X.mg x = some (.ref f)) (hk : PySem.W.keepIn X.K (.ref f) = true) (hx : Passes CX X E)
    (hdb : (x == ("__debug__" : Str)) = false := by decide) : PE X (.Call (.Name x p) [] [] pos) (tCall sp [] E tNil) :=
  ⟨fun pins s σ H Q I h => wpAny_Call_Name_kw (ld_glob I hg hm (PySem.W.callWith_K0 I.kIn hk (wpAny_call (run_fnR (us := []) (vs := []) F hr hx I .nil h))) hdb)⟩
end
end D

namespace D
open PySem PySem.Spec PyProof.Rows L2
/-! ### data that may be compared and shown -/
structure Gd (B n : Nat) (d : PyData) : Prop where
  lay : d.canLay0 = true
  deep : d.depth ≤ n
  short : d.leavesShort 13 = true
  show' : d.showable = true
  nod : d.hasDict = false
  bulk : d.bulk ≤ B
theorem Gd.le {B n B' n' : Nat} {d : PyData} (h : Gd B n d) (hB : B ≤ B') (hn : n ≤ n') : Gd B' n' d := ⟨h.lay, Nat.le_trans h.deep hn, h.short, h.show', h.nod, Nat.le_trans h.bulk hB⟩
theorem log40 {n : Nat} (h : n < 10 ^ 12) : n.log2 < 1920 := by
  rcases Nat.eq_zero_or_pos n with z | z
  · subst z
    decide
  · have := (Nat.log2_lt (by omega)).mpr (Nat.lt_of_lt_of_le h (by decide : 10 ^ 12 ≤ 2 ^ 40))
    omega
theorem Gd.int {i : Int} (h : i.natAbs < 10 ^ 12) : Gd 0 0 (.int i) := ⟨by simp [PyData.canLay0], Nat.le_refl _, decide_eq_true (PyData.shown_int_le h), decide_eq_true (log40 h), rfl, Nat.le_refl _⟩
theorem Gd.str {x : Str} {B : Nat} (h : ∀ c ∈ x.cps.toList, c < 0x110000) (hl : x.length ≤ B) : Gd B 0 (.str x) := ⟨by
  simp only [PyData.canLay0, PyData.strOk]
  rw [← Array.all_toList]
  exact List.all_eq_true.mpr fun c hc => decide_eq_true (h c hc), Nat.le_refl _, List.all_eq_true.mpr fun c hc => decide_eq_true (Nat.lt_of_lt_of_le (h c hc) (by decide)), rfl, rfl, hl⟩
theorem Gd.non : Gd 0 0 .none := ⟨by simp [PyData.canLay0], Nat.le_refl _, rfl, rfl, rfl, Nat.le_refl _⟩
/-- rows of such data: B bounds the items together -/
structure GdAll (B n : Nat) (ds : List PyData) : Prop where
  lay : PyData.canLayAll0 ds = true
  deep : PyData.depthAll ds ≤ n
  short : PyData.leavesShortAll 13 ds = true
  show' : PyData.showableAll ds = true
  nod : PyData.hasDictAll ds = false
  bulk : PyData.bulkAll ds ≤ B
theorem GdAll.nil {n : Nat} : GdAll 0 n [] := ⟨rfl, Nat.zero_le _, rfl, rfl, rfl, Nat.le_refl _⟩
theorem GdAll.cons {B C n : Nat} {d : PyData} {ds : List PyData} (h : Gd B n d) (g : GdAll C n ds) : GdAll (B + 1 + C) n (d :: ds) := by
  refine ⟨?_, ?_, ?_, ?_, ?_, ?_⟩
  · simp only [PyData.canLayAll0, h.lay, g.lay, Bool.and_self]
  · have := h.deep
    have := g.deep
    simp only [PyData.depthAll]
    omega
  · simp only [PyData.leavesShortAll, h.short, g.short, Bool.and_self]
  · simp only [PyData.showableAll, h.show', g.show', Bool.and_self]
  · simp only [PyData.hasDictAll, h.nod, g.nod, Bool.or_self]
  · have := h.bulk
    have := g.bulk
    simp only [PyData.bulkAll]
    omega
theorem GdAll.le {B n B' n' : Nat} {d : List PyData} (h : GdAll B n d) (hB : B ≤ B') (hn : n ≤ n') : GdAll B' n' d := ⟨h.lay, Nat.le_trans h.deep hn, h.short, h.show', h.nod, Nat.le_trans h.bulk hB⟩
theorem GdAll.all {B n : Nat} : ∀ {ds : List PyData}, (∀ d ∈ ds, Gd B n d) → GdAll (ds.length * (B + 1)) n ds
  | [], _ => GdAll.nil.le (Nat.zero_le _) (Nat.le_refl _)
  | d :: r, h => ((GdAll.all fun z hz => h z (List.mem_cons_of_mem _ hz)).cons (h d List.mem_cons_self)).le (by rw [List.length_cons, Nat.succ_mul]; omega) (Nat.le_refl _)
theorem GdAll.tup {B n : Nat} {ds : List PyData} (h : GdAll B n ds) : Gd B (n + 1) (.tuple ds) := by
  refine ⟨?_, ?_, ?_, ?_, ?_, ?_⟩
  · simp only [PyData.canLay0, h.lay]
  · have := h.deep
    simp only [PyData.depth]
    omega
  · simp only [PyData.leavesShort, h.short]
  · simp only [PyData.showable, h.show']
  · simp only [PyData.hasDict, h.nod]
  · exact h.bulk
theorem GdAll.lst {B n : Nat} {ds : List PyData} (h : GdAll B n ds) : Gd B (n + 1) (.list ds) := by
  refine ⟨?_, ?_, ?_, ?_, ?_, ?_⟩
  · simp only [PyData.canLay0, h.lay]
  · have := h.deep
    simp only [PyData.depth]
    omega
  · simp only [PyData.leavesShort, h.short]
  · simp only [PyData.showable, h.show']
  · simp only [PyData.hasDict, h.nod]
  · exact h.bulk
theorem Gd.shaped {B n : Nat} {d : PyData} (h : Gd B n d) (hn : n ≤ 40) : SeqAt.shaped d = true := by
  refine Bool.and_eq_true_iff.mpr ⟨h.lay, decide_eq_true ?_⟩
  have := h.deep
  omega
theorem Gd.refl {B n : Nat} {d : PyData} (h : Gd B n d) : PyData.eqv d d = true := SeqAt.eqv_refl d h.lay
theorem Gd.showing {B n : Nat} {d : PyData} (h : Gd B n d) (hn : n ≤ 40) (hB : B ≤ 1000000) : d.showable = true ∧ d.hasDict = false ∧ d.depth ≤ 64 ∧ d.shown.length ≤ sizeLine := by
  have h1 := PyData.shown_le_bulk 13 (by decide) d h.short
  have := h.deep
  have := h.bulk
  refine ⟨h.show', h.nod, by omega, ?_⟩
  rw [sizeLine_eq]
  omega
/-! ### shapes -/
inductive Lf where
  | text (f : PyData)
  | button (w : PyData)
  | put (c : PyData) (fs : List PyData)
  | each (f m k c : PyData) (fs : List PyData)
inductive Sh where
  | leaf (l : Lf)
  | whn (f : PyData) (a b : Sh)
  | line (r : Bool) (ps : List Sh)
def sText : Str := Str.ofString "text"
def sButton : Str := Str.ofString "button"
def sPut : Str := Str.ofString "put"
def sEach : Str := Str.ofString "each"
def sWhen : Str := Str.ofString "when"
def sLine (r : Bool) : Str := if r = true then Str.ofString "row" else Str.ofString "col"
def Lf.enc : Lf → PyData
  | .text f => .tuple [.str sText, f]
  | .button w => .tuple [.str sButton, w]
  | .put c fs => .tuple [.str sPut, c, .tuple fs]
  | .each f m k c fs => .tuple [.str sEach, f, m, k, c, .tuple fs]
mutual
def Sh.enc : Sh → PyData
  | .leaf l => l.enc
  | .whn f a b => .tuple [.str sWhen, f, a.enc, b.enc]
  | .line r ps => .tuple [.str (sLine r), .tuple (Sh.encAll ps)]
def Sh.encAll : List Sh → List PyData
  | [] => []
  | p :: r => p.enc :: Sh.encAll r
end
mutual
def Sh.dep : Sh → Nat
  | .leaf _ => 1
  | .whn _ a b => Nat.max a.dep b.dep + 1
  | .line _ ps => Sh.depAll ps + 1
def Sh.depAll : List Sh → Nat
  | [] => 0
  | p :: r => Nat.max p.dep (Sh.depAll r)
end
mutual
def Sh.subs : Sh → List Sh
  | .leaf l => [.leaf l]
  | .whn f a b => .whn f a b :: (a.subs ++ (b.subs ++ []))
  | .line r ps => .line r ps :: Sh.subsAll ps
def Sh.subsAll : List Sh → List Sh
  | [] => []
  | p :: r => p.subs ++ Sh.subsAll r
end
def Sh.inner : Sh → List Sh
  | .leaf _ => []
  | .whn _ a b => [a, b]
  | .line _ ps => ps
theorem encAll_map : ∀ ps : List Sh, Sh.encAll ps = ps.map Sh.enc
  | [] => by rw [Sh.encAll, List.map_nil]
  | p :: r => by rw [Sh.encAll, encAll_map r, List.map_cons]
theorem subsAll_map : ∀ ps : List Sh, Sh.subsAll ps = (ps.map Sh.subs).flatten
  | [] => by rw [Sh.subsAll, List.map_nil, List.flatten_nil]
  | p :: r => by rw [Sh.subsAll, subsAll_map r, List.map_cons, List.flatten_cons]
theorem depAll_mem : ∀ {ps : List Sh} {p : Sh}, p ∈ ps → p.dep ≤ Sh.depAll ps
  | q :: r, p, h => by
    rw [Sh.depAll]
    rcases List.mem_cons.mp h with rfl | h
    · exact Nat.le_max_left _ _
    · exact Nat.le_trans (depAll_mem h) (Nat.le_max_right _ _)
theorem depAll_le : ∀ {ps : List Sh} {n : Nat}, (∀ p ∈ ps, p.dep ≤ n) → Sh.depAll ps ≤ n
  | [], n, _ => by rw [Sh.depAll]; exact Nat.zero_le _
  | q :: r, n, h => by
    rw [Sh.depAll]
    exact Nat.max_le.mpr ⟨h q List.mem_cons_self, depAll_le fun p hp => h p (List.mem_cons_of_mem _ hp)⟩
theorem dep_inner {s p : Sh} (h : p ∈ s.inner) : p.dep < s.dep := by
  cases s with
  | leaf l => cases h
  | whn f a b =>
    simp only [Sh.inner, List.mem_cons, List.not_mem_nil, or_false] at h
    rw [Sh.dep]
    rcases h with rfl | rfl
    · exact Nat.lt_succ_of_le (Nat.le_max_left _ _)
    · exact Nat.lt_succ_of_le (Nat.le_max_right _ _)
  | line r ps =>
    rw [Sh.dep]
    exact Nat.lt_succ_of_le (depAll_mem h)
theorem dep_pos (s : Sh) : 0 < s.dep := by
  cases s <;> rw [Sh.dep] <;> omega
theorem subs_eq (s : Sh) : s.subs = s :: (s.inner.map Sh.subs).flatten := by
  cases s with
  | leaf l => rw [Sh.subs]; rfl
  | whn f a b => rw [Sh.subs]; rfl
  | line r ps => rw [Sh.subs, subsAll_map]; rfl
theorem dep_eq (s : Sh) : s.dep = Sh.depAll s.inner + 1 := by
  cases s with
  | leaf l => rw [Sh.dep]; rfl
  | whn f a b =>
    rw [Sh.dep]
    simp only [Sh.inner, Sh.depAll, Nat.max_eq_left (Nat.zero_le _)]
  | line r ps => rw [Sh.dep]; rfl
/-- the parts of a shape stand behind it, in a row -/
theorem subs_slice : ∀ (n : Nat) (s : Sh), s.dep ≤ n → ∀ (i : Nat) (t : Sh), s.subs[i]? = some t → (s.subs.drop i).take t.subs.length = t.subs := by
  intro n
  induction n with
  | zero => intro s h; exact absurd (dep_pos s) (by omega)
  | succ n ih =>
    intro s hs i t hi
    rw [subs_eq s] at hi ⊢
    cases i with
    | zero =>
      cases hi
      rw [List.drop_zero, ← subs_eq]
      exact List.take_of_length_le (Nat.le_refl _)
    | succ i =>
      rw [List.getElem?_cons_succ] at hi
      rw [List.drop_succ_cons]
      have hd : ∀ p ∈ s.inner, p.dep ≤ n := fun p hp => by
        have := dep_inner hp
        omega
      revert hi hd
      generalize s.inner = ps
      intro hi hd
      induction ps generalizing i with
      | nil => simp at hi
      | cons p r ihp =>
        rw [List.map_cons, List.flatten_cons] at hi ⊢
        by_cases c : i < p.subs.length
        · rw [List.getElem?_append_left c] at hi
          have e := ih p (hd p List.mem_cons_self) i t hi
          have l1 : t.subs.length ≤ (p.subs.drop i).length := by
            have := congrArg List.length e
            rw [List.length_take] at this
            omega
          rw [List.drop_append_of_le_length (by omega), List.take_append_of_le_length l1]
          exact e
        · rw [List.getElem?_append_right (by omega)] at hi
          rw [List.drop_append, List.drop_of_length_le (by omega), List.nil_append]
          exact ihp _ hi fun q hq => hd q (List.mem_cons_of_mem _ hq)
/-- a shape that was drawn -/
def Lf.ok : Lf → Prop
  | .text f => Gd 150 3 f
  | .button w => Gd 8 0 w
  | .put c fs => Gd 8 0 c ∧ fs.length ≤ 3 ∧ ∀ f ∈ fs, Gd 50 2 f
  | .each f m k c fs => Gd 50 2 f ∧ Gd 24 2 m ∧ Gd 50 2 k ∧ Gd 8 0 c ∧ fs.length ≤ 3 ∧ ∀ f ∈ fs, Gd 50 2 f
def okLen (n : Nat) : Prop := n ≤ 8 ∨ n = 11
mutual
def Sh.ok : Sh → Prop
  | .leaf l => l.ok
  | .whn f a b => Gd 150 3 f ∧ a.ok ∧ b.ok
  | .line _ ps => okLen ps.length ∧ Sh.okAll ps
def Sh.okAll : List Sh → Prop
  | [] => True
  | p :: r => p.ok ∧ Sh.okAll r
end
theorem okAll_iff : ∀ {ps : List Sh}, Sh.okAll ps ↔ ∀ p ∈ ps, p.ok
  | [] => by rw [Sh.okAll]; exact ⟨fun _ _ h => (nomatch h), fun _ => trivial⟩
  | q :: r => by
    rw [Sh.okAll, okAll_iff (ps := r)]
    simp
theorem ok_inner {s p : Sh} (h : s.ok) (hp : p ∈ s.inner) : p.ok := by
  cases s with
  | leaf l => cases hp
  | whn f a b =>
    rw [Sh.ok] at h
    simp only [Sh.inner, List.mem_cons, List.not_mem_nil, or_false] at hp
    rcases hp with rfl | rfl
    · exact h.2.1
    · exact h.2.2
  | line r ps =>
    rw [Sh.ok, okAll_iff] at h
    exact h.2 p hp
theorem gstr (x : String) (B : Nat) (h : ((Str.ofString x).cps.toList.all fun c => decide (c < 0x110000)) = true) (hl : (Str.ofString x).length ≤ B) : Gd B 0 (.str (Str.ofString x)) := Gd.str (fun c hc => of_decide_eq_true (List.all_eq_true.mp h c hc)) hl
theorem Gd.up {B n : Nat} {d : PyData} (h : Gd B 0 d) : Gd B n d := h.le (Nat.le_refl _) (Nat.zero_le _)
theorem Lf.gd {l : Lf} (h : l.ok) : Gd 310 4 l.enc := by
  cases l with
  | text f => exact ((((GdAll.nil).cons (show Gd 150 3 f from h)).cons (gstr "text" 10 (by decide +kernel) (by decide +kernel)).up).tup).le (by omega) (Nat.le_refl _)
  | button w => exact ((((GdAll.nil (n := 0)).cons (show Gd 8 0 w from h)).cons (gstr "button" 10 (by decide +kernel) (by decide +kernel))).tup).le (by omega) (by omega)
  | put c fs =>
    obtain ⟨h1, h2, h3⟩ := h
    have hf := (GdAll.all h3).tup
    refine ((((GdAll.nil.cons hf).cons h1.up).cons (gstr "put" 10 (by decide +kernel) (by decide +kernel)).up).tup).le ?_ (Nat.le_refl _)
    omega
  | each f m k c fs =>
    obtain ⟨g1, g2, g3, h1, h2, h3⟩ := h
    have hf := (GdAll.all h3).tup
    refine (((((((GdAll.nil.cons hf).cons h1.up).cons (g3.le (Nat.le_refl _) (by omega))).cons (g2.le (Nat.le_refl _) (by omega))).cons (g1.le (Nat.le_refl _) (by omega))).cons (gstr "each" 10 (by decide +kernel) (by decide +kernel)).up).tup).le ?_ (Nat.le_refl _)
    omega
def Sh.cnt (s : Sh) : Nat := s.subs.length
theorem cnt_eq (s : Sh) : s.cnt = (s.inner.map Sh.cnt).sum + 1 := by
  unfold Sh.cnt
  rw [subs_eq, List.length_cons, List.length_flatten, List.map_map]
  rfl
theorem cnt_pos (s : Sh) : 0 < s.cnt := by rw [cnt_eq]; omega
theorem GdAll.shs {n B : Nat} : ∀ {ps : List Sh}, (∀ p ∈ ps, Gd (310 * p.cnt) n p.enc) → GdAll (310 * (ps.map Sh.cnt).sum + ps.length) n (ps.map Sh.enc)
  | [], _ => GdAll.nil.le (Nat.zero_le _) (Nat.le_refl _)
  | p :: r, h => ((GdAll.shs (B := B) fun z hz => h z (List.mem_cons_of_mem _ hz)).cons (h p List.mem_cons_self)).le (by simp only [List.map_cons, List.sum_cons, List.length_cons]; omega) (Nat.le_refl _)
theorem Sh.gd : ∀ (n : Nat) (s : Sh), s.dep ≤ n → s.ok → Gd (310 * s.cnt) (2 * n + 4) s.enc := by
  intro n
  induction n with
  | zero => intro s h; exact absurd (dep_pos s) (by omega)
  | succ n ih =>
    intro s hs ho
    have hi : ∀ p ∈ s.inner, Gd (310 * p.cnt) (2 * n + 4) p.enc := fun p hp => ih p (by have := dep_inner hp; omega) (ok_inner ho hp)
    have hc := cnt_eq s
    cases s with
    | leaf l =>
      rw [Sh.ok] at ho
      have hp := cnt_pos (.leaf l)
      exact (Lf.gd ho).le (by omega) (by omega)
    | whn f a b =>
      rw [Sh.ok] at ho
      have ga := hi a (by simp [Sh.inner])
      have gb := hi b (by simp [Sh.inner])
      rw [Sh.enc]
      refine (((((GdAll.nil.cons gb).cons ga).cons (ho.1.le (Nat.le_refl _) (by omega))).cons (gstr "when" 10 (by decide +kernel) (by decide +kernel)).up).tup).le ?_ (by omega)
      rw [hc]
      simp only [Sh.inner, List.map_cons, List.map_nil, List.sum_cons, List.sum_nil]
      omega
    | line r ps =>
      rw [Sh.ok] at ho
      have hl : ps.length ≤ 11 := by rcases ho.1 with z | z <;> omega
      have g := (GdAll.shs (B := 0) hi).tup
      have gs : Gd 10 0 (.str (sLine r)) := by
        unfold sLine
        cases r
        · exact gstr "col" 10 (by decide +kernel) (by decide +kernel)
        · exact gstr "row" 10 (by decide +kernel) (by decide +kernel)
      rw [Sh.enc, encAll_map]
      refine (((GdAll.nil.cons g).cons gs.up).tup).le ?_ (by omega)
      rw [hc]
      simp only [Sh.inner] at g ⊢
      omega
end D

namespace D
open PySem PySem.Spec PyProof.Rows L2
/-- a tuple of any making behind a list -/
theorem ext_tup (l : Addr) (xs : Array Value) (n : Nat) (b : Addr) (ys : Array Value) (m : Nat) (dd : Option Addr) (sl : Array (Option Value)) (h0 : ¬(!xs.isEmpty && Builtin.List.listTooLong (xs.size + ys.size)) = true) (h1 : xs.size ≤ sizeLine) (h2 : xs.size + ys.size ≤ sizeLine + 1) :
    Meets (Builtin.«list.extend» ⟨[.ref l, .ref b], []⟩) (fun _ R s => s.heap.get? l = some { cls := .type "list", dict := none, data := .seq xs n, slots := #[] } ∧ s.heap.get? b = some { cls := .type "tuple", dict := dd, data := .seq ys m, slots := sl } ∧ R (.ok (.ret Value.none)) { s with heap := s.heap.update l (Obj.mapSeq fun x => x ++ ys), toks := s.toks }) :=
  .of_wp fun prog w A R s h => by
    obtain ⟨hp, g, d, tk, os⟩ := s
    obtain ⟨hl, hb, h⟩ := h
    have z : (xs ++ ys).size ≤ sizeLine + 1 := by
      rw [Array.size_append]
      exact h2
    wp_walk using (wpAny_updateSeq hl rfl (hz := h1) (_hz' := z)), wpAny_loadPart' hl, wpAny_loadPart' hb
    exact ⟨_, rfl, h⟩
end D
namespace D
open PySem PySem.Spec PyProof.Rows L2
section
variable {X : Cx} {K : PySem.W.Frag}
def rExtT (K : PySem.W.Frag) : V → List V → Hp → VK → Prop := fun x vs H Q => ∃ l b xs zs, x = .ref l ∧ vs = [.ref b] ∧ H l = some (.lst xs) ∧ SqT K H b zs ∧ xs.length + zs.length ≤ 1000000 ∧ Q .non (upd H l (.lst (xs ++ zs)))
theorem mt_extendT (h : X.K = K) : MtM X "list.extend" (rExtT K) := by
  subst h
  rintro pins s σ H x vs v us Q I rx rv ⟨l, b, xs, zs, rfl, rfl, hH, hT, le, q⟩
  cases rx
  obtain ⟨u, rfl, ru⟩ := rv.one
  cases ru
  obtain ⟨z1, its, n, r, lt, e⟩ := I.lstM hH
  obtain ⟨jts, r2, ⟨⟨c, dd, da, sl⟩, e2, hc, m, hd⟩, z2⟩ := I.tuple hT
  cases (show c = Value.type "tuple" from hc)
  cases (show da = Data.seq jts.toArray m from hd)
  have lt2 := r2.length
  have fits : its.toArray.size + jts.toArray.size ≤ 1000000 := by
    rw [List.size_toArray, List.size_toArray]
    omega
  have line := sizeLine_eq
  have short : ¬ (!its.toArray.isEmpty && Builtin.List.listTooLong (its.toArray.size + jts.toArray.size)) = true := by
    rw [notLongL (show its.toArray.size + jts.toArray.size ≤ sizeLine by omega), Bool.and_false]
    simp
  refine call_meets F.slot_list_extend ⟨_, e, rfl⟩ F.entry_list_extend (F.args_list_extend_2 _ _) (ext_tup l its.toArray n b jts.toArray m dd sl short (by omega) (by omega)) ⟨e, e2, .non, _, I.lset (its' := its ++ jts) hH e (by simp) (r.append r2) ?_, rfl, q⟩
  rw [List.length_append, line]
  omega
end
end D

/-! making an instance where its __init__ may raise, within a try or a def that lets the error out -/
namespace D
open PySem PySem.Spec PyProof.Rows L2
section
variable {X : Cx} {CX : CXT} {k : Nat} {f C : Addr} {fd : FuncData} {ps : List Str} {sp : Sp} {dvs : List V} {ds : List Value} {x : Str} {p pos : Pos} {e : Expr} {es : List Expr} {t : TA}
def tMakeS (C : Addr) (sp : Sp) (dvs : List V) (E : L2.St → XK) (t : TA) : TE := fun σ H Q => t σ H fun vs H1 => ∀ x dx, H1 x = none → H1 dx = none → dx ≠ x →
  sp (.ref x :: (vs ++ dvs)) (upd (upd H1 dx (.own x)) x (.ins C dx [])) (fun v H2 => v = .non ∧ Q (.ref x) H2) (E σ)
theorem run_makeS {E : XK} {pins : List (Addr × Obj)} {σ : L2.St} {H : Hp} {s : Shared} {Q : VK} {us : List Value} {vs : List V} (M : L2.Mk X.K C f) (F : FnOk X.prog X.w X.K X.mg X.base CX k f fd ps sp) (hr : Room (k + 1) X.A) (hb : Binds X.K fd ps ds) (hd : Vals dvs ds)
    (hx : PassesAt CX X σ E) (I : Inv X pins σ H s) (r : Vals vs us)
    (h : ∀ x dx, H x = none → H dx = none → dx ≠ x → sp (.ref x :: (vs ++ dvs)) (upd (upd H dx (.own x)) x (.ins C dx [])) (fun v H2 => v = .non ∧ Q (.ref x) H2) E) :
    wpAny (model X.prog X.w) X.A (call (.ref C) us) (EP X pins σ Q) X.xe s := by
  have hq := h (s.heap.objs.size + 1) s.heap.objs.size (I.hok.fresh (Nat.le_succ _)) (I.hok.fresh (Nat.le_refl _)) (Nat.ne_of_lt (Nat.lt_succ_self _))
  have I2 := Inv.made (C := C) I
  have r2 : Vals (V.ref (s.heap.objs.size + 1) :: (vs ++ dvs)) (Value.ref (s.heap.objs.size + 1) :: (us ++ ds)) := .cons rfl (r.append hd)
  have hl : (Value.ref (s.heap.objs.size + 1) :: us ++ ds).length = ps.length := by
    have e := r2.length
    rw [F.len _ _ _ _ hq] at e
    exact e.symm
  refine wpAny_call (make_map (f := f) I.kIn M.makes M.init (beq_iff_eq.mp M.fn) (codeAny_mono (F.run _ X.stack _ _ ⟨Value.ref (s.heap.objs.size + 1) :: us, []⟩ (Value.ref (s.heap.objs.size + 1) :: (us ++ ds)) _ _ E (hr.make C us [])
    (I2.env0.make C us []) (hb _ (Value.ref (s.heap.objs.size + 1) :: us) I2.kIn hl) r2 hq) fun r s' hq' => ?_))
  cases r with
  | error e => exact hx pins _ _ e s' I2 hq'
  | ok fl =>
    cases fl with
    | ret u =>
      obtain ⟨v, H', I3, rv, ev, q3⟩ := I2.after hq'
      subst ev
      exact ⟨rv, ⟨V.ref (s.heap.objs.size + 1), H', I3, rfl, q3⟩⟩
    | next => exact False.elim hq'
    | brk => exact False.elim hq'
    | cont => exact False.elim hq'
theorem pe_makeS {E : L2.St → XK} (M : L2.Mk X.K C f) (F : FnOk X.prog X.w X.K X.mg X.base CX k f fd ps sp) (hr : Room (k + 1) X.A) (hg : Gl X x) (hm : X.mg x = some (.ref C)) (hb : Binds X.K fd ps ds) (hd : Vals dvs ds) (hx : ∀ σ, PassesAt CX X σ (E σ))
    (ha : PA X (e :: es) t) (hdb : (x == ("__debug__" : Str)) = false := by decide) (he : starEach (e :: es) X.env = (false, eval e X.env) :: starEach es X.env := by rfl) (hpl : (backTo pos (starEach es X.env)).any (·.1) = false := by rfl) :
    PE X (.Call (.Name x p) (e :: es) [] pos) (tMakeS C sp dvs E t) := by
  refine ⟨fun pins s σ H Q I h => ?_⟩
  refine wpAny_Call_Name_kw (ld_glob I hg hm ?_ hdb)
  refine PySem.W.callWith_K (h₀ := X.base) I.ok.mod.kin M.kp (thn (ha.run pos pins s σ H _ I h) fun us s1 ⟨vs, H1, I1, r, q⟩ => ⟨I1.kIn, ?_⟩) he hpl
  exact run_makeS M F hr hb hd (hx σ) I1 r q
end
section
variable {X : Cx} {K : PySem.W.Frag}
/-- repr, its row's part of the module named: within a suite -/
theorem call_reprVK (hK : X.K = K) (gd : X.A.guards = some []) (hu : X.A.units + 200 < cLine) : CallR X (.builtin "repr") (fun vs H Q => ∃ v d, vs = [v] ∧ Dp K H v d ∧ d.showable = true ∧ d.hasDict = false ∧ d.depth ≤ 64 ∧ d.shown.length ≤ sizeLine ∧ Q (.str d.shown) H) := by
  subst hK
  exact call_reprV gd hu
end
section
variable {X : Cx} {K : PySem.W.Frag}
/-- t != u, two tuples of the same plain items, whatever their texts hold -/
def rNeSm (K : PySem.W.Frag) : R2 := fun x y H Q => ∃ a b xs, x = .ref a ∧ y = .ref b ∧ SqT K H a xs ∧ SqT K H b xs ∧ xs.all flatB = true ∧ Q (.bl false) H
theorem op_neSm (hK : X.K = K) (hu : X.A.units < cLine) : OpR X (compareOp .NotEq) (rNeSm K) := by
  subst hK
  intro pins s σ H x y v u Q I rx ry h
  obtain ⟨a, b, xs, rfl, rfl, ha, hb, hf, q⟩ := h
  cases (show v = Value.ref a from rx)
  cases (show u = Value.ref b from ry)
  obtain ⟨us, r1, p1, _⟩ := I.tuple ha
  obtain ⟨ws, r2, p2, _⟩ := I.tuple hb
  have l1 := r1.length
  have l2 := r2.length
  have k := SeqAt.RcNeAt.tuples (A := X.A) (e := fun _ => true) p1 p2 hu (fun j h1 h2 => by
    have hj1 : j < us.length := by simpa using h1
    have hj2 : j < ws.length := by simpa using h2
    have hx : xs[j]? = some (xs[j]'(by omega)) := List.getElem?_eq_getElem _
    have e1 := r1.get hx
    have e2 := r2.get hx
    obtain ⟨u1, g1, q1⟩ := e1
    obtain ⟨u2, g2, q2⟩ := e2
    rw [List.getElem?_eq_getElem hj1] at g1
    rw [List.getElem?_eq_getElem hj2] at g2
    cases g1
    cases g2
    have := eqAt_same (A := X.A.in1) (s := s) q1 q2 (List.all_eq_true.mp hf _ (List.getElem_mem _))
    simpa using this) X.prog X.w X.xe (fun z s' => EP X pins σ Q z s')
  refine k ?_
  have e : (!((List.range (min us.toArray.size ws.toArray.size)).all (fun _ => true) && us.toArray.size == ws.toArray.size)) = false := by
    have h1 : ((List.range (min us.toArray.size ws.toArray.size)).all fun _ => true) = true := List.all_eq_true.mpr fun _ _ => rfl
    rw [h1, List.size_toArray, List.size_toArray, ← l1, ← l2]
    simp
  rw [e]
  exact ⟨.bl false, H, I, rfl, q⟩
end
end D

/-! a bag and a row of data that stand together: what a law has drawn so far -/
namespace D
open PySem PySem.Spec PyProof.Rows L2
theorem RpAll.nth {M : Ms} {H : Hp} {vs : List V} {ds : List PyData} {v : V} {d : PyData} (h : RpAll M H vs ds) (i : Nat) (hv : vs[i]? = some v) (hd : ds[i]? = some d) : Rp M H v d := by
  obtain ⟨d', e, r⟩ := h.get hv
  rw [hd] at e
  cases e
  exact r
structure Ds (K : PySem.W.Frag) (M : Ms) (b : Addr) (H : Hp) (vs : List V) (ds : List PyData) : Prop where
  bag : Bag K M H b
  ok : Mk M H
  all : RpAll M H vs ds
namespace Ds
variable {K : PySem.W.Frag} {M : Ms} {b : Addr} {H H' : Hp} {vs us : List V} {ds es : List PyData} {v : V} {d : PyData} {p : Addr}
theorem same (E : Ds K M b H vs ds) (s : Same H H') : Ds K M b H' vs ds := ⟨E.bag.same s, E.ok.gr (Gr.same s), E.all.sx (Sx.same s)⟩
theorem push (E : Ds K M b H vs ds) (r : Rp M H v d) : Ds K M b H (v :: vs) (d :: ds) := ⟨E.bag, E.ok, .cons r E.all⟩
theorem step (E : Ds K M b H vs ds) (s : Sx (one b) H H') (g : Gr H H') (B : Bag K M H' b) : Ds K M b H' vs ds := ⟨B, E.ok.gr g, E.all.sx (s.le (one_le E.bag.w))⟩
theorem draw (E : Ds K M b H vs ds) (s : Sx (one b) H H') (g : Gr H H') (B : Bag K M H' b) (r : Rp M H' v d) : Ds K M b H' (v :: vs) (d :: ds) := (E.step s g B).push r
theorem pick (E : Ds K M b H vs ds) (hA : At b H H') (B : Bag K M H' b) : Ds K M b H' vs ds := E.step hA.sx (At.gr hA B.there) B
theorem tup (E : Ds K M b H vs ds) (hp : H p = none) (r : RpAll M H us es) : Ds K M b (upd H p (.tup us)) (.ref p :: vs) (.tuple es :: ds) := (E.same (same_new hp)).push (Rp.newT E.ok hp r)
theorem lst (E : Ds K M b H vs ds) (hp : H p = none) (r : RpAll M H us es) : Ds K M b (upd H p (.lst us)) (.ref p :: vs) (.list es :: ds) := (E.same (same_new hp)).push (Rp.newL E.ok hp r)
theorem new (E : Ds K M b H vs ds) (hp : H p = none) {o : HO} : Ds K M b (upd H p o) vs ds := E.same (same_new hp)
theorem at' (E : Ds K M b H vs ds) (i : Nat) (hv : vs[i]? = some v) (hd : ds[i]? = some d) : Rp M H v d := E.all.nth i hv hd
theorem tail (E : Ds K M b H (v :: vs) (d :: ds)) : Ds K M b H vs ds := ⟨E.bag, E.ok, by
  cases E.all with
  | cons _ r => exact r⟩
theorem cut (E : Ds K M b H vs ds) (n : Nat) : Ds K M b H (vs.take n) (ds.take n) := ⟨E.bag, E.ok, E.all.take n⟩
end Ds
end D

/-! a dict comprehension with two clauses, keys whole numbers or texts -/
namespace D
open PySem PySem.Spec PyProof.Rows L2
/-- the comprehension meant here -/
abbrev dcx (kx vx ta ia : Expr) (ca : List Expr) (tb ib : Expr) (cb : List Expr) (sc : Scope) (ps : Pos) : Expr := .DictComp kx vx [⟨ta, ia, ca, 0⟩, ⟨tb, ib, cb, 0⟩] sc ps
section
variable {P : Program} {w : World} {A : Around} {R : Result → Shared → Prop} {s : Shared} {kx vx ta ia tb ib : Expr} {ca cb : List Expr} {sc : Scope} {ps : Pos} {env : Env}
/-- the tests of a clause, one behind the other -/
abbrev testsOf (cs : List Expr) (env : Env) : Sem Bool := forIn cs true fun c r => if r = true then do let ok ← isTrue c env (eval c env); pure (ForInStep.yield ok) else pure (ForInStep.yield r)
theorem dcx_outer (it acc : Value) : compTurn (dcx kx vx ta ia ca tb ib cb sc ps) 0 it acc env = (do
      standAt ia.pos
      match ← pyNext it with
      | none => pure (.done .next)
      | some u =>
        letOwnedTupleGo ta it u
        assign ta env u
        let mut go := true
        for c in ca do
          if go then go ← isTrue c env (eval c env)
        if go then
          let y ← eval ib env
          standAt ib.pos
          let y ← foldedSetIterable ib env y
          let _ ← runOwn (.compStart (dcx kx vx ta ia ca tb ib cb sc ps) 1 (← holding [y] (pyIter y)) acc env) env
        again (.compLoop (dcx kx vx ta ia ca tb ib cb sc ps) 0 it acc env)) := by rfl
theorem dcx_inner (it : Value) (D : Addr) : compTurn (dcx kx vx ta ia ca tb ib cb sc ps) 1 it (.ref D) env = (do
      standAt ib.pos
      match ← pyNext it with
      | none => pure (.done .next)
      | some u =>
        letOwnedTupleGo tb it u
        assign tb env u
        let mut go := true
        for c in cb do
          if go then go ← isTrue c env (eval c env)
        if go then
          (do
            let k0 ← eval kx env
            let v0 ← holding [k0] (eval vx env)
            standAt { kx.pos with endLine := vx.pos.endLine, endCol := vx.pos.endCol }
            holding [k0, v0] (dictSet D k0 v0))
        again (.compLoop (dcx kx vx ta ia ca tb ib cb sc ps) 1 it (.ref D) env)) := by rfl
/-- what an error leaves, told with the frame -/
abbrev ErX (P : Program) (w : World) (A : Around) (env : Env) (R : Result → Shared → Prop) : Value → Shared → Prop := notedBy (model P w) A env fun e s' => R (.error e) s'
/-- one turn of the outer loop -/
theorem dcx_loopA {it acc : Value} (hs : ∀ x, foldedSetIterable ib env x = pure x) (J : Nat → Shared → Prop)
    (step : ∀ n s, J n s → wpAny (model P w) A (pyNext it) (fun r s1 => r.elim (R (.ok .next) s1) fun u => wpAny (model P w) A (letOwnedTupleGo ta it u) (fun _ s2 => wpAny (model P w) A (assign ta env u) (fun _ s3 => wpAny (model P w) A (testsOf ca env) (fun b s4 =>
        if b = true then wpAny (model P w) A (eval ib env) (fun y s5 => wpAny (model P w) A (pyIter y) (fun it1 s6 => codeAny (model P w) A (.compStart (dcx kx vx ta ia ca tb ib cb sc ps) 1 it1 acc env) (fun r s' => match r with | .ok _ => ∃ m, m < n ∧ J m s' | .error _ => False) s6) (ErX P w A env R) s5) (ErX P w A env R) s4
        else ∃ m, m < n ∧ J m s4) (ErX P w A env R) s3) (ErX P w A env R) s2) (ErX P w A env R) s1) (ErX P w A env R) s)
    (n : Nat) (j0 : J n s) : codeAny (model P w) A (.compLoop (dcx kx vx ta ia ca tb ib cb sc ps) 0 it acc env) R s := by
  refine codeAny_loop rfl J (fun n z hJ => ?_) n j0
  show wpAny _ A (Sem.onRaise (compTurn (dcx kx vx ta ia ca tb ib cb sc ps) 0 it acc env) fun x => do noteFrame x env; theTreesLotGoes x) _ _ z
  apply wpAny_noted
  rw [dcx_outer]
  refine wpAny_bind (wpAny_standAt (wpAny_bind (wpAny_mono (step n z hJ) (fun r z1 k1 => ?_) fun _ _ q => q)))
  match r, k1 with
  | none, k1 => exact wpAny_pure k1
  | some u, k1 =>
    refine wpAny_bind (wpAny_mono k1 (fun _ z2 k2 => wpAny_bind (wpAny_mono k2 (fun _ z3 k3 => ?_) fun _ _ q => q)) fun _ _ q => q)
    refine wpAny_bind (wpAny_mono k3 (fun b z4 k4 => ?_) fun _ _ q => q)
    match b, k4 with
    | false, k4 => exact wpAny_pure ⟨rfl, k4⟩
    | true, k4 =>
      refine wpAny_bind (wpAny_mono k4 (fun y z5 k5 => wpAny_bind (wpAny_standAt ?_)) fun _ _ q => q)
      refine wpAny_bind (wpAny_of_eq (hs y) (wpAny_bind (wpAny_holding (wpAny_mono k5 (fun it1 z6 k6 => wpAny_bind (wpAny_runOwn ?_)) fun _ _ q => q))))
      rw [Around.mark_none]
      refine codeAny_mono k6 fun r z7 k7 => ?_
      match r, k7 with
      | .error e, k7 => exact k7.elim
      | .ok f, k7 => first | exact wpAny_pure ⟨rfl, k7⟩ | exact wpAny_bind (wpAny_pure (wpAny_pure ⟨rfl, k7⟩))
/-- one turn of the inner loop -/
theorem dcx_loopB {it : Value} {D : Addr} (J : Nat → Shared → Prop)
    (step : ∀ n s, J n s → wpAny (model P w) A (pyNext it) (fun r s1 => r.elim (R (.ok .next) s1) fun u => wpAny (model P w) A (letOwnedTupleGo tb it u) (fun _ s2 => wpAny (model P w) A (assign tb env u) (fun _ s3 => wpAny (model P w) A (testsOf cb env) (fun b s4 =>
        if b = true then wpAny (model P w) A (eval kx env) (fun k0 s5 => wpAny (model P w) A (eval vx env) (fun v0 s6 => wpAny (model P w) A (dictSet D k0 v0) (fun _ s7 => ∃ m, m < n ∧ J m s7) (ErX P w A env R) s6) (ErX P w A env R) s5) (ErX P w A env R) s4
        else ∃ m, m < n ∧ J m s4) (ErX P w A env R) s3) (ErX P w A env R) s2) (ErX P w A env R) s1) (ErX P w A env R) s)
    (n : Nat) (j0 : J n s) : codeAny (model P w) A (.compLoop (dcx kx vx ta ia ca tb ib cb sc ps) 1 it (.ref D) env) R s := by
  refine codeAny_loop rfl J (fun n z hJ => ?_) n j0
  show wpAny _ A (Sem.onRaise (compTurn (dcx kx vx ta ia ca tb ib cb sc ps) 1 it (.ref D) env) fun x => do noteFrame x env; theTreesLotGoes x) _ _ z
  apply wpAny_noted
  rw [dcx_inner]
  refine wpAny_bind (wpAny_standAt (wpAny_bind (wpAny_mono (step n z hJ) (fun r z1 k1 => ?_) fun _ _ q => q)))
  match r, k1 with
  | none, k1 => exact wpAny_pure k1
  | some u, k1 =>
    refine wpAny_bind (wpAny_mono k1 (fun _ z2 k2 => wpAny_bind (wpAny_mono k2 (fun _ z3 k3 => ?_) fun _ _ q => q)) fun _ _ q => q)
    refine wpAny_bind (wpAny_mono k3 (fun b z4 k4 => ?_) fun _ _ q => q)
    match b, k4 with
    | false, k4 => exact wpAny_pure ⟨rfl, k4⟩
    | true, k4 =>
      refine wpAny_bind (wpAny_bind (wpAny_mono k4 (fun k0 z5 k5 => ?_) fun _ _ q => q))
      refine wpAny_bind (wpAny_holding (wpAny_mono k5 (fun v0 z6 k6 => wpAny_bind (wpAny_standAt ?_)) fun _ _ q => q))
      exact wpAny_holding (wpAny_mono k6 (fun _ z7 k7 => wpAny_pure ⟨rfl, k7⟩) fun _ _ q => q)
/-- the inner loop is begun -/
theorem dcx_startB {it acc : Value} (l0 : codeAny (model P w) A (.compLoop (dcx kx vx ta ia ca tb ib cb sc ps) 1 it acc env) R s)
    (li : wpAny (model P w) A (pyIter it) (fun i2 s' => codeAny (model P w) A (.compLoop (dcx kx vx ta ia ca tb ib cb sc ps) 1 i2 acc env) R s') (ErX P w A env R) s) :
    codeAny (model P w) A (.compStart (dcx kx vx ta ia ca tb ib cb sc ps) 1 it acc env) R s := by
  apply codeAny_of_tree
  show wpAny _ _ (Sem.onRaise (compStart (dcx kx vx ta ia ca tb ib cb sc ps) 1 it acc env) fun x => do noteFrame x env; standAt theWindowsPlace) _ _ s
  apply wpAny_notedAt
  unfold compStart
  show wpAny _ A (ask >>= _) _ _ s
  apply wpAny_bind
  apply wpAny_askSetting
  apply wpAny_ite
  split
  · first | exact wpAny_pure ⟨rfl, l0⟩ | exact wpAny_bind (wpAny_pure (wpAny_pure ⟨rfl, l0⟩))
  · have go := wpAny_mono li (Q' := fun i2 s' => wpAny (model P w) A (pure i2) (fun _ _ => True) (fun _ _ => True) s' ∧ codeAny (model P w) A (.compLoop (dcx kx vx ta ia ca tb ib cb sc ps) 1 i2 acc env) R s') (fun i2 s' q => ⟨wpAny_pure trivial, q⟩) fun _ _ q => q
    refine wpAny_bind (wpAny_rule ?_)
    show wpAny _ _ (standAt ib.pos >>= _) _ _ s
    exact wpAny_bind (wpAny_standAt (wpAny_bind (wpAny_mono go (fun i2 s' q => wpAny_pure ⟨rfl, q.2⟩) fun _ _ q => q)))
end
section
variable {X : Cx}
/-- {k: v for a in u if .. for b in z if ..}: D the new dict; the inner walk reaches Nx; vb: the names of the inner target -/
def tDc2 (wa : TI) (ga : TG) (ca : TT) (wb : TI) (gb : TG) (cb : TT) (tk tv : TE) (vs vb : List Nat) : TE := fun σ H Q => wa σ H fun J H1 => ∀ D, H1 D = none → ∃ W : Nat → Nat → Hp → Prop, (∃ m, W 0 m (upd H1 D (.dK []))) ∧ ∀ i m H, W i m H →
  (J.stop i H ∧ Q (.ref D) H) ∨ (J.go i H ∧ ∃ Nx : Hp → Prop, (∀ H', Nx H' → ∃ m', m' < m ∧ W (i + 1) m' H') ∧ ∀ x H', J.yld i H x H' → ga x (wipe σ vs) H' fun σ2 H2 => wipe σ2 vs = wipe σ vs ∧ ca σ2 H2 fun b H3 =>
    if b = true then wb σ2 H3 fun J1 H4 => ∃ V : Nat → Nat → Hp → Prop, (∃ m, V 0 m H4) ∧ ∀ j k H, V j k H →
      (J1.stop j H ∧ Nx H) ∨ (J1.go j H ∧ ∃ Ny : Hp → Prop, (∀ H', Ny H' → ∃ k', k' < k ∧ V (j + 1) k' H') ∧ ∀ x H', J1.yld j H x H' → gb x (wipe σ2 vb) H' fun σ3 H5 => wipe σ3 vb = wipe σ2 vb ∧ cb σ3 H5 fun b H6 =>
        if b = true then tk σ3 H6 fun y H7 => tv σ3 H7 fun z H8 => ∃ kvs q, y = kV q ∧ H8 D = some (.dK kvs) ∧ kvs.length < sizeLine ∧ Ny (upd H8 D (.dK (putK kvs q z))) else Ny H6)
    else Nx H3)
abbrev BlkF (X : Cx) (sc : Scope) (F : Cx → Prop) : Prop := ∀ (s : Shared) (H : Hp) (C : Addr) (cl : List (Str × Addr)) (fp : List Addr), F (X.blk s H sc (compEnvC sc cl C X.env) fp)
theorem pe_dc2 {kx vx ta ia tb ib : Expr} {ca cb : List Expr} {sc : Scope} {own : List (Str × Nat)} {vb : List Nat} {ps : Pos} {wa wb : TI} {ga gb : TG} {qa qb : TT} {tk tv : TE} (hc : X.calm = true) (hN : X.N.Nodup) (ha : PI X ta ia wa) (ok : BlkOk X.N X.env.scope sc own) (hvb : ∀ i ∈ vb, i ∈ own.map (·.2))
    (hga : BlkF X sc fun Y => PG Y ta ga) (hqa : BlkF X sc fun Y => PTs Y ca qa) (hb : BlkF X sc fun Y => PI Y tb ib wb) (hgb : BlkF X sc fun Y => PG Y tb gb) (hqb : BlkF X sc fun Y => PTs Y cb qb) (hk : BlkF X sc fun Y => PE Y kx tk) (hv : BlkF X sc fun Y => PE Y vx tv)
    (fa : ∀ x, foldedSetIterable ia X.env x = pure x := by intro _; rfl) (fb : ∀ env x, foldedSetIterable ib env x = pure x := by intro _ _; rfl) :
    PE X (dcx kx vx ta ia ca tb ib cb sc ps) (tDc2 wa ga qa wb gb qb tk tv (own.map (·.2)) vb) := by
  refine ⟨fun pins s σ H Q I h => ?_⟩
  rw [arm_eval_DictComp]
  have fre : ∀ y ∈ sc.names, y.2 = .free → ∃ c, X.env.cells.lookup y.1 = some c := fun y hy e => (ok.free y hy e).elim (fun k => I.ok.has _ (.inl k)) (fun k => I.ok.has _ (.inr k))
  refine wpAny_comprehension_free rfl fa (closure_ok fre) ok.kind (fun y hy e => by rw [ok.uniq y hy, e]) (thn (ha.run pins s σ H _ I h) fun _ sa hx => thn hx fun _ sb hy => ?_)
  obtain ⟨it, fp, tn, J, Hb, rfl, Ib, T, stb, fpb, q⟩ := hy
  refine wpAny_newObj_type (newEnv_comp ?_)
  generalize eD : sb.heap.objs.size = D
  have nD : Hb D = none := Ib.hok.fresh (Nat.le_of_eq eD)
  obtain ⟨W, ⟨m0, w0⟩, turn⟩ := q D nD
  generalize ec : ({ sb with heap := sb.heap.push { cls := .type "dict", data := .dict #[] } } : Shared) = sc3
  have Ic : Inv X pins σ (upd Hb D (.dK [])) sc3 := by
    rw [← ec, ← eD]
    exact Ib.laid (t' := sb.toks) (fun b o e => Heap.get?_push_of_some _ e) (Nat.le_refl _) (dk_empty sb.heap Ib.big)
  have hc3 : sc3.heap = sb.heap.push { cls := .type "dict", data := .dict #[] } := by rw [← ec]
  have lt : ∀ b ∈ fp, b < sb.heap.objs.size := fun b hb => by
    obtain ⟨_, e, _⟩ := T.obj _ _ stb b hb
    exact Heap.lt_size e
  have fpc : ∀ b ∈ fp, FpOk X pins (upd Hb D (.dK [])) b ∧ b < sc3.heap.objs.size := fun b hb => by
    have l := lt b hb
    constructor
    · refine ⟨?_, (fpb b hb).2⟩
      rw [upd_ne (by rw [← eD]; exact Nat.ne_of_lt l)]
      exact (fpb b hb).1
    · rw [hc3, Heap.size_push]
      exact Nat.lt_succ_of_lt l
  have stc : tn 0 sc3.heap := T.keep _ _ _ stb fun b _ o e => by rw [hc3]; exact Heap.get?_push_of_some _ e
  have I4 := block_start Ic ok hN fpc
  generalize eH : upd Hb D (.dK []) = H3 at Ic I4 w0 fpc
  have nfp : ∀ b ∈ fp, H3 b = none := fun b hb => (fpc b hb).1.1
  show codeAny _ _ (.compStart (dcx kx vx ta ia ca tb ib cb sc ps) 0 (.ref it) (.ref D) (compEnvC sc (cellsFrom (sc3.heap.objs.size + 1) sc.names (cloFrom X.env.cells sc.names [])) sc3.heap.objs.size X.env)) (compPost (model X.prog X.w) X.A X.xe none (fun v s' => EP X pins σ Q v s') (.ref D) sc3.heap.objs.size) { sc3 with heap := pushCells (sc3.heap.push { cls := .type "dict", data := .dict #[] }) sc.names }
  have p1 := hga sc3 H3 sc3.heap.objs.size (cellsFrom (sc3.heap.objs.size + 1) sc.names (cloFrom X.env.cells sc.names [])) fp
  have p2 := hqa sc3 H3 sc3.heap.objs.size (cellsFrom (sc3.heap.objs.size + 1) sc.names (cloFrom X.env.cells sc.names [])) fp
  have p3 := hb sc3 H3 sc3.heap.objs.size (cellsFrom (sc3.heap.objs.size + 1) sc.names (cloFrom X.env.cells sc.names [])) fp
  have p4 := hgb sc3 H3 sc3.heap.objs.size (cellsFrom (sc3.heap.objs.size + 1) sc.names (cloFrom X.env.cells sc.names [])) fp
  have p5 := hqb sc3 H3 sc3.heap.objs.size (cellsFrom (sc3.heap.objs.size + 1) sc.names (cloFrom X.env.cells sc.names [])) fp
  have p6 := hk sc3 H3 sc3.heap.objs.size (cellsFrom (sc3.heap.objs.size + 1) sc.names (cloFrom X.env.cells sc.names [])) fp
  have p7 := hv sc3 H3 sc3.heap.objs.size (cellsFrom (sc3.heap.objs.size + 1) sc.names (cloFrom X.env.cells sc.names [])) fp
  generalize ecn : compEnvC sc (cellsFrom (sc3.heap.objs.size + 1) sc.names (cloFrom X.env.cells sc.names [])) sc3.heap.objs.size X.env = ce at I4 p1 p2 p3 p4 p5 p6 p7 ⊢
  have cl : ce.locals = sc3.heap.objs.size := by rw [← ecn]; rfl
  generalize es : ({ sc3 with heap := pushCells (sc3.heap.push { cls := .type "dict", data := .dict #[] }) sc.names } : Shared) = s4 at I4 ⊢
  have st4 : tn 0 s4.heap := T.keep _ _ _ stc fun b _ o e => by rw [← es]; exact pushCells_keeps _ _ _ _ (Heap.get?_push_of_some _ e)
  have fpo : ∀ {σ' : L2.St} {H' : Hp} {s' : Shared}, Inv (X.blk sc3 H3 sc ce fp) [] σ' H' s' → (∀ b ∈ fp, H' b = none) → ∀ b ∈ fp, FpOk (X.blk sc3 H3 sc ce fp) [] H' b := fun Iz nz b hb => by
    have z := Iz.ok.exf b hb
    exact ⟨nz b hb, z.1, Iz.ok.exfs b hb, .inl hb, z.2, fun p hp => nomatch (show p ∈ ([] : List (Addr × Obj)) from hp)⟩
  -- what the outer loop keeps from turn to turn
  generalize eK : (fun (n : Nat) (s' : Shared) => ∃ i H', Inv (X.blk sc3 H3 sc ce fp) [] (wipe σ (own.map (·.2))) H' s' ∧ tn i s'.heap ∧ (∀ b ∈ fp, H' b = none) ∧ W i n H') = K
  have kin : ∀ {n i : Nat} {H' : Hp} {s' : Shared}, Inv (X.blk sc3 H3 sc ce fp) [] (wipe σ (own.map (·.2))) H' s' → tn i s'.heap → (∀ b ∈ fp, H' b = none) → W i n H' → K n s' := fun a b c d => by
    rw [← eK]
    exact ⟨_, _, a, b, c, d⟩
  have kout : ∀ {n : Nat} {s' : Shared}, K n s' → ∃ i H', Inv (X.blk sc3 H3 sc ce fp) [] (wipe σ (own.map (·.2))) H' s' ∧ tn i s'.heap ∧ (∀ b ∈ fp, H' b = none) ∧ W i n H' := fun k => by
    rw [← eK] at k
    exact k
  clear eK
  have loop : codeAny (model X.prog X.w) X.A (.compLoop (dcx kx vx ta ia ca tb ib cb sc ps) 0 (.ref it) (.ref D) ce) (compPost (model X.prog X.w) X.A X.xe none (fun v s' => EP X pins σ Q v s') (.ref D) sc3.heap.objs.size) s4 := by
    refine dcx_loopA (fb ce) K (fun n s5 kn => ?_) m0 (kin I4 st4 nfp w0)
    obtain ⟨i, H5, I5, st5, n5, w5⟩ := kout kn
    rcases turn i n H5 w5 with ⟨stop, fin⟩ | ⟨go, Nx, hNx, step⟩
    · refine thnF (T.done (X.blk sc3 H3 sc ce fp) rfl rfl rfl hc i [] s5 _ H5 (fun _ _ => False) I5 (fpo I5 n5) st5 stop) fun r s6 ⟨er, I6⟩ => ?_
      subst er
      have I7 : Inv X pins σ H5 s6 := Ic.call' (ch := fp) I6.os I6.base I6.hok I6.bare fun b hb => by
        obtain ⟨⟨_, z1, z2, z3, z4⟩, z5⟩ := fpc b hb
        first | exact ⟨z3, z1, z4.1, z4.2⟩ | exact ⟨z3, z1, z4⟩
      have nC : H5 sc3.heap.objs.size = none := cl ▸ I6.free
      obtain ⟨m, hns, _⟩ := I6.loc
      have hns : s6.heap.Ns sc3.heap.objs.size m := cl ▸ hns
      obtain ⟨f0, f1, f2, f3, f4, f5⟩ := Ic.fpOk (Nat.le_refl _) nC
      exact ⟨m, hns, fun h'' sb' => ⟨.ref D, H5, I7.turned (t' := s6.toks) (fun b o hb e => (sb'.2 b hb).trans e) f0 f1 f3 f4 f5, rfl, fin⟩⟩
    · refine thnF (T.item (X.blk sc3 H3 sc ce fp) rfl rfl rfl hc i [] s5 _ H5 (fun _ _ => False) I5 (fpo I5 n5) st5 go) fun r s6 ⟨u, er, h6⟩ => ?_
      subst er
      refine thnF h6 fun _ s7 ⟨x, H7, I7, r7, y7, st7, n7⟩ => ?_
      refine thnF (p1.run _ s7 _ H7 x u _ (I7.pinned (fpo I7 n7) (T.obj _ _ st7)) r7 (step x H7 y7)) fun _ s8 ⟨σ8, H8, I8, e8, q8⟩ => ?_
      refine thnF (p2.run _ s8 σ8 H8 _ I8 q8) fun b s9 ⟨H9, I9, q9⟩ => ?_
      -- from any slots that still know what the block knew
      have again : ∀ {τ : L2.St} {s' : Shared} {H' : Hp}, Inv (X.blk sc3 H3 sc ce fp) ([] ++ pinsAt fp s7.heap) τ H' s' → τ.length = (wipe σ (own.map (·.2))).length → (∀ (j : Nat) v, (wipe σ (own.map (·.2)))[j]? = some (some v) → τ[j]? = some (some v)) → Nx H' → ∃ m, m < n ∧ K m s' := fun {τ s' H'} Iz hl hk nx => by
        obtain ⟨m', lm, wm⟩ := hNx H' nx
        have held : ∀ b ∈ fp, ∀ o, s7.heap.get? b = some o → s'.heap.get? b = some o ∧ H' b = none := fun b hb o e => by
          have z := Iz.pin (b, o) (List.mem_append_right _ (List.mem_append_right _ (mem_pinsAt hb e)))
          exact ⟨z.1, z.2.1⟩
        refine ⟨m', lm, kin ((Iz.unpinned (pins := [])).weak hl.symm hk) (T.keep _ _ _ st7 fun b hb o e => (held b hb o e).1) (fun b hb => ?_) wm⟩
        obtain ⟨o, e, _⟩ := T.obj _ _ st7 b hb
        exact (held b hb o e).2
      have l8 : σ8.length = (wipe σ (own.map (·.2))).length := by rw [← e8, wipe_length]
      have k8 : ∀ (j : Nat) v, (wipe σ (own.map (·.2)))[j]? = some (some v) → σ8[j]? = some (some v) ∧ j ∉ own.map (·.2) := fun j v e => wipe_some (by rw [e8]; exact e)
      cases b with
      | false => exact again I9 l8 (fun j v e => (k8 j v e).1) q9
      | true =>
        refine thnF (p3.run _ s9 σ8 H9 _ I9 q9) fun _ sA hx => thnF hx fun _ sB hy => ?_
        obtain ⟨jt, gp, un, J1, HB, rfl, IB, U, suB, gpB, V, ⟨v0, hv0⟩, turnB⟩ := hy
        have gpo : ∀ {H' : Hp}, (∀ b ∈ gp, H' b = none) → ∀ b ∈ gp, FpOk (X.blk sc3 H3 sc ce fp) ([] ++ pinsAt fp s7.heap) H' b := fun nz b hb => ⟨nz b hb, (gpB b hb).2⟩
        have inner : codeAny (model X.prog X.w) X.A (.compLoop (dcx kx vx ta ia ca tb ib cb sc ps) 1 (.ref jt) (.ref D) ce) (fun r s' => match r with | .ok _ => ∃ m, m < n ∧ K m s' | .error _ => False) sB := by
          refine dcx_loopB (fun k s' => ∃ j H', Inv (X.blk sc3 H3 sc ce fp) ([] ++ pinsAt fp s7.heap) (wipe σ8 vb) H' s' ∧ un j s'.heap ∧ (∀ b ∈ gp, H' b = none) ∧ V j k H') (fun k sC => ?_) v0 ⟨0, HB, IB.weak (wipe_length _ _) (fun j v e => (wipe_some e).1), suB, fun b hb => (gpB b hb).1, hv0⟩
          rintro ⟨j, HC, IC, suC, nC, vC⟩
          rcases turnB j k HC vC with ⟨stopB, nx⟩ | ⟨goB, Ny, hNy, stepB⟩
          · refine thnF (U.done (X.blk sc3 H3 sc ce fp) rfl rfl rfl hc j _ sC (wipe σ8 vb) HC (fun _ _ => False) IC (gpo nC) suC stopB) fun r sE ⟨er, IE⟩ => ?_
            subst er
            refine again IE ((wipe_length σ8 vb).trans l8) (fun i v e => ?_) nx
            obtain ⟨z1, z2⟩ := k8 i v e
            rw [wipe_out fun z => z2 (hvb i z)]
            exact z1
          · refine thnF (U.item (X.blk sc3 H3 sc ce fp) rfl rfl rfl hc j _ sC (wipe σ8 vb) HC (fun _ _ => False) IC (gpo nC) suC goB) fun r sE ⟨uE, er, hE⟩ => ?_
            subst er
            refine thnF hE fun _ sF ⟨xF, HF, IF, rF, yF, suF, nF⟩ => ?_
            refine thnF (p4.run _ sF (wipe σ8 vb) HF xF uE _ (IF.pinned (gpo nF) (U.obj _ _ suF)) rF (stepB xF HF yF)) fun _ sG ⟨σG, HG, IG, eG, qG⟩ => ?_
            refine thnF (p5.run _ sG σG HG _ IG qG) fun bG sI ⟨HI, II, qI⟩ => ?_
            have more : ∀ {s' : Shared} {H' : Hp}, Inv (X.blk sc3 H3 sc ce fp) (([] ++ pinsAt fp s7.heap) ++ pinsAt gp sF.heap) σG H' s' → Ny H' → ∃ m, m < k ∧ ∃ j H', Inv (X.blk sc3 H3 sc ce fp) ([] ++ pinsAt fp s7.heap) (wipe σ8 vb) H' s' ∧ un j s'.heap ∧ (∀ b ∈ gp, H' b = none) ∧ V j m H' := fun {s' H'} Iz ny => by
              obtain ⟨m', lm, vm⟩ := hNy H' ny
              have held : ∀ b ∈ gp, ∀ o, sF.heap.get? b = some o → s'.heap.get? b = some o ∧ H' b = none := fun b hb o e => by
                have z := Iz.pin (b, o) (List.mem_append_right _ (List.mem_append_right _ (mem_pinsAt hb e)))
                exact ⟨z.1, z.2.1⟩
              refine ⟨m', lm, j + 1, H', Iz.unpinned.weak (by rw [← eG, wipe_length]) (fun i v e => (wipe_some (by rw [eG]; exact e)).1), U.keep _ _ _ suF fun b hb o e => (held b hb o e).1, fun b hb => ?_, vm⟩
              obtain ⟨o, e, _⟩ := U.obj _ _ suF b hb
              exact (held b hb o e).2
            cases bG with
            | false => exact more II qI
            | true =>
              refine thnF (p6.run _ sI σG HI _ II qI) fun z sK ⟨yK, HK, IK, rK, qK⟩ => ?_
              refine thnF (p7.run _ sK σG HK _ IK qK) fun z2 sL ⟨yL, HL, IL, rL, kvs, k1, ek, hD, hz, ny⟩ => ?_
              subst ek
              exact d_dictSet (X := X.blk sc3 H3 sc ce fp) IL hD hz rK rL fun sM IM => more IM ny
        exact dcx_startB inner (U.self X.A 0 _ _ _ suB inner)
  exact codeAny_compStart_dict loop (T.self X.A 0 _ _ _ st4 loop)
end
end D

namespace D
open PySem PySem.Spec PyProof.Rows L2
/-! ### a new thing that is never written again -/
def tFrz (t : TE) : TE := fun σ H Q => t σ H fun v H1 => ∃ d u, v = .ref d ∧ H1 d = some u ∧ Mut (some u) ∧ ∀ od, Q v (upd H1 d (.frz od u))
theorem pe_frz {X : Cx} {e : Expr} {t : TE} (h : PE X e t) : PE X e (tFrz t) := ⟨fun pins s σ H Q I q => thn (h.run pins s σ H _ I q) fun u s1 ⟨v, H1, I1, r, d, w, ev, hd, mu, q1⟩ => by
  obtain ⟨od, I2⟩ := I1.lock hd mu
  exact ⟨v, _, I2, r, q1 od⟩⟩
/-! ### a dict comprehension given to a name, keys whole numbers or texts -/
def PutK (D : Addr) (N : Hp → Prop) (y z : V) (G : Hp) : Prop := ∃ kvs k, y = kV k ∧ G D = some (.dK kvs) ∧ kvs.length < sizeLine ∧ N (upd G D (.dK (putK kvs k z)))
theorem stores_K {X : Cx} : Stores X PutK := by
  rintro B pins σ G t D N y z u r Q E e1 e2 e3 e4 I ⟨kvs, k, rfl, dict, room, nx⟩ ry rz h
  exact d_dictSet (X := B) I dict room ry rz fun t' I' => h t' _ I' nx
abbrev tDcK (walk : TI) (g : TG) (tt : TT) (tk tv : TE) (own : List Nat) : TE := tDcG (fun _ => .dK []) PutK walk g tt tk tv own
theorem ps_setDcK {X : Cx} {i : Nat} {y : Str} {py : Pos} {kx vx tgt it : Expr} {ifs : List Expr} {sc : Scope} {own : List (Str × Nat)} {pos spos : Pos} {walk : TI} {g : TG} {tt : TT} {tk tv : TE} (calm : X.calm = true) (nod : X.N.Nodup) (hy : X.N[i]? = some y) (hyl : X.env.scope.names.lookup y = some .local)
    (hsw : swapsWith (.DictComp kx vx [⟨tgt, it, ifs, 0⟩] sc pos) (some (.Name y py)) spos.line X.env = pure true)
    (pi : PI X tgt it walk) (bo : BlkOk X.N X.env.scope sc own) (pg : InBlk X sc fun B => PG B tgt g) (pt : InBlk X sc fun B => PTs B ifs tt) (pk : InBlk X sc fun B => PE B kx tk) (pv : InBlk X sc fun B => PE B vx tv)
    (plain : ∀ x, foldedSetIterable it X.env x = pure x := by intro _; rfl) :
    PS X (.Assign [.Name y py] (.DictComp kx vx [⟨tgt, it, ifs, 0⟩] sc pos) spos) (tAsg (tDcK walk g tt tk tv (own.map (·.2))) (gName i)) :=
  ps_setDcG (fun H h b => dk_empty h b) stores_K calm nod hy hyl hsw pi bo pg pt pk pv plain
/-! ### set(l), l empty -/
section
variable {X : Cx}
def rSetE (K : PySem.W.Frag) (P : Program) (w : World) : List V → Hp → VK → Prop := fun xs H Q => ∃ p, xs = [.ref p] ∧ SqL K H p [] ∧ ∀ q, H q = none → Q (.ref q) (upd H q (SetK P w q (fun _ => false) 0))
theorem call_setE (hc : X.calm = true) : CallR X (.type "set") (rSetE X.K X.prog X.w) := by
  intro pins s σ H xs us Q I r h
  obtain ⟨p, rfl, hq, q⟩ := h
  obtain ⟨u, rfl, ru⟩ := vals1 r
  cases ru
  obtain ⟨its, rv, pl, hz⟩ := I.list hq
  cases rv
  refine SS.call_set_listS (xs := []) (I.ok.hd hc) pl.isList (by exact .nil) (Nat.zero_le _) fun h' tk hS hk => ?_
  obtain ⟨o, es, ep, t, ho, hx, hd, hel, hmem, hsz, hf, hn⟩ := hS
  have e0 : es = #[] := Array.eq_empty_of_size_eq_zero (by simpa using hn)
  subst e0
  exact ⟨.ref _, upd H s.heap.objs.size (SetK X.prog X.w s.heap.objs.size (fun _ => false) 0), I.laid (t' := tk) (fun b u e => hk b u (Heap.lt_size e) e) (Nat.le_refl _) (setK_new ⟨o, #[], ep, t, ho, hx, hd, (fun e he => by simp at he), (fun k => by simp), by decide, hf, rfl⟩), rfl, q _ (I.hok.fresh (Nat.le_refl _))⟩
end
/-! ### iter(d), d a dict that is not written -/
def ItDk (d : Addr) (o : Obj) (n i : Nat) (it : Addr) : HO := .ext fun h => ∃ es ep, o.data = .dict es ep ∧ h.IsKeyIter it d i n ep
theorem itDk_ok {P : Program} {w : World} {H : Hp} {h : Heap} {d it : Addr} {o : Obj} {n i : Nat} {es : Array DictEntry} {ep : Nat} (hod : o.data = .dict es ep) (e : h.IsKeyIter it d i n ep) : ObjOk P w H h it (ItDk d o n i it) := by
  have ⟨oi, ho, _⟩ := e
  refine ⟨⟨es, ep, hod, e⟩, ⟨oi, ho⟩, fun h1 h2 q k => ?_⟩
  obtain ⟨es1, ep1, h3, h4⟩ := q
  exact ⟨es1, ep1, h3, h4.at fun x hx => k x hx⟩
section
variable {X : Cx}
def rIterD (n : Nat) : List V → Hp → VK → Prop := fun xs H Q => ∃ d o kvs, xs = [.ref d] ∧ H d = some (.frz o (.dK kvs)) ∧ ∀ it, H it = none → n ≤ it → Q (.ref it) (upd H it (ItDk d o kvs.length 0 it))
theorem call_iterD : CallR X (.builtin "iter") (rIterD X.s_0.heap.objs.size) := by
  intro pins s σ H xs us Q I r h
  obtain ⟨d, o, kvs, rfl, hd, q⟩ := h
  obtain ⟨u, rfl, ru⟩ := vals1 r
  cases ru
  obtain ⟨hs, hgd, hx, es, ep, vs, hdt, hsz, kv, hm⟩ := I.frzK hd
  refine Calls.call_function_entry (by decide +kernel) (by decide +kernel) PySem.W.kdk_entry_iter (PySem.W.kdk_args_iter _) ?_
  unfold Builtin.«iter»
  refine wpAny_bind (m := someArgs "iter" 1 2 _) (wpAny_of_eq (a := [Value.ref d]) (by first | rfl | kernel_rfl!) ?_)
  show wpAny _ _ (pyIter (.ref d) >>= _) _ _ _
  refine wpAny_bind (iter_keys hs hgd hx hdt (wpAny_pure ⟨_, rfl, ?_⟩))
  refine ⟨.ref s.heap.objs.size, _, I.laid (t' := s.toks) (fun b u e => Heap.get?_push_of_some _ e) (Nat.le_refl _) (itDk_ok (n := kvs.length) (i := 0) hdt ⟨_, Heap.get?_push_size _ rfl, rfl, by rw [hsz] <;> rfl⟩), rfl, q _ (I.hok.fresh (Nat.le_refl _)) I.sz⟩
end
/-! ### defs that know how many places were given when they were called -/
section
variable {P : Program} {w : World} {K : PySem.W.Frag} {mg : Str → Option Value} {base : Heap} {CX : CXT} {k : Nat} {f : Addr} {fd : FuncData} {ps : List Str}
structure FnW (P : Program) (w : World) (K : PySem.W.Frag) (mg : Str → Option Value) (base : Heap) (CX : CXT) (k : Nat) (f : Addr) (fd : FuncData) (ps : List Str) (sp : Nat → Sp) : Prop where
  ln : ∀ n vs H Q E, sp n vs H Q E → vs.length = ps.length
  go : ∀ (n : Nat) (A : Around) (fr : List Env) (s : Shared) (H : Hp) (args : Args) (us : List Value) (vs : List V) (Q : VK) (E : XK), n ≤ s.heap.objs.size → Room k A → Env0 P w K mg base A fr s H → BindsTo s fd args (ps.zip us) → Vals vs us → sp n vs H Q E → codeAny (model P w) A (.call (.ref f) args) (CR CX fr P w H s Q E) s
/-- a def's body, run from one state -/
theorem body_run {name qual : Str} {pr : Arguments} {body : List Stmt} {sc : Scope} {dV kV doc pm c ct oc : Value} {an od : Option Addr} {osl : Array (Option Value)} {N : List Str} {A : Around} {fr : List Env} {s : Shared} {H : Hp} {args : Args} {us : List Value} {vs : List V} {Q : VK} {E : XK}
    (lk : K.lookup f = some ⟨oc, od, .func (PySem.W.fnOf name qual pr body sc dV kV doc pm an c ct), osl⟩) (hc : PySem.W.codeIn K c qual = true) (S : FnScope N ps sc) (n1 : vs.length = ps.length) (hr : Room (k + 1) A) (e0 : Env0 P w K mg base A fr s H) (bd : BindsTo s (PySem.W.fnOf name qual pr body sc dV kV doc pm an c ct) args (ps.zip us)) (rv : Vals vs us)
    (hb : ∃ t, PSs (cxOf CX P w K mg base N qual sc f c A fr s H E) body t ∧ t { nx := fun _ H' => Q .non H', rt := Q } (start N vs) H) : codeAny (model P w) A (.call (.ref f) args) (CR CX fr P w H s Q E) s := by
  have kin : K.In s.heap := e0.mod.kin.keeps fun x o e => (e0.bs x o e).1
  have nl : s.heap.NoLimit := e0.mod.nolimit.keeps fun x o e => (e0.bs x o e).1
  have kd : ∀ y ∈ ps.zip us, sc.names.lookup y.1 = some .local ∨ (sc.names.lookup y.1 = some .cell ∧ ((cellsFrom (s.heap.objs.size + 1) sc.names []).lookup y.1).isSome = true) := by
    rintro ⟨m, v⟩ hy
    exact (S.par m (List.of_mem_zip hy).1).imp id fun z => ⟨z, PySem.W.cellsFrom_some _ _ _ (.inl z)⟩
  refine codeAny_call_function hr.depth (kin _ _ lk) rfl S.co S.gen rfl (PySem.W.codeRec_of kin hc) (bd _ _ _ _ (wpAny_newFunctionEnv_cells S.kind kd fun ev he s1 x => ?_))
  cases he
  refine ⟨nl.keeps x.toInCall.keep, codeAny_func ?_⟩
  obtain ⟨t, ht, hq⟩ := hb
  refine wpAny_mono (ht.run [] s1 (start N vs) H _ (inv_start S hr.hd e0 n1 rv x) hq) (fun fl s' z => ?_) fun e s' z => z
  cases fl with
  | ret u =>
    obtain ⟨v, σ', H', J, r, q⟩ := z
    exact ⟨v, H', J.os, J.bare, J.base, J.hok, r, q⟩
  | next =>
    obtain ⟨σ', H', J, q⟩ := z
    exact ⟨V.non, H', J.os, J.bare, J.base, J.hok, rfl, q⟩
  | brk =>
    obtain ⟨_, _, _, z⟩ := z
    exact False.elim z
  | cont =>
    obtain ⟨_, _, _, z⟩ := z
    exact False.elim z
theorem Fun.okW {x qual : Str} {st : Stmt} {N : List Str} {sp : Nat → Sp} (F : Fun K x qual st f fd) (S : FnScope N ps (defScope st)) (ln : ∀ n vs H Q E, sp n vs H Q E → vs.length = ps.length)
    (hb : ∀ (n : Nat) (c : Value) (A : Around) (fr : List Env) (s : Shared) (H : Hp) (vs : List V) (Q : VK) (E : XK), n ≤ s.heap.objs.size → Room k (A.deeper (envOfC qual (defScope st) s.heap.objs.size f c)) → sp n vs H Q E →
      ∃ t, PSs (cxOf CX0 P w K mg base N qual (defScope st) f c A fr s H E).nox (defBody st) t ∧ t { nx := fun _ H' => Q .non H', rt := Q } (start N vs) H) : FnW P w K mg base CX0 (k + 1) f fd ps sp := by
  obtain ⟨oc, od, kV, doc, pm, an, c, ct, osl, rfl, lk, hc⟩ := F.ex
  refine ⟨ln, fun n A fr s H args us vs Q E hn hr e0 bd rv hs => body_run lk hc S (ln _ _ _ _ _ hs) hr e0 bd rv ?_⟩
  obtain ⟨t, h, q⟩ := hb n c A fr s H vs Q E hn (hr.deeper _) hs
  exact ⟨t, h.nox, q⟩
end
/-! ### a walk over an instance whose __iter__ hands an iterator over a dict out -/
section
variable {X : Cx} {CI : CXT} {C fi : Addr} {fdI : FuncData} {psI : List Str} {spI : Nat → Sp} {EI : XK} {n : Nat} {tg e : Expr} {te : TE}
def iOwnD (te : TE) (C : Addr) (sp : Nat → Sp) (E : XK) : TI := fun σ H R => te σ H fun x H1 => ∃ a dx fs, x = .ref a ∧ H1 a = some (.ins C dx fs) ∧
  ∀ m, sp m [.ref a] H1 (fun v H' => ∃ it d o kvs, v = .ref it ∧ H' it = some (ItDk d o kvs.length 0 it) ∧ m ≤ it ∧ R (Itk d o kvs) (ItX.dropH H' it)) E
theorem pi_ownD (hc : ItK X.K C fi) (FI : FnW X.prog X.w X.K X.mg X.base CI n fi fdI psI spI) (bI : Binds X.K fdI psI []) (hr : Room n X.A) (xI : Passes CI X EI) (he : PE X e te) : PI X tg e (iOwnD te C spI EI) := by
  refine ⟨fun pins s0 σ H0 R I0 h0 => thn (he.run pins s0 σ H0 _ I0 h0) fun u s ⟨x, H, I, rx, a, dx, fs, ex, ha, hsp⟩ => ?_⟩
  subst ex
  cases rx
  obtain ⟨mA, J, _⟩ := ins_get I.hok ha
  obtain ⟨od, J, _⟩ := J.look
  obtain ⟨m0, hF⟩ := I.fr
  refine PySem.W.owit_iter hF I.ok.mod.kin J hc.it hc.itF ?_
  have e0 : Env0 X.prog X.w X.K X.mg X.base X.A X.stack s H := I.env0
  have hm := hsp s.heap.objs.size
  have hl := FI.ln _ _ _ _ _ hm
  have r2 : Vals [V.ref a] [Value.ref a] := .cons rfl .nil
  refine wpAny_call (codeAny_mono (FI.go _ X.A X.stack s H ⟨[.ref a], []⟩ [.ref a] [.ref a] _ EI (Nat.le_refl _) hr e0 (by
    have := bI s [.ref a] I.kIn (by simpa using hl)
    simpa using this) r2 hm) fun r s' hq' => ?_)
  cases r with
  | error e => exact xI pins σ H s e s' I hq'
  | ok fl =>
    cases fl with
    | next => exact False.elim hq'
    | brk => exact False.elim hq'
    | cont => exact False.elim hq'
    | ret u =>
      obtain ⟨v, H', I', rv, it, d, o, kvs, ev, hit, hn, hR⟩ := I.after hq'
      subst ev
      cases rv
      obtain ⟨es, ep, hod, hk⟩ := (I'.hok it _ hit).1
      unfold PySem.W.OwitIt
      refine wpAny_specialOf (hk.typeIs (s := s')) PySem.F.slot_dict_keyiterator_next.lookup ?_
      have hit' := hit
      unfold ItDk at hit'
      refine ⟨it, [it], _, Itk d o kvs, _, rfl, ItX.inv_drop I' hit', turn_keys it hod, hk, fun b hb => ?_, hR⟩
      have eb : b = it := by simpa using hb
      rw [eb]
      exact ItX.inv_fp I' hit (Nat.le_trans I.sz hn)
end
section
variable {X : Cx} {pins : List (Addr × Obj)} {σ : L2.St} {H : Hp} {s : Shared}
theorem itk_loop {A1 : Around} {it d q : Addr} {o : Obj} {kvs : List (Key × V)} {H0 : Hp} {Rs : Result → Shared → Prop} (hh : A1.handled = none) (nqi : q ≠ it) (hn : X.s_0.heap.objs.size ≤ it) (hl : kvs.length ≤ 1000)
    (hdone : ∀ H s, Inv X pins σ H s → (∀ b, b ≠ it → b ≠ q → H b = H0 b) → H q = some (.lst (kvs.map fun kv => kV kv.1)) → H it = none → Rs (.ok (.ret .none)) s) :
    ∀ (k i : Nat) (H : Hp) (s : Shared), kvs.length - i = k → i ≤ kvs.length → Inv X pins σ H s → (∀ b, b ≠ it → b ≠ q → H b = H0 b) → H d = some (.frz o (.dK kvs)) → H q = some (.lst ((kvs.take i).map fun kv => kV kv.1)) → H it = some (ItDk d o kvs.length i it) →
      codeAny (model X.prog X.w) A1 (.builtin "list.extend.loop" ⟨[.ref q, .ref it, .none], []⟩) Rs s := by
  intro k
  induction k with
  | zero =>
    intro i H s hk hi I hH hdi hq hit
    have ei : i = kvs.length := by omega
    subst ei
    obtain ⟨hs, hgd, hx, es', ep', vs, hdt, hsz, kv, hm⟩ := I.frzK hdi
    obtain ⟨es, ep, hod, hk⟩ := (I.hok it _ hit).1
    obtain ⟨rfl, rfl⟩ := dict_ep hod hdt
    refine codeAny_builtin PySem.F.entry_extend_loop ?_
    rw [Around.under_plainId PySem.F.plain_extend_loop _]
    show wpAny _ A1.in1 (pyNext (.ref it) >>= _) _ _ s
    have hit' := hit
    unfold ItDk at hit'
    obtain ⟨f0, f1, f2, f3, f4, f5⟩ := ItX.inv_fp I hit hn
    have I1 := ItX.inv_drop I hit'
    refine wpAny_bind (next_key_end hh hk hgd hdt hsz (Nat.le_refl _) fun h' eb => ?_)
    have I' : Inv X pins σ (ItX.dropH H it) { s with heap := h' } := I1.turned (t' := s.toks) (fun b o hb e => eb b o hb e) f0 f1 f3 f4 f5
    refine wpAny_pure (hdone _ _ I' (fun b h1 h2 => by rw [ItX.dropH_ne h1]; exact hH b h1 h2) ?_ ItX.dropH_same)
    rw [ItX.dropH_ne nqi, hq, List.take_length]
  | succ k ih =>
    intro i H s hk hi I hH hdi hq hit
    have hlt : i < kvs.length := by omega
    obtain ⟨hs, hgd, hx, es', ep', vs, hdt, hsz, kv, hm⟩ := I.frzK hdi
    obtain ⟨es, ep, hod, hki⟩ := (I.hok it _ hit).1
    obtain ⟨rfl, rfl⟩ := dict_ep hod hdt
    obtain ⟨⟨y, v⟩, hkv⟩ : ∃ p, kvs[i]? = some p := ⟨kvs[i], List.getElem?_eq_getElem hlt⟩
    obtain ⟨u, hu, ru⟩ := kv_get kv hkv
    have hlv : kvs.length = vs.length := Paired.length kv
    have nd : it ≠ d := fun z => by rw [z, hdi] at hit; cases hit
    have nq : q ≠ d := fun z => by rw [z, hdi] at hq; cases hq
    refine codeAny_builtin PySem.F.entry_extend_loop ?_
    rw [Around.under_plainId PySem.F.plain_extend_loop _]
    show wpAny _ A1.in1 (pyNext (.ref it) >>= _) _ _ s
    rw [hlv] at hki
    refine wpAny_bind (wpAny_pyNext_dict_item hki hm hu fun key h' hkey st' sb => ?_)
    have mu : Mut (H it) := by rw [hit]; exact True.intro
    have st2 := st'
    rw [← hlv] at st2
    have ⟨oi, hoi, _⟩ := st'
    have I' := I.write (x := it) (e := it) (t' := s.toks) (o := ItDk d o kvs.length (i + 1) it) (h' := h') mu (.inl rfl) (fun b o nb z => (sb.2 b nb).trans z) ⟨_, hoi⟩ (itDk_ok hod st2)
    have hq' : upd H it (ItDk d o kvs.length (i + 1) it) q = some (.lst ((kvs.take i).map fun kv => kV kv.1)) := by rw [upd_ne nqi]; exact hq
    show wpAny _ A1.in1 (updateSeq q (·.push key) >>= _) _ _ _
    obtain ⟨z, its2, c, r2, hl2, e⟩ := I'.lstM hq'
    have l2 : its2.length = i := by rw [← r2.length, List.length_map, List.length_take]; omega
    refine wpAny_bind (wpAny_updateSeq e rfl (wpAny_pure ⟨plainId_quiet PySem.F.plain_extend_loop _, ?_⟩) (by rw [List.size_toArray, l2, sizeLine_eq]; omega) (by show (its2.toArray.push key).size ≤ sizeLine + 1; rw [Array.size_push, List.size_toArray, l2, sizeLine_eq]; omega))
    refine ih (i + 1) _ _ (by omega) hlt (I'.lset (its' := its2 ++ [key]) (ys := (kvs.take (i + 1)).map fun kv => kV kv.1) (t' := s.toks) hq' e (by simp) ?_ (by rw [List.length_map, List.length_take, sizeLine_eq]; omega)) (fun b h1 h2 => ?_) ?_ upd_same ?_
    · rw [List.take_add_one, hkv, List.map_append]
      exact r2.append (.cons (relV_key (show keyIs y key = true from hkey)) .nil)
    · rw [upd_ne h2, upd_ne h1]
      exact hH b h1 h2
    · rw [upd_ne (Ne.symm nq), upd_ne (Ne.symm nd)]
      exact hdi
    · rw [upd_ne (Ne.symm nqi), upd_same]
/-- list(o): __iter__ hands an iterator over a dict out -/
def rListDk (C : Addr) (sp : Nat → Sp) (E : XK) : List V → Hp → VK → Prop := fun xs H Q => ∃ a dx fs, xs = [.ref a] ∧ H a = some (.ins C dx fs) ∧
  ∀ m q, H q = none → sp m [.ref a] (upd H q (.lst [])) (fun v H' => ∃ it d o kvs, v = .ref it ∧ H' it = some (ItDk d o kvs.length 0 it) ∧ m ≤ it ∧ H' d = some (.frz o (.dK kvs)) ∧ H' q = some (.lst []) ∧ H' a = some (.ins C dx fs) ∧ kvs.length ≤ 1000 ∧
    Q (.ref q) (upd (ItX.dropH H' it) q (.lst (kvs.map fun kv => kV kv.1)))) E
variable {CI : CXT} {C fi : Addr} {fdI : FuncData} {psI : List Str} {spI : Nat → Sp} {EI : XK} {n : Nat}
theorem extend_dk {a dx q : Addr} {fs : List (Str × V)} {Hq : Hp} {Q : VK} (sb : Sub X n X.A.in1.in1) (hA : X.A.in1.handled = none) (hc : ItK X.K C fi) (FI : FnW X.prog X.w X.K X.mg X.base CI n fi fdI psI spI) (bI : Binds X.K fdI psI []) (xI : Passes CI X EI) (I2 : Inv X pins σ Hq s) (hqq : Hq q = some (.lst [])) (ha2 : Hq a = some (.ins C dx fs))
    (hsp : ∀ m, spI m [.ref a] Hq (fun v H' => ∃ it d o kvs, v = .ref it ∧ H' it = some (ItDk d o kvs.length 0 it) ∧ m ≤ it ∧ H' d = some (.frz o (.dK kvs)) ∧ H' q = some (.lst []) ∧ H' a = some (.ins C dx fs) ∧ kvs.length ≤ 1000 ∧
      Q (.ref q) (upd (ItX.dropH H' it) q (.lst (kvs.map fun kv => kV kv.1)))) EI) :
    wpAny (model X.prog X.w) X.A.in1.in1 (Builtin.List.listExtendWith (.ref q) (.ref a) .none)
      (fun fin s' => match fin with | .done f => wants (fun r s₂ => r = .none ∧ EP X pins σ Q (.ref q) s₂) X.xe (.ok f) s' | .again c' => c'.quiet = true ∧ codeAny (model X.prog X.w) X.A.in1 c' (wants (fun r s₂ => r = .none ∧ EP X pins σ Q (.ref q) s₂) X.xe) s') (fun e s' => wants (fun r s₂ => r = .none ∧ EP X pins σ Q (.ref q) s₂) X.xe (.error e) s') s := by
  have hne : q ≠ a := ne_of hqq ha2 (fun z => nomatch z)
  obtain ⟨mA, J, _⟩ := ins_get I2.hok ha2
  obtain ⟨od, J, _⟩ := J.look
  obtain ⟨m0, hF⟩ := I2.fr
  unfold Builtin.List.listExtendWith
  refine wpAny_bind (J.type.here ?_)
  have h1 : Builtin.List.listSameRef (.ref q) (.ref a) = false := by simp [Builtin.List.listSameRef, hne]
  have h2 : (Value.ref C == Value.type "list") = false := rfl
  have h3 : (Value.ref C == Value.type "tuple") = false := rfl
  simp only [h1, h2, h3, Bool.or_false, Bool.false_eq_true, if_false]
  refine wpAny_bind (PySem.W.owit_iter hF I2.ok.mod.kin J hc.it hc.itF ?_)
  have e0 : Env0 X.prog X.w X.K X.mg X.base X.A.in1.in1 X.stack s Hq := by
    have e := I2.env0
    exact ⟨by rw [sb.fr]; exact e.frames, e.mod, e.bs, e.bsz, e.funs, e.frf, e.hok, e.bare⟩
  have hm := hsp s.heap.objs.size
  have hl := FI.ln _ _ _ _ _ hm
  have r2 : Vals [V.ref a] [Value.ref a] := .cons rfl .nil
  refine wpAny_call (codeAny_mono (FI.go _ X.A.in1.in1 X.stack s Hq ⟨[.ref a], []⟩ [.ref a] [.ref a] _ EI (Nat.le_refl _) sb.room e0 (by
    have := bI s [.ref a] I2.kIn (by simpa using hl)
    simpa using this) r2 hm) fun r s' hq' => ?_)
  cases r with
  | error e => exact xI pins σ Hq s e s' I2 hq'
  | ok fl =>
    cases fl with
    | next => exact False.elim hq'
    | brk => exact False.elim hq'
    | cont => exact False.elim hq'
    | ret u =>
      obtain ⟨v, H', I', rv, it, d, o, kvs, ev, hit, hnn, hT, hq2, ha', hz, q2⟩ := I2.after hq'
      subst ev
      cases rv
      unfold PySem.W.OwitIt
      obtain ⟨es, ep, hod, hk⟩ := (I'.hok it _ hit).1
      refine wpAny_specialOf (hk.typeIs (s := s')) PySem.F.slot_dict_keyiterator_next.lookup ?_
      obtain ⟨mA', J', _⟩ := ins_get I'.hok ha'
      obtain ⟨od', J', _⟩ := J'.look
      refine wpAny_bind (wpAny_holding (hintK hc I'.kIn J' ?_))
      obtain ⟨z, its, k, r3, hl3, e3⟩ := I'.lstM hq2
      cases r3
      have nqi : q ≠ it := fun z => by rw [z, hit] at hq2; cases hq2
      have eq5 : ∀ H5 : Hp, (∀ b, b ≠ it → b ≠ q → H5 b = H' b) → H5 q = some (.lst (kvs.map fun kv => kV kv.1)) → H5 it = none → Q (.ref q) H5 := fun H5 a1 a2 a3 => by
        have : H5 = upd (ItX.dropH H' it) q (.lst (kvs.map fun kv => kV kv.1)) := by
          funext b
          by_cases hb : b = q
          · rw [hb, upd_same, a2]
          · rw [upd_ne hb]
            by_cases hi : b = it
            · rw [hi, a3, ItX.dropH_same]
            · rw [ItX.dropH_ne hi, a1 b hi hb]
        rw [this]
        exact q2
      have hloop : ∀ s2, Inv X pins σ H' s2 → codeAny (model X.prog X.w) X.A.in1 (.builtin "list.extend.loop" ⟨[.ref q, .ref it, .none], []⟩) (wants (fun r s₂ => r = .none ∧ EP X pins σ Q (.ref q) s₂) X.xe) s2 := fun s2 I4 =>
        itk_loop (A1 := X.A.in1) hA nqi (Nat.le_trans I2.sz hnn) hz (H0 := H') (fun H5 s5 I5 a1 a2 a3 => ⟨rfl, .ref q, H5, I5, rfl, eq5 H5 a1 a2 a3⟩) _ 0 H' s2 rfl (Nat.zero_le _) I4 (fun _ _ _ => rfl) hT hq2 hit
      refine wpAny_ite_split (fun _ => ?_) (fun _ => wpAny_pure ⟨plainId_quiet PySem.F.plain_extend_loop _, hloop s' I'⟩)
      refine wpAny_bind (wpAny_rule ?_)
      refine wpAny_bind ?_
      show wpAny _ _ (updateSeq q (·.push .none) >>= fun _ => updateSeq q (·.pop)) _ _ _
      refine wpAny_bind (wpAny_updateSeq e3 rfl ?_)
      have I3 := I'.lset (f := (·.push Value.none)) (its' := [Value.none]) (ys := [.non]) (t' := s'.toks) hq2 e3 (by simp) (.cons rfl .nil) (by rw [List.length_singleton, sizeLine_eq]; decide)
      obtain ⟨z4, its4, k4, r4, hl4, e4⟩ := I3.lstM upd_same
      obtain ⟨u4, rfl, ru4⟩ := r4.one
      refine wpAny_updateSeq e4 rfl ?_ (by show 1 ≤ sizeLine; rw [sizeLine_eq]; decide) (by show 0 ≤ sizeLine + 1; exact Nat.zero_le _)
      refine wpAny_pure ⟨plainId_quiet PySem.F.plain_extend_loop _, hloop _ ?_⟩
      have I5 := I3.lset (f := (·.pop)) (its := [u4]) (its' := []) (ys := []) (t' := s'.toks) upd_same e4 (by rfl) .nil (Nat.zero_le _)
      rw [upd_upd] at I5
      have hH : upd H' q (.lst []) = H' := by
        funext b
        by_cases hb : b = q
        · rw [hb, upd_same, hq2]
        · rw [upd_ne hb]
      rw [hH] at I5
      exact I5
theorem call_listDk (hc : ItK X.K C fi) (FI : FnW X.prog X.w X.K X.mg X.base CI n fi fdI psI spI) (bI : Binds X.K fdI psI []) (xI : Passes CI X EI) (hr : Room (n + 2) X.A) : CallR X (.type "list") (rListDk C spI EI) := by
  intro pins s σ H xs us Q I rv h
  obtain ⟨a, dx, fs, rfl, ha, hq⟩ := h
  obtain ⟨u, rfl, ru⟩ := rv.one
  cases ru
  have sb : Sub X n X.A.in1.in1 := (Sub.in1 (Sub.in1 (⟨hr, rfl⟩ : Sub X (n + 2) X.A)))
  refine callType_codes (Q₁ := fun obj s₁ => obj = .ref s.heap.objs.size ∧ s₁ = { s with heap := s.heap.push { cls := .type "list", data := .seq #[] } }) PySem.F.called_list (PySem.F.typeCall_list_1 _) PySem.F.entry_list_init
    (code_list_new _ ⟨rfl, rfl⟩) fun obj s₁ h₁ => ?_
  obtain ⟨rfl, rfl⟩ := h₁
  have hS : (s.heap.push { cls := .type "list", data := .seq #[] }).get? s.heap.objs.size = some { cls := .type "list", data := .seq #[] } := Heap.get?_push_size _ rfl
  refine ⟨⟨_, hS, rfl⟩, PySem.F.args_list_init_2 _ _, ?_⟩
  have fr : H s.heap.objs.size = none := I.hok.fresh (Nat.le_refl _)
  have hsp := fun m => hq m _ fr
  have I1 : Inv X pins σ (upd H s.heap.objs.size (.lst [])) { s with heap := s.heap.push { cls := .type "list", data := .seq #[] } } := I.lnew (its := []) (t' := s.toks) .nil (Nat.zero_le _)
  show wpAny _ _ (do let old ← Builtin.List.listItems (.ref s.heap.objs.size); Builtin.List.listUpdate (.ref s.heap.objs.size) (fun _ => #[]); letGo old.toList.reverse; Builtin.List.listExtendWith (.ref s.heap.objs.size) (.ref a) .none) _ _ _
  refine wpAny_bind ?_
  unfold Builtin.List.listItems
  refine wpAny_bind (wpAny_seqItems hS rfl (wpAny_pure ?_))
  show wpAny _ _ (updateSeq s.heap.objs.size (fun _ => #[]) >>= fun _ => letGo (#[] : Array Value).toList.reverse >>= fun _ => Builtin.List.listExtendWith (.ref s.heap.objs.size) (.ref a) .none) _ _ _
  refine wpAny_bind (wpAny_updateSeq hS rfl ?_)
  have I2 := I1.lset (f := fun _ => #[]) (its := []) (its' := []) (ys := []) (t' := s.toks) upd_same hS rfl .nil (Nat.zero_le _)
  rw [upd_upd] at I2
  refine wpAny_bind (wpAny_letGo ?_)
  have ha2 : upd H s.heap.objs.size (.lst []) a = some (.ins C dx fs) := by rw [upd_ne (ne_of_none ha fr)]; exact ha
  exact extend_dk sb hr.hd hc FI bI xI I2 upd_same ha2 hsp
end
end D

/-! trees of marks and labels -/
namespace D
open PySem PySem.Spec PyProof.Rows L2
inductive Nd where
  | mk (m l : Str) (ks : List Nd)
namespace Nd
def mark : Nd → Str | mk m _ _ => m
def label : Nd → Str | mk _ l _ => l
def kids : Nd → List Nd | mk _ _ ks => ks
mutual
def enc : Nd → PyData
  | mk m l ks => .tuple [.str m, .str l, .tuple (encs ks)]
def encs : List Nd → List PyData
  | [] => []
  | k :: r => k.enc :: encs r
end
mutual
def dep : Nd → Nat
  | mk _ _ ks => deps ks + 1
def deps : List Nd → Nat
  | [] => 0
  | k :: r => Nat.max k.dep (deps r)
end
-- the nodes in page order
mutual
def subs : Nd → List Nd
  | mk m l ks => mk m l ks :: subss ks
def subss : List Nd → List Nd
  | [] => []
  | k :: r => k.subs ++ subss r
end
mutual
def sz : Nd → Int × Int
  | mk _ l ks => szf l (szs ks)
def szs : List Nd → List (Int × Int)
  | [] => []
  | k :: r => k.sz :: szs r
end
-- each node behind what stands beneath it
mutual
def post : Nd → List Nd
  | mk m l ks => posts ks ++ [mk m l ks]
def posts : List Nd → List Nd
  | [] => []
  | k :: r => k.post ++ posts r
end
-- where each node stands, from x, y on
mutual
def rects : Nd → Int → Int → List (Nd × Int × Int)
  | mk m l ks, x, y => (mk m l ks, x, y) :: rectss (decide (l = sRow)) ks x y
def rectss (row : Bool) : List Nd → Int → Int → List (Nd × Int × Int)
  | [], _, _ => []
  | k :: r, x, y => k.rects x y ++ rectss row r (if row = true then x + k.sz.1 else x) (if row = true then y else y + k.sz.2)
end
theorem encs_map : ∀ ks : List Nd, encs ks = ks.map enc
  | [] => by rw [encs, List.map_nil]
  | k :: r => by rw [encs, encs_map r, List.map_cons]
theorem subss_map : ∀ ks : List Nd, subss ks = (ks.map subs).flatten
  | [] => by rw [subss, List.map_nil, List.flatten_nil]
  | k :: r => by rw [subss, subss_map r, List.map_cons, List.flatten_cons]
theorem szs_map : ∀ ks : List Nd, szs ks = ks.map sz
  | [] => by rw [szs, List.map_nil]
  | k :: r => by rw [szs, szs_map r, List.map_cons]
theorem posts_map : ∀ ks : List Nd, posts ks = (ks.map post).flatten
  | [] => by rw [posts, List.map_nil, List.flatten_nil]
  | k :: r => by rw [posts, posts_map r, List.map_cons, List.flatten_cons]
theorem enc_eq (n : Nd) : n.enc = .tuple [.str n.mark, .str n.label, .tuple (n.kids.map enc)] := by
  cases n with | mk m l ks => rw [enc, encs_map]; rfl
theorem subs_eq (n : Nd) : n.subs = n :: (n.kids.map subs).flatten := by
  cases n with | mk m l ks => rw [subs, subss_map]; rfl
theorem sz_eq (n : Nd) : n.sz = szf n.label (n.kids.map sz) := by
  cases n with | mk m l ks => rw [sz, szs_map]; rfl
theorem post_eq (n : Nd) : n.post = (n.kids.map post).flatten ++ [n] := by
  cases n with | mk m l ks => rw [post, posts_map]; rfl
theorem rects_eq (n : Nd) (x y : Int) : n.rects x y = (n, x, y) :: rectss (decide (n.label = sRow)) n.kids x y := by
  cases n with | mk m l ks => rw [rects]; rfl
theorem dep_eq (n : Nd) : n.dep = deps n.kids + 1 := by
  cases n with | mk m l ks => rw [dep]; rfl
theorem deps_mem : ∀ {ks : List Nd} {k : Nd}, k ∈ ks → k.dep ≤ deps ks
  | q :: r, k, h => by
    rw [deps]
    rcases List.mem_cons.mp h with rfl | h
    · exact Nat.le_max_left _ _
    · exact Nat.le_trans (deps_mem h) (Nat.le_max_right _ _)
theorem deps_le : ∀ {ks : List Nd} {n : Nat}, (∀ k ∈ ks, k.dep ≤ n) → deps ks ≤ n
  | [], n, _ => by rw [deps]; exact Nat.zero_le _
  | q :: r, n, h => by
    rw [deps]
    exact Nat.max_le.mpr ⟨h q List.mem_cons_self, deps_le fun k hk => h k (List.mem_cons_of_mem _ hk)⟩
theorem dep_kid {n k : Nd} (h : k ∈ n.kids) : k.dep < n.dep := by
  rw [dep_eq n]
  exact Nat.lt_succ_of_le (deps_mem h)
theorem dep_pos (n : Nd) : 0 < n.dep := by rw [dep_eq]; omega
def marks (n : Nd) : List Str := n.subs.map mark
theorem subs_len_pos (n : Nd) : 0 < n.subs.length := by rw [subs_eq]; exact Nat.succ_pos _
/-- by the depth of trees -/
theorem ind {p : Nd → Prop} (h : ∀ n, (∀ k ∈ n.kids, p k) → p n) : ∀ n, p n := by
  have : ∀ (d : Nat) (n : Nd), n.dep ≤ d → p n := by
    intro d
    induction d with
    | zero => exact fun n hn => absurd n.dep_pos (by omega)
    | succ d ih => exact fun n hn => h n fun k hk => ih k (by have := dep_kid hk; omega)
  exact fun n => this n.dep n (Nat.le_refl _)
theorem perm_flat {α β : Type} {f g : α → List β} : ∀ (ks : List α), (∀ k ∈ ks, (f k).Perm (g k)) → (ks.map f).flatten.Perm (ks.map g).flatten
  | [], _ => by simp
  | k :: r, h => by
    rw [List.map_cons, List.map_cons, List.flatten_cons, List.flatten_cons]
    exact (h k List.mem_cons_self).append (perm_flat r fun x hx => h x (List.mem_cons_of_mem _ hx))
theorem post_perm : ∀ n : Nd, n.post.Perm n.subs := ind fun n ih => by
  rw [post_eq, subs_eq]
  exact (List.perm_append_singleton _ _).trans ((perm_flat n.kids ih).cons n)
theorem post_nodup {n : Nd} (h : n.marks.Nodup) : (n.post.map mark).Nodup := ((post_perm n).map mark).nodup_iff.mpr h
theorem rectss_map : ∀ (row : Bool) (ks : List Nd) (x y : Int), (∀ k ∈ ks, ∀ x y, (k.rects x y).map (·.1) = k.subs) → (rectss row ks x y).map (·.1) = (ks.map subs).flatten
  | row, [], x, y, _ => by rw [rectss]; rfl
  | row, k :: r, x, y, h => by
    rw [rectss, List.map_append, h k List.mem_cons_self, rectss_map row r _ _ fun q hq => h q (List.mem_cons_of_mem _ hq), List.map_cons, List.flatten_cons]
theorem rects_map (n : Nd) : ∀ x y, (n.rects x y).map (·.1) = n.subs := ind (p := fun n => ∀ x y, (n.rects x y).map (·.1) = n.subs) (fun n ih x y => by
  rw [rects_eq, subs_eq, List.map_cons, rectss_map _ _ _ _ ih]) n
/-- moved by dx, dy -/
def mv (dx dy : Int) (p : Nd × Int × Int) : Nd × Int × Int := (p.1, p.2.1 + dx, p.2.2 + dy)
theorem rectss_mv (row : Bool) (dx dy : Int) : ∀ (ks : List Nd) (x y : Int), (∀ k ∈ ks, ∀ x y, k.rects (x + dx) (y + dy) = (k.rects x y).map (mv dx dy)) → rectss row ks (x + dx) (y + dy) = (rectss row ks x y).map (mv dx dy)
  | [], x, y, _ => by rw [rectss, rectss]; rfl
  | k :: r, x, y, h => by
    rw [rectss, rectss, List.map_append, h k List.mem_cons_self]
    congr 1
    have e := rectss_mv row dx dy r (if row = true then x + k.sz.1 else x) (if row = true then y else y + k.sz.2) fun q hq => h q (List.mem_cons_of_mem _ hq)
    rw [← e]
    cases row
    · simp only [Bool.false_eq_true, if_false]
      rw [show y + dy + k.sz.2 = y + k.sz.2 + dy by omega]
    · simp only [if_true]
      rw [show x + dx + k.sz.1 = x + k.sz.1 + dx by omega]
theorem rects_mv (dx dy : Int) (n : Nd) : ∀ x y, n.rects (x + dx) (y + dy) = (n.rects x y).map (mv dx dy) := ind (p := fun n => ∀ x y, n.rects (x + dx) (y + dy) = (n.rects x y).map (mv dx dy)) (fun n ih x y => by
  rw [rects_eq, rects_eq, List.map_cons, rectss_mv _ dx dy _ _ _ ih]
  rfl) n
theorem rectss_app (row : Bool) : ∀ (a b : List Nd) (x y : Int), rectss row (a ++ b) x y = rectss row a x y ++ rectss row b (if row = true then x + (a.map fun k => k.sz.1).sum else x) (if row = true then y else y + (a.map fun k => k.sz.2).sum)
  | [], b, x, y => by
    rw [List.nil_append]
    cases row <;> simp [rectss]
  | k :: r, b, x, y => by
    rw [List.cons_append, rectss, rectss, rectss_app row r b, List.append_assoc]
    congr 2
    cases row
    · simp only [Bool.false_eq_true, if_false, List.map_cons, List.sum_cons]
      rw [Int.add_assoc]
    · simp only [if_true, List.map_cons, List.sum_cons]
      rw [Int.add_assoc]
end Nd
/-! ### dicts by text -/
def kvS (ps : List (Str × V)) : List (Key × V) := ps.map fun p => (Sum.inr p.1, p.2)
theorem kvS_len (ps : List (Str × V)) : (kvS ps).length = ps.length := List.length_map _
theorem putK_new {ps : List (Str × V)} {m : Str} {v : V} (h : m ∉ ps.map (·.1)) : putK (kvS ps) (.inr m) v = kvS (ps ++ [(m, v)]) := by
  unfold putK
  rw [if_neg]
  · unfold kvS
    rw [List.map_append]
    rfl
  · intro z
    rw [List.any_eq_true] at z
    obtain ⟨p, hp, e⟩ := z
    obtain ⟨q, hq, rfl⟩ := List.mem_map.mp hp
    have e := of_decide_eq_true e
    injection e with e
    exact h (List.mem_map.mpr ⟨q, hq, e⟩)
theorem valS_of : ∀ {ps : List (Str × V)} {m : Str} {v : V} {i : Nat}, (ps.map (·.1)).Nodup → ps[i]? = some (m, v) → valV (kvS ps) (.inr m) = some v
  | [], m, v, i, _, e => by simp at e
  | p :: r, m, v, 0, _, e => by
    cases e
    simp [kvS, valV]
  | p :: r, m, v, i + 1, h, e => by
    rw [List.map_cons, List.nodup_cons] at h
    have hm : m ∈ r.map (·.1) := List.mem_map.mpr ⟨(m, v), List.mem_of_getElem? e, rfl⟩
    have ne : ¬ p.1 = m := fun z => h.1 (by rw [z]; exact hm)
    have ih := valS_of (ps := r) (i := i) h.2 e
    unfold kvS valV at ih ⊢
    rw [List.map_cons, List.find?_cons]
    have ne2 : decide ((Sum.inr p.1 : Key) = .inr m) = false := decide_eq_false fun z => ne (by injection z)
    rw [ne2]
    exact ih
theorem valS_none {ps : List (Str × V)} {m : Str} (h : m ∉ ps.map (·.1)) : valV (kvS ps) (.inr m) = none := by
  unfold valV
  rw [List.find?_eq_none.mpr]
  · rfl
  · intro p hp e
    obtain ⟨q, hq, rfl⟩ := List.mem_map.mp hp
    have e := of_decide_eq_true e
    injection e with e
    exact h (List.mem_map.mpr ⟨q, hq, e⟩)
/-! ### texts of plain signs -/
def asc (z : Str) : Prop := ∀ c ∈ z.cps.toList, c < 128
theorem asc_app {a b : Str} (h : asc a) (g : asc b) : asc (a ++ b) := fun c hc => by
  have e : (a ++ b).cps.toList = a.cps.toList ++ b.cps.toList := Array.toList_append
  rw [e] at hc
  exact (List.mem_append.mp hc).elim (h c) (g c)
theorem asc_cut {z : Str} {lo hi : Option Int} (h : asc z) : asc (cutS z lo hi) := fun c hc => by
  unfold cutS at hc
  exact h c (List.mem_of_mem_drop (List.mem_of_mem_take (show c ∈ ((z.cps.toList.drop (HT.sIx z.length 0 lo)).take (HT.sIx z.length z.length hi - HT.sIx z.length 0 lo)) from hc)))
theorem asc_gd {z : Str} (h : asc z) : Gd z.length 0 (.str z) := Gd.str (fun c hc => Nat.lt_of_lt_of_le (h c hc) (by decide)) (Nat.le_refl _)
end D

/-! a property's setter by x.f = v; a def with defaults -/
namespace D
open PySem PySem.Spec PyProof.Rows L2
/-- the class has the name as a property at p whose setter is the def at g -/
structure PropSet (K : PySem.W.Frag) (C : Addr) (f : Str) (p g : Addr) : Prop where
  tk : PySem.W.takerIn K C f = some (some (.ref p))
  ty : PySem.W.typeIn K (.ref p) = some (.type "property")
  rec_ : ∃ a rest, PySem.W.recIn K p "property" = some (a :: .ref g :: rest)
section
variable {X : Cx} {CX : CXT} {k : Nat} {C p g a dx : Addr} {fs : List (Str × V)} {f : Str} {fd : FuncData} {ps : List Str} {sp : Sp} {pos pos' : Pos}
theorem setprop_ok {pins : List (Addr × Obj)} {σ : L2.St} {H : Hp} {s : Shared} {Q : VK} {E : XK} {v : V} {u : Value} {R : Unit → Shared → Prop} (I : Inv X pins σ H s) (ea : H a = some (.ins C dx fs)) (c : Cls X.K C) (hp : PropSet X.K C f p g)
    (F : FnOk X.prog X.w X.K X.mg X.base CX k g fd ps sp) (hr : Room (k + 2) X.A) (hb : Binds X.K fd ps []) (hx : PassesAt CX X σ E) (rv : RelV v u) (h : sp [.ref a, v] H Q E)
    (hR : ∀ v' H' s', Inv X pins σ H' s' → Q v' H' → R () s') :
    wpAny (model X.prog X.w) X.A (setAttr (.ref a) f u) R X.xe s := by
  obtain ⟨mA, O, _⟩ := ins_get I.hok ea
  obtain ⟨od, J, _⟩ := O.look
  obtain ⟨m, hF⟩ := I.fr
  obtain ⟨q, rest, hrec⟩ := hp.rec_
  have I1 := I.tok (s.toks + 1)
  have size : ([Value.ref a, u] ++ []).length = ps.length := by rw [List.append_nil, ← F.len _ _ _ _ h]; rfl
  have bd := hb { s with toks := s.toks + 1 } [.ref a, u] I1.kIn size
  rw [List.append_nil] at bd
  refine PySem.W.set_prop hF I.ok.mod.kin J c.sa c.po hp.tk hp.ty hrec (codeAny_mono (F.run X.A.in1.in1 X.stack { s with toks := s.toks + 1 } H ⟨[.ref a, u], []⟩ [.ref a, u] [.ref a, v] Q E (room_in1 (room_in1 hr)) I1.env0.in1.in1 bd (.cons rfl (.cons rv .nil)) h) fun r s' told => ?_)
  match r, told with
  | .error e, told => exact hx pins H _ e s' I1 told
  | .ok (.ret w), told =>
    obtain ⟨v', H', I3, _, q3⟩ := I1.after told
    exact hR v' H' s' I3 q3
  | .ok .next, told => exact False.elim told
  | .ok .brk, told => exact False.elim told
  | .ok .cont, told => exact False.elim told
def sPropS (C : Addr) (sp : Sp) (E : L2.St → XK) (ta tv : TE) : TS := fun D σ H => tv σ H fun y H1 => ta σ H1 fun x H2 => ∃ a dx fs, x = .ref a ∧ H2 a = some (.ins C dx fs) ∧ sp [x, y] H2 (fun _ H3 => D.nx σ H3) (E σ)
/-- x.f = v, f a property, its setter may raise -/
theorem ps_propS {o value : Expr} {ta tv : TE} {E : L2.St → XK} (ha : PE X o ta) (hv : PE X value tv) (c : Cls X.K C) (hp : PropSet X.K C f p g) (F : FnOk X.prog X.w X.K X.mg X.base CX k g fd ps sp) (hr : Room (k + 2) X.A) (hb : Binds X.K fd ps [])
    (hx : ∀ σ, PassesAt CX X σ (E σ)) (hs : swapsWith value (some (.Attribute o f pos')) pos.line X.env = pure false) : PS X (.Assign [.Attribute o f pos'] value pos) (sPropS C sp E ta tv) := by
  refine ⟨fun pins s σ H D I h => ?_⟩
  refine plainObj_wpAny_Assign_Attribute (thn (hv.run pins s σ H _ I h) fun u s1 ⟨y, H1, I1, ry, q⟩ => thn (ha.run pins s1 σ H1 _ I1 q) fun ov s2 ⟨x, H2, I2, rx, a, dx, fs, ex, ea, q2⟩ => ?_) hs
  subst ex
  obtain rfl : ov = Value.ref a := rx
  exact setprop_ok I2 ea c hp F hr hb (hx σ) ry q2 fun v' H' s' I3 q3 => ⟨σ, H', I3, q3⟩
/-- .. that lets nothing out -/
theorem ps_prop {o value : Expr} {ta tv : TE} (ha : PE X o ta) (hv : PE X value tv) (c : Cls X.K C) (hp : PropSet X.K C f p g) (F : FnOk X.prog X.w X.K X.mg X.base CX0 k g fd ps sp) (hr : Room (k + 2) X.A) (hb : Binds X.K fd ps [])
    (hs : swapsWith value (some (.Attribute o f pos')) pos.line X.env = pure false) : PS X (.Assign [.Attribute o f pos'] value pos) (sPropS C sp (fun _ => E0) ta tv) :=
  ps_propS ha hv c hp F hr hb (fun _ _ _ _ _ _ _ h => h.elim) hs
end
/-! ### a def with defaults -/
section
variable {P : Program} {w : World} {K : PySem.W.Frag} {mg : Str → Option Value} {base : Heap} {x qual : Str} {params : Arguments} {body : List Stmt} {scope : Scope} {dvs : List V} {kws : List (Str × V)} {f : Addr} {fd : FuncData}
/-- for a def that lets nothing out -/
theorem _root_.L2.FunD.ok0 {N ps : List Str} {k : Nat} {sp : Sp} (F : L2.FunD K x qual params body scope dvs kws f fd) (S : FnScope N ps scope) (len : ∀ vs H Q E, sp vs H Q E → vs.length = ps.length)
    (hbody : ∀ (cdv : Value) (A : Around) (outer : List Env) (s : Shared) (H : Hp) (vs : List V) (Q : VK) (E : XK), Room k (A.deeper (envOfC qual scope s.heap.objs.size f cdv)) → sp vs H Q E →
      ∃ t, PSs (cxOf CX0 P w K mg base N qual scope f cdv A outer s H E).nox body t ∧ t { nx := fun _ H' => Q .non H', rt := Q } (start N vs) H) : FnOk P w K mg base CX0 (k + 1) f fd ps sp := by
  obtain ⟨oc, od, dV, kV, doc, pm, an, cdv, ct, osl, rfl, lk, hcd, _, _⟩ := F.ex
  refine fn_of lk hcd S len fun A outer s H vs Q E hr hsp => ?_
  obtain ⟨t, h, q⟩ := hbody cdv A outer s H vs Q E hr hsp
  exact ⟨t, h.nox, q⟩
theorem funD_mk {st : Stmt} {T : Addr} {oc : Value} {od an : Option Addr} {osl : Array (Option Value)} {kV doc pm cdv ct : Value} {arr : Array Value} {n : Nat} (hd : dvs ≠ [])
    (l : K.lookup f = some ⟨oc, od, .func (PySem.W.fnOf x qual (defArgs st) (defBody st) (defScope st) (.ref T) kV doc pm an cdv ct), osl⟩)
    (c : PySem.W.codeIn K cdv qual = true) (k : PySem.W.keepIn K (.ref f) = true) (lt : K.lookup T = some ⟨.type "tuple", none, .seq arr n, #[]⟩) (v : Vals dvs arr.toList) :
    L2.FunD K x qual (defArgs st) (defBody st) (defScope st) dvs [] f (PySem.W.fnOf x qual (defArgs st) (defBody st) (defScope st) (.ref T) kV doc pm an cdv ct) :=
  ⟨⟨oc, od, _, kV, doc, pm, an, cdv, ct, osl, rfl, l, c, .inr ⟨hd, T, _, arr.toList, n, rfl, lt, rfl, v⟩, .inl rfl⟩, k⟩
theorem binds_all {ps : List Str} (F : L2.FunD K x qual params body scope dvs [] f fd) (hd : dvs ≠ [])
    (h : ∀ (T : Addr) (kV doc pm : Value) (an : Option Addr) (cdv ct : Value) (us its : List Value), us.length = ps.length → its.length = dvs.length →
      ∃ k, bindArgs (PySem.W.fnOf x qual params body scope (.ref T) kV doc pm an cdv ct) ⟨us, []⟩ = seqItems? (.ref T) >>= k ∧ k (some its.toArray) = pure (ps.zip us)) : Binds K fd ps [] := by
  obtain ⟨ds, v, b⟩ := F.binds1 (ps := ps) ps.length dvs.length hd (by omega) fun T kV doc pm an cdv ct us its l1 l2 => by
    obtain ⟨k, e1, e2⟩ := h T kV doc pm an cdv ct us its l1 l2
    refine ⟨k, e1, ?_⟩
    rw [e2, List.drop_eq_nil_of_le (by omega), List.append_nil]
  rw [List.drop_eq_nil_of_le (Nat.le_refl _)] at v
  cases v
  exact b
end
section
variable {X : Cx} {K : PySem.W.Frag}
theorem pg_lstK {es : List Expr} {k n : Nat} {t : TGs} {pos : Pos} (hK : X.K = K) (hc : X.calm = true) (h : PGs X es t)
    (hn : (assignEach es X.env).length = n := by rfl) (hst : (assignEach es X.env).findIdx? (·.1) = none := by rfl) : PG X (.Tuple es k pos) (gLst K n t) := by subst hK; exact pg_lst hc h hn hst
def rTIdxS (K : PySem.W.Frag) : V → List V → Hp → VK → Prop := fun x xs H Q => ∃ p, ∃ ys : List Str, ∃ z j, x = .ref p ∧ xs = [.str z] ∧ SqT K H p (ys.map V.str) ∧ ys[j]? = some z ∧ (∀ m, m < j → ys[m]? ≠ some z) ∧ Q (.int (j : Nat)) H
theorem mt_tup_indexS (hK : X.K = K) : MtR X "tuple.index" (rTIdxS K) := by subst hK; exact mt_tup_index
end
end D

/-! x != y by an own __eq__; a call of a class by a keyword; a tuple read from behind -/
namespace D
open PySem PySem.Spec PyProof.Rows L2
section
open PySem.W
variable {prog : Program} {w : World} {A : Around} {E : Value → Shared → Prop} {s : Shared} {K : PySem.W.Frag} {x C L f : Addr} {h₀ : Heap} {m : Str → Option Value} {ox : Obj} {od : Option Obj} {b tb : Value} {name : Str}
theorem ifBound_B {M : Model} {args : List Value} {Q : Option Value → Shared → Prop} {id : String} (X : K.In s.heap) (I : InstAt s.heap x ox C od) (hs : findIn K (.ref C) name = some (some (.builtin id))) (hb : ∀ self, bindSpecial (.builtin id) self = pure (.builtin id, [self]))
    (h : wpAny M A (call (.builtin id) (.ref x :: args)) (fun v => Q (some v)) E s) : wpAny M A (callSpecialIfBound? (.ref x) name args) Q E s := by
  simp only [callSpecialIfBound?, bindSpecialIfBound?]
  refine wpAny_holding (wpAny_bind (wpAny_bind (wpAny_bind (I.type.here ((looks_findIn X hs).here ?_)))))
  refine wpAny_bind (wpAny_askSetting (wpAny_ite ?_))
  have fin : wpAny M A (call (.builtin id) ([.ref x] ++ args) >>= fun v => pure (some v)) Q E s := wpAny_bind (wpAny_mono h (fun v s' h' => wpAny_pure h') fun _ _ h' => h')
  split
  · exact wpAny_bind ((Looks.of_pure (hb _)).here (wpAny_pure (by exact fin)))
  · exact wpAny_tryCatch (wpAny_bind ((Looks.of_pure (hb _)).here (wpAny_pure (by exact fin))))
/-- x != y where the class of x has an own __eq__ and object's __ne__ -/
theorem ne_K {Q : Value → Shared → Prop} (hu : A.units + 1 < cLine) (F : Fr h₀ L s.heap m) (X₀ : K.In h₀) (I : InstAt s.heap x ox C od) (hb : Looks (model prog w) s.heap (typeOf b) tb) (hn : notFirst K C tb = true)
    (hs : findIn K (.ref C) "__ne__" = some (some (.builtin "object.__ne__"))) (he : findIn K (.ref C) "__eq__" = some (some (.ref f))) (hf : isFn K (.ref f) = true) (ho : mroIn K C (.type "object") = some true)
    (h : wpAny (model prog w) A.in1 (call (.ref f) [.ref x, b]) (fun v s' => ∃ c, v = .bool c ∧ Q (.bool (!c)) s') E s) : wpAny (model prog w) A (richCompare .NotEq (.ref x) b) Q E s := by
  have X := X₀.keeps F.keep
  have sub : Looks (model prog w) s.heap (isInstance (.ref x) (.type "object")) true := I.type.andThen (looks_mroIn X ho)
  have one : wpAny (model prog w) A (tryCompare (.ref x) "__ne__" b) (fun r s' => ∃ v, r = some v ∧ Q v s') E s := by
    unfold tryCompare
    refine wpAny_bind (ifBound_B X I hs PySem.F.cmp_object.ne.bind ?_)
    refine wpAny_call (codeAny_call_builtin PySem.F.cmp_object.ne.plain PySem.F.cmpEntry_ne (@check_slot (model prog w) _ _ s "object.__ne__" "object" "__ne__" (.ref x) [b] [] _ PySem.F.cmpKind_ne PySem.F.cmpSplit_ne sub (PySem.F.cmpArgs_ne _ _) ?_))
    unfold Builtin.«object.__ne__»
    repeat (first
      | with_reducible refine wpAny_cRoomFor (show A.in1.units < cLine from hu) ?_
      | (refine wpAny_bind (m := callSpecialIfBound? (.ref x) (Str.ofString "__eq__") [b])
          (ifBound_K X I he hf (wpAny_mono h (fun r s' hr => by
            obtain ⟨c, rfl, hq⟩ := hr
            repeat (first | exact hq | exact ⟨_, rfl, hq⟩ | exact wpAny_pure hq | exact wpAny_truthy_bool hq | (refine wpAny_bind (m := truthy (.bool _)) (wpAny_truthy_bool ?_)) | wp_step)) fun _ _ e => e)))
      | wp_step)
  unfold richCompare
  simp only [oneThing_ref]
  refine wpAny_holding (wpAny_bind (wpAny_cRoomFor (Nat.lt_of_succ_lt hu) ?_))
  refine wpAny_bind (I.type.here (wpAny_bind (hb.here ?_)))
  split
  · rename_i q
    have e : subIn K tb (.ref C) = some false := by
      rcases Bool.or_eq_true_iff.mp hn with e | e
      · rw [beq_iff_eq.mp e] at q; simp at q
      · exact beq_iff_eq.mp e
    refine wpAny_bind ((looks_subIn X e).here ?_)
    simp only [Bool.false_eq_true, if_false]
    refine wpAny_bind (wpAny_mono one (fun r s' z => ?_) fun _ _ e => e)
    obtain ⟨v, rfl, hq⟩ := z
    exact wpAny_pure hq
  · refine wpAny_bind (wpAny_pure ?_)
    simp only [Bool.false_eq_true, if_false]
    refine wpAny_bind (wpAny_mono one (fun r s' z => ?_) fun _ _ e => e)
    obtain ⟨v, rfl, hq⟩ := z
    exact wpAny_pure hq
end
/-- x != y, two instances of one class with its own __eq__ -/
def rNeOwn (C : Addr) (sp : Sp) (E : XK) : R2 := fun x y H Q => ∃ a dx fs b dy gs, x = .ref a ∧ y = .ref b ∧ H a = some (.ins C dx fs) ∧ H b = some (.ins C dy gs) ∧ sp [x, y] H (fun v H' => ∃ c, v = .bl c ∧ Q (.bl (!c)) H') E
section
variable {X : Cx} {C g : Addr} {n : Nat} {CX : CXT} {sp : Sp} {E : XK} {fd : FuncData} {ps : List Str}
theorem op_neOwn (hs : PySem.W.findIn X.K (.ref C) "__ne__" = some (some (.builtin "object.__ne__"))) (he : PySem.W.findIn X.K (.ref C) "__eq__" = some (some (.ref g))) (hf : PySem.W.isFn X.K (.ref g) = true) (hn : PySem.W.notFirst X.K C (.ref C) = true)
    (ho : PySem.W.mroIn X.K C (.type "object") = some true) (F : FnOk X.prog X.w X.K X.mg X.base CX n g fd ps sp) (hb : Binds X.K fd ps []) (hr : Room (n + 1) X.A) (hx : Passes CX X E) : OpR X (compareOp .NotEq) (rNeOwn C sp E) := by
  intro pins s σ H x y v u Q I rx ry h
  obtain ⟨a, dx, fs, b, dy, gs, rfl, rfl, ha, hb2, q⟩ := h
  cases (show v = Value.ref a from rx)
  cases (show u = Value.ref b from ry)
  obtain ⟨mA, O, _⟩ := ins_get I.hok ha
  obtain ⟨od, J, _⟩ := O.look
  obtain ⟨mA', O', _⟩ := ins_get I.hok hb2
  obtain ⟨od', J', _⟩ := O'.look
  obtain ⟨m, hF⟩ := I.fr
  show wpAny _ _ (richCompare .NotEq (.ref a) (.ref b)) _ _ _
  refine ne_K (tb := .ref C) (hu_of hr) hF I.ok.mod.kin J J'.type hn hs he hf ho ?_
  refine wpAny_mono (run_in1 (us := [.ref a, .ref b]) (vs := [.ref a, .ref b]) F hr hb hx I (.cons rfl (.cons rfl .nil)) q) (fun w s' z => ?_) fun _ _ x => x
  obtain ⟨z', H', I', rz, c, ez, qz⟩ := z
  subst ez
  exact ⟨c, rz, .bl (!c), H', I', rfl, qz⟩
end
/-! ### a class with a default, called by keyword -/
theorem binds_kw {K : PySem.W.Frag} {x qual : Str} {params : Arguments} {body : List Stmt} {scope : Scope} {dvs : List V} {f : Addr} {fd : FuncData} {ps ks : List Str} {n : Nat} (F : L2.FunD K x qual params body scope dvs [] f fd) (hd : dvs ≠ [])
    (h : ∀ (T : Addr) (kV doc pm : Value) (an : Option Addr) (cdv ct : Value) (us its ws : List Value), us.length = n → its.length = dvs.length → ws.length = ks.length →
      ∃ k, bindArgs (PySem.W.fnOf x qual params body scope (.ref T) kV doc pm an cdv ct) ⟨us, ks.zip ws⟩ = seqItems? (.ref T) >>= k ∧ k (some its.toArray) = pure (ps.zip (us ++ ws))) : KBn K fd ps n ks (fun us ws => us ++ ws) (fun vs zs => vs ++ zs) := by
  obtain ⟨its, b⟩ := F.kbindsD n ks (fun us _ ws => us ++ ws) hd (fun a _ c => a.append c) h
  exact b
/-! ### t[::-1] of a tuple -/
section
open HT
variable {prog : Program} {w : World} {A : Around} {E : Value → Shared → Prop} {s : Shared}
theorem sliceApplied_rev {sl : Addr} {vs : Value} {n : Nat} {Q : Int × Int × Nat → Shared → Prop} (hs : s.heap.IsSliceOf sl .none .none vs) (ps : IsPart vs (some (-1)))
    (h : Q ((n : Int) - 1, -1, n) s) : wpAny (model prog w) A (Builtin.Slice.sliceApplied (.ref sl) (pure (n : Int))) Q E s := by
  obtain ⟨os, hos, hcs, hds⟩ := id hs
  unfold Builtin.Slice.sliceApplied Builtin.Slice.sliceFields
  refine wpAny_bind (wpAny_bind (wpAny_field hos hds (x := .none) rfl (wpAny_bind (wpAny_field hos hds (x := .none) rfl (wpAny_bind (wpAny_field hos hds (x := vs) rfl (wpAny_pure ?_)))))))
  refine wpAny_bind (slicePart_ ps ?_)
  show wpAny _ _ (if ((-1 : Int) == 0) = true then _ else _) _ _ s
  rw [if_neg (by decide)]
  refine wpAny_bind (slicePart_none (wpAny_bind (slicePart_none (wpAny_bind (wpAny_pure ?_)))))
  show wpAny _ _ (match Builtin.Slice.sliceAdjust none none (-1) (n : Int) with | (lo, hi) => pure (lo, (-1 : Int), Builtin.Slice.slicePlaces lo hi (-1))) _ _ s
  have e1 : Builtin.Slice.sliceAdjust none none (-1) (n : Int) = ((n : Int) - 1, -1) := by
    simp [Builtin.Slice.sliceAdjust]
  have e2 : Builtin.Slice.slicePlaces ((n : Int) - 1) (-1) (-1) = n := by
    unfold Builtin.Slice.slicePlaces
    simp
    omega
  rw [e1]
  show wpAny _ _ (pure ((n : Int) - 1, (-1 : Int), Builtin.Slice.slicePlaces ((n : Int) - 1) (-1) (-1))) _ _ s
  rw [e2]
  exact wpAny_pure h
theorem filterMap_same {α β : Type} {f g : α → Option β} : ∀ {l : List α}, (∀ k ∈ l, f k = g k) → l.filterMap f = l.filterMap g
  | [], _ => rfl
  | a :: r, h => by
    rw [List.filterMap_cons, List.filterMap_cons, h a List.mem_cons_self, filterMap_same fun k hk => h k (List.mem_cons_of_mem _ hk)]
theorem pick_rev (xs : Array Value) : ((List.range xs.size).filterMap fun (k : Nat) => xs[(((xs.size : Int) - 1) + (k : Int) * (-1)).toNat]?).toArray = xs.toList.reverse.toArray := by
  congr 1
  have e : ∀ k ∈ List.range xs.size, xs[(((xs.size : Int) - 1) + (k : Int) * (-1)).toNat]? = xs[xs.size - 1 - k]? := fun k hk => by
    have := List.mem_range.mp hk
    congr 1
    omega
  rw [filterMap_same e]
  have e2 : (List.range xs.size).filterMap (fun k => xs[xs.size - 1 - k]?) = ((List.range xs.size).map fun k => xs.size - 1 - k).filterMap (xs[·]?) := by
    rw [List.filterMap_map]
    rfl
  rw [e2, PySem.W.krv_range, List.filterMap_reverse, PySem.W.krv_all]
theorem getItem_tuple_rev {t sl : Addr} {items : Array Value} {vs : Value} {Q : Value → Shared → Prop} (ht : IsTup s.heap t items) (hs : s.heap.IsSliceOf sl .none .none vs) (ps : IsPart vs (some (-1)))
    (h : Q (.ref s.heap.objs.size) { s with heap := s.heap.push { cls := .type "tuple", data := .seq items.toList.reverse.toArray } })
    (hsz : items.size ≤ sizeLine) : wpAny (model prog w) A (getItem (.ref t) (.ref sl)) Q E s := by
  have htake : sizeOk (.seq items.toList.reverse.toArray) := by
    show items.toList.reverse.toArray.size ≤ sizeLine
    rw [List.size_toArray, List.length_reverse, Array.length_toList]
    exact hsz
  obtain ⟨os, hos, hcs, hds⟩ := id hs
  have hTs : s.TypeIs (.ref sl) "slice" := ⟨os, hos, hcs⟩
  unfold getItem
  try with_reducible refine wpAny_holding ?_
  first | refine wpAny_bind (wpAny_pure ?_) | skip
  refine wpAny_bind (wpAny_sequenceKey ht.typeIs (by decide) ?_)
  refine wpAny_bind (wpAny_callSpecial?_slot (name := Str.ofString "__getitem__") ht.typeIs PyProof.Rows.slot_tuple_getitem
    (wpAny_call_entry PyProof.Rows.slot_tuple_getitem ht.typeIs entry_tuple_getitem ?_ (args_tuple_getitem _ _)))
  show wpAny _ _ (Builtin.Tuple.tupleItemsOf (.ref t) >>= _) _ _ s
  refine wpAny_bind (tupleItemsOf_ ht ?_)
  refine wpAny_bind (wpAny_typeOf hTs ?_)
  rw [if_pos (by decide)]
  refine wpAny_bind (sliceApplied_rev hs ps ?_)
  have hno : ¬ (((items.size : Int) - 1 == 0 && (-1 : Int) == 1 && items.size == items.size) = true) := by
    intro q
    rw [Bool.and_eq_true, Bool.and_eq_true] at q
    exact absurd (eq_of_beq q.1.2) (by decide)
  show wpAny _ _ (if ((items.size : Int) - 1 == 0 && (-1 : Int) == 1 && items.size == items.size) = true then _ else _) _ _ s
  rw [if_neg hno, pick_rev]
  first
    | exact wpAny_bind (m := Builtin.Tuple.tupleExact _) (wpAny_newObj_type (wpAny_pure ⟨_, rfl, wpAny_pure h⟩) htake)
    | exact wpAny_bind (m := Builtin.Tuple.tupleExact _) (wpAny_newObj_type (wpAny_bind (wpAny_pure (wpAny_pure ⟨_, rfl, wpAny_pure h⟩))) htake)
    | exact wpAny_bind (wpAny_bind (m := Builtin.Tuple.tupleExact _) (wpAny_newObj_type (wpAny_pure (wpAny_pure ⟨_, rfl, wpAny_pure h⟩)) htake))
    | exact wpAny_bind (wpAny_bind (m := Builtin.Tuple.tupleExact _) (wpAny_newObj_type (wpAny_pure ⟨_, rfl, wpAny_pure h⟩) htake))
end
def tRevT (K : PySem.W.Frag) (te : TE) : TE := fun σ H Q => te σ H fun x H1 => ∃ a xs, x = .ref a ∧ SqT K H1 a xs ∧ ∀ p, H1 p = none → Q (.ref p) (upd H1 p (.tup xs.reverse))
section
variable {X : Cx} {K : PySem.W.Frag}
theorem pe_revT (hK : X.K = K) {e : Expr} {te : TE} {k : Nat} {p1 p2 p3 pos : Pos} (he : PE X e te) : PE X (.Subscript e (.Slice none none (some (.UnaryOp .USub (.Constant (.int 1) k p1) p2)) p3) pos) (tRevT K te) := by
  subst hK
  refine ⟨fun pins s σ H Q I h => ?_⟩
  refine Subscript_ (thn (he.run pins s σ H _ I h) fun v s1 ⟨x, H1, I1, r1, q1⟩ => ?_)
  obtain ⟨a, xs, ex, hx, q⟩ := q1
  subst ex
  cases r1
  have hst : PO X (some (.UnaryOp .USub (.Constant (.int 1) k p1) p2)) (tPart (tUn (rU fun i => .int (-i)) (tC (.int 1)))) := po_some (pe_un un_neg pe_int)
  refine wpAny_Slice (thn (po_none.run pins s1 σ H1 (fun o H2 => o = none ∧ H2 = H1) I1 ⟨rfl, rfl⟩) fun vl s2 ⟨l, H2, I2, pl, el, e2⟩ => ?_)
  subst el e2
  refine thn (po_none.run pins s2 σ H2 (fun o H3 => o = none ∧ H3 = H2) I2 ⟨rfl, rfl⟩) fun vu s3 ⟨u, H3, I3, pu, eu, e3⟩ => ?_
  subst eu e3
  refine thn (hst.run pins s3 σ H3 (fun o H4 => o = some (-1) ∧ H4 = H3) I3 ⟨1, rfl, -1, rfl, rfl, rfl⟩) fun vs s4 ⟨o, H4, I4, ps, eo, e4⟩ => ?_
  subst eo e4
  cases pl
  cases pu
  have I5 : Inv X pins σ H4 { s4 with heap := s4.heap.push { cls := .type "slice", data := .fields #[.none, .none, vs] } } := I4.kept (t' := s4.toks) fun b ob q => Heap.get?_push_of_some _ q
  obtain ⟨its, r, ht, hz⟩ := I5.tuple hx
  have hlen := r.length
  show wpAny (model X.prog X.w) X.A (subscriptTail e (.Slice none none (some (.UnaryOp .USub (.Constant (.int 1) k p1) p2)) p3) (.ref a) (.ref s4.heap.objs.size)) (EP X pins σ Q) X.xe { s4 with heap := s4.heap.push { cls := .type "slice", data := .fields #[.none, .none, vs] } }
  refine tail_any (ops := [.ref a, .ref s4.heap.objs.size]) ht.typeIs PyProof.Rows.slot_tuple_getitem.lookup ?_ (by with_unfolding_all rfl)
  refine getItem_tuple_rev ht (Heap.IsSliceOf.new _ .none .none vs) ps ?_ (by rw [List.size_toArray]; omega)
  refine ⟨.ref _, _, I5.laid (t' := s4.toks) (o := .tup xs.reverse) (fun b ob q => Heap.get?_push_of_some _ q) (Nat.le_refl _) ?_, rfl, q _ (I5.hok.fresh (Nat.le_refl _))⟩
  refine ⟨by rw [List.length_reverse]; exact hz, _, r.reverse, ?_⟩
  have := IsTup.new { s4 with heap := s4.heap.push { cls := .type "slice", data := .fields #[.none, .none, vs] } }.heap its.toArray.toList.reverse.toArray
  simpa using this
end
end D

/-! objects of one of several classes: made without __init__, a method called, <= with the reflected side asked first -/
namespace D
open PySem PySem.Spec PyProof.Rows L2
/-- C() where there is no __init__ but object's -/
structure Mk0 (K : PySem.W.Frag) (C : Addr) : Prop where
  makes : PySem.W.makesIn K C = true
  init : PySem.W.findIn K (.ref C) "__init__" = some (some (.builtin "object.__init__"))
  kp : PySem.W.keepIn K (.ref C) = true
  top : PySem.W.mroIn K C (.type "object") = some true
def tMk0 (C : Addr) : TE := fun _ H Q => ∀ x dx, H x = none → H dx = none → dx ≠ x → Q (.ref x) (upd (upd H dx (.own x)) x (.ins C dx []))
section
variable {X : Cx} {C : Addr} {x : Str} {p pos : Pos}
theorem run_make0 {pins : List (Addr × Obj)} {σ : L2.St} {H : Hp} {s : Shared} {Q : VK} (M : Mk0 X.K C) (I : Inv X pins σ H s)
    (h : ∀ x dx, H x = none → H dx = none → dx ≠ x → Q (.ref x) (upd (upd H dx (.own x)) x (.ins C dx []))) :
    wpAny (model X.prog X.w) X.A (call (.ref C) []) (EP X pins σ Q) X.xe s := by
  have hq := h (s.heap.objs.size + 1) s.heap.objs.size (I.hok.fresh (Nat.le_succ _)) (I.hok.fresh (Nat.le_refl _)) (Nat.ne_of_lt (Nat.lt_succ_self _))
  have I2 := Inv.made (C := C) I
  have e2 : ((s.heap.push PySem.W.emptyDict).push (PySem.W.instObj C s.heap.objs.size)).get? (s.heap.objs.size + 1) = some (PySem.W.instObj C s.heap.objs.size) := by
    have := Heap.get?_push_size (s.heap.push PySem.W.emptyDict) (o := PySem.W.instObj C s.heap.objs.size) rfl
    rwa [Heap.size_push] at this
  have t1 : PySem.W.Looks (model X.prog X.w) ((s.heap.push PySem.W.emptyDict).push (PySem.W.instObj C s.heap.objs.size)) (typeOf (.ref (s.heap.objs.size + 1))) (.ref C) := NwA.type_at e2 rfl
  have t2 : PySem.W.Looks (model X.prog X.w) ((s.heap.push PySem.W.emptyDict).push (PySem.W.instObj C s.heap.objs.size)) (isInstance (.ref (s.heap.objs.size + 1)) (.type "object")) true := t1.andThen (PySem.W.looks_mroIn I2.kIn M.top)
  refine wpAny_call (make_map0 I.kIn M.makes M.init (fun self => PySem.W.Looks.of_pure (PySem.W.oi_bind _)) ?_)
  refine codeAny_call_builtin PySem.W.oi_plain PySem.W.entry_oi (@PySem.W.check_slot (model X.prog X.w) _ _ _ "object.__init__" "object" "__init__" (.ref (s.heap.objs.size + 1)) [] [] _ PySem.W.oi_kind PySem.W.oi_split t2 (NwA.oi_args_any _ [] []) ?_)
  rw [PySem.W.oi_run]
  exact wpAny_pure ⟨rfl, ⟨V.ref (s.heap.objs.size + 1), _, I2, rfl, hq⟩⟩
theorem pe_make00 (M : Mk0 X.K C) (hg : Gl X x) (hm : X.mg x = some (.ref C)) (hdb : (x == ("__debug__" : Str)) = false := by decide) : PE X (.Call (.Name x p) [] [] pos) (tMk0 C) := by
  refine ⟨fun pins s σ H Q I h => ?_⟩
  refine wpAny_Call_Name_kw (ld_glob I hg hm ?_ hdb)
  exact PySem.W.callWith_K0 I.kIn M.kp (run_make0 M I h)
end
/-! ### o.m(e, ..), o of one of several classes -/
def tMethW (W : Type) (cls : W → Addr) (m : Str) (sp : W → Sp) (E : XK) (ta : TE) (t : TA) : TE := fun σ H Q => ta σ H fun x H1 => ∃ (w : W) (a dx : Addr) (fs : List (Str × V)), x = .ref a ∧ H1 a = some (.ins (cls w) dx fs) ∧ fs.lookup m = none ∧
  t σ H1 fun vs H2 => sp w (x :: vs) H2 Q E
/-- the class of each kind has the method -/
def MethW (prog : Program) (w : World) (K : PySem.W.Frag) (mg : Str → Option Value) (base : Heap) (CX : CXT) (k : Nat) (W : Type) (cls : W → Addr) (m : Str) (sp : W → Sp) : Prop :=
  ∀ i, Cls K (cls i) ∧ ∃ f fd ps, Meth K (cls i) m f ∧ FnOk prog w K mg base CX k f fd ps (sp i) ∧ Binds K fd ps []
section
variable {X : Cx} {CX : CXT} {k : Nat} {W : Type} {cls : W → Addr} {m : Str} {sp : W → Sp} {E : XK} {o e : Expr} {es : List Expr} {ta : TE} {t : TA} {apos pos : Pos}
theorem pe_methW {pl : Sem Bool} (he : PE X o ta) (U : MethW X.prog X.w X.K X.mg X.base CX k W cls m sp) (hr : Room k X.A) (hx : Passes CX X E) (ha : PA X (e :: es) t)
    (hst : starEach (e :: es) X.env = (false, eval e X.env) :: starEach es X.env := by rfl) (hpl : (backTo pos (starEach es X.env)).any (·.1) = false := by rfl)
    (ht : eval (.Call (.Attribute o m apos) (e :: es) [] pos) X.env = (do
      let ov ← eval o X.env
      standAt apos.atName
      let (f, first) ← holding [ov] (getMethod ov m pl)
      callWith pos f first (backTo pos (starEach (e :: es) X.env)) (backToKw pos (keywordEach [] X.env))) := by rfl) :
    PE X (.Call (.Attribute o m apos) (e :: es) [] pos) (tMethW W cls m sp E ta t) := by
  refine ⟨fun pins s σ H Q I h => ?_⟩
  refine PySem.W.methodCall_KW (pl := pl) (thn (he.run pins s σ H _ I h) fun u s1 ⟨x, H1, I1, rx, w, a, dx, fs, ex, ea, l, q⟩ => ?_) ht
  subst ex
  obtain rfl : u = Value.ref a := rx
  obtain ⟨c, f, fd, ps, hm, F, hb⟩ := U w
  refine getmeth_ok I1 ea c hm l ?_
  refine PySem.W.callWith_K (first := [.ref a]) (h₀ := X.base) I.ok.mod.kin hm.kp (thn (ha.run pos pins s1 σ H1 _ I1 q) fun us s2 ⟨vs, H2, I2, r, q2⟩ => ⟨I2.kIn, ?_⟩) hst hpl
  exact run_fn (dvs := []) (ds := []) (us := .ref a :: us) (vs := .ref a :: vs) F hr hb .nil hx I2 (.cons rfl r) (by rw [List.append_nil]; exact q2)
end
/-! ### x <= y, both of one of several classes -/
section
open PySem.W
variable {prog : Program} {w : World} {A : Around} {E : Value → Shared → Prop} {s : Shared} {K : PySem.W.Frag} {x y C C' L f : Addr} {h₀ : Heap} {m : Str → Option Value} {ox oy : Obj} {od od' : Option Obj} {r : Bool}
theorem ge_kind : builtinKind "object.__ge__" = some .slot := by decide +kernel
theorem ge_split : splitId "object.__ge__" = some ("object", "__ge__") := by decide +kernel
theorem ge_args (a b : Value) : argsOk "object.__ge__" ⟨[a, b], []⟩ := by unfold argsOk; kernel_rfl
theorem ge_entry : entryFor table "object.__ge__" = some Builtin.«object.__ge__» := entryFor_of_tree (by kernel_rfl)
theorem ge_plain : plainId "object.__ge__" = true := by decide +kernel
theorem ge_bind (self : Value) : bindSpecial (.builtin "object.__ge__") self = pure (.builtin "object.__ge__", [self]) :=
  (Slot.of (T := "object") (name := "__ge__") (owner := "object") (n := "__ge__") (by rw [typeLookup_type, builtinLookup_eq_fast]; kernel_rfl) (by decide +kernel) (by decide +kernel) (by decide +kernel)
    (.inl (by decide +kernel)) (by rw [isSubtype_type]; kernel_rfl)).bind self
theorem ge_run (a b : Value) : Builtin.«object.__ge__» ⟨[a, b], []⟩ = pure (.done (.ret .notImplemented)) := by kernel_rfl
theorem le_K {Q : Value → Shared → Prop} (hu : A.units < cLine) (F : Fr h₀ L s.heap m) (X₀ : K.In h₀) (I : InstAt s.heap x ox C od) (J : InstAt s.heap y oy C' od') (hn : subIn K (.ref C') (.ref C) = some r)
    (hg : findIn K (.ref C') "__ge__" = some (some (.builtin "object.__ge__"))) (ho : mroIn K C' (.type "object") = some true)
    (hs : findIn K (.ref C) "__le__" = some (some (.ref f))) (hf : isFn K (.ref f) = true)
    (h : wpAny (model prog w) A (call (.ref f) [.ref x, .ref y]) (PySem.W.CmpBack Q) E s) : wpAny (model prog w) A (richCompare .LtE (.ref x) (.ref y)) Q E s := by
  have X := X₀.keeps F.keep
  have one : wpAny (model prog w) A (tryCompare (.ref x) "__le__" (.ref y)) (fun r s' => ∃ v, r = some v ∧ Q v s') E s := by
    unfold tryCompare
    refine wpAny_bind (ifBound_K X I hs hf (wpAny_mono h (fun v s' hv => ?_) fun _ _ e => e))
    cases v <;> first | exact hv.elim | exact wpAny_pure ⟨_, rfl, hv⟩
  have sub : Looks (model prog w) s.heap (isInstance (.ref y) (.type "object")) true := J.type.andThen (looks_mroIn X ho)
  have two : ∀ P : Option Value → Shared → Prop, P none s → wpAny (model prog w) A (tryCompare (.ref y) "__ge__" (.ref x)) P E s := fun P hp => by
    unfold tryCompare
    refine wpAny_bind (ifBound_B X J hg ge_bind ?_)
    refine wpAny_call (codeAny_call_builtin ge_plain ge_entry (@check_slot (model prog w) _ _ s "object.__ge__" "object" "__ge__" (.ref y) [.ref x] [] _ ge_kind ge_split sub (ge_args _ _) ?_))
    rw [ge_run]
    exact wpAny_pure (wpAny_pure hp)
  unfold richCompare
  simp only [oneThing_ref]
  refine wpAny_holding (wpAny_bind (wpAny_cRoomFor hu ?_))
  refine wpAny_bind (I.type.here (wpAny_bind (J.type.here ?_)))
  split
  · refine wpAny_bind ((looks_subIn X hn).here ?_)
    cases r with
    | false =>
      simp only [Bool.false_eq_true, if_false]
      refine wpAny_bind (wpAny_mono one (fun r s' z => ?_) fun _ _ e => e)
      obtain ⟨v, rfl, hq⟩ := z
      exact wpAny_pure hq
    | true =>
      simp only [if_true]
      refine wpAny_bind (two _ ?_)
      refine wpAny_bind (wpAny_mono one (fun r s' z => ?_) fun _ _ e => e)
      obtain ⟨v, rfl, hq⟩ := z
      exact wpAny_pure hq
  · refine wpAny_bind (wpAny_pure ?_)
    simp only [Bool.false_eq_true, if_false]
    refine wpAny_bind (wpAny_mono one (fun r s' z => ?_) fun _ _ e => e)
    obtain ⟨v, rfl, hq⟩ := z
    exact wpAny_pure hq
end
/-- what the classes must have for x <= y -/
def LeW (prog : Program) (w : World) (K : PySem.W.Frag) (mg : Str → Option Value) (base : Heap) (CX : CXT) (k : Nat) (W : Type) (cls : W → Addr) (sp : W → Sp) : Prop :=
  (∀ i, PySem.W.findIn K (.ref (cls i)) "__ge__" = some (some (.builtin "object.__ge__")) ∧ PySem.W.mroIn K (cls i) (.type "object") = some true ∧
    ∃ f fd ps, PySem.W.findIn K (.ref (cls i)) "__le__" = some (some (.ref f)) ∧ PySem.W.isFn K (.ref f) = true ∧ FnOk prog w K mg base CX k f fd ps (sp i) ∧ Binds K fd ps []) ∧
  ∀ i j, ∃ r, PySem.W.subIn K (.ref (cls j)) (.ref (cls i)) = some r
def rLeW (W : Type) (cls : W → Addr) (sp : W → Sp) (E : XK) : R2 := fun x y H Q => ∃ (i j : W) (a dx : Addr) (fs : List (Str × V)) (b dy : Addr) (gs : List (Str × V)), x = .ref a ∧ y = .ref b ∧ H a = some (.ins (cls i) dx fs) ∧ H b = some (.ins (cls j) dy gs) ∧
  sp i [x, y] H (fun v H' => ∃ c, v = .bl c ∧ Q (.bl c) H') E
theorem op_leW {X : Cx} {CX : CXT} {k : Nat} {W : Type} {cls : W → Addr} {sp : W → Sp} {E : XK} (U : LeW X.prog X.w X.K X.mg X.base CX k W cls sp) (hr : Room k X.A) (hx : Passes CX X E) : OpR X (compareOp .LtE) (rLeW W cls sp E) := by
  intro pins s σ H x y v u Q I rx ry h
  obtain ⟨i, j, a, dx, fs, b, dy, gs, rfl, rfl, ha, hb2, q⟩ := h
  cases (show v = Value.ref a from rx)
  cases (show u = Value.ref b from ry)
  obtain ⟨mA, O, _⟩ := ins_get I.hok ha
  obtain ⟨od, J, _⟩ := O.look
  obtain ⟨mA', O', _⟩ := ins_get I.hok hb2
  obtain ⟨od', J', _⟩ := O'.look
  obtain ⟨m, hF⟩ := I.fr
  obtain ⟨_, _, f, fd, ps, hl, hf, F, hb⟩ := U.1 i
  obtain ⟨hg, ho, _⟩ := U.1 j
  obtain ⟨r, hs⟩ := U.2 i j
  show wpAny _ _ (richCompare .LtE (.ref a) (.ref b)) _ _ _
  refine le_K hr.units0 hF I.ok.mod.kin J J' hs hg ho hl hf ?_
  refine wpAny_mono (run_fn (dvs := []) (ds := []) (us := [.ref a, .ref b]) (vs := [.ref a, .ref b]) F hr hb .nil hx I (.cons rfl (.cons rfl .nil)) q) (fun w s' z => ?_) fun _ _ x => x
  obtain ⟨z', H', I', rz, c, ez, qz⟩ := z
  subst ez
  cases (show w = Value.bool c from rz)
  exact ⟨.bl c, H', I', rfl, qz⟩
theorem pe_conK {X : Cx} {K : PySem.W.Frag} {e : Expr} {f : Str} {pos : Pos} {ta : TE} (h : X.K = K) (he : PE X e ta) (hb : attributeBase e f X.env (eval e X.env) = eval e X.env) : PE X (.Attribute e f pos) (tCon K ta f) := by subst h; exact pe_con he hb
end D

/-! a static method called through its class -/
namespace D
open PySem PySem.Spec PyProof.Rows L2
structure SMet (K : PySem.W.Frag) (C : Addr) (mc : Value) (m : Str) (p g : Addr) : Prop where
  rd : PySem.W.readsIn K C mc = true
  ga : PySem.W.specialIn K (.ref C) "__getattribute__" = some (some (.builtin "type.__getattribute__"))
  at_ : PySem.W.findCls K (.ref C) mc m = some (.get (.builtin "staticmethod.__get__") (.ref p) .none (.ref C))
  rc : ∃ rest, PySem.W.recIn K p "staticmethod" = some (.ref g :: rest)
  kp : PySem.W.keepIn K (.ref g) = true
def tSMeth (C : Addr) (sp : Sp) (dvs : List V) (E : XK) (ta : TE) (t : TA) : TE := fun σ H Q => ta σ H fun x H1 => x = .ref C ∧ t σ H1 fun vs H2 => sp (vs ++ dvs) H2 Q E
section
variable {X : Cx} {CX : CXT} {k : Nat} {C p f : Addr} {mc : Value} {fd : FuncData} {ps : List Str} {ds : List Value} {dvs : List V} {sp : Sp} {E : XK} {o e : Expr} {es : List Expr} {m : Str} {pos apos : Pos} {ta : TE} {t : TA} {pl : Sem Bool}
theorem pe_smeth (he : PE X o ta) (c : SMet X.K C mc m p f) (F : FnOk X.prog X.w X.K X.mg X.base CX k f fd ps sp) (hr : Room k X.A) (hb : Binds X.K fd ps ds) (hd : Vals dvs ds) (hx : Passes CX X E) (ha : PA X (e :: es) t)
    (hst : starEach (e :: es) X.env = (false, eval e X.env) :: starEach es X.env := by rfl) (hpl : (backTo pos (starEach es X.env)).any (·.1) = false := by rfl)
    (ht : eval (.Call (.Attribute o m apos) (e :: es) [] pos) X.env = (do
      let ov ← eval o X.env
      standAt apos.atName
      let (f, first) ← holding [ov] (getMethod ov m pl)
      callWith pos f first (backTo pos (starEach (e :: es) X.env)) (backToKw pos (keywordEach [] X.env))) := by rfl) :
    PE X (.Call (.Attribute o m apos) (e :: es) [] pos) (tSMeth C sp dvs E ta t) := by
  refine ⟨fun pins s σ H Q I h => ?_⟩
  refine PySem.W.methodCall_KW (pl := pl) (thn (he.run pins s σ H _ I h) fun u s1 ⟨x, H1, I1, rx, ex, q⟩ => ?_) ht
  subst ex
  obtain rfl : u = Value.ref C := rx
  obtain ⟨rest, hp⟩ := c.rc
  refine PySem.W.method_cls I1.kIn c.ga ?_
  refine PySem.W.cls_bind I1.kIn c.rd c.at_ ?_
  refine wpAny_call (PySem.W.sm_get (s := { s1 with toks := s1.toks + 1 }) I1.kIn hp (PySem.W.handed_on rfl ?_))
  have I2 : Inv X pins σ H1 { s1 with toks := s1.toks + 1 } := I1.tok _
  refine PySem.W.callWith_K (h₀ := X.base) I2.ok.mod.kin c.kp (thn (ha.run pos pins _ σ H1 _ I2 q) fun us s3 ⟨vs, H2, I3, r, q2⟩ => ⟨I3.kIn, ?_⟩) hst hpl
  exact run_fn F hr hb hd hx I3 r q2
end
end D

/-! len(set(t)) of a tuple of keys (whole numbers and texts), of any length -/
namespace D
open PySem PySem.Spec PyProof.Rows L2
section
variable {pr : Program} {wo : World} {Ar : Around} {z0 : Shared}
def takeS (ks : List Key) (i : Nat) : Key → Bool := fun j => (ks.take i).any fun k => decide (k = j)
theorem takeS_iff {ks : List Key} {i : Nat} {j : Key} : takeS ks i j = true ↔ j ∈ ks.take i := by
  unfold takeS
  rw [List.any_eq_true]
  exact ⟨fun ⟨x, h1, h2⟩ => by rw [← of_decide_eq_true h2]; exact h1, fun h => ⟨j, h, decide_eq_true rfl⟩⟩
theorem setOf_moved {hp hp' : Heap} {D : Addr} {S : Key → Bool} {n : Nat} (x : hp.SetOf (mixKind pr wo) D S n) (k : ∀ o, hp.get? D = some o → hp'.get? D = some o) : hp'.SetOf (mixKind pr wo) D S n :=
  let ⟨o, es, ep, t, ho, rest⟩ := x
  ⟨o, es, ep, t, k o ho, rest⟩
theorem walk_keys {It : Addr} {feet mine : List Addr} {G : Array GenState → Array GenState → Prop} {n : Nat} {Pv : Nat → Value → Prop} {St : Nat → Shared → Prop} {R : Result → Shared → Prop}
    (W : WalksS pr wo Ar.in1 It feet mine G n Pv St) (D : Addr) (out : D ∉ feet) (ks : List Key) (hn : n = ks.length) (hb : ks.length + 1 < scanBound) (hv : ∀ i v, Pv i v → ∃ k, ks[i]? = some k ∧ RelV (kV k) v) :
    ∀ (left i : Nat) (z : Shared), n - i = left → i ≤ n → St i z → (∃ c, c ≤ i ∧ z.heap.SetOf (mixKind pr wo) D (takeS ks i) c ∧ (c = i ↔ (ks.take i).Nodup)) →
      (∀ z' c, Moved (D :: mine) G z z' → c ≤ n → z'.heap.SetOf (mixKind pr wo) D (takeS ks n) c → (c = n ↔ ks.Nodup) → R (.ok (.ret .none)) z') →
      codeAny (model pr wo) Ar (.builtin "set.update.loop" ⟨[.ref D, .ref It], []⟩) R z := by
  have notMine : D ∉ mine := fun q => out (W.sub _ q)
  have more : ∀ b ∈ mine, b ∈ D :: mine := fun b q => List.mem_cons_of_mem _ q
  intro left
  induction left with
  | zero =>
    intro i z el le st ⟨c, hc, hS, hd⟩ fin
    obtain rfl : i = n := by omega
    refine codeAny_builtin F.entry_set_update_loop ?_
    rw [Around.under_plainId F.plain_set_update_loop _]
    show wpAny _ Ar.in1 (pyNext (.ref It) >>= _) _ _ z
    refine wpAny_bind (W.done z _ _ st fun z' mv => ?_)
    show wpAny _ Ar.in1 (ret Value.none) _ _ z'
    exact wpAny_pure (fin z' c (mv.mono more) hc (setOf_moved hS fun o e => mv.heap D o notMine e) (by rw [hd, List.take_of_length_le (by omega)]))
  | succ left ih =>
    intro i z el le st ⟨c, hc, hS, hd⟩ fin
    have lt : i < n := by omega
    refine codeAny_builtin F.entry_set_update_loop ?_
    rw [Around.under_plainId F.plain_set_update_loop _]
    show wpAny _ Ar.in1 (pyNext (.ref It) >>= _) _ _ z
    refine wpAny_bind (W.item i z _ _ lt st fun v z' pv st' mv => ?_)
    obtain ⟨key, hk, rv⟩ := hv i v pv
    have hS1 := setOf_moved (hp' := z'.heap) hS fun o e => mv.heap D o notMine e
    show wpAny _ Ar.in1 (holding [v] (setAdd D v) >>= _) _ _ z'
    refine wpAny_bind (wpAny_holding ?_)
    unfold setAdd
    refine wpAny_holding ?_
    refine wpAny_bind ((mixKind pr wo).pyHash (k := key) (kV_is rv) ?_)
    refine wpAny_setAddHashed_of (knd := mixKind pr wo) (s := { z' with toks := z'.toks + 1 }) (kV_is rv) (key_scan rv) hS1 (by omega) fun h' same new => ?_
    have cong : ∀ j, (takeS ks i j || decide (j = key)) = takeS ks (i + 1) j := fun j => by
      rw [Bool.eq_iff_iff, Bool.or_eq_true, takeS_iff, takeS_iff, List.take_add_one, hk, decide_eq_true_iff, Option.toList_some, List.mem_append, List.mem_singleton]
    have new2 : h'.SetOf (mixKind pr wo) D (takeS ks (i + 1)) (if takeS ks i key = true then c else c + 1) := by
      have : (fun j => takeS ks i j || decide (j = key)) = takeS ks (i + 1) := funext cong
      rw [← this]
      exact new
    have le2 : (if takeS ks i key = true then c else c + 1) ≤ i + 1 := by split <;> omega
    have nd2 : (if takeS ks i key = true then c else c + 1) = i + 1 ↔ (ks.take (i + 1)).Nodup := by
      rw [List.take_add_one, hk, Option.toList_some, List.nodup_append]
      by_cases m : key ∈ ks.take i
      · rw [if_pos (takeS_iff.mpr m)]
        refine ⟨fun e => by omega, fun q => absurd rfl (q.2.2 key m key (by simp))⟩
      · rw [if_neg (fun e => m (takeS_iff.mp e))]
        refine ⟨fun e => ⟨hd.mp (by omega), by simp, fun x hx y hy e => m ?_⟩, fun q => by rw [hd.mpr q.1]⟩
        rw [List.mem_singleton.mp hy] at e
        rw [← e]
        exact hx
    have away : ∀ b, b ≠ D → ∀ o, z'.heap.get? b = some o → h'.get? b = some o := fun b ne o e => by rw [same.2 b ne]; exact e
    refine wpAny_pure ⟨plainId_quiet F.plain_set_update_loop _, ih (i + 1) _ (by omega) lt (W.frame _ z' _ _ st' (Nat.le_succ _) fun b q o e => away b (fun y => out (by rw [← y]; exact q)) o e) ⟨_, le2, new2, nd2⟩ fun z2 c2 mv2 l2 s2 d2 => ?_⟩
    exact fin z2 c2 (Moved.trans W.gtrans ((mv.mono more).then_heap (Nat.le_succ _) fun b o q e => away b (fun y => q (by rw [y]; exact List.mem_cons_self)) o e) mv2) l2 s2 d2
abbrev emptyS (led : Bool) : Obj := { cls := .type "set", dict := none, data := .set #[] 0 (.fresh 0 0 led) }
set_option maxHeartbeats 8000000 in
theorem call_set_tupK {l : Addr} {xs : Array Value} (ks : List Key) {Qq : Value → Shared → Prop} {Ee : Value → Shared → Prop} (hh : Ar.handled = none) (hl : z0.heap.IsTuple l xs) (hit : ∀ (i : Nat) (v : Value), xs[i]? = some v → ∃ k, ks[i]? = some k ∧ RelV (kV k) v) (hz : xs.size = ks.length) (hb : ks.length + 1 < scanBound)
    (h : ∀ (h' : Heap) (tk c : Nat), h'.SetOf (mixKind pr wo) z0.heap.objs.size (takeS ks ks.length) c → c ≤ ks.length → (c = ks.length ↔ ks.Nodup) → (∀ b o, z0.heap.get? b = some o → h'.get? b = some o) → Qq (.ref z0.heap.objs.size) { z0 with heap := h', toks := tk }) :
    wpAny (model pr wo) Ar (call (.type "set") [.ref l]) Qq Ee z0 := by
  have ⟨_, _, m1⟩ := F.called_set.mro
  have m2 := F.called_set.made
  have m3 := F.called_set.sub
  refine wpAny_call (codeAny_of_tree (show wpAny _ _ (callAny (.type "set") _) _ _ _ from wpAny_pure ⟨Code.quiet_builtin _ (by decide +kernel), codeAny_builtin F.entry_type_call ?_⟩))
  rw [Around.under_plain (weight_type_call_type "set" [.ref l] []) rfl]
  have m4 := F.called_set.notType
  have m5 := F.called_set.canCreate
  have m6 := F.typeCall_set_1 (.ref l)
  repeat (any_goals (first | assumption | wp_step))
  refine codeAny_mono (code_set_new_1 (.ref l) (E := Ee) (Q₁ := fun ob z1 => ∃ led : Bool, ob = .ref z0.heap.objs.size ∧ z1 = { z0 with heap := z0.heap.push (emptyS led) }) fun led => ⟨led, rfl, rfl⟩) fun r z1 hr => ?_
  cases r with
  | error e => exact hr
  | ok fl =>
  cases fl with
  | next => exact hr.elim
  | brk => exact hr.elim
  | cont => exact hr.elim
  | ret ob =>
    obtain ⟨led, rfl, rfl⟩ := hr
    have here : (z0.heap.push (emptyS led)).get? z0.heap.objs.size = some (emptyS led) := Heap.get?_push_size _ rfl
    have isS : Shared.TypeIs { z0 with heap := z0.heap.push (emptyS led) } (.ref z0.heap.objs.size) "set" := ⟨_, here, rfl⟩
    have m7 := F.called_set.init.lookup
    have m8 := F.called_set.init.bind (.ref z0.heap.objs.size)
    repeat (any_goals (first | assumption | wp_step))
    refine codeAny_mono (codeAny_call_builtin (R := wants (fun r z2 => r = .none ∧ ∃ h' tk c, z2 = { z0 with heap := h', toks := tk } ∧ h'.SetOf (mixKind pr wo) z0.heap.objs.size (takeS ks ks.length) c ∧ c ≤ ks.length ∧ (c = ks.length ↔ ks.Nodup) ∧
        (∀ b o, z0.heap.get? b = some o → h'.get? b = some o)) Ee) F.called_set.init.plain F.entry_set_init (check_set_init_1 isS ?_)) fun r2 z2 hr2 => ?_
    · obtain ⟨⟨c0, d0, dt, sl⟩, hol, hcl, nl, hdl⟩ := hl
      simp only at hcl hdl
      subst hcl hdl
      have hol2 : (z0.heap.push (emptyS led)).get? l = _ := Heap.get?_push_of_some _ hol
      have n1 := F.sub_tuple_set
      have n2 := F.sub_tuple_frozenset
      have n3 : (Value.type "tuple" == Value.type "dict") = false := by decide
      have tup : (z0.heap.push (emptyS led)).IsTuple l xs := ⟨_, hol2, rfl, nl, rfl⟩
      unfold Builtin.«set.__init__» noKeywords Builtin.Frozenset.updateFrom
      generalize hPI : pyIter = PI
      wp_walk
      subst hPI
      refine wpAny_pyIter_tuple tup (wpAny_bind (wpAny_runValue ?_))
      have low : l < z0.heap.objs.size := Heap.lt_size hol
      have calm3 : Ar.in1.in1.in1.handled = none := by simp [hh]
      have apart : l ≠ (z0.heap.push (emptyS led)).objs.size := by
        rw [Heap.size_push]
        exact Nat.ne_of_lt (Nat.lt_succ_of_lt low)
      have out : z0.heap.objs.size ∉ [(z0.heap.push (emptyS led)).objs.size, l] := by
        rw [Heap.size_push]
        simp only [List.mem_cons, List.mem_singleton, List.not_mem_nil, or_false, not_or]
        exact ⟨Nat.ne_of_lt (Nat.lt_succ_self _), Nat.ne_of_gt low⟩
      refine walk_keys ((Walks.tuple calm3 _ l apart xs).toS) z0.heap.objs.size out ks hz hb hit (xs.size - 0) 0 _ (by omega) (Nat.zero_le _) ⟨⟨_, Heap.get?_push_size _ rfl, rfl, rfl⟩, (tup.push _)⟩ ⟨0, Nat.le_refl 0, ?_, by simp⟩ ?_
      · exact ⟨_, #[], 0, _, Heap.get?_push_of_some _ here, ⟨rfl, rfl, rfl⟩, rfl, (fun e he => by simp at he), (fun k => by simp [takeS]), (by decide), (by rfl), rfl⟩
      · rintro ⟨h', g2, d', tk', os'⟩ c mv lc hS hd
        obtain rfl : g2 = z0.gens := mv.gens
        obtain rfl : d' = z0.drawn := mv.drawn
        obtain rfl : os' = z0.os := mv.os
        show wpAny _ _ _ _ _ _
        refine wpAny_pure ?_
        show wpAny _ _ (ret Value.none) _ _ _
        rw [hz] at lc hS hd
        refine wpAny_pure ⟨rfl, h', tk', c, rfl, hS, lc, hd, fun b o e => ?_⟩
        have b0 : b < z0.heap.objs.size := Heap.lt_size e
        have b2 : b ≠ (z0.heap.push (emptyS led)).objs.size := by
          rw [Heap.size_push]
          exact Nat.ne_of_lt (Nat.lt_succ_of_lt b0)
        exact mv.heap b o (by simp only [List.mem_cons, List.mem_singleton, List.not_mem_nil, or_false, not_or]; exact ⟨Nat.ne_of_lt b0, b2⟩) (Heap.get?_push_of_some _ (Heap.get?_push_of_some _ e))
    · cases r2 with
      | error e => exact hr2
      | ok fl2 =>
      cases fl2 with
      | next => exact hr2.elim
      | brk => exact hr2.elim
      | cont => exact hr2.elim
      | ret r =>
        obtain ⟨rfl, h', tk, c, rfl, hS, lc, hd, kp⟩ := hr2
        repeat (any_goals (first | assumption | wp_step))
        exact h _ _ _ hS lc hd kp
end
section
variable {X : Cx}
def tLenSetKT (K : PySem.W.Frag) (ta : TE) : TE := fun σ H Q => ta σ H fun x H1 => ∃ (l : Addr) (ks : List Key), x = V.ref l ∧ SqT K H1 l (ks.map kV) ∧ ks.length ≤ 1000 ∧ ∀ c : Nat, c ≤ ks.length → (c = ks.length ↔ ks.Nodup) → Q (.int c) H1
theorem pe_lenSetKT {K : PySem.W.Frag} {a : Expr} {ta : TE} {p p2 q pos : Pos} (hK : X.K = K) (hc : X.calm = true) (hg : Gl X "len") (hm : X.mg "len" = none) (hg2 : Gl X "set") (hm2 : X.mg "set" = none) (ha : PE X a ta)
    (na : starEach [a] X.env = (false, eval a X.env) :: starEach [] X.env := by rfl) : PE X (.Call (.Name "len" p) [.Call (.Name "set" p2) [a] [] q] [] pos) (tLenSetKT K ta) := by
  subst hK
  refine ⟨fun pins s σ H Q I h => Call_ (ld_blt I hg hm PySem.boot_len (PyProof.Rows.callWith_builtin1 (PyProof.Rows.args_cons ?_ rfl) rfl rfl))⟩
  refine Call_ (ld_blt I hg2 hm2 PyProof.Rows.boot_set ?_)
  refine PyProof.Rows.callWith_type1 (PyProof.Rows.args_cons (thn (ha.run pins s σ H _ I h) fun v s1 ⟨x, H1, I1, r1, q1⟩ => PyProof.Rows.args_nil ?_) na) na rfl
  obtain ⟨l, ks, rfl, hq, h1, q1⟩ := q1
  cases r1
  obtain ⟨its, rv, pt, hz⟩ := I1.tuple hq
  have lz : its.toArray.size = ks.length := by rw [List.size_toArray, ← rv.length, List.length_map]
  refine call_set_tupK ks (I1.ok.hd hc) pt (fun i v hv => ?_) lz (by unfold scanBound; omega) fun h' tk c R1 lc nd1 k => ?_
  · have hi : i < ks.length := by rw [← lz]; exact (Array.getElem?_eq_some_iff.mp hv).1
    rw [← Array.getElem?_toList] at hv
    obtain ⟨u, hu, ru⟩ := rv.get (i := i) (x := kV ks[i]) (by rw [List.getElem?_map, List.getElem?_eq_getElem hi]; rfl)
    have : u = v := Option.some.inj (hu.symm.trans hv)
    subst this
    exact ⟨ks[i], List.getElem?_eq_getElem hi, ru⟩
  · obtain ⟨o, es, ep, t, ho, hex, hd, hel, hmem, hb, hf, hn⟩ := R1
    refine PyProof.Rows.args_nil ?_
    have I2 : Inv X pins σ H1 { s1 with heap := h', toks := tk } := I1.kept k
    refine call_len_set ho hex hd hf (by rw [hn]; omega) ⟨.int c, H1, I2.tok _, ⟨_, by rw [hn]⟩, q1 c lc nd1⟩
end
end D

/-! sets of names and schedules, as plain lists (no rule of the layer) -/
namespace D.Sc
/-! ### all sets of places -/
def ext (n : Nat) (r : List Nat) : List (List Nat) := ((List.range n).filter fun k => decide (r = []) || decide (r.getLastD 0 < k)).map fun k => r ++ [k]
def lonP (n : Nat) : Nat → List (List Nat)
  | 0 => [[]]
  | k + 1 => (lonP n k).flatMap (ext n)
def upP (n : Nat) : Nat → List (List Nat)
  | 0 => [[]]
  | k + 1 => upP n k ++ lonP n (k + 1)
def seven : List (List Nat) := [[0], [1], [2], [0, 1], [0, 2], [1, 2], [0, 1, 2]]
def psets (n : Nat) : List (List Nat) := seven.filter fun r => decide (r.getLastD 0 < n)
theorem up_is {n : Nat} (h1 : 1 ≤ n) (h3 : n ≤ 3) : upP n n = [] :: psets n := by
  obtain rfl | rfl | rfl : n = 1 ∨ n = 2 ∨ n = 3 := by omega
  all_goals decide
theorem ext_len (n : Nat) (r : List Nat) : (ext n r).length ≤ n := by
  unfold ext
  rw [List.length_map]
  exact Nat.le_trans (List.length_filter_le _ _) (by rw [List.length_range]; exact Nat.le_refl _)
theorem flat_len {α β : Type} (g : α → List β) (m : Nat) : ∀ l : List α, (∀ x ∈ l, (g x).length ≤ m) → (l.flatMap g).length ≤ l.length * m
  | [], _ => by simp
  | x :: l, h => by
    rw [List.flatMap_cons, List.length_append, List.length_cons, Nat.succ_mul]
    have h1 := h x List.mem_cons_self
    have h2 := flat_len g m l fun y hy => h y (List.mem_cons_of_mem _ hy)
    omega
theorem lon_len {n : Nat} (h : n ≤ 3) : ∀ k, k ≤ 3 → (lonP n k).length ≤ 27 := by
  intro k hk
  obtain rfl | rfl | rfl | rfl : n = 0 ∨ n = 1 ∨ n = 2 ∨ n = 3 := by omega
  all_goals
    obtain rfl | rfl | rfl | rfl : k = 0 ∨ k = 1 ∨ k = 2 ∨ k = 3 := by omega
    all_goals decide
theorem up_len {n : Nat} (h : n ≤ 3) : ∀ k, k ≤ 3 → (upP n k).length ≤ 108 := by
  intro k hk
  obtain rfl | rfl | rfl | rfl : n = 0 ∨ n = 1 ∨ n = 2 ∨ n = 3 := by omega
  all_goals
    obtain rfl | rfl | rfl | rfl : k = 0 ∨ k = 1 ∨ k = 2 ∨ k = 3 := by omega
    all_goals decide
theorem lon_lt {n : Nat} : ∀ k, ∀ r ∈ lonP n k, ∀ i ∈ r, i < n
  | 0, r, h, i, hi => by
    rw [show r = [] from List.mem_singleton.mp h] at hi
    exact nomatch hi
  | k + 1, r, h, i, hi => by
    obtain ⟨q, hq, hr⟩ := List.mem_flatMap.mp h
    obtain ⟨a, ha, rfl⟩ := List.mem_map.mp hr
    rcases List.mem_append.mp hi with z | z
    · exact lon_lt k q hq i z
    · rw [List.mem_singleton.mp z]
      exact List.mem_range.mp (List.mem_filter.mp ha).1
theorem up_lt {n : Nat} : ∀ k, ∀ r ∈ upP n k, ∀ i ∈ r, i < n
  | 0, r, h, i, hi => by
    rw [show r = [] from List.mem_singleton.mp h] at hi
    exact nomatch hi
  | k + 1, r, h, i, hi => by
    rcases List.mem_append.mp h with z | z
    · exact up_lt k r z i hi
    · exact lon_lt (k + 1) r z i hi
theorem lon_le {n : Nat} : ∀ k, ∀ r ∈ lonP n k, r.length = k
  | 0, r, h => by rw [show r = [] from List.mem_singleton.mp h]; rfl
  | k + 1, r, h => by
    obtain ⟨q, hq, hr⟩ := List.mem_flatMap.mp h
    obtain ⟨a, ha, rfl⟩ := List.mem_map.mp hr
    rw [List.length_append, lon_le k q hq]; rfl
theorem up_le {n : Nat} : ∀ k, ∀ r ∈ upP n k, r.length ≤ k
  | 0, r, h => by rw [show r = [] from List.mem_singleton.mp h]; exact Nat.le_refl _
  | k + 1, r, h => by
    rcases List.mem_append.mp h with z | z
    · have := up_le k r z; omega
    · rw [lon_le (k + 1) r z]; exact Nat.le_refl _
theorem flatMap_take {α β : Type} (g : α → List β) {l : List α} {i : Nat} {x : α} (h : l[i]? = some x) : (l.take (i + 1)).flatMap g = (l.take i).flatMap g ++ g x := by
  rw [List.take_add_one, h, List.flatMap_append]
  simp
/-! ### sets of names -/
section
variable {α : Type} [DecidableEq α] [Inhabited α]
def pk (ns : List α) (r : List Nat) : List α := r.map fun i => ns.getD i default
def sets (ns : List α) : List (List α) := (psets ns.length).map (pk ns)
def has (nd s : List α) : Bool := s.any fun x => decide (x ∈ nd)
def ordOf (ns s : List α) : List α := ns.filter fun x => decide (x ∈ s)
theorem three {ns : List α} (h1 : 1 ≤ ns.length) (h3 : ns.length ≤ 3) : (∃ x, ns = [x]) ∨ (∃ x y, ns = [x, y]) ∨ ∃ x y z, ns = [x, y, z] := by
  match ns, h1, h3 with
  | [x], _, _ => exact .inl ⟨x, rfl⟩
  | [x, y], _, _ => exact .inr (.inl ⟨x, y, rfl⟩)
  | [x, y, z], _, _ => exact .inr (.inr ⟨x, y, z, rfl⟩)
theorem sets1 (x : α) : sets [x] = [[x]] := rfl
theorem sets2 (x y : α) : sets [x, y] = [[x], [y], [x, y]] := rfl
theorem sets3 (x y z : α) : sets [x, y, z] = [[x], [y], [z], [x, y], [x, z], [y, z], [x, y, z]] := rfl
theorem sets_len {ns : List α} (h1 : 1 ≤ ns.length) (h3 : ns.length ≤ 3) : (sets ns).length ≤ 7 := by
  rcases three h1 h3 with ⟨x, rfl⟩ | ⟨x, y, rfl⟩ | ⟨x, y, z, rfl⟩
  · rw [sets1]; exact (by decide : 1 ≤ 7)
  · rw [sets2]; exact (by decide : 3 ≤ 7)
  · rw [sets3]; exact (by decide : 7 ≤ 7)
theorem mem_sets {ns s : List α} (h1 : 1 ≤ ns.length) (h3 : ns.length ≤ 3) (nd : ns.Nodup) : s ∈ sets ns ↔ s ≠ [] ∧ ∃ p : α → Bool, s = ns.filter p := by
  constructor
  · intro h
    rcases three h1 h3 with ⟨x, rfl⟩ | ⟨x, y, rfl⟩ | ⟨x, y, z, rfl⟩
    · rw [sets1] at h
      simp at h; subst h
      exact ⟨by simp, fun _ => true, by simp⟩
    · rw [sets2] at h
      simp at nd
      simp at h
      rcases h with rfl | rfl | rfl
      · exact ⟨by simp, fun a => decide (a = x), by simp [Ne.symm nd]⟩
      · exact ⟨by simp, fun a => decide (a = y), by simp [nd]⟩
      · exact ⟨by simp, fun _ => true, by simp⟩
    · rw [sets3] at h
      simp at nd
      obtain ⟨⟨n1, n2⟩, n3⟩ := nd
      simp at h
      rcases h with rfl | rfl | rfl | rfl | rfl | rfl | rfl
      · exact ⟨by simp, fun a => decide (a = x), by simp [Ne.symm n1, Ne.symm n2]⟩
      · exact ⟨by simp, fun a => decide (a = y), by simp [n1, Ne.symm n3]⟩
      · exact ⟨by simp, fun a => decide (a = z), by simp [n2, n3]⟩
      · exact ⟨by simp, fun a => decide (a ≠ z), by simp [n2, n3]⟩
      · exact ⟨by simp, fun a => decide (a ≠ y), by simp [n1, Ne.symm n3]⟩
      · exact ⟨by simp, fun a => decide (a ≠ x), by simp [Ne.symm n1, Ne.symm n2]⟩
      · exact ⟨by simp, fun _ => true, by simp⟩
  · rintro ⟨hne, p, rfl⟩
    rcases three h1 h3 with ⟨x, rfl⟩ | ⟨x, y, rfl⟩ | ⟨x, y, z, rfl⟩
    · rw [sets1]
      by_cases a : p x <;> simp_all
    · rw [sets2]
      by_cases a : p x <;> by_cases b : p y <;> simp_all
    · rw [sets3]
      by_cases a : p x <;> by_cases b : p y <;> by_cases c : p z <;> simp_all
theorem sets_ord {ns s : List α} (h1 : 1 ≤ ns.length) (h3 : ns.length ≤ 3) (nd : ns.Nodup) (h : s ∈ sets ns) : ordOf ns s = s := by
  obtain ⟨_, p, rfl⟩ := (mem_sets h1 h3 nd).mp h
  unfold ordOf
  refine List.filter_congr fun x hx => ?_
  by_cases c : p x = true
  · rw [c]; exact decide_eq_true (List.mem_filter.mpr ⟨hx, c⟩)
  · have c' : p x = false := by simpa using c
    rw [c']; exact decide_eq_false fun z => c (List.mem_filter.mp z).2
theorem sets_sub {ns s : List α} (h1 : 1 ≤ ns.length) (h3 : ns.length ≤ 3) (nd : ns.Nodup) (h : s ∈ sets ns) : s ≠ [] ∧ s.Nodup ∧ (∀ x ∈ s, x ∈ ns) ∧ s.length ≤ 3 := by
  obtain ⟨h0, p, rfl⟩ := (mem_sets h1 h3 nd).mp h
  exact ⟨h0, nd.sublist List.filter_sublist, fun x hx => (List.mem_filter.mp hx).1, Nat.le_trans (List.length_filter_le _ _) h3⟩
/-! ### schedules -/
/-- what a schedule keeps of the sets that it is told -/
def kept (ns : List α) (ch : List (List α)) : List (List α) := (sets ns).filter fun s => decide (s ∈ ch)
def leastS (ns nd : List α) : List (List α) := (sets ns).filter (has nd)
def missS (ns nd : List α) (ks : List (List α)) : Option (List α) := (sets ns).find? fun s => has nd s && !decide (s ∈ ks)
def missedL (ns nd : List α) (ch : List (List α)) : List (List α) := (sets ns).filter fun s => !decide (s ∈ ch) && has nd s
theorem find_head {β : Type} (p : β → Bool) : ∀ l : List β, l.find? p = (l.filter p).head?
  | [] => rfl
  | x :: l => by
    rw [List.find?_cons, List.filter_cons]
    cases p x
    · exact find_head p l
    · rfl
theorem miss_is (ns nd : List α) (ch : List (List α)) : missS ns nd (kept ns ch) = (missedL ns nd ch).head? := by
  unfold missS missedL
  rw [find_head]
  congr 1
  refine List.filter_congr fun s hs => ?_
  unfold kept
  have : decide (s ∈ (sets ns).filter fun s => decide (s ∈ ch)) = decide (s ∈ ch) := by
    by_cases c : s ∈ ch
    · rw [decide_eq_true c]; exact decide_eq_true (List.mem_filter.mpr ⟨hs, decide_eq_true c⟩)
    · rw [decide_eq_false c]; exact decide_eq_false fun z => c (of_decide_eq_true (List.mem_filter.mp z).2)
  rw [this, Bool.and_comm]
theorem least_le (ns nd : List α) (ch : List (List α)) : (kept ns (leastS ns nd)).all (fun s => decide (s ∈ kept ns ch)) = (missedL ns nd ch).isEmpty := by
  rw [Bool.eq_iff_iff, List.all_eq_true]
  unfold kept leastS missedL
  rw [List.isEmpty_iff, List.filter_eq_nil_iff]
  constructor
  · intro h s hs z
    rw [Bool.and_eq_true] at z
    have := h s (List.mem_filter.mpr ⟨hs, decide_eq_true (List.mem_filter.mpr ⟨hs, z.2⟩)⟩)
    have := (List.mem_filter.mp (of_decide_eq_true this)).2
    rw [this] at z
    exact absurd z.1 (by decide)
  · intro h s hs
    obtain ⟨h1, h2⟩ := List.mem_filter.mp hs
    have h3 := (List.mem_filter.mp (of_decide_eq_true h2)).2
    refine decide_eq_true (List.mem_filter.mpr ⟨h1, ?_⟩)
    have := h s h1
    rw [h3, Bool.and_true] at this
    simpa using this
/-! ### rows of values, and one name changed alone -/
/-- the k-th row of n values below m -/
def digs (m : Nat) : Nat → Nat → List Nat
  | 0, _ => []
  | n + 1, k => k % m :: digs m n (k / m)
theorem digs_len (m : Nat) : ∀ n k, (digs m n k).length = n
  | 0, _ => rfl
  | n + 1, k => by rw [digs, List.length_cons, digs_len]
theorem digs_lt {m : Nat} (hm : 0 < m) : ∀ n k, ∀ x ∈ digs m n k, x < m
  | 0, _, x, h => nomatch h
  | n + 1, k, x, h => by
    rcases List.mem_cons.mp h with rfl | h
    · exact Nat.mod_lt _ hm
    · exact digs_lt hm n _ x h
theorem digs_all {m : Nat} (hm : 0 < m) : ∀ (vs : List Nat), (∀ x ∈ vs, x < m) → ∃ k, k < m ^ vs.length ∧ digs m vs.length k = vs
  | [], _ => ⟨0, by simp, rfl⟩
  | v :: vs, h => by
    obtain ⟨k, hk, e⟩ := digs_all hm vs fun x hx => h x (List.mem_cons_of_mem _ hx)
    have hv := h v List.mem_cons_self
    refine ⟨v + k * m, ?_, ?_⟩
    · rw [List.length_cons, Nat.pow_succ]
      have : (k + 1) * m ≤ m ^ vs.length * m := Nat.mul_le_mul_right m hk
      rw [Nat.succ_mul] at this
      omega
    · rw [List.length_cons, digs, Nat.add_mul_mod_self_right, Nat.mod_eq_of_lt hv, Nat.add_mul_div_right _ _ hm, Nat.div_eq_of_lt hv, Nat.zero_add, e]
theorem one_step {β : Type} (F : List Nat → β) [DecidableEq β] : ∀ (u v : List Nat), u.length = v.length → F u ≠ F v → ∃ pre a b post, u.length = pre.length + 1 + post.length ∧ pre = v.take pre.length ∧ u[pre.length]? = some a ∧ v[pre.length]? = some b ∧ post = u.drop (pre.length + 1) ∧ F (pre ++ a :: post) ≠ F (pre ++ b :: post)
  | [], [], _, h => absurd rfl h
  | [], _ :: _, e, _ => nomatch e
  | _ :: _, [], e, _ => nomatch e
  | a :: u, b :: v, e, h => by
    by_cases c : F (a :: u) = F (b :: u)
    · obtain ⟨pre, a', b', post, h1, h2, h3, h4, h5, h6⟩ := one_step (fun w => F (b :: w)) u v (by simpa using e) (fun z => h (c.trans z))
      exact ⟨b :: pre, a', b', post, by simp [h1]; omega, by simp [← h2], by simpa using h3, by simpa using h4, by simpa using h5, h6⟩
    · exact ⟨[], a, b, u, by simp; omega, rfl, rfl, rfl, rfl, c⟩
/-- the value of a name in a row -/
def env (ns : List α) (u : List Nat) (x : α) : Nat := u.getD (ns.idxOf x) 0
/-- the names at which two rows differ -/
def diffN (ns : List α) (u v : List Nat) : List α := ns.filter fun x => decide (env ns u x ≠ env ns v x)
theorem env_at {ns : List α} (nd : ns.Nodup) (u : List Nat) (i : Nat) (hi : i < ns.length) : env ns u ns[i] = u.getD i 0 := by
  unfold env
  rw [nd.idxOf_getElem]
theorem filter_one {ns : List α} {p : α → Bool} {i : Nat} (hi : i < ns.length) (h : ∀ (j : Nat) (hj : j < ns.length), p ns[j] = decide (j = i)) : ns.filter p = [ns[i]] := by
  have e : ns = ns.take i ++ ns[i] :: ns.drop (i + 1) := by rw [List.getElem_cons_drop hi, List.take_append_drop]
  have h1 : (ns.take i).filter p = [] := by
    rw [List.filter_eq_nil_iff]
    intro x hx
    obtain ⟨j, hj, rfl⟩ := List.getElem_of_mem hx
    rw [List.length_take] at hj
    rw [List.getElem_take, h j (by omega), decide_eq_false (by omega)]
    exact Bool.false_ne_true
  have h2 : (ns.drop (i + 1)).filter p = [] := by
    rw [List.filter_eq_nil_iff]
    intro x hx
    obtain ⟨j, hj, rfl⟩ := List.getElem_of_mem hx
    rw [List.length_drop] at hj
    rw [List.getElem_drop, h _ (by omega), decide_eq_false (by omega)]
    exact Bool.false_ne_true
  calc ns.filter p = (ns.take i ++ ns[i] :: ns.drop (i + 1)).filter p := by rw [← e]
    _ = [ns[i]] := by rw [List.filter_append, List.filter_cons, h1, h2, h i hi, decide_eq_true rfl]; rfl
theorem one_diff {ns : List α} (nd : ns.Nodup) {pre post : List Nat} {a b : Nat} (hl : pre.length + 1 + post.length = ns.length) (hab : a ≠ b) : ∃ hi : pre.length < ns.length, diffN ns (pre ++ a :: post) (pre ++ b :: post) = [ns[pre.length]] := by
  refine ⟨by omega, filter_one (by omega) fun j hj => ?_⟩
  rw [env_at nd, env_at nd]
  congr 1
  rw [List.getD_eq_getElem?_getD, List.getD_eq_getElem?_getD]
  apply propext
  rcases Nat.lt_trichotomy j pre.length with c | c | c
  · rw [List.getElem?_append_left c, List.getElem?_append_left c]
    exact ⟨fun z => absurd rfl z, fun z => by omega⟩
  · subst c
    simp [hab]
  · rw [List.getElem?_append_right (by omega), List.getElem?_append_right (by omega), show j - pre.length = (j - pre.length - 1) + 1 by omega, List.getElem?_cons_succ, List.getElem?_cons_succ]
    exact ⟨fun z => absurd rfl z, fun z => by omega⟩
/-- what is known of the list of sets that change a value -/
structure Chg {β : Type} (F : List Nat → β) (ns : List α) (cs : List (List α)) : Prop where
  from_ : ∀ s ∈ cs, ∃ i j, F (digs 3 ns.length i) ≠ F (digs 3 ns.length j) ∧ s = diffN ns (digs 3 ns.length i) (digs 3 ns.length j)
  all : ∀ i j, i < j → j < 3 ^ ns.length → F (digs 3 ns.length i) ≠ F (digs 3 ns.length j) → diffN ns (digs 3 ns.length i) (digs 3 ns.length j) ∈ cs
theorem diff_symm (ns : List α) (u v : List Nat) : diffN ns u v = diffN ns v u := by
  unfold diffN
  refine List.filter_congr fun x _ => ?_
  rw [Bool.eq_iff_iff, decide_eq_true_iff, decide_eq_true_iff]
  exact ⟨Ne.symm, Ne.symm⟩
theorem Chg.needed {β : Type} [DecidableEq β] {F : List Nat → β} {ns : List α} {cs : List (List α)} (h : Chg F ns cs) (h1 : 1 ≤ ns.length) (h3 : ns.length ≤ 3) (nd : ns.Nodup) {ne : List α} (hn : ∀ x ∈ ns, [x] ∈ cs → x ∈ ne) {s : List α} (hs : s ∈ cs) : s ∈ sets ns ∧ has ne s = true := by
  obtain ⟨i, j, hF, rfl⟩ := h.from_ s hs
  have hm : 0 < 3 := by decide
  have lt1 := digs_lt hm ns.length i
  have lt2 := digs_lt hm ns.length j
  have l1 := digs_len 3 ns.length i
  have l2 := digs_len 3 ns.length j
  generalize digs 3 ns.length i = u at *
  generalize digs 3 ns.length j = v at *
  obtain ⟨pre, a, b, post, e1, e2, e3, e4, e5, e6⟩ := one_step F u v (by omega) hF
  have hab : a ≠ b := fun z => e6 (by rw [z])
  have hl : pre.length + 1 + post.length = ns.length := by omega
  obtain ⟨hi, ed⟩ := one_diff nd hl hab
  -- the name is one of the set
  have hx : ns[pre.length] ∈ diffN ns u v := by
    unfold diffN
    refine List.mem_filter.mpr ⟨List.getElem_mem hi, decide_eq_true ?_⟩
    rw [env_at nd, env_at nd, List.getD_eq_getElem?_getD, List.getD_eq_getElem?_getD, e3, e4]
    exact hab
  have row : ∀ c, c < 3 → ∃ k, k < 3 ^ ns.length ∧ digs 3 ns.length k = pre ++ c :: post := fun c hc => by
    have hl' : (pre ++ c :: post).length = ns.length := by rw [List.length_append, List.length_cons]; omega
    have := digs_all hm (pre ++ c :: post) fun x hx => by
      rcases List.mem_append.mp hx with z | z
      · rw [e2] at z; exact lt2 x (List.mem_of_mem_take z)
      · rcases List.mem_cons.mp z with rfl | z
        · exact hc
        · rw [e5] at z; exact lt1 x (List.mem_of_mem_drop z)
    rw [hl'] at this
    exact this
  obtain ⟨k1, hk1, ek1⟩ := row a (lt1 a (List.mem_of_getElem? e3))
  obtain ⟨k2, hk2, ek2⟩ := row b (lt2 b (List.mem_of_getElem? e4))
  have one : [ns[pre.length]] ∈ cs := by
    have ne : k1 ≠ k2 := fun z => by rw [z, ek2] at ek1; exact e6 (by rw [ek1])
    rcases Nat.lt_or_gt_of_ne ne with c | c
    · have := h.all k1 k2 c hk2 (by rw [ek1, ek2]; exact e6)
      rw [ek1, ek2, ed] at this
      exact this
    · have := h.all k2 k1 c hk1 (by rw [ek1, ek2]; exact Ne.symm e6)
      rw [ek1, ek2, diff_symm, ed] at this
      exact this
  have hne := hn _ (List.getElem_mem hi) one
  refine ⟨(mem_sets h1 h3 nd).mpr ⟨(fun z => by rw [z] at hx; cases hx), _, rfl⟩, ?_⟩
  exact List.any_eq_true.mpr ⟨_, hx, decide_eq_true hne⟩
end
end D.Sc

/-! comprehensions whose elements may make things on the way -/
namespace D
open PySem PySem.Spec PyProof.Rows L2
section
variable {K : PySem.W.Frag}
theorem szK2 {n : Nat} (h : n ≤ 1000) : n ≤ sizeLine := Nat.le_of_lt (small1000 h)
/-- a comprehension with or without a test over a tuple: each item gives a plain value or none -/
theorem vl_tup {a : Addr} {xs : List V} {ys : List (Option V)} {g : TG} {tt : TT} {te : TE} {vs : List Nat} {σ : L2.St} {H : Hp} {D : Addr} {Qd : Hp → Prop} (hD : H D = none) (hS : SqT K H a xs) (hn : ys.length = xs.length) (hz : xs.length ≤ 1000000)
    (hs : ∀ (i : Nat) (x : V) (y : Option V) (H' : Hp) (C : VK) (N : Hp → Prop), xs[i]? = some x → ys[i]? = some y → Same H H' → (∀ v, y = some v → ∀ H2, Same H' H2 → C v H2) → (y = none → ∀ H2, Same H' H2 → N H2) →
      g x (wipe σ vs) H' fun σ2 H2 => wipe σ2 vs = wipe σ vs ∧ tt σ2 H2 fun b H3 => if b = true then te σ2 H3 C else N H3)
    (hd : ∀ H', Same H H' → H' D = some (.lst (ys.filterMap id)) → Qd H') :
    ∃ W : Nat → Nat → Hp → Prop, (∃ m, W 0 m (upd H D (.lst []))) ∧ ∀ i m H, W i m H →
      ((Itt K a).stop i H ∧ Qd H) ∨ ((Itt K a).go i H ∧ ∃ Nx : Hp → Prop, (∀ H', Nx H' → ∃ m', m' < m ∧ W (i + 1) m' H') ∧ ∀ x H', (Itt K a).yld i H x H' → g x (wipe σ vs) H' fun σ2 H2 => wipe σ2 vs = wipe σ vs ∧ tt σ2 H2 fun b H3 =>
        if b = true then te σ2 H3 fun y H4 => ∃ acc, H4 D = some (.lst acc) ∧ acc.length < sizeLine ∧ Nx (upd H4 D (.lst (acc ++ [y]))) else Nx H3) := by
  refine tup_loop (K := K) (a := a) (xs := xs) (fun i H' => Same H H' ∧ H' D = some (.lst ((ys.take i).filterMap id))) ⟨same_new hD, upd_same⟩ (fun i H' _ p => same_sqt p.1 hS) (fun i x H' hx p => ?_) (fun H' p => ?_)
  · obtain ⟨s, e⟩ := p
    have hi : i < ys.length := by rw [hn]; exact (List.getElem?_eq_some_iff.mp hx).1
    have hl := List.length_filterMap_le (f := (id : Option V → _)) (ys.take i)
    rw [List.length_take] at hl
    refine hs i x ys[i] H' _ _ hx (List.getElem?_eq_getElem hi) s (fun v ev H2 s2 => ?_) (fun en H2 s2 => ?_)
    · refine ⟨_, s2 _ _ e, small1000000 (by omega), same_put (s.trans s2) hD, ?_⟩
      rw [List.take_add_one, List.getElem?_eq_getElem hi, ev, Option.toList_some, List.filterMap_append]
      exact upd_same
    · refine ⟨s.trans s2, ?_⟩
      rw [List.take_add_one, List.getElem?_eq_getElem hi, en, Option.toList_some, List.filterMap_append]
      show H2 D = some (.lst (_ ++ []))
      rw [List.append_nil]
      exact s2 _ _ e
  · obtain ⟨s, e⟩ := p
    rw [← hn, List.take_length] at e
    exact hd H' s e
/-- the same over a list -/
theorem vl_list {a : Addr} {xs : List V} {ys : List (Option V)} {g : TG} {tt : TT} {te : TE} {vs : List Nat} {σ : L2.St} {H : Hp} {D : Addr} {Qd : Hp → Prop} (hD : H D = none) (hS : SqL K H a xs) (hn : ys.length = xs.length) (hz : xs.length ≤ 1000000)
    (hs : ∀ (i : Nat) (x : V) (y : Option V) (H' : Hp) (C : VK) (N : Hp → Prop), xs[i]? = some x → ys[i]? = some y → Same H H' → (∀ v, y = some v → ∀ H2, Same H' H2 → C v H2) → (y = none → ∀ H2, Same H' H2 → N H2) →
      g x (wipe σ vs) H' fun σ2 H2 => wipe σ2 vs = wipe σ vs ∧ tt σ2 H2 fun b H3 => if b = true then te σ2 H3 C else N H3)
    (hd : ∀ H', Same H H' → H' D = some (.lst (ys.filterMap id)) → Qd H') :
    ∃ W : Nat → Nat → Hp → Prop, (∃ m, W 0 m (upd H D (.lst []))) ∧ ∀ i m H, W i m H →
      ((Itl K a).stop i H ∧ Qd H) ∨ ((Itl K a).go i H ∧ ∃ Nx : Hp → Prop, (∀ H', Nx H' → ∃ m', m' < m ∧ W (i + 1) m' H') ∧ ∀ x H', (Itl K a).yld i H x H' → g x (wipe σ vs) H' fun σ2 H2 => wipe σ2 vs = wipe σ vs ∧ tt σ2 H2 fun b H3 =>
        if b = true then te σ2 H3 fun y H4 => ∃ acc, H4 D = some (.lst acc) ∧ acc.length < sizeLine ∧ Nx (upd H4 D (.lst (acc ++ [y]))) else Nx H3) := by
  refine list_loop (K := K) (a := a) (xs := xs) (fun i H' => Same H H' ∧ H' D = some (.lst ((ys.take i).filterMap id))) ⟨same_new hD, upd_same⟩ (fun i H' _ p => p.1.seq hS) (fun i x H' hx p => ?_) (fun H' p => ?_)
  · obtain ⟨s, e⟩ := p
    have hi : i < ys.length := by rw [hn]; exact (List.getElem?_eq_some_iff.mp hx).1
    have hl := List.length_filterMap_le (f := (id : Option V → _)) (ys.take i)
    rw [List.length_take] at hl
    refine hs i x ys[i] H' _ _ hx (List.getElem?_eq_getElem hi) s (fun v ev H2 s2 => ?_) (fun en H2 s2 => ?_)
    · refine ⟨_, s2 _ _ e, small1000000 (by omega), same_put (s.trans s2) hD, ?_⟩
      rw [List.take_add_one, List.getElem?_eq_getElem hi, ev, Option.toList_some, List.filterMap_append]
      exact upd_same
    · refine ⟨s.trans s2, ?_⟩
      rw [List.take_add_one, List.getElem?_eq_getElem hi, en, Option.toList_some, List.filterMap_append]
      show H2 D = some (.lst (_ ++ []))
      rw [List.append_nil]
      exact s2 _ _ e
  · obtain ⟨s, e⟩ := p
    rw [← hn, List.take_length] at e
    exact hd H' s e
theorem opt_all (ys : List V) : (ys.map some).filterMap id = ys := by
  rw [List.filterMap_map]
  exact List.filterMap_some ..
theorem opt_filter {α β : Type} (f : α → β) (p : α → Bool) : ∀ l : List α, (l.map fun x => if p x = true then some (f x) else none).filterMap id = (l.filter p).map f
  | [] => rfl
  | x :: l => by
    have ih := opt_filter f p l
    rw [List.map_cons, List.filter_cons]
    by_cases c : p x = true
    · rw [if_pos c, if_pos c, List.filterMap_cons, ih]; rfl
    · rw [if_neg c, if_neg c, List.filterMap_cons, ih]; rfl
/-- data or none, over a tuple -/
theorem dt_tup {a : Addr} {xs : List V} {cs : List (Option PyData)} {g : TG} {tt : TT} {te : TE} {vs : List Nat} {σ : L2.St} {H : Hp} {D : Addr} {Qd : Hp → Prop} (M : Ms) (hM : Mk M H) (hD : H D = none) (hS : SqT K H a xs) (hn : cs.length = xs.length) (hz : xs.length ≤ 1000000)
    (hs : ∀ (i : Nat) (x : V) (c : Option PyData) (H' : Hp) (C : VK) (N : Hp → Prop), xs[i]? = some x → cs[i]? = some c → Same H H' → Mk (also M D) H' → (∀ y, c = some y → ∀ v H2, Same H' H2 → Rp (also M D) H2 v y → C v H2) → (c = none → ∀ H2, Same H' H2 → N H2) →
      g x (wipe σ vs) H' fun σ2 H2 => wipe σ2 vs = wipe σ vs ∧ tt σ2 H2 fun b H3 => if b = true then te σ2 H3 C else N H3)
    (hd : ∀ H', Same H H' → Ld M H' D (cs.filterMap id) → Qd H') :
    ∃ W : Nat → Nat → Hp → Prop, (∃ m, W 0 m (upd H D (.lst []))) ∧ ∀ i m H, W i m H →
      ((Itt K a).stop i H ∧ Qd H) ∨ ((Itt K a).go i H ∧ ∃ Nx : Hp → Prop, (∀ H', Nx H' → ∃ m', m' < m ∧ W (i + 1) m' H') ∧ ∀ x H', (Itt K a).yld i H x H' → g x (wipe σ vs) H' fun σ2 H2 => wipe σ2 vs = wipe σ vs ∧ tt σ2 H2 fun b H3 =>
        if b = true then te σ2 H3 fun y H4 => ∃ acc, H4 D = some (.lst acc) ∧ acc.length < sizeLine ∧ Nx (upd H4 D (.lst (acc ++ [y]))) else Nx H3) := by
  refine tup_loop (K := K) (a := a) (xs := xs) (fun i H' => Acc M H D H' ((cs.take i).filterMap id)) (Acc.new hD) (fun i H' _ p => same_sqt p.same hS) (fun i x H' hx p => ?_) (fun H' p => ?_)
  · have hi : i < cs.length := by rw [hn]; exact (List.getElem?_eq_some_iff.mp hx).1
    have hl := List.length_filterMap_le (f := (id : Option PyData → _)) (cs.take i)
    rw [List.length_take] at hl
    refine hs i x cs[i] H' _ _ hx (List.getElem?_eq_getElem hi) p.same (p.mk hM) (fun y ey v H2 s2 rv => ?_) (fun en H2 s2 => ?_)
    · rw [List.take_add_one, List.getElem?_eq_getElem hi, ey, Option.toList_some, List.filterMap_append]
      exact (p.keep s2).put rv (by omega)
    · rw [List.take_add_one, List.getElem?_eq_getElem hi, en, Option.toList_some, List.filterMap_append]
      show Acc M H D H2 (_ ++ [])
      rw [List.append_nil]
      exact p.keep s2
  · rw [← hn, List.take_length] at p
    exact hd H' p.same (p.fin hM)
/-- data or none, over a list -/
theorem dt_list {a : Addr} {xs : List V} {cs : List (Option PyData)} {g : TG} {tt : TT} {te : TE} {vs : List Nat} {σ : L2.St} {H : Hp} {D : Addr} {Qd : Hp → Prop} (M : Ms) (hM : Mk M H) (hD : H D = none) (hS : SqL K H a xs) (hn : cs.length = xs.length) (hz : xs.length ≤ 1000000)
    (hs : ∀ (i : Nat) (x : V) (c : Option PyData) (H' : Hp) (C : VK) (N : Hp → Prop), xs[i]? = some x → cs[i]? = some c → Same H H' → Mk (also M D) H' → (∀ y, c = some y → ∀ v H2, Same H' H2 → Rp (also M D) H2 v y → C v H2) → (c = none → ∀ H2, Same H' H2 → N H2) →
      g x (wipe σ vs) H' fun σ2 H2 => wipe σ2 vs = wipe σ vs ∧ tt σ2 H2 fun b H3 => if b = true then te σ2 H3 C else N H3)
    (hd : ∀ H', Same H H' → Ld M H' D (cs.filterMap id) → Qd H') :
    ∃ W : Nat → Nat → Hp → Prop, (∃ m, W 0 m (upd H D (.lst []))) ∧ ∀ i m H, W i m H →
      ((Itl K a).stop i H ∧ Qd H) ∨ ((Itl K a).go i H ∧ ∃ Nx : Hp → Prop, (∀ H', Nx H' → ∃ m', m' < m ∧ W (i + 1) m' H') ∧ ∀ x H', (Itl K a).yld i H x H' → g x (wipe σ vs) H' fun σ2 H2 => wipe σ2 vs = wipe σ vs ∧ tt σ2 H2 fun b H3 =>
        if b = true then te σ2 H3 fun y H4 => ∃ acc, H4 D = some (.lst acc) ∧ acc.length < sizeLine ∧ Nx (upd H4 D (.lst (acc ++ [y]))) else Nx H3) := by
  refine list_loop (K := K) (a := a) (xs := xs) (fun i H' => Acc M H D H' ((cs.take i).filterMap id)) (Acc.new hD) (fun i H' _ p => p.same.seq hS) (fun i x H' hx p => ?_) (fun H' p => ?_)
  · have hi : i < cs.length := by rw [hn]; exact (List.getElem?_eq_some_iff.mp hx).1
    have hl := List.length_filterMap_le (f := (id : Option PyData → _)) (cs.take i)
    rw [List.length_take] at hl
    refine hs i x cs[i] H' _ _ hx (List.getElem?_eq_getElem hi) p.same (p.mk hM) (fun y ey v H2 s2 rv => ?_) (fun en H2 s2 => ?_)
    · rw [List.take_add_one, List.getElem?_eq_getElem hi, ey, Option.toList_some, List.filterMap_append]
      exact (p.keep s2).put rv (by omega)
    · rw [List.take_add_one, List.getElem?_eq_getElem hi, en, Option.toList_some, List.filterMap_append]
      show Acc M H D H2 (_ ++ [])
      rw [List.append_nil]
      exact p.keep s2
  · rw [← hn, List.take_length] at p
    exact hd H' p.same (p.fin hM)
end
end D

namespace D
open PySem PySem.Spec PyProof.Rows L2
local macro_rules | `(tactic| walk_at "st") => `(tactic| first | exact SqT.of (by assumption) | exact Or.inl (by assumption) | exact SqT.of upd_same | fail "st")
local macro_rules | `(tactic| walk_at "ixt") => `(tactic| refine ⟨_, _, _, _, rfl, rfl, (by walk_at "st" : SqT _ _ _ _), by rfl, ?_⟩)
local macro_rules | `(tactic| walk_at "sq") => `(tactic| first | exact SqL.of (by assumption) | assumption | exact Or.inl (by assumption) | exact SqL.of upd_same | fail "sq")
local macro_rules | `(tactic| walk_at "ix") => `(tactic| refine ⟨_, _, _, _, rfl, rfl, (by walk_at "sq" : SqL _ _ _ _), by rfl, ?_⟩)
local macro_rules | `(tactic| walk_at "set") => `(tactic| refine ⟨_, _, _, _, rfl, rfl, by first | assumption | exact upd_same, by rfl, ?_⟩)
local macro_rules | `(tactic| walk_at "len") => `(tactic| refine ⟨_, _, rfl, Or.inl (by walk_at "sq" : SqL _ _ _ _), ?_⟩)
local macro_rules | `(tactic| walk_at "g") => `(tactic| repeat (first | refine ⟨_, rfl, ?_⟩ | refine ⟨_, _, rfl, rfl, ?_⟩ | refine ⟨Or.inr (by decide), ?_⟩ | refine ⟨Or.inl (by decide), ?_⟩ | refine ⟨(by decide : (0 : Int) < _), ?_⟩ | refine ⟨(⟨by decide, by decide⟩ : CDiv _ _), ?_⟩ | refine ⟨(⟨by decide, by decide, by decide⟩ : CPow _ _), ?_⟩ | refine Or.inl ⟨_, rfl, ?_⟩ | refine ⟨rfl, ?_⟩ | walk_at "ix" | walk_at "ixt" | walk_at "len" | fail "g"))
local macro_rules | `(tactic| walk_at "if") => `(tactic| refine ite2 (fun e => ?_) (fun e => ?_))
def topS (i : Nat) : Stmt := PySem.Challenge.pw_drawnanew_k39_whole_schedules.main.body.getD i (.Pass ⟨0, 0, 0, 0⟩)
abbrev s_all_sets : Stmt := topS 1
theorem sc_all_sets : FnScope ["things", "rows", "longest", "_", "row", "at"] ["things"] (defScope s_all_sets) := ⟨rfl, rfl, rfl, by decide +kernel, rfl, by decide +kernel, by decide +kernel⟩
abbrev s_BadNames___init__ : Stmt := inClass (topS 4) 0
theorem sc_BadNames___init__ : FnScope ["self", "told"] ["self", "told"] (defScope s_BadNames___init__) := ⟨rfl, rfl, rfl, by decide +kernel, rfl, by decide +kernel, by decide +kernel⟩
abbrev s_is_name : Stmt := topS 7
theorem sc_is_name : FnScope ["thing", "sign"] ["thing"] (defScope s_is_name) := ⟨rfl, rfl, rfl, by decide +kernel, rfl, by decide +kernel, by decide +kernel⟩
abbrev s__is_set : Stmt := topS 10
theorem sc__is_set : FnScope ["names", "name"] ["names"] (defScope s__is_set) := ⟨rfl, rfl, rfl, by decide +kernel, rfl, by decide +kernel, by decide +kernel⟩
abbrev s__check_names : Stmt := topS 11
theorem sc__check_names : FnScope ["names"] ["names"] (defScope s__check_names) := ⟨rfl, rfl, rfl, by decide +kernel, rfl, by decide +kernel, by decide +kernel⟩
abbrev s__all_sets : Stmt := topS 12
theorem sc__all_sets : FnScope ["names"] ["names"] (defScope s__all_sets) := ⟨rfl, rfl, rfl, by decide +kernel, rfl, by decide +kernel, by decide +kernel⟩
abbrev s__in_order : Stmt := topS 13
theorem sc__in_order : FnScope ["names", "changed", "name"] ["names", "changed"] (defScope s__in_order) := ⟨rfl, rfl, rfl, by decide +kernel, rfl, by decide +kernel, by decide +kernel⟩
abbrev s__has_needed : Stmt := topS 14
theorem sc__has_needed : FnScope ["changed", "needs", "name"] ["changed", "needs"] (defScope s__has_needed) := ⟨rfl, rfl, rfl, by decide +kernel, rfl, by decide +kernel, by decide +kernel⟩
abbrev s_Schedule___init__ : Stmt := inClass (topS 15) 0
theorem sc_Schedule___init__ : FnScope ["self", "names", "sets", "changed", "told", "name"] ["self", "names", "sets"] (defScope s_Schedule___init__) := ⟨rfl, rfl, rfl, by decide +kernel, rfl, by decide +kernel, by decide +kernel⟩
abbrev s_Schedule___contains__ : Stmt := inClass (topS 15) 1
theorem sc_Schedule___contains__ : FnScope ["self", "changed"] ["self", "changed"] (defScope s_Schedule___contains__) := ⟨rfl, rfl, rfl, by decide +kernel, rfl, by decide +kernel, by decide +kernel⟩
abbrev s_Schedule___le__ : Stmt := inClass (topS 15) 2
theorem sc_Schedule___le__ : FnScope ["self", "other", "changed"] ["self", "other"] (defScope s_Schedule___le__) := ⟨rfl, rfl, rfl, by decide +kernel, rfl, by decide +kernel, by decide +kernel⟩
abbrev s_Schedule___eq__ : Stmt := inClass (topS 15) 3
theorem sc_Schedule___eq__ : FnScope ["self", "other"] ["self", "other"] (defScope s_Schedule___eq__) := ⟨rfl, rfl, rfl, by decide +kernel, rfl, by decide +kernel, by decide +kernel⟩
abbrev s_Schedule___iter__ : Stmt := inClass (topS 15) 4
theorem sc_Schedule___iter__ : FnScope ["self"] ["self"] (defScope s_Schedule___iter__) := ⟨rfl, rfl, rfl, by decide +kernel, rfl, by decide +kernel, by decide +kernel⟩
abbrev s_Schedule_missed : Stmt := inClass (topS 15) 5
theorem sc_Schedule_missed : FnScope ["self", "needs", "changed"] ["self", "needs"] (defScope s_Schedule_missed) := ⟨rfl, rfl, rfl, by decide +kernel, rfl, by decide +kernel, by decide +kernel⟩
abbrev s_Schedule_least : Stmt := inClass (topS 15) 6
theorem sc_Schedule_least : FnScope ["names", "needs", "changed"] ["names", "needs"] (defScope s_Schedule_least) := ⟨rfl, rfl, rfl, by decide +kernel, rfl, by decide +kernel, by decide +kernel⟩
abbrev s_spoiling : Stmt := topS 16
theorem sc_spoiling : FnScope ["schedule", "needs", "changed", "names", "texts", "before", "after", "name"] ["schedule", "needs"] (defScope s_spoiling) := ⟨rfl, rfl, rfl, by decide +kernel, rfl, by decide +kernel, by decide +kernel⟩
abbrev s__law_mixed : Stmt := topS 18
theorem sc__law_mixed : FnScope ["_law_number_here", "_law_turn", "_law_first", "_law_second"] ["_law_number_here", "_law_turn"] (defScope s__law_mixed) := ⟨rfl, rfl, rfl, by decide +kernel, rfl, by decide +kernel, by decide +kernel⟩
abbrev s__law_bag : Stmt := topS 19
theorem sc__law_bag : FnScope ["_law_script", "_law_cell", "_law_numbers", "_law_seed", "_law_at"] ["_law_script"] (defScope s__law_bag) := ⟨rfl, rfl, rfl, by decide +kernel, rfl, by decide +kernel, by decide +kernel⟩
abbrev s__law_pick : Stmt := topS 20
theorem sc__law_pick : FnScope ["_law_bag_here", "_law_many", "_law_turn", "_law_cell", "_law_worth"] ["_law_bag_here", "_law_many"] (defScope s__law_pick) := ⟨rfl, rfl, rfl, by decide +kernel, rfl, by decide +kernel, by decide +kernel⟩
abbrev s__law_choice : Stmt := topS 21
theorem sc__law_choice : FnScope ["_law_bag_here", "_law_things"] ["_law_bag_here", "_law_things"] (defScope s__law_choice) := ⟨rfl, rfl, rfl, by decide +kernel, rfl, by decide +kernel, by decide +kernel⟩
abbrev s__law_mingled : Stmt := topS 22
theorem sc__law_mingled : FnScope ["_law_bag_here", "_law_things", "_law_left", "_law_out", "_law_step"] ["_law_bag_here", "_law_things"] (defScope s__law_mingled) := ⟨rfl, rfl, rfl, by decide +kernel, rfl, by decide +kernel, by decide +kernel⟩
abbrev s__law_number : Stmt := topS 23
theorem sc__law_number : FnScope ["_law_thing"] ["_law_thing"] (defScope s__law_number) := ⟨rfl, rfl, rfl, by decide +kernel, rfl, by decide +kernel, by decide +kernel⟩
abbrev s__law_new_name : Stmt := topS 24
theorem sc__law_new_name : FnScope ["_law_bag_here", "_law_used", "_law_letters", "_law_told", "_law_near", "_law_at", "_law_tails", "_law_step", "_law_k", "_law_tail"] ["_law_bag_here", "_law_used"] (defScope s__law_new_name) := ⟨rfl, rfl, rfl, by decide +kernel, rfl, by decide +kernel, by decide +kernel⟩
abbrev s__law_form : Stmt := topS 25
theorem sc__law_form : FnScope ["_law_bag_here", "_law_readable", "_law_levels", "_law_way", "_law_first", "_law_second"] ["_law_bag_here", "_law_readable", "_law_levels"] (defScope s__law_form) := ⟨rfl, rfl, rfl, by decide +kernel, rfl, by decide +kernel, by decide +kernel⟩
abbrev s__law_value : Stmt := topS 26
theorem sc__law_value : FnScope ["_law_form_here", "_law_worths", "_law_word", "_law_first", "_law_second"] ["_law_form_here", "_law_worths"] (defScope s__law_value) := ⟨rfl, rfl, rfl, by decide +kernel, rfl, by decide +kernel, by decide +kernel⟩
abbrev s__law_some : Stmt := topS 27
theorem sc__law_some : FnScope ["_law_bag_here", "_law_things", "_law_thing"] ["_law_bag_here", "_law_things"] (defScope s__law_some) := ⟨rfl, rfl, rfl, by decide +kernel, rfl, by decide +kernel, by decide +kernel⟩
abbrev s__law_sets : Stmt := topS 28
theorem sc__law_sets : FnScope ["_law_names", "_law_out", "_law_places", "_law_at"] ["_law_names"] (defScope s__law_sets) := ⟨rfl, rfl, rfl, by decide +kernel, rfl, by decide +kernel, by decide +kernel⟩
abbrev s__law_has : Stmt := topS 29
theorem sc__law_has : FnScope ["_law_one", "_law_needed", "_law_told"] ["_law_one", "_law_needed"] (defScope s__law_has) := ⟨rfl, rfl, rfl, by decide +kernel, rfl, by decide +kernel, by decide +kernel⟩
abbrev s__law_combinations : Stmt := topS 30
theorem sc__law_combinations : FnScope ["_law_names", "_law_size", "_law_out", "_law_many", "_law_one", "_law_number_here", "_law_left", "_law_setting"] ["_law_names", "_law_size"] (defScope s__law_combinations) := ⟨rfl, rfl, rfl, by decide +kernel, rfl, by decide +kernel, by decide +kernel⟩
abbrev s__law_labels : Stmt := topS 31
theorem sc__law_labels : FnScope ["_law_shape", "_law_setting", "_law_part"] ["_law_shape", "_law_setting"] (defScope s__law_labels) := ⟨rfl, rfl, rfl, by decide +kernel, rfl, by decide +kernel, by decide +kernel⟩
abbrev s__law_shown_needs : Stmt := topS 32
theorem sc__law_shown_needs : FnScope ["_law_shape", "_law_names", "_law_out", "_law_one", "_law_setting", "_law_other"] ["_law_shape", "_law_names"] (defScope s__law_shown_needs) := ⟨rfl, rfl, rfl, by decide +kernel, rfl, by decide +kernel, by decide +kernel⟩
abbrev s__law_changing : Stmt := topS 33
theorem sc__law_changing : FnScope ["_law_form_here", "_law_names", "_law_rows", "_law_row", "_law_worths", "_law_out", "_law_at", "_law_further", "_law_changed", "_law_one"] ["_law_form_here", "_law_names"] (defScope s__law_changing) := ⟨rfl, rfl, rfl, by decide +kernel, rfl, by decide +kernel, by decide +kernel⟩
abbrev s__law_settings_told : Stmt := topS 34
theorem sc__law_settings_told : FnScope ["_law_told", "_law_names", "_law_missed", "_law_setting", "_law_one"] ["_law_told", "_law_names", "_law_missed"] (defScope s__law_settings_told) := ⟨rfl, rfl, rfl, by decide +kernel, rfl, by decide +kernel, by decide +kernel⟩
abbrev s__law_triple : Stmt := topS 35
theorem sc__law_triple : FnScope ["_law_told", "_law_names", "_law_due", "_law_missed"] ["_law_told", "_law_names", "_law_due", "_law_missed"] (defScope s__law_triple) := ⟨rfl, rfl, rfl, by decide +kernel, rfl, by decide +kernel, by decide +kernel⟩
abbrev s__law_lot : Stmt := topS 36
theorem sc__law_lot : FnScope ["_law_names", "_law_needed", "_law_strange", "_law_changing_here", "_law_every", "_law_one", "_law_due", "_law_least", "_law_most", "_law_number_here", "_law_chosen", "_law_schedule", "_law_missed", "_law_told", "_law_at"] ["_law_names", "_law_needed", "_law_strange", "_law_changing_here"] (defScope s__law_lot) := ⟨rfl, rfl, rfl, by decide +kernel, rfl, by decide +kernel, by decide +kernel⟩
abbrev s_law : Stmt := topS 37
theorem sc_law : FnScope ["_law_script", "_law_bag_here", "_law_used", "_law_names", "_law_form_here", "_law_changing_here", "_law_needed", "_law_strange", "_law_other", "_law_step", "_law_one"] ["_law_script"] (defScope s_law) := ⟨rfl, rfl, rfl, by decide +kernel, rfl, by decide +kernel, by decide +kernel⟩

structure Txt (K : PySem.W.Frag) (mg : Str → Option Value) where
  f_all_sets : Addr
  d_all_sets : FuncData
  F_all_sets : Fun K "all_sets" "all_sets" s_all_sets f_all_sets d_all_sets
  b_all_sets : Binds K d_all_sets ["things"] []
  g_all_sets : mg "all_sets" = some (.ref f_all_sets)
  f_is_name : Addr
  d_is_name : FuncData
  F_is_name : Fun K "is_name" "is_name" s_is_name f_is_name d_is_name
  b_is_name : Binds K d_is_name ["thing"] []
  g_is_name : mg "is_name" = some (.ref f_is_name)
  f__is_set : Addr
  d__is_set : FuncData
  F__is_set : Fun K "_is_set" "_is_set" s__is_set f__is_set d__is_set
  b__is_set : Binds K d__is_set ["names"] []
  g__is_set : mg "_is_set" = some (.ref f__is_set)
  f__check_names : Addr
  d__check_names : FuncData
  F__check_names : Fun K "_check_names" "_check_names" s__check_names f__check_names d__check_names
  b__check_names : Binds K d__check_names ["names"] []
  g__check_names : mg "_check_names" = some (.ref f__check_names)
  f__all_sets : Addr
  d__all_sets : FuncData
  F__all_sets : Fun K "_all_sets" "_all_sets" s__all_sets f__all_sets d__all_sets
  b__all_sets : Binds K d__all_sets ["names"] []
  g__all_sets : mg "_all_sets" = some (.ref f__all_sets)
  f__in_order : Addr
  d__in_order : FuncData
  F__in_order : Fun K "_in_order" "_in_order" s__in_order f__in_order d__in_order
  b__in_order : Binds K d__in_order ["names", "changed"] []
  g__in_order : mg "_in_order" = some (.ref f__in_order)
  f__has_needed : Addr
  d__has_needed : FuncData
  F__has_needed : Fun K "_has_needed" "_has_needed" s__has_needed f__has_needed d__has_needed
  b__has_needed : Binds K d__has_needed ["changed", "needs"] []
  g__has_needed : mg "_has_needed" = some (.ref f__has_needed)
  f_spoiling : Addr
  d_spoiling : FuncData
  F_spoiling : Fun K "spoiling" "spoiling" s_spoiling f_spoiling d_spoiling
  b_spoiling : Binds K d_spoiling ["schedule", "needs"] []
  g_spoiling : mg "spoiling" = some (.ref f_spoiling)
  f__law_mixed : Addr
  d__law_mixed : FuncData
  F__law_mixed : Fun K "_law_mixed" "_law_mixed" s__law_mixed f__law_mixed d__law_mixed
  b__law_mixed : Binds K d__law_mixed ["_law_number_here", "_law_turn"] []
  g__law_mixed : mg "_law_mixed" = some (.ref f__law_mixed)
  f__law_bag : Addr
  d__law_bag : FuncData
  F__law_bag : Fun K "_law_bag" "_law_bag" s__law_bag f__law_bag d__law_bag
  b__law_bag : Binds K d__law_bag ["_law_script"] []
  g__law_bag : mg "_law_bag" = some (.ref f__law_bag)
  f__law_pick : Addr
  d__law_pick : FuncData
  F__law_pick : Fun K "_law_pick" "_law_pick" s__law_pick f__law_pick d__law_pick
  b__law_pick : Binds K d__law_pick ["_law_bag_here", "_law_many"] []
  g__law_pick : mg "_law_pick" = some (.ref f__law_pick)
  f__law_choice : Addr
  d__law_choice : FuncData
  F__law_choice : Fun K "_law_choice" "_law_choice" s__law_choice f__law_choice d__law_choice
  b__law_choice : Binds K d__law_choice ["_law_bag_here", "_law_things"] []
  g__law_choice : mg "_law_choice" = some (.ref f__law_choice)
  f__law_mingled : Addr
  d__law_mingled : FuncData
  F__law_mingled : Fun K "_law_mingled" "_law_mingled" s__law_mingled f__law_mingled d__law_mingled
  b__law_mingled : Binds K d__law_mingled ["_law_bag_here", "_law_things"] []
  g__law_mingled : mg "_law_mingled" = some (.ref f__law_mingled)
  f__law_number : Addr
  d__law_number : FuncData
  F__law_number : Fun K "_law_number" "_law_number" s__law_number f__law_number d__law_number
  b__law_number : Binds K d__law_number ["_law_thing"] []
  g__law_number : mg "_law_number" = some (.ref f__law_number)
  f__law_new_name : Addr
  d__law_new_name : FuncData
  F__law_new_name : Fun K "_law_new_name" "_law_new_name" s__law_new_name f__law_new_name d__law_new_name
  b__law_new_name : Binds K d__law_new_name ["_law_bag_here", "_law_used"] []
  g__law_new_name : mg "_law_new_name" = some (.ref f__law_new_name)
  f__law_form : Addr
  d__law_form : FuncData
  F__law_form : Fun K "_law_form" "_law_form" s__law_form f__law_form d__law_form
  b__law_form : Binds K d__law_form ["_law_bag_here", "_law_readable", "_law_levels"] []
  g__law_form : mg "_law_form" = some (.ref f__law_form)
  f__law_value : Addr
  d__law_value : FuncData
  F__law_value : Fun K "_law_value" "_law_value" s__law_value f__law_value d__law_value
  b__law_value : Binds K d__law_value ["_law_form_here", "_law_worths"] []
  g__law_value : mg "_law_value" = some (.ref f__law_value)
  f__law_some : Addr
  d__law_some : FuncData
  F__law_some : Fun K "_law_some" "_law_some" s__law_some f__law_some d__law_some
  b__law_some : Binds K d__law_some ["_law_bag_here", "_law_things"] []
  g__law_some : mg "_law_some" = some (.ref f__law_some)
  f__law_sets : Addr
  d__law_sets : FuncData
  F__law_sets : Fun K "_law_sets" "_law_sets" s__law_sets f__law_sets d__law_sets
  b__law_sets : Binds K d__law_sets ["_law_names"] []
  g__law_sets : mg "_law_sets" = some (.ref f__law_sets)
  f__law_has : Addr
  d__law_has : FuncData
  F__law_has : Fun K "_law_has" "_law_has" s__law_has f__law_has d__law_has
  b__law_has : Binds K d__law_has ["_law_one", "_law_needed"] []
  g__law_has : mg "_law_has" = some (.ref f__law_has)
  f__law_combinations : Addr
  d__law_combinations : FuncData
  F__law_combinations : Fun K "_law_combinations" "_law_combinations" s__law_combinations f__law_combinations d__law_combinations
  b__law_combinations : Binds K d__law_combinations ["_law_names", "_law_size"] []
  g__law_combinations : mg "_law_combinations" = some (.ref f__law_combinations)
  f__law_labels : Addr
  d__law_labels : FuncData
  F__law_labels : Fun K "_law_labels" "_law_labels" s__law_labels f__law_labels d__law_labels
  b__law_labels : Binds K d__law_labels ["_law_shape", "_law_setting"] []
  g__law_labels : mg "_law_labels" = some (.ref f__law_labels)
  f__law_shown_needs : Addr
  d__law_shown_needs : FuncData
  F__law_shown_needs : Fun K "_law_shown_needs" "_law_shown_needs" s__law_shown_needs f__law_shown_needs d__law_shown_needs
  b__law_shown_needs : Binds K d__law_shown_needs ["_law_shape", "_law_names"] []
  g__law_shown_needs : mg "_law_shown_needs" = some (.ref f__law_shown_needs)
  f__law_changing : Addr
  d__law_changing : FuncData
  F__law_changing : Fun K "_law_changing" "_law_changing" s__law_changing f__law_changing d__law_changing
  b__law_changing : Binds K d__law_changing ["_law_form_here", "_law_names"] []
  g__law_changing : mg "_law_changing" = some (.ref f__law_changing)
  f__law_settings_told : Addr
  d__law_settings_told : FuncData
  F__law_settings_told : Fun K "_law_settings_told" "_law_settings_told" s__law_settings_told f__law_settings_told d__law_settings_told
  b__law_settings_told : Binds K d__law_settings_told ["_law_told", "_law_names", "_law_missed"] []
  g__law_settings_told : mg "_law_settings_told" = some (.ref f__law_settings_told)
  f__law_triple : Addr
  d__law_triple : FuncData
  F__law_triple : Fun K "_law_triple" "_law_triple" s__law_triple f__law_triple d__law_triple
  b__law_triple : Binds K d__law_triple ["_law_told", "_law_names", "_law_due", "_law_missed"] []
  g__law_triple : mg "_law_triple" = some (.ref f__law_triple)
  f__law_lot : Addr
  d__law_lot : FuncData
  F__law_lot : Fun K "_law_lot" "_law_lot" s__law_lot f__law_lot d__law_lot
  b__law_lot : Binds K d__law_lot ["_law_names", "_law_needed", "_law_strange", "_law_changing_here"] []
  g__law_lot : mg "_law_lot" = some (.ref f__law_lot)
  f_law : Addr
  d_law : FuncData
  F_law : Fun K "law" "law" s_law f_law d_law
  b_law : Binds K d_law ["_law_script"] []
  g_law : mg "law" = some (.ref f_law)
  C_Schedule : Addr
  g_Schedule : mg "Schedule" = some (.ref C_Schedule)
  cl_Schedule : Cls K C_Schedule
  mk_Schedule : PySem.W.makesIn K C_Schedule = true
  kc_Schedule : PySem.W.keepIn K (.ref C_Schedule) = true
  nf_Schedule : PySem.W.notFirst K C_Schedule (.ref C_Schedule) = true
  in_Schedule : C8.InsC K C_Schedule
  nA_Schedule__names : NoAttr K C_Schedule "_names"
  nA_Schedule__sets : NoAttr K C_Schedule "_sets"
  f_Schedule___init__ : Addr
  d_Schedule___init__ : FuncData
  F_Schedule___init__ : Fun K "__init__" "Schedule.__init__" s_Schedule___init__ f_Schedule___init__ d_Schedule___init__
  b_Schedule___init__ : Binds K d_Schedule___init__ ["self", "names", "sets"] []
  a_Schedule___init__ : PySem.W.findIn K (.ref C_Schedule) "__init__" = some (some (.ref f_Schedule___init__))
  i_Schedule___init__ : PySem.W.isFn K (.ref f_Schedule___init__) = true
  n_Schedule___init__ : PySem.W.fnIn K f_Schedule___init__ = true
  f_Schedule___contains__ : Addr
  d_Schedule___contains__ : FuncData
  F_Schedule___contains__ : Fun K "__contains__" "Schedule.__contains__" s_Schedule___contains__ f_Schedule___contains__ d_Schedule___contains__
  b_Schedule___contains__ : Binds K d_Schedule___contains__ ["self", "changed"] []
  a_Schedule___contains__ : PySem.W.findIn K (.ref C_Schedule) "__contains__" = some (some (.ref f_Schedule___contains__))
  i_Schedule___contains__ : PySem.W.isFn K (.ref f_Schedule___contains__) = true
  n_Schedule___contains__ : PySem.W.fnIn K f_Schedule___contains__ = true
  f_Schedule___le__ : Addr
  d_Schedule___le__ : FuncData
  F_Schedule___le__ : Fun K "__le__" "Schedule.__le__" s_Schedule___le__ f_Schedule___le__ d_Schedule___le__
  b_Schedule___le__ : Binds K d_Schedule___le__ ["self", "other"] []
  a_Schedule___le__ : PySem.W.findIn K (.ref C_Schedule) "__le__" = some (some (.ref f_Schedule___le__))
  i_Schedule___le__ : PySem.W.isFn K (.ref f_Schedule___le__) = true
  n_Schedule___le__ : PySem.W.fnIn K f_Schedule___le__ = true
  f_Schedule___eq__ : Addr
  d_Schedule___eq__ : FuncData
  F_Schedule___eq__ : Fun K "__eq__" "Schedule.__eq__" s_Schedule___eq__ f_Schedule___eq__ d_Schedule___eq__
  b_Schedule___eq__ : Binds K d_Schedule___eq__ ["self", "other"] []
  a_Schedule___eq__ : PySem.W.findIn K (.ref C_Schedule) "__eq__" = some (some (.ref f_Schedule___eq__))
  i_Schedule___eq__ : PySem.W.isFn K (.ref f_Schedule___eq__) = true
  n_Schedule___eq__ : PySem.W.fnIn K f_Schedule___eq__ = true
  f_Schedule___iter__ : Addr
  d_Schedule___iter__ : FuncData
  F_Schedule___iter__ : Fun K "__iter__" "Schedule.__iter__" s_Schedule___iter__ f_Schedule___iter__ d_Schedule___iter__
  b_Schedule___iter__ : Binds K d_Schedule___iter__ ["self"] []
  a_Schedule___iter__ : PySem.W.findIn K (.ref C_Schedule) "__iter__" = some (some (.ref f_Schedule___iter__))
  i_Schedule___iter__ : PySem.W.isFn K (.ref f_Schedule___iter__) = true
  n_Schedule___iter__ : PySem.W.fnIn K f_Schedule___iter__ = true
  f_Schedule_missed : Addr
  d_Schedule_missed : FuncData
  F_Schedule_missed : Fun K "missed" "Schedule.missed" s_Schedule_missed f_Schedule_missed d_Schedule_missed
  b_Schedule_missed : Binds K d_Schedule_missed ["self", "needs"] []
  a_Schedule_missed : PySem.W.findIn K (.ref C_Schedule) "missed" = some (some (.ref f_Schedule_missed))
  i_Schedule_missed : PySem.W.isFn K (.ref f_Schedule_missed) = true
  n_Schedule_missed : PySem.W.fnIn K f_Schedule_missed = true
  f_Schedule_least : Addr
  d_Schedule_least : FuncData
  F_Schedule_least : Fun K "least" "Schedule.least" s_Schedule_least f_Schedule_least d_Schedule_least
  b_Schedule_least : Binds K d_Schedule_least ["names", "needs"] []
  p_Schedule_least : Addr
  M_Schedule_least : SMet K C_Schedule (.type "type") "least" p_Schedule_least f_Schedule_least
  C_ScreenError : Addr
  g_ScreenError : mg "ScreenError" = some (.ref C_ScreenError)
  hd_ScreenError : PySem.W.hasDictIn K C_ScreenError = true
  ty_ScreenError : PySem.W.typeIn K (.ref C_ScreenError) = some (.type "type")
  be_ScreenError : PySem.W.subIn K (.ref C_ScreenError) (.type "BaseException") = some true
  vb_ScreenError : PySem.W.subIn K (.ref C_ScreenError) (.type "ValueError") = some true
  C_BadNames : Addr
  g_BadNames : mg "BadNames" = some (.ref C_BadNames)
  hd_BadNames : PySem.W.hasDictIn K C_BadNames = true
  ty_BadNames : PySem.W.typeIn K (.ref C_BadNames) = some (.type "type")
  be_BadNames : PySem.W.subIn K (.ref C_BadNames) (.type "BaseException") = some true
  vb_BadNames : PySem.W.subIn K (.ref C_BadNames) (.type "ValueError") = some true
  ox_BadNames : OexC K C_BadNames
  xf_BadNames : XfC K C_BadNames
  is_BadNames : ExcC K C_BadNames
  f_BadNames___init__ : Addr
  d_BadNames___init__ : FuncData
  F_BadNames___init__ : Fun K "__init__" "BadNames.__init__" s_BadNames___init__ f_BadNames___init__ d_BadNames___init__
  b_BadNames___init__ : Binds K d_BadNames___init__ ["self", "told"] []
  iC_BadNames : PySem.W.findIn K (.ref C_BadNames) "__init__" = some (some (.ref f_BadNames___init__))
  tI_BadNames : PySem.W.typeIn K (.ref f_BadNames___init__) = some (.type "function")
  nf_BadNames_told : PySem.W.findIn K (.ref C_BadNames) "told" = some none
  ne_BadNames_ScreenError : C_BadNames ≠ C_ScreenError
  s_BadNames_ScreenError : PySem.W.subIn K (.ref C_BadNames) (.ref C_ScreenError) = some true
  m_ValueError : mg "ValueError" = none
  m_abs : mg "abs" = none
  m_all : mg "all" = none
  m_any : mg "any" = none
  m_bool : mg "bool" = none
  m_dict : mg "dict" = none
  m_enumerate : mg "enumerate" = none
  m_int : mg "int" = none
  m_isinstance : mg "isinstance" = none
  m_iter : mg "iter" = none
  m_len : mg "len" = none
  m_list : mg "list" = none
  m_range : mg "range" = none
  m_repr : mg "repr" = none
  m_set : mg "set" = none
  m_str : mg "str" = none
  m_tuple : mg "tuple" = none
  t_MOST_LETTERS : Tok
  c_MOST_LETTERS : mg "MOST_LETTERS" = some (.int 8 t_MOST_LETTERS)
  t_MOST_NAMES : Tok
  c_MOST_NAMES : mg "MOST_NAMES" = some (.int 3 t_MOST_NAMES)
section
variable {P : Program} {w : World} {K : PySem.W.Frag} {mg : Str → Option Value} {base : Heap}
def sp_mixed : Sp := fun vs H Q _ => ∃ a t : Int, vs = [.int a, .int t] ∧ ∀ w : Int, 0 ≤ w → Q (.int w) H
theorem ok_mixed (T : Txt K mg) : FnOk P w K mg base CX0 1 T.f__law_mixed T.d__law_mixed ["_law_number_here", "_law_turn"] sp_mixed := by
  refine T.F__law_mixed.ok sc__law_mixed (fun vs H Q E h => ?_) (fun cdv A outer s H vs Q E hr h => ?_)
  · obtain ⟨a, t, rfl, _⟩ := h
    rfl
  · obtain ⟨a, t, rfl, q⟩ := h
    refine ⟨_, (pss_cons (ps_set (i := 2) sc__law_mixed.nd rfl (Or.inl rfl) (pe_op op_mod (pe_callTy call_int1 (by rfl) T.m_int (by decide +kernel) (pa_cons (pe_op op_add (pe_op op_mul (pe_op op_add (pv 0) pe_int) pe_int) (pe_op op_mul (pe_op op_add (pv 1) pe_int) pe_int)) pa_nil)) pe_int))
      (pss_cons (ps_set (i := 3) sc__law_mixed.nd rfl (Or.inl rfl) (pe_op op_mod (pe_callTy call_int1 (by rfl) T.m_int (by decide +kernel) (pa_cons (pe_op op_add (pe_op op_add (pe_op op_mul (pv 2) (pv 2)) (pe_op op_mul (pv 2) pe_int)) (pe_op op_mul (pe_op op_add (pv 1) pe_int) pe_int)) pa_nil)) pe_int))
      (pss_one (ps_ret (pe_op op_mod (pe_callTy call_int1 (by rfl) T.m_int (by decide +kernel) (pa_cons (pe_op op_add (pe_op op_add (pe_op op_fdiv (pv 3) pe_int) (pe_op op_mul (pv 3) pe_int)) (pv 1)) pa_nil)) pe_int))))), ?_⟩
    walk_at "g"
    have h0 := Int.emod_nonneg ((a + 1) * 48271 + (t + 1) * 1103515245) (by decide : (2147483647 : Int) ≠ 0)
    have h1 := Int.emod_lt_of_pos ((a + 1) * 48271 + (t + 1) * 1103515245) (by decide : (0 : Int) < 2147483647)
    refine ⟨Or.inr ⟨by omega, by omega⟩, ?_⟩
    walk_at "g"
    refine q _ (Int.emod_nonneg _ (by decide))
/-- the bag is made -/
def sp_bag (K : PySem.W.Frag) : Sp := fun vs H Q _ => ∃ (a : Addr) (ns : List Int), vs = [.ref a] ∧ SqL K H a (ns.map V.int) ∧ ns.length ≤ 63 ∧
  ∀ b H', Same H H' → H b = none → Bag K (one b) H' b → Q (.ref b) H'
theorem ok_bag (T : Txt K mg) : FnOk P w K mg base CX0 1 T.f__law_bag T.d__law_bag ["_law_script"] (sp_bag K) := by
  refine T.F__law_bag.ok sc__law_bag (fun vs H Q E h => ?_) (fun cdv A outer s H vs Q E hr h => ?_)
  · obtain ⟨a, t, rfl, _⟩ := h
    rfl
  · obtain ⟨a, ns, rfl, hS, hlen, q⟩ := h
    refine ⟨_, (pss_cons (ps_setLc (i := 2) (own := [("_law_cell", 1)]) (g := gName 1) (tt := tYes) (by rfl) sc__law_bag.nd rfl rfl (sw_true rfl rfl rfl (by decide +kernel)) (pi_listK (K := K) rfl (pv 0)) (blkOk_by (own := [("_law_cell", 1)]) (N := ["_law_script", "_law_cell", "_law_numbers", "_law_seed", "_law_at"]) (sc := defScope s__law_bag) (by decide +kernel)) (fun _ _ _ _ _ => (pg_name (i := 1) sc__law_bag.nd rfl (Or.inl rfl))) (fun _ _ _ _ _ => pts_nil) (fun _ _ _ _ _ => (pe_callTy call_int1 (by rfl) T.m_int (by decide +kernel) (pa_cons (pv 1) pa_nil))))
      (pss_cons (ps_set (i := 3) sc__law_bag.nd rfl (Or.inl rfl) (pe_callB (call_lenK (K := K) rfl) (by rfl) T.m_len PySem.boot_len (pa_cons (pv 2) pa_nil)))
      (pss_cons (ps_for PassesOwn.never rfl (pi_enumK (K := K) rfl (by rfl) T.m_enumerate (pa_cons (pe_slice (sl_listK (K := K) rfl) (pv 2) po_none (po_some pe_int)) pa_nil)) (pg_tupK (K := K) rfl rfl (pgs_cons (pg_name (i := 4) sc__law_bag.nd rfl (Or.inl rfl)) (pgs_cons (pg_name (i := 1) sc__law_bag.nd rfl (Or.inl rfl)) pgs_nil))) (pss_one (ps_set (i := 3) sc__law_bag.nd rfl (Or.inl rfl) (pe_op op_mod (pe_callTy call_int1 (by rfl) T.m_int (by decide +kernel) (pa_cons (pe_op op_add (pe_op op_add (pe_op op_mul (pv 3) pe_int) (pe_op op_mod (pe_callTy call_int1 (by rfl) T.m_int (by decide +kernel) (pa_cons (pe_callB call_abs (by rfl) T.m_abs (by decide +kernel) (pa_cons (pv 1) pa_nil)) pa_nil)) pe_int)) (pe_op op_mul_ib (pe_op op_add (pv 4) pe_int) (pe_cmpR op_lt (pv 1) pe_int (nomark _)))) pa_nil)) pe_int))))
      (pss_one (ps_ret (pe_lst (pa_cons (pv 2) (pa_cons pe_int (pa_cons pe_int (pa_cons pe_int (pa_cons (pv 3) pa_nil))))))))))), ?_⟩
    refine ⟨.ref a, rfl, a, rfl, ⟨_, hS⟩, fun n hn => ?_⟩
    refine lc_list (K := K) (a := a) (xs := ns.map V.int) (fun i H' => Same H H' ∧ H' n = some (.lst ((ns.take i).map V.int))) ⟨same_new hn, by rw [upd_same]; rfl⟩ (fun i H' _ h => h.1.seq hS) (fun i x H' hx h => ?_) (fun H' h => ?_)
    · rw [List.getElem?_map] at hx
      obtain ⟨z, hz, rfl⟩ := Option.map_eq_some_iff.mp hx
      refine ⟨rfl, ?_⟩
      refine ⟨_, rfl, ?_⟩
      refine Or.inl ⟨_, rfl, ?_⟩
      refine ⟨_, h.2, ?_, fun b o e => ?_, ?_⟩
      · rw [List.length_map, List.length_take]
        exact small1000 (by omega)
      · rw [upd_ne (ne_of_none e hn)]
        exact h.1 b o e
      · rw [upd_same, List.take_add_one, hz, List.map_append]
        rfl
    · have h2 : H' n = some (.lst (ns.map V.int)) := by
        have e := h.2
        rwa [List.length_map, List.take_length] at e
      refine ⟨_, rfl, n, _, rfl, .inl (SqL.of h2), ?_⟩
      refine ⟨_, rfl, 63, rfl, n, _, rfl, SqL.of h2, fun c hc => ?_⟩
      have hcut : cutV (ns.map V.int) none (some 63) = ns.map V.int := by
        unfold cutV
        rw [show HT.sIx (ns.map V.int).length 0 none = 0 from HT.sIx_none .., show HT.sIx (ns.map V.int).length (ns.map V.int).length (some 63) = min 63 (ns.map V.int).length from HT.sIx_nat _ _ 63, List.drop_zero, Nat.sub_zero]
        rw [List.length_map, Nat.min_eq_right hlen]
        exact List.take_of_length_le (by rw [List.length_map]; exact Nat.le_refl _)
      rw [hcut]
      have hn' : n ≠ c := ne_of_none h2 hc
      refine ⟨c, _, rfl, SqL.of upd_same, ?_⟩
      refine for_enum (a := c) (xs := ns.map V.int) (fun i σ H2 => (∃ y1 z y4, σ = [some (.ref a), y1, some (.ref n), some (.int z), y4]) ∧ Same H H2 ∧ H2 n = some (.lst (ns.map V.int)) ∧ H2 c = some (.lst (ns.map V.int))) ⟨⟨_, _, _, rfl⟩, fun b o e => ?_, ?_, ?_⟩ (fun i σ H2 _ p => SqL.of p.2.2.2) (fun i x T σ H2 hx hT p => ?_) (fun σ H2 p => ?_)
      · rw [upd_ne (fun z => ?_)]
        · exact h.1 b o e
        · subst z
          rw [h.1 b o e] at hc
          cases hc
      · rw [upd_ne hn']
        exact h2
      · exact upd_same
      · obtain ⟨⟨y1, z, y4, rfl⟩, hs, e2, e3⟩ := p
        rw [List.getElem?_map] at hx
        obtain ⟨v, hv, rfl⟩ := Option.map_eq_some_iff.mp hx
        refine ⟨T, _, rfl, SqT.of upd_same, rfl, _, _, rfl, _, _, rfl, rfl, ?_⟩
        walk_at "g"
        have nT : n ≠ T := ne_of_none e2 hT
        have cT : c ≠ T := ne_of_none e3 hT
        refine ⟨⟨_, _, _, rfl⟩, fun b o e => same_new hT b o (hs b o e), ?_, ?_⟩
        · rw [upd_ne nT]
          exact e2
        · rw [upd_ne cT]
          exact e3
      · obtain ⟨⟨y1, z, y4, rfl⟩, hs, e2, e3⟩ := p
        refine ⟨_, rfl, _, rfl, (by show 5 ≤ sizeLine; decide), fun b hb => ?_⟩
        refine q b _ (fun x o e => same_new hb x o (hs x o e)) (hs.free hb) ⟨rfl, n, ns, 0, 0, 0, z, upd_same, fun e => ?_, .inl ?_, by decide, by decide⟩
        · exact ne_of_none e2 hb e
        · rw [upd_ne (ne_of_none e2 hb)]
          exact e2
/-- a number is drawn -/
def sp_pick (K : PySem.W.Frag) : Sp := fun vs H Q _ => ∃ (b : Addr) (m : Int) (M : Ms), vs = [.ref b, .int m] ∧ Bag K M H b ∧ 0 < m ∧ m < 1073741824 ∧
  ∀ (w : Int) (H' : Hp), 0 ≤ w → w < m → At b H H' → Bag K M H' b → Q (.int w) H'
theorem At.bag {M : Ms} {H H' : Hp} {b n : Addr} {ns : List Int} {p r t s : Int} (w : M b) (hn : ¬ M n) (rd : Rd H n (.lst (ns.map V.int))) (h : At b H H') (e : H' b = some (.lst [.ref n, .int p, .int r, .int t, .int s])) (hp : 0 ≤ p) (hr : 0 ≤ r) : Bag K M H' b :=
  ⟨w, n, ns, p, r, t, s, e, hn, sx_rd h.sx (fun z => hn (by rw [show n = b from z]; exact w)) rd, hp, hr⟩
theorem At.trans {H H1 H2 : Hp} {b : Addr} (h : At b H H1) (h' : At b H1 H2) : At b H H2 := fun a n => (h' a n).trans (h a n)
theorem ok_pick (T : Txt K mg) : FnOk P w K mg base CX0 2 T.f__law_pick T.d__law_pick ["_law_bag_here", "_law_many"] (sp_pick K) := by
  have G__law_mixed := ok_mixed (P := P) (w := w) (base := base) T
  refine T.F__law_pick.ok sc__law_pick (fun vs H Q E h => ?_) (fun cdv A outer s H vs Q E hr h => ?_)
  · obtain ⟨_, _, _, rfl, _⟩ := h
    rfl
  · obtain ⟨b, m, M, rfl, ⟨wb, n, ns, p, r, t, sd, hb, hn, rd, hp, hr0⟩, hm, hm2, q⟩ := h
    refine ⟨_, (pss_cons (ps_set (i := 2) sc__law_pick.nd rfl (Or.inl rfl) (pe_ix (ix_listK (K := K) rfl) (pv 0) pe_int (fun _ _ => rfl)))
      (pss_cons (ps_asg (pe_op op_add (pv 2) pe_int) (pg_sub (pv 0) pe_int set_list))
      (pss_cons (ps_if (PW.pt (pw_and (pt_cmpR op_eq (pe_ix (ix_listK (K := K) rfl) (pv 0) pe_int (fun _ _ => rfl)) pe_int (nomark _)) (pw_and1 (pt_cmpR op_lt (pe_ix (ix_listK (K := K) rfl) (pv 0) pe_int (fun _ _ => rfl)) (pe_callB (call_lenK (K := K) rfl) (by rfl) T.m_len PySem.boot_len (pa_cons (pe_ix (ix_listK (K := K) rfl) (pv 0) pe_int (fun _ _ => rfl)) pa_nil)) (nomark _))))) (pss_cons (ps_set (i := 3) sc__law_pick.nd rfl (Or.inl rfl) (pe_ix (ix_listK (K := K) rfl) (pe_ix (ix_listK (K := K) rfl) (pv 0) pe_int (fun _ _ => rfl)) (pe_ix (ix_listK (K := K) rfl) (pv 0) pe_int (fun _ _ => rfl)) (fun _ _ => rfl)))
      (pss_cons (ps_asg (pe_op op_add (pe_ix (ix_listK (K := K) rfl) (pv 0) pe_int (fun _ _ => rfl)) pe_int) (pg_sub (pv 0) pe_int set_list))
      (pss_cons (ps_if (pt_cmpR op_lt (pe_callB call_abs (by rfl) T.m_abs (by decide +kernel) (pa_cons (pv 3) pa_nil)) (pe_op op_pow pe_int pe_int) (nomark _)) (pss_one (ps_ret (pe_op op_mod (pe_callTy call_int1 (by rfl) T.m_int (by decide +kernel) (pa_cons (pe_call G__law_mixed (hr.mono (by omega)) (by rfl) T.g__law_mixed T.F__law_mixed.kp T.b__law_mixed .nil pass0 (pa_cons (pe_op op_add_ib (pe_op op_mul pe_int (pe_callB call_abs (by rfl) T.m_abs (by decide +kernel) (pa_cons (pv 3) pa_nil))) (pe_cmpR op_lt (pv 3) pe_int (nomark _))) (pa_cons (pv 2) pa_nil))) pa_nil)) (pv 1)))) pss_nil)
      (pss_one (ps_asg (pe_callB call_abs (by rfl) T.m_abs (by decide +kernel) (pa_cons (pv 3) pa_nil)) (pg_sub (pv 0) pe_int set_list)))))) pss_nil)
      (pss_cons (ps_if (pt_cmpR op_eq (pe_ix (ix_listK (K := K) rfl) (pv 0) pe_int (fun _ _ => rfl)) pe_int (nomark _)) (pss_one (ps_ret (pe_op op_mod (pe_callTy call_int1 (by rfl) T.m_int (by decide +kernel) (pa_cons (pe_call G__law_mixed (hr.mono (by omega)) (by rfl) T.g__law_mixed T.F__law_mixed.kp T.b__law_mixed .nil pass0 (pa_cons (pe_ix (ix_listK (K := K) rfl) (pv 0) pe_int (fun _ _ => rfl)) (pa_cons (pv 2) pa_nil))) pa_nil)) (pv 1)))) pss_nil)
      (pss_cons (ps_set (i := 4) sc__law_pick.nd rfl (Or.inl rfl) (pe_op op_mod (pe_callTy call_int1 (by rfl) T.m_int (by decide +kernel) (pa_cons (pe_ix (ix_listK (K := K) rfl) (pv 0) pe_int (fun _ _ => rfl)) pa_nil)) (pv 1)))
      (pss_cons (ps_asg (pe_op op_fdiv (pe_ix (ix_listK (K := K) rfl) (pv 0) pe_int (fun _ _ => rfl)) (pv 1)) (pg_sub (pv 0) pe_int set_list))
      (pss_one (ps_ret (pv 4))))))))), ?_⟩
    -- turn
    walk_at "g"
    walk_at "set"
    generalize e1 : upd H b _ = H1
    have a1 : At b H H1 := by rw [← e1]; exact At.upd
    have b1 : H1 b = some (.lst [.ref n, .int p, .int r, .int (t + 1), .int sd]) := by rw [← e1, upd_same]; rfl
    have rd1 : Rd H1 n (.lst (ns.map V.int)) := sx_rd a1.sx (fun z => hn (by rw [show n = b from z]; exact wb)) rd
    clear e1
    have fin : ∀ (w : Int) (H' : Hp) (p' r' t' : Int), At b H H' → H' b = some (.lst [.ref n, .int p', .int r', .int t', .int sd]) → 0 ≤ p' → 0 ≤ r' → Q (.int (w % m)) H' := fun w H' p' r' t' ha e h1 h2 =>
      q _ _ (Int.emod_nonneg _ (by omega)) (Int.emod_lt_of_pos _ hm) ha (ha.bag wb hn rd e h1 h2)
    with_reducible refine seq_join (fun σ H' => ∃ y3 p' r', σ = [some (.ref b), some (.int m), some (.int t), y3, none] ∧ At b H H' ∧ H' b = some (.lst [.ref n, .int p', .int r', .int (t + 1), .int sd]) ∧ 0 ≤ p' ∧ 0 ≤ r') (fun hN => ?_) (fun σ H' c => ?_)
    · have hN0 := hN _ _ ⟨none, p, r, rfl, a1, b1, hp, hr0⟩
      walk_at "g"
      walk_at "if"
      · walk_at "g"
        walk_at "if"
        · rename_i ep
          have ep' : p < ((ns.map V.int).length : Int) := of_decide_eq_true ep
          obtain ⟨j, rfl⟩ : ∃ j : Nat, p = (j : Int) := ⟨p.toNat, by omega⟩
          have hj : j < ns.length := by
            rw [List.length_map] at ep'
            omega
          have hcell : (ns.map V.int)[j]? = some (.int ns[j]) := by
            rw [List.getElem?_map, List.getElem?_eq_getElem hj]
            rfl
          walk_at "g"
          refine ⟨n, _, _, _, rfl, rfl, Or.inl rd1, atI_nat hcell, ?_⟩
          walk_at "g"
          walk_at "set"
          generalize e2 : upd H1 b _ = H2
          have a2 : At b H H2 := by rw [← e2]; exact a1.trans At.upd
          have b2 : H2 b = some (.lst [.ref n, .int ((j : Int) + 1), .int r, .int (t + 1), .int sd]) := by rw [← e2, upd_same]; rfl
          clear e2
          generalize ns[j] = c
          walk_at "g"
          walk_at "if"
          · walk_at "g"
            refine ⟨_, _, rfl, fun z hz => ?_⟩
            walk_at "g"
            refine ⟨hm, ?_⟩
            exact fin _ _ _ _ _ a2 b2 (by omega) hr0
          · walk_at "g"
            walk_at "set"
            exact hN _ _ ⟨_, _, _, rfl, a2.trans At.upd, upd_same, by omega, by split <;> omega⟩
        · exact hN0
      · exact hN0
    · obtain ⟨y3, p', r', rfl, a2, b2, hp2, hr2⟩ := c
      walk_at "g"
      walk_at "if"
      · walk_at "g"
        refine ⟨_, _, rfl, fun z hz => ?_⟩
        walk_at "g"
        refine ⟨hm, ?_⟩
        exact fin _ _ _ _ _ a2 b2 hp2 hr2
      · walk_at "g"
        refine ⟨hm, ?_⟩
        walk_at "g"
        refine ⟨⟨hm, hm2⟩, ?_⟩
        walk_at "g"
        walk_at "set"
        walk_at "g"
        exact fin _ _ _ _ _ (a2.trans At.upd) upd_same hp2 (Int.ediv_nonneg hr2 (by omega))
/-- one thing of a list is chosen -/
def sp_choice (K : PySem.W.Frag) : Sp := fun vs H Q _ => ∃ (b a : Addr) (xs : List V) (M : Ms), vs = [.ref b, .ref a] ∧ Bag K M H b ∧ SqL K H a xs ∧ a ≠ b ∧ 0 < xs.length ∧ xs.length < 1000000 ∧
  ∀ (v : V) (H' : Hp), v ∈ xs → At b H H' → Bag K M H' b → Q v H'
theorem at_pos {α : Type} {xs : List α} {w : Int} (h0 : 0 ≤ w) (h1 : w < (xs.length : Int)) : ∃ v, atI xs w = some v ∧ v ∈ xs ∧ xs[w.toNat]? = some v := by
  obtain ⟨j, rfl⟩ : ∃ j : Nat, w = (j : Int) := ⟨w.toNat, by omega⟩
  have hj : j < xs.length := by omega
  exact ⟨xs[j], atI_nat (List.getElem?_eq_getElem hj), List.getElem_mem hj, List.getElem?_eq_getElem hj⟩
theorem ok_choice (T : Txt K mg) : FnOk P w K mg base CX0 3 T.f__law_choice T.d__law_choice ["_law_bag_here", "_law_things"] (sp_choice K) := by
  have G__law_pick := ok_pick (P := P) (w := w) (base := base) T
  refine T.F__law_choice.ok sc__law_choice (fun vs H Q E h => ?_) (fun cdv A outer s H vs Q E hr h => ?_)
  · obtain ⟨_, _, _, _, rfl, _⟩ := h
    rfl
  · obtain ⟨b, a, xs, M, rfl, hB, hS, hab, hl, hl2, q⟩ := h
    refine ⟨_, (pss_one (ps_ret (pe_ix (ix_listK (K := K) rfl) (pv 1) (pe_call G__law_pick (hr.mono (by omega)) (by rfl) T.g__law_pick T.F__law_pick.kp T.b__law_pick .nil pass0 (pa_cons (pv 0) (pa_cons (pe_callB (call_lenK (K := K) rfl) (by rfl) T.m_len PySem.boot_len (pa_cons (pv 1) pa_nil)) pa_nil))) (fun _ _ => rfl)))), ?_⟩
    walk_at "g"
    refine ⟨b, _, M, rfl, hB, by omega, by omega, fun w H' h0 h1 hA hB' => ?_⟩
    have hS' := sx_l hA.sx (fun z : a = b => hab z) hS
    obtain ⟨v, hv, hm, _⟩ := at_pos h0 h1
    exact ⟨_, _, _, _, rfl, rfl, hS', hv, q v H' hm hA hB'⟩
/-- a list is mingled -/
def sp_mingled (K : PySem.W.Frag) : Sp := fun vs H Q _ => ∃ (b : Addr) (a : V) (ds : List PyData) (M : Ms), vs = [.ref b, a] ∧ Bag K M H b ∧ Mk M H ∧ Rp M H a (.list ds) ∧ ds.length < 1000000 ∧
  Dr K M b H (fun d => ∃ es, d = .list es ∧ es.Perm ds) Q
theorem erase_perm {α : Type} : ∀ (l : List α) (j : Nat) (d : α), l[j]? = some d → (d :: l.eraseIdx j).Perm l
  | [], j, d, h => by simp at h
  | x :: r, 0, d, h => by
    have e := Option.some.inj h
    subst e
    exact .refl _
  | x :: r, j + 1, d, h => by
    have ih := erase_perm r j d h
    show (d :: x :: r.eraseIdx j).Perm (x :: r)
    exact (List.Perm.swap x d _).trans (ih.cons x)
theorem ok_mingled (T : Txt K mg) : FnOk P w K mg base CX0 3 T.f__law_mingled T.d__law_mingled ["_law_bag_here", "_law_things"] (sp_mingled K) := by
  have G__law_pick := ok_pick (P := P) (w := w) (base := base) T
  refine T.F__law_mingled.ok sc__law_mingled (fun vs H Q E h => ?_) (fun cdv A outer s H vs Q E hr h => ?_)
  · obtain ⟨_, _, _, _, rfl, _⟩ := h
    rfl
  · obtain ⟨b, a, ds, M, rfl, hB, hM, hR, hl, q⟩ := h
    cases hR with
    | @lst a xs _ na hS hA =>
    have el := hA.length
    refine ⟨_, (pss_cons (ps_set (i := 2) sc__law_mingled.nd rfl (Or.inl rfl) (pe_callTy (call_listK (K := K) rfl) (by rfl) T.m_list (by decide +kernel) (pa_cons (pv 1) pa_nil)))
      (pss_cons (ps_set (i := 3) sc__law_mingled.nd rfl (Or.inl rfl) (pe_lst pa_nil))
      (pss_cons (ps_for PassesOwn.never rfl (pi_range1 (by rfl) T.m_range (pa_cons (pe_callB (call_lenK (K := K) rfl) (by rfl) T.m_len PySem.boot_len (pa_cons (pv 1) pa_nil)) pa_nil)) (pg_name (i := 4) sc__law_mingled.nd rfl (Or.inl rfl)) (pss_one (ps_expr (pe_bmK2 (K := K) rfl PySem.F.plainAttrs_list PySem.F.slot_list_append PySem.F.type_list_append mt_append (pv 3) (pa_cons (pe_bmK2 (K := K) rfl PySem.F.plainAttrs_list PySem.F.slot_list_pop PySem.F.type_list_pop mt_popAt (pv 2) (pa_cons (pe_call G__law_pick (hr.mono (by omega)) (by rfl) T.g__law_pick T.F__law_pick.kp T.b__law_pick .nil pass0 (pa_cons (pv 0) (pa_cons (pe_callB (call_lenK (K := K) rfl) (by rfl) T.m_len PySem.boot_len (pa_cons (pv 2) pa_nil)) pa_nil))) pa_nil)) pa_nil)))))
      (pss_one (ps_ret (pv 3)))))), ?_⟩
    refine ⟨.ref a, rfl, a, xs, rfl, .inl (.inl hS), fun l nl => ?_⟩
    refine ⟨by show 0 ≤ sizeLine; exact Nat.zero_le _, fun o no => ?_⟩
    have lo : l ≠ o := ne_of_none upd_same no
    have Rl := hA.fresh nl
    generalize e1 : upd (upd H l _) o _ = H1
    have s1 : Same H H1 := fun c u e => by rw [← e1]; exact same_new no c u (same_new nl c u e)
    have l1 : H1 l = some (.lst xs) := by rw [← e1, upd_ne lo, upd_same]
    have o1 : H1 o = some (.lst []) := by rw [← e1, upd_same]
    have no0 : H o = none := by
      rw [upd_ne lo.symm] at no
      exact no
    clear e1
    refine ⟨.ref a, rfl, a, xs, rfl, .inl (s1.seq (.inl hS)), ?_⟩
    refine ⟨_, rfl, by omega, by omega, ?_⟩
    have hbl : b ≠ l := fun z => hB.there (by rw [z]; exact nl)
    have hbo : b ≠ o := fun z => hB.there (by rw [z]; exact no0)
    let N : Ms := also (also M l) o
    let F : Ms := also (also (one b) l) o
    have FN : ∀ c, F c → N c := fun c z => z.elim (fun z => z.elim (fun z => .inl (.inl (one_le hB.w c z))) fun z => .inl (.inr z)) .inr
    have hB1 : Bag K N H1 b := by
      have h1 := (hB.more nl).more no0
      exact h1.keep (N := fun _ => False) (fun c u _ e => s1 c u e) (fun z => z) (fun _ z => z.elim)
    have R1 : RpAll N H1 xs ds := (Rl.fresh no0).sx (Sx.same s1)
    refine for_range (lo := 0) (n := (xs.length : Int).toNat) (fun i σ H2 => (∃ y4, σ = [some (.ref b), some (.ref a), some (.ref l), some (.ref o), y4]) ∧ Sx F H H2 ∧ Gr H H2 ∧ Bag K N H2 b ∧
      ∃ ls os es fs, H2 l = some (.lst ls) ∧ H2 o = some (.lst os) ∧ RpAll N H2 ls es ∧ RpAll N H2 os fs ∧ ls.length + i = xs.length ∧ os.length = i ∧ (es ++ fs).Perm ds) ?_ (fun i σ H2 hi p => ?_) (fun σ H2 p => ?_)
    · exact ⟨⟨_, rfl⟩, Sx.same s1, Gr.same s1, hB1, xs, [], ds, [], l1, o1, R1, .nil, by omega, rfl, by rw [List.append_nil]⟩
    · obtain ⟨⟨y4, rfl⟩, s2, g2, hB2, ls, os, es, fs, l2, o2, Re, Rf, e1, e2, m1⟩ := p
      have hls : 0 < ls.length := by omega
      refine ⟨.ref o, rfl, .inl ⟨rfl, _, SqL.of o2⟩, .ref l, rfl, .inl ⟨rfl, _, SqL.of l2⟩, ?_⟩
      walk_at "g"
      refine ⟨b, _, N, rfl, hB2, by omega, by omega, fun w H3 h0 h1 hA3 hB3 => ?_⟩
      have l3 : H3 l = some (.lst ls) := (hA3 l hbl.symm).trans l2
      have o3 : H3 o = some (.lst os) := (hA3 o hbo.symm).trans o2
      obtain ⟨j, rfl⟩ : ∃ j : Nat, w = (j : Int) := ⟨w.toNat, by omega⟩
      have hj : j < ls.length := by omega
      have s3 : Sx F H2 H3 := hA3.sx.le fun c z => .inl (.inl z)
      have Re3 := Re.sx (s3.le FN)
      obtain ⟨d, hd, Rd⟩ := Re3.get (List.getElem?_eq_getElem hj)
      refine ⟨l, ls, (j : Int), j, ls[j], rfl, rfl, l3, by omega, by omega, ?_, List.getElem?_eq_getElem hj, ?_⟩
      · exact seqIx hj
      · have lno : o ≠ l := lo.symm
        have o4 : upd H3 l (.lst (ls.eraseIdx j)) o = some (.lst os) := by rw [upd_ne lno]; exact o3
        refine ⟨o, os, ls[j], rfl, rfl, o4, small1000000 (by omega), ?_⟩
        have s4 : Sx F H3 (upd (upd H3 l (.lst (ls.eraseIdx j))) o (.lst (os ++ [ls[j]]))) := (Sx.put (show F l from .inl (.inr rfl))).trans (Sx.put (show F o from .inr rfl))
        have em := Re3.length
        refine ⟨⟨_, rfl⟩, s2.trans (s3.trans s4), g2.trans ((At.gr hA3 hB3.there).trans (Gr.upd.trans Gr.upd)), ?_, ls.eraseIdx j, os ++ [ls[j]], es.eraseIdx j, fs ++ [d], ?_, upd_same, (Re3.eraseIdx j).sx (s4.le FN), ((Rf.sx (s3.le FN)).append (.one Rd)).sx (s4.le FN), ?_, ?_, ?_⟩
        · exact (hB3.keep (N := one l) (Sx.put rfl) hbl (fun c z => by rw [show c = l from z]; exact .inl (.inr rfl))).keep (N := one o) (Sx.put rfl) hbo (fun c z => by rw [show c = o from z]; exact .inr rfl)
        · rw [upd_ne lo, upd_same]
        · rw [List.length_eraseIdx_of_lt hj]
          omega
        · rw [List.length_append, e2]
          rfl
        · refine List.Perm.trans ?_ m1
          rw [← List.append_assoc]
          refine (List.perm_append_comm).trans ?_
          exact (List.Perm.append_right fs (erase_perm es j d hd))
    · obtain ⟨⟨y4, rfl⟩, s2, g2, hB2, ls, os, es, fs, l2, o2, Re, Rf, e1, e2, m1⟩ := p
      refine ⟨.ref o, rfl, q _ _ (.list fs) ((s2.cut no0).cut nl) g2 (hB2.less hB.w fun c z => .inl (.inl z)) (.lst (hM.out no0) (.inl o2) (Rf.less fun c z => .inl (.inl z))) ⟨fs, rfl, ?_⟩⟩
      have el0 := Re.length
      have z : es = [] := List.length_eq_zero_iff.mp (by omega)
      rw [z] at m1
      exact m1
end
end D

namespace D
open PySem PySem.Spec PyProof.Rows L2
local macro_rules | `(tactic| walk_at "st") => `(tactic| first | exact SqT.of (by assumption) | exact Or.inl (by assumption) | exact SqT.of upd_same | fail "st")
local macro_rules | `(tactic| walk_at "ixt") => `(tactic| refine ⟨_, _, _, _, rfl, rfl, (by walk_at "st" : SqT _ _ _ _), by rfl, ?_⟩)
local macro_rules | `(tactic| walk_at "sq") => `(tactic| first | exact SqL.of (by assumption) | assumption | exact Or.inl (by assumption) | exact SqL.of upd_same | fail "sq")
local macro_rules | `(tactic| walk_at "ix") => `(tactic| refine ⟨_, _, _, _, rfl, rfl, (by walk_at "sq" : SqL _ _ _ _), by rfl, ?_⟩)
local macro_rules | `(tactic| walk_at "set") => `(tactic| refine ⟨_, _, _, _, rfl, rfl, by first | assumption | exact upd_same, by rfl, ?_⟩)
local macro_rules | `(tactic| walk_at "len") => `(tactic| refine ⟨_, _, rfl, Or.inl (by walk_at "sq" : SqL _ _ _ _), ?_⟩)
local macro_rules | `(tactic| walk_at "g") => `(tactic| repeat (first | refine ⟨_, rfl, ?_⟩ | refine ⟨_, _, rfl, rfl, ?_⟩ | refine ⟨Or.inr (by decide), ?_⟩ | refine ⟨Or.inl (by decide), ?_⟩ | refine ⟨(by decide : (0 : Int) < _), ?_⟩ | refine ⟨(⟨by decide, by decide⟩ : CDiv _ _), ?_⟩ | refine ⟨(⟨by decide, by decide, by decide⟩ : CPow _ _), ?_⟩ | refine Or.inl ⟨_, rfl, ?_⟩ | refine ⟨rfl, ?_⟩ | walk_at "ix" | walk_at "ixt" | walk_at "len" | fail "g"))
local macro_rules | `(tactic| walk_at "if") => `(tactic| refine ite2 (fun e => ?_) (fun e => ?_))
section
variable {P : Program} {w : World} {K : PySem.W.Frag} {mg : Str → Option Value} {base : Heap}
def ok6 (z : Str) : Prop := 1 ≤ (sg z).length ∧ (sg z).length ≤ 6 ∧ (∀ c ∈ sg z, 97 ≤ c ∧ c ≤ 122)
def tl2 (l : List Nat) (k : Nat) : Str := ⟨#[l.getD (k / 26) 0, l.getD (k % 26) 0]⟩
/-- small letters -/
def Low (l : List Nat) : Prop := ∀ c ∈ l, 97 ≤ c ∧ c ≤ 122
/-- a name: one to eight small letters -/
def okN (z : Str) : Prop := 1 ≤ (sg z).length ∧ (sg z).length ≤ 8 ∧ Low (sg z)
theorem Low.app {a b : List Nat} (h : Low a) (g : Low b) : Low (a ++ b) := fun c hc => (List.mem_append.mp hc).elim (h c) (g c)
theorem Low.sub {a b : List Nat} (h : Low a) (s : ∀ c ∈ b, c ∈ a) : Low b := fun c hc => h c (s c hc)
theorem small26 {z : Str} (h : (sg z).length < 1000) : z.length ≤ sizeLine := by rw [← sg_len, sizeLine_eq]; omega
def sp_newname (K : PySem.W.Frag) : Sp := fun vs H Q _ => ∃ (b u : Addr) (ws : List Str) (M : Ms), vs = [.ref b, .ref u] ∧ Bag K M H b ∧ Mk M H ∧ M u ∧ u ≠ b ∧ H u = some (.lst (ws.map V.str)) ∧ ws.length ≤ 10 ∧ (∀ w ∈ ws, okN w) ∧
  ∀ H' z, Sx (also (one b) u) H H' → Gr H H' → Bag K M H' b → H' u = some (.lst ((ws ++ [z]).map V.str)) → okN z → z ∉ ws → Q (.str z) H'
theorem ok_newname (T : Txt K mg) : FnOk P w K mg base CX0 3 T.f__law_new_name T.d__law_new_name ["_law_bag_here", "_law_used"] (sp_newname K) := by
  have G__law_pick := ok_pick (P := P) (w := w) (base := base) T
  refine T.F__law_new_name.ok sc__law_new_name (fun vs H Q E h => ?_) (fun cdv A outer s H vs Q E hr h => ?_)
  · obtain ⟨_, _, _, _, rfl, _⟩ := h
    rfl
  · obtain ⟨b, u, ws, M, rfl, hB, hM, mu, ub, hu, lw, hws, q⟩ := h
    refine ⟨_, (pss_cons (ps_set (i := 2) sc__law_new_name.nd rfl (Or.inr rfl) pe_str)
      (pss_cons (ps_set (i := 3) sc__law_new_name.nd rfl (Or.inr rfl) (pe_join pe_str (pe_lc (own := [("_law_step", 7)]) (g := gName 7) (tt := tYes) (by rfl) sc__law_new_name.nd (pi_range1 (by rfl) T.m_range (pa_cons (pe_op op_add pe_int (pe_call G__law_pick (hr.mono (by omega)) (by rfl) T.g__law_pick T.F__law_pick.kp T.b__law_pick .nil pass0 (pa_cons (pv 0) (pa_cons pe_int pa_nil)))) pa_nil)) (blkOk_by (own := [("_law_step", 7)]) (N := ["_law_bag_here", "_law_used", "_law_letters", "_law_told", "_law_near", "_law_at", "_law_tails", "_law_step", "_law_k", "_law_tail"]) (sc := defScope s__law_new_name) (by decide +kernel)) (fun _ _ _ _ _ => (pg_name (i := 7) sc__law_new_name.nd rfl (Or.inl rfl))) (fun _ _ _ _ _ => pts_nil) (fun _ _ _ _ _ => (pe_ix ix_str (pv 2) (pe_call G__law_pick (hr.mono (by omega)) (by rfl) T.g__law_pick T.F__law_pick.kp T.b__law_pick .nil pass0 (pa_cons (pv 0) (pa_cons pe_int pa_nil))) (fun _ _ => rfl))))))
      (pss_cons (ps_if (PW.pt (pw_and (pt_truthK (K := K) rfl (pv 1) (by intro _; rfl)) (pw_and1 (pt_cmpR op_eq (pe_call G__law_pick (hr.mono (by omega)) (by rfl) T.g__law_pick T.F__law_pick.kp T.b__law_pick .nil pass0 (pa_cons (pv 0) (pa_cons pe_int pa_nil))) pe_int (nomark _))))) (pss_cons (ps_set (i := 4) sc__law_new_name.nd rfl (Or.inl rfl) (pe_slice sl_str (pe_ix (ix_listK (K := K) rfl) (pv 1) (pe_call G__law_pick (hr.mono (by omega)) (by rfl) T.g__law_pick T.F__law_pick.kp T.b__law_pick .nil pass0 (pa_cons (pv 0) (pa_cons (pe_callB (call_lenK (K := K) rfl) (by rfl) T.m_len PySem.boot_len (pa_cons (pv 1) pa_nil)) pa_nil))) (fun _ _ => rfl)) po_none (po_some pe_int)))
      (pss_cons (ps_set (i := 5) sc__law_new_name.nd rfl (Or.inl rfl) (pe_call G__law_pick (hr.mono (by omega)) (by rfl) T.g__law_pick T.F__law_pick.kp T.b__law_pick .nil pass0 (pa_cons (pv 0) (pa_cons (pe_callB call_len_str (by rfl) T.m_len PySem.boot_len (pa_cons (pv 4) pa_nil)) pa_nil))))
      (pss_one (ps_set (i := 3) sc__law_new_name.nd rfl (Or.inr rfl) (pe_op op_add_str (pe_op op_add_str (pe_slice sl_str (pv 4) po_none (po_some (pv 5))) (pe_ix ix_str (pv 2) (pe_call G__law_pick (hr.mono (by omega)) (by rfl) T.g__law_pick T.F__law_pick.kp T.b__law_pick .nil pass0 (pa_cons (pv 0) (pa_cons pe_int pa_nil))) (fun _ _ => rfl))) (pe_slice sl_str (pv 4) (po_some (pe_op op_add (pv 5) pe_int)) po_none)))))) pss_nil)
      (pss_cons (ps_if (pt_cmpR (op_in_seqK (K := K) rfl) (pv 3) (pe_op op_cat (pv 1) (pe_lst (pa_cons pe_str (pa_cons pe_str pa_nil)))) (by rfl)) (pss_cons (ps_setLc (i := 6) (own := [("_law_k", 8)]) (g := gName 8) (tt := tYes) (by rfl) sc__law_new_name.nd rfl rfl (sw_true rfl rfl rfl (by decide +kernel)) (pi_range1 (by rfl) T.m_range (pa_cons pe_int pa_nil)) (blkOk_by (own := [("_law_k", 8)]) (N := ["_law_bag_here", "_law_used", "_law_letters", "_law_told", "_law_near", "_law_at", "_law_tails", "_law_step", "_law_k", "_law_tail"]) (sc := defScope s__law_new_name) (by decide +kernel)) (fun _ _ _ _ _ => (pg_name (i := 8) sc__law_new_name.nd rfl (Or.inl rfl))) (fun _ _ _ _ _ => pts_nil) (fun _ _ _ _ _ => (pe_op op_add_str (pe_ix ix_str (pv 2) (pe_op op_fdiv (pv 8) pe_int) (fun _ _ => rfl)) (pe_ix ix_str (pv 2) (pe_op op_mod (pe_callTy call_int1 (by rfl) T.m_int (by decide +kernel) (pa_cons (pv 8) pa_nil)) pe_int) (fun _ _ => rfl)))))
      (pss_one (ps_set (i := 3) sc__law_new_name.nd rfl (Or.inr rfl) (pe_ix (ix_listK (K := K) rfl) (pe_lc (own := [("_law_tail", 9)]) (g := gName 9)  (by rfl) sc__law_new_name.nd (pi_listK (K := K) rfl (pv 6)) (blkOk_by (own := [("_law_tail", 9)]) (N := ["_law_bag_here", "_law_used", "_law_letters", "_law_told", "_law_near", "_law_at", "_law_tails", "_law_step", "_law_k", "_law_tail"]) (sc := defScope s__law_new_name) (by decide +kernel)) (fun _ _ _ _ _ => (pg_name (i := 9) sc__law_new_name.nd rfl (Or.inl rfl))) (fun _ _ _ _ _ => (pts_one (pt_cmpR (op_notIn_seqK (K := K) rfl) (pe_op op_add_str (pe_slice sl_str (pv 3) po_none (po_some pe_int)) (pv 9)) (pe_op op_cat (pv 1) (pe_lst (pa_cons pe_str pa_nil))) (by rfl)))) (fun _ _ _ _ _ => (pe_op op_add_str (pe_slice sl_str (pv 3) po_none (po_some pe_int)) (pv 9)))) pe_int (fun _ _ => rfl))))) pss_nil)
      (pss_cons (ps_expr (pe_bmK2 (K := K) rfl PySem.F.plainAttrs_list PySem.F.slot_list_append PySem.F.type_list_append mt_append (pv 1) (pa_cons (pv 3) pa_nil)))
      (pss_one (ps_ret (pv 3)))))))), ?_⟩
    generalize eal : Str.ofString "abcdefghijklmnopqrstuvwxyz" = al
    have lal : (sg al).length = 26 := by rw [← eal]; decide +kernel
    have low : Low (sg al) := by rw [← eal]; unfold Low; decide +kernel
    have at_al : ∀ w : Int, 0 ≤ w → w < 26 → ∃ c, atI al.cps.toList w = some c ∧ 97 ≤ c ∧ c ≤ 122 := fun w h0 h1 => by
      obtain ⟨j, rfl⟩ : ∃ j : Nat, w = (j : Int) := ⟨w.toNat, by omega⟩
      have hj : j < (sg al).length := by omega
      exact ⟨(sg al)[j], atI_nat (List.getElem?_eq_getElem hj), low _ (List.getElem_mem hj)⟩
    have sal : al.length ≤ sizeLine := small26 (by omega)
    have gd : ∀ k, k < 26 → (sg al)[k]? = some ((sg al).getD k 0) := fun k hk => by
      rw [List.getD_eq_getElem?_getD, List.getElem?_eq_getElem (by omega)]
      rfl
    have nda : (sg al).Nodup := by rw [← eal]; decide +kernel
    clear eal
    refine ⟨⟨_, rfl⟩, ?_⟩
    walk_at "g"
    refine ⟨b, 6, M, rfl, hB, by omega, by omega, fun n1 H1 h0 h1 hA1 hB1 => ?_⟩
    walk_at "g"
    refine ⟨by omega, by omega, fun D hD => ?_⟩
    have Db : D ≠ b := fun z => hB1.there (by rw [← z]; exact hD)
    refine rng_loop (lo := 0) (n := (1 + n1).toNat) (fun i H' => ∃ ys : List Str, H' D = some (.lst (ys.map V.str)) ∧ ys.length = i ∧ (∀ y ∈ ys, ∃ c, y = ⟨#[c]⟩ ∧ 97 ≤ c ∧ c ≤ 122) ∧ Sx (one b) H1 H' ∧ Gr H1 H' ∧ Bag K (also M D) H' b) ⟨[], upd_same, rfl, fun y hy => (nomatch hy), Sx.new hD, Gr.upd, (hB1.more hD).same (same_new hD)⟩ (fun i H' hi p => ?_) (fun H2 p => ?_)
    · obtain ⟨ys, eD, ly, hys, s2, g2, hB2⟩ := p
      refine ⟨rfl, ?_⟩
      walk_at "g"
      refine ⟨b, 26, also M D, rfl, hB2, by omega, by omega, fun w3 H3 k0 k1 hA3 hB3 => ?_⟩
      obtain ⟨c, hc, c0, c1⟩ := at_al w3 k0 k1
      have eD3 := (hA3 D Db).trans eD
      refine ⟨al, _, c, rfl, rfl, sal, hc, _, eD3, small1000 (by rw [List.length_map]; omega), ys ++ [⟨#[c]⟩], ?_, by rw [List.length_append, ly]; rfl, fun y hy => ?_, fun a o n e => ?_, g2.trans ((At.gr hA3 hB3.there).trans Gr.upd), hB3.keep (N := one D) (Sx.put rfl) (Ne.symm Db) (fun c z => .inr z)⟩
      · rw [upd_same, List.map_append]
        rfl
      · rcases List.mem_append.mp hy with z | z
        · exact hys y z
        · exact ⟨c, List.mem_singleton.mp z, c0, c1⟩
      · rw [upd_ne (fun z => by rw [z, hD] at e; cases e)]
        exact hA3.sx a o n (s2 a o n e)
    obtain ⟨ys, eD, ly, hys, s2, g2, hB2⟩ := p
    have hB2' := hB2.less (N := M) hB1.w also_le
    have ly1 : 1 ≤ ys.length ∧ ys.length ≤ 6 := by omega
    have sum1 : ∀ l : List Str, (∀ y ∈ l, ∃ c, y = ⟨#[c]⟩ ∧ 97 ≤ c ∧ c ≤ 122) → (l.map (·.length)).sum = l.length ∧ (l.map sg).flatten.length = l.length ∧ Low (l.map sg).flatten := by
      intro l
      induction l with
      | nil => intro _; exact ⟨rfl, rfl, fun c hc => nomatch hc⟩
      | cons y r ih =>
        intro h
        obtain ⟨i1, i2, i3⟩ := ih fun z hz => h z (List.mem_cons_of_mem _ hz)
        obtain ⟨c, rfl, c0, c1⟩ := h y List.mem_cons_self
        refine ⟨?_, ?_, ?_⟩
        · rw [List.map_cons, List.sum_cons, i1, List.length_cons]
          show 1 + r.length = r.length + 1
          omega
        · rw [List.map_cons, List.flatten_cons, List.length_append, i2, List.length_cons]
          show 1 + r.length = r.length + 1
          omega
        · rw [List.map_cons, List.flatten_cons]
          refine Low.app (fun d hd => ?_) i3
          rw [List.mem_singleton.mp (show d ∈ [c] from hd)]
          exact ⟨c0, c1⟩
    obtain ⟨j1, j2, j3⟩ := sum1 ys hys
    refine ⟨_, D, ys, rfl, rfl, .inl (SqL.of eD), by rw [j1, show (Str.ofString "").length = 0 from by decide +kernel]; omega, ?_⟩
    generalize hz1 : Txt.join _ ys = z1
    have sz1 : sg z1 = (ys.map sg).flatten := by rw [← hz1, TL.join_eq]; exact sg_join0 ys
    have l1 : (sg z1).length = ys.length := by rw [sz1]; exact j2
    have w1 : Low (sg z1) := by rw [sz1]; exact j3
    clear hz1
    have sx2 : Sx (one b) H H2 := hA1.sx.trans s2
    have gr2 : Gr H H2 := (At.gr hA1 hB1.there).trans g2
    have hu2 := sx2 u _ ub hu
    dsimp only [gName]
    with_reducible refine seq_join (fun σ3 H' => ∃ (z : Str) (y4 y5 : Option V), σ3 = [some (.ref b), some (.ref u), some (.str al), some (.str z), y4, y5, none, none, none, none] ∧ ok6 z ∧ Sx (one b) H H' ∧ Gr H H' ∧ Bag K M H' b) (fun hN => ?_) (fun σ H5 c => ?_)
    · have base0 := hN _ _ ⟨z1, none, none, rfl, ⟨by omega, by omega, w1⟩, sx2, gr2, hB2'⟩
      walk_at "g"
      refine ⟨!(ws.map V.str).isEmpty, .inl ⟨_, SqL.of hu2, rfl⟩, ?_⟩
      by_cases cn : ws = []
      · rw [show (!(ws.map V.str).isEmpty) = false by rw [cn]; rfl]
        exact base0
      · rw [show (!(ws.map V.str).isEmpty) = true by cases ws with | nil => exact absurd rfl cn | cons _ _ => rfl]
        have lpos : 0 < ws.length := List.length_pos_iff.mpr cn
        walk_at "g"
        refine ⟨b, 3, M, rfl, hB2', by omega, by omega, fun w4 H4 d0 d1 hA4 hB4 => ?_⟩
        have sx4 := sx2.trans hA4.sx
        have gr4 := gr2.trans (At.gr hA4 hB4.there)
        have hu4 := (hA4 u ub).trans hu2
        walk_at "g"
        walk_at "if"
        · walk_at "g"
          have lws : (ws.map V.str).length = ws.length := List.length_map _
          refine ⟨b, _, M, rfl, hB4, by omega, by omega, fun w5 H5 e0 e1 hA5 hB5 => ?_⟩
          obtain ⟨j, rfl⟩ : ∃ j : Nat, w5 = (j : Int) := ⟨w5.toNat, by omega⟩
          have hj : j < ws.length := by omega
          have sx5 := sx4.trans hA5.sx
          have gr5 := gr4.trans (At.gr hA5 hB5.there)
          have hu5 := (hA5 u ub).trans hu4
          obtain ⟨o1, o2, o3⟩ := hws ws[j] (List.getElem_mem hj)
          refine ⟨_, _, _, _, rfl, rfl, SqL.of hu5, atI_nat (by rw [List.getElem?_map, List.getElem?_eq_getElem hj]; rfl), ?_⟩
          walk_at "g"
          refine ⟨small26 (by omega), ?_⟩
          have snr : sg (cutS ws[j] none (some 6)) = (sg ws[j]).take 6 := sg_cut _ 6
          generalize cutS ws[j] none (some 6) = nr at snr
          have lnr : 1 ≤ (sg nr).length ∧ (sg nr).length ≤ 6 := by rw [snr, List.length_take]; omega
          have wnr : Low (sg nr) := by rw [snr]; exact Low.sub o3 fun c hc => List.mem_of_mem_take hc
          have lnr' := sg_len nr
          walk_at "g"
          refine ⟨small26 (by omega), ?_⟩
          walk_at "g"
          refine ⟨b, _, M, rfl, hB5, by omega, by omega, fun w6 H6 f0 f1 hA6 hB6 => ?_⟩
          obtain ⟨i, rfl⟩ : ∃ i : Nat, w6 = (i : Int) := ⟨w6.toNat, by omega⟩
          have hi : i < (sg nr).length := by omega
          walk_at "g"
          refine ⟨small26 (by omega), ?_⟩
          walk_at "g"
          refine ⟨b, 26, M, rfl, hB6, by omega, by omega, fun w7 H7 g0 g1 hA7 hB7 => ?_⟩
          obtain ⟨c, hc, c0, c1⟩ := at_al w7 g0 g1
          refine ⟨al, _, c, rfl, rfl, sal, hc, ?_⟩
          have sq1 : sg (cutS nr none (some (i : Int))) = (sg nr).take i := sg_cut _ i
          have sq2 : sg (cutS nr (some ((i : Int) + 1)) none) = (sg nr).drop (i + 1) := by
            have := sg_from nr (i + 1)
            rw [show (((i + 1 : Nat)) : Int) = (i : Int) + 1 by omega] at this
            exact this
          have lq1 : (cutS nr none (some (i : Int))).length ≤ 6 := by rw [← sg_len, sq1, List.length_take]; omega
          have lq2 : (cutS nr (some ((i : Int) + 1)) none).length ≤ 6 := by rw [← sg_len, sq2, List.length_drop]; omega
          refine ⟨_, _, rfl, rfl, ?_, ?_⟩
          · have e1 : (⟨#[c]⟩ : Str).length = 1 := rfl
            rw [e1, sizeLine_eq]
            omega
          walk_at "g"
          refine ⟨small26 (by omega), ?_⟩
          have sq3 : sg (cutS nr none (some (i : Int)) ++ (⟨#[c]⟩ : Str)) = (sg nr).take i ++ [c] := by rw [sg_app, sq1]
          refine ⟨_, _, rfl, rfl, ?_, ?_⟩
          · have e1 : (cutS nr none (some (i : Int)) ++ (⟨#[c]⟩ : Str)).length ≤ 7 := by
              rw [← sg_len, sq3, List.length_append, List.length_take]
              show _ + 1 ≤ 7
              omega
            rw [sizeLine_eq]
            omega
          have sq4 : sg (cutS nr none (some (i : Int)) ++ (⟨#[c]⟩ : Str) ++ cutS nr (some ((i : Int) + 1)) none) = (sg nr).take i ++ [c] ++ (sg nr).drop (i + 1) := by rw [sg_app, sq3, sq2]
          have len4 : ((sg nr).take i ++ [c] ++ (sg nr).drop (i + 1)).length = (sg nr).length := by
            rw [List.length_append, List.length_append, List.length_take, List.length_drop]
            show min i _ + 1 + _ = _
            omega
          refine hN _ _ ⟨_, _, _, rfl, ⟨by rw [sq4, len4]; omega, by rw [sq4, len4]; omega, ?_⟩, sx5.trans (hA6.sx.trans hA7.sx), gr5.trans ((At.gr hA6 hB6.there).trans (At.gr hA7 hB7.there)), hB7⟩
          rw [sq4]
          refine Low.app (Low.app (Low.sub wnr fun c hc => List.mem_of_mem_take hc) (fun d hd => ?_)) (Low.sub wnr fun c hc => List.mem_of_mem_drop hc)
          rw [List.mem_singleton.mp hd]
          exact ⟨c0, c1⟩
        · exact hN _ _ ⟨z1, none, none, rfl, ⟨by omega, by omega, w1⟩, sx4, gr4, hB4⟩
    · obtain ⟨z, y4, y5, rfl, ⟨z_1, z_6, z_l⟩, sx5, gr5, hB5⟩ := c
      have hu5 : H5 u = some (.lst (ws.map V.str)) := sx5 u _ ub hu
      have lws : (ws.map V.str).length = ws.length := List.length_map _
      have zle : z.length ≤ 6 := by rw [← sg_len]; exact z_6
      walk_at "g"
      refine ⟨szK rfl, fun p6 hp6 => ?_⟩
      have s6 : Same H5 (upd H5 p6 (.lst [.str (Str.ofString "item"), .str (Str.ofString "at")])) := same_new hp6
      have e6 : upd H5 p6 (.lst [.str (Str.ofString "item"), .str (Str.ofString "at")]) p6 = some (.lst [.str (Str.ofString "item"), .str (Str.ofString "at")]) := upd_same
      generalize upd H5 p6 (.lst [.str (Str.ofString "item"), .str (Str.ofString "at")]) = H6 at s6 e6
      have hu6 := s6 _ _ hu5
      refine ⟨u, p6, _, _, rfl, rfl, hu6, e6, by rw [lws, sizeLine_eq]; show ws.length + 2 ≤ _; omega, fun p7 hp7 => ?_⟩
      have ecat : ws.map V.str ++ [V.str (Str.ofString "item"), V.str (Str.ofString "at")] = (ws ++ [Str.ofString "item", Str.ofString "at"]).map V.str := by rw [List.map_append]; rfl
      rw [ecat]
      have s7 : Same H6 (upd H6 p7 (.lst ((ws ++ [Str.ofString "item", Str.ofString "at"]).map V.str))) := same_new hp7
      refine ⟨p7, _, rfl, .inl (SqL.of upd_same), rfl, flat_strs _, ?_⟩
      generalize upd H6 p7 (.lst ((ws ++ [Str.ofString "item", Str.ofString "at"]).map V.str)) = H7 at s7
      rw [in_strs]
      have s57 := s6.trans s7
      have hB7 := hB5.same s57
      have sx7 := sx5.trans (Sx.same s57)
      have gr7 := gr5.trans (Gr.same s57)
      walk_at "g"
      have hu7 := s57 _ _ hu5
      have mb := hB.w
      by_cases hz : z ∈ ws ++ [Str.ofString "item", Str.ofString "at"]
      · rw [decide_eq_true hz, if_neg Bool.false_ne_true]
        dsimp only
        rw [if_pos rfl]
        walk_at "g"
        refine ⟨by decide, by decide, fun D2 hD2 => ?_⟩
        have D2b : D2 ≠ b := fun y => hB7.there (by rw [← y]; exact hD2)
        refine rng_loop (lo := 0) (n := 676) (fun i H' => Same H7 H' ∧ H' D2 = some (.lst (((List.range i).map (tl2 (sg al))).map V.str))) ⟨same_new hD2, upd_same⟩ (fun i H' hi p => ?_) (fun H8 p => ?_)
        · obtain ⟨s8, eD⟩ := p
          have hi' : i < 676 := hi
          rw [Int.zero_add]
          refine ⟨rfl, ?_⟩
          walk_at "g"
          have k1 : i / 26 < 26 := by omega
          have k2 : i % 26 < 26 := Nat.mod_lt _ (by decide)
          refine ⟨al, _, (sg al).getD (i / 26) 0, rfl, rfl, sal, ?_, ?_⟩
          · rw [show ((i : Int) / 26) = ((i / 26 : Nat) : Int) by omega]
            exact atI_nat (gd _ k1)
          walk_at "g"
          refine ⟨al, _, (sg al).getD (i % 26) 0, rfl, rfl, sal, ?_, ?_⟩
          · rw [show ((i : Int) % 26) = ((i % 26 : Nat) : Int) by omega]
            exact atI_nat (gd _ k2)
          refine ⟨_, _, rfl, rfl, by rw [sizeLine_eq]; show 1 + 1 ≤ _; omega, ?_⟩
          have l1 : (((List.range i).map (tl2 (sg al))).map V.str).length = i := by rw [List.length_map, List.length_map, List.length_range]
          refine ⟨_, eD, small1000 (by omega), same_put s8 hD2, ?_⟩
          rw [upd_same, List.range_succ, List.map_append, List.map_append]
          rfl
        obtain ⟨s8, eD8⟩ := p
        have eD8 : H8 D2 = some (.lst (((List.range 676).map (tl2 (sg al))).map V.str)) := eD8
        have s78 : Same H5 H8 := s57.trans s8
        have hu8 := s78 _ _ hu5
        walk_at "g"
        refine ⟨⟨_, SqL.of eD8⟩, fun D3 hD3 => ?_⟩
        obtain ⟨f, hf⟩ : ∃ f : Nat → Str, f = fun k => cutS z none (some 6) ++ tl2 (sg al) k := ⟨_, rfl⟩
        obtain ⟨LL, hLL⟩ : ∃ L : List Str, L = ws ++ [Str.ofString "item"] := ⟨_, rfl⟩
        have lLL : LL.length ≤ 11 := by rw [hLL, List.length_append]; show ws.length + 1 ≤ 11; omega
        have c6 : (cutS z none (some 6)).length ≤ 6 := by
          have := sg_cut z 6
          rw [← sg_len, show sg (cutS z none (some 6)) = (sg z).take 6 from this, List.length_take]
          omega
        refine list_loop (xs := ((List.range 676).map (tl2 (sg al))).map V.str) (fun i H' => Same H8 H' ∧ H' D3 = some (.lst ((((List.range i).map f).filter (fun y => decide (y ∉ LL))).map V.str))) ⟨same_new hD3, upd_same⟩ (fun i H' _ p => SqL.of (p.1 _ _ eD8)) (fun i x H' hx p => ?_) (fun H9 p => ?_)
        · obtain ⟨s9, eD9⟩ := p
          have hi : i < 676 := by
            have := (List.getElem?_eq_some_iff.mp hx).1
            rw [List.length_map, List.length_map, List.length_range] at this
            exact this
          rw [List.getElem?_map, List.getElem?_map, List.getElem?_range hi] at hx
          cases hx
          have hu9 := s9 _ _ hu8
          refine ⟨rfl, ?_⟩
          walk_at "g"
          refine ⟨small26 (by omega), ?_⟩
          have l2 : (tl2 (sg al) i).length = 2 := rfl
          walk_at "g"
          refine ⟨by rw [l2, sizeLine_eq]; omega, ?_⟩
          walk_at "g"
          refine ⟨szK rfl, fun p1 hp1 => ?_⟩
          have t1 : Same H' (upd H' p1 (.lst [.str (Str.ofString "item")])) := same_new hp1
          have e1 : upd H' p1 (.lst [.str (Str.ofString "item")]) p1 = some (.lst [.str (Str.ofString "item")]) := upd_same
          generalize upd H' p1 (.lst [.str (Str.ofString "item")]) = G1 at t1 e1
          refine ⟨u, p1, _, _, rfl, rfl, t1 _ _ hu9, e1, by rw [lws, sizeLine_eq]; show ws.length + 1 ≤ _; omega, fun p2 hp2 => ?_⟩
          have ecat2 : ws.map V.str ++ [V.str (Str.ofString "item")] = LL.map V.str := by rw [hLL, List.map_append]; rfl
          rw [ecat2]
          have t2 : Same G1 (upd G1 p2 (.lst (LL.map V.str))) := same_new hp2
          refine ⟨p2, _, rfl, .inl (SqL.of upd_same), rfl, flat_strs _, ?_⟩
          generalize upd G1 p2 (.lst (LL.map V.str)) = G2 at t2
          rw [in_strs, if_pos rfl]
          have t12 := t1.trans t2
          have e9 := t12 _ _ eD9
          have lf : (((List.range i).map f).filter (fun y => decide (y ∉ LL))).length ≤ i := Nat.le_trans (List.length_filter_le _ _) (by rw [List.length_map, List.length_range]; exact Nat.le_refl _)
          have fi : f i = cutS z none (some 6) ++ tl2 (sg al) i := by rw [hf]
          have step : ((List.range (i + 1)).map f).filter (fun y => decide (y ∉ LL)) = ((List.range i).map f).filter (fun y => decide (y ∉ LL)) ++ if f i ∈ LL then [] else [f i] := by
            rw [List.range_succ, List.map_append, List.filter_append]
            congr 1
            by_cases c : f i ∈ LL
            · rw [if_pos c]; simp [c]
            · rw [if_neg c]; simp [c]
          rw [step]
          by_cases c : f i ∈ LL
          · rw [← fi, decide_eq_true c, if_pos c, List.append_nil]
            exact ⟨_, rfl, s9.trans t12, e9⟩
          · rw [← fi, decide_eq_false c, if_neg c]
            refine ⟨_, rfl, ?_⟩
            dsimp only
            rw [if_pos (by rfl : (!false) = true)]
            walk_at "g"
            refine ⟨small26 (by omega), ?_⟩
            walk_at "g"
            refine ⟨by rw [l2, sizeLine_eq]; omega, ?_⟩
            refine ⟨_, e9, small1000 (by rw [List.length_map]; omega), same_put (s9.trans t12) hD3, ?_⟩
            rw [upd_same, List.map_append, ← fi]
            rfl
        obtain ⟨s9, eD9⟩ := p
        have eD9 : H9 D3 = some (.lst ((((List.range 676).map f).filter (fun y => decide (y ∉ LL))).map V.str)) := by
          have := eD9
          rw [List.length_map, List.length_map, List.length_range] at this
          exact this
        obtain ⟨y0, rest, ey⟩ : ∃ y0 rest, ((List.range 676).map f).filter (fun y => decide (y ∉ LL)) = y0 :: rest := by
          cases e : ((List.range 676).map f).filter (fun y => decide (y ∉ LL)) with
          | cons y r => exact ⟨y, r, rfl⟩
          | nil =>
            exfalso
            have all : ∀ k, k < 676 → f k ∈ LL := fun k hk => by
              by_cases c : f k ∈ LL
              · exact c
              · exfalso
                have : f k ∈ ((List.range 676).map f).filter (fun y => decide (y ∉ LL)) := List.mem_filter.mpr ⟨List.mem_map.mpr ⟨k, List.mem_range.mpr hk, rfl⟩, decide_eq_true c⟩
                rw [e] at this
                exact nomatch this
            have inj : ∀ i j : Nat, i < 26 → j < 26 → f i = f j → i = j := fun i j hi hj h => by
              have h2 := congrArg sg h
              rw [hf] at h2
              dsimp only at h2
              rw [sg_app, sg_app] at h2
              have h3 := List.append_cancel_left h2
              have h4 : [(sg al).getD (i / 26) 0, (sg al).getD (i % 26) 0] = [(sg al).getD (j / 26) 0, (sg al).getD (j % 26) 0] := h3
              injection h4 with _ h5
              injection h5 with h6 _
              rw [Nat.mod_eq_of_lt hi, Nat.mod_eq_of_lt hj] at h6
              have g1 := gd i hi
              have g2 := gd j hj
              rw [← h6] at g2
              exact (List.getElem?_inj (show i < (sg al).length by omega) nda).mp (g1.trans g2.symm)
            have nd : ((List.range 26).map f).Nodup := by
              rw [List.nodup_iff_pairwise_ne, List.pairwise_map]
              refine List.Pairwise.imp_of_mem (fun {x y} hx hy hxy h => hxy (inj x y (List.mem_range.mp hx) (List.mem_range.mp hy) h)) (List.nodup_range (n := 26))
            have := (sub_len LL ((List.range 26).map f) nd fun x hx => by
              obtain ⟨k, hk, rfl⟩ := List.mem_map.mp hx
              exact all k (by have := List.mem_range.mp hk; omega)).1
            rw [List.length_map, List.length_range] at this
            omega
        have my : y0 ∈ ((List.range 676).map f).filter (fun y => decide (y ∉ LL)) := by rw [ey]; exact List.mem_cons_self
        obtain ⟨m1, m2⟩ := List.mem_filter.mp my
        obtain ⟨k0, hk0, rfl⟩ := List.mem_map.mp m1
        have hk0 := List.mem_range.mp hk0
        have nL : f k0 ∉ LL := of_decide_eq_true m2
        rw [ey] at eD9
        have sgf : sg (f k0) = (sg z).take 6 ++ [(sg al).getD (k0 / 26) 0, (sg al).getD (k0 % 26) 0] := by
          rw [hf]
          dsimp only
          rw [sg_app]
          congr 1
          exact sg_cut z 6
        have okf : okN (f k0) := by
          have lt : ((sg z).take 6).length ≤ 6 := by rw [List.length_take]; omega
          refine ⟨by rw [sgf, List.length_append]; show 1 ≤ _ + 2; omega, by rw [sgf, List.length_append]; show _ + 2 ≤ 8; omega, ?_⟩
          rw [sgf]
          refine Low.app (Low.sub z_l fun c hc => List.mem_of_mem_take hc) (fun d hd => ?_)
          have kk1 : k0 / 26 < 26 := by omega
          have kk2 : k0 % 26 < 26 := Nat.mod_lt _ (by decide)
          rcases List.mem_cons.mp hd with rfl | hd
          · exact low _ (List.mem_of_getElem? (gd _ kk1))
          · rw [List.mem_singleton.mp hd]
            exact low _ (List.mem_of_getElem? (gd _ kk2))
        have s59 : Same H5 H9 := s78.trans s9
        have hu9 := s59 _ _ hu5
        have at0 : atI ((f k0 :: rest).map V.str) ((0 : Nat) : Int) = some (V.str (f k0)) := atI_nat (by simp)
        walk_at "g"
        refine ⟨_, _, _, _, rfl, rfl, SqL.of eD9, at0, ?_⟩
        walk_at "g"
        refine ⟨.inl ⟨rfl, _, SqL.of hu9⟩, ?_⟩
        walk_at "g"
        refine ⟨u, _, _, rfl, rfl, hu9, small1000000 (by omega), ?_⟩
        walk_at "g"
        have sP : Sx (one u) H9 (upd H9 u (.lst (ws.map V.str ++ [V.str (f k0)]))) := Sx.put rfl
        refine q _ (f k0) (((sx5.trans (Sx.same s59)).le fun c y => .inl y).trans (sP.le fun c y => .inr y)) ((gr5.trans (Gr.same s59)).trans Gr.upd) ((hB5.same s59).keep sP (Ne.symm ub) (one_le mu)) ?_ okf (fun y => nL (by rw [hLL]; exact List.mem_append_left _ y))
        rw [upd_same, List.map_append]
        rfl
      · rw [decide_eq_false hz]
        have zn : z ∉ ws := fun y => hz (List.mem_append_left _ y)
        walk_at "g"
        refine ⟨.inl ⟨rfl, _, SqL.of hu7⟩, ?_⟩
        walk_at "g"
        refine ⟨u, _, _, rfl, rfl, hu7, small1000000 (by omega), ?_⟩
        walk_at "g"
        have sP : Sx (one u) H7 (upd H7 u (.lst (ws.map V.str ++ [V.str z]))) := Sx.put rfl
        refine q _ z ((sx7.le fun c y => .inl y).trans (sP.le fun c y => .inr y)) (gr7.trans Gr.upd) (hB7.keep sP (Ne.symm ub) (one_le mu)) ?_ ⟨z_1, by omega, z_l⟩ zn
        rw [upd_same, List.map_append]
        rfl
def namesD (ns : List Str) : PyData := .list (ns.map PyData.str)
def sp_form (K : PySem.W.Frag) (n : Nat) : Sp := fun vs H Q _ => ∃ (b : Addr) (v : V) (lv : Int) (ns : List Str) (M : Ms), vs = [.ref b, v, .int lv] ∧ Bag K M H b ∧ Mk M H ∧ Rp M H v (namesD ns) ∧ ns ≠ [] ∧ ns.length < 1000000 ∧ 1 ≤ lv ∧ lv ≤ n ∧
  Dr K M b H (fun x => ∃ f : Fm, x = f.enc ∧ (f.dep : Int) ≤ lv ∧ f.ok (· ∈ ns)) Q
theorem ok_form (T : Txt K mg) : ∀ n, FnOk P w K mg base CX0 (n + 3) T.f__law_form T.d__law_form ["_law_bag_here", "_law_readable", "_law_levels"] (sp_form K n) := by
  intro n
  induction n with
  | zero =>
    refine T.F__law_form.ok sc__law_form (fun vs H Q E h => ?_) (fun cdv A outer s H vs Q E hr h => ?_)
    · obtain ⟨_, _, _, _, _, _, _, _, _, _, _, h1, h2, _⟩ := h
      omega
    · obtain ⟨_, _, _, _, _, _, _, _, _, _, _, h1, h2, _⟩ := h
      omega
  | succ n ih =>
  have G__law_pick := ok_pick (P := P) (w := w) (base := base) T
  have G__law_choice := ok_choice (P := P) (w := w) (base := base) T
  have G__law_form := ih
  refine T.F__law_form.ok sc__law_form (fun vs H Q E h => ?_) (fun cdv A outer s H vs Q E hr h => ?_)
  · obtain ⟨_, _, _, _, _, rfl, _⟩ := h
    rfl
  · obtain ⟨b, v, lv, ns, M, rfl, hB, hM, hR, hne, hl, hlv1, hlv, q⟩ := h
    obtain ⟨a, xs, rfl, na, ha, rx⟩ := Rp.lstN hR
    have ex := rx.ofStrs
    subst ex
    have hpos : 0 < ns.length := List.length_pos_iff.mpr hne
    have hab : a ≠ b := fun z => na (by rw [z]; exact hB.w)
    have fin : ∀ (f : Fm) (H2 : Hp) (p : Addr) (us : List V), Sx (one b) H H2 → Gr H H2 → Bag K M H2 b → H2 p = none → FmAt M (upd H2 p (.tup us)) f us → (f.dep : Int) ≤ lv → f.ok (· ∈ ns) → Q (.ref p) (upd H2 p (.tup us)) := fun f H2 p us s g hB2 hp hf hd ho =>
      q _ _ f.enc (s.trans (Sx.new hp)) (g.trans Gr.upd) (hB2.same (same_new hp)) (hf.rp ((hM.gr g).out hp) (.inl upd_same)) ⟨f, rfl, hd, ho⟩
    refine ⟨_, (pss_cons (ps_set (i := 3) sc__law_form.nd rfl (Or.inl rfl) (pe_call G__law_pick (hr.mono (by omega)) (by rfl) T.g__law_pick T.F__law_pick.kp T.b__law_pick .nil pass0 (pa_cons (pv 0) (pa_cons pe_int pa_nil))))
      (pss_cons (ps_if (PW.pt (pw_or (pt_cmpR op_le (pv 2) pe_int (nomark _)) (pw_or1 (pt_cmpR op_lt (pv 3) pe_int (nomark _))))) (pss_cons (ps_if (PW.pt (pw_or (pt_not (pt_truthK (K := K) rfl (pv 1) (by intro _; rfl))) (pw_or1 (PW.pt (pw_and (pt_cmpR op_eq (pv 3) pe_int (nomark _)) (pw_and1 (pt_cmpR op_eq (pe_call G__law_pick (hr.mono (by omega)) (by rfl) T.g__law_pick T.F__law_pick.kp T.b__law_pick .nil pass0 (pa_cons (pv 0) (pa_cons pe_int pa_nil))) pe_int (nomark _)))))))) (pss_one (ps_ret (pe_tup (pa_cons pe_str (pa_cons (pe_call G__law_pick (hr.mono (by omega)) (by rfl) T.g__law_pick T.F__law_pick.kp T.b__law_pick .nil pass0 (pa_cons (pv 0) (pa_cons pe_int pa_nil))) pa_nil))))) pss_nil)
      (pss_one (ps_ret (pe_tup (pa_cons pe_str (pa_cons (pe_call G__law_choice (hr.mono (by omega)) (by rfl) T.g__law_choice T.F__law_choice.kp T.b__law_choice .nil pass0 (pa_cons (pv 0) (pa_cons (pv 1) pa_nil))) pa_nil)))))) pss_nil)
      (pss_cons (ps_set (i := 4) sc__law_form.nd rfl (Or.inl rfl) (pe_call G__law_form (hr.mono (by omega)) (by rfl) T.g__law_form T.F__law_form.kp T.b__law_form .nil pass0 (pa_cons (pv 0) (pa_cons (pv 1) (pa_cons (pe_op op_sub (pv 2) pe_int) pa_nil)))))
      (pss_cons (ps_set (i := 5) sc__law_form.nd rfl (Or.inl rfl) (pe_call G__law_form (hr.mono (by omega)) (by rfl) T.g__law_form T.F__law_form.kp T.b__law_form .nil pass0 (pa_cons (pv 0) (pa_cons (pv 1) (pa_cons (pe_op op_sub (pv 2) pe_int) pa_nil)))))
      (pss_cons (ps_if (pt_cmpR op_lt (pv 3) pe_int (nomark _)) (pss_one (ps_ret (pe_tup (pa_cons (pe_ix (ix_listK (K := K) rfl) (pe_lst (pa_cons pe_str (pa_cons pe_str (pa_cons pe_str pa_nil)))) (pe_op op_sub (pv 3) pe_int) (fun _ _ => rfl)) (pa_cons (pv 4) (pa_cons (pv 5) pa_nil)))))) pss_nil)
      (pss_one (ps_ret (pe_tup (pa_cons pe_str (pa_cons (pv 4) (pa_cons (pv 5) (pa_cons (pe_call G__law_form (hr.mono (by omega)) (by rfl) T.g__law_form T.F__law_form.kp T.b__law_form .nil pass0 (pa_cons (pv 0) (pa_cons (pv 1) (pa_cons (pe_op op_sub (pv 2) pe_int) pa_nil)))) pa_nil)))))))))))), ?_⟩
    walk_at "g"
    refine ⟨b, _, M, rfl, hB, by omega, by omega, fun way H1 h0 h1 hA1 hB1 => ?_⟩
    have g1 := At.gr hA1 hB1.there
    walk_at "g"
    have sM1 : Sx M H H1 := hA1.sx.le (one_le hB.w)
    have rest : ∀ f4 f5 : Fm, (f4.dep : Int) ≤ lv - 1 → (f5.dep : Int) ≤ lv - 1 → ((max f4.dep f5.dep + 1 : Nat) : Int) ≤ lv := fun f4 f5 h4 h5 => by omega
    have rest3 : ∀ f4 f5 f6 : Fm, (f4.dep : Int) ≤ lv - 1 → (f5.dep : Int) ≤ lv - 1 → (f6.dep : Int) ≤ lv - 1 → ((max f4.dep (max f5.dep f6.dep) + 1 : Nat) : Int) ≤ lv := fun f4 f5 f6 h4 h5 h6 => by omega
    have hw := hB.w
    refine ite2 (fun c1 => ?_) (fun c1 => ?_)
    rotate_left 1
    · walk_at "g"
      have c1' : ¬ lv ≤ 1 := fun z => c1 (decide_eq_true z)
      refine ite2 (fun c2 => ?_) (fun c2 => ?_)
      rotate_left 1
      · have c2' : ¬ way < 3 := fun z => c2 (decide_eq_true z)
        walk_at "g"
        refine ⟨b, .ref a, _, ns, M, rfl, hB1, hM.gr g1, hR.sx sM1, hne, hl, by omega, by omega, fun v4 H2 d4 s2 g2 hB2 hR4 hd4 => ?_⟩
        obtain ⟨f4, rfl, l4, o4⟩ := hd4
        have sM2 : Sx M H1 H2 := s2.le (one_le hw)
        walk_at "g"
        refine ⟨b, .ref a, _, ns, M, rfl, hB2, hM.gr (g1.trans g2), hR.sx (sM1.trans sM2), hne, hl, by omega, by omega, fun v5 H3 d5 s3 g3 hB3 hR5 hd5 => ?_⟩
        obtain ⟨f5, rfl, l5, o5⟩ := hd5
        have sM3 : Sx M H2 H3 := s3.le (one_le hw)
        have hR4' := hR4.sx sM3
        walk_at "g"
        walk_at "if"
        · rename_i c3
          have c3' : way < 6 := of_decide_eq_true c3
          have sf : ∀ p o, H3 p = none → Sx (one b) H (upd H3 p o) := fun p o hp => hA1.sx.trans (s2.trans (s3.trans (Sx.new hp)))
          have gf : ∀ p o, Gr H (upd H3 p o) := fun p o => g1.trans (g2.trans (g3.trans Gr.upd))
          obtain e | e | e : way = 3 ∨ way = 4 ∨ way = 5 := by omega
          all_goals
            subst e
            walk_at "g"
            refine ⟨szK rfl, fun p hp => ?_⟩
            walk_at "g"
            refine ⟨szK rfl, fun p2 hp2 => ?_⟩
          · exact fin (.sum f4 f5) _ p2 _ (sf _ _ hp) (gf _ _) (hB3.same (same_new hp)) hp2 (.sum ((hR4'.sx (Sx.new hp)).sx (Sx.new hp2)) ((hR5.sx (Sx.new hp)).sx (Sx.new hp2))) (rest f4 f5 l4 l5) ⟨o4, o5⟩
          · exact fin (.sum f4 f5) _ p2 _ (sf _ _ hp) (gf _ _) (hB3.same (same_new hp)) hp2 (.sum ((hR4'.sx (Sx.new hp)).sx (Sx.new hp2)) ((hR5.sx (Sx.new hp)).sx (Sx.new hp2))) (rest f4 f5 l4 l5) ⟨o4, o5⟩
          · exact fin (.same f4 f5) _ p2 _ (sf _ _ hp) (gf _ _) (hB3.same (same_new hp)) hp2 (.same ((hR4'.sx (Sx.new hp)).sx (Sx.new hp2)) ((hR5.sx (Sx.new hp)).sx (Sx.new hp2))) (rest f4 f5 l4 l5) ⟨o4, o5⟩
        · walk_at "g"
          refine ⟨b, .ref a, _, ns, M, rfl, hB3, hM.gr (g1.trans (g2.trans g3)), hR.sx (sM1.trans (sM2.trans sM3)), hne, hl, by omega, by omega, fun v6 H4 d6 s4 g4 hB4 hR6 hd6 => ?_⟩
          obtain ⟨f6, rfl, l6, o6⟩ := hd6
          have sM4 : Sx M H3 H4 := s4.le (one_le hw)
          refine ⟨szK rfl, fun p2 hp2 => ?_⟩
          exact fin (.pick f4 f5 f6) _ p2 _ (hA1.sx.trans (s2.trans (s3.trans s4))) (g1.trans (g2.trans (g3.trans g4))) hB4 hp2 (.pick ((hR4'.sx sM4).sx (Sx.new hp2)) ((hR5.sx sM4).sx (Sx.new hp2)) (hR6.sx (Sx.new hp2))) (rest3 f4 f5 f6 l4 l5 l6) ⟨o4, o5, o6⟩
      walk_at "g"
      have hS1 : SqL K H1 a (ns.map V.str) := sx_l hA1.sx (fun z : a = b => hab z) (.inl ha)
      refine ⟨true, .inl ⟨ns.map V.str, hS1, by cases ns with | nil => exact absurd rfl hne | cons _ _ => rfl⟩, ?_⟩
      walk_at "g"
      have one_lv : ((1 : Nat) : Int) ≤ lv := by omega
      have get : ∀ H2, At b H1 H2 → Bag K M H2 b → Gr H H2 → sp_choice K ([.ref b, .ref a] ++ []) H2 (fun v H3 => [V.str sGet, v].length ≤ sizeLine ∧ ∀ p, H3 p = none → Q (.ref p) (upd H3 p (.tup [.str sGet, v]))) E0 := fun H2 hA2 hB2 g2 => by
        refine ⟨b, a, _, M, rfl, hB2, sx_l hA2.sx (fun z : a = b => hab z) hS1, hab, by rw [List.length_map]; exact hpos, by rw [List.length_map]; exact hl, fun v H3 hv hA3 hB3 => ?_⟩
        obtain ⟨x, hx, rfl⟩ := List.mem_map.mp hv
        refine ⟨szK rfl, fun p hp => ?_⟩
        exact fin (.get x) _ p _ (hA1.sx.trans (hA2.sx.trans hA3.sx)) (g2.trans (At.gr hA3 hB3.there)) hB3 hp (.get x) one_lv hx
      walk_at "if"
      · walk_at "g"
        refine ⟨b, _, M, rfl, hB1, by omega, by omega, fun w2 H2 k0 k1 hA2 hB2 => ?_⟩
        walk_at "g"
        have g2 := g1.trans (At.gr hA2 hB2.there)
        walk_at "if"
        · walk_at "g"
          refine ⟨b, _, M, rfl, hB2, by omega, by omega, fun w3 H3 m0 m1 hA3 hB3 => ?_⟩
          refine ⟨szK rfl, fun p hp => ?_⟩
          exact fin (.is w3) _ p _ (hA1.sx.trans (hA2.sx.trans hA3.sx)) (g2.trans (At.gr hA3 hB3.there)) hB3 hp (.is _) one_lv ⟨m0, by omega⟩
        · walk_at "g"
          exact get H2 hA2 hB2 g2
      · walk_at "g"
        exact get H1 (fun _ _ => rfl) hB1 g1
    walk_at "g"
    have hS1 : SqL K H1 a (ns.map V.str) := sx_l hA1.sx (fun z : a = b => hab z) (.inl ha)
    refine ⟨true, .inl ⟨ns.map V.str, hS1, by cases ns with | nil => exact absurd rfl hne | cons _ _ => rfl⟩, ?_⟩
    walk_at "g"
    have one_lv : ((1 : Nat) : Int) ≤ lv := by omega
    have get : ∀ H2, At b H1 H2 → Bag K M H2 b → Gr H H2 → sp_choice K ([.ref b, .ref a] ++ []) H2 (fun v H3 => [V.str sGet, v].length ≤ sizeLine ∧ ∀ p, H3 p = none → Q (.ref p) (upd H3 p (.tup [.str sGet, v]))) E0 := fun H2 hA2 hB2 g2 => by
      refine ⟨b, a, _, M, rfl, hB2, sx_l hA2.sx (fun z : a = b => hab z) hS1, hab, by rw [List.length_map]; exact hpos, by rw [List.length_map]; exact hl, fun v H3 hv hA3 hB3 => ?_⟩
      obtain ⟨x, hx, rfl⟩ := List.mem_map.mp hv
      refine ⟨szK rfl, fun p hp => ?_⟩
      exact fin (.get x) _ p _ (hA1.sx.trans (hA2.sx.trans hA3.sx)) (g2.trans (At.gr hA3 hB3.there)) hB3 hp (.get x) one_lv hx
    walk_at "if"
    · walk_at "g"
      refine ⟨b, _, M, rfl, hB1, by omega, by omega, fun w2 H2 k0 k1 hA2 hB2 => ?_⟩
      walk_at "g"
      have g2 := g1.trans (At.gr hA2 hB2.there)
      walk_at "if"
      · walk_at "g"
        refine ⟨b, _, M, rfl, hB2, by omega, by omega, fun w3 H3 m0 m1 hA3 hB3 => ?_⟩
        refine ⟨szK rfl, fun p hp => ?_⟩
        exact fin (.is w3) _ p _ (hA1.sx.trans (hA2.sx.trans hA3.sx)) (g2.trans (At.gr hA3 hB3.there)) hB3 hp (.is _) one_lv ⟨m0, by omega⟩
      · walk_at "g"
        exact get H2 hA2 hB2 g2
    · walk_at "g"
      exact get H1 (fun _ _ => rfl) hB1 g1
end
end D

namespace D
open PySem PySem.Spec PyProof.Rows L2
local macro_rules | `(tactic| walk_at "st") => `(tactic| first | exact SqT.of (by assumption) | exact Or.inl (by assumption) | exact SqT.of upd_same | fail "st")
local macro_rules | `(tactic| walk_at "ixt") => `(tactic| refine ⟨_, _, _, _, rfl, rfl, (by walk_at "st" : SqT _ _ _ _), by rfl, ?_⟩)
local macro_rules | `(tactic| walk_at "sq") => `(tactic| first | exact SqL.of (by assumption) | assumption | exact Or.inl (by assumption) | exact SqL.of upd_same | fail "sq")
local macro_rules | `(tactic| walk_at "ix") => `(tactic| refine ⟨_, _, _, _, rfl, rfl, (by walk_at "sq" : SqL _ _ _ _), by rfl, ?_⟩)
local macro_rules | `(tactic| walk_at "set") => `(tactic| refine ⟨_, _, _, _, rfl, rfl, by first | assumption | exact upd_same, by rfl, ?_⟩)
local macro_rules | `(tactic| walk_at "len") => `(tactic| refine ⟨_, _, rfl, Or.inl (by walk_at "sq" : SqL _ _ _ _), ?_⟩)
local macro_rules | `(tactic| walk_at "g") => `(tactic| repeat (first | refine ⟨_, rfl, ?_⟩ | refine ⟨_, _, rfl, rfl, ?_⟩ | refine ⟨Or.inr (by decide), ?_⟩ | refine ⟨Or.inl (by decide), ?_⟩ | refine ⟨(by decide : (0 : Int) < _), ?_⟩ | refine ⟨(⟨by decide, by decide⟩ : CDiv _ _), ?_⟩ | refine ⟨(⟨by decide, by decide, by decide⟩ : CPow _ _), ?_⟩ | refine Or.inl ⟨_, rfl, ?_⟩ | refine ⟨rfl, ?_⟩ | walk_at "ix" | walk_at "ixt" | walk_at "len" | fail "g"))
local macro_rules | `(tactic| walk_at "if") => `(tactic| refine ite2 (fun e => ?_) (fun e => ?_))
section
variable {P : Program} {w : World} {K : PySem.W.Frag} {mg : Str → Option Value} {base : Heap}
def namesT (ns : List Str) : PyData := .tuple (ns.map PyData.str)
def plD (r : List Nat) : PyData := .tuple (r.map fun (i : Nat) => PyData.int (i : Int))
theorem plD_at {M : Ms} {H : Hp} {v : V} {r : List Nat} (h : Rp M H v (plD r)) : ∃ a, v = .ref a ∧ ¬ M a ∧ H a = some (.tup (r.map fun (i : Nat) => V.int (i : Int))) := by
  obtain ⟨a, xs, rfl, na, ha, rx⟩ := Rp.tupX h
  have e : r.map (fun (i : Nat) => PyData.int (i : Int)) = (r.map fun (i : Nat) => (i : Int)).map PyData.int := by rw [List.map_map]; rfl
  rw [e] at rx
  have := rx.ofInts
  subst this
  exact ⟨a, rfl, na, by rw [ha, List.map_map]; rfl⟩
theorem plD_new {M : Ms} {H : Hp} {p : Addr} (hM : Mk M H) (hp : H p = none) (r : List Nat) : Rp M (upd H p (.tup (r.map fun (i : Nat) => V.int (i : Int)))) (.ref p) (plD r) := by
  refine Rp.newT hM hp ?_
  have := RpAll.ints (M := M) (H := H) (r.map fun (i : Nat) => (i : Int))
  rw [List.map_map, List.map_map] at this
  exact this
def extU (j n : Nat) (r : List Nat) : List (List Nat) := ((List.range j).filter fun k => decide (r = []) || decide (r.getLastD 0 < k)).map fun k => r ++ [k]
theorem extU_step (j n : Nat) (r : List Nat) : extU (j + 1) n r = extU j n r ++ if (decide (r = []) || decide (r.getLastD 0 < j)) = true then [r ++ [j]] else [] := by
  unfold extU
  rw [List.range_succ, List.filter_append, List.map_append]
  congr 1
  by_cases c : (decide (r = []) || decide (r.getLastD 0 < j)) = true
  · rw [if_pos c, List.filter_cons, if_pos c]; rfl
  · rw [if_neg c, List.filter_cons, if_neg c]; rfl
theorem last_at {r : List Nat} (h : r ≠ []) : atI (r.map fun (i : Nat) => V.int (i : Int)) (-1) = some (.int (r.getLastD 0 : Nat)) := by
  obtain ⟨q, a, rfl⟩ : ∃ q a, r = q ++ [a] := ⟨r.dropLast, r.getLast h, (List.dropLast_concat_getLast h).symm⟩
  rw [List.map_append]
  refine (atI_last _ _).trans ?_
  simp
def sp_allsets : Sp := fun vs H Q _ => ∃ (v : V) (ns : List Str) (M : Ms), vs = [v] ∧ Rp M H v (namesT ns) ∧ Mk M H ∧ 1 ≤ ns.length ∧ ns.length ≤ 3 ∧ ∀ H' a, Same H H' → H a = none → Ld M H' a (([] :: Sc.sets ns).map namesT) → Q (.ref a) H'
theorem ok_allsets (T : Txt K mg) : FnOk P w K mg base CX0 1 T.f_all_sets T.d_all_sets ["things"] sp_allsets := by
  refine T.F_all_sets.ok sc_all_sets (fun vs H Q E h => ?_) (fun cdv A outer s H vs Q E hr h => ?_)
  · obtain ⟨_, _, _, rfl, _⟩ := h
    rfl
  · obtain ⟨v, ns, M, rfl, hR, hM, h1, h3, q⟩ := h
    refine ⟨_, (pss_cons (ps_set (i := 1) sc_all_sets.nd rfl (Or.inl rfl) (pe_lst (pa_cons (pe_tup pa_nil) pa_nil)))
      (pss_cons (ps_set (i := 2) sc_all_sets.nd rfl (Or.inl rfl) (pe_lst (pa_cons (pe_tup pa_nil) pa_nil)))
      (pss_cons (ps_for PassesOwn.never rfl (pi_tupK (K := K) rfl (pv 0)) (pg_name (i := 3) sc_all_sets.nd rfl (Or.inl rfl)) (pss_cons (ps_setLc2 (i := 2) (own := [("row", 4), ("at", 5)]) (vs1 := [5]) (g := gName 4) (g1 := gName 5) (tt := tYes)  (by rfl) sc_all_sets.nd rfl rfl (sw_true rfl rfl rfl (by decide +kernel)) (pi_listK (K := K) rfl (pv 2)) (blkOk_by (own := [("row", 4), ("at", 5)]) (N := ["things", "rows", "longest", "_", "row", "at"]) (sc := defScope s_all_sets) (by decide +kernel)) (by decide) (fun _ _ _ _ _ => (pg_name (i := 4) sc_all_sets.nd rfl (Or.inl rfl))) (fun _ _ _ _ _ => pts_nil) (fun _ _ _ _ _ => (pi_range1 (by rfl) T.m_range (pa_cons (pe_callB (call_lenK (K := K) rfl) (by rfl) T.m_len PySem.boot_len (pa_cons (pv 0) pa_nil)) pa_nil))) (fun _ _ _ _ _ => (pg_name (i := 5) sc_all_sets.nd rfl (Or.inl rfl))) (fun _ _ _ _ _ => (pts_one (PW.pt (pw_or (pt_not (pt_truthK (K := K) rfl (pv 4) (by intro _; rfl))) (pw_or1 (pt_cmpR op_gt (pv 5) (pe_ix (ix_tupK (K := K) rfl) (pv 4) (pe_un un_neg pe_int) (fun _ _ => rfl)) (nomark _))))))) (fun _ _ _ _ _ => (pe_op (op_catAK (K := K) rfl) (pv 4) (pe_tup (pa_cons (pv 5) pa_nil)))))
      (pss_one (ps_set (i := 1) sc_all_sets.nd rfl (Or.inl rfl) (pe_op op_cat (pv 1) (pv 2))))))
      (pss_one (ps_ret (pe_lc (own := [("row", 4)]) (g := gName 4) (tt := tYes) (by rfl) sc_all_sets.nd (pi_listK (K := K) rfl (pv 1)) (blkOk_by (own := [("row", 4)]) (N := ["things", "rows", "longest", "_", "row", "at"]) (sc := defScope s_all_sets) (by decide +kernel)) (fun _ _ _ _ _ => (pg_name (i := 4) sc_all_sets.nd rfl (Or.inl rfl))) (fun _ _ _ _ _ => pts_nil) (fun _ _ _ _ _ => (pe_callTy (call_tupleK (K := K) rfl) (by rfl) T.m_tuple (by decide +kernel) (pa_cons (pe_lc (own := [("at", 5)]) (g := gName 5) (tt := tYes) (by rfl) sc_all_sets.nd (pi_tupK (K := K) rfl (pv 4)) (blkOk_by (own := [("at", 5)]) (N := ["things", "rows", "longest", "_", "row", "at"]) (sc := { kind := .function, names := [(PySem.Str.ofString ".0", PySem.NameKind.local), (PySem.Str.ofString "row", PySem.NameKind.local), (PySem.Str.ofString "tuple", PySem.NameKind.globalImplicit), (PySem.Str.ofString "things", PySem.NameKind.cell)], isGenerator := false, isCoroutine := false }) (by decide +kernel)) (fun _ _ _ _ _ => (pg_name (i := 5) sc_all_sets.nd rfl (Or.inl rfl))) (fun _ _ _ _ _ => pts_nil) (fun _ _ _ _ _ => (pe_ix (ix_tupK (K := K) rfl) (pv 0) (pv 5) (fun _ _ => rfl)))) pa_nil))))))))), ?_⟩
    obtain ⟨p, xs, rfl, np, hp, rx⟩ := hR.tupX
    have := rx.ofStrs
    subst this
    refine ⟨szK rfl, fun t1 ht1 => ⟨szK rfl, fun a ha => ?_⟩⟩
    refine ⟨szK rfl, fun t2 ht2 => ⟨szK rfl, fun b hb => ?_⟩⟩
    have s1 : Same H (upd H t1 (.tup [])) := same_new ht1
    have r1 : Rp M (upd H t1 (.tup [])) (.ref t1) (plD []) := plD_new hM ht1 []
    generalize upd H t1 (.tup []) = Ha at s1 r1 ha ht2 hb
    have hMa := hM.gr (Gr.same s1)
    have s2 : Same Ha (upd Ha a (.lst [V.ref t1])) := same_new ha
    have ea : Ld M (upd Ha a (.lst [V.ref t1])) a ((Sc.upP ns.length 0).map plD) := Ld.new hMa ha (.one r1)
    have ha0 : H a = none := s1.free ha
    generalize upd Ha a (.lst [V.ref t1]) = Hb at s2 ea ht2 hb
    have hMb := hM.gr (Gr.same (s1.trans s2))
    have s3 : Same Hb (upd Hb t2 (.tup [])) := same_new ht2
    have r2 : Rp M (upd Hb t2 (.tup [])) (.ref t2) (plD []) := plD_new hMb ht2 []
    generalize upd Hb t2 (.tup []) = Hc at s3 r2 hb
    have hMc := hMb.gr (Gr.same s3)
    have s4 : Same Hc (upd Hc b (.lst [V.ref t2])) := same_new hb
    have eb : Ld M (upd Hc b (.lst [V.ref t2])) b ((Sc.lonP ns.length 0).map plD) := Ld.new hMc hb (.one r2)
    generalize upd Hc b (.lst [V.ref t2]) = Hd at s4 eb
    have s14 := ((s1.trans s2).trans s3).trans s4
    walk_at "g"
    refine ⟨⟨_, SqT.of (s14 _ _ hp)⟩, ?_⟩
    refine for_tup (K := K) (a := p) (xs := ns.map V.str) (fun k σ H' => ∃ aa bb y3 y4 y5, σ = [some (.ref p), some (.ref aa), some (.ref bb), y3, y4, y5] ∧ Same H H' ∧ H aa = none ∧ Ld M H' aa ((Sc.upP ns.length k).map plD) ∧ Ld M H' bb ((Sc.lonP ns.length k).map plD))
      ⟨a, b, _, _, _, rfl, s14, ha0, ea.sx (Sx.same (s3.trans s4)), eb⟩ (fun k σ H' _ z => ?_) (fun k x σ H' hk z => ?_) (fun σ H' z => ?_)
    · obtain ⟨_, _, _, _, _, _, z, _⟩ := z
      exact SqT.of (z _ _ hp)
    · obtain ⟨aa, bb, y3, y4, y5, rfl, sH, naa, la, lb⟩ := z
      have hk3 : k < ns.length := by
        have := (List.getElem?_eq_some_iff.mp hk).1
        rwa [List.length_map] at this
      have hM' := hM.gr (Gr.same sH)
      obtain ⟨nb, ys, eb', ry⟩ := id lb
      walk_at "g"
      refine ⟨⟨_, .inl (.inl eb')⟩, fun D hD => ?_⟩
      have lon3 := Sc.lon_len h3 k (by omega)
      refine list_loop (xs := ys) (fun i H2 => Acc M H' D H2 ((((Sc.lonP ns.length k).take i).flatMap (Sc.ext ns.length)).map plD)) (Acc.new hD) (fun i H2 _ z => .inl (.inl (z.same _ _ eb'))) (fun i x H2 hx z => ?_) (fun H2 z => ?_)
      · obtain ⟨d, hd, rd⟩ := ry.get hx
        rw [List.getElem?_map] at hd
        obtain ⟨r, hr, rfl⟩ := Option.map_eq_some_iff.mp hd
        obtain ⟨c, rfl, nc, hc⟩ := plD_at rd
        have hc2 := z.same _ _ hc
        refine ⟨rfl, ?_⟩
        walk_at "g"
        refine ⟨p, _, rfl, .inr (.inl (.inl (s14 _ _ hp |> fun _ => z.same _ _ (sH _ _ hp)))), ?_⟩
        refine ⟨_, rfl, by rw [List.length_map]; omega, by rw [List.length_map]; omega, ?_⟩
        rw [List.length_map]
        refine rng_loop (lo := 0) (n := (ns.length : Int).toNat) (fun j H3 => Acc M H' D H3 (((((Sc.lonP ns.length k).take i).flatMap (Sc.ext ns.length)) ++ extU j ns.length r).map plD)) (by rw [show extU 0 ns.length r = [] from rfl, List.append_nil]; exact z) (fun j H3 hj z3 => ?_) (fun H3 z3 => ?_)
        · have hj' : j < ns.length := by omega
          have hc3 := z3.same _ _ hc
          have lacc : ((((Sc.lonP ns.length k).take i).flatMap (Sc.ext ns.length)) ++ extU j ns.length r).length ≤ 1000 := by
            rw [List.length_append]
            have a1 := Sc.flat_len (Sc.ext ns.length) 3 ((Sc.lonP ns.length k).take i) fun x _ => Nat.le_trans (Sc.ext_len _ x) h3
            have a2 : (extU j ns.length r).length ≤ j := by
              unfold extU
              rw [List.length_map]
              exact Nat.le_trans (List.length_filter_le _ _) (by rw [List.length_range]; exact Nat.le_refl _)
            rw [List.length_take] at a1
            omega
          rw [Int.zero_add]
          refine ⟨rfl, ?_⟩
          rw [extU_step, ← List.append_assoc]
          have put : (decide (r = []) || decide (r.getLastD 0 < j)) = true → tOp (rCatA K) (tVar 4) (tTup (tCons (tVar 5) tNil)) [some (V.ref p), some (V.ref aa), some (V.ref bb), some x, some (.ref c), some (.int (j : Int))] H3 fun y H4 => ∃ acc, H4 D = some (.lst acc) ∧ acc.length < sizeLine ∧
              Acc M H' D (upd H4 D (.lst (acc ++ [y]))) ((((((Sc.lonP ns.length k).take i).flatMap (Sc.ext ns.length)) ++ extU j ns.length r) ++ if (decide (r = []) || decide (r.getLastD 0 < j)) = true then [r ++ [j]] else []).map plD) := fun e => by
            rw [if_pos e, List.map_append]
            walk_at "g"
            refine ⟨szK rfl, fun t ht => ?_⟩
            have st : Same H3 (upd H3 t (.tup [.int (j : Int)])) := same_new ht
            have zt := z3.keep st
            refine ⟨c, t, _, _, rfl, rfl, SqT.of (st _ _ hc3), SqT.of upd_same, szK2 (by rw [List.length_map]; have := Sc.lon_le k r (List.mem_of_getElem? hr); show r.length + 1 ≤ 1000; omega), fun e0 => ?_, fun _ e0 => (nomatch e0), fun e0 _ p2 hp2 => ?_⟩
            · have : r = [] := List.map_eq_nil_iff.mp e0
              subst this
              exact zt.put (plD_new (z3.mk hM') ht [j]) (by rw [List.length_map]; omega)
            · have := plD_new ((z3.mk hM').gr Gr.upd) hp2 (r ++ [j])
              rw [List.map_append] at this
              exact (zt.keep (same_new hp2)).put this (by rw [List.length_map]; omega)
          have skip : (decide (r = []) || decide (r.getLastD 0 < j)) = false → Acc M H' D H3 ((((((Sc.lonP ns.length k).take i).flatMap (Sc.ext ns.length)) ++ extU j ns.length r) ++ if (decide (r = []) || decide (r.getLastD 0 < j)) = true then [r ++ [j]] else []).map plD) := fun e => by
            rw [e, if_neg Bool.false_ne_true, List.append_nil]
            exact z3
          by_cases c0 : r = []
          · walk_at "g"
            refine ⟨false, .inr (.inl ⟨_, .inl (.inl hc3), by rw [c0]; rfl⟩), ?_⟩
            exact put (by rw [decide_eq_true c0]; rfl)
          · walk_at "g"
            refine ⟨true, .inr (.inl ⟨_, .inl (.inl hc3), by cases r with | nil => exact absurd rfl c0 | cons _ _ => rfl⟩), ?_⟩
            walk_at "g"
            refine ⟨c, _, -1, _, rfl, rfl, SqT.of hc3, last_at c0, ?_⟩
            refine ⟨_, _, rfl, rfl, ?_⟩
            refine ⟨_, rfl, ?_⟩
            by_cases c1 : r.getLastD 0 < j
            · have c2 : ((r.getLastD 0 : Nat) : Int) < (j : Int) := by omega
              rw [decide_eq_true c2]
              exact put (by rw [decide_eq_true c1, Bool.or_true])
            · have c2 : ¬ ((r.getLastD 0 : Nat) : Int) < (j : Int) := by omega
              rw [decide_eq_false c2]
              exact skip (by rw [decide_eq_false c1, decide_eq_false c0]; rfl)
        · rw [show (ns.length : Int).toNat = ns.length by omega, show extU ns.length ns.length r = Sc.ext ns.length r from rfl, ← Sc.flatMap_take _ hr] at z3
          exact z3
      · rw [ry.length, List.length_map, List.take_length] at z
        have lD := z.fin hM'
        obtain ⟨na2, as, ea2, ra2⟩ := la.sx (Sx.same z.same)
        obtain ⟨nD2, ds, eD2, rD2⟩ := id lD
        have lu := Sc.up_len h3 k (by omega)
        have ll := Sc.lon_len h3 (k + 1) (by omega)
        have l1 := ra2.length
        have l2 := rD2.length
        rw [List.length_map] at l1 l2
        rw [show ((Sc.lonP ns.length k).flatMap (Sc.ext ns.length)) = Sc.lonP ns.length (k + 1) from rfl] at l2 lD rD2
        walk_at "g"
        refine ⟨aa, D, as, ds, rfl, rfl, ea2, eD2, szK2 (by omega), fun u hu => ?_⟩
        have su := same_new (o := .lst (as ++ ds)) hu
        have sA := sH.trans z.same
        refine ⟨u, D, _, _, _, rfl, sA.trans su, sA.free hu, ?_, lD.sx (Sx.same su)⟩
        rw [show Sc.upP ns.length (k + 1) = Sc.upP ns.length k ++ Sc.lonP ns.length (k + 1) from rfl, List.map_append]
        exact Ld.new (hM.gr (Gr.same sA)) hu (ra2.append rD2)
    · obtain ⟨aa, bb, y3, y4, y5, rfl, sH, naa, la, lb⟩ := z
      rw [List.length_map, Sc.up_is h1 h3] at la
      obtain ⟨na2, as, ea2, ra2⟩ := id la
      have lps : ([] :: Sc.psets ns.length).length ≤ 109 := by
        rw [← Sc.up_is h1 h3]
        have := Sc.up_len h3 ns.length h3
        omega
      have hM' := hM.gr (Gr.same sH)
      have l1 := ra2.length
      rw [List.length_map] at l1
      walk_at "g"
      refine ⟨⟨_, SqL.of ea2⟩, fun D hD => ?_⟩
      refine lc_data (ys := ([] :: Sc.sets ns).map namesT) M hM' hD (SqL.of ea2) (by rw [l1, List.length_map, List.length_cons, List.length_cons]; unfold Sc.sets; rw [List.length_map]) (by omega) (fun i x y H2 C N hx hy s2 hM2 hC => ?_) (fun H2 s2 L2 => q H2 D (sH.trans s2) (sH.free hD) L2)
      obtain ⟨d, hd, rd⟩ := ra2.get hx
      rw [List.getElem?_map] at hd hy
      obtain ⟨r, hr, rfl⟩ := Option.map_eq_some_iff.mp hd
      obtain ⟨o, ho, rfl⟩ := Option.map_eq_some_iff.mp hy
      have eo : o = Sc.pk ns r := by
        cases i with
        | zero => cases hr; cases ho; rfl
        | succ i =>
          rw [List.getElem?_cons_succ] at hr ho
          unfold Sc.sets at ho
          rw [List.getElem?_map, hr] at ho
          exact (Option.some.inj ho).symm
      subst eo
      have hlt : ∀ i ∈ r, i < ns.length := Sc.up_lt ns.length r (by rw [Sc.up_is h1 h3]; exact List.mem_of_getElem? hr)
      have hle : r.length ≤ 3 := Nat.le_trans (Sc.up_le ns.length r (by rw [Sc.up_is h1 h3]; exact List.mem_of_getElem? hr)) h3
      obtain ⟨c, rfl, nc, hc⟩ := plD_at rd
      have hc2 := s2 _ _ hc
      have hp2 := s2 _ _ (sH _ _ hp)
      refine ⟨rfl, ?_⟩
      walk_at "g"
      refine ⟨⟨_, SqT.of hc2⟩, fun D2 hD2 => ?_⟩
      refine lc_valsT (ys := (Sc.pk ns r).map V.str) hD2 (SqT.of hc2) (by unfold Sc.pk; rw [List.length_map, List.length_map, List.length_map]) (by rw [List.length_map]; omega) (fun j x y H3 C2 N2 hx2 hy2 s3 hC2 => ?_) (fun H3 s3 e3 => ?_)
      · unfold Sc.pk at hy2
        rw [List.getElem?_map] at hx2
        rw [List.getElem?_map, List.getElem?_map] at hy2
        obtain ⟨m, hm, rfl⟩ := Option.map_eq_some_iff.mp hx2
        rw [hm] at hy2
        cases hy2
        have hml := hlt m (List.mem_of_getElem? hm)
        refine ⟨rfl, ?_⟩
        walk_at "g"
        refine ⟨p, _, (m : Int), _, rfl, rfl, SqT.of (s3 _ _ hp2), atI_nat (by rw [List.getElem?_map, List.getElem?_eq_getElem hml]; rfl), ?_⟩
        have eg : ns.getD m default = ns[m] := by rw [List.getD_eq_getElem?_getD, List.getElem?_eq_getElem hml]; rfl
        rw [← eg]
        exact hC2
      · walk_at "g"
        refine ⟨D2, _, rfl, .inl ⟨SqL.of e3, fun u hu => ?_⟩⟩
        exact hC _ _ (s3.trans (same_new hu)) (Rp.newT (hM2.gr (Gr.same s3)) hu (RpAll.strs _))
end
end D

namespace D
open PySem PySem.Spec PyProof.Rows L2
local macro_rules | `(tactic| walk_at "st") => `(tactic| first | exact SqT.of (by assumption) | exact Or.inl (by assumption) | exact SqT.of upd_same | fail "st")
local macro_rules | `(tactic| walk_at "ixt") => `(tactic| refine ⟨_, _, _, _, rfl, rfl, (by walk_at "st" : SqT _ _ _ _), by rfl, ?_⟩)
local macro_rules | `(tactic| walk_at "sq") => `(tactic| first | exact SqL.of (by assumption) | assumption | exact Or.inl (by assumption) | exact SqL.of upd_same | fail "sq")
local macro_rules | `(tactic| walk_at "ix") => `(tactic| refine ⟨_, _, _, _, rfl, rfl, (by walk_at "sq" : SqL _ _ _ _), by rfl, ?_⟩)
local macro_rules | `(tactic| walk_at "set") => `(tactic| refine ⟨_, _, _, _, rfl, rfl, by first | assumption | exact upd_same, by rfl, ?_⟩)
local macro_rules | `(tactic| walk_at "len") => `(tactic| refine ⟨_, _, rfl, Or.inl (by walk_at "sq" : SqL _ _ _ _), ?_⟩)
local macro_rules | `(tactic| walk_at "g") => `(tactic| repeat (first | refine ⟨_, rfl, ?_⟩ | refine ⟨_, _, rfl, rfl, ?_⟩ | refine ⟨Or.inr (by decide), ?_⟩ | refine ⟨Or.inl (by decide), ?_⟩ | refine ⟨(by decide : (0 : Int) < _), ?_⟩ | refine ⟨(⟨by decide, by decide⟩ : CDiv _ _), ?_⟩ | refine ⟨(⟨by decide, by decide, by decide⟩ : CPow _ _), ?_⟩ | refine Or.inl ⟨_, rfl, ?_⟩ | refine ⟨rfl, ?_⟩ | walk_at "ix" | walk_at "ixt" | walk_at "len" | fail "g"))
local macro_rules | `(tactic| walk_at "if") => `(tactic| refine ite2 (fun e => ?_) (fun e => ?_))
section
variable {P : Program} {w : World} {K : PySem.W.Frag} {mg : Str → Option Value} {base : Heap}
theorem okN_nm {x : Str} (h : okN x) : isNm x := by
  obtain ⟨h1, h2, h3⟩ := h
  rw [sg_len] at h1 h2
  exact ⟨h1, h2, h3⟩
def sp_is_name : Sp := fun vs H Q _ => ∃ x : Str, vs = [.str x] ∧ isNm x ∧ ∀ H', Same H H' → Q (.bl true) H'
theorem ok_is_name (T : Txt K mg) : FnOk P w K mg base CX0 1 T.f_is_name T.d_is_name ["thing"] sp_is_name := by
  refine T.F_is_name.ok sc_is_name (fun vs H Q E h => ?_) (fun cdv A outer s H vs Q E hr h => ?_)
  · obtain ⟨_, rfl, _⟩ := h
    rfl
  · obtain ⟨x, rfl, hx, q⟩ := h
    refine ⟨_, (pss_cons (ps_if (PW.pt (pw_or (pt_not (pt_val (pe_callB (call_isi1K (K := K) rfl) (by rfl) T.m_isinstance (by decide +kernel) (pa_cons (pv 0) (pa_cons (pe_bltn (v := .ty "str") (u := .type "str") (by rfl) T.m_str (by decide +kernel) rfl) pa_nil))))) (pw_or1 (pt_not (pt_chain op_le op_le pe_int (pe_callB call_len_str (by rfl) T.m_len PySem.boot_len (pa_cons (pv 0) pa_nil)) (pe_glob (v := .int 8) rfl T.c_MOST_LETTERS ⟨_, rfl⟩)))))) (pss_one (ps_ret pe_bl)) pss_nil)
      (pss_one (ps_ret (pe_callB (cr_allK (K := K) rfl rfl) (by rfl) T.m_all (by decide +kernel) (pa_cons (pe_lc (own := [("sign", 1)]) (g := gName 1) (tt := tYes) (by rfl) sc_is_name.nd (pi_str (pv 0)) (blkOk_by (own := [("sign", 1)]) (N := ["thing", "sign"]) (sc := defScope s_is_name) (by decide +kernel)) (fun _ _ _ _ _ => (pg_name (i := 1) sc_is_name.nd rfl (Or.inl rfl))) (fun _ _ _ _ _ => pts_nil) (fun _ _ _ _ _ => (pe_chain op_le_str op_le_str pe_str (pv 1) pe_str))) pa_nil))))), ?_⟩
    walk_at "g"
    refine ⟨_, _, _, _, true, rfl, .ty _, .base (.str _), kit_ty (by decide +kernel), ?_⟩
    walk_at "g"
    have h8 := hx.2.1
    refine ⟨Nat.le_of_lt (small1000 (by omega)), ?_⟩
    walk_at "g"
    rw [decide_eq_true (show (1 : Int) ≤ (x.length : Int) by have := hx.1; omega)]
    walk_at "g"
    rw [decide_eq_true (show (x.length : Int) ≤ 8 by omega)]
    walk_at "g"
    intro D hD
    have hsz : x.cps.size = x.length := rfl
    refine lc_valsS (z := x) (ys := List.replicate x.length (V.bl true)) hD (by rw [List.length_replicate, hsz]) (by omega) (fun i c y H' C N hc hy hs hC => ?_) (fun H' hs hD' => ?_)
    · have ey : y = V.bl true := (List.mem_replicate.mp (List.mem_of_getElem? hy)).2
      subst ey
      have hm : c ∈ x.cps.toList := by
        rw [← Array.getElem?_toList] at hc
        exact List.mem_of_getElem? hc
      have hr := hx.2.2 c hm
      walk_at "g"
      rw [sign_lo hr.1]
      refine ⟨_, _, rfl, rfl, ?_⟩
      rw [sign_hi hr.2]
      exact hC
    · refine ⟨D, List.replicate x.length true, rfl, ?_, ?_⟩
      · rw [List.map_replicate]
        exact SqL.of hD'
      · rw [show (List.replicate x.length true).all id = true by rw [List.all_replicate]; simp]
        exact q _ hs

/-- what is known of the names of a schedule -/
structure NmOk (ns : List Str) : Prop where
  pos : 1 ≤ ns.length
  le : ns.length ≤ 3
  nd : ns.Nodup
  nm : ∀ x ∈ ns, isNm x
theorem NmOk.sub {ns s : List Str} (h : NmOk ns) (hs : s ∈ Sc.sets ns) : NmOk s := by
  obtain ⟨h0, h1, h2, h3⟩ := Sc.sets_sub h.pos h.le h.nd hs
  exact ⟨List.length_pos_iff.mpr h0, h3, h1, fun x hx => h.nm x (h2 x hx)⟩
theorem names_at {M : Ms} {H : Hp} {v : V} {ns : List Str} (h : Rp M H v (namesT ns)) : ∃ a, v = .ref a ∧ ¬ M a ∧ H a = some (.tup (ns.map V.str)) := by
  obtain ⟨a, xs, rfl, na, ha, rx⟩ := Rp.tupX h
  have := rx.ofStrs
  subst this
  exact ⟨a, rfl, na, ha⟩
theorem names_new {M : Ms} {H : Hp} {p : Addr} (hM : Mk M H) (hp : H p = none) (ns : List Str) : Rp M (upd H p (.tup (ns.map V.str))) (.ref p) (namesT ns) := Rp.newT hM hp (RpAll.strs _)
theorem keys_str (ns : List Str) : (ns.map (Sum.inr : Str → Key)).map kV = ns.map V.str := by rw [List.map_map]; rfl
theorem nodup_inr {ns : List Str} (h : ns.Nodup) : (ns.map (Sum.inr : Str → Key)).Nodup := by
  unfold List.Nodup at h ⊢
  rw [List.pairwise_map]
  exact h.imp fun h e => h (Sum.inr.inj e)
def sp_isset : Sp := fun vs H Q _ => ∃ (v : V) (s : List Str) (M : Ms), vs = [v] ∧ Rp M H v (namesT s) ∧ NmOk s ∧ ∀ H', Same H H' → Q (.bl true) H'
theorem ok_isset (T : Txt K mg) : FnOk P w K mg base CX0 2 T.f__is_set T.d__is_set ["names"] sp_isset := by
  have G_is_name := ok_is_name (P := P) (w := w) (base := base) T
  refine T.F__is_set.ok sc__is_set (fun vs H Q E h => ?_) (fun cdv A outer s H vs Q E hr h => ?_)
  · obtain ⟨_, _, _, rfl, _⟩ := h
    rfl
  · obtain ⟨v, ss, M, rfl, hR, ok, q⟩ := h
    obtain ⟨a, rfl, na, ha⟩ := names_at hR
    refine ⟨_, (pss_cons (ps_if (PW.pt (pw_or (pt_not (pt_val (pe_callB (call_isi1K (K := K) rfl) (by rfl) T.m_isinstance (by decide +kernel) (pa_cons (pv 0) (pa_cons (pe_bltn (v := .ty "tuple") (u := .type "tuple") (by rfl) T.m_tuple (by decide +kernel) rfl) pa_nil))))) (pw_or (pt_not (pt_truthK (K := K) rfl (pv 0) (by intro _; rfl))) (pw_or1 (pt_not (pt_val (pe_callB (cr_allK (K := K) rfl rfl) (by rfl) T.m_all (by decide +kernel) (pa_cons (pe_lc (own := [("name", 1)]) (g := gName 1) (tt := tYes) (by rfl) sc__is_set.nd (pi_tupK (K := K) rfl (pv 0)) (blkOk_by (own := [("name", 1)]) (N := ["names", "name"]) (sc := defScope s__is_set) (by decide +kernel)) (fun _ _ _ _ _ => (pg_name (i := 1) sc__is_set.nd rfl (Or.inl rfl))) (fun _ _ _ _ _ => pts_nil) (fun _ _ _ _ _ => (pe_call G_is_name (hr.mono (by omega)) (by rfl) T.g_is_name T.F_is_name.kp T.b_is_name .nil pass0 (pa_cons (pv 1) pa_nil)))) pa_nil)))))))) (pss_one (ps_ret pe_bl)) pss_nil)
      (pss_one (ps_ret (pe_cmpR op_eq (pe_lenSetKT (K := K) rfl rfl (by rfl) T.m_len (by rfl) T.m_set (pv 0)) (pe_callB (call_lenK (K := K) rfl) (by rfl) T.m_len PySem.boot_len (pa_cons (pv 0) pa_nil)) (nomark _))))), ?_⟩
    walk_at "g"
    refine ⟨_, _, _, _, true, rfl, .ty _, rd_ty (.inl ha), kit_ty (by decide +kernel), ?_⟩
    walk_at "g"
    refine ⟨true, .inr (.inl ⟨_, .inl (.inl ha), by have := ok.pos; cases ss with | nil => exact absurd this (by decide) | cons _ _ => rfl⟩), ?_⟩
    walk_at "g"
    refine ⟨⟨_, SqT.of ha⟩, fun D hD => ?_⟩
    have l3 := ok.le
    refine vl_tup (ys := ((List.replicate ss.length true).map V.bl).map some) hD (SqT.of ha) (by simp) (by rw [List.length_map]; omega) (fun i x y H' C N hx hy hs hC hN => ?_) (fun H' hs hD' => ?_)
    · rw [List.getElem?_map] at hx
      rw [List.getElem?_map, List.getElem?_map] at hy
      obtain ⟨n, hn, rfl⟩ := Option.map_eq_some_iff.mp hx
      obtain ⟨b', hb', rfl⟩ := Option.map_eq_some_iff.mp hy
      obtain ⟨b, hb, rfl⟩ := Option.map_eq_some_iff.mp hb'
      have eb : b = true := (List.mem_replicate.mp (List.mem_of_getElem? hb)).2
      subst eb
      refine ⟨rfl, ?_⟩
      walk_at "g"
      exact ⟨ok.nm n (List.mem_of_getElem? hn), fun H2 s2 => hC _ rfl H2 s2⟩
    · rw [opt_all] at hD'
      refine ⟨D, List.replicate ss.length true, rfl, SqL.of hD', ?_⟩
      rw [show (List.replicate ss.length true).all id = true by rw [List.all_replicate]; simp]
      walk_at "g"
      have ha' := hs _ _ ha
      refine ⟨a, ss.map Sum.inr, rfl, SqT.of (by rw [keys_str]; exact ha'), by rw [List.length_map]; omega, fun c hc hcn => ?_⟩
      have ec := hcn.mpr (nodup_inr ok.nd)
      subst ec
      walk_at "g"
      refine ⟨_, _, rfl, .inr (.inl (.inl ha')), ?_⟩
      refine ⟨rfl, ?_⟩
      rw [List.length_map, List.length_map, decide_eq_true rfl]
      exact q _ hs
def sp_checknames : Sp := fun vs H Q _ => ∃ (v : V) (s : List Str) (M : Ms), vs = [v] ∧ Rp M H v (namesT s) ∧ NmOk s ∧ ∀ H', Same H H' → Q .non H'
theorem ok_checknames (T : Txt K mg) : FnOk P w K mg base CX0 3 T.f__check_names T.d__check_names ["names"] sp_checknames := by
  have G__is_set := ok_isset (P := P) (w := w) (base := base) T
  refine T.F__check_names.ok sc__check_names (fun vs H Q E h => ?_) (fun cdv A outer s H vs Q E hr h => ?_)
  · obtain ⟨_, _, _, rfl, _⟩ := h
    rfl
  · obtain ⟨v, ss, M, rfl, hR, ok, q⟩ := h
    obtain ⟨a, rfl, na, ha⟩ := names_at hR
    refine ⟨_, (pss_one (ps_if (PW.pt (pw_or (pt_not (pt_val (pe_call G__is_set (hr.mono (by omega)) (by rfl) T.g__is_set T.F__is_set.kp T.b__is_set .nil pass0 (pa_cons (pv 0) pa_nil)))) (pw_or1 (pt_cmpR op_gt (pe_callB (call_lenK (K := K) rfl) (by rfl) T.m_len PySem.boot_len (pa_cons (pv 0) pa_nil)) (pe_glob (v := .int 3) rfl T.c_MOST_NAMES ⟨_, rfl⟩) (nomark _))))) (pss_one ps_never) pss_nil)), ?_⟩
    walk_at "g"
    refine ⟨_, ss, M, rfl, hR, ok, fun H1 s1 => ?_⟩
    walk_at "g"
    refine ⟨_, _, rfl, .inr (.inl (.inl (s1 _ _ ha))), ?_⟩
    walk_at "g"
    rw [List.length_map, decide_eq_false (show ¬ (3 : Int) < (ss.length : Int) by have := ok.le; omega)]
    walk_at "g"
    exact q H1 s1
def sp_allS : Sp := fun vs H Q _ => ∃ (v : V) (ns : List Str) (M : Ms), vs = [v] ∧ Rp M H v (namesT ns) ∧ Mk M H ∧ NmOk ns ∧ ∀ H' a, Same H H' → H a = none → Ld M H' a ((Sc.sets ns).map namesT) → Q (.ref a) H'
theorem ok_allS (T : Txt K mg) : FnOk P w K mg base CX0 2 T.f__all_sets T.d__all_sets ["names"] sp_allS := by
  have G_all_sets := ok_allsets (P := P) (w := w) (base := base) T
  refine T.F__all_sets.ok sc__all_sets (fun vs H Q E h => ?_) (fun cdv A outer s H vs Q E hr h => ?_)
  · obtain ⟨_, _, _, rfl, _⟩ := h
    rfl
  · obtain ⟨v, ns, M, rfl, hR, hM, ok, q⟩ := h
    refine ⟨_, (pss_one (ps_ret (pe_slice (sl_listK (K := K) rfl) (pe_call G_all_sets (hr.mono (by omega)) (by rfl) T.g_all_sets T.F_all_sets.kp T.b_all_sets .nil pass0 (pa_cons (pv 0) pa_nil)) (po_some pe_int) po_none))), ?_⟩
    walk_at "g"
    refine ⟨_, ns, M, rfl, hR, hM, ok.pos, ok.le, fun H1 a s1 na L1 => ?_⟩
    obtain ⟨nM, xs, e, r⟩ := L1
    cases r with
    | @cons y ys _ _ r1 r2 =>
    walk_at "g"
    refine ⟨a, _, rfl, SqL.of e, fun p hp => ?_⟩
    rw [cut1]
    exact q _ _ (s1.trans (same_new hp)) (s1.free hp) (Ld.new (hM.gr (Gr.same s1)) hp r2)
def sp_inorder : Sp := fun vs H Q _ => ∃ (v1 v2 : V) (ns ss : List Str) (M : Ms), vs = [v1, v2] ∧ Rp M H v1 (namesT ns) ∧ Rp M H v2 (namesT ss) ∧ Mk M H ∧ ns.length ≤ 1000 ∧ ∀ H' p, Same H H' → Rp M H' (.ref p) (namesT (Sc.ordOf ns ss)) → Q (.ref p) H'
theorem ok_inorder (T : Txt K mg) : FnOk P w K mg base CX0 1 T.f__in_order T.d__in_order ["names", "changed"] sp_inorder := by
  refine T.F__in_order.ok sc__in_order (fun vs H Q E h => ?_) (fun cdv A outer s H vs Q E hr h => ?_)
  · obtain ⟨_, _, _, _, _, rfl, _⟩ := h
    rfl
  · obtain ⟨v1, v2, ns, ss, M, rfl, h1, h2, hM, hl, q⟩ := h
    obtain ⟨a, rfl, na, ha⟩ := names_at h1
    obtain ⟨b, rfl, nb, hb⟩ := names_at h2
    refine ⟨_, (pss_one (ps_ret (pe_callTy (call_tupleK (K := K) rfl) (by rfl) T.m_tuple (by decide +kernel) (pa_cons (pe_lc (own := [("name", 2)]) (g := gName 2)  (by rfl) sc__in_order.nd (pi_tupK (K := K) rfl (pv 0)) (blkOk_by (own := [("name", 2)]) (N := ["names", "changed", "name"]) (sc := defScope s__in_order) (by decide +kernel)) (fun _ _ _ _ _ => (pg_name (i := 2) sc__in_order.nd rfl (Or.inl rfl))) (fun _ _ _ _ _ => (pts_one (pt_cmpR (op_in_seqK (K := K) rfl) (pv 2) (pv 1) (by rfl)))) (fun _ _ _ _ _ => (pv 2))) pa_nil)))), ?_⟩
    walk_at "g"
    refine ⟨⟨_, SqT.of ha⟩, fun D hD => ?_⟩
    refine vl_tup (ys := ns.map fun x => if decide (x ∈ ss) = true then some (V.str x) else none) hD (SqT.of ha) (by rw [List.length_map, List.length_map]) (by rw [List.length_map]; omega) (fun i x y H' C N hx hy hs hC hN => ?_) (fun H' hs e => ?_)
    · rw [List.getElem?_map] at hx hy
      obtain ⟨n, hn, rfl⟩ := Option.map_eq_some_iff.mp hx
      rw [hn] at hy
      cases hy
      refine ⟨rfl, ?_⟩
      walk_at "g"
      refine ⟨b, _, rfl, .inr (SqT.of (hs _ _ hb)), rfl, flat_strs ss, ?_⟩
      rw [if_neg Bool.false_ne_true, in_strs]
      refine ⟨_, rfl, ?_⟩
      cases c : decide (n ∈ ss) with
      | true =>
        walk_at "g"
        exact hC _ (if_pos c) _ (Same.refl _)
      | false => exact hN (if_neg (by rw [c]; exact Bool.false_ne_true)) _ (Same.refl _)
    · rw [opt_filter] at e
      walk_at "g"
      refine ⟨D, _, rfl, .inl ⟨SqL.of e, fun u hu => ?_⟩⟩
      exact q _ u (hs.trans (same_new hu)) (names_new (hM.gr (Gr.same hs)) hu _)
def sp_hasn : Sp := fun vs H Q _ => ∃ (v1 v2 : V) (ss nd : List Str) (M : Ms), vs = [v1, v2] ∧ Rp M H v1 (namesT ss) ∧ Rp M H v2 (namesT nd) ∧ ss.length ≤ 1000 ∧ ∀ H', Same H H' → Q (.bl (Sc.has nd ss)) H'
theorem ok_hasn (T : Txt K mg) : FnOk P w K mg base CX0 1 T.f__has_needed T.d__has_needed ["changed", "needs"] sp_hasn := by
  refine T.F__has_needed.ok sc__has_needed (fun vs H Q E h => ?_) (fun cdv A outer s H vs Q E hr h => ?_)
  · obtain ⟨_, _, _, _, _, rfl, _⟩ := h
    rfl
  · obtain ⟨v1, v2, ss, nd, M, rfl, h1, h2, hl, q⟩ := h
    obtain ⟨a, rfl, na, ha⟩ := names_at h1
    obtain ⟨b, rfl, nb, hb⟩ := names_at h2
    refine ⟨_, (pss_one (ps_ret (pe_callB (cr_anyK (K := K) rfl rfl) (by rfl) T.m_any (by decide +kernel) (pa_cons (pe_lc (own := [("name", 2)]) (g := gName 2) (tt := tYes) (by rfl) sc__has_needed.nd (pi_tupK (K := K) rfl (pv 0)) (blkOk_by (own := [("name", 2)]) (N := ["changed", "needs", "name"]) (sc := defScope s__has_needed) (by decide +kernel)) (fun _ _ _ _ _ => (pg_name (i := 2) sc__has_needed.nd rfl (Or.inl rfl))) (fun _ _ _ _ _ => pts_nil) (fun _ _ _ _ _ => (pe_cmpR (op_in_seqK (K := K) rfl) (pv 2) (pv 1) (by rfl)))) pa_nil)))), ?_⟩
    walk_at "g"
    refine ⟨⟨_, SqT.of ha⟩, fun D hD => ?_⟩
    refine lc_valsT (ys := (ss.map fun x => decide (x ∈ nd)).map V.bl) hD (SqT.of ha) (by rw [List.length_map, List.length_map, List.length_map]) (by rw [List.length_map]; omega) (fun i x y H' C N hx hy hs hC => ?_) (fun H' hs hD' => ?_)
    · rw [List.getElem?_map] at hx hy
      obtain ⟨n, hn, rfl⟩ := Option.map_eq_some_iff.mp hx
      rw [List.getElem?_map, hn] at hy
      cases hy
      refine ⟨rfl, ?_⟩
      walk_at "g"
      refine ⟨b, _, rfl, .inr (SqT.of (hs _ _ hb)), rfl, flat_strs nd, ?_⟩
      rw [if_neg Bool.false_ne_true, in_strs]
      exact hC
    · refine ⟨D, _, rfl, SqL.of hD', ?_⟩
      rw [List.any_map]
      exact q _ hs
end
end D

namespace D
open PySem PySem.Spec PyProof.Rows L2
local macro_rules | `(tactic| walk_at "st") => `(tactic| first | exact SqT.of (by assumption) | exact Or.inl (by assumption) | exact SqT.of upd_same | fail "st")
local macro_rules | `(tactic| walk_at "ixt") => `(tactic| refine ⟨_, _, _, _, rfl, rfl, (by walk_at "st" : SqT _ _ _ _), by rfl, ?_⟩)
local macro_rules | `(tactic| walk_at "sq") => `(tactic| first | exact SqL.of (by assumption) | assumption | exact Or.inl (by assumption) | exact SqL.of upd_same | fail "sq")
local macro_rules | `(tactic| walk_at "ix") => `(tactic| refine ⟨_, _, _, _, rfl, rfl, (by walk_at "sq" : SqL _ _ _ _), by rfl, ?_⟩)
local macro_rules | `(tactic| walk_at "set") => `(tactic| refine ⟨_, _, _, _, rfl, rfl, by first | assumption | exact upd_same, by rfl, ?_⟩)
local macro_rules | `(tactic| walk_at "len") => `(tactic| refine ⟨_, _, rfl, Or.inl (by walk_at "sq" : SqL _ _ _ _), ?_⟩)
local macro_rules | `(tactic| walk_at "g") => `(tactic| repeat (first | refine ⟨_, rfl, ?_⟩ | refine ⟨_, _, rfl, rfl, ?_⟩ | refine ⟨Or.inr (by decide), ?_⟩ | refine ⟨Or.inl (by decide), ?_⟩ | refine ⟨(by decide : (0 : Int) < _), ?_⟩ | refine ⟨(⟨by decide, by decide⟩ : CDiv _ _), ?_⟩ | refine ⟨(⟨by decide, by decide, by decide⟩ : CPow _ _), ?_⟩ | refine Or.inl ⟨_, rfl, ?_⟩ | refine ⟨rfl, ?_⟩ | walk_at "ix" | walk_at "ixt" | walk_at "len" | fail "g"))
local macro_rules | `(tactic| walk_at "if") => `(tactic| refine ite2 (fun e => ?_) (fun e => ?_))
section
variable {P : Program} {w : World} {K : PySem.W.Frag} {mg : Str → Option Value} {base : Heap}
def sNames : Str := "_names"
def sSets : Str := "_sets"
def setsL (ks : List (List Str)) : PyData := .list (ks.map namesT)
def SchAt (C : Addr) (M : Ms) (H : Hp) (v : V) (ns : List Str) (ks : List (List Str)) : Prop := ∃ a dx u z, v = .ref a ∧ ¬ M a ∧ H a = some (.ins C dx [(sNames, u), (sSets, z)]) ∧ Rp M H u (namesT ns) ∧ Rp M H z (setsL ks)
theorem SchAt.sx {C : Addr} {M : Ms} {H H' : Hp} {v : V} {ns : List Str} {ks : List (List Str)} (h : SchAt C M H v ns ks) (s : Sx M H H') : SchAt C M H' v ns ks := by
  obtain ⟨a, dx, u, z, e, n, ha, r1, r2⟩ := h
  exact ⟨a, dx, u, z, e, n, s _ _ n ha, r1.sx s, r2.sx s⟩
theorem SchAt.less {C : Addr} {M N : Ms} {H : Hp} {v : V} {ns : List Str} {ks : List (List Str)} (f : ∀ a, N a → M a) (h : SchAt C M H v ns ks) : SchAt C N H v ns ks := by
  obtain ⟨a, dx, u, z, e, n, ha, r1, r2⟩ := h
  exact ⟨a, dx, u, z, e, fun m => n (f _ m), ha, r1.less f, r2.less f⟩
def inK (s : List Str) : List Key := s.map Sum.inr
theorem inK_inj : ∀ {a b : List Str}, inK a = inK b → a = b
  | [], [], _ => rfl
  | [], _ :: _, h => nomatch h
  | _ :: _, [], h => nomatch h
  | x :: a, y :: b, h => by
    have h' : (Sum.inr x : Key) :: inK a = Sum.inr y :: inK b := h
    injection h' with h1 h2
    rw [Sum.inr.inj h1, inK_inj h2]
def ToldS (kvs : List (List Key × V)) (cs : List (List Str)) : Prop := ∀ s, (valV kvs (inK s)).isSome = decide (s ∈ cs)
theorem toldS_put {kvs : List (List Key × V)} {cs : List (List Str)} (h : ToldS kvs cs) (s : List Str) (v : V) : ToldS (putK kvs (inK s) v) (cs ++ [s]) := fun t => by
  rw [valV_put]
  by_cases c : inK t = inK s
  · rw [if_pos c, inK_inj c]
    simp
  · rw [if_neg c, h t]
    have : t ≠ s := fun z => c (by rw [z])
    simp [this]
def sp_init (C : Addr) : Sp := fun vs H Q _ => ∃ (a dx : Addr) (v w : V) (ns : List Str) (ch : List (List Str)) (M : Ms), vs = [.ref a, v, w] ∧ H a = some (.ins C dx []) ∧ M a ∧ Mk M H ∧ Rp M H v (namesT ns) ∧ NmOk ns ∧ Rp M H w (setsL ch) ∧ (∀ s ∈ ch, s ∈ Sc.sets ns) ∧ ch.length ≤ 100 ∧
  ∀ H' z, Sx (one a) H H' → Gr H H' → H' a = some (.ins C dx [(sNames, v), (sSets, z)]) → Rp M H' z (setsL (Sc.kept ns ch)) → Q .non H'
theorem ok_init (T : Txt K mg) : FnOk P w K mg base CX0 4 T.f_Schedule___init__ T.d_Schedule___init__ ["self", "names", "sets"] (sp_init T.C_Schedule) := by
  have G__check_names := ok_checknames (P := P) (w := w) (base := base) T
  have G__is_set := ok_isset (P := P) (w := w) (base := base) T
  have G__in_order := ok_inorder (P := P) (w := w) (base := base) T
  have G__all_sets := ok_allS (P := P) (w := w) (base := base) T
  refine T.F_Schedule___init__.ok sc_Schedule___init__ (fun vs H Q E h => ?_) (fun cdv A outer s H vs Q E hr h => ?_)
  · obtain ⟨_, _, _, _, _, _, _, rfl, _⟩ := h
    rfl
  · obtain ⟨a, dx, v, wv, ns, ch, M, rfl, ha, ma, hM, hv, ok, hw, hch, hl, q⟩ := h
    refine ⟨_, (pss_cons (ps_expr (pe_call G__check_names (hr.mono (by omega)) (by rfl) T.g__check_names T.F__check_names.kp T.b__check_names .nil pass0 (pa_cons (pv 1) pa_nil)))
      (pss_cons (ps_for PassesOwn.never rfl (pi_listK (K := K) rfl (pv 2)) (pg_name (i := 3) sc_Schedule___init__.nd rfl (Or.inl rfl)) (pss_one (ps_if (PW.pt (pw_or (pt_not (pt_val (pe_call G__is_set (hr.mono (by omega)) (by rfl) T.g__is_set T.F__is_set.kp T.b__is_set .nil pass0 (pa_cons (pv 3) pa_nil)))) (pw_or1 (pt_not (pt_val (pe_callB (cr_allK (K := K) rfl rfl) (by rfl) T.m_all (by decide +kernel) (pa_cons (pe_lc (own := [("name", 5)]) (g := gName 5) (tt := tYes) (by rfl) sc_Schedule___init__.nd (pi_tupK (K := K) rfl (pv 3)) (blkOk_by (own := [("name", 5)]) (N := ["self", "names", "sets", "changed", "told", "name"]) (sc := defScope s_Schedule___init__) (by decide +kernel)) (fun _ _ _ _ _ => (pg_name (i := 5) sc_Schedule___init__.nd rfl (Or.inl rfl))) (fun _ _ _ _ _ => pts_nil) (fun _ _ _ _ _ => (pe_cmpR (op_in_seqK (K := K) rfl) (pv 5) (pv 1) (by rfl)))) pa_nil))))))) (pss_one ps_never) pss_nil)))
      (pss_cons (ps_set (i := 4) sc_Schedule___init__.nd rfl (Or.inr rfl) (pe_dcT (own := [("changed", 3)]) (g := gName 3) (tt := tYes) (hu_of hr) (by rfl) sc_Schedule___init__.nd (pi_listK (K := K) rfl (pv 2)) (blkOk_by (own := [("changed", 3)]) (N := ["self", "names", "sets", "changed", "told", "name"]) (sc := defScope s_Schedule___init__) (by decide +kernel)) (fun _ _ _ _ _ => (pg_name (i := 3) sc_Schedule___init__.nd rfl (Or.inl rfl))) (fun _ _ _ _ _ => pts_nil) (fun _ _ _ _ _ => (pe_call G__in_order (hr.mono (by omega)) (by rfl) T.g__in_order T.F__in_order.kp T.b__in_order .nil pass0 (pa_cons (pv 1) (pa_cons (pv 3) pa_nil)))) (fun _ _ _ _ _ => pe_bl)))
      (pss_cons (ps_fld (pv 0) (pv 1) rfl)
      (pss_one (ps_fld (pv 0) (pe_lc (own := [("changed", 3)]) (g := gName 3)  (by rfl) sc_Schedule___init__.nd (pi_listK (K := K) rfl (pe_call G__all_sets (hr.mono (by omega)) (by rfl) T.g__all_sets T.F__all_sets.kp T.b__all_sets .nil pass0 (pa_cons (pv 1) pa_nil))) (blkOk_by (own := [("changed", 3)]) (N := ["self", "names", "sets", "changed", "told", "name"]) (sc := defScope s_Schedule___init__) (by decide +kernel)) (fun _ _ _ _ _ => (pg_name (i := 3) sc_Schedule___init__.nd rfl (Or.inl rfl))) (fun _ _ _ _ _ => (pts_one (pt_cmp (pc_din (hu_of hr) (pv 3) (pv 4))))) (fun _ _ _ _ _ => (pv 3))) rfl)))))), ?_⟩
    obtain ⟨b, rfl, nb, hb⟩ := names_at hv
    obtain ⟨c, xs, rfl, nc, hc, rc⟩ := hw.lstN
    have lxs := rc.length
    rw [List.length_map] at lxs
    walk_at "g"
    refine ⟨_, ns, M, rfl, hv, ok, fun H1 s1 => ?_⟩
    have hc1 := same_rd s1 hc
    walk_at "g"
    refine ⟨⟨_, .inl hc1⟩, ?_⟩
    have setAt : ∀ {H'}, Same H H' → ∀ (i : Nat) (x : V), xs[i]? = some x → ∃ s, ch[i]? = some s ∧ Rp M H' x (namesT s) ∧ s ∈ Sc.sets ns := fun {H'} s i x hx => by
      obtain ⟨d, hd, rd⟩ := rc.get hx
      rw [List.getElem?_map] at hd
      obtain ⟨t, ht, rfl⟩ := Option.map_eq_some_iff.mp hd
      exact ⟨t, ht, rd.sx (Sx.same s), hch t (List.mem_of_getElem? ht)⟩
    refine for_list (K := K) (a := c) (xs := xs) (fun i σ H' => ∃ y3 y4 y5, σ = [some (.ref a), some (.ref b), some (.ref c), y3, y4, y5] ∧ Same H1 H') ⟨none, none, none, rfl, Same.refl _⟩ (fun i σ H' _ z => ?_) (fun i x σ H' hx z => ?_) (fun σ H' z => ?_)
    · obtain ⟨_, _, _, _, z⟩ := z
      exact .inl (same_rd z hc1)
    · obtain ⟨y3, y4, y5, rfl, s2⟩ := z
      have s12 := s1.trans s2
      obtain ⟨t, ht, rt, ts⟩ := setAt s12 i x hx
      obtain ⟨u, rfl, nu, hu⟩ := names_at rt
      walk_at "g"
      refine ⟨_, t, M, rfl, rt, ok.sub ts, fun H2 s3 => ?_⟩
      have sA := s12.trans s3
      have hu2 := s3 _ _ hu
      have hb2 := sA _ _ hb
      walk_at "g"
      refine ⟨⟨_, SqT.of hu2⟩, fun D hD => ?_⟩
      obtain ⟨h0, h1, h2, h3⟩ := Sc.sets_sub ok.pos ok.le ok.nd ts
      refine lc_valsT (ys := (List.replicate t.length true).map V.bl) hD (SqT.of hu2) (by rw [List.length_map, List.length_replicate, List.length_map]) (by rw [List.length_map]; omega) (fun j x y H3 C N hx hy hs hC => ?_) (fun H3 hs hD' => ?_)
      · rw [List.getElem?_map] at hx hy
        obtain ⟨n, hn, rfl⟩ := Option.map_eq_some_iff.mp hx
        obtain ⟨b', hb', rfl⟩ := Option.map_eq_some_iff.mp hy
        have eb : b' = true := (List.mem_replicate.mp (List.mem_of_getElem? hb')).2
        subst eb
        refine ⟨rfl, ?_⟩
        walk_at "g"
        refine ⟨b, _, rfl, .inr (SqT.of (hs _ _ hb2)), rfl, flat_strs ns, ?_⟩
        rw [if_neg Bool.false_ne_true, in_strs, decide_eq_true (h2 n (List.mem_of_getElem? hn))]
        exact hC
      · refine ⟨D, List.replicate t.length true, rfl, SqL.of hD', ?_⟩
        rw [show (List.replicate t.length true).all id = true by rw [List.all_replicate]; simp]
        walk_at "g"
        exact ⟨_, _, _, rfl, s2.trans (s3.trans hs)⟩
    · obtain ⟨y3, y4, y5, rfl, s2⟩ := z
      have s12 := s1.trans s2
      have hc2 := same_rd s12 hc
      walk_at "g"
      refine ⟨⟨_, .inl hc2⟩, fun D hD => ?_⟩
      refine list_loop (xs := xs) (fun i G => Same H' G ∧ ∃ kvs, G D = some (.dT kvs) ∧ kvs.length ≤ i ∧ ToldS kvs (ch.take i)) ⟨same_new hD, [], upd_same, Nat.le_refl _, fun s => by rw [List.take_zero]; rfl⟩ (fun i G _ z => .inl (same_rd (s12.trans z.1) hc)) (fun i x G hx z => ?_) (fun G z => ?_)
      · obtain ⟨s3, kvs, eD, lk, tk⟩ := z
        have sG := s12.trans s3
        obtain ⟨t, ht, rt, ts⟩ := setAt sG i x hx
        have hi : i < ch.length := (List.getElem?_eq_some_iff.mp ht).1
        refine ⟨rfl, ?_⟩
        walk_at "g"
        refine ⟨_, _, ns, t, M, rfl, hv.sx (Sx.same sG), rt, hM.gr (Gr.same sG), by have := ok.le; omega, fun G2 p s4 rp => ?_⟩
        rw [Sc.sets_ord ok.pos ok.le ok.nd ts] at rp
        obtain ⟨p', ep, np, hp⟩ := names_at rp
        cases ep
        refine ⟨kvs, inK t, p, rfl, by rw [hp]; unfold inK; rw [keys_str], s4 _ _ eD, small1000 (by omega), same_put (s3.trans s4) hD, _, upd_same, ?_, ?_⟩
        · have := length_putK kvs (inK t) (V.bl true)
          omega
        · rw [List.take_add_one, ht]
          exact toldS_put tk t _
      · obtain ⟨s3, kvs, eD, lk, tk⟩ := z
        rw [lxs, List.take_length] at tk
        have sG := s12.trans s3
        walk_at "g"
        refine ⟨a, _, dx, [], rfl, sG _ _ ha, T.cl_Schedule, T.nA_Schedule__names, by decide, ?_⟩
        have aD : D ≠ a := fun z => by
          have := s12 _ _ ha
          rw [← z, hD] at this
          cases this
        generalize hU : upd G a (HO.ins T.C_Schedule dx (putF (Str.ofString "_names") (V.ref b) [])) = U
        have sU : Sx (one a) G U := hU ▸ Sx.put rfl
        have eU : U a = some (.ins T.C_Schedule dx [(sNames, .ref b)]) := hU ▸ upd_same
        have gU : Gr G U := hU ▸ Gr.upd
        have eDU : U D = some (.dT kvs) := by rw [← hU, upd_ne aD]; exact eD
        have hvU := (hv.sx (Sx.same sG)).sx (sU.le (one_le ma))
        have hMU := hM.gr ((Gr.same sG).trans gU)
        walk_at "g"
        refine ⟨_, ns, M, rfl, hvU, hMU, ok, fun H3 l s5 nl L3 => ?_⟩
        obtain ⟨nlM, zs, el, rz⟩ := id L3
        have lz := rz.length
        rw [List.length_map] at lz
        have l7 := Sc.sets_len ok.pos ok.le
        have hM3 := hMU.gr (Gr.same s5)
        walk_at "g"
        refine ⟨⟨_, SqL.of el⟩, fun D2 hD2 => ?_⟩
        refine dt_list (cs := (Sc.sets ns).map fun s => if decide (s ∈ ch) = true then some (namesT s) else none) M hM3 hD2 (SqL.of el) (by rw [List.length_map, lz]) (by omega) (fun i x o H4 C N hx ho s6 hM4 hC hN => ?_) (fun H4 s6 L4 => ?_)
        · obtain ⟨d, hd, rd⟩ := rz.get hx
          rw [List.getElem?_map] at hd ho
          obtain ⟨t, ht, rfl⟩ := Option.map_eq_some_iff.mp hd
          rw [ht] at ho
          cases ho
          obtain ⟨u, rfl, nu, hu⟩ := names_at rd
          refine ⟨rfl, ?_⟩
          walk_at "g"
          refine ⟨D, _, rfl, .inr ⟨kvs, inK t, u, .inl (s6 _ _ (s5 _ _ eDU)), rfl, by rw [s6 _ _ hu]; unfold inK; rw [keys_str], rfl⟩, ?_⟩
          rw [tk t]
          cases cc : decide (t ∈ ch) with
          | true =>
            walk_at "g"
            exact hC _ (if_pos cc) _ _ (Same.refl _) ((rd.fresh hD2).sx (Sx.same s6))
          | false =>
            walk_at "g"
            exact hN (if_neg (by rw [cc]; exact Bool.false_ne_true)) _ (Same.refl _)
        · rw [opt_filter] at L4
          walk_at "g"
          have s56 := s5.trans s6
          refine ⟨a, _, dx, _, rfl, s56 _ _ eU, T.cl_Schedule, T.nA_Schedule__sets, (by show 1 < 1000; decide), ?_⟩
          refine q _ (.ref D2) ?_ ?_ upd_same ?_
          · exact ((Sx.same sG).trans (sU.trans (Sx.same s56))).trans (Sx.put rfl)
          · exact (((Gr.same sG).trans gU).trans (Gr.same s56)).trans Gr.upd
          · exact (L4.rp).sx (Sx.put ma)
end
end D

namespace D
open PySem PySem.Spec PyProof.Rows L2
local macro_rules | `(tactic| walk_at "st") => `(tactic| first | exact SqT.of (by assumption) | exact Or.inl (by assumption) | exact SqT.of upd_same | fail "st")
local macro_rules | `(tactic| walk_at "ixt") => `(tactic| refine ⟨_, _, _, _, rfl, rfl, (by walk_at "st" : SqT _ _ _ _), by rfl, ?_⟩)
local macro_rules | `(tactic| walk_at "sq") => `(tactic| first | exact SqL.of (by assumption) | assumption | exact Or.inl (by assumption) | exact SqL.of upd_same | fail "sq")
local macro_rules | `(tactic| walk_at "ix") => `(tactic| refine ⟨_, _, _, _, rfl, rfl, (by walk_at "sq" : SqL _ _ _ _), by rfl, ?_⟩)
local macro_rules | `(tactic| walk_at "set") => `(tactic| refine ⟨_, _, _, _, rfl, rfl, by first | assumption | exact upd_same, by rfl, ?_⟩)
local macro_rules | `(tactic| walk_at "len") => `(tactic| refine ⟨_, _, rfl, Or.inl (by walk_at "sq" : SqL _ _ _ _), ?_⟩)
local macro_rules | `(tactic| walk_at "g") => `(tactic| repeat (first | refine ⟨_, rfl, ?_⟩ | refine ⟨_, _, rfl, rfl, ?_⟩ | refine ⟨Or.inr (by decide), ?_⟩ | refine ⟨Or.inl (by decide), ?_⟩ | refine ⟨(by decide : (0 : Int) < _), ?_⟩ | refine ⟨(⟨by decide, by decide⟩ : CDiv _ _), ?_⟩ | refine ⟨(⟨by decide, by decide, by decide⟩ : CPow _ _), ?_⟩ | refine Or.inl ⟨_, rfl, ?_⟩ | refine ⟨rfl, ?_⟩ | walk_at "ix" | walk_at "ixt" | walk_at "len" | fail "g"))
local macro_rules | `(tactic| walk_at "if") => `(tactic| refine ite2 (fun e => ?_) (fun e => ?_))
section
variable {P : Program} {w : World} {K : PySem.W.Frag} {mg : Str → Option Value} {base : Heap}
theorem strsAll_eqv : ∀ a b : List Str, PyData.eqvAll (a.map PyData.str) (b.map PyData.str) = decide (a = b)
  | [], [] => rfl
  | [], _ :: _ => by simp [PyData.eqvAll]
  | _ :: _, [] => by simp [PyData.eqvAll]
  | x :: a, y :: b => by
    simp only [List.map_cons, PyData.eqvAll, PyData.eqv, strsAll_eqv a b]
    rw [Bool.eq_iff_iff]
    simp
theorem namesT_eqv (a b : List Str) : PyData.eqv (namesT a) (namesT b) = decide (a = b) := by
  unfold namesT
  rw [PyData.eqv]
  exact strsAll_eqv a b
theorem namesT_any (ks : List (List Str)) (s : List Str) : ((ks.map namesT).any fun z => PyData.eqv z (namesT s)) = decide (s ∈ ks) := by
  rw [List.any_map, Bool.eq_iff_iff, List.any_eq_true, decide_eq_true_iff]
  constructor
  · rintro ⟨x, hx, e⟩
    have e' : PyData.eqv (namesT x) (namesT s) = true := e
    rw [namesT_eqv, decide_eq_true_iff] at e'
    rw [← e']
    exact hx
  · intro h
    exact ⟨s, h, by show PyData.eqv (namesT s) (namesT s) = true; rw [namesT_eqv]; exact decide_eq_true rfl⟩
/-- names that may be compared and shown -/
def okC (x : Str) : Prop := ∀ c ∈ x.cps.toList, c < 0x110000
theorem isNm_gd {x : Str} (h : isNm x) : Gd 8 0 (.str x) := Gd.str (fun c hc => by have := h.2.2 c hc; omega) h.2.1
theorem names_gd {ns : List Str} (h : ∀ x ∈ ns, isNm x) (hl : ns.length ≤ 3) : Gd 27 1 (namesT ns) := by
  have := (GdAll.all (B := 8) (n := 0) (ds := ns.map PyData.str) fun d hd => by
    obtain ⟨x, hx, rfl⟩ := List.mem_map.mp hd
    exact isNm_gd (h x hx)).tup
  exact this.le (by rw [List.length_map]; omega) (Nat.le_refl _)
theorem sets_gd {ks : List (List Str)} (h : ∀ s ∈ ks, (∀ x ∈ s, isNm x) ∧ s.length ≤ 3) (hl : ks.length ≤ 100) : Gd 10000 2 (setsL ks) := by
  have := (GdAll.all (B := 27) (n := 1) (ds := ks.map namesT) fun d hd => by
    obtain ⟨x, hx, rfl⟩ := List.mem_map.mp hd
    exact names_gd (h x hx).1 (h x hx).2).lst
  exact this.le (by rw [List.length_map]; omega) (Nat.le_refl _)
theorem NmOk.setsOk {ns : List Str} (h : NmOk ns) {ks : List (List Str)} (hk : ∀ s ∈ ks, s ∈ Sc.sets ns) : ∀ s ∈ ks, (∀ x ∈ s, isNm x) ∧ s.length ≤ 3 := fun s hs => ⟨(h.sub (hk s hs)).nm, (h.sub (hk s hs)).le⟩
def sp_le (C : Addr) : Sp := fun vs H Q _ => ∃ (v1 v2 : V) (ns : List Str) (ks1 ks2 : List (List Str)) (M : Ms), vs = [v1, v2] ∧ SchAt C M H v1 ns ks1 ∧ SchAt C M H v2 ns ks2 ∧ NmOk ns ∧ (∀ s ∈ ks1, s ∈ Sc.sets ns) ∧ (∀ s ∈ ks2, s ∈ Sc.sets ns) ∧ ks1.length ≤ 100 ∧ ks2.length ≤ 100 ∧
  ∀ H', Same H H' → Q (.bl (ks1.all fun s => decide (s ∈ ks2))) H'
theorem ok_le (T : Txt K mg) : FnOk P w K mg base CX0 1 T.f_Schedule___le__ T.d_Schedule___le__ ["self", "other"] (sp_le T.C_Schedule) := by
  refine T.F_Schedule___le__.ok sc_Schedule___le__ (fun vs H Q E h => ?_) (fun cdv A outer s H vs Q E hr h => ?_)
  · obtain ⟨_, _, _, _, _, _, rfl, _⟩ := h
    rfl
  · obtain ⟨v1, v2, ns, ks1, ks2, M, rfl, h1, h2, ok, hk1, hk2, l1, l2, q⟩ := h
    obtain ⟨a1, dx1, u1, z1, rfl, n1, e1, ru1, rz1⟩ := h1
    obtain ⟨a2, dx2, u2, z2, rfl, n2, e2, ru2, rz2⟩ := h2
    refine ⟨_, (pss_cons (ps_if (pt_not (pt_val (pe_callB (call_isCK T.in_Schedule) (by rfl) T.m_isinstance (by decide +kernel) (pa_cons (pv 1) (pa_cons (pe_glob (v := .ref T.C_Schedule) rfl T.g_Schedule rfl) pa_nil))))) (pss_one ps_never) pss_nil)
      (pss_one (ps_ret (pe_callB (cr_allK (K := K) rfl rfl) (by rfl) T.m_all (by decide +kernel) (pa_cons (pe_lc (own := [("changed", 2)]) (g := gName 2) (tt := tYes) (by rfl) sc_Schedule___le__.nd (pi_listK (K := K) rfl (pe_fldK (K := K) rfl (pv 0) rfl)) (blkOk_by (own := [("changed", 2)]) (N := ["self", "other", "changed"]) (sc := defScope s_Schedule___le__) (by decide +kernel)) (fun _ _ _ _ _ => (pg_name (i := 2) sc_Schedule___le__.nd rfl (Or.inl rfl))) (fun _ _ _ _ _ => pts_nil) (fun _ _ _ _ _ => (pe_cmpR (op_inDK (K := K) rfl (hu65 hr)) (pv 2) (pe_fldK (K := K) rfl (pv 1) rfl) (by rfl)))) pa_nil))))), ?_⟩
    walk_at "g"
    refine ⟨a2, dx2, _, rfl, e2, ?_⟩
    walk_at "g"
    refine ⟨a1, _, dx1, _, z1, rfl, e1, T.cl_Schedule, T.nA_Schedule__sets, rfl, ?_⟩
    obtain ⟨p1, x1, rfl, np1, hp1, rx1⟩ := rz1.lstN
    have g2 := sets_gd (ok.setsOk hk2) l2
    have lx := rx1.length
    rw [List.length_map] at lx
    refine ⟨p1, rfl, ⟨_, .inl hp1⟩, fun D hD => ?_⟩
    refine lc_vals (ys := (ks1.map fun s => decide (s ∈ ks2)).map V.bl) hD (.inl hp1) (by rw [List.length_map, List.length_map, lx]) (by omega) (fun i x y H' C N hx hy hs hC => ?_) (fun H' hs hD' => ?_)
    · obtain ⟨d, hd, rd⟩ := rx1.get hx
      rw [List.getElem?_map] at hd hy
      rw [List.getElem?_map] at hy
      obtain ⟨t, ht, rfl⟩ := Option.map_eq_some_iff.mp hd
      rw [ht] at hy
      cases hy
      refine ⟨rfl, ?_⟩
      walk_at "g"
      refine ⟨a2, _, dx2, _, z2, rfl, hs _ _ e2, T.cl_Schedule, T.nA_Schedule__sets, rfl, ?_⟩
      have hts := hk1 t (List.mem_of_getElem? ht)
      refine ⟨namesT t, ks2.map namesT, Rp.dp _ _ (rd.sx (Sx.same hs)), Rp.dp _ _ (rz2.sx (Sx.same hs)), (names_gd (ok.sub hts).nm (ok.sub hts).le).shaped (by decide), g2.shaped (by decide), ?_⟩
      rw [namesT_any]
      exact hC
    · refine ⟨D, _, rfl, SqL.of hD', ?_⟩
      rw [List.all_map]
      exact q _ hs
def sp_missed (C : Addr) : Sp := fun vs H Q _ => ∃ (v1 v2 : V) (ns nd : List Str) (ks : List (List Str)) (M : Ms), vs = [v1, v2] ∧ SchAt C M H v1 ns ks ∧ Rp M H v2 (namesT nd) ∧ Mk M H ∧ NmOk ns ∧ (∀ s ∈ ks, s ∈ Sc.sets ns) ∧ ks.length ≤ 100 ∧
  ∀ H' v, Same H H' → (match Sc.missS ns nd ks with | none => v = .non | some s => Rp M H' v (namesT s)) → Q v H'
theorem ok_missed (T : Txt K mg) : FnOk P w K mg base CX0 3 T.f_Schedule_missed T.d_Schedule_missed ["self", "needs"] (sp_missed T.C_Schedule) := by
  have G__all_sets := ok_allS (P := P) (w := w) (base := base) T
  have G__has_needed := ok_hasn (P := P) (w := w) (base := base) T
  refine T.F_Schedule_missed.ok sc_Schedule_missed (fun vs H Q E h => ?_) (fun cdv A outer s H vs Q E hr h => ?_)
  · obtain ⟨_, _, _, _, _, _, rfl, _⟩ := h
    rfl
  · obtain ⟨v1, v2, ns, nd, ks, M, rfl, h1, h2, hM, ok, hk, lk, q⟩ := h
    obtain ⟨a1, dx1, u1, z1, rfl, n1, e1, ru1, rz1⟩ := h1
    obtain ⟨b, rfl, nb, hb⟩ := names_at h2
    refine ⟨_, (pss_cons (ps_for PassesOwn.never rfl (pi_listK (K := K) rfl (pe_call G__all_sets (hr.mono (by omega)) (by rfl) T.g__all_sets T.F__all_sets.kp T.b__all_sets .nil pass0 (pa_cons (pe_fldK (K := K) rfl (pv 0) rfl) pa_nil))) (pg_name (i := 2) sc_Schedule_missed.nd rfl (Or.inl rfl)) (pss_one (ps_if (PW.pt (pw_and (pt_val (pe_call G__has_needed (hr.mono (by omega)) (by rfl) T.g__has_needed T.F__has_needed.kp T.b__has_needed .nil pass0 (pa_cons (pv 2) (pa_cons (pv 1) pa_nil)))) (pw_and1 (pt_cmpR (op_notInDK (K := K) rfl (hu65 hr)) (pv 2) (pe_fldK (K := K) rfl (pv 0) rfl) (by rfl))))) (pss_one (ps_ret (pv 2))) pss_nil)))
      (pss_one (ps_ret pe_non))), ?_⟩
    walk_at "g"
    refine ⟨a1, _, dx1, _, u1, rfl, e1, T.cl_Schedule, T.nA_Schedule__names, rfl, ?_⟩
    walk_at "g"
    refine ⟨_, ns, M, rfl, ru1, hM, ok, fun H1 l s1 nl L1 => ?_⟩
    obtain ⟨nlM, zs, el, rz⟩ := id L1
    have lz := rz.length
    rw [List.length_map] at lz
    walk_at "g"
    refine ⟨⟨_, SqL.of el⟩, ?_⟩
    refine for_list (K := K) (a := l) (xs := zs) (fun i σ H' => ∃ y2, σ = [some (.ref a1), some (.ref b), y2] ∧ Same H1 H' ∧ ((Sc.sets ns).take i).find? (fun s => Sc.has nd s && !decide (s ∈ ks)) = none) ⟨none, rfl, Same.refl _, rfl⟩ (fun i σ H' _ z => ?_) (fun i x σ H' hx z => ?_) (fun σ H' z => ?_)
    · obtain ⟨_, _, z, _⟩ := z
      exact SqL.of (z _ _ el)
    · obtain ⟨y2, rfl, s2, hf⟩ := z
      obtain ⟨d, hd, rd⟩ := rz.get hx
      rw [List.getElem?_map] at hd
      obtain ⟨t, ht, rfl⟩ := Option.map_eq_some_iff.mp hd
      have s12 := s1.trans s2
      have l3 := (ok.sub (List.mem_of_getElem? ht)).le
      walk_at "g"
      refine ⟨_, _, t, nd, M, rfl, rd.sx (Sx.same s2), h2.sx (Sx.same s12), by omega, fun H2 s3 => ?_⟩
      have s123 := s12.trans s3
      have hfs : ∀ b : Bool, (Sc.has nd t && !decide (t ∈ ks)) = b → ((Sc.sets ns).take (i + 1)).find? (fun s => Sc.has nd s && !decide (s ∈ ks)) = if b = true then some t else none := fun b e => by
        rw [List.take_add_one, ht, Option.toList_some, List.find?_append, hf, Option.none_or, List.find?_cons]
        rw [e]
        cases b <;> rfl
      cases c1 : Sc.has nd t with
      | false =>
        rw [c1] at hfs
        walk_at "g"
        exact ⟨s2.trans s3, by rw [hfs false rfl]; rfl⟩
      | true =>
        rw [c1, Bool.true_and] at hfs
        walk_at "g"
        refine ⟨a1, _, dx1, _, z1, rfl, s123 _ _ e1, T.cl_Schedule, T.nA_Schedule__sets, rfl, ?_⟩
        have hts := List.mem_of_getElem? ht
        refine ⟨namesT t, ks.map namesT, Rp.dp _ _ (rd.sx (Sx.same (s2.trans s3))), Rp.dp _ _ (rz1.sx (Sx.same s123)), (names_gd (ok.sub hts).nm (ok.sub hts).le).shaped (by decide), (sets_gd (ok.setsOk hk) lk).shaped (by decide), ?_⟩
        rw [namesT_any]
        cases c2 : decide (t ∈ ks) with
        | true =>
          rw [c2] at hfs
          walk_at "g"
          exact ⟨s2.trans s3, by rw [hfs false rfl]; rfl⟩
        | false =>
          rw [c2] at hfs
          walk_at "g"
          refine q _ _ s123 ?_
          have em : Sc.missS ns nd ks = some t := by
            obtain ⟨hi, e0⟩ := List.getElem?_eq_some_iff.mp ht
            unfold Sc.missS
            rw [show Sc.sets ns = (Sc.sets ns).take (i + 1) ++ (Sc.sets ns).drop (i + 1) from (List.take_append_drop _ _).symm, List.find?_append, hfs true rfl, if_pos rfl]
            rfl
          rw [em]
          exact rd.sx (Sx.same (s2.trans s3))
    · obtain ⟨y2, rfl, s2, hf⟩ := z
      rw [lz, List.take_length] at hf
      walk_at "g"
      refine q _ _ (s1.trans s2) ?_
      rw [show Sc.missS ns nd ks = none from hf]
theorem kept_sub {ns : List Str} {ch : List (List Str)} : ∀ s ∈ Sc.kept ns ch, s ∈ Sc.sets ns := fun s h => (List.mem_filter.mp h).1
theorem kept_len {ns : List Str} (ok : NmOk ns) (ch : List (List Str)) : (Sc.kept ns ch).length ≤ 7 := Nat.le_trans (List.length_filter_le _ _) (Sc.sets_len ok.pos ok.le)
theorem least_len {ns nd : List Str} (ok : NmOk ns) : (Sc.leastS ns nd).length ≤ 7 := Nat.le_trans (List.length_filter_le _ _) (Sc.sets_len ok.pos ok.le)
theorem RpAll.also {M : Ms} {H : Hp} {p : Addr} (hp : H p = none) {v : V} {d : PyData} (h : Rp M H v d) : Rp (also M p) H v d := h.fresh hp
theorem sch_make {C : Addr} {M : Ms} {H : Hp} {v w : V} {ns : List Str} {ch : List (List Str)} {x dx : Addr} {Q : Hp → Prop} {E : XK} (hM : Mk M H) (h1 : Rp M H v (namesT ns)) (ok : NmOk ns) (h2 : Rp M H w (setsL ch)) (hch : ∀ s ∈ ch, s ∈ Sc.sets ns) (hl : ch.length ≤ 100) (hx : H x = none) (hdx : H dx = none) (hne : dx ≠ x)
    (q : ∀ H', Same H H' → SchAt C M H' (.ref x) ns (Sc.kept ns ch) → Q H') : sp_init C [.ref x, v, w] (upd (upd H dx (.own x)) x (.ins C dx [])) (fun v H2 => v = .non ∧ Q H2) E := by
  have s1 : Same H (upd H dx (.own x)) := same_new hdx
  have hx1 : upd H dx (.own x) x = none := by rw [upd_ne hne.symm]; exact hx
  have s2 : Same H (upd (upd H dx (.own x)) x (.ins C dx [])) := s1.trans (same_new hx1)
  refine ⟨x, dx, v, w, ns, ch, also M x, rfl, upd_same, .inr rfl, (hM.gr (Gr.same s2)).also upd_there, (h1.fresh hx).sx (Sx.same s2), ok, (h2.fresh hx).sx (Sx.same s2), hch, hl, fun H' z s3 g3 e3 rz => ⟨rfl, ?_⟩⟩
  have s4 : Same H H' := fun c o e => s3 c o (fun z => by rw [show c = x from z, hx] at e; cases e) (s2 c o e)
  exact q H' s4 ⟨x, dx, v, z, rfl, hM.out hx, e3, h1.sx (Sx.same s4), rz.less also_le⟩
def sp_least (C : Addr) : Sp := fun vs H Q _ => ∃ (v1 v2 : V) (ns nd : List Str) (M : Ms), vs = [v1, v2] ∧ Rp M H v1 (namesT ns) ∧ Rp M H v2 (namesT nd) ∧ Mk M H ∧ NmOk ns ∧ ∀ H' v, Same H H' → SchAt C M H' v ns (Sc.kept ns (Sc.leastS ns nd)) → Q v H'
theorem ok_least (T : Txt K mg) : FnOk P w K mg base CX0 6 T.f_Schedule_least T.d_Schedule_least ["names", "needs"] (sp_least T.C_Schedule) := by
  have G__check_names := ok_checknames (P := P) (w := w) (base := base) T
  have G__all_sets := ok_allS (P := P) (w := w) (base := base) T
  have G__has_needed := ok_hasn (P := P) (w := w) (base := base) T
  have G_Schedule___init__ := ok_init (P := P) (w := w) (base := base) T
  refine T.F_Schedule_least.ok sc_Schedule_least (fun vs H Q E h => ?_) (fun cdv A outer s H vs Q E hr h => ?_)
  · obtain ⟨_, _, _, _, _, rfl, _⟩ := h
    rfl
  · obtain ⟨v1, v2, ns, nd, M, rfl, h1, h2, hM, ok, q⟩ := h
    obtain ⟨a, rfl, na, ha⟩ := names_at h1
    obtain ⟨b, rfl, nb, hb⟩ := names_at h2
    refine ⟨_, (pss_cons (ps_expr (pe_call G__check_names (hr.mono (by omega)) (by rfl) T.g__check_names T.F__check_names.kp T.b__check_names .nil pass0 (pa_cons (pv 0) pa_nil)))
      (pss_one (ps_ret (pe_make ⟨T.mk_Schedule, T.a_Schedule___init__, T.i_Schedule___init__, T.kc_Schedule⟩ G_Schedule___init__ (hr.mono (by omega)) (by rfl) T.g_Schedule T.b_Schedule___init__ .nil pass0 (pa_cons (pv 0) (pa_cons (pe_lc (own := [("changed", 2)]) (g := gName 2)  (by rfl) sc_Schedule_least.nd (pi_listK (K := K) rfl (pe_call G__all_sets (hr.mono (by omega)) (by rfl) T.g__all_sets T.F__all_sets.kp T.b__all_sets .nil pass0 (pa_cons (pv 0) pa_nil))) (blkOk_by (own := [("changed", 2)]) (N := ["names", "needs", "changed"]) (sc := defScope s_Schedule_least) (by decide +kernel)) (fun _ _ _ _ _ => (pg_name (i := 2) sc_Schedule_least.nd rfl (Or.inl rfl))) (fun _ _ _ _ _ => (pts_one (pt_val (pe_call G__has_needed (hr.mono (by omega)) (by rfl) T.g__has_needed T.F__has_needed.kp T.b__has_needed .nil pass0 (pa_cons (pv 2) (pa_cons (pv 1) pa_nil)))))) (fun _ _ _ _ _ => (pv 2))) pa_nil)))))), ?_⟩
    walk_at "g"
    refine ⟨_, ns, M, rfl, h1, ok, fun H1 s1 => ?_⟩
    walk_at "g"
    refine ⟨_, ns, M, rfl, h1.sx (Sx.same s1), hM.gr (Gr.same s1), ok, fun H2 l s2 nl L2 => ?_⟩
    obtain ⟨nlM, zs, el, rz⟩ := id L2
    have lz := rz.length
    rw [List.length_map] at lz
    have s12 := s1.trans s2
    have hM2 := hM.gr (Gr.same s12)
    have l7 := Sc.sets_len ok.pos ok.le
    walk_at "g"
    refine ⟨⟨_, SqL.of el⟩, fun D hD => ?_⟩
    refine dt_list (cs := (Sc.sets ns).map fun s => if Sc.has nd s = true then some (namesT s) else none) M hM2 hD (SqL.of el) (by rw [List.length_map, lz]) (by omega) (fun i x o H4 C N hx ho s6 hM4 hC hN => ?_) (fun H4 s6 L4 => ?_)
    · obtain ⟨d, hd, rd⟩ := rz.get hx
      rw [List.getElem?_map] at hd ho
      obtain ⟨t, ht, rfl⟩ := Option.map_eq_some_iff.mp hd
      rw [ht] at ho
      cases ho
      have l3 := (ok.sub (List.mem_of_getElem? ht)).le
      refine ⟨rfl, ?_⟩
      walk_at "g"
      refine ⟨_, _, t, nd, M, rfl, rd.sx (Sx.same s6), h2.sx (Sx.same (s12.trans s6)), by omega, fun H5 s7 => ?_⟩
      cases cc : Sc.has nd t with
      | true =>
        walk_at "g"
        exact hC _ (if_pos cc) _ _ s7 ((rd.fresh hD).sx (Sx.same (s6.trans s7)))
      | false =>
        walk_at "g"
        exact hN (if_neg (by rw [cc]; exact Bool.false_ne_true)) _ s7
    · rw [opt_filter] at L4
      walk_at "g"
      intro x dx hx hdx hne
      have s126 := s12.trans s6
      exact sch_make (hM.gr (Gr.same s126)) (h1.sx (Sx.same s126)) ok L4.rp (fun s hs => (List.mem_filter.mp hs).1) (Nat.le_trans (least_len (nd := nd) ok) (by decide)) hx hdx hne fun H' s8 r8 => q _ _ (s126.trans s8) r8
end
end D

namespace D
open PySem PySem.Spec PyProof.Rows L2
local macro_rules | `(tactic| walk_at "st") => `(tactic| first | exact SqT.of (by assumption) | exact Or.inl (by assumption) | exact SqT.of upd_same | fail "st")
local macro_rules | `(tactic| walk_at "ixt") => `(tactic| refine ⟨_, _, _, _, rfl, rfl, (by walk_at "st" : SqT _ _ _ _), by rfl, ?_⟩)
local macro_rules | `(tactic| walk_at "sq") => `(tactic| first | exact SqL.of (by assumption) | assumption | exact Or.inl (by assumption) | exact SqL.of upd_same | fail "sq")
local macro_rules | `(tactic| walk_at "ix") => `(tactic| refine ⟨_, _, _, _, rfl, rfl, (by walk_at "sq" : SqL _ _ _ _), by rfl, ?_⟩)
local macro_rules | `(tactic| walk_at "set") => `(tactic| refine ⟨_, _, _, _, rfl, rfl, by first | assumption | exact upd_same, by rfl, ?_⟩)
local macro_rules | `(tactic| walk_at "len") => `(tactic| refine ⟨_, _, rfl, Or.inl (by walk_at "sq" : SqL _ _ _ _), ?_⟩)
local macro_rules | `(tactic| walk_at "g") => `(tactic| repeat (first | refine ⟨_, rfl, ?_⟩ | refine ⟨_, _, rfl, rfl, ?_⟩ | refine ⟨Or.inr (by decide), ?_⟩ | refine ⟨Or.inl (by decide), ?_⟩ | refine ⟨(by decide : (0 : Int) < _), ?_⟩ | refine ⟨(⟨by decide, by decide⟩ : CDiv _ _), ?_⟩ | refine ⟨(⟨by decide, by decide, by decide⟩ : CPow _ _), ?_⟩ | refine Or.inl ⟨_, rfl, ?_⟩ | refine ⟨rfl, ?_⟩ | walk_at "ix" | walk_at "ixt" | walk_at "len" | fail "g"))
local macro_rules | `(tactic| walk_at "if") => `(tactic| refine ite2 (fun e => ?_) (fun e => ?_))
section
variable {P : Program} {w : World} {K : PySem.W.Frag} {mg : Str → Option Value} {base : Heap}
def kvF (ns : List Str) (f : Str → Int) : List (Key × V) := ns.map fun x => ((Sum.inr x : Key), V.int (f x))
theorem kvF_get {ns : List Str} {f : Str → Int} {x : Str} (h : x ∈ ns) : valV (kvF ns f) (.inr x) = some (.int (f x)) := by
  induction ns with
  | nil => exact nomatch h
  | cons y r ih =>
    unfold kvF
    rw [List.map_cons]
    by_cases c : (Sum.inr y : Key) = .inr x
    · rw [valV_pos c]
      rw [Sum.inr.inj c]
    · rw [valV_neg c]
      refine ih ?_
      rcases List.mem_cons.mp h with e | e
      · exact absurd (by rw [e]) c
      · exact e
theorem kvF_put {ns : List Str} {f : Str → Int} {x : Str} (h : x ∉ ns) (i : Int) (hf : f x = i) : putK (kvF ns f) (.inr x) (.int i) = kvF (ns ++ [x]) f := by
  unfold putK
  have : (valV (kvF ns f) (Sum.inr x : Key)).isSome = false := by
    induction ns with
    | nil => rfl
    | cons y r ih =>
      unfold kvF
      rw [List.map_cons, valV_neg (fun z => h (by rw [Sum.inr.inj z]; exact List.mem_cons_self))]
      exact ih fun z => h (List.mem_cons_of_mem _ z)
  rw [valV_any, this, if_neg Bool.false_ne_true]
  unfold kvF
  rw [List.map_append, ← hf]
  rfl
def textD (x : Str) : PyData := .tuple [.str (Str.ofString "text"), .tuple [.str sGet, .str x]]
def dueD (nd : List Str) : PyData := .tuple [.str (Str.ofString "col"), .tuple (nd.map textD)]
def neededIn (ns nd : List Str) : List Str := ns.filter fun x => decide (x ∈ nd)
def zeroF : Str → Int := fun _ => 0
def oneF (s : List Str) : Str → Int := fun x => if x ∈ s then 1 else 0
def SpAt (M : Ms) (H : Hp) (v : V) (ns nd s : List Str) : Prop := ∃ t u d1 d2, v = .ref t ∧ ¬ M t ∧ H t = some (.tup [u, .ref d1, .ref d2]) ∧ Rp M H u (dueD (neededIn ns nd)) ∧ ¬ M d1 ∧ ¬ M d2 ∧ d1 ≠ d2 ∧ H d1 = some (.dK (kvF ns zeroF)) ∧ H d2 = some (.dK (kvF ns (oneF s)))
def sp_spoil (C : Addr) : Sp := fun vs H Q _ => ∃ (v1 v2 : V) (ns nd : List Str) (ks : List (List Str)) (M : Ms), vs = [v1, v2] ∧ SchAt C M H v1 ns ks ∧ Rp M H v2 (namesT nd) ∧ Mk M H ∧ NmOk ns ∧ (∀ s ∈ ks, s ∈ Sc.sets ns) ∧ ks.length ≤ 100 ∧
  ∀ H' v, Same H H' → (match Sc.missS ns nd ks with | none => v = .non | some s => SpAt M H' v ns nd s ∧ ∀ t u d1 d2, v = .ref t → H' t = some (.tup [u, .ref d1, .ref d2]) → H d1 = none ∧ H d2 = none) → Q v H'
theorem ok_spoil (T : Txt K mg) : FnOk P w K mg base CX0 4 T.f_spoiling T.d_spoiling ["schedule", "needs"] (sp_spoil T.C_Schedule) := by
  have G_Schedule_missed := ok_missed (P := P) (w := w) (base := base) T
  refine T.F_spoiling.ok sc_spoiling (fun vs H Q E h => ?_) (fun cdv A outer s H vs Q E hr h => ?_)
  · obtain ⟨_, _, _, _, _, _, rfl, _⟩ := h
    rfl
  · obtain ⟨v1, v2, ns, nd, ks, M, rfl, h1, h2, hM, ok, hk, lk, q⟩ := h
    obtain ⟨b, rfl, nb, hb⟩ := names_at h2
    refine ⟨_, (pss_cons (ps_set (i := 2) sc_spoiling.nd rfl (Or.inr rfl) (pe_meth (pv 0) T.cl_Schedule ⟨T.a_Schedule_missed, T.i_Schedule_missed, T.F_Schedule_missed.kp⟩ G_Schedule_missed (hr.mono (by omega)) T.b_Schedule_missed .nil pass0 (pa_cons (pv 1) pa_nil)))
      (pss_cons (ps_if (pt_cmpR op_isN (pv 2) pe_non (nomark _)) (pss_one (ps_ret pe_non)) pss_nil)
      (pss_cons (ps_set (i := 3) sc_spoiling.nd rfl (Or.inl rfl) (pe_fldK (K := K) rfl (pv 0) rfl))
      (pss_cons (ps_set (i := 4) sc_spoiling.nd rfl (Or.inl rfl) (pe_callTy (call_tupleK (K := K) rfl) (by rfl) T.m_tuple (by decide +kernel) (pa_cons (pe_lc (own := [("name", 7)]) (g := gName 7)  (by rfl) sc_spoiling.nd (pi_tupK (K := K) rfl (pv 3)) (blkOk_by (own := [("name", 7)]) (N := ["schedule", "needs", "changed", "names", "texts", "before", "after", "name"]) (sc := defScope s_spoiling) (by decide +kernel)) (fun _ _ _ _ _ => (pg_name (i := 7) sc_spoiling.nd rfl (Or.inl rfl))) (fun _ _ _ _ _ => (pts_one (pt_cmpR (op_in_seqK (K := K) rfl) (pv 7) (pv 1) (by rfl)))) (fun _ _ _ _ _ => (pe_tup (pa_cons pe_str (pa_cons (pe_tup (pa_cons pe_str (pa_cons (pv 7) pa_nil))) pa_nil))))) pa_nil)))
      (pss_cons (ps_setDcK (i := 5) (own := [("name", 7)]) (g := gName 7) (tt := tYes) (by rfl) sc_spoiling.nd rfl rfl (sw_trueD rfl rfl rfl (by decide +kernel)) (pi_tupK (K := K) rfl (pv 3)) (blkOk_by (own := [("name", 7)]) (N := ["schedule", "needs", "changed", "names", "texts", "before", "after", "name"]) (sc := defScope s_spoiling) (by decide +kernel)) (fun _ _ _ _ _ => (pg_name (i := 7) sc_spoiling.nd rfl (Or.inl rfl))) (fun _ _ _ _ _ => pts_nil) (fun _ _ _ _ _ => (pv 7)) (fun _ _ _ _ _ => pe_int))
      (pss_cons (ps_setDcK (i := 6) (own := [("name", 7)]) (g := gName 7) (tt := tYes) (by rfl) sc_spoiling.nd rfl rfl (sw_trueD rfl rfl rfl (by decide +kernel)) (pi_tupK (K := K) rfl (pv 3)) (blkOk_by (own := [("name", 7)]) (N := ["schedule", "needs", "changed", "names", "texts", "before", "after", "name"]) (sc := defScope s_spoiling) (by decide +kernel)) (fun _ _ _ _ _ => (pg_name (i := 7) sc_spoiling.nd rfl (Or.inl rfl))) (fun _ _ _ _ _ => pts_nil) (fun _ _ _ _ _ => (pv 7)) (fun _ _ _ _ _ => (pe_ifExp (pt_cmpR (op_in_seqK (K := K) rfl) (pv 7) (pv 2) (by rfl)) pe_int pe_int)))
      (pss_one (ps_ret (pe_tup (pa_cons (pe_tup (pa_cons pe_str (pa_cons (pv 4) pa_nil))) (pa_cons (pv 5) (pa_cons (pv 6) pa_nil)))))))))))), ?_⟩
    obtain ⟨a1, dx1, u1, z1, rfl, n1, e1, ru1, rz1⟩ := id h1
    walk_at "g"
    refine ⟨a1, dx1, _, rfl, e1, rfl, ?_⟩
    walk_at "g"
    refine ⟨_, _, ns, nd, ks, M, rfl, h1, h2, hM, ok, hk, lk, fun H1 v s1 hv => ?_⟩
    have hM1 := hM.gr (Gr.same s1)
    have l3 := ok.le
    walk_at "g"
    cases em : Sc.missS ns nd ks with
    | none =>
      rw [em] at hv q
      subst hv
      walk_at "g"
      exact q _ _ s1 rfl
    | some s =>
      rw [em] at hv q
      obtain ⟨c, rfl, nc, hc⟩ := names_at hv
      walk_at "g"
      refine ⟨a1, _, dx1, _, u1, rfl, s1 _ _ e1, T.cl_Schedule, T.nA_Schedule__names, rfl, ?_⟩
      obtain ⟨a, rfl, na, ha⟩ := names_at ru1
      have ha1 := s1 _ _ ha
      walk_at "g"
      refine ⟨⟨_, SqT.of ha1⟩, fun D hD => ?_⟩
      refine dt_tup (cs := ns.map fun x => if decide (x ∈ nd) = true then some (textD x) else none) M hM1 hD (SqT.of ha1) (by rw [List.length_map, List.length_map]) (by rw [List.length_map]; omega) (fun i x o H4 C N hx ho s2 hM4 hC hN => ?_) (fun H2 s2 L2 => ?_)
      · rw [List.getElem?_map] at hx ho
        obtain ⟨x, hxn, rfl⟩ := Option.map_eq_some_iff.mp hx
        rw [hxn] at ho
        cases ho
        have s12 := s1.trans s2
        refine ⟨rfl, ?_⟩
        walk_at "g"
        refine ⟨b, _, rfl, .inr (SqT.of (s12 _ _ hb)), rfl, flat_strs nd, ?_⟩
        rw [if_neg Bool.false_ne_true, in_strs]
        cases cc : decide (x ∈ nd) with
        | false =>
          walk_at "g"
          exact hN (if_neg (by rw [cc]; exact Bool.false_ne_true)) _ (Same.refl _)
        | true =>
          walk_at "g"
          refine ⟨szK rfl, fun p hp => ?_⟩
          walk_at "g"
          refine ⟨szK rfl, fun p2 hp2 => ?_⟩
          refine hC _ (if_pos cc) _ _ ((same_new hp).trans (same_new hp2)) ?_
          exact Rp.newT (hM4.gr Gr.upd) hp2 (.cons (.str _) (.one (Rp.newT hM4 hp (.cons (.str _) (.one (.str _))))))
      · rw [opt_filter] at L2
        obtain ⟨nD, xs, eD, rD⟩ := L2
        have s12 := s1.trans s2
        walk_at "g"
        refine ⟨D, _, rfl, .inl ⟨SqL.of eD, fun tt htt => ?_⟩⟩
        have hM2 := hM.gr (Gr.same s12)
        have s3 : Same H2 (upd H2 tt (.tup xs)) := same_new htt
        have rtt : Rp M (upd H2 tt (.tup xs)) (.ref tt) (.tuple ((neededIn ns nd).map textD)) := Rp.newT hM2 htt rD
        generalize upd H2 tt (.tup xs) = H3 at s3 rtt
        have s13 := s12.trans s3
        walk_at "g"
        refine ⟨⟨_, SqT.of (s13 _ _ ha)⟩, fun d1 hd1 => ?_⟩
        have hda : a ≠ d1 := fun z => by
          have := s13 _ _ ha
          rw [z, hd1] at this
          cases this
        have nip : ∀ {i : Nat} {x : Str}, ns[i]? = some x → x ∉ ns.take i := fun {i} {x} hx hm => by
          obtain ⟨j, hj⟩ := List.mem_iff_getElem?.mp hm
          have hji : j < i := by
            have := (List.getElem?_eq_some_iff.mp hj).1
            rw [List.length_take] at this
            omega
          rw [List.getElem?_take_of_lt hji] at hj
          exact (nodup_get.mp ok.nd) j i hji (List.getElem?_eq_some_iff.mp hx).1 (hj.trans hx.symm)
        have klen : ∀ (f : Str → Int) (i : Nat), (kvF (ns.take i) f).length < sizeLine := fun f i => small1000 (by unfold kvF; rw [List.length_map, List.length_take]; omega)
        refine tup_loop (xs := ns.map V.str) (fun i G => Same H3 G ∧ G d1 = some (.dK (kvF (ns.take i) zeroF))) ⟨same_new hd1, upd_same⟩ (fun i G _ z => SqT.of (z.1 _ _ (s13 _ _ ha))) (fun i x G hx z => ?_) (fun G z => ?_)
        · obtain ⟨s4, e4⟩ := z
          rw [List.getElem?_map] at hx
          obtain ⟨x, hxn, rfl⟩ := Option.map_eq_some_iff.mp hx
          refine ⟨rfl, ?_⟩
          walk_at "g"
          refine ⟨_, .inr x, rfl, e4, klen _ _, same_put s4 hd1, ?_⟩
          rw [upd_same, kvF_put (nip hxn) 0 rfl, List.take_add_one, hxn]
          rfl
        · obtain ⟨s4, e4⟩ := z
          rw [List.length_map, List.take_length] at e4
          have s14 := s13.trans s4
          walk_at "g"
          refine ⟨⟨_, SqT.of (s14 _ _ ha)⟩, fun d2 hd2 => ?_⟩
          have d12 : d1 ≠ d2 := fun z => by rw [z, hd2] at e4; cases e4
          refine tup_loop (xs := ns.map V.str) (fun i G' => Same G G' ∧ G' d2 = some (.dK (kvF (ns.take i) (oneF s)))) ⟨same_new hd2, upd_same⟩ (fun i G' _ z => SqT.of (z.1 _ _ (s14 _ _ ha))) (fun i x G' hx z => ?_) (fun G' z => ?_)
          · obtain ⟨s5, e5⟩ := z
            rw [List.getElem?_map] at hx
            obtain ⟨x, hxn, rfl⟩ := Option.map_eq_some_iff.mp hx
            refine ⟨rfl, ?_⟩
            walk_at "g"
            refine ⟨c, _, rfl, .inr (SqT.of (s5 _ _ (s4 _ _ (s3 _ _ (s2 _ _ hc))))), rfl, flat_strs s, ?_⟩
            rw [if_neg Bool.false_ne_true, in_strs]
            have fin : PutK d2 (fun H => Same G H ∧ H d2 = some (.dK (kvF (ns.take (i + 1)) (oneF s)))) (.str x) (.int (oneF s x)) G' := by
              refine ⟨_, .inr x, rfl, e5, klen _ _, same_put s5 hd2, ?_⟩
              rw [upd_same, kvF_put (nip hxn) _ rfl, List.take_add_one, hxn]
              rfl
            cases cc : decide (x ∈ s) with
            | true =>
              walk_at "g"
              have : oneF s x = 1 := if_pos (of_decide_eq_true cc)
              rw [this] at fin
              exact fin
            | false =>
              walk_at "g"
              have : oneF s x = 0 := if_neg (of_decide_eq_false cc)
              rw [this] at fin
              exact fin
          · obtain ⟨s5, e5⟩ := z
            rw [List.length_map, List.take_length] at e5
            have s35 := s4.trans s5
            have s15 := s13.trans s35
            have hM5 := hM.gr (Gr.same s15)
            walk_at "g"
            refine ⟨szK rfl, fun p hp => ?_⟩
            walk_at "g"
            refine ⟨szK rfl, fun p2 hp2 => ?_⟩
            have sp := same_new (o := .tup [.str (Str.ofString "col"), .ref tt]) hp
            have sp2 := sp.trans (same_new (o := .tup [.ref p, .ref d1, .ref d2]) hp2)
            have nM : ∀ {d : Addr} {H' : Hp}, Same H H' → H' d = none → ¬ M d := fun {d} {H'} s z => (hM.gr (Gr.same s)).out z
            refine q _ _ (s15.trans sp2) ⟨⟨p2, .ref p, d1, d2, rfl, (hM5.gr Gr.upd).out hp2, upd_same, ?_, nM s13 hd1, nM s14 hd2, d12, sp2 _ _ (s5 _ _ e4), sp2 _ _ e5⟩, (fun t0 u0 c1 c2 q1 q2 => by cases q1; rw [upd_same] at q2; cases q2; exact ⟨s13.free hd1, s14.free hd2⟩)⟩
            exact (Rp.newT hM5 hp (.cons (.str _) (.one (rtt.sx (Sx.same s35))))).sx (Sx.new hp2)
end
end D

namespace D
open PySem PySem.Spec PyProof.Rows L2
local macro_rules | `(tactic| walk_at "st") => `(tactic| first | exact SqT.of (by assumption) | exact Or.inl (by assumption) | exact SqT.of upd_same | fail "st")
local macro_rules | `(tactic| walk_at "ixt") => `(tactic| refine ⟨_, _, _, _, rfl, rfl, (by walk_at "st" : SqT _ _ _ _), by rfl, ?_⟩)
local macro_rules | `(tactic| walk_at "sq") => `(tactic| first | exact SqL.of (by assumption) | assumption | exact Or.inl (by assumption) | exact SqL.of upd_same | fail "sq")
local macro_rules | `(tactic| walk_at "ix") => `(tactic| refine ⟨_, _, _, _, rfl, rfl, (by walk_at "sq" : SqL _ _ _ _), by rfl, ?_⟩)
local macro_rules | `(tactic| walk_at "set") => `(tactic| refine ⟨_, _, _, _, rfl, rfl, by first | assumption | exact upd_same, by rfl, ?_⟩)
local macro_rules | `(tactic| walk_at "len") => `(tactic| refine ⟨_, _, rfl, Or.inl (by walk_at "sq" : SqL _ _ _ _), ?_⟩)
local macro_rules | `(tactic| walk_at "g") => `(tactic| repeat (first | refine ⟨_, rfl, ?_⟩ | refine ⟨_, _, rfl, rfl, ?_⟩ | refine ⟨Or.inr (by decide), ?_⟩ | refine ⟨Or.inl (by decide), ?_⟩ | refine ⟨(by decide : (0 : Int) < _), ?_⟩ | refine ⟨(⟨by decide, by decide⟩ : CDiv _ _), ?_⟩ | refine ⟨(⟨by decide, by decide, by decide⟩ : CPow _ _), ?_⟩ | refine Or.inl ⟨_, rfl, ?_⟩ | refine ⟨rfl, ?_⟩ | walk_at "ix" | walk_at "ixt" | walk_at "len" | fail "g"))
local macro_rules | `(tactic| walk_at "if") => `(tactic| refine ite2 (fun e => ?_) (fun e => ?_))
section
variable {P : Program} {w : World} {K : PySem.W.Frag} {mg : Str → Option Value} {base : Heap}
def sp_value (d : Nat) : Sp := fun vs H Q _ => ∃ (v : V) (dd : Addr) (f : Fm) (M : Ms) (kvs : List (Key × V)) (ρ : Str → Int) (nm : Str → Prop), vs = [v, .ref dd] ∧ Rp M H v f.enc ∧ f.dep ≤ d ∧ f.ok nm ∧ H dd = some (.dK kvs) ∧
  (∀ x, nm x → valV kvs (.inr x) = some (.int (ρ x))) ∧ Q (.int (f.val ρ)) H
/-- the law's own walk -/
theorem ok_law_value (T : Txt K mg) : ∀ d, FnOk P w K mg base CX0 (d + 1) T.f__law_value T.d__law_value ["_law_form_here", "_law_worths"] (sp_value d) := by
  intro d
  induction d with
  | zero =>
    refine T.F__law_value.ok sc__law_value (fun vs H Q E h => ?_) (fun cdv A outer s H vs Q E hr h => ?_)
    · obtain ⟨_, _, _, _, _, _, _, rfl, _⟩ := h
      rfl
    · obtain ⟨v, dd, f, M, kvs, ρ, nm, rfl, _, hd, _⟩ := h
      exact absurd f.dep_pos (by omega)
  | succ d ih =>
    have G__law_value := ih
    refine T.F__law_value.ok sc__law_value (fun vs H Q E h => ?_) (fun cdv A outer s H vs Q E hr h => ?_)
    · obtain ⟨_, _, _, _, _, _, _, rfl, _⟩ := h
      rfl
    · obtain ⟨v, dd, f, M, kvs, ρ, nm, rfl, hR, hd, ho, hdd, hρ, q⟩ := h
      obtain ⟨a, xs, rfl, na, ha, hx⟩ := hR.form
      refine ⟨_, (pss_cons (ps_set (i := 2) sc__law_value.nd rfl (Or.inl rfl) (pe_ix (ix_tupK (K := K) rfl) (pv 0) pe_int (fun _ _ => rfl)))
      (pss_cons (ps_if (PW.pt (pw_or (pt_cmpR op_eq (pv 2) pe_str (nomark _)) (pw_or1 (pt_cmpR op_eq (pv 2) pe_str (nomark _))))) (pss_one (ps_ret (pe_ifExp (pt_cmpR op_eq (pv 2) pe_str (nomark _)) (pe_ix (ix_tupK (K := K) rfl) (pv 0) pe_int (fun _ _ => rfl)) (pe_dget (hu_of hr) (pv 1) (pe_ix (ix_tupK (K := K) rfl) (pv 0) pe_int (fun _ _ => rfl)) (fun _ _ => rfl))))) pss_nil)
      (pss_cons (ps_set (i := 3) sc__law_value.nd rfl (Or.inl rfl) (pe_call G__law_value (hr.mono (by omega)) (by rfl) T.g__law_value T.F__law_value.kp T.b__law_value .nil pass0 (pa_cons (pe_ix (ix_tupK (K := K) rfl) (pv 0) pe_int (fun _ _ => rfl)) (pa_cons (pv 1) pa_nil))))
      (pss_cons (ps_if (pt_cmpR op_eq (pv 2) pe_str (nomark _)) (pss_one (ps_ret (pe_call G__law_value (hr.mono (by omega)) (by rfl) T.g__law_value T.F__law_value.kp T.b__law_value .nil pass0 (pa_cons (pe_ifExp (pt_cmpR op_ne (pv 3) pe_int (nomark _)) (pe_ix (ix_tupK (K := K) rfl) (pv 0) pe_int (fun _ _ => rfl)) (pe_ix (ix_tupK (K := K) rfl) (pv 0) pe_int (fun _ _ => rfl))) (pa_cons (pv 1) pa_nil))))) pss_nil)
      (pss_cons (ps_set (i := 4) sc__law_value.nd rfl (Or.inl rfl) (pe_call G__law_value (hr.mono (by omega)) (by rfl) T.g__law_value T.F__law_value.kp T.b__law_value .nil pass0 (pa_cons (pe_ix (ix_tupK (K := K) rfl) (pv 0) pe_int (fun _ _ => rfl)) (pa_cons (pv 1) pa_nil))))
      (pss_one (ps_ret (pe_ifExp (pt_cmpR op_eq (pv 2) pe_str (nomark _)) (pe_op op_mod (pe_callTy call_int1 (by rfl) T.m_int (by decide +kernel) (pa_cons (pe_op op_add (pv 3) (pv 4)) pa_nil)) pe_int) (pe_callTy call_int1 (by rfl) T.m_int (by decide +kernel) (pa_cons (pe_cmpR op_eq (pv 3) (pv 4) (nomark _)) pa_nil)))))))))), ?_⟩
      cases hx with
      | is n =>
        walk_at "g"
        exact q
      | get x =>
        have hx := hρ x ho
        walk_at "g"
        exact ⟨dd, _, rfl, DGet.k (k := Sum.inr x) hdd |> fun z => by rw [hx] at z; exact z, q⟩
      | @sum f g u w r1 r2 =>
        have hd' : f.dep ≤ d ∧ g.dep ≤ d := by
          have : max f.dep g.dep + 1 ≤ d + 1 := hd
          omega
        walk_at "g"
        refine ⟨u, dd, f, M, kvs, ρ, nm, rfl, r1, hd'.1, ho.1, hdd, hρ, ?_⟩
        walk_at "g"
        refine ⟨w, dd, g, M, kvs, ρ, nm, rfl, r2, hd'.2, ho.2, hdd, hρ, ?_⟩
        walk_at "g"
        exact q
      | @same f g u w r1 r2 =>
        have hd' : f.dep ≤ d ∧ g.dep ≤ d := by
          have : max f.dep g.dep + 1 ≤ d + 1 := hd
          omega
        walk_at "g"
        refine ⟨u, dd, f, M, kvs, ρ, nm, rfl, r1, hd'.1, ho.1, hdd, hρ, ?_⟩
        walk_at "g"
        refine ⟨w, dd, g, M, kvs, ρ, nm, rfl, r2, hd'.2, ho.2, hdd, hρ, ?_⟩
        walk_at "g"
        refine .inr ⟨_, rfl, ?_⟩
        have ev : (Fm.same f g).val ρ = if decide (V.int (f.val ρ) = V.int (g.val ρ)) = true then 1 else 0 := by
          by_cases c : f.val ρ = g.val ρ
          · rw [if_pos (decide_eq_true (by rw [c]))]
            exact if_pos c
          · rw [if_neg (fun z => c (V.int.inj (of_decide_eq_true z)))]
            exact if_neg c
        rw [ev] at q
        exact q
      | @pick f g k u w z r1 r2 r3 =>
        have hd' : f.dep ≤ d ∧ g.dep ≤ d ∧ k.dep ≤ d := by
          have : max f.dep (max g.dep k.dep) + 1 ≤ d + 1 := hd
          omega
        walk_at "g"
        refine ⟨u, dd, f, M, kvs, ρ, nm, rfl, r1, hd'.1, ho.1, hdd, hρ, ?_⟩
        walk_at "g"
        by_cases e' : f.val ρ = 0
        · have ev : (Fm.pick f g k).val ρ = k.val ρ := if_pos e'
          rw [ev] at q
          rw [decide_eq_true (show V.int (f.val ρ) = V.int 0 by rw [e'])]
          walk_at "g"
          exact ⟨z, dd, k, M, kvs, ρ, nm, rfl, r3, hd'.2.2, ho.2.2, hdd, hρ, q⟩
        · have ev : (Fm.pick f g k).val ρ = g.val ρ := if_neg e'
          rw [ev] at q
          rw [decide_eq_false (show ¬ V.int (f.val ρ) = V.int 0 from fun z => e' (V.int.inj z))]
          walk_at "g"
          exact ⟨w, dd, g, M, kvs, ρ, nm, rfl, r2, hd'.2.1, ho.2.1, hdd, hρ, q⟩

def sp_some (K : PySem.W.Frag) : Sp := fun vs H Q _ => ∃ (b a : Addr) (ws : List Str) (M : Ms), vs = [.ref b, .ref a] ∧ Bag K M H b ∧ Mk M H ∧ Rd H a (.lst (ws.map V.str)) ∧ a ≠ b ∧ ws.length ≤ 100 ∧
  ∀ (H' : Hp) (p : Addr) (os : List Str), Sx (one b) H H' → Gr H H' → Bag K M H' b → H p = none → H' p = some (.lst (os.map V.str)) → (∀ x ∈ os, x ∈ ws) → os.length ≤ ws.length → Q (.ref p) H'
theorem ok_some (T : Txt K mg) : FnOk P w K mg base CX0 3 T.f__law_some T.d__law_some ["_law_bag_here", "_law_things"] (sp_some K) := by
  have G__law_pick := ok_pick (P := P) (w := w) (base := base) T
  refine T.F__law_some.ok sc__law_some (fun vs H Q E h => ?_) (fun cdv A outer s H vs Q E hr h => ?_)
  · obtain ⟨_, _, _, _, rfl, _⟩ := h
    rfl
  · obtain ⟨b, a, ws, M, rfl, hB, hM, hS, hab, hl, q⟩ := h
    refine ⟨_, (pss_one (ps_ret (pe_lc (own := [("_law_thing", 2)]) (g := gName 2)  (by rfl) sc__law_some.nd (pi_listK (K := K) rfl (pv 1)) (blkOk_by (own := [("_law_thing", 2)]) (N := ["_law_bag_here", "_law_things", "_law_thing"]) (sc := defScope s__law_some) (by decide +kernel)) (fun _ _ _ _ _ => (pg_name (i := 2) sc__law_some.nd rfl (Or.inl rfl))) (fun _ _ _ _ _ => (pts_one (pt_cmpR op_eq (pe_call G__law_pick (hr.mono (by omega)) (by rfl) T.g__law_pick T.F__law_pick.kp T.b__law_pick .nil pass0 (pa_cons (pv 0) (pa_cons pe_int pa_nil))) pe_int (nomark _)))) (fun _ _ _ _ _ => (pv 2))))), ?_⟩
    walk_at "g"
    have haD : ∀ {D}, H D = none → a ≠ D := fun hD => rd_ne hS hD
    refine ⟨⟨_, .inl hS⟩, fun D hD => ?_⟩
    have haD := haD hD
    have Db : D ≠ b := fun z => hB.there (by rw [← z]; exact hD)
    refine list_loop (xs := ws.map V.str) (fun i H' => Sx (also (one b) D) H H' ∧ Gr H H' ∧ Bag K (also M D) H' b ∧ ∃ os : List Str, H' D = some (.lst (os.map V.str)) ∧ os.length ≤ i ∧ ∀ x ∈ os, x ∈ ws) ⟨Sx.put (.inr rfl), Gr.upd, (hB.more hD).same (same_new hD), [], upd_same, Nat.le_refl _, fun _ h => nomatch h⟩ (fun i H' _ z => ?_) (fun i x H' hx z => ?_) (fun H' z => ?_)
    · obtain ⟨s1, _, _, _, eD, _⟩ := z
      refine sx_l s1 (fun z => z.elim (fun z => hab z) fun z => haD z) (.inl hS)
    · obtain ⟨s1, g1, hB1, os, eD, lo, ho⟩ := z
      rw [List.getElem?_map] at hx
      obtain ⟨x, hxn, rfl⟩ := Option.map_eq_some_iff.mp hx
      refine ⟨rfl, ?_⟩
      walk_at "g"
      refine ⟨b, 2, also M D, rfl, hB1, by omega, by omega, fun w2 H2 p0 p1 hA hB2 => ?_⟩
      have sA : Sx (also (one b) D) H' H2 := hA.sx.le fun c z => .inl z
      have gA := At.gr hA hB2.there
      have eD2 := (hA D Db).trans eD
      walk_at "g"
      cases cc : decide (V.int w2 = V.int 0) with
      | true =>
        walk_at "g"
        refine ⟨_, eD2, small1000 (by rw [List.length_map]; have := (List.getElem?_eq_some_iff.mp hxn).1; omega), (s1.trans sA).trans (Sx.put (.inr rfl)), (g1.trans gA).trans Gr.upd, hB2.keep (N := one D) (Sx.put rfl) (Ne.symm Db) (fun c z => .inr z), os ++ [x], ?_, by rw [List.length_append]; show os.length + 1 ≤ i + 1; omega, fun y hy => ?_⟩
        · rw [upd_same, List.map_append]; rfl
        · rcases List.mem_append.mp hy with z | z
          · exact ho y z
          · rw [List.mem_singleton.mp z]; exact List.mem_of_getElem? hxn
      | false =>
        walk_at "g"
        exact ⟨s1.trans sA, g1.trans gA, hB2, os, eD2, by omega, ho⟩
    · obtain ⟨s1, g1, hB1, os, eD, lo, ho⟩ := z
      rw [List.length_map] at lo
      exact q H' D os (s1.cut hD) g1 (hB1.less hB.w also_le) hD eD ho lo
def sp_lsets : Sp := fun vs H Q _ => ∃ (v : V) (ns : List Str) (M : Ms), vs = [v] ∧ Rp M H v (namesT ns) ∧ Mk M H ∧ NmOk ns ∧ ∀ H' a, Same H H' → H a = none → Ld M H' a ((Sc.sets ns).map namesT) → Q (.ref a) H'
theorem ok_lsets (T : Txt K mg) : FnOk P w K mg base CX0 1 T.f__law_sets T.d__law_sets ["_law_names"] sp_lsets := by
  refine T.F__law_sets.ok sc__law_sets (fun vs H Q E h => ?_) (fun cdv A outer s H vs Q E hr h => ?_)
  · obtain ⟨_, _, _, rfl, _⟩ := h
    rfl
  · obtain ⟨v, ns, M, rfl, hR, hM, ok, q⟩ := h
    obtain ⟨a, rfl, na, ha⟩ := names_at hR
    refine ⟨_, (pss_cons (ps_set (i := 1) sc__law_sets.nd rfl (Or.inl rfl) (pe_lst pa_nil))
      (pss_cons (ps_for PassesOwn.never rfl (pi_listK (K := K) rfl (pe_lst (pa_cons (pe_tup (pa_cons pe_int pa_nil)) (pa_cons (pe_tup (pa_cons pe_int pa_nil)) (pa_cons (pe_tup (pa_cons pe_int pa_nil)) (pa_cons (pe_tup (pa_cons pe_int (pa_cons pe_int pa_nil))) (pa_cons (pe_tup (pa_cons pe_int (pa_cons pe_int pa_nil))) (pa_cons (pe_tup (pa_cons pe_int (pa_cons pe_int pa_nil))) (pa_cons (pe_tup (pa_cons pe_int (pa_cons pe_int (pa_cons pe_int pa_nil)))) pa_nil))))))))) (pg_name (i := 2) sc__law_sets.nd rfl (Or.inl rfl)) (pss_one (ps_if (pt_cmpR op_lt (pe_ix (ix_tupK (K := K) rfl) (pv 2) (pe_op op_sub (pe_callB (call_lenK (K := K) rfl) (by rfl) T.m_len PySem.boot_len (pa_cons (pv 2) pa_nil)) pe_int) (fun _ _ => rfl)) (pe_callB (call_lenK (K := K) rfl) (by rfl) T.m_len PySem.boot_len (pa_cons (pv 0) pa_nil)) (nomark _)) (pss_one (ps_expr (pe_bmK2 (K := K) rfl PySem.F.plainAttrs_list PySem.F.slot_list_append PySem.F.type_list_append mt_append (pv 1) (pa_cons (pe_callTy (call_tupleK (K := K) rfl) (by rfl) T.m_tuple (by decide +kernel) (pa_cons (pe_lc (own := [("_law_at", 3)]) (g := gName 3) (tt := tYes) (by rfl) sc__law_sets.nd (pi_tupK (K := K) rfl (pv 2)) (blkOk_by (own := [("_law_at", 3)]) (N := ["_law_names", "_law_out", "_law_places", "_law_at"]) (sc := defScope s__law_sets) (by decide +kernel)) (fun _ _ _ _ _ => (pg_name (i := 3) sc__law_sets.nd rfl (Or.inl rfl))) (fun _ _ _ _ _ => pts_nil) (fun _ _ _ _ _ => (pe_ix (ix_tupK (K := K) rfl) (pv 0) (pv 3) (fun _ _ => rfl)))) pa_nil)) pa_nil)))) pss_nil)))
      (pss_one (ps_ret (pv 1))))), ?_⟩
    refine ⟨by show 0 ≤ sizeLine; exact Nat.zero_le _, fun o ho => ?_⟩
    have so : Same H (upd H o (.lst [])) := same_new ho
    have eo : upd H o (.lst []) o = some (.lst []) := upd_same
    generalize upd H o (.lst []) = T0 at so eo
    have m0 : Mk (also M o) T0 := (hM.gr (Gr.same so)).also (ne_none eo)
    walk_at "g"
    refine ⟨szK rfl, fun t1 ht1 => ?_⟩
    have s1 : Same T0 (upd T0 t1 (.tup [V.int 0])) := same_new ht1
    have r1 : Rp (also M o) (upd T0 t1 (.tup [V.int 0])) (.ref t1) (plD [0]) := plD_new m0 ht1 [0]
    generalize upd T0 t1 (.tup [V.int 0]) = T1 at s1 r1
    have m1 := m0.gr (Gr.same s1)
    walk_at "g"
    refine ⟨szK rfl, fun t2 ht2 => ?_⟩
    have s2 : Same T1 (upd T1 t2 (.tup [V.int 1])) := same_new ht2
    have r2 : Rp (also M o) (upd T1 t2 (.tup [V.int 1])) (.ref t2) (plD [1]) := plD_new m1 ht2 [1]
    generalize upd T1 t2 (.tup [V.int 1]) = T2 at s2 r2
    have m2 := m1.gr (Gr.same s2)
    walk_at "g"
    refine ⟨szK rfl, fun t3 ht3 => ?_⟩
    have s3 : Same T2 (upd T2 t3 (.tup [V.int 2])) := same_new ht3
    have r3 : Rp (also M o) (upd T2 t3 (.tup [V.int 2])) (.ref t3) (plD [2]) := plD_new m2 ht3 [2]
    generalize upd T2 t3 (.tup [V.int 2]) = T3 at s3 r3
    have m3 := m2.gr (Gr.same s3)
    walk_at "g"
    refine ⟨szK rfl, fun t4 ht4 => ?_⟩
    have s4 : Same T3 (upd T3 t4 (.tup [V.int 0, V.int 1])) := same_new ht4
    have r4 : Rp (also M o) (upd T3 t4 (.tup [V.int 0, V.int 1])) (.ref t4) (plD [0, 1]) := plD_new m3 ht4 [0, 1]
    generalize upd T3 t4 (.tup [V.int 0, V.int 1]) = T4 at s4 r4
    have m4 := m3.gr (Gr.same s4)
    walk_at "g"
    refine ⟨szK rfl, fun t5 ht5 => ?_⟩
    have s5 : Same T4 (upd T4 t5 (.tup [V.int 0, V.int 2])) := same_new ht5
    have r5 : Rp (also M o) (upd T4 t5 (.tup [V.int 0, V.int 2])) (.ref t5) (plD [0, 2]) := plD_new m4 ht5 [0, 2]
    generalize upd T4 t5 (.tup [V.int 0, V.int 2]) = T5 at s5 r5
    have m5 := m4.gr (Gr.same s5)
    walk_at "g"
    refine ⟨szK rfl, fun t6 ht6 => ?_⟩
    have s6 : Same T5 (upd T5 t6 (.tup [V.int 1, V.int 2])) := same_new ht6
    have r6 : Rp (also M o) (upd T5 t6 (.tup [V.int 1, V.int 2])) (.ref t6) (plD [1, 2]) := plD_new m5 ht6 [1, 2]
    generalize upd T5 t6 (.tup [V.int 1, V.int 2]) = T6 at s6 r6
    have m6 := m5.gr (Gr.same s6)
    walk_at "g"
    refine ⟨szK rfl, fun t7 ht7 => ?_⟩
    have s7 : Same T6 (upd T6 t7 (.tup [V.int 0, V.int 1, V.int 2])) := same_new ht7
    have r7 : Rp (also M o) (upd T6 t7 (.tup [V.int 0, V.int 1, V.int 2])) (.ref t7) (plD [0, 1, 2]) := plD_new m6 ht7 [0, 1, 2]
    generalize upd T6 t7 (.tup [V.int 0, V.int 1, V.int 2]) = T7 at s7 r7
    have m7 := m6.gr (Gr.same s7)
    walk_at "g"
    refine ⟨szK rfl, fun l hl => ?_⟩
    have s8 : Same T7 (upd T7 l (.lst [.ref t1, .ref t2, .ref t3, .ref t4, .ref t5, .ref t6, .ref t7])) := same_new hl
    have rs : RpAll (also M o) T7 [.ref t1, .ref t2, .ref t3, .ref t4, .ref t5, .ref t6, .ref t7] (Sc.seven.map plD) :=
      .cons (r1.sx (Sx.same (s2.trans (s3.trans (s4.trans (s5.trans (s6.trans s7))))))) (.cons (r2.sx (Sx.same (s3.trans (s4.trans (s5.trans (s6.trans s7)))))) (.cons (r3.sx (Sx.same (s4.trans (s5.trans (s6.trans s7))))) (.cons (r4.sx (Sx.same (s5.trans (s6.trans s7)))) (.cons (r5.sx (Sx.same (s6.trans s7))) (.cons (r6.sx (Sx.same s7)) (.one r7))))))
    have el : upd T7 l (.lst [.ref t1, .ref t2, .ref t3, .ref t4, .ref t5, .ref t6, .ref t7]) l = some (.lst [.ref t1, .ref t2, .ref t3, .ref t4, .ref t5, .ref t6, .ref t7]) := upd_same
    have hlo : l ≠ o := fun z => by
      have := (s1.trans (s2.trans (s3.trans (s4.trans (s5.trans (s6.trans s7)))))) _ _ eo
      rw [← z, hl] at this
      cases this
    have sA := s1.trans (s2.trans (s3.trans (s4.trans (s5.trans (s6.trans (s7.trans s8))))))
    generalize upd T7 l (.lst [.ref t1, .ref t2, .ref t3, .ref t4, .ref t5, .ref t6, .ref t7]) = U at s8 el sA
    have rsU := rs.sx (Sx.same s8)
    clear rs r1 r2 r3 r4 r5 r6 r7 s8 s1 s2 s3 s4 s5 s6 s7
    generalize [V.ref t1, .ref t2, .ref t3, .ref t4, .ref t5, .ref t6, .ref t7] = zs at el rsU
    have soU := so.trans sA
    have eoU := sA _ _ eo
    have hao : a ≠ o := fun z => by rw [z, ho] at ha; cases ha
    have ha0 := soU _ _ ha
    have lzs : zs.length = 7 := by rw [rsU.length]; rfl
    let p7 : List Nat → Bool := fun r => decide (r.getLastD 0 < ns.length)
    walk_at "g"
    refine ⟨⟨_, SqL.of el⟩, ?_⟩
    refine for_list (K := K) (a := l) (xs := zs) (fun i σ H' => ∃ y2 y3, σ = [some (.ref a), some (.ref o), y2, y3] ∧ Same H H' ∧ Sx (one o) U H' ∧ ∃ acc, H' o = some (.lst acc) ∧ RpAll (also M o) H' acc ((((Sc.seven.take i).filter p7).map (Sc.pk ns)).map namesT)) ⟨none, none, rfl, soU, Sx.refl, [], eoU, .nil⟩ (fun i σ H' _ z => ?_) (fun i x σ H' hx z => ?_) (fun σ H' z => ?_)
    · obtain ⟨_, _, _, _, z, _⟩ := z
      exact SqL.of (z _ _ hlo el)
    · obtain ⟨y2, y3, rfl, sH, sU, acc, eA, rA⟩ := z
      obtain ⟨d, hd, rd⟩ := rsU.get hx
      rw [List.getElem?_map] at hd
      obtain ⟨r, hr, rfl⟩ := Option.map_eq_some_iff.mp hd
      have rd' := rd.sx (sU.le (one_le (M := also M o) (.inr rfl)))
      obtain ⟨c, rfl, nc, hc⟩ := plD_at rd'
      have hi7 : i < 7 := by rw [← lzs]; exact (List.getElem?_eq_some_iff.mp hx).1
      have hr7 : r ∈ Sc.seven := List.mem_of_getElem? hr
      have hne : r ≠ [] ∧ r.length ≤ 3 ∧ (∀ k ∈ r, k ≤ r.getLastD 0) := (show ∀ r ∈ Sc.seven, r ≠ [] ∧ r.length ≤ 3 ∧ (∀ k ∈ r, k ≤ r.getLastD 0) by decide) r hr7
      have hl : atI (r.map fun (i : Nat) => V.int (i : Int)) ((r.length : Int) - 1) = some (.int (r.getLastD 0 : Nat)) := by
        have := last_at hne.1
        have hp : 0 < r.length := List.length_pos_iff.mpr hne.1
        obtain ⟨q, a, rfl⟩ : ∃ q a, r = q ++ [a] := ⟨r.dropLast, r.getLast hne.1, (List.dropLast_concat_getLast hne.1).symm⟩
        rw [List.length_append, List.length_singleton, show (((q.length + 1 : Nat) : Int) - 1) = (q.length : Int) by omega]
        refine (atI_nat (j := q.length) ?_)
        simp
      have hstep : ∀ b : Bool, p7 r = b → ((((Sc.seven.take (i + 1)).filter p7).map (Sc.pk ns)).map namesT) = ((((Sc.seven.take i).filter p7).map (Sc.pk ns)).map namesT) ++ (if b = true then [namesT (Sc.pk ns r)] else []) := fun b e => by
        rw [List.take_add_one, hr, Option.toList_some, List.filter_append, List.map_append, List.map_append]
        congr 1
        rw [List.filter_cons, e]
        cases b <;> rfl
      have ha' := sH _ _ ha
      walk_at "g"
      refine ⟨_, _, rfl, .inr (.inl (.inl hc)), ?_⟩
      rw [List.length_map]
      walk_at "g"
      refine ⟨c, _, _, _, rfl, rfl, SqT.of hc, hl, ?_⟩
      walk_at "g"
      refine ⟨_, _, rfl, .inr (.inl (.inl ha')), ?_⟩
      rw [List.length_map]
      walk_at "g"
      cases cc : decide (((r.getLastD 0 : Nat) : Int) < (ns.length : Int)) with
      | false =>
        have cn : ¬ ((r.getLastD 0 : Nat) : Int) < (ns.length : Int) := of_decide_eq_false cc
        walk_at "g"
        refine ⟨_, _, rfl, sH, sU, acc, eA, ?_⟩
        rw [hstep false (decide_eq_false (by omega)), if_neg Bool.false_ne_true, List.append_nil]
        exact rA
      | true =>
        have cn : ((r.getLastD 0 : Nat) : Int) < (ns.length : Int) := of_decide_eq_true cc
        have lA := rA.length
        rw [List.length_map, List.length_map] at lA
        have lf := List.length_filter_le p7 (Sc.seven.take i)
        rw [List.length_take] at lf
        walk_at "g"
        refine ⟨.inl ⟨rfl, _, SqL.of eA⟩, ?_⟩
        walk_at "g"
        refine ⟨⟨_, SqT.of hc⟩, fun D2 hD2 => ?_⟩
        refine lc_valsT (ys := (Sc.pk ns r).map V.str) hD2 (SqT.of hc) (by unfold Sc.pk; rw [List.length_map, List.length_map, List.length_map]) (by rw [List.length_map]; omega) (fun j x y H3 C2 N2 hx2 hy2 s3 hC2 => ?_) (fun H3 s3 e3 => ?_)
        · unfold Sc.pk at hy2
          rw [List.getElem?_map] at hx2
          rw [List.getElem?_map, List.getElem?_map] at hy2
          obtain ⟨m, hm, rfl⟩ := Option.map_eq_some_iff.mp hx2
          rw [hm] at hy2
          cases hy2
          have hml : m < ns.length := by have := hne.2.2 m (List.mem_of_getElem? hm); omega
          refine ⟨rfl, ?_⟩
          walk_at "g"
          refine ⟨a, _, (m : Int), _, rfl, rfl, SqT.of (s3 _ _ ha'), atI_nat (by rw [List.getElem?_map, List.getElem?_eq_getElem hml]; rfl), ?_⟩
          have eg : ns.getD m default = ns[m] := by rw [List.getD_eq_getElem?_getD, List.getElem?_eq_getElem hml]; rfl
          rw [← eg]
          exact hC2
        · walk_at "g"
          refine ⟨D2, _, rfl, .inl ⟨SqL.of e3, fun u hu => ?_⟩⟩
          have s4 := s3.trans (same_new (o := .tup ((Sc.pk ns r).map V.str)) hu)
          have eA4 := s4 _ _ eA
          have gH := Gr.same (sA.trans (Same.refl U))
          have mk3 : Mk (also M o) H3 := (hM.gr (Gr.same (sH.trans s3))).also (ne_none (s3 _ _ eA))
          have rN := names_new mk3 hu (Sc.pk ns r)
          refine ⟨o, acc, _, rfl, rfl, eA4, small1000 (by omega), ?_⟩
          walk_at "g"
          refine ⟨_, _, rfl, same_put (sH.trans s4) ho, (sU.trans (Sx.same s4)).trans (Sx.put rfl), _, upd_same, ?_⟩
          rw [hstep true (decide_eq_true (by omega)), if_pos rfl]
          exact ((rA.sx (Sx.same s4)).append (.one rN)).sx (Sx.put (.inr rfl))
    · obtain ⟨y2, y3, rfl, sH, sU, acc, eA, rA⟩ := z
      rw [lzs, show (Sc.seven.take 7) = Sc.seven from rfl] at rA
      walk_at "g"
      exact q H' o sH ho ⟨hM.out ho, acc, eA, rA.less also_le⟩
def sp_lhas : Sp := fun vs H Q _ => ∃ (v1 v2 : V) (ss nd : List Str) (M : Ms), vs = [v1, v2] ∧ Rp M H v1 (namesT ss) ∧ Rp M H v2 (namesT nd) ∧ ss.length ≤ 1000 ∧ ∀ H', Same H H' → Q (.bl (Sc.has nd ss)) H'
theorem ok_lhas (T : Txt K mg) : FnOk P w K mg base CX0 1 T.f__law_has T.d__law_has ["_law_one", "_law_needed"] sp_lhas := by
  refine T.F__law_has.ok sc__law_has (fun vs H Q E h => ?_) (fun cdv A outer s H vs Q E hr h => ?_)
  · obtain ⟨_, _, _, _, _, rfl, _⟩ := h
    rfl
  · obtain ⟨v1, v2, ss, nd, M, rfl, h1, h2, hl, q⟩ := h
    obtain ⟨a, rfl, na, ha⟩ := names_at h1
    obtain ⟨b, rfl, nb, hb⟩ := names_at h2
    refine ⟨_, (pss_one (ps_ret (pe_cmpR op_gt (pe_callB (call_lenK (K := K) rfl) (by rfl) T.m_len PySem.boot_len (pa_cons (pe_lc (own := [("_law_told", 2)]) (g := gName 2)  (by rfl) sc__law_has.nd (pi_tupK (K := K) rfl (pv 0)) (blkOk_by (own := [("_law_told", 2)]) (N := ["_law_one", "_law_needed", "_law_told"]) (sc := defScope s__law_has) (by decide +kernel)) (fun _ _ _ _ _ => (pg_name (i := 2) sc__law_has.nd rfl (Or.inl rfl))) (fun _ _ _ _ _ => (pts_one (pt_cmpR (op_in_seqK (K := K) rfl) (pv 2) (pv 1) (by rfl)))) (fun _ _ _ _ _ => (pv 2))) pa_nil)) pe_int (nomark _)))), ?_⟩
    walk_at "g"
    refine ⟨⟨_, SqT.of ha⟩, fun D hD => ?_⟩
    refine vl_tup (ys := ss.map fun x => if decide (x ∈ nd) = true then some (V.str x) else none) hD (SqT.of ha) (by rw [List.length_map, List.length_map]) (by rw [List.length_map]; omega) (fun i x y H' C N hx hy hs hC hN => ?_) (fun H' hs e => ?_)
    · rw [List.getElem?_map] at hx hy
      obtain ⟨n, hn, rfl⟩ := Option.map_eq_some_iff.mp hx
      rw [hn] at hy
      cases hy
      refine ⟨rfl, ?_⟩
      walk_at "g"
      refine ⟨b, _, rfl, .inr (SqT.of (hs _ _ hb)), rfl, flat_strs nd, ?_⟩
      rw [if_neg Bool.false_ne_true, in_strs]
      refine ⟨_, rfl, ?_⟩
      cases c : decide (n ∈ nd) with
      | true =>
        walk_at "g"
        exact hC _ (if_pos c) _ (Same.refl _)
      | false => exact hN (if_neg (by rw [c]; exact Bool.false_ne_true)) _ (Same.refl _)
    · rw [opt_filter] at e
      walk_at "g"
      have : decide ((0 : Int) < (((ss.filter fun x => decide (x ∈ nd)).map V.str).length : Int)) = Sc.has nd ss := by
        rw [List.length_map]
        unfold Sc.has
        rw [Bool.eq_iff_iff, decide_eq_true_iff, List.any_eq_true]
        constructor
        · intro h
          obtain ⟨x, hx⟩ := List.exists_mem_of_length_pos (l := ss.filter fun x => decide (x ∈ nd)) (by omega)
          exact ⟨x, (List.mem_filter.mp hx).1, (List.mem_filter.mp hx).2⟩
        · rintro ⟨x, h1, h2⟩
          have := List.length_pos_of_mem ((List.mem_filter (p := fun x => decide (x ∈ nd))).mpr ⟨h1, h2⟩)
          omega
      rw [← this] at q
      exact q _ hs
end
end D

namespace D
open PySem PySem.Spec PyProof.Rows L2
local macro_rules | `(tactic| walk_at "st") => `(tactic| first | exact SqT.of (by assumption) | exact Or.inl (by assumption) | exact SqT.of upd_same | fail "st")
local macro_rules | `(tactic| walk_at "ixt") => `(tactic| refine ⟨_, _, _, _, rfl, rfl, (by walk_at "st" : SqT _ _ _ _), by rfl, ?_⟩)
local macro_rules | `(tactic| walk_at "sq") => `(tactic| first | exact SqL.of (by assumption) | assumption | exact Or.inl (by assumption) | exact SqL.of upd_same | fail "sq")
local macro_rules | `(tactic| walk_at "ix") => `(tactic| refine ⟨_, _, _, _, rfl, rfl, (by walk_at "sq" : SqL _ _ _ _), by rfl, ?_⟩)
local macro_rules | `(tactic| walk_at "set") => `(tactic| refine ⟨_, _, _, _, rfl, rfl, by first | assumption | exact upd_same, by rfl, ?_⟩)
local macro_rules | `(tactic| walk_at "len") => `(tactic| refine ⟨_, _, rfl, Or.inl (by walk_at "sq" : SqL _ _ _ _), ?_⟩)
local macro_rules | `(tactic| walk_at "g") => `(tactic| repeat (first | refine ⟨_, rfl, ?_⟩ | refine ⟨_, _, rfl, rfl, ?_⟩ | refine ⟨Or.inr (by decide), ?_⟩ | refine ⟨Or.inl (by decide), ?_⟩ | refine ⟨(by decide : (0 : Int) < _), ?_⟩ | refine ⟨(⟨by decide, by decide⟩ : CDiv _ _), ?_⟩ | refine ⟨(⟨by decide, by decide, by decide⟩ : CPow _ _), ?_⟩ | refine Or.inl ⟨_, rfl, ?_⟩ | refine ⟨rfl, ?_⟩ | walk_at "ix" | walk_at "ixt" | walk_at "len" | fail "g"))
local macro_rules | `(tactic| walk_at "if") => `(tactic| refine ite2 (fun e => ?_) (fun e => ?_))
section
variable {P : Program} {w : World} {K : PySem.W.Frag} {mg : Str → Option Value} {base : Heap}
def rowF (ns : List Str) (m k : Nat) : Str → Int := fun x => (Sc.env ns (Sc.digs m ns.length k) x : Int)
theorem digs_get {m : Nat} : ∀ (n k i : Nat), i < n → (Sc.digs m n k).getD i 0 = k / m ^ i % m
  | 0, _, i, h => absurd h (Nat.not_lt_zero i)
  | n + 1, k, 0, _ => by rw [Sc.digs, Nat.pow_zero, Nat.div_one]; rfl
  | n + 1, k, i + 1, h => by
    rw [Sc.digs, List.getD_cons_succ, digs_get n (k / m) i (by omega), Nat.div_div_eq_div_mul, Nat.pow_succ, Nat.mul_comm]
theorem rowF_at {ns : List Str} (nd : ns.Nodup) {m k i : Nat} {x : Str} (h : ns[i]? = some x) : rowF ns m k x = ((k / m ^ i % m : Nat) : Int) := by
  obtain ⟨hi, e⟩ := List.getElem?_eq_some_iff.mp h
  subst e
  unfold rowF
  rw [Sc.env_at nd _ i hi, digs_get _ _ _ hi]
def SetsAt (M : Ms) (H : Hp) (xs : List V) (ns : List Str) (m n : Nat) : Prop := xs.length = n ∧ ∀ k, k < n → ∃ d, xs[k]? = some (.ref d) ∧ ¬ M d ∧ H d = some (.dK (kvF ns (rowF ns m k)))
theorem SetsAt.sx {M : Ms} {H H' : Hp} {xs : List V} {ns : List Str} {m n : Nat} (h : SetsAt M H xs ns m n) (s : Sx M H H') : SetsAt M H' xs ns m n := ⟨h.1, fun k hk => by
  obtain ⟨d, e, nd, hd⟩ := h.2 k hk
  exact ⟨d, e, nd, s _ _ nd hd⟩⟩
theorem SetsAt.less {M N : Ms} {H : Hp} {xs : List V} {ns : List Str} {m n : Nat} (f : ∀ a, N a → M a) (h : SetsAt M H xs ns m n) : SetsAt N H xs ns m n := ⟨h.1, fun k hk => by
  obtain ⟨d, e, nd, hd⟩ := h.2 k hk
  exact ⟨d, e, fun z => nd (f _ z), hd⟩⟩
theorem SetsAt.fresh {M : Ms} {H : Hp} {xs : List V} {ns : List Str} {m n : Nat} {p : Addr} (hp : H p = none) (h : SetsAt M H xs ns m n) : SetsAt (also M p) H xs ns m n := ⟨h.1, fun k hk => by
  obtain ⟨d, e, nd, hd⟩ := h.2 k hk
  exact ⟨d, e, (fun z => z.elim nd fun z => by rw [show d = p from z, hp] at hd; cases hd), hd⟩⟩
theorem SetsAt.snoc {M : Ms} {H : Hp} {xs : List V} {ns : List Str} {m n : Nat} {d : Addr} (h : SetsAt M H xs ns m n) (nd : ¬ M d) (hd : H d = some (.dK (kvF ns (rowF ns m n)))) : SetsAt M H (xs ++ [.ref d]) ns m (n + 1) := ⟨by rw [List.length_append, h.1]; rfl, fun k hk => by
  by_cases c : k < n
  · obtain ⟨d', e, nd', hd'⟩ := h.2 k c
    exact ⟨d', by rw [List.getElem?_append_left (by rw [h.1]; exact c)]; exact e, nd', hd'⟩
  · have : k = n := by omega
    subst this
    exact ⟨d, by rw [List.getElem?_append_right (by rw [h.1]; exact Nat.le_refl _), h.1, Nat.sub_self]; rfl, nd, hd⟩⟩
theorem not_in_take {ns : List Str} (nd : ns.Nodup) {i : Nat} {x : Str} (hx : ns[i]? = some x) : x ∉ ns.take i := fun hm => by
  obtain ⟨j, hj⟩ := List.mem_iff_getElem?.mp hm
  have hji : j < i := by
    have := (List.getElem?_eq_some_iff.mp hj).1
    rw [List.length_take] at this
    omega
  rw [List.getElem?_take_of_lt hji] at hj
  exact (nodup_get.mp nd) j i hji (List.getElem?_eq_some_iff.mp hx).1 (hj.trans hx.symm)
def sp_comb : Sp := fun vs H Q _ => ∃ (v : V) (ns : List Str) (m : Nat) (M : Ms), vs = [v, .int m] ∧ Rp M H v (namesT ns) ∧ Mk M H ∧ NmOk ns ∧ (m = 2 ∨ m = 3) ∧
  ∀ (H' : Hp) (a : Addr) (xs : List V), Same H H' → H a = none → H' a = some (.lst xs) → SetsAt (also M a) H' xs ns m (m ^ ns.length) → Q (.ref a) H'
theorem ok_comb (T : Txt K mg) : FnOk P w K mg base CX0 1 T.f__law_combinations T.d__law_combinations ["_law_names", "_law_size"] sp_comb := by
  refine T.F__law_combinations.ok sc__law_combinations (fun vs H Q E h => ?_) (fun cdv A outer s H vs Q E hr h => ?_)
  · obtain ⟨_, _, _, _, rfl, _⟩ := h
    rfl
  · obtain ⟨v, ns, m, M, rfl, hR, hM, ok, hm, q⟩ := h
    obtain ⟨a, rfl, na, ha⟩ := names_at hR
    refine ⟨_, (pss_cons (ps_set (i := 2) sc__law_combinations.nd rfl (Or.inl rfl) (pe_lst pa_nil))
      (pss_cons (ps_set (i := 3) sc__law_combinations.nd rfl (Or.inl rfl) pe_int)
      (pss_cons (ps_for PassesOwn.never rfl (pi_tupK (K := K) rfl (pv 0)) (pg_name (i := 4) sc__law_combinations.nd rfl (Or.inl rfl)) (pss_one (ps_set (i := 3) sc__law_combinations.nd rfl (Or.inl rfl) (pe_op op_mul (pv 3) (pv 1)))))
      (pss_cons (ps_for PassesOwn.never rfl (pi_range1 (by rfl) T.m_range (pa_cons (pv 3) pa_nil)) (pg_name (i := 5) sc__law_combinations.nd rfl (Or.inl rfl)) (pss_cons (ps_set (i := 6) sc__law_combinations.nd rfl (Or.inl rfl) (pv 5))
      (pss_cons (ps_set (i := 7) sc__law_combinations.nd rfl (Or.inl rfl) pe_dnewK)
      (pss_cons (ps_for PassesOwn.never rfl (pi_tupK (K := K) rfl (pv 0)) (pg_name (i := 4) sc__law_combinations.nd rfl (Or.inl rfl)) (pss_cons (ps_dput (hu_of hr) (pv 7) (pv 4) (pe_op op_mod (pe_callTy call_int1 (by rfl) T.m_int (by decide +kernel) (pa_cons (pv 6) pa_nil)) (pv 1)) rfl)
      (pss_one (ps_set (i := 6) sc__law_combinations.nd rfl (Or.inl rfl) (pe_op op_fdiv (pv 6) (pv 1))))))
      (pss_one (ps_expr (pe_bmK2 (K := K) rfl PySem.F.plainAttrs_list PySem.F.slot_list_append PySem.F.type_list_append mt_append (pv 2) (pa_cons (pv 7) pa_nil))))))))
      (pss_one (ps_ret (pv 2))))))), ?_⟩
    have l3 := ok.le
    have pw : ∀ i, i ≤ 3 → m ^ i ≤ 27 := fun i hi => by
      rcases hm with rfl | rfl
      · obtain rfl | rfl | rfl | rfl : i = 0 ∨ i = 1 ∨ i = 2 ∨ i = 3 := by omega
        all_goals decide
      · obtain rfl | rfl | rfl | rfl : i = 0 ∨ i = 1 ∨ i = 2 ∨ i = 3 := by omega
        all_goals decide
    have hm0 : (0 : Int) < (m : Int) := by omega
    walk_at "g"
    refine ⟨by show 0 ≤ sizeLine; exact Nat.zero_le _, fun o ho => ?_⟩
    have so : Same H (upd H o (.lst [])) := same_new ho
    have eo : upd H o (.lst []) o = some (.lst []) := upd_same
    generalize upd H o (.lst []) = T0 at so eo
    have hao : a ≠ o := fun z => by rw [z, ho] at ha; cases ha
    walk_at "g"
    refine ⟨⟨_, SqT.of (so _ _ ha)⟩, ?_⟩
    refine for_tup (K := K) (a := a) (xs := ns.map V.str) (fun i σ H' => ∃ y4 y5 y6 y7, σ = [some (.ref a), some (.int m), some (.ref o), some (.int ((m ^ i : Nat) : Int)), y4, y5, y6, y7] ∧ H' = T0) ⟨none, none, none, none, rfl, rfl⟩ (fun i σ H' _ z => ?_) (fun i x σ H' hx z => ?_) (fun σ H' z => ?_)
    · obtain ⟨_, _, _, _, _, rfl⟩ := z
      exact SqT.of (so _ _ ha)
    · obtain ⟨y4, y5, y6, y7, rfl, rfl⟩ := z
      walk_at "g"
      have hi : i < 3 := by
        have := (List.getElem?_eq_some_iff.mp hx).1
        rw [List.length_map] at this
        omega
      have p1 := pw i (by omega)
      refine ⟨.inl ⟨by omega, by omega⟩, ?_⟩
      refine ⟨some x, y5, y6, y7, ?_, rfl⟩
      rw [Nat.pow_succ, Int.natCast_mul]
      rfl
    · obtain ⟨y4, y5, y6, y7, rfl, rfl⟩ := z
      rw [List.length_map]
      have pn := pw ns.length l3
      walk_at "g"
      refine ⟨by omega, by omega, ?_⟩
      refine for_range (lo := 0) (n := (((m ^ ns.length : Nat) : Int)).toNat) (fun k σ H' => ∃ y4 y5 y6 y7, σ = [some (.ref a), some (.int m), some (.ref o), some (.int ((m ^ ns.length : Nat) : Int)), y4, y5, y6, y7] ∧ Same H H' ∧ ∃ xs, H' o = some (.lst xs) ∧ SetsAt (also M o) H' xs ns m k) ⟨y4, y5, y6, y7, rfl, so, [], eo, rfl, fun k hk => absurd hk (Nat.not_lt_zero k)⟩ (fun k σ H' hk z => ?_) (fun σ H' z => ?_)
      · obtain ⟨z4, z5, z6, z7, rfl, sH, xs, ex, hx⟩ := z
        have hk' : k < m ^ ns.length := by omega
        have ha' := sH _ _ ha
        rw [Int.zero_add]
        walk_at "g"
        intro d hd
        have sd : Same H' (upd H' d (.dK [])) := same_new hd
        have ed : upd H' d (.dK []) d = some (.dK []) := upd_same
        have hod : o ≠ d := fun z => by rw [← z, ex] at hd; cases hd
        have hM' : Mk (also M o) H' := (hM.gr (Gr.same sH)).also (ne_none ex)
        have nMd : ¬ also M o d := hM'.out hd
        have hxd := (hx.fresh hd).sx (Sx.same sd)
        generalize upd H' d (.dK []) = H1 at sd ed hxd
        walk_at "g"
        refine ⟨⟨_, SqT.of (sd _ _ ha')⟩, ?_⟩
        refine for_tup (K := K) (a := a) (xs := ns.map V.str) (fun i σ H2 => ∃ w4, σ = [some (.ref a), some (.int m), some (.ref o), some (.int ((m ^ ns.length : Nat) : Int)), w4, some (.int k), some (.int ((k / m ^ i : Nat) : Int)), some (.ref d)] ∧ Sx (one d) H1 H2 ∧ H2 d = some (.dK (kvF (ns.take i) (rowF ns m k)))) ⟨_, by rw [Nat.pow_zero, Nat.div_one]; rfl, Sx.refl, by rw [List.take_zero]; exact ed⟩ (fun i σ H2 _ z => ?_) (fun i x σ H2 hx z => ?_) (fun σ H2 z => ?_)
        · obtain ⟨_, _, s2, _⟩ := z
          exact SqT.of (s2 _ _ (fun z => by rw [show a = d from z, hd] at ha'; cases ha') (sd _ _ ha'))
        · obtain ⟨w4, rfl, s2, e2⟩ := z
          rw [List.getElem?_map] at hx
          obtain ⟨x, hxn, rfl⟩ := Option.map_eq_some_iff.mp hx
          walk_at "g"
          refine ⟨hm0, ?_⟩
          walk_at "g"
          have ef : rowF ns m k x = ((k / m ^ i : Nat) : Int) % (m : Int) := by rw [rowF_at ok.nd hxn, Int.natCast_emod]
          refine ⟨d, _, rfl, .inl ⟨_, Sum.inr x, e2, rfl, small1000 (by unfold kvF; rw [List.length_map, List.length_take]; omega), rfl⟩, ?_⟩
          walk_at "g"
          refine ⟨⟨hm0, by omega⟩, ?_⟩
          refine ⟨some (.str x), ?_, s2.trans (Sx.put rfl), ?_⟩
          · rw [Nat.pow_succ, ← Nat.div_div_eq_div_mul, Int.natCast_ediv]
            rfl
          · rw [upd_same, kvF_put (not_in_take ok.nd hxn) _ ef, List.take_add_one, hxn]
            rfl
        · obtain ⟨w4, rfl, s2, e2⟩ := z
          rw [List.length_map, List.take_length] at e2
          have lx := hx.1
          have pn := pw ns.length l3
          have ex2 := s2 _ _ (fun z => hod z) (sd _ _ ex)
          walk_at "g"
          refine ⟨.inl ⟨rfl, _, SqL.of ex2⟩, ?_⟩
          walk_at "g"
          refine ⟨o, xs, _, rfl, rfl, ex2, small1000 (by omega), ?_⟩
          have sHd : Same H H2 := fun c u e => s2 _ _ (fun z => by have := sH _ _ e; rw [show c = d from z, hd] at this; cases this) (sd _ _ (sH _ _ e))
          have hx2 : SetsAt (also M o) H2 xs ns m k := (hxd.sx (s2.le (one_le (M := also (also M o) d) (.inr rfl)))).less also_le
          refine ⟨_, _, _, _, rfl, same_put sHd ho, _, upd_same, ?_⟩
          exact (hx2.snoc nMd e2).sx (Sx.put (.inr rfl))
      · obtain ⟨z4, z5, z6, z7, rfl, sH, xs, ex, hx⟩ := z
        walk_at "g"
        rw [show (((m ^ ns.length : Nat) : Int)).toNat = m ^ ns.length by omega] at hx
        exact q H' o xs sH ho ex hx
end
end D

namespace D
open PySem PySem.Spec PyProof.Rows L2
local macro_rules | `(tactic| walk_at "st") => `(tactic| first | exact SqT.of (by assumption) | exact Or.inl (by assumption) | exact SqT.of upd_same | fail "st")
local macro_rules | `(tactic| walk_at "ixt") => `(tactic| refine ⟨_, _, _, _, rfl, rfl, (by walk_at "st" : SqT _ _ _ _), by rfl, ?_⟩)
local macro_rules | `(tactic| walk_at "sq") => `(tactic| first | exact SqL.of (by assumption) | assumption | exact Or.inl (by assumption) | exact SqL.of upd_same | fail "sq")
local macro_rules | `(tactic| walk_at "ix") => `(tactic| refine ⟨_, _, _, _, rfl, rfl, (by walk_at "sq" : SqL _ _ _ _), by rfl, ?_⟩)
local macro_rules | `(tactic| walk_at "set") => `(tactic| refine ⟨_, _, _, _, rfl, rfl, by first | assumption | exact upd_same, by rfl, ?_⟩)
local macro_rules | `(tactic| walk_at "len") => `(tactic| refine ⟨_, _, rfl, Or.inl (by walk_at "sq" : SqL _ _ _ _), ?_⟩)
local macro_rules | `(tactic| walk_at "g") => `(tactic| repeat (first | refine ⟨_, rfl, ?_⟩ | refine ⟨_, _, rfl, rfl, ?_⟩ | refine ⟨Or.inr (by decide), ?_⟩ | refine ⟨Or.inl (by decide), ?_⟩ | refine ⟨(by decide : (0 : Int) < _), ?_⟩ | refine ⟨(⟨by decide, by decide⟩ : CDiv _ _), ?_⟩ | refine ⟨(⟨by decide, by decide, by decide⟩ : CPow _ _), ?_⟩ | refine Or.inl ⟨_, rfl, ?_⟩ | refine ⟨rfl, ?_⟩ | walk_at "ix" | walk_at "ixt" | walk_at "len" | fail "g"))
local macro_rules | `(tactic| walk_at "if") => `(tactic| refine ite2 (fun e => ?_) (fun e => ?_))
section
variable {P : Program} {w : World} {K : PySem.W.Frag} {mg : Str → Option Value} {base : Heap}
def lab (i : Int) : Str := Str.ofString "text " ++ Str.ofString (toString i)
theorem lab01 : lab 0 ≠ lab 1 := by unfold lab; decide +kernel
theorem lab_gd {i : Int} (h : i = 0 ∨ i = 1) : Gd 6 0 (.str (lab i)) := by
  rcases h with rfl | rfl
  · exact Gd.str (by unfold lab; decide +kernel) (by unfold lab; decide +kernel)
  · exact Gd.str (by unfold lab; decide +kernel) (by unfold lab; decide +kernel)
def sp_labels : Sp := fun vs H Q _ => ∃ (v : V) (d : Addr) (nd : List Str) (kvs : List (Key × V)) (f : Str → Int) (M : Ms), vs = [v, .ref d] ∧ Rp M H v (dueD nd) ∧ H d = some (.dK kvs) ∧ (∀ x ∈ nd, valV kvs (.inr x) = some (.int (f x))) ∧ (∀ x ∈ nd, f x = 0 ∨ f x = 1) ∧ nd.length ≤ 3 ∧ Mk M H ∧
  ∀ (H' : Hp) (a : Addr), Same H H' → H a = none → H' a = some (.lst ((nd.map fun x => lab (f x)).map V.str)) → Q (.ref a) H'
theorem ok_labels (T : Txt K mg) : FnOk P w K mg base CX0 3 T.f__law_labels T.d__law_labels ["_law_shape", "_law_setting"] sp_labels := by
  have G__law_value := ok_law_value (P := P) (w := w) (base := base) T 1
  refine T.F__law_labels.ok sc__law_labels (fun vs H Q E h => ?_) (fun cdv A outer s H vs Q E hr h => ?_)
  · obtain ⟨_, _, _, _, _, _, rfl, _⟩ := h
    rfl
  · obtain ⟨v, d, nd, kvs, f, M, rfl, hR, hd, hf, h01, hl, hM, q⟩ := h
    obtain ⟨a, xs, rfl, na, ha, rx⟩ := Rp.tupX hR
    obtain ⟨u1, u2, rfl, r1, r2⟩ := rx.inv2
    obtain ⟨b, ys, rfl, nb, hb, ry⟩ := Rp.tupX r2
    have ly := ry.length
    rw [List.length_map] at ly
    refine ⟨_, (pss_one (ps_ret (pe_lc (own := [("_law_part", 2)]) (g := gName 2) (tt := tYes) (by rfl) sc__law_labels.nd (pi_tupK (K := K) rfl (pe_ix (ix_tupK (K := K) rfl) (pv 0) pe_int (fun _ _ => rfl))) (blkOk_by (own := [("_law_part", 2)]) (N := ["_law_shape", "_law_setting", "_law_part"]) (sc := defScope s__law_labels) (by decide +kernel)) (fun _ _ _ _ _ => (pg_name (i := 2) sc__law_labels.nd rfl (Or.inl rfl))) (fun _ _ _ _ _ => pts_nil) (fun _ _ _ _ _ => (pe_op op_add_str pe_str (pe_callTy call_str_int (by rfl) T.m_str (by decide +kernel) (pa_cons (pe_call G__law_value (hr.mono (by omega)) (by rfl) T.g__law_value T.F__law_value.kp T.b__law_value .nil pass0 (pa_cons (pe_ix (ix_tupK (K := K) rfl) (pv 2) pe_int (fun _ _ => rfl)) (pa_cons (pv 1) pa_nil))) pa_nil))))))), ?_⟩
    walk_at "g"
    refine ⟨⟨_, SqT.of hb⟩, fun D hD => ?_⟩
    refine vl_tup (ys := (nd.map fun x => V.str (lab (f x))).map some) hD (SqT.of hb) (by rw [List.length_map, List.length_map, ly]) (by omega) (fun i x y H' C N hx hy hs hC hN => ?_) (fun H' hs e => ?_)
    · obtain ⟨dd, hdd, rd⟩ := ry.get hx
      rw [List.getElem?_map] at hdd hy
      rw [List.getElem?_map] at hy
      obtain ⟨n, hn, rfl⟩ := Option.map_eq_some_iff.mp hdd
      rw [hn] at hy
      cases hy
      obtain ⟨p, zs, rfl, np, hp, rz⟩ := Rp.tupX rd
      obtain ⟨w1, w2, rfl, q1, q2⟩ := rz.inv2
      have hn2 := List.mem_of_getElem? hn
      have h01n := h01 n hn2
      have lg : (f n).natAbs.log2 < 1920 := by rcases h01n with e | e <;> rw [e] <;> decide
      refine ⟨rfl, ?_⟩
      have hp2 := hs _ _ hp
      walk_at "g"
      refine ⟨w2, d, .get n, M, kvs, f, (· ∈ nd), rfl, q2.sx (Sx.same hs), Nat.le_refl _, hn2, hs _ _ hd, hf, ?_⟩
      refine ⟨_, rfl, lg, ?_⟩
      refine ⟨_, _, rfl, rfl, ?_, ?_⟩
      · show (Str.ofString "text ").length + (Str.ofString (toString (f n))).length ≤ sizeLine
        rcases h01n with e | e <;> rw [e] <;> exact szK (by decide +kernel)
      · exact hC _ rfl _ (Same.refl _)
    · rw [opt_all] at e
      exact q H' D hs hD (by rw [e, List.map_map]; rfl)
theorem rowF2 {ns : List Str} (nd : ns.Nodup) {k : Nat} {x : Str} (h : x ∈ ns) : rowF ns 2 k x = 0 ∨ rowF ns 2 k x = 1 := by
  obtain ⟨i, hi⟩ := List.mem_iff_getElem?.mp h
  rw [rowF_at nd hi]
  omega
theorem lab_inj {i j : Int} (hi : i = 0 ∨ i = 1) (hj : j = 0 ∨ j = 1) (h : lab i = lab j) : i = j := by
  rcases hi with rfl | rfl <;> rcases hj with rfl | rfl
  · rfl
  · exact absurd h lab01
  · exact absurd h.symm lab01
  · rfl
theorem labs_gd {nd : List Str} {f : Str → Int} (h : ∀ x ∈ nd, f x = 0 ∨ f x = 1) (hl : nd.length ≤ 3) : Gd 21 1 (.list ((nd.map fun x => lab (f x)).map PyData.str)) := by
  have := (GdAll.all (B := 6) (n := 0) (ds := (nd.map fun x => lab (f x)).map PyData.str) fun d hd => by
    obtain ⟨y, hy, rfl⟩ := List.mem_map.mp hd
    obtain ⟨x, hx, rfl⟩ := List.mem_map.mp hy
    exact lab_gd (h x hx)).lst
  exact this.le (by rw [List.length_map, List.length_map]; omega) (Nat.le_refl _)
theorem strL_eqv (a b : List Str) : PyData.eqv (.list (a.map PyData.str)) (.list (b.map PyData.str)) = decide (a = b) := by
  rw [PyData.eqv]
  exact strsAll_eqv a b
theorem strL_dp {H : Hp} {p : Addr} {a : List Str} (h : H p = some (.lst (a.map V.str))) : Dp K H (.ref p) (.list (a.map PyData.str)) := .lst (.inl (.inl h)) (RpAll.dp (M := fun _ => False) _ _ (RpAll.strs _))
theorem needed_take {ns nd : List Str} {i : Nat} {x : Str} (h : ns[i]? = some x) : neededIn (ns.take (i + 1)) nd = neededIn (ns.take i) nd ++ if decide (x ∈ nd) = true then [x] else [] := by
  unfold neededIn
  rw [List.take_add_one, h, Option.toList_some, List.filter_append, List.filter_cons]
  rfl
theorem needed_len {ns nd : List Str} (h : ns.length ≤ 3) : (neededIn ns nd).length ≤ 3 := Nat.le_trans (List.length_filter_le _ _) h
def sp_shown : Sp := fun vs H Q _ => ∃ (v1 v2 : V) (ns nd : List Str) (M : Ms), vs = [v1, v2] ∧ Rp M H v1 (dueD (neededIn ns nd)) ∧ Rp M H v2 (namesT ns) ∧ Mk M H ∧ NmOk ns ∧
  ∀ (H' : Hp) (a : Addr), Same H H' → H a = none → H' a = some (.lst ((neededIn ns nd).map V.str)) → Q (.ref a) H'
theorem ok_shown (T : Txt K mg) : FnOk P w K mg base CX0 4 T.f__law_shown_needs T.d__law_shown_needs ["_law_shape", "_law_names"] sp_shown := by
  have G__law_combinations := ok_comb (P := P) (w := w) (base := base) T
  have G__law_labels := ok_labels (P := P) (w := w) (base := base) T
  refine T.F__law_shown_needs.ok sc__law_shown_needs (fun vs H Q E h => ?_) (fun cdv A outer s H vs Q E hr h => ?_)
  · obtain ⟨_, _, _, _, _, rfl, _⟩ := h
    rfl
  · obtain ⟨v1, v2, ns, nd, M, rfl, h1, h2, hM, ok, q⟩ := h
    obtain ⟨a, rfl, na, ha⟩ := names_at h2
    refine ⟨_, (pss_cons (ps_set (i := 2) sc__law_shown_needs.nd rfl (Or.inl rfl) (pe_lst pa_nil))
      (pss_cons (ps_for PassesOwn.never rfl (pi_tupK (K := K) rfl (pv 1)) (pg_name (i := 3) sc__law_shown_needs.nd rfl (Or.inl rfl)) (pss_one (ps_for PassesOwn.never rfl (pi_listK (K := K) rfl (pe_call G__law_combinations (hr.mono (by omega)) (by rfl) T.g__law_combinations T.F__law_combinations.kp T.b__law_combinations .nil pass0 (pa_cons (pv 1) (pa_cons pe_int pa_nil)))) (pg_name (i := 4) sc__law_shown_needs.nd rfl (Or.inl rfl)) (pss_cons (ps_set (i := 5) sc__law_shown_needs.nd rfl (Or.inl rfl) (pe_callTy call_dictD (by rfl) T.m_dict (by decide +kernel) (pa_cons (pv 4) pa_nil)))
      (pss_cons (ps_dput (hu_of hr) (pv 5) (pv 3) (pe_op op_sub pe_int (pe_dget (hu_of hr) (pv 4) (pv 3) (fun _ _ => rfl))) rfl)
      (pss_one (ps_if (PW.pt (pw_and (pt_cmpR (op_notIn_seqK (K := K) rfl) (pv 3) (pv 2) (by rfl)) (pw_and1 (pt_cmpR (op_neDK (K := K) rfl hr.units) (pe_call G__law_labels (hr.mono (by omega)) (by rfl) T.g__law_labels T.F__law_labels.kp T.b__law_labels .nil pass0 (pa_cons (pv 0) (pa_cons (pv 4) pa_nil))) (pe_call G__law_labels (hr.mono (by omega)) (by rfl) T.g__law_labels T.F__law_labels.kp T.b__law_labels .nil pass0 (pa_cons (pv 0) (pa_cons (pv 5) pa_nil))) (nomark _))))) (pss_one (ps_expr (pe_bmK2 (K := K) rfl PySem.F.plainAttrs_list PySem.F.slot_list_append PySem.F.type_list_append mt_append (pv 2) (pa_cons (pv 3) pa_nil)))) pss_nil)))))))
      (pss_one (ps_ret (pv 2))))), ?_⟩
    walk_at "g"
    refine ⟨by show 0 ≤ sizeLine; exact Nat.zero_le _, fun o ho => ?_⟩
    have so : Same H (upd H o (.lst [])) := same_new ho
    have eo : upd H o (.lst []) o = some (.lst []) := upd_same
    generalize upd H o (.lst []) = T0 at so eo
    have hao : a ≠ o := fun z => by rw [z, ho] at ha; cases ha
    walk_at "g"
    refine ⟨⟨_, SqT.of (so _ _ ha)⟩, ?_⟩
    refine for_tup (K := K) (a := a) (xs := ns.map V.str) (fun i σ H' => ∃ y3 y4 y5, σ = [some v1, some (.ref a), some (.ref o), y3, y4, y5] ∧ Same H H' ∧ H' o = some (.lst ((neededIn (ns.take i) nd).map V.str))) ⟨none, none, none, rfl, so, eo⟩ (fun i σ H' _ z => ?_) (fun i x σ H' hx z => ?_) (fun σ H' z => ?_)
    · obtain ⟨_, _, _, _, sH, _⟩ := z
      exact SqT.of (sH _ _ ha)
    · obtain ⟨y3, y4, y5, rfl, sH, e0⟩ := z
      rw [List.getElem?_map] at hx
      obtain ⟨x, hxn, rfl⟩ := Option.map_eq_some_iff.mp hx
      have hM' := hM.gr (Gr.same sH)
      walk_at "g"
      refine ⟨_, ns, 2, M, rfl, h2.sx (Sx.same sH), hM', ok, .inl rfl, fun H1 l xs s1 nl el hs1 => ?_⟩
      walk_at "g"
      refine ⟨⟨_, SqL.of el⟩, ?_⟩
      have sH1 := sH.trans s1
      have l3 := ok.le
      have xns : x ∈ ns := List.mem_of_getElem? hxn
      have eo1 := s1 _ _ e0
      have lxs := hs1.1
      have n0 : x ∉ neededIn (ns.take i) nd := fun z => not_in_take ok.nd hxn (List.mem_filter.mp z).1
      have p1 : 1 ≤ 2 ^ ns.length := Nat.pow_pos (by decide)
      let outJ : Nat → List Str := fun j => neededIn (ns.take i) nd ++ if decide (x ∈ nd) = true ∧ 0 < j then [x] else []
      have outL : ∀ j, (outJ j).length ≤ 4 := fun j => by
        have := needed_len (ns := ns.take i) (nd := nd) (by rw [List.length_take]; omega)
        show (neededIn (ns.take i) nd ++ if decide (x ∈ nd) = true ∧ 0 < j then [x] else []).length ≤ 4
        rw [List.length_append]
        split
        · show _ + 1 ≤ 4; omega
        · show _ + 0 ≤ 4; omega
      refine for_list (K := K) (a := l) (xs := xs) (fun j σ H' => ∃ y4 y5, σ = [some v1, some (.ref a), some (.ref o), some (.str x), y4, y5] ∧ Same H H' ∧ Sx (one o) H1 H' ∧ H' o = some (.lst ((outJ j).map V.str))) ⟨y4, y5, rfl, sH1, Sx.refl, by
          show H1 o = some (.lst ((neededIn (ns.take i) nd ++ if decide (x ∈ nd) = true ∧ 0 < 0 then [x] else []).map V.str))
          rw [if_neg (fun z => absurd z.2 (Nat.lt_irrefl 0)), List.append_nil]
          exact eo1⟩ (fun j σ H' _ z => ?_) (fun j y σ H' hy z => ?_) (fun σ H' z => ?_)
      · obtain ⟨_, _, _, _, sx, _⟩ := z
        refine SqL.of (sx _ _ (fun z => ?_) el)
        rw [show l = o from z] at nl
        rw [nl] at e0
        cases e0
      · obtain ⟨y4, y5, rfl, sHj, sx, ej⟩ := z
        obtain ⟨d, ed, nMd, hd⟩ := hs1.2 j (by rw [← lxs]; exact (List.getElem?_eq_some_iff.mp hy).1)
        rw [hy] at ed
        cases ed
        have hdo : d ≠ o := fun z => by rw [z, eo1] at hd; cases hd
        have hdj := sx _ _ hdo hd
        walk_at "g"
        refine ⟨d, _, rfl, .inl hdj, fun D hD => ?_⟩
        have sD : Same H' (upd H' D (.dK (kvF ns (rowF ns 2 j)))) := same_new hD
        have eD : upd H' D (.dK (kvF ns (rowF ns 2 j))) D = some (.dK (kvF ns (rowF ns 2 j))) := upd_same
        generalize upd H' D (.dK (kvF ns (rowF ns 2 j))) = H2 at sD eD
        have hoD : o ≠ D := fun z => by rw [← z, ej] at hD; cases hD
        have hdD : d ≠ D := fun z => by rw [← z, hdj] at hD; cases hD
        walk_at "g"
        refine ⟨d, _, rfl, DGet.k (k := Sum.inr x) (sD _ _ hdj) |> fun z => by rw [kvF_get xns] at z; exact z, ?_⟩
        walk_at "g"
        refine ⟨D, _, rfl, .inl ⟨_, .inr x, eD, rfl, small1000 (by unfold kvF; rw [List.length_map]; omega), rfl⟩, ?_⟩
        generalize hkv : putK (kvF ns (rowF ns 2 j)) (Sum.inr x) (V.int (1 - rowF ns 2 j x)) = kv2
        let f2 : Str → Int := fun y => if y = x then 1 - rowF ns 2 j x else rowF ns 2 j y
        have hg2 : ∀ y ∈ neededIn ns nd, valV kv2 (.inr y) = some (.int (f2 y)) := fun y hy => by
          rw [← hkv, valV_put]
          by_cases c : y = x
          · rw [if_pos (by rw [c])]
            show _ = some (V.int (if y = x then _ else _))
            rw [if_pos c]
          · rw [if_neg (fun z => c (Sum.inr.inj z)), kvF_get (List.mem_filter.mp hy).1]
            show _ = some (V.int (if y = x then _ else _))
            rw [if_neg c]
        have f01 : ∀ y ∈ neededIn ns nd, rowF ns 2 j y = 0 ∨ rowF ns 2 j y = 1 := fun y hy => rowF2 ok.nd (List.mem_filter.mp hy).1
        have fx01 := rowF2 ok.nd (k := j) xns
        have g01 : ∀ y ∈ neededIn ns nd, f2 y = 0 ∨ f2 y = 1 := fun y hy => by
          show (if y = x then _ else _) = 0 ∨ (if y = x then _ else _) = 1
          by_cases c : y = x
          · rw [if_pos c]; omega
          · rw [if_neg c]; exact f01 y hy
        have sU : Sx (one D) H2 (upd H2 D (.dK kv2)) := Sx.put rfl
        have eU : upd H2 D (.dK kv2) D = some (.dK kv2) := upd_same
        have sHU : Same H' (upd H2 D (.dK kv2)) := same_put sD hD
        generalize upd H2 D (.dK kv2) = U at sU eU sHU
        have eoU := sHU _ _ ej
        have hdU := sHU _ _ hdj
        have s0U := sHj.trans sHU
        have fin : ∀ H3, Same U H3 → outJ (j + 1) = outJ j → Same H H3 ∧ Sx (one o) H1 H3 ∧ H3 o = some (.lst ((outJ (j + 1)).map V.str)) := fun H3 s3 e => by
          rw [e]
          exact ⟨s0U.trans s3, sx.trans (Sx.same (sHU.trans s3)), s3 _ _ eoU⟩
        have nlen := needed_len (nd := nd) l3
        walk_at "g"
        refine ⟨flat_strs _, ?_⟩
        rw [if_pos rfl, in_strs]
        by_cases cx : x ∈ nd
        · have hxn2 : x ∈ neededIn ns nd := List.mem_filter.mpr ⟨xns, decide_eq_true cx⟩
          by_cases cj : 0 < j
          · have ein : x ∈ outJ j := by
              show x ∈ neededIn (ns.take i) nd ++ if decide (x ∈ nd) = true ∧ 0 < j then [x] else []
              rw [if_pos ⟨decide_eq_true cx, cj⟩]
              simp
            rw [decide_eq_true ein]
            walk_at "g"
            refine ⟨_, _, rfl, fin U (Same.refl _) ?_⟩
            show neededIn (ns.take i) nd ++ (if decide (x ∈ nd) = true ∧ 0 < j + 1 then [x] else []) = neededIn (ns.take i) nd ++ if decide (x ∈ nd) = true ∧ 0 < j then [x] else []
            rw [if_pos ⟨decide_eq_true cx, Nat.succ_pos j⟩, if_pos ⟨decide_eq_true cx, cj⟩]
          · have ej0 : outJ j = neededIn (ns.take i) nd := by
              show neededIn (ns.take i) nd ++ (if decide (x ∈ nd) = true ∧ 0 < j then [x] else []) = _
              rw [if_neg (fun z => cj z.2), List.append_nil]
            rw [ej0, decide_eq_false n0]
            walk_at "g"
            refine ⟨_, d, _, _, rowF ns 2 j, M, rfl, h1.sx (Sx.same s0U), hdU, fun y hy => kvF_get (List.mem_filter.mp hy).1, f01, nlen, hM.gr (Gr.same s0U), fun H3 q1 s3 nq1 e3 => ?_⟩
            walk_at "g"
            refine ⟨_, D, _, kv2, f2, M, rfl, h1.sx (Sx.same (s0U.trans s3)), s3 _ _ eU, hg2, g01, nlen, hM.gr (Gr.same (s0U.trans s3)), fun H4 q2 s4 nq2 e4 => ?_⟩
            refine ⟨_, _, strL_dp (s4 _ _ e3), strL_dp e4, (labs_gd f01 nlen).shaped (by decide), (labs_gd g01 nlen).shaped (by decide), ?_⟩
            rw [strL_eqv]
            have s34 := s3.trans s4
            have dif : (neededIn ns nd).map (fun x => lab (rowF ns 2 j x)) ≠ (neededIn ns nd).map fun x => lab (f2 x) := fun e => by
              have := List.map_inj_left.mp e x hxn2
              have := lab_inj fx01 (g01 x hxn2) this
              have e2 : f2 x = 1 - rowF ns 2 j x := if_pos rfl
              omega
            rw [decide_eq_false dif]
            have eo4 := s34 _ _ eoU
            walk_at "g"
            refine ⟨.inl ⟨rfl, _, SqL.of eo4⟩, ?_⟩
            walk_at "g"
            refine ⟨o, _, _, rfl, rfl, eo4, small1000 (by rw [List.length_map]; have := outL j; omega), ?_⟩
            refine ⟨_, _, rfl, same_put (s0U.trans s34) ho, (sx.trans (Sx.same (sHU.trans s34))).trans (Sx.put rfl), ?_⟩
            rw [upd_same, ej0]
            have : outJ (j + 1) = neededIn (ns.take i) nd ++ [x] := by
              show neededIn (ns.take i) nd ++ (if decide (x ∈ nd) = true ∧ 0 < j + 1 then [x] else []) = _
              rw [if_pos ⟨decide_eq_true cx, Nat.succ_pos j⟩]
            rw [this, List.map_append]
            rfl
        · have ej0 : ∀ j, outJ j = neededIn (ns.take i) nd := fun j => by
            show neededIn (ns.take i) nd ++ (if decide (x ∈ nd) = true ∧ 0 < j then [x] else []) = _
            rw [if_neg (fun z => cx (of_decide_eq_true z.1)), List.append_nil]
          rw [ej0 j, decide_eq_false n0]
          walk_at "g"
          refine ⟨_, d, _, _, rowF ns 2 j, M, rfl, h1.sx (Sx.same s0U), hdU, fun y hy => kvF_get (List.mem_filter.mp hy).1, f01, nlen, hM.gr (Gr.same s0U), fun H3 q1 s3 nq1 e3 => ?_⟩
          walk_at "g"
          refine ⟨_, D, _, kv2, f2, M, rfl, h1.sx (Sx.same (s0U.trans s3)), s3 _ _ eU, hg2, g01, nlen, hM.gr (Gr.same (s0U.trans s3)), fun H4 q2 s4 nq2 e4 => ?_⟩
          refine ⟨_, _, strL_dp (s4 _ _ e3), strL_dp e4, (labs_gd f01 nlen).shaped (by decide), (labs_gd g01 nlen).shaped (by decide), ?_⟩
          rw [strL_eqv]
          have s34 := s3.trans s4
          have same : (neededIn ns nd).map (fun x => lab (rowF ns 2 j x)) = (neededIn ns nd).map fun x => lab (f2 x) := List.map_congr_left fun y hy => by
            have : y ≠ x := fun z => cx (by rw [← z]; exact of_decide_eq_true (List.mem_filter.mp hy).2)
            rw [show f2 y = rowF ns 2 j y from if_neg this]
          rw [decide_eq_true same]
          walk_at "g"
          exact ⟨_, _, rfl, fin H4 s34 ((ej0 _).trans (ej0 _).symm)⟩
      · obtain ⟨y4, y5, rfl, sHj, sx, ej⟩ := z
        rw [lxs] at ej
        refine ⟨_, _, _, rfl, sHj, ?_⟩
        rw [needed_take hxn]
        have : outJ (2 ^ ns.length) = neededIn (ns.take i) nd ++ if decide (x ∈ nd) = true then [x] else [] := by
          show (neededIn (ns.take i) nd ++ if decide (x ∈ nd) = true ∧ 0 < 2 ^ ns.length then [x] else []) = _
          congr 1
          by_cases c : decide (x ∈ nd) = true
          · rw [if_pos ⟨c, p1⟩, if_pos c]
          · rw [if_neg (fun z => c z.1), if_neg c]
        rw [← this]
        exact ej
    · obtain ⟨y3, y4, y5, rfl, sH, e0⟩ := z
      rw [List.length_map, List.take_length] at e0
      walk_at "g"
      exact q H' o sH ho e0
end
end D

namespace D
open PySem PySem.Spec PyProof.Rows L2
local macro_rules | `(tactic| walk_at "st") => `(tactic| first | exact SqT.of (by assumption) | exact Or.inl (by assumption) | exact SqT.of upd_same | fail "st")
local macro_rules | `(tactic| walk_at "ixt") => `(tactic| refine ⟨_, _, _, _, rfl, rfl, (by walk_at "st" : SqT _ _ _ _), by rfl, ?_⟩)
local macro_rules | `(tactic| walk_at "sq") => `(tactic| first | exact SqL.of (by assumption) | assumption | exact Or.inl (by assumption) | exact SqL.of upd_same | fail "sq")
local macro_rules | `(tactic| walk_at "ix") => `(tactic| refine ⟨_, _, _, _, rfl, rfl, (by walk_at "sq" : SqL _ _ _ _), by rfl, ?_⟩)
local macro_rules | `(tactic| walk_at "set") => `(tactic| refine ⟨_, _, _, _, rfl, rfl, by first | assumption | exact upd_same, by rfl, ?_⟩)
local macro_rules | `(tactic| walk_at "len") => `(tactic| refine ⟨_, _, rfl, Or.inl (by walk_at "sq" : SqL _ _ _ _), ?_⟩)
local macro_rules | `(tactic| walk_at "g") => `(tactic| repeat (first | refine ⟨_, rfl, ?_⟩ | refine ⟨_, _, rfl, rfl, ?_⟩ | refine ⟨Or.inr (by decide), ?_⟩ | refine ⟨Or.inl (by decide), ?_⟩ | refine ⟨(by decide : (0 : Int) < _), ?_⟩ | refine ⟨(⟨by decide, by decide⟩ : CDiv _ _), ?_⟩ | refine ⟨(⟨by decide, by decide, by decide⟩ : CPow _ _), ?_⟩ | refine Or.inl ⟨_, rfl, ?_⟩ | refine ⟨rfl, ?_⟩ | walk_at "ix" | walk_at "ixt" | walk_at "len" | fail "g"))
local macro_rules | `(tactic| walk_at "if") => `(tactic| refine ite2 (fun e => ?_) (fun e => ?_))
section
variable {P : Program} {w : World} {K : PySem.W.Frag} {mg : Str → Option Value} {base : Heap}
def FV (f : Fm) (ns : List Str) (u : List Nat) : Int := f.val fun x => (Sc.env ns u x : Int)
theorem setsL_gd {ks : List (List Str)} (h : ∀ s ∈ ks, (∀ x ∈ s, isNm x) ∧ s.length ≤ 3) : Gd (ks.length * 28) 2 (setsL ks) := by
  have := (GdAll.all (B := 27) (n := 1) (ds := ks.map namesT) fun d hd => by
    obtain ⟨x, hx, rfl⟩ := List.mem_map.mp hd
    exact names_gd (h x hx).1 (h x hx).2).lst
  exact this.le (by rw [List.length_map]; omega) (Nat.le_refl _)
def sp_chg : Sp := fun vs H Q _ => ∃ (v1 v2 : V) (f : Fm) (ns : List Str) (M : Ms), vs = [v1, v2] ∧ Rp M H v1 f.enc ∧ f.dep ≤ 3 ∧ f.ok (· ∈ ns) ∧ Rp M H v2 (namesT ns) ∧ Mk M H ∧ NmOk ns ∧
  ∀ (H' : Hp) (a : Addr) (cs : List (List Str)), Same H H' → H a = none → Ld M H' a (cs.map namesT) → Sc.Chg (FV f ns) ns cs → cs.length ≤ 1000 → Q (.ref a) H'
theorem ok_chg (T : Txt K mg) : FnOk P w K mg base CX0 5 T.f__law_changing T.d__law_changing ["_law_form_here", "_law_names"] sp_chg := by
  have G__law_combinations := ok_comb (P := P) (w := w) (base := base) T
  have G__law_value := ok_law_value (P := P) (w := w) (base := base) T 3
  refine T.F__law_changing.ok sc__law_changing (fun vs H Q E h => ?_) (fun cdv A outer s H vs Q E hr h => ?_)
  · obtain ⟨_, _, _, _, _, rfl, _⟩ := h
    rfl
  · obtain ⟨v1, v2, f, ns, M, rfl, h1, fd, fo, h2, hM, ok, q⟩ := h
    obtain ⟨a, rfl, na, ha⟩ := names_at h2
    refine ⟨_, (pss_cons (ps_set (i := 2) sc__law_changing.nd rfl (Or.inr rfl) (pe_call G__law_combinations (hr.mono (by omega)) (by rfl) T.g__law_combinations T.F__law_combinations.kp T.b__law_combinations .nil pass0 (pa_cons (pv 1) (pa_cons pe_int pa_nil))))
      (pss_cons (ps_setLc (i := 4) (own := [("_law_row", 3)]) (g := gName 3) (tt := tYes) (by rfl) sc__law_changing.nd rfl rfl (sw_true rfl rfl rfl (by decide +kernel)) (pi_listK (K := K) rfl (pv 2)) (blkOk_by (own := [("_law_row", 3)]) (N := ["_law_form_here", "_law_names", "_law_rows", "_law_row", "_law_worths", "_law_out", "_law_at", "_law_further", "_law_changed", "_law_one"]) (sc := defScope s__law_changing) (by decide +kernel)) (fun _ _ _ _ _ => (pg_name (i := 3) sc__law_changing.nd rfl (Or.inl rfl))) (fun _ _ _ _ _ => pts_nil) (fun _ _ _ _ _ => (pe_call G__law_value (hr.mono (by omega)) (by rfl) T.g__law_value T.F__law_value.kp T.b__law_value .nil pass0 (pa_cons (pv 0) (pa_cons (pv 3) pa_nil)))))
      (pss_cons (ps_set (i := 5) sc__law_changing.nd rfl (Or.inl rfl) (pe_lst pa_nil))
      (pss_cons (ps_for PassesOwn.never rfl (pi_enumK (K := K) rfl (by rfl) T.m_enumerate (pa_cons (pv 2) pa_nil)) (pg_tupK (K := K) rfl rfl (pgs_cons (pg_name (i := 6) sc__law_changing.nd rfl (Or.inl rfl)) (pgs_cons (pg_name (i := 3) sc__law_changing.nd rfl (Or.inr rfl)) pgs_nil))) (pss_one (ps_for PassesOwn.never rfl (pi_range2 (by rfl) T.m_range (pa_cons (pe_op op_add (pv 6) pe_int) (pa_cons (pe_callB (call_lenK (K := K) rfl) (by rfl) T.m_len PySem.boot_len (pa_cons (pv 2) pa_nil)) pa_nil))) (pg_name (i := 7) sc__law_changing.nd rfl (Or.inr rfl)) (pss_one (ps_if (pt_cmpR op_ne (pe_ix (ix_listK (K := K) rfl) (pv 4) (pv 6) (fun _ _ => rfl)) (pe_ix (ix_listK (K := K) rfl) (pv 4) (pv 7) (fun _ _ => rfl)) (nomark _)) (pss_cons (ps_set (i := 8) sc__law_changing.nd rfl (Or.inl rfl) (pe_callTy (call_tupleK (K := K) rfl) (by rfl) T.m_tuple (by decide +kernel) (pa_cons (pe_lc (own := [("_law_one", 9)]) (g := gName 9)  (by rfl) sc__law_changing.nd (pi_tupK (K := K) rfl (pv 1)) (blkOk_by (own := [("_law_one", 9)]) (N := ["_law_form_here", "_law_names", "_law_rows", "_law_row", "_law_worths", "_law_out", "_law_at", "_law_further", "_law_changed", "_law_one"]) (sc := defScope s__law_changing) (by decide +kernel)) (fun _ _ _ _ _ => (pg_name (i := 9) sc__law_changing.nd rfl (Or.inl rfl))) (fun _ _ _ _ _ => (pts_one (pt_cmpR op_ne (pe_dget (hu_of hr) (pv 3) (pv 9) (fun _ _ => rfl)) (pe_dget (hu_of hr) (pe_ix (ix_listK (K := K) rfl) (pv 2) (pv 7) (fun _ _ => rfl)) (pv 9) (fun _ _ => rfl)) (nomark _)))) (fun _ _ _ _ _ => (pv 9))) pa_nil)))
      (pss_one (ps_if (pt_cmpR (op_notInDK (K := K) rfl (hu65 hr)) (pv 8) (pv 5) (by rfl)) (pss_one (ps_expr (pe_bmK2 (K := K) rfl PySem.F.plainAttrs_list PySem.F.slot_list_append PySem.F.type_list_append mt_append (pv 5) (pa_cons (pv 8) pa_nil)))) pss_nil))) pss_nil)))))
      (pss_one (ps_ret (pv 5))))))), ?_⟩
    walk_at "g"
    refine ⟨_, ns, 3, M, rfl, h2, hM, ok, .inr rfl, fun H1 l xs s1 nl el hs1 => ?_⟩
    have lxs := hs1.1
    have l3 := ok.le
    have pn : 3 ^ ns.length ≤ 27 := Nat.pow_le_pow_right (by decide) l3
    walk_at "g"
    refine ⟨⟨_, SqL.of el⟩, fun D hD => ?_⟩
    let F := FV f ns
    let dg : Nat → List Nat := Sc.digs 3 ns.length
    refine vl_list (ys := ((List.range (3 ^ ns.length)).map fun k => V.int (F (dg k))).map some) hD (SqL.of el) (by rw [List.length_map, List.length_map, List.length_range, lxs]) (by omega) (fun i x y H' C N hx hy hs hC hN => ?_) (fun H2 s2 eD => ?_)
    · have hi : i < 3 ^ ns.length := by rw [← lxs]; exact (List.getElem?_eq_some_iff.mp hx).1
      obtain ⟨d, ed, nMd, hd⟩ := hs1.2 i hi
      rw [hx] at ed
      cases ed
      rw [List.getElem?_map, List.getElem?_map, List.getElem?_range hi] at hy
      cases hy
      have sH := s1.trans hs
      refine ⟨rfl, ?_⟩
      walk_at "g"
      exact ⟨_, d, f, M, _, rowF ns 3 i, (· ∈ ns), rfl, h1.sx (Sx.same sH), fd, fo, hs _ _ hd, fun x hx => kvF_get hx, hC _ rfl _ (Same.refl _)⟩
    rw [opt_all] at eD
    walk_at "g"
    refine ⟨by show 0 ≤ sizeLine; exact Nat.zero_le _, fun o ho => ?_⟩
    have s12 := s1.trans s2
    have ho0 : H o = none := s12.free ho
    have so : Same H2 (upd H2 o (.lst [])) := same_new ho
    have eo : upd H2 o (.lst []) o = some (.lst []) := upd_same
    generalize upd H2 o (.lst []) = T0 at so eo
    have el0 := so _ _ (s2 _ _ el)
    have eD0 := so _ _ eD
    have hs0 : SetsAt (also M l) T0 xs ns 3 (3 ^ ns.length) := hs1.sx (Sx.same (s2.trans so))
    have ha0 := so _ _ (s12 _ _ ha)
    have no : ∀ {c : Addr} {u : HO}, H2 c = some u → c ≠ o := fun e z => by rw [z, ho] at e; cases e
    have hlo := no (s2 _ _ el)
    have hDo := no eD
    have hao := no (s12 _ _ ha)
    have sT := s12.trans so
    clear hs1 el eD
    generalize hws : (List.range (3 ^ ns.length)).map (fun k => V.int (F (dg k))) = ws at eD0
    have wsAt : ∀ k, k < 3 ^ ns.length → ws[k]? = some (.int (F (dg k))) := fun k hk => by rw [← hws, List.getElem?_map, List.getElem?_range hk]; rfl
    have dAt : ∀ {H' : Hp}, Sx (one o) T0 H' → ∀ k, k < 3 ^ ns.length → ∃ d, xs[k]? = some (.ref d) ∧ H' d = some (.dK (kvF ns (rowF ns 3 k))) := fun {H'} sx k hk => by
      obtain ⟨d, ed, _, hd⟩ := hs0.2 k hk
      exact ⟨d, ed, sx _ _ (fun z => by rw [show d = o from z, eo] at hd; cases hd) hd⟩
    let P1 : List (List Str) → Prop := fun cs => ∀ s ∈ cs, ∃ i j, F (dg i) ≠ F (dg j) ∧ s = Sc.diffN ns (dg i) (dg j)
    let P2 : Nat → List (List Str) → Prop := fun i cs => ∀ i' j', i' < i → i' < j' → j' < 3 ^ ns.length → F (dg i') ≠ F (dg j') → Sc.diffN ns (dg i') (dg j') ∈ cs
    walk_at "g"
    refine ⟨l, _, rfl, SqL.of el0, ?_⟩
    refine for_enum (K := K) (a := l) (xs := xs) (fun i σ H' => (∃ y3 y6 y7 y8 y9, σ = [some v1, some (.ref a), some (.ref l), y3, some (.ref D), some (.ref o), y6, y7, y8, y9]) ∧ Same H H' ∧ Sx (one o) T0 H' ∧ ∃ acc cs, H' o = some (.lst acc) ∧ RpAll (also M o) H' acc (cs.map namesT) ∧ P1 cs ∧ cs.length ≤ i * 27 ∧ P2 i cs)
      ⟨⟨none, none, none, none, none, rfl⟩, sT, Sx.refl, [], [], eo, .nil, (fun _ h => nomatch h), Nat.zero_le _, (fun _ _ h => absurd h (Nat.not_lt_zero _))⟩ (fun i σ H' _ z => ?_) (fun i x Te σ H' hx hTe z => ?_) (fun σ H' z => ?_)
    · obtain ⟨_, _, sx, _⟩ := z
      exact SqL.of (sx _ _ hlo el0)
    · obtain ⟨⟨y3, y6, y7, y8, y9, rfl⟩, sH, sx, acc, cs, eA, rA, p1, lc, p2⟩ := z
      have hi : i < 3 ^ ns.length := by rw [← lxs]; exact (List.getElem?_eq_some_iff.mp hx).1
      have sTe : Same H' (upd H' Te (.tup [.int (i : Nat), x])) := same_new hTe
      have eTe : upd H' Te (.tup [.int (i : Nat), x]) Te = some (.tup [.int (i : Nat), x]) := upd_same
      generalize upd H' Te (.tup [.int (i : Nat), x]) = H3 at sTe eTe
      have sH3 := sH.trans sTe
      have sx3 := sx.trans (Sx.same sTe)
      have eA3 := sTe _ _ eA
      have rA3 := rA.sx (Sx.same sTe)
      refine ⟨Te, [.int (i : Nat), x], rfl, SqT.of eTe, rfl, _, _, rfl, _, _, rfl, rfl, ?_⟩
      have el3 := sx3 _ _ hlo el0
      obtain ⟨di, edi, _⟩ := dAt sx i hi
      rw [hx] at edi
      cases edi
      have nsd : ∀ s, (∃ u v, s = Sc.diffN ns u v) → (∀ x ∈ s, isNm x) ∧ s.length ≤ 3 := fun s h => by
        obtain ⟨u, v, rfl⟩ := h
        exact ⟨fun x hx => ok.nm x (List.mem_filter.mp hx).1, Nat.le_trans (List.length_filter_le _ _) l3⟩
      walk_at "g"
      refine ⟨_, _, rfl, ⟨by omega, by omega, by omega, by omega⟩, ?_⟩
      rw [lxs]
      refine for_range (lo := (i : Int) + 1) (n := (((3 ^ ns.length : Nat) : Int) - ((i : Int) + 1)).toNat) (fun t σ H' => (∃ y7 y8 y9, σ = [some v1, some (.ref a), some (.ref l), some (.ref di), some (.ref D), some (.ref o), some (.int i), y7, y8, y9]) ∧ Same H H' ∧ Sx (one o) T0 H' ∧ ∃ acc cs, H' o = some (.lst acc) ∧ RpAll (also M o) H' acc (cs.map namesT) ∧ P1 cs ∧ cs.length ≤ i * 27 + t ∧ P2 i cs ∧ ∀ j', i < j' → j' < i + 1 + t → F (dg i) ≠ F (dg j') → Sc.diffN ns (dg i) (dg j') ∈ cs)
        ⟨⟨_, _, _, rfl⟩, sH3, sx3, acc, cs, eA3, rA3, p1, lc, p2, fun j' h1 h2 => absurd h1 (by omega)⟩ (fun t σ H4 ht z => ?_) (fun σ H4 z => ?_)
      · obtain ⟨⟨y7, y8, y9, rfl⟩, sH4, sx4, acc, cs, eA, rA, p1, lc, p2, p3⟩ := z
        have hj : i + 1 + t < 3 ^ ns.length := by omega
        rw [show ((i : Int) + 1 + (t : Nat)) = ((i + 1 + t : Nat) : Int) by omega]
        generalize hjt : i + 1 + t = j at hj p3
        have hij : i < j := by omega
        have eD4 := sx4 _ _ hDo eD0
        have el4 := sx4 _ _ hlo el0
        obtain ⟨dj, edj, hdj⟩ := dAt sx4 j hj
        obtain ⟨di2, edi2, hdi⟩ := dAt sx4 i hi
        rw [hx] at edi2
        cases edi2
        have ha4 := sx4 _ _ hao ha0
        walk_at "g"
        refine ⟨_, _, _, _, rfl, rfl, SqL.of eD4, atI_nat (wsAt i hi), ?_⟩
        walk_at "g"
        refine ⟨_, _, _, _, rfl, rfl, SqL.of eD4, atI_nat (wsAt j hj), ?_⟩
        have done : F (dg i) = F (dg j) → ∀ j', i < j' → j' < i + 1 + (t + 1) → F (dg i) ≠ F (dg j') → Sc.diffN ns (dg i) (dg j') ∈ cs := fun e j' h1 h2 h3 => by
          by_cases c : j' = j
          · rw [c] at h3; exact absurd e h3
          · exact p3 j' h1 (by omega) h3
        walk_at "g"
        by_cases cF : F (dg i) = F (dg j)
        · rw [decide_eq_true (show V.int (F (dg i)) = V.int (F (dg j)) by rw [cF])]
          walk_at "g"
          exact ⟨⟨_, _, _, rfl⟩, sH4, sx4, acc, cs, eA, rA, p1, by omega, p2, done cF⟩
        · rw [decide_eq_false (show ¬ V.int (F (dg i)) = V.int (F (dg j)) from fun z => cF (V.int.inj z))]
          walk_at "g"
          refine ⟨⟨_, SqT.of ha4⟩, fun D2 hD2 => ?_⟩
          refine vl_tup (ys := ns.map fun x => if decide (Sc.env ns (dg i) x ≠ Sc.env ns (dg j) x) = true then some (V.str x) else none) hD2 (SqT.of ha4) (by rw [List.length_map, List.length_map]) (by rw [List.length_map]; omega) (fun r x y H5 C N hx hy hs hC hN => ?_) (fun H5 s5 e5 => ?_)
          · rw [List.getElem?_map] at hx hy
            obtain ⟨n, hn, rfl⟩ := Option.map_eq_some_iff.mp hx
            rw [hn] at hy
            cases hy
            have nns := List.mem_of_getElem? hn
            refine ⟨rfl, ?_⟩
            walk_at "g"
            refine ⟨di, _, rfl, DGet.k (k := Sum.inr n) (hs _ _ hdi) |> fun z => by rw [kvF_get nns] at z; exact z, ?_⟩
            walk_at "g"
            refine ⟨l, _, _, _, rfl, rfl, SqL.of (hs _ _ el4), atI_nat edj, ?_⟩
            walk_at "g"
            refine ⟨dj, _, rfl, DGet.k (k := Sum.inr n) (hs _ _ hdj) |> fun z => by rw [kvF_get nns] at z; exact z, ?_⟩
            have ee : decide (V.int (rowF ns 3 i n) = V.int (rowF ns 3 j n)) = !decide (Sc.env ns (dg i) n ≠ Sc.env ns (dg j) n) := by
              rw [Bool.eq_iff_iff]
              simp only [Bool.not_eq_true', decide_eq_true_iff, decide_eq_false_iff_not, Decidable.not_not]
              exact ⟨fun z => Int.ofNat.inj (V.int.inj z), fun z => by unfold rowF; rw [z]⟩
            walk_at "g"
            rw [ee, Bool.not_not]
            cases cc : decide (Sc.env ns (dg i) n ≠ Sc.env ns (dg j) n) with
            | true =>
              walk_at "g"
              exact hC _ (if_pos cc) _ (Same.refl _)
            | false =>
              walk_at "g"
              exact hN (if_neg (by rw [cc]; exact Bool.false_ne_true)) _ (Same.refl _)
          · rw [opt_filter] at e5
            have e5 : H5 D2 = some (.lst ((Sc.diffN ns (dg i) (dg j)).map V.str)) := e5
            walk_at "g"
            refine ⟨D2, _, rfl, .inl ⟨SqL.of e5, fun u hu => ?_⟩⟩
            have su : Same H5 (upd H5 u (.tup ((Sc.diffN ns (dg i) (dg j)).map V.str))) := same_new hu
            have s6 := s5.trans su
            have mk4 : Mk (also M o) H4 := (hM.gr (Gr.same sH4)).also (ne_none eA)
            have rN : Rp (also M o) (upd H5 u (.tup ((Sc.diffN ns (dg i) (dg j)).map V.str))) (.ref u) (namesT (Sc.diffN ns (dg i) (dg j))) := names_new (mk4.gr (Gr.same s5)) hu _
            generalize upd H5 u (.tup ((Sc.diffN ns (dg i) (dg j)).map V.str)) = H6 at su s6 rN
            have eA6 := s6 _ _ eA
            have rA6 := rA.sx (Sx.same s6)
            have cs_ok : ∀ s ∈ cs, (∀ x ∈ s, isNm x) ∧ s.length ≤ 3 := fun s hs => by
              obtain ⟨i', j', _, e⟩ := p1 s hs
              exact nsd s ⟨_, _, e⟩
            have d_ok := nsd _ ⟨dg i, dg j, rfl⟩
            walk_at "g"
            refine ⟨namesT (Sc.diffN ns (dg i) (dg j)), cs.map namesT, Rp.dp _ _ rN, .lst (.inl (.inl eA6)) (RpAll.dp _ _ rA6), (names_gd d_ok.1 d_ok.2).shaped (by decide), (setsL_gd cs_ok).shaped (by decide), ?_⟩
            rw [namesT_any]
            by_cases cin : Sc.diffN ns (dg i) (dg j) ∈ cs
            · rw [decide_eq_true cin]
              walk_at "g"
              refine ⟨⟨_, _, _, rfl⟩, sH4.trans s6, sx4.trans (Sx.same s6), acc, cs, eA6, rA6, p1, by omega, p2, fun j' h1 h2 h3 => ?_⟩
              by_cases c : j' = j
              · rw [c]; exact cin
              · exact p3 j' h1 (by omega) h3
            · rw [decide_eq_false cin]
              have lA := rA6.length
              rw [List.length_map] at lA
              walk_at "g"
              refine ⟨.inl ⟨rfl, _, SqL.of eA6⟩, ?_⟩
              walk_at "g"
              refine ⟨o, acc, _, rfl, rfl, eA6, small1000 (by omega), ?_⟩
              refine ⟨⟨_, _, _, rfl⟩, same_put (sH4.trans s6) ho0, (sx4.trans (Sx.same s6)).trans (Sx.put rfl), _, cs ++ [Sc.diffN ns (dg i) (dg j)], upd_same, ?_, fun s hs => ?_, by rw [List.length_append]; show cs.length + 1 ≤ _; omega, fun i' j' h1 h2 h3 h4 => List.mem_append_left _ (p2 i' j' h1 h2 h3 h4), fun j' h1 h2 h3 => ?_⟩
              · rw [List.map_append]
                exact (rA6.append (.one rN)).sx (Sx.put (.inr rfl))
              · rcases List.mem_append.mp hs with z | z
                · exact p1 s z
                · exact ⟨i, j, cF, List.mem_singleton.mp z⟩
              · by_cases c : j' = j
                · rw [c]; simp
                · exact List.mem_append_left _ (p3 j' h1 (by omega) h3)
      · obtain ⟨⟨y7, y8, y9, rfl⟩, sH4, sx4, acc, cs, eA, rA, p1, lc, p2, p3⟩ := z
        refine ⟨⟨_, _, _, _, _, rfl⟩, sH4, sx4, acc, cs, eA, rA, p1, by omega, fun i' j' h1 h2 h3 hF => ?_⟩
        by_cases c : i' = i
        · subst c
          exact p3 j' h2 (by omega) hF
        · exact p2 i' j' (by omega) h2 h3 hF
    · obtain ⟨⟨y3, y6, y7, y8, y9, rfl⟩, sH, sx, acc, cs, eA, rA, p1, lc, p2⟩ := z
      rw [lxs] at lc p2
      walk_at "g"
      exact q H' o cs sH ho0 ⟨hM.out ho0, acc, eA, rA.less also_le⟩ ⟨p1, fun i j hij hj hF => p2 i j (by omega) hij hj hF⟩ (by omega)
end
end D

namespace D
open PySem PySem.Spec PyProof.Rows L2
local macro_rules | `(tactic| walk_at "st") => `(tactic| first | exact SqT.of (by assumption) | exact Or.inl (by assumption) | exact SqT.of upd_same | fail "st")
local macro_rules | `(tactic| walk_at "ixt") => `(tactic| refine ⟨_, _, _, _, rfl, rfl, (by walk_at "st" : SqT _ _ _ _), by rfl, ?_⟩)
local macro_rules | `(tactic| walk_at "sq") => `(tactic| first | exact SqL.of (by assumption) | assumption | exact Or.inl (by assumption) | exact SqL.of upd_same | fail "sq")
local macro_rules | `(tactic| walk_at "ix") => `(tactic| refine ⟨_, _, _, _, rfl, rfl, (by walk_at "sq" : SqL _ _ _ _), by rfl, ?_⟩)
local macro_rules | `(tactic| walk_at "set") => `(tactic| refine ⟨_, _, _, _, rfl, rfl, by first | assumption | exact upd_same, by rfl, ?_⟩)
local macro_rules | `(tactic| walk_at "len") => `(tactic| refine ⟨_, _, rfl, Or.inl (by walk_at "sq" : SqL _ _ _ _), ?_⟩)
local macro_rules | `(tactic| walk_at "g") => `(tactic| repeat (first | refine ⟨_, rfl, ?_⟩ | refine ⟨_, _, rfl, rfl, ?_⟩ | refine ⟨Or.inr (by decide), ?_⟩ | refine ⟨Or.inl (by decide), ?_⟩ | refine ⟨(by decide : (0 : Int) < _), ?_⟩ | refine ⟨(⟨by decide, by decide⟩ : CDiv _ _), ?_⟩ | refine ⟨(⟨by decide, by decide, by decide⟩ : CPow _ _), ?_⟩ | refine Or.inl ⟨_, rfl, ?_⟩ | refine ⟨rfl, ?_⟩ | walk_at "ix" | walk_at "ixt" | walk_at "len" | fail "g"))
local macro_rules | `(tactic| walk_at "if") => `(tactic| refine ite2 (fun e => ?_) (fun e => ?_))
section
variable {P : Program} {w : World} {K : PySem.W.Frag} {mg : Str → Option Value} {base : Heap}
def sp_number : Sp := fun vs H Q _ => ∃ i : Int, vs = [.int i] ∧ Q (.bl true) H
theorem ok_number (T : Txt K mg) : FnOk P w K mg base CX0 1 T.f__law_number T.d__law_number ["_law_thing"] sp_number := by
  refine T.F__law_number.ok sc__law_number (fun vs H Q E h => ?_) (fun cdv A outer s H vs Q E hr h => ?_)
  · obtain ⟨_, rfl, _⟩ := h
    rfl
  · obtain ⟨i, rfl, q⟩ := h
    refine ⟨_, (pss_one (ps_ret (pe_and (pe_callB (call_isi1K (K := K) rfl) (by rfl) T.m_isinstance (by decide +kernel) (pa_cons (pv 0) (pa_cons (pe_bltn (v := .ty "int") (u := .type "int") (by rfl) T.m_int (by decide +kernel) rfl) pa_nil))) (pe_one (pe_not (pe_callB (call_isi1K (K := K) rfl) (by rfl) T.m_isinstance (by decide +kernel) (pa_cons (pv 0) (pa_cons (pe_bltn (v := .ty "bool") (u := .type "bool") (by rfl) T.m_bool (by decide +kernel) rfl) pa_nil)))))))), ?_⟩
    walk_at "g"
    refine ⟨_, _, _, _, true, rfl, .ty _, .base (.int _), kit_ty (by decide +kernel), ?_⟩
    walk_at "g"
    walk_at "g"
    refine ⟨_, _, _, _, false, rfl, .ty _, .base (.int _), kit_ty (by decide +kernel), ?_⟩
    walk_at "g"
    exact q
def sp_told : Sp := fun vs H Q _ => ∃ (v1 v2 v3 : V) (ns nd s : List Str) (M : Ms), vs = [v1, v2, v3] ∧ SpAt M H v1 ns nd s ∧ Rp M H v2 (namesT ns) ∧ Rp M H v3 (namesT s) ∧ NmOk ns ∧ Mk M H ∧ ∀ H', Same H H' → Q (.bl true) H'
theorem ok_told (T : Txt K mg) : FnOk P w K mg base CX0 2 T.f__law_settings_told T.d__law_settings_told ["_law_told", "_law_names", "_law_missed"] sp_told := by
  have G__law_number := ok_number (P := P) (w := w) (base := base) T
  refine T.F__law_settings_told.ok sc__law_settings_told (fun vs H Q E h => ?_) (fun cdv A outer s H vs Q E hr h => ?_)
  · obtain ⟨_, _, _, _, _, _, _, rfl, _⟩ := h
    rfl
  · obtain ⟨v1, v2, v3, ns, nd, ss, M, rfl, h1, h2, h3, ok, hM, q⟩ := h
    obtain ⟨t, u, d1, d2, rfl, nt, ht, ru, nd1, nd2, d12, e1, e2⟩ := h1
    obtain ⟨a, rfl, na, ha⟩ := names_at h2
    obtain ⟨c, rfl, nc, hc⟩ := names_at h3
    refine ⟨_, (pss_cons (ps_for PassesOwn.never rfl (pi_listK (K := K) rfl (pe_lst (pa_cons (pe_ix (ix_tupK (K := K) rfl) (pv 0) pe_int (fun _ _ => rfl)) (pa_cons (pe_ix (ix_tupK (K := K) rfl) (pv 0) pe_int (fun _ _ => rfl)) pa_nil)))) (pg_name (i := 3) sc__law_settings_told.nd rfl (Or.inl rfl)) (pss_one (ps_if (PW.pt (pw_or (pt_not (pt_val (pe_callB (call_isi1K (K := K) rfl) (by rfl) T.m_isinstance (by decide +kernel) (pa_cons (pv 3) (pa_cons (pe_bltn (v := .ty "dict") (u := .type "dict") (by rfl) T.m_dict (by decide +kernel) rfl) pa_nil))))) (pw_or1 (pt_cmpR (op_neDK (K := K) rfl hr.units) (pe_callTy (call_listD rfl) (by rfl) T.m_list (by decide +kernel) (pa_cons (pv 3) pa_nil)) (pe_callTy (call_listK (K := K) rfl) (by rfl) T.m_list (by decide +kernel) (pa_cons (pv 1) pa_nil)) (nomark _))))) (pss_one (ps_ret pe_bl)) pss_nil)))
      (pss_cons (ps_for PassesOwn.never rfl (pi_tupK (K := K) rfl (pv 1)) (pg_name (i := 4) sc__law_settings_told.nd rfl (Or.inl rfl)) (pss_cons (ps_if (PW.pt (pw_or (pt_not (pt_val (pe_call G__law_number (hr.mono (by omega)) (by rfl) T.g__law_number T.F__law_number.kp T.b__law_number .nil pass0 (pa_cons (pe_dget (hu_of hr) (pe_ix (ix_tupK (K := K) rfl) (pv 0) pe_int (fun _ _ => rfl)) (pv 4) (fun _ _ => rfl)) pa_nil)))) (pw_or (pt_not (pt_val (pe_call G__law_number (hr.mono (by omega)) (by rfl) T.g__law_number T.F__law_number.kp T.b__law_number .nil pass0 (pa_cons (pe_dget (hu_of hr) (pe_ix (ix_tupK (K := K) rfl) (pv 0) pe_int (fun _ _ => rfl)) (pv 4) (fun _ _ => rfl)) pa_nil)))) (pw_or1 (pt_cmpR op_ne (pe_dget (hu_of hr) (pe_ix (ix_tupK (K := K) rfl) (pv 0) pe_int (fun _ _ => rfl)) (pv 4) (fun _ _ => rfl)) pe_int (nomark _)))))) (pss_one (ps_ret pe_bl)) pss_nil)
      (pss_one (ps_if (pt_cmpR op_ne (pe_dget (hu_of hr) (pe_ix (ix_tupK (K := K) rfl) (pv 0) pe_int (fun _ _ => rfl)) (pv 4) (fun _ _ => rfl)) (pe_ifExp (pt_cmpR (op_in_seqK (K := K) rfl) (pv 4) (pv 2) (by rfl)) pe_int pe_int) (nomark _)) (pss_one (ps_ret pe_bl)) pss_nil))))
      (pss_one (ps_ret pe_bl)))), ?_⟩
    walk_at "g"
    refine ⟨szK rfl, fun l hl => ?_⟩
    have sl : Same H (upd H l (.lst [.ref d1, .ref d2])) := same_new hl
    have el : upd H l (.lst [.ref d1, .ref d2]) l = some (.lst [.ref d1, .ref d2]) := upd_same
    generalize upd H l (.lst [.ref d1, .ref d2]) = T0 at sl el
    walk_at "g"
    refine ⟨⟨_, SqL.of el⟩, ?_⟩
    refine for_list (K := K) (a := l) (xs := [.ref d1, .ref d2]) (fun i σ H' => ∃ y3 y4, σ = [some (.ref t), some (.ref a), some (.ref c), y3, y4] ∧ Same T0 H') ⟨none, none, rfl, Same.refl _⟩ (fun i σ H' _ z => ?_) (fun i x σ H' hx z => ?_) (fun σ H' z => ?_)
    · obtain ⟨_, _, _, z⟩ := z
      exact SqL.of (z _ _ el)
    · obtain ⟨y3, y4, rfl, sH⟩ := z
      have sA := sl.trans sH
      obtain ⟨d, f, rfl, ed⟩ : ∃ d f, x = .ref d ∧ H d = some (.dK (kvF ns f)) := by
        match i, hx with
        | 0, hx => cases hx; exact ⟨d1, _, rfl, e1⟩
        | 1, hx => cases hx; exact ⟨d2, _, rfl, e2⟩
        | i + 2, hx => cases hx
      have ed2 := sA _ _ ed
      walk_at "g"
      refine ⟨_, _, _, _, true, rfl, .ty _, .base (.dK ed2), kit_ty (by decide +kernel), ?_⟩
      walk_at "g"
      refine ⟨d, _, rfl, .inl ed2, fun p hp => ?_⟩
      have ek : (kvF ns f).map (fun kv => kV kv.1) = ns.map V.str := by unfold kvF; rw [List.map_map]; rfl
      rw [ek]
      have sp : Same H' (upd H' p (.lst (ns.map V.str))) := same_new hp
      have ep : upd H' p (.lst (ns.map V.str)) p = some (.lst (ns.map V.str)) := upd_same
      generalize upd H' p (.lst (ns.map V.str)) = H2 at sp ep
      walk_at "g"
      refine ⟨a, _, rfl, .inr (SqT.of (sp _ _ (sA _ _ ha))), fun p2 hp2 => ?_⟩
      have sp2 : Same H2 (upd H2 p2 (.lst (ns.map V.str))) := same_new hp2
      have ep2 : upd H2 p2 (.lst (ns.map V.str)) p2 = some (.lst (ns.map V.str)) := upd_same
      generalize upd H2 p2 (.lst (ns.map V.str)) = H3 at sp2 ep2
      have gN : Gd 27 1 (.list (ns.map PyData.str)) := by
        have := (GdAll.all (B := 8) (n := 0) (ds := ns.map PyData.str) fun d hd => by
          obtain ⟨x, hx, rfl⟩ := List.mem_map.mp hd
          exact isNm_gd (ok.nm x hx)).lst
        exact this.le (by rw [List.length_map]; have := ok.le; omega) (Nat.le_refl _)
      refine ⟨_, _, strL_dp (sp2 _ _ ep), strL_dp ep2, gN.shaped (by decide), gN.shaped (by decide), ?_⟩
      rw [strL_eqv, decide_eq_true rfl]
      walk_at "g"
      exact ⟨_, _, rfl, sH.trans (sp.trans sp2)⟩
    · obtain ⟨y3, y4, rfl, sH⟩ := z
      have sA := sl.trans sH
      walk_at "g"
      refine ⟨⟨_, SqT.of (sA _ _ ha)⟩, ?_⟩
      refine for_tup (K := K) (a := a) (xs := ns.map V.str) (fun i σ H2 => ∃ y4, σ = [some (.ref t), some (.ref a), some (.ref c), y3, y4] ∧ Same H' H2) ⟨_, rfl, Same.refl _⟩ (fun i σ H2 _ z => ?_) (fun i x σ H2 hx z => ?_) (fun σ H2 z => ?_)
      · obtain ⟨_, _, z⟩ := z
        exact SqT.of (z _ _ (sA _ _ ha))
      · obtain ⟨y4, rfl, s2⟩ := z
        rw [List.getElem?_map] at hx
        obtain ⟨x, hxn, rfl⟩ := Option.map_eq_some_iff.mp hx
        have xns := List.mem_of_getElem? hxn
        have sB := sA.trans s2
        have e1' := sB _ _ e1
        have e2' := sB _ _ e2
        have ht' := sB _ _ ht
        have g1 : ∀ {H'}, H' d1 = some (.dK (kvF ns zeroF)) → DGet H' d1 (.str x) (some (.int 0)) := fun h => DGet.k (k := Sum.inr x) h |> fun z => by rw [kvF_get xns] at z; exact z
        have g2 : ∀ {H'}, H' d2 = some (.dK (kvF ns (oneF ss))) → DGet H' d2 (.str x) (some (.int (oneF ss x))) := fun h => DGet.k (k := Sum.inr x) h |> fun z => by rw [kvF_get xns] at z; exact z
        walk_at "g"
        refine ⟨d1, _, rfl, g1 e1', ?_⟩
        walk_at "g"
        refine ⟨d2, _, rfl, g2 e2', ?_⟩
        walk_at "g"
        refine ⟨d1, _, rfl, g1 e1', ?_⟩
        walk_at "g"
        refine ⟨d2, _, rfl, g2 e2', ?_⟩
        walk_at "g"
        refine ⟨c, _, rfl, .inr (SqT.of (sB _ _ hc)), rfl, flat_strs ss, ?_⟩
        rw [if_neg Bool.false_ne_true, in_strs]
        cases cc : decide (x ∈ ss) with
        | true =>
          have : oneF ss x = 1 := if_pos (of_decide_eq_true cc)
          rw [this]
          walk_at "g"
          exact s2
        | false =>
          have : oneF ss x = 0 := if_neg (of_decide_eq_false cc)
          rw [this]
          walk_at "g"
          exact s2
      · obtain ⟨y4, rfl, s2⟩ := z
        walk_at "g"
        exact q _ (sA.trans s2)
theorem dueD_gd {nd : List Str} (h : ∀ x ∈ nd, isNm x) (hl : nd.length ≤ 3) : Gd 200 4 (dueD nd) := by
  have ht : ∀ x ∈ nd, Gd 40 2 (textD x) := fun x hx => by
    have g1 : Gd 20 1 (.tuple [.str sGet, .str x]) := ((GdAll.nil.cons (isNm_gd (h x hx))).cons (gstr "get" 3 (by decide +kernel) (by decide +kernel))).tup.le (by omega) (Nat.le_refl _)
    exact ((GdAll.nil.cons g1).cons (gstr "text" 4 (by decide +kernel) (by decide +kernel)).up).tup.le (by omega) (Nat.le_refl _)
  have ga := (GdAll.all (B := 40) (n := 2) (ds := nd.map textD) fun d hd => by
    obtain ⟨x, hx, rfl⟩ := List.mem_map.mp hd
    exact ht x hx).tup
  refine ((GdAll.nil.cons ga).cons (gstr "col" 3 (by decide +kernel) (by decide +kernel)).up).tup.le ?_ (Nat.le_refl _)
  rw [List.length_map]
  omega
def sp_triple : Sp := fun vs H Q _ => ∃ (v1 v2 v3 v4 : V) (ns nd s : List Str) (M : Ms), vs = [v1, v2, v3, v4] ∧ SpAt M H v1 ns nd s ∧ Rp M H v2 (namesT ns) ∧ Rp M H v3 (dueD (neededIn ns nd)) ∧ Rp M H v4 (namesT s) ∧ NmOk ns ∧ Mk M H ∧ (∃ x ∈ neededIn ns nd, x ∈ s) ∧ ∀ H', Same H H' → Q (.bl true) H'
theorem ok_triple (T : Txt K mg) : FnG P w K mg base CX0 4 T.f__law_triple T.d__law_triple ["_law_told", "_law_names", "_law_due", "_law_missed"] sp_triple := by
  have G__law_settings_told := ok_told (P := P) (w := w) (base := base) T
  have G__law_labels := ok_labels (P := P) (w := w) (base := base) T
  refine Fun.okG T.F__law_triple sc__law_triple (fun vs H Q E h => ?_) (fun cdv A outer s H vs Q E gd hr h => ?_)
  · obtain ⟨_, _, _, _, _, _, _, _, rfl, _⟩ := h
    rfl
  · obtain ⟨v1, v2, v3, v4, ns, nd, ss, M, rfl, h1, h2, h3, h4, ok, hM, hex, q⟩ := h
    obtain ⟨t, u, d1, d2, rfl, nt, ht, ru, nd1, nd2, d12, e1, e2⟩ := id h1
    obtain ⟨a, rfl, na, ha⟩ := names_at h2
    refine ⟨_, (pss_cons (ps_if (PW.pt (pw_or (pt_not (pt_val (pe_callB (call_isi1K (K := K) rfl) (by rfl) T.m_isinstance (by decide +kernel) (pa_cons (pv 0) (pa_cons (pe_bltn (v := .ty "tuple") (u := .type "tuple") (by rfl) T.m_tuple (by decide +kernel) rfl) pa_nil))))) (pw_or (pt_cmpR op_ne (pe_callB (call_lenK (K := K) rfl) (by rfl) T.m_len PySem.boot_len (pa_cons (pv 0) pa_nil)) pe_int (nomark _)) (pw_or (pt_not (pt_val (pe_callB (call_isi1K (K := K) rfl) (by rfl) T.m_isinstance (by decide +kernel) (pa_cons (pe_ix (ix_tupK (K := K) rfl) (pv 0) pe_int (fun _ _ => rfl)) (pa_cons (pe_bltn (v := .ty "tuple") (u := .type "tuple") (by rfl) T.m_tuple (by decide +kernel) rfl) pa_nil))))) (pw_or1 (pt_cmpR (op_neDK (K := K) rfl hr.units) (pe_ix (ix_tupK (K := K) rfl) (pv 0) pe_int (fun _ _ => rfl)) (pv 2) (nomark _))))))) (pss_one (ps_ret pe_bl)) pss_nil)
      (pss_cons (ps_if (PW.pt (pw_or (pt_cmpR op_ne (pe_callB (call_reprV gd (un200 hr)) (by rfl) T.m_repr (by decide +kernel) (pa_cons (pe_ix (ix_tupK (K := K) rfl) (pv 0) pe_int (fun _ _ => rfl)) pa_nil)) (pe_callB (call_reprV gd (un200 hr)) (by rfl) T.m_repr (by decide +kernel) (pa_cons (pv 2) pa_nil)) (nomark _)) (pw_or1 (pt_not (pt_val (pe_call G__law_settings_told (hr.mono (by omega)) (by rfl) T.g__law_settings_told T.F__law_settings_told.kp T.b__law_settings_told .nil pass0 (pa_cons (pv 0) (pa_cons (pv 1) (pa_cons (pv 3) pa_nil))))))))) (pss_one (ps_ret pe_bl)) pss_nil)
      (pss_one (ps_ret (pe_cmpR (op_neDK (K := K) rfl hr.units) (pe_call G__law_labels (hr.mono (by omega)) (by rfl) T.g__law_labels T.F__law_labels.kp T.b__law_labels .nil pass0 (pa_cons (pe_ix (ix_tupK (K := K) rfl) (pv 0) pe_int (fun _ _ => rfl)) (pa_cons (pe_ix (ix_tupK (K := K) rfl) (pv 0) pe_int (fun _ _ => rfl)) pa_nil))) (pe_call G__law_labels (hr.mono (by omega)) (by rfl) T.g__law_labels T.F__law_labels.kp T.b__law_labels .nil pass0 (pa_cons (pe_ix (ix_tupK (K := K) rfl) (pv 0) pe_int (fun _ _ => rfl)) (pa_cons (pe_ix (ix_tupK (K := K) rfl) (pv 0) pe_int (fun _ _ => rfl)) pa_nil))) (nomark _)))))), ?_⟩
    have l3 := ok.le
    have hsub : ∀ x ∈ neededIn ns nd, x ∈ ns := fun x hx => (List.mem_filter.mp hx).1
    have nlen := needed_len (nd := nd) l3
    have gdue := dueD_gd (nd := neededIn ns nd) (fun x hx => ok.nm x (hsub x hx)) nlen
    have show1 := gdue.showing (by decide) (by decide)
    walk_at "g"
    refine ⟨_, _, _, _, true, rfl, .ty _, rd_ty (.inl ht), kit_ty (by decide +kernel), ?_⟩
    walk_at "g"
    refine ⟨_, _, rfl, .inr (.inl (.inl ht)), ?_⟩
    walk_at "g"
    obtain ⟨u', us, eu, nu, hu, _⟩ := ru.tupX
    subst eu
    refine ⟨_, _, _, _, true, rfl, .ty _, rd_ty (.inl hu), kit_ty (by decide +kernel), ?_⟩
    obtain ⟨dd, hdd⟩ : ∃ dd, dd = dueD (neededIn ns nd) := ⟨_, rfl⟩
    have rud : Rp M H (.ref u') dd := by rw [hdd]; exact ru
    have r3d : Rp M H v3 dd := by rw [hdd]; exact h3
    rw [← hdd] at gdue show1
    obtain ⟨sh, hsh⟩ : ∃ sh, sh = dd.shown := ⟨_, rfl⟩
    clear h3
    walk_at "g"
    refine ⟨dd, dd, Rp.dp _ _ rud, Rp.dp _ _ r3d, gdue.shaped (by decide), gdue.shaped (by decide), ?_⟩
    rw [gdue.refl]
    walk_at "g"
    refine ⟨_, dd, rfl, Rp.dp _ _ rud, show1.1, show1.2.1, show1.2.2.1, show1.2.2.2, ?_⟩
    rw [← hsh]
    walk_at "g"
    refine ⟨_, dd, rfl, Rp.dp _ _ r3d, show1.1, show1.2.1, show1.2.2.1, show1.2.2.2, ?_⟩
    rw [← hsh]
    walk_at "g"
    rw [decide_eq_true (show V.str sh = V.str sh from rfl)]
    walk_at "g"
    refine ⟨_, _, _, ns, nd, ss, M, rfl, h1, h2, h4, ok, hM, fun H1 s1 => ?_⟩
    have ht1 := s1 _ _ ht
    have z01 : ∀ x ∈ neededIn ns nd, zeroF x = 0 ∨ zeroF x = 1 := fun x _ => .inl rfl
    have o01 : ∀ x ∈ neededIn ns nd, oneF ss x = 0 ∨ oneF ss x = 1 := fun x _ => by
      unfold oneF
      split
      · exact .inr rfl
      · exact .inl rfl
    walk_at "g"
    refine ⟨.ref u', d1, neededIn ns nd, _, zeroF, M, rfl, ru.sx (Sx.same s1), s1 _ _ e1, fun x hx => kvF_get (hsub x hx), z01, nlen, hM.gr (Gr.same s1), fun H2 q1 s2 nq1 f1 => ?_⟩
    have s12 := s1.trans s2
    have ht2 := s12 _ _ ht
    walk_at "g"
    refine ⟨.ref u', d2, neededIn ns nd, _, oneF ss, M, rfl, ru.sx (Sx.same s12), s12 _ _ e2, fun x hx => kvF_get (hsub x hx), o01, nlen, hM.gr (Gr.same s12), fun H3 q2 s3 nq2 f2 => ?_⟩
    refine ⟨_, _, strL_dp (s3 _ _ f1), strL_dp f2, (labs_gd z01 nlen).shaped (by decide), (labs_gd o01 nlen).shaped (by decide), ?_⟩
    rw [strL_eqv]
    have dif : (neededIn ns nd).map (fun x => lab (zeroF x)) ≠ (neededIn ns nd).map fun x => lab (oneF ss x) := fun e => by
      obtain ⟨x, hx, xs⟩ := hex
      have := List.map_inj_left.mp e x hx
      have := lab_inj (z01 x hx) (o01 x hx) this
      have e2 : oneF ss x = 1 := if_pos xs
      rw [e2] at this
      exact absurd (show (0 : Int) = 1 from this) (by decide)
    rw [decide_eq_false dif]
    exact q _ (s12.trans s3)
end
end D

namespace D
open PySem PySem.Spec PyProof.Rows L2
local macro_rules | `(tactic| walk_at "st") => `(tactic| first | exact SqT.of (by assumption) | exact Or.inl (by assumption) | exact SqT.of upd_same | fail "st")
local macro_rules | `(tactic| walk_at "ixt") => `(tactic| refine ⟨_, _, _, _, rfl, rfl, (by walk_at "st" : SqT _ _ _ _), by rfl, ?_⟩)
local macro_rules | `(tactic| walk_at "sq") => `(tactic| first | exact SqL.of (by assumption) | assumption | exact Or.inl (by assumption) | exact SqL.of upd_same | fail "sq")
local macro_rules | `(tactic| walk_at "ix") => `(tactic| refine ⟨_, _, _, _, rfl, rfl, (by walk_at "sq" : SqL _ _ _ _), by rfl, ?_⟩)
local macro_rules | `(tactic| walk_at "set") => `(tactic| refine ⟨_, _, _, _, rfl, rfl, by first | assumption | exact upd_same, by rfl, ?_⟩)
local macro_rules | `(tactic| walk_at "len") => `(tactic| refine ⟨_, _, rfl, Or.inl (by walk_at "sq" : SqL _ _ _ _), ?_⟩)
local macro_rules | `(tactic| walk_at "g") => `(tactic| repeat (first | refine ⟨_, rfl, ?_⟩ | refine ⟨_, _, rfl, rfl, ?_⟩ | refine ⟨Or.inr (by decide), ?_⟩ | refine ⟨Or.inl (by decide), ?_⟩ | refine ⟨(by decide : (0 : Int) < _), ?_⟩ | refine ⟨(⟨by decide, by decide⟩ : CDiv _ _), ?_⟩ | refine ⟨(⟨by decide, by decide, by decide⟩ : CPow _ _), ?_⟩ | refine Or.inl ⟨_, rfl, ?_⟩ | refine ⟨rfl, ?_⟩ | walk_at "ix" | walk_at "ixt" | walk_at "len" | fail "g"))
local macro_rules | `(tactic| walk_at "if") => `(tactic| refine ite2 (fun e => ?_) (fun e => ?_))
section
variable {P : Program} {w : World} {K : PySem.W.Frag} {mg : Str → Option Value} {base : Heap}
theorem SchAt.fresh {C : Addr} {M : Ms} {H : Hp} {v : V} {ns : List Str} {ks : List (List Str)} {p : Addr} (hp : H p = none) (h : SchAt C M H v ns ks) : SchAt C (also M p) H v ns ks := by
  obtain ⟨a, dx, u, z, e, n, ha, r1, r2⟩ := h
  refine ⟨a, dx, u, z, e, fun y => ?_, ha, r1.fresh hp, r2.fresh hp⟩
  rcases y with y | y
  · exact n y
  · rw [show a = p from y, hp] at ha
    cases ha
def sp_lot : Sp := fun vs H Q _ => ∃ (v1 v2 v4 : V) (z : Str) (ns nd : List Str) (cs : List (List Str)) (M : Ms), vs = [v1, v2, .str z, v4] ∧ Rp M H v1 (namesT ns) ∧ Rp M H v2 (namesT nd) ∧ Rp M H v4 (setsL cs) ∧ Mk M H ∧ NmOk ns ∧ z ∉ ns ∧ nd.length ≤ 3 ∧ (∀ s ∈ cs, s ∈ Sc.sets ns ∧ Sc.has nd s = true) ∧ cs.length ≤ 1000 ∧
  ∀ H', Same H H' → Q (.bl true) H'
theorem ok_lot (T : Txt K mg) : FnG P w K mg base CX0 9 T.f__law_lot T.d__law_lot ["_law_names", "_law_needed", "_law_strange", "_law_changing_here"] sp_lot := by
  have G__law_sets := ok_lsets (P := P) (w := w) (base := base) T
  have G__law_shown_needs := ok_shown (P := P) (w := w) (base := base) T
  have G_Schedule_least := ok_least (P := P) (w := w) (base := base) T
  have G_Schedule___init__ := ok_init (P := P) (w := w) (base := base) T
  have G_Schedule___le__ := ok_le (P := P) (w := w) (base := base) T
  have G__law_has := ok_lhas (P := P) (w := w) (base := base) T
  have G_spoiling := ok_spoil (P := P) (w := w) (base := base) T
  have G__law_triple := ok_triple (P := P) (w := w) (base := base) T
  refine Fun.okG T.F__law_lot sc__law_lot (fun vs H Q E h => ?_) (fun cdv A outer s H vs Q E gd hr h => ?_)
  · obtain ⟨_, _, _, _, _, _, _, _, rfl, _⟩ := h
    rfl
  · obtain ⟨v1, v2, v4, z, ns, nd, cs, M, rfl, h1, h2, h4, hM, ok, hz, nl, hcs, lcs, q⟩ := h
    obtain ⟨a, rfl, na, ha⟩ := names_at h1
    obtain ⟨b, rfl, nb, hb⟩ := names_at h2
    have l3 := ok.le
    refine ⟨_, (pss_cons (ps_set (i := 4) sc__law_lot.nd rfl (Or.inr rfl) (pe_call G__law_sets (hr.mono (by omega)) (by rfl) T.g__law_sets T.F__law_sets.kp T.b__law_sets .nil pass0 (pa_cons (pv 0) pa_nil)))
      (pss_cons (ps_set (i := 6) sc__law_lot.nd rfl (Or.inl rfl) (pe_tup (pa_cons pe_str (pa_cons (pe_callTy (call_tupleK (K := K) rfl) (by rfl) T.m_tuple (by decide +kernel) (pa_cons (pe_lc (own := [("_law_one", 5)]) (g := gName 5)  (by rfl) sc__law_lot.nd (pi_tupK (K := K) rfl (pv 0)) (blkOk_by (own := [("_law_one", 5)]) (N := ["_law_names", "_law_needed", "_law_strange", "_law_changing_here", "_law_every", "_law_one", "_law_due", "_law_least", "_law_most", "_law_number_here", "_law_chosen", "_law_schedule", "_law_missed", "_law_told", "_law_at"]) (sc := defScope s__law_lot) (by decide +kernel)) (fun _ _ _ _ _ => (pg_name (i := 5) sc__law_lot.nd rfl (Or.inl rfl))) (fun _ _ _ _ _ => (pts_one (pt_cmpR (op_in_seqK (K := K) rfl) (pv 5) (pv 1) (by rfl)))) (fun _ _ _ _ _ => (pe_tup (pa_cons pe_str (pa_cons (pe_tup (pa_cons pe_str (pa_cons (pv 5) pa_nil))) pa_nil))))) pa_nil)) pa_nil))))
      (pss_cons (ps_if (pt_cmpR (op_neDK (K := K) rfl hr.units) (pe_call G__law_shown_needs (hr.mono (by omega)) (by rfl) T.g__law_shown_needs T.F__law_shown_needs.kp T.b__law_shown_needs .nil pass0 (pa_cons (pv 6) (pa_cons (pv 0) pa_nil))) (pe_lc (own := [("_law_one", 5)]) (g := gName 5)  (by rfl) sc__law_lot.nd (pi_tupK (K := K) rfl (pv 0)) (blkOk_by (own := [("_law_one", 5)]) (N := ["_law_names", "_law_needed", "_law_strange", "_law_changing_here", "_law_every", "_law_one", "_law_due", "_law_least", "_law_most", "_law_number_here", "_law_chosen", "_law_schedule", "_law_missed", "_law_told", "_law_at"]) (sc := defScope s__law_lot) (by decide +kernel)) (fun _ _ _ _ _ => (pg_name (i := 5) sc__law_lot.nd rfl (Or.inl rfl))) (fun _ _ _ _ _ => (pts_one (pt_cmpR (op_in_seqK (K := K) rfl) (pv 5) (pv 1) (by rfl)))) (fun _ _ _ _ _ => (pv 5))) (nomark _)) (pss_one (ps_ret pe_bl)) pss_nil)
      (pss_cons (ps_set (i := 7) sc__law_lot.nd rfl (Or.inl rfl) (pe_smeth (pe_glob (v := .ref T.C_Schedule) rfl T.g_Schedule rfl) T.M_Schedule_least G_Schedule_least (hr.mono (by omega)) T.b_Schedule_least .nil pass0 (pa_cons (pv 0) (pa_cons (pv 1) pa_nil))))
      (pss_cons (ps_set (i := 8) sc__law_lot.nd rfl (Or.inl rfl) pe_int)
      (pss_cons (ps_for PassesOwn.never rfl (pi_listK (K := K) rfl (pv 4)) (pg_name (i := 5) sc__law_lot.nd rfl (Or.inl rfl)) (pss_one (ps_set (i := 8) sc__law_lot.nd rfl (Or.inl rfl) (pe_op op_add (pv 8) (pv 8)))))
      (pss_cons (ps_for PassesOwn.never rfl (pi_range1 (by rfl) T.m_range (pa_cons (pv 8) pa_nil)) (pg_name (i := 9) sc__law_lot.nd rfl (Or.inr rfl)) (pss_cons (ps_set (i := 10) sc__law_lot.nd rfl (Or.inr rfl) (pe_lc (own := [("_law_at", 14)]) (g := gName 14)  (by rfl) sc__law_lot.nd (pi_range1 (by rfl) T.m_range (pa_cons (pe_callB (call_lenK (K := K) rfl) (by rfl) T.m_len PySem.boot_len (pa_cons (pv 4) pa_nil)) pa_nil)) (blkOk_by (own := [("_law_at", 14)]) (N := ["_law_names", "_law_needed", "_law_strange", "_law_changing_here", "_law_every", "_law_one", "_law_due", "_law_least", "_law_most", "_law_number_here", "_law_chosen", "_law_schedule", "_law_missed", "_law_told", "_law_at"]) (sc := defScope s__law_lot) (by decide +kernel)) (fun _ _ _ _ _ => (pg_name (i := 14) sc__law_lot.nd rfl (Or.inl rfl))) (fun _ _ _ _ _ => (pts_one (pt_cmpR op_eq (pe_op op_and (pe_op op_shr (pv 9) (pv 14)) pe_int) pe_int (nomark _)))) (fun _ _ _ _ _ => (pe_ix (ix_listK (K := K) rfl) (pv 4) (pv 14) (fun _ _ => rfl)))))
      (pss_cons (ps_set (i := 11) sc__law_lot.nd rfl (Or.inl rfl) (pe_make ⟨T.mk_Schedule, T.a_Schedule___init__, T.i_Schedule___init__, T.kc_Schedule⟩ G_Schedule___init__ (hr.mono (by omega)) (by rfl) T.g_Schedule T.b_Schedule___init__ .nil pass0 (pa_cons (pv 0) (pa_cons (pe_callTy (call_listK (K := K) rfl) (by rfl) T.m_list (by decide +kernel) (pa_cons (pv 10) pa_nil)) pa_nil))))
      (pss_cons (ps_setLc (i := 12) (own := [("_law_one", 5)]) (g := gName 5)  (by rfl) sc__law_lot.nd rfl rfl (sw_true rfl rfl rfl (by decide +kernel)) (pi_listK (K := K) rfl (pv 4)) (blkOk_by (own := [("_law_one", 5)]) (N := ["_law_names", "_law_needed", "_law_strange", "_law_changing_here", "_law_every", "_law_one", "_law_due", "_law_least", "_law_most", "_law_number_here", "_law_chosen", "_law_schedule", "_law_missed", "_law_told", "_law_at"]) (sc := defScope s__law_lot) (by decide +kernel)) (fun _ _ _ _ _ => (pg_name (i := 5) sc__law_lot.nd rfl (Or.inl rfl))) (fun _ _ _ _ _ => (pts_one (PW.pt (pw_and (pt_cmpR (op_notInDK (K := K) rfl (hu65 hr)) (pv 5) (pv 10) (by rfl)) (pw_and1 (pt_val (pe_call G__law_has (hr.mono (by omega)) (by rfl) T.g__law_has T.F__law_has.kp T.b__law_has .nil pass0 (pa_cons (pv 5) (pa_cons (pv 1) pa_nil))))))))) (fun _ _ _ _ _ => (pv 5)))
      (pss_cons (ps_set (i := 13) sc__law_lot.nd rfl (Or.inl rfl) (pe_call G_spoiling (hr.mono (by omega)) (by rfl) T.g_spoiling T.F_spoiling.kp T.b_spoiling .nil pass0 (pa_cons (pv 11) (pa_cons (pv 1) pa_nil))))
      (pss_cons (ps_if (pt_cmpR op_ne (pe_cmpR (op_ownI (fun _ _ => rfl) T.a_Schedule___le__ T.i_Schedule___le__ T.nf_Schedule G_Schedule___le__ T.b_Schedule___le__ (hr.mono (by omega)) pass0) (pv 7) (pv 11) (nomark _)) (pe_notTK (K := K) rfl (pv 12)) (nomark _)) (pss_one (ps_ret pe_bl)) pss_nil)
      (pss_one (ps_if (pt_not (pt_truthK (K := K) rfl (pv 12) (by intro _; rfl))) (pss_one (ps_if (PW.pt (pw_or (pt_cmpR op_notN (pv 13) pe_non (nomark _)) (pw_or1 (pt_truthK (K := K) rfl (pe_lc (own := [("_law_one", 5)]) (g := gName 5)  (by rfl) sc__law_lot.nd (pi_listK (K := K) rfl (pv 3)) (blkOk_by (own := [("_law_one", 5)]) (N := ["_law_names", "_law_needed", "_law_strange", "_law_changing_here", "_law_every", "_law_one", "_law_due", "_law_least", "_law_most", "_law_number_here", "_law_chosen", "_law_schedule", "_law_missed", "_law_told", "_law_at"]) (sc := defScope s__law_lot) (by decide +kernel)) (fun _ _ _ _ _ => (pg_name (i := 5) sc__law_lot.nd rfl (Or.inl rfl))) (fun _ _ _ _ _ => (pts_one (pt_cmpR (op_notInDK (K := K) rfl (hu65 hr)) (pv 5) (pv 10) (by rfl)))) (fun _ _ _ _ _ => (pv 5))) (by intro _; rfl))))) (pss_one (ps_ret pe_bl)) pss_nil)) (pss_one (ps_if (pt_not (pt_val (pe_callG G__law_triple gd (hr.mono (by omega)) (by rfl) T.g__law_triple T.F__law_triple.kp T.b__law_triple pass0 (pa_cons (pv 13) (pa_cons (pv 0) (pa_cons (pv 6) (pa_cons (pe_ix (ix_listK (K := K) rfl) (pv 12) pe_int (fun _ _ => rfl)) pa_nil))))))) (pss_one (ps_ret pe_bl)) (pss_one (ps_if (pt_cmpR op_eq (pe_op op_mod (pe_callTy call_int1 (by rfl) T.m_int (by decide +kernel) (pa_cons (pv 9) pa_nil)) pe_int) pe_int (nomark _)) (pss_cons (ps_expr (pe_dclear (pe_ix (ix_tupK (K := K) rfl) (pv 13) pe_int (fun _ _ => rfl))))
      (pss_cons (ps_expr (pe_dclear (pe_ix (ix_tupK (K := K) rfl) (pv 13) pe_int (fun _ _ => rfl))))
      (pss_one (ps_if (pt_not (pt_val (pe_callG G__law_triple gd (hr.mono (by omega)) (by rfl) T.g__law_triple T.F__law_triple.kp T.b__law_triple pass0 (pa_cons (pe_call G_spoiling (hr.mono (by omega)) (by rfl) T.g_spoiling T.F_spoiling.kp T.b_spoiling .nil pass0 (pa_cons (pv 11) (pa_cons (pe_op (op_catAK (K := K) rfl) (pe_tup (pa_cons (pv 2) pa_nil)) (pv 1)) pa_nil))) (pa_cons (pv 0) (pa_cons (pv 6) (pa_cons (pe_ix (ix_listK (K := K) rfl) (pv 12) pe_int (fun _ _ => rfl)) pa_nil))))))) (pss_one (ps_ret pe_bl)) pss_nil)))) pss_nil))))))))))))
      (pss_one (ps_ret pe_bl))))))))), ?_⟩
    walk_at "g"
    refine ⟨_, ns, M, rfl, h1, hM, ok, fun H1 l s1 nl1 L1 => ?_⟩
    have hM1 := hM.gr (Gr.same s1)
    obtain ⟨nlM, es, el, re⟩ := id L1
    have les := re.length
    rw [List.length_map] at les
    walk_at "g"
    refine ⟨⟨_, SqT.of (s1 _ _ ha)⟩, fun D hD => ?_⟩
    refine dt_tup (cs := ns.map fun x => if decide (x ∈ nd) = true then some (textD x) else none) M hM1 hD (SqT.of (s1 _ _ ha)) (by rw [List.length_map, List.length_map]) (by rw [List.length_map]; omega) (fun i x o H4 C N hx ho s2 hM4 hC hN => ?_) (fun H2 s2 L2 => ?_)
    · rw [List.getElem?_map] at hx ho
      obtain ⟨x, hxn, rfl⟩ := Option.map_eq_some_iff.mp hx
      rw [hxn] at ho
      cases ho
      have s12 := s1.trans s2
      refine ⟨rfl, ?_⟩
      walk_at "g"
      refine ⟨b, _, rfl, .inr (SqT.of (s12 _ _ hb)), rfl, flat_strs nd, ?_⟩
      rw [if_neg Bool.false_ne_true, in_strs]
      cases cc : decide (x ∈ nd) with
      | false =>
        walk_at "g"
        exact hN (if_neg (by rw [cc]; exact Bool.false_ne_true)) _ (Same.refl _)
      | true =>
        walk_at "g"
        refine ⟨szK rfl, fun p hp => ?_⟩
        walk_at "g"
        refine ⟨szK rfl, fun p2 hp2 => ?_⟩
        refine hC _ (if_pos cc) _ _ ((same_new hp).trans (same_new hp2)) ?_
        exact Rp.newT (hM4.gr Gr.upd) hp2 (.cons (.str _) (.one (Rp.newT hM4 hp (.cons (.str _) (.one (.str _))))))
    rw [opt_filter] at L2
    obtain ⟨nD, xs, eD, rD⟩ := L2
    have s12 := s1.trans s2
    have hM2 := hM.gr (Gr.same s12)
    walk_at "g"
    refine ⟨D, _, rfl, .inl ⟨SqL.of eD, fun tt htt => ?_⟩⟩
    have s3 : Same H2 (upd H2 tt (.tup xs)) := same_new htt
    have rtt : Rp M (upd H2 tt (.tup xs)) (.ref tt) (.tuple ((neededIn ns nd).map textD)) := Rp.newT hM2 htt rD
    generalize upd H2 tt (.tup xs) = H3 at s3 rtt
    have hM3 := hM2.gr (Gr.same s3)
    walk_at "g"
    refine ⟨szK rfl, fun du hdu => ?_⟩
    have s4 : Same H3 (upd H3 du (.tup [.str (Str.ofString "col"), .ref tt])) := same_new hdu
    have rdu : Rp M (upd H3 du (.tup [.str (Str.ofString "col"), .ref tt])) (.ref du) (dueD (neededIn ns nd)) := Rp.newT hM3 hdu (.cons (.str _) (.one rtt))
    generalize upd H3 du (.tup [.str (Str.ofString "col"), .ref tt]) = H4 at s4 rdu
    have s14 := (s12.trans s3).trans s4
    have hM4 := hM3.gr (Gr.same s4)
    walk_at "g"
    refine ⟨_, _, ns, nd, M, rfl, rdu, h1.sx (Sx.same s14), hM4, ok, fun H5 q1 s5 nq1 e1 => ?_⟩
    have s15 := s14.trans s5
    walk_at "g"
    refine ⟨⟨_, SqT.of (s15 _ _ ha)⟩, fun q2 hq2 => ?_⟩
    refine vl_tup (ys := ns.map fun x => if decide (x ∈ nd) = true then some (V.str x) else none) hq2 (SqT.of (s15 _ _ ha)) (by rw [List.length_map, List.length_map]) (by rw [List.length_map]; omega) (fun i x y H' C N hx hy hs hC hN => ?_) (fun H6 s6 e2 => ?_)
    · rw [List.getElem?_map] at hx hy
      obtain ⟨x, hxn, rfl⟩ := Option.map_eq_some_iff.mp hx
      rw [hxn] at hy
      cases hy
      refine ⟨rfl, ?_⟩
      walk_at "g"
      refine ⟨b, _, rfl, .inr (SqT.of (hs _ _ (s15 _ _ hb))), rfl, flat_strs nd, ?_⟩
      rw [if_neg Bool.false_ne_true, in_strs]
      cases cc : decide (x ∈ nd) with
      | false =>
        walk_at "g"
        exact hN (if_neg (by rw [cc]; exact Bool.false_ne_true)) _ (Same.refl _)
      | true =>
        walk_at "g"
        exact hC _ (if_pos cc) _ (Same.refl _)
    rw [opt_filter] at e2
    have s16 := s15.trans s6
    have hM6 := hM.gr (Gr.same s16)
    have nlen := needed_len (nd := nd) l3
    have gN : Gd 27 1 (.list ((neededIn ns nd).map PyData.str)) := by
      have := (GdAll.all (B := 8) (n := 0) (ds := (neededIn ns nd).map PyData.str) fun d hd => by
        obtain ⟨x, hx, rfl⟩ := List.mem_map.mp hd
        exact isNm_gd (ok.nm x (List.mem_filter.mp hx).1)).lst
      exact this.le (by rw [List.length_map]; omega) (Nat.le_refl _)
    refine ⟨_, _, strL_dp (s6 _ _ e1), strL_dp (a := neededIn ns nd) e2, gN.shaped (by decide), gN.shaped (by decide), ?_⟩
    rw [strL_eqv, decide_eq_true rfl]
    walk_at "g"
    refine ⟨_, _, ns, nd, M, rfl, h1.sx (Sx.same s16), h2.sx (Sx.same s16), hM6, ok, fun H7 v7 s7 r7 => ?_⟩
    have s17 := s16.trans s7
    have el7 := s7 _ _ (s6 _ _ (s5 _ _ (s4 _ _ (s3 _ _ (s2 _ _ el)))))
    have l7 := Sc.sets_len ok.pos ok.le
    walk_at "g"
    refine ⟨⟨_, SqL.of el7⟩, ?_⟩
    refine for_list (K := K) (a := l) (xs := es) (fun i σ H' => ∃ y5 y9 y10 y11 y12 y13 y14, σ = [some (.ref a), some (.ref b), some (.str z), some v4, some (.ref l), y5, some (.ref du), some v7, some (.int ((2 ^ i : Nat) : Int)), y9, y10, y11, y12, y13, y14] ∧ H' = H7) ⟨none, none, none, none, none, none, none, rfl, rfl⟩ (fun i σ H' _ z => ?_) (fun i x σ H' hx z => ?_) (fun σ H' z => ?_)
    · obtain ⟨_, _, _, _, _, _, _, _, rfl⟩ := z
      exact SqL.of el7
    · obtain ⟨y5, y9, y10, y11, y12, y13, y14, rfl, rfl⟩ := z
      walk_at "g"
      refine ⟨some x, y9, y10, y11, y12, y13, y14, ?_, rfl⟩
      rw [show (2 : Nat) ^ (i + 1) = 2 ^ i + 2 ^ i by rw [Nat.pow_succ]; omega, Int.natCast_add]
      rfl
    obtain ⟨y5, y9, y10, y11, y12, y13, y14, rfl, eH⟩ := z
    rw [eH]
    clear eH
    have p128 : (2 : Nat) ^ es.length ≤ 2 ^ 7 := Nat.pow_le_pow_right (by decide) (by omega)
    have p128' : (2 : Nat) ^ 7 = 128 := by decide
    rw [p128'] at p128
    generalize (2 : Nat) ^ es.length = NN at p128
    walk_at "g"
    refine ⟨by omega, by omega, ?_⟩
    refine for_range (lo := 0) (n := ((NN : Nat) : Int).toNat) (fun k σ H' => (∃ y5 y9 y10 y11 y12 y13 y14, σ = [some (.ref a), some (.ref b), some (.str z), some v4, some (.ref l), y5, some (.ref du), some v7, some (.int (NN : Int)), y9, y10, y11, y12, y13, y14]) ∧ Same H7 H') ⟨⟨_, _, _, _, _, _, _, rfl⟩, Same.refl _⟩ (fun k σ H8 hk zz => ?_) (fun σ H8 zz => ?_)
    · obtain ⟨⟨y5, y9, y10, y11, y12, y13, y14, rfl⟩, s8⟩ := zz
      have s18 := s17.trans s8
      have el8 := s8 _ _ el7
      have hM8 := hM.gr (Gr.same s18)
      have re8 := re.sx (Sx.same ((((((s2.trans s3).trans s4).trans s5).trans s6).trans s7).trans s8))
      walk_at "g"
      refine ⟨by omega, by omega, fun D8 hD8 => ?_⟩
      refine rng_loop (lo := 0) (n := (es.length : Int).toNat) (fun i H' => ∃ ch : List (List Str), Acc M H8 D8 H' (ch.map namesT) ∧ (∀ s ∈ ch, s ∈ Sc.sets ns) ∧ ch.length ≤ i) ⟨[], Acc.new hD8, (fun _ h => nomatch h), Nat.le_refl _⟩ (fun i H' hi zz => ?_) (fun H9 zz => ?_)
      · obtain ⟨ch, ac, hch, lch⟩ := zz
        have hi' : i < es.length := by omega
        obtain ⟨dd, hdd, rdd⟩ := re8.get (List.getElem?_eq_getElem hi')
        rw [List.getElem?_map] at hdd
        obtain ⟨t, ht, rfl⟩ := Option.map_eq_some_iff.mp hdd
        rw [Int.zero_add]
        refine ⟨rfl, ?_⟩
        walk_at "g"
        refine ⟨by omega, ?_⟩
        walk_at "g"
        generalize decide (V.int (Builtin.bitAnd ((0 + (k : Int)) / 2 ^ ((i : Nat) : Int).toNat) 1) = V.int 1) = bb
        have eI := ac.same _ _ el8
        cases bb with
        | false =>
          walk_at "g"
          exact ⟨ch, ac, hch, by omega⟩
        | true =>
          walk_at "g"
          refine ⟨_, _, _, _, rfl, rfl, SqL.of eI, atI_nat (List.getElem?_eq_getElem hi'), ?_⟩
          obtain ⟨acc, ea, la, pa⟩ := ac.put (ac.old rdd) (by rw [List.length_map]; omega)
          refine ⟨acc, ea, la, ch ++ [t], by rw [List.map_append]; exact pa, fun s hs => ?_, by rw [List.length_append]; show ch.length + 1 ≤ i + 1; omega⟩
          rcases List.mem_append.mp hs with z | z
          · exact hch s z
          · rw [List.mem_singleton.mp z]; exact List.mem_of_getElem? ht
      · obtain ⟨ch, ac, hch, lch⟩ := zz
        have s9 := ac.same
        have L9 := ac.fin hM8
        have s19 := s18.trans s9
        have hM9 := hM.gr (Gr.same s19)
        obtain ⟨nD8, accs, e9, r9⟩ := id L9
        have lch7 : ch.length ≤ 7 := by omega
        walk_at "g"
        intro p hp
        have s10 : Same H9 (upd H9 p (.lst accs)) := same_new hp
        have r10 : Rp M (upd H9 p (.lst accs)) (.ref p) (setsL ch) := Rp.newL hM9 hp r9
        generalize upd H9 p (.lst accs) = H10 at s10 r10
        have s1A := s19.trans s10
        have hMA := hM.gr (Gr.same s1A)
        walk_at "g"
        intro sx sdx hsx hsdx hsne
        refine sch_make hMA (h1.sx (Sx.same s1A)) ok r10 hch (by omega) hsx hsdx hsne fun H11 s11 r11 => ?_
        have s1B := s1A.trans s11
        have hMB := hM.gr (Gr.same s1B)
        have s8B := (s9.trans s10).trans s11
        have el11 := s8B _ _ el8
        have re11 := re8.sx (Sx.same s8B)
        have e11 := s11 _ _ (s10 _ _ e9)
        have rch11 : Rp M H11 (.ref D8) (setsL ch) := (L9.rp).sx (Sx.same (s10.trans s11))
        have hks : ∀ s ∈ Sc.kept ns ch, s ∈ Sc.sets ns := kept_sub
        walk_at "g"
        refine ⟨⟨_, SqL.of el11⟩, fun D12 hD12 => ?_⟩
        refine dt_list (cs := (Sc.sets ns).map fun s => if (!decide (s ∈ ch) && Sc.has nd s) = true then some (namesT s) else none) M hMB hD12 (SqL.of el11) (by rw [List.length_map, les]) (by omega) (fun i x o H4 C N hx ho s12' hM4 hC hN => ?_) (fun H12 s12' L12 => ?_)
        · obtain ⟨dd, hdd, rdd⟩ := re11.get hx
          rw [List.getElem?_map] at hdd ho
          obtain ⟨t, ht, rfl⟩ := Option.map_eq_some_iff.mp hdd
          rw [ht] at ho
          cases ho
          have hts := List.mem_of_getElem? ht
          have okt := ok.sub hts
          have rd' := rdd.sx (Sx.same s12')
          refine ⟨rfl, ?_⟩
          walk_at "g"
          refine ⟨namesT t, ch.map namesT, Rp.dp _ _ rd', Rp.dp _ _ (rch11.sx (Sx.same s12')), (names_gd okt.nm okt.le).shaped (by decide), (sets_gd (ok.setsOk hch) (by omega)).shaped (by decide), ?_⟩
          rw [namesT_any]
          cases c1 : decide (t ∈ ch) with
          | true =>
            walk_at "g"
            exact hN (if_neg (by rw [c1]; exact Bool.false_ne_true)) _ (Same.refl _)
          | false =>
            walk_at "g"
            refine ⟨_, _, t, nd, M, rfl, rd', h2.sx (Sx.same (s1B.trans s12')), by have := okt.le; omega, fun H13 s13 => ?_⟩
            cases c2 : Sc.has nd t with
            | true =>
              walk_at "g"
              exact hC _ (if_pos (by rw [c1, c2]; rfl)) _ _ s13 ((rdd.fresh hD12).sx (Sx.same (s12'.trans s13)))
            | false =>
              walk_at "g"
              exact hN (if_neg (by rw [c1, c2]; exact Bool.false_ne_true)) _ s13
        · rw [opt_filter] at L12
          have L12 : Ld M H12 D12 ((Sc.missedL ns nd ch).map namesT) := L12
          have s1C := s1B.trans s12'
          have hMC := hM.gr (Gr.same s1C)
          have r12 := r11.sx (Sx.same s12')
          walk_at "g"
          refine ⟨_, _, ns, nd, Sc.kept ns ch, M, rfl, r12, h2.sx (Sx.same s1C), hMC, ok, hks, by have := kept_len ok ch; omega, fun H13 vt s13 hvt => ?_⟩
          rw [Sc.miss_is] at hvt
          have s1D := s1C.trans s13
          have s8D := (s8B.trans s12').trans s13
          obtain ⟨nD12, mis, e12, r12m⟩ := L12.sx (Sx.same s13)
          have r13 := r12.sx (Sx.same s13)
          have r7' : SchAt T.C_Schedule M H13 v7 ns (Sc.kept ns (Sc.leastS ns nd)) := r7.sx (Sx.same (s8.trans s8D))
          have lm := r12m.length
          rw [List.length_map] at lm
          obtain ⟨p1, px1, pu1, pz1, ep1, np1, hp1, _⟩ := id r7'
          obtain ⟨p2, px2, pu2, pz2, ep2, np2, hp2, _⟩ := id r13
          have hne7 : mis.isEmpty = (Sc.missedL ns nd ch).isEmpty := by
            cases mis with
            | nil => cases hm : Sc.missedL ns nd ch with
              | nil => rfl
              | cons _ _ => rw [hm] at lm; cases lm
            | cons _ _ => cases hm : Sc.missedL ns nd ch with
              | nil => rw [hm] at lm; cases lm
              | cons _ _ => rfl
          walk_at "g"
          refine ⟨p1, px1, _, p2, px2, _, ep1, ep2, hp1, hp2, _, _, ns, _, _, M, rfl, r7', r13, ok, kept_sub, kept_sub, by have := kept_len ok (Sc.leastS ns nd); omega, by have := kept_len ok ch; omega, fun H14 s14' => ?_⟩
          rw [Sc.least_le]
          have s1E := s1D.trans s14'
          have e12' := s14' _ _ e12
          walk_at "g"
          refine ⟨!mis.isEmpty, .inl ⟨mis, SqL.of e12', rfl⟩, ?_⟩
          have nn : (!(!mis.isEmpty)) = (Sc.missedL ns nd ch).isEmpty := by rw [Bool.not_not, hne7]
          walk_at "g"
          rw [nn, decide_eq_true (show V.bl (Sc.missedL ns nd ch).isEmpty = V.bl (Sc.missedL ns nd ch).isEmpty from rfl)]
          walk_at "g"
          refine ⟨!(Sc.missedL ns nd ch).isEmpty, .inl ⟨mis, SqL.of e12', by rw [hne7]⟩, ?_⟩
          cases hm : Sc.missedL ns nd ch with
          | nil =>
            rw [hm] at hvt
            have evt : vt = .non := hvt
            subst evt
            obtain ⟨cL, cxs, rfl, ncL, hcL, rcL⟩ := h4.lstN
            have hcL14 := same_rd s1E hcL
            have rcL14 := rcL.sx (Sx.same s1E)
            have rchE : Rp M H14 (.ref D8) (setsL ch) := rch11.sx (Sx.same ((s12'.trans s13).trans s14'))
            have lcx := rcL.length
            rw [List.length_map] at lcx
            walk_at "g"
            refine ⟨⟨_, .inl hcL14⟩, fun D15 hD15 => ?_⟩
            refine dt_list (cs := cs.map fun _ => none) M (hM.gr (Gr.same s1E)) hD15 (.inl hcL14) (by rw [List.length_map, lcx]) (by omega) (fun i x o H16 C N hx ho s16' hM16 hC hN => ?_) (fun H16 s16' L16 => ?_)
            · obtain ⟨dd, hdd, rdd⟩ := rcL14.get hx
              rw [List.getElem?_map] at hdd ho
              obtain ⟨t, ht, rfl⟩ := Option.map_eq_some_iff.mp hdd
              rw [ht] at ho
              cases ho
              obtain ⟨ts, th⟩ := hcs t (List.mem_of_getElem? ht)
              have okt := ok.sub ts
              have tch : t ∈ ch := by
                by_cases c : t ∈ ch
                · exact c
                · have : t ∈ Sc.missedL ns nd ch := List.mem_filter.mpr ⟨ts, by rw [decide_eq_false c, th]; rfl⟩
                  rw [hm] at this
                  cases this
              refine ⟨rfl, ?_⟩
              walk_at "g"
              refine ⟨namesT t, ch.map namesT, Rp.dp _ _ (rdd.sx (Sx.same s16')), Rp.dp _ _ (rchE.sx (Sx.same s16')), (names_gd okt.nm okt.le).shaped (by decide), (sets_gd (ok.setsOk hch) (by omega)).shaped (by decide), ?_⟩
              rw [namesT_any, decide_eq_true tch]
              walk_at "g"
              exact hN rfl _ (Same.refl _)
            · have e0 : (cs.map fun _ => (none : Option PyData)).filterMap id = [] := by
                rw [List.filterMap_map]
                exact List.filterMap_eq_nil_iff.mpr fun _ _ => rfl
              rw [e0] at L16
              obtain ⟨_, x16, e16, r16⟩ := L16
              cases r16
              walk_at "g"
              refine ⟨false, .inl ⟨[], SqL.of e16, rfl⟩, ?_⟩
              walk_at "g"
              exact ⟨⟨_, _, _, _, _, _, _, rfl⟩, (s8.trans s8D).trans (s14'.trans s16')⟩
          | cons m rest =>
            rw [hm] at hvt r12m
            obtain ⟨hsp, hfr⟩ : SpAt M H13 vt ns nd m ∧ ∀ t u d1 d2, vt = .ref t → H13 t = some (.tup [u, .ref d1, .ref d2]) → H12 d1 = none ∧ H12 d2 = none := hvt
            have mset : m ∈ Sc.sets ns ∧ Sc.has nd m = true ∧ ¬ m ∈ ch := by
              have : m ∈ Sc.missedL ns nd ch := by rw [hm]; exact List.mem_cons_self
              obtain ⟨h1, h2⟩ := List.mem_filter.mp this
              rw [Bool.and_eq_true] at h2
              refine ⟨h1, h2.2, fun z => ?_⟩
              rw [decide_eq_true z] at h2
              exact absurd h2.1 (by decide)
            have hex : ∀ nd', (∀ x, x ∈ ns → (x ∈ nd' ↔ x ∈ nd)) → ∃ x ∈ neededIn ns nd', x ∈ m := fun nd' hiff => by
              obtain ⟨x, hx, hxn⟩ := List.any_eq_true.mp mset.2.1
              have xns := (Sc.sets_sub ok.pos ok.le ok.nd mset.1).2.2.1 x hx
              exact ⟨x, List.mem_filter.mpr ⟨xns, decide_eq_true ((hiff x xns).mpr (of_decide_eq_true hxn))⟩, hx⟩
            cases r12m with
            | @cons mv mr _ _ rm rmr =>
            obtain ⟨t, u, d1, d2, evt, nt, ht, ru, nd1, nd2, d12, ed1, ed2⟩ := id hsp
            obtain ⟨fd1, fd2⟩ := hfr t u d1 d2 evt ht
            have hsp14 : SpAt M H14 vt ns nd m := ⟨t, u, d1, d2, evt, nt, s14' _ _ ht, ru.sx (Sx.same s14'), nd1, nd2, d12, s14' _ _ ed1, s14' _ _ ed2⟩
            have rm14 := rm.sx (Sx.same s14')
            have rdu14 : Rp M H14 (.ref du) (dueD (neededIn ns nd)) := rdu.sx (Sx.same ((((s5.trans s6).trans s7).trans (s8.trans s8D)).trans s14'))
            walk_at "g"
            refine ⟨_, _, _, _, rfl, rfl, SqL.of e12', (atI_nat (j := 0) rfl), ?_⟩
            refine ⟨_, _, _, _, ns, nd, m, M, rfl, hsp14, h1.sx (Sx.same s1E), rdu14, rm14, ok, hM.gr (Gr.same s1E), hex nd (fun _ _ => Iff.rfl), fun H15 s15' => ?_⟩
            have s1F := s1E.trans s15'
            have sAll : Same H7 H15 := (s8.trans s8D).trans (s14'.trans s15')
            subst evt
            walk_at "g"
            generalize decide (V.int ((0 + (k : Int)) % 5) = V.int 1) = bb
            cases bb with
            | false =>
              walk_at "g"
              exact ⟨⟨_, _, _, _, _, _, _, rfl⟩, sAll⟩
            | true =>
              have ht15 := (s14'.trans s15') _ _ ht
              have ed1' := (s14'.trans s15') _ _ ed1
              have ed2' := (s14'.trans s15') _ _ ed2
              have s12F : Same H12 H15 := (s13.trans s14').trans s15'
              let N : Ms := also (also M d1) d2
              have off : ∀ {v : V} {d : PyData}, Rp M H12 v d → Rp N H15 v d := fun r => ((r.fresh fd1).fresh fd2).sx (Sx.same s12F)
              have offS : SchAt T.C_Schedule N H15 (.ref sx) ns (Sc.kept ns ch) := ((r12.fresh fd1).fresh fd2).sx (Sx.same s12F)
              have nm1 := off (h1.sx (Sx.same s1C))
              have nm2 := off (h2.sx (Sx.same s1C))
              have nmd := off (rdu.sx (Sx.same (((s5.trans s6).trans s7).trans ((s8.trans s8B).trans s12'))))
              obtain ⟨_, ms12, em12, rm12⟩ := id L12
              rw [hm] at rm12
              have emis : ms12 = mv :: mr := by
                have := s13 _ _ em12
                rw [e12] at this
                cases this
                rfl
              subst emis
              cases rm12 with
              | cons rmv _ =>
              have nmm := off rmv
              have hMN : Mk N H15 := ((hM.gr (Gr.same s1F)).also (ne_none ed1')).also (ne_none ed2')
              have n7 : ∀ {c : Addr} {o : HO}, H7 c = some o → c ≠ d1 ∧ c ≠ d2 := fun {c} {o} e => by
                have := s12' _ _ (s8B _ _ (s8 _ _ e))
                exact ⟨(fun z => by rw [z, fd1] at this; cases this), (fun z => by rw [z, fd2] at this; cases this)⟩
              have e12F := s15' _ _ e12'
              have D12d : D12 ≠ d1 ∧ D12 ≠ d2 := ⟨(fun z => by rw [z, fd1] at em12; cases em12), (fun z => by rw [z, fd2] at em12; cases em12)⟩
              have tnd : t ≠ d1 ∧ t ≠ d2 := ⟨(fun z => by rw [z, ed1] at ht; cases ht), (fun z => by rw [z, ed2] at ht; cases ht)⟩
              walk_at "g"
              refine ⟨.inr (.inr (.inl ⟨rfl, .inl ⟨_, ed1'⟩⟩)), d1, _, rfl, rfl, ed1', ?_⟩
              have sxa : Sx N H15 (upd H15 d1 (.dK [])) := Sx.put (.inl (.inr rfl))
              have gra : Gr H15 (upd H15 d1 (.dK [])) := Gr.upd
              have ed2a : upd H15 d1 (.dK []) d2 = some (.dK (kvF ns (oneF m))) := by rw [upd_ne (Ne.symm d12)]; exact ed2'
              have hta : upd H15 d1 (.dK []) t = some (.tup [u, .ref d1, .ref d2]) := by rw [upd_ne tnd.1]; exact ht15
              have oth : ∀ {c : Addr} {o : HO}, c ≠ d1 → H15 c = some o → upd H15 d1 (.dK []) c = some o := fun n e => by rw [upd_ne n]; exact e
              generalize upd H15 d1 (.dK []) = Ha at sxa gra ed2a hta oth
              walk_at "g"
              refine ⟨.inr (.inr (.inl ⟨rfl, .inl ⟨_, ed2a⟩⟩)), d2, _, rfl, rfl, ed2a, ?_⟩
              have sxb : Sx N H15 (upd Ha d2 (.dK [])) := sxa.trans (Sx.put (.inr rfl))
              have grb : Gr H15 (upd Ha d2 (.dK [])) := gra.trans Gr.upd
              have othb : ∀ {c : Addr} {o : HO}, c ≠ d1 → c ≠ d2 → H15 c = some o → upd Ha d2 (.dK []) c = some o := fun n1 n2 e => by rw [upd_ne n2]; exact oth n1 e
              generalize upd Ha d2 (.dK []) = Hb at sxb grb othb
              have hMb := hMN.gr grb
              have e12b := othb D12d.1 D12d.2 e12F
              have s7b : Same H7 Hb := fun c o e => othb (n7 e).1 (n7 e).2 (sAll c o e)
              walk_at "g"
              refine ⟨szK rfl, fun tz htz => ?_⟩
              have sz1 : Same Hb (upd Hb tz (.tup [.str z])) := same_new htz
              have ez1 : upd Hb tz (.tup [.str z]) tz = some (.tup [.str z]) := upd_same
              have rz1 : Rp N (upd Hb tz (.tup [.str z])) (.ref tz) (namesT [z]) := names_new hMb htz [z]
              generalize upd Hb tz (.tup [.str z]) = Hc at sz1 ez1 rz1
              have nm2c := (nm2.sx sxb).sx (Sx.same sz1)
              obtain ⟨b', eb', _, hbc⟩ := names_at nm2c
              cases eb'
              have fin : ∀ (Hd : Hp) (vn : V), Same Hc Hd → Rp N Hd vn (namesT (z :: nd)) → ∀ QQ : VK, (∀ He ve, Same Hd He → SpAt N He ve ns (z :: nd) m → QQ ve He) → sp_spoil T.C_Schedule [.ref sx, vn] Hd QQ E0 := fun Hd vn sd rn QQ hQ => by
                have sbd := sz1.trans sd
                have hMd := hMb.gr (Gr.same sbd)
                have hh : ∀ s ∈ Sc.sets ns, Sc.has (z :: nd) s = Sc.has nd s := fun s hs => by
                  unfold Sc.has
                  have hsub := (Sc.sets_sub ok.pos ok.le ok.nd hs).2.2.1
                  rw [Bool.eq_iff_iff, List.any_eq_true, List.any_eq_true]
                  constructor
                  · rintro ⟨x, h1, h2⟩
                    refine ⟨x, h1, decide_eq_true ?_⟩
                    rcases List.mem_cons.mp (of_decide_eq_true h2) with e | e
                    · exact absurd (by rw [← e]; exact hsub x h1) hz
                    · exact e
                  · rintro ⟨x, h1, h2⟩
                    exact ⟨x, h1, decide_eq_true (List.mem_cons_of_mem _ (of_decide_eq_true h2))⟩
                have emiss : Sc.missS ns (z :: nd) (Sc.kept ns ch) = some m := by
                  have e0 : Sc.missS ns nd (Sc.kept ns ch) = some m := by rw [Sc.miss_is, hm]; rfl
                  rw [← e0]
                  unfold Sc.missS
                  rw [Sc.find_head, Sc.find_head]
                  congr 1
                  exact List.filter_congr fun s hs => by rw [hh s hs]
                have ened : neededIn ns (z :: nd) = neededIn ns nd := by
                  unfold neededIn
                  refine List.filter_congr fun x hx => ?_
                  have : x ≠ z := fun e => hz (by rw [← e]; exact hx)
                  rw [Bool.eq_iff_iff, decide_eq_true_iff, decide_eq_true_iff, List.mem_cons]
                  exact ⟨fun y => y.resolve_left this, .inr⟩
                refine ⟨.ref sx, vn, ns, z :: nd, Sc.kept ns ch, N, rfl, (offS.sx sxb).sx (Sx.same sbd), rn, hMd, ok, hks, by have := kept_len ok ch; omega, fun He ve se hve => ?_⟩
                rw [emiss] at hve
                exact hQ He ve se hve.1
              have ened : neededIn ns (z :: nd) = neededIn ns nd := by
                unfold neededIn
                refine List.filter_congr fun x hx => ?_
                have : x ≠ z := fun e => hz (by rw [← e]; exact hx)
                rw [Bool.eq_iff_iff, decide_eq_true_iff, decide_eq_true_iff, List.mem_cons]
                exact ⟨fun y => y.resolve_left this, .inr⟩
              walk_at "g"
              have lnd : (nd.map V.str).length = nd.length := List.length_map ..
              refine ⟨tz, b, _, _, rfl, rfl, SqT.of ez1, SqT.of hbc, szK2 (by rw [lnd]; show 1 + nd.length ≤ 1000; omega), fun e0 => (nomatch e0), fun _ e0 => ?_, fun _ _ p9 hp9 => ?_⟩
              · have : nd = [] := List.map_eq_nil_iff.mp e0
                subst this
                walk_at "g"
                refine fin Hc (.ref tz) (Same.refl Hc) rz1 _ fun He ve se hve => ?_
                have sbe := sz1.trans ((Same.refl Hc).trans se)
                have e12e := sbe _ _ e12b
                walk_at "g"
                refine ⟨_, _, _, _, rfl, rfl, SqL.of e12e, (atI_nat (j := 0) rfl), ?_⟩
                refine ⟨ve, .ref a, .ref du, mv, ns, _, m, N, rfl, hve, (nm1.sx sxb).sx (Sx.same sbe), (by rw [ened]; exact (nmd.sx sxb).sx (Sx.same sbe)), (nmm.sx sxb).sx (Sx.same sbe), ok, hMb.gr (Gr.same sbe), (by rw [ened]; exact hex _ fun _ _ => Iff.rfl), fun Hf sf => ?_⟩
                walk_at "g"
                exact ⟨⟨_, _, _, _, _, _, _, rfl⟩, s7b.trans (sbe.trans sf)⟩
              · have s9 : Same Hc (upd Hc p9 (.tup ([V.str z] ++ nd.map V.str))) := same_new hp9
                have r9' : Rp N (upd Hc p9 (.tup ([V.str z] ++ nd.map V.str))) (.ref p9) (namesT (z :: nd)) := names_new (hMb.gr (Gr.same sz1)) hp9 (z :: nd)
                generalize upd Hc p9 (.tup ([V.str z] ++ nd.map V.str)) = Hd at s9 r9'
                walk_at "g"
                refine fin Hd (.ref p9) s9 r9' _ fun He ve se hve => ?_
                have sbe := sz1.trans (s9.trans se)
                have e12e := sbe _ _ e12b
                walk_at "g"
                refine ⟨_, _, _, _, rfl, rfl, SqL.of e12e, (atI_nat (j := 0) rfl), ?_⟩
                refine ⟨ve, .ref a, .ref du, mv, ns, _, m, N, rfl, hve, (nm1.sx sxb).sx (Sx.same sbe), (by rw [ened]; exact (nmd.sx sxb).sx (Sx.same sbe)), (nmm.sx sxb).sx (Sx.same sbe), ok, hMb.gr (Gr.same sbe), (by rw [ened]; exact hex _ fun _ _ => Iff.rfl), fun Hf sf => ?_⟩
                walk_at "g"
                exact ⟨⟨_, _, _, _, _, _, _, rfl⟩, s7b.trans (sbe.trans sf)⟩
    · obtain ⟨⟨y5, y9, y10, y11, y12, y13, y14, rfl⟩, s8⟩ := zz
      walk_at "g"
      exact q _ (s17.trans s8)
end
end D

namespace D
open PySem PySem.Spec PyProof.Rows L2
local macro_rules | `(tactic| walk_at "st") => `(tactic| first | exact SqT.of (by assumption) | exact Or.inl (by assumption) | exact SqT.of upd_same | fail "st")
local macro_rules | `(tactic| walk_at "ixt") => `(tactic| refine ⟨_, _, _, _, rfl, rfl, (by walk_at "st" : SqT _ _ _ _), by rfl, ?_⟩)
local macro_rules | `(tactic| walk_at "sq") => `(tactic| first | exact SqL.of (by assumption) | assumption | exact Or.inl (by assumption) | exact SqL.of upd_same | fail "sq")
local macro_rules | `(tactic| walk_at "ix") => `(tactic| refine ⟨_, _, _, _, rfl, rfl, (by walk_at "sq" : SqL _ _ _ _), by rfl, ?_⟩)
local macro_rules | `(tactic| walk_at "set") => `(tactic| refine ⟨_, _, _, _, rfl, rfl, by first | assumption | exact upd_same, by rfl, ?_⟩)
local macro_rules | `(tactic| walk_at "len") => `(tactic| refine ⟨_, _, rfl, Or.inl (by walk_at "sq" : SqL _ _ _ _), ?_⟩)
local macro_rules | `(tactic| walk_at "g") => `(tactic| repeat (first | refine ⟨_, rfl, ?_⟩ | refine ⟨_, _, rfl, rfl, ?_⟩ | refine ⟨Or.inr (by decide), ?_⟩ | refine ⟨Or.inl (by decide), ?_⟩ | refine ⟨(by decide : (0 : Int) < _), ?_⟩ | refine ⟨(⟨by decide, by decide⟩ : CDiv _ _), ?_⟩ | refine ⟨(⟨by decide, by decide, by decide⟩ : CPow _ _), ?_⟩ | refine Or.inl ⟨_, rfl, ?_⟩ | refine ⟨rfl, ?_⟩ | walk_at "ix" | walk_at "ixt" | walk_at "len" | fail "g"))
local macro_rules | `(tactic| walk_at "if") => `(tactic| refine ite2 (fun e => ?_) (fun e => ?_))
section
variable {P : Program} {w : World} {K : PySem.W.Frag} {mg : Str → Option Value} {base : Heap}
def sp_mingledT (K : PySem.W.Frag) : Sp := fun vs H Q _ => ∃ (b : Addr) (a : V) (ds : List PyData) (M : Ms), vs = [.ref b, a] ∧ Bag K M H b ∧ Mk M H ∧ Rp M H a (.tuple ds) ∧ ds.length < 1000000 ∧
  Dr K M b H (fun d => ∃ es, d = .list es ∧ es.Perm ds) Q
theorem ok_mingledT (T : Txt K mg) : FnOk P w K mg base CX0 3 T.f__law_mingled T.d__law_mingled ["_law_bag_here", "_law_things"] (sp_mingledT K) := by
  have G__law_pick := ok_pick (P := P) (w := w) (base := base) T
  refine T.F__law_mingled.ok sc__law_mingled (fun vs H Q E h => ?_) (fun cdv A outer s H vs Q E hr h => ?_)
  · obtain ⟨_, _, _, _, rfl, _⟩ := h
    rfl
  · obtain ⟨b, a, ds, M, rfl, hB, hM, hR, hl, q⟩ := h
    cases hR with
    | @tup a xs _ na hS' hA =>
    have hS := hS'.rd
    have el := hA.length
    refine ⟨_, (pss_cons (ps_set (i := 2) sc__law_mingled.nd rfl (Or.inl rfl) (pe_callTy (call_listK (K := K) rfl) (by rfl) T.m_list (by decide +kernel) (pa_cons (pv 1) pa_nil)))
      (pss_cons (ps_set (i := 3) sc__law_mingled.nd rfl (Or.inl rfl) (pe_lst pa_nil))
      (pss_cons (ps_for PassesOwn.never rfl (pi_range1 (by rfl) T.m_range (pa_cons (pe_callB (call_lenK (K := K) rfl) (by rfl) T.m_len PySem.boot_len (pa_cons (pv 1) pa_nil)) pa_nil)) (pg_name (i := 4) sc__law_mingled.nd rfl (Or.inl rfl)) (pss_one (ps_expr (pe_bmK2 (K := K) rfl PySem.F.plainAttrs_list PySem.F.slot_list_append PySem.F.type_list_append mt_append (pv 3) (pa_cons (pe_bmK2 (K := K) rfl PySem.F.plainAttrs_list PySem.F.slot_list_pop PySem.F.type_list_pop mt_popAt (pv 2) (pa_cons (pe_call G__law_pick (hr.mono (by omega)) (by rfl) T.g__law_pick T.F__law_pick.kp T.b__law_pick .nil pass0 (pa_cons (pv 0) (pa_cons (pe_callB (call_lenK (K := K) rfl) (by rfl) T.m_len PySem.boot_len (pa_cons (pv 2) pa_nil)) pa_nil))) pa_nil)) pa_nil)))))
      (pss_one (ps_ret (pv 3)))))), ?_⟩
    refine ⟨.ref a, rfl, a, xs, rfl, .inr (.inl hS), fun l nl => ?_⟩
    refine ⟨by show 0 ≤ sizeLine; exact Nat.zero_le _, fun o no => ?_⟩
    have lo : l ≠ o := ne_of_none upd_same no
    have Rl := hA.fresh nl
    generalize e1 : upd (upd H l _) o _ = H1
    have s1 : Same H H1 := fun c u e => by rw [← e1]; exact same_new no c u (same_new nl c u e)
    have l1 : H1 l = some (.lst xs) := by rw [← e1, upd_ne lo, upd_same]
    have o1 : H1 o = some (.lst []) := by rw [← e1, upd_same]
    have no0 : H o = none := by
      rw [upd_ne lo.symm] at no
      exact no
    clear e1
    refine ⟨.ref a, rfl, a, xs, rfl, .inr (.inl (same_rd s1 hS)), ?_⟩
    refine ⟨_, rfl, by omega, by omega, ?_⟩
    have hbl : b ≠ l := fun z => hB.there (by rw [z]; exact nl)
    have hbo : b ≠ o := fun z => hB.there (by rw [z]; exact no0)
    let N : Ms := also (also M l) o
    let F : Ms := also (also (one b) l) o
    have FN : ∀ c, F c → N c := fun c z => z.elim (fun z => z.elim (fun z => .inl (.inl (one_le hB.w c z))) fun z => .inl (.inr z)) .inr
    have hB1 : Bag K N H1 b := by
      have h1 := (hB.more nl).more no0
      exact h1.keep (N := fun _ => False) (fun c u _ e => s1 c u e) (fun z => z) (fun _ z => z.elim)
    have R1 : RpAll N H1 xs ds := (Rl.fresh no0).sx (Sx.same s1)
    refine for_range (lo := 0) (n := (xs.length : Int).toNat) (fun i σ H2 => (∃ y4, σ = [some (.ref b), some (.ref a), some (.ref l), some (.ref o), y4]) ∧ Sx F H H2 ∧ Gr H H2 ∧ Bag K N H2 b ∧
      ∃ ls os es fs, H2 l = some (.lst ls) ∧ H2 o = some (.lst os) ∧ RpAll N H2 ls es ∧ RpAll N H2 os fs ∧ ls.length + i = xs.length ∧ os.length = i ∧ (es ++ fs).Perm ds) ?_ (fun i σ H2 hi p => ?_) (fun σ H2 p => ?_)
    · exact ⟨⟨_, rfl⟩, Sx.same s1, Gr.same s1, hB1, xs, [], ds, [], l1, o1, R1, .nil, by omega, rfl, by rw [List.append_nil]⟩
    · obtain ⟨⟨y4, rfl⟩, s2, g2, hB2, ls, os, es, fs, l2, o2, Re, Rf, e1, e2, m1⟩ := p
      have hls : 0 < ls.length := by omega
      refine ⟨.ref o, rfl, .inl ⟨rfl, _, SqL.of o2⟩, .ref l, rfl, .inl ⟨rfl, _, SqL.of l2⟩, ?_⟩
      walk_at "g"
      refine ⟨b, _, N, rfl, hB2, by omega, by omega, fun w H3 h0 h1 hA3 hB3 => ?_⟩
      have l3 : H3 l = some (.lst ls) := (hA3 l hbl.symm).trans l2
      have o3 : H3 o = some (.lst os) := (hA3 o hbo.symm).trans o2
      obtain ⟨j, rfl⟩ : ∃ j : Nat, w = (j : Int) := ⟨w.toNat, by omega⟩
      have hj : j < ls.length := by omega
      have s3 : Sx F H2 H3 := hA3.sx.le fun c z => .inl (.inl z)
      have Re3 := Re.sx (s3.le FN)
      obtain ⟨d, hd, Rd⟩ := Re3.get (List.getElem?_eq_getElem hj)
      refine ⟨l, ls, (j : Int), j, ls[j], rfl, rfl, l3, by omega, by omega, ?_, List.getElem?_eq_getElem hj, ?_⟩
      · exact seqIx hj
      · have lno : o ≠ l := lo.symm
        have o4 : upd H3 l (.lst (ls.eraseIdx j)) o = some (.lst os) := by rw [upd_ne lno]; exact o3
        refine ⟨o, os, ls[j], rfl, rfl, o4, small1000000 (by omega), ?_⟩
        have s4 : Sx F H3 (upd (upd H3 l (.lst (ls.eraseIdx j))) o (.lst (os ++ [ls[j]]))) := (Sx.put (show F l from .inl (.inr rfl))).trans (Sx.put (show F o from .inr rfl))
        have em := Re3.length
        refine ⟨⟨_, rfl⟩, s2.trans (s3.trans s4), g2.trans ((At.gr hA3 hB3.there).trans (Gr.upd.trans Gr.upd)), ?_, ls.eraseIdx j, os ++ [ls[j]], es.eraseIdx j, fs ++ [d], ?_, upd_same, (Re3.eraseIdx j).sx (s4.le FN), ((Rf.sx (s3.le FN)).append (.one Rd)).sx (s4.le FN), ?_, ?_, ?_⟩
        · exact (hB3.keep (N := one l) (Sx.put rfl) hbl (fun c z => by rw [show c = l from z]; exact .inl (.inr rfl))).keep (N := one o) (Sx.put rfl) hbo (fun c z => by rw [show c = o from z]; exact .inr rfl)
        · rw [upd_ne lo, upd_same]
        · rw [List.length_eraseIdx_of_lt hj]
          omega
        · rw [List.length_append, e2]
          rfl
        · refine List.Perm.trans ?_ m1
          rw [← List.append_assoc]
          refine (List.perm_append_comm).trans ?_
          exact (List.Perm.append_right fs (erase_perm es j d hd))
    · obtain ⟨⟨y4, rfl⟩, s2, g2, hB2, ls, os, es, fs, l2, o2, Re, Rf, e1, e2, m1⟩ := p
      refine ⟨.ref o, rfl, q _ _ (.list fs) ((s2.cut no0).cut nl) g2 (hB2.less hB.w fun c z => .inl (.inl z)) (.lst (hM.out no0) (.inl o2) (Rf.less fun c z => .inl (.inl z))) ⟨fs, rfl, ?_⟩⟩
      have el0 := Re.length
      have z : es = [] := List.length_eq_zero_iff.mp (by omega)
      rw [z] at m1
      exact m1

theorem idx4 {i : Int} (i0 : 0 ≤ i) (i1 : i < 4) : ∃ n : Nat, atI [V.int 1, .int 2, .int 2, .int 3] i = some (.int n) ∧ 1 ≤ n ∧ n ≤ 3 := by
  have : i = 0 ∨ i = 1 ∨ i = 2 ∨ i = 3 := by omega
  rcases this with rfl | rfl | rfl | rfl
  · exact ⟨1, rfl, by omega, by omega⟩
  · exact ⟨2, rfl, by omega, by omega⟩
  · exact ⟨2, rfl, by omega, by omega⟩
  · exact ⟨3, rfl, by omega, by omega⟩
theorem perm_strs {es : List PyData} {l : List Str} (h : es.Perm (l.map PyData.str)) : ∃ ns : List Str, ns.Perm l ∧ es = ns.map PyData.str := by
  let un : PyData → Str := fun d => match d with | .str x => x | _ => Str.empty
  refine ⟨es.map un, ?_, ?_⟩
  · have h1 := h.map un
    rw [List.map_map] at h1
    have e : l.map (un ∘ PyData.str) = l := by
      have : (un ∘ PyData.str) = id := rfl
      rw [this, List.map_id]
    rw [e] at h1
    exact h1
  · rw [List.map_map]
    have e : ∀ x ∈ es, (PyData.str ∘ un) x = x := fun x hx => by
      obtain ⟨i, _, rfl⟩ := List.mem_map.mp (h.mem_iff.mp hx)
      rfl
    exact (List.map_id es).symm.trans (List.map_congr_left fun x hx => (e x hx).symm)
theorem FnOk.or {CX : CXT} {k : Nat} {f : Addr} {fd : FuncData} {ps : List Str} {sp sq : Sp} (F : FnOk P w K mg base CX k f fd ps sp) (G : FnOk P w K mg base CX k f fd ps sq) : FnOk P w K mg base CX k f fd ps (fun vs H Q E => sp vs H Q E ∨ sq vs H Q E) :=
  ⟨fun vs H Q E h => h.elim (F.len vs H Q E) (G.len vs H Q E), fun A fr s H args us vs Q E hr he hb hv hs => hs.elim (F.run A fr s H args us vs Q E hr he hb hv) (G.run A fr s H args us vs Q E hr he hb hv)⟩
def sp_law (K : PySem.W.Frag) : Sp := fun vs H Q _ => ∃ (a : Addr) (ns : List Int), vs = [.ref a] ∧ SqL K H a (ns.map V.int) ∧ ns.length ≤ 63 ∧ ∀ H', Q (.bl true) H'
theorem ok_law (T : Txt K mg) : FnG P w K mg base CX0 10 T.f_law T.d_law ["_law_script"] (sp_law K) := by
  have G__law_bag := ok_bag (P := P) (w := w) (base := base) T
  have G__law_pick := ok_pick (P := P) (w := w) (base := base) T
  have G__law_new_name := ok_newname (P := P) (w := w) (base := base) T
  have G__law_form := ok_form (P := P) (w := w) (base := base) T 3
  have G__law_changing := ok_chg (P := P) (w := w) (base := base) T
  have G__law_mingled := FnOk.or (ok_mingled (P := P) (w := w) (base := base) T) (ok_mingledT (P := P) (w := w) (base := base) T)
  have G__law_some := ok_some (P := P) (w := w) (base := base) T
  have G__law_lot := ok_lot (P := P) (w := w) (base := base) T
  refine Fun.okG T.F_law sc_law (fun vs H Q E h => ?_) (fun cdv A outer s H vs Q E gd hr h => ?_)
  · obtain ⟨_, _, rfl, _⟩ := h
    rfl
  · obtain ⟨a, ns, rfl, hS, hl, q⟩ := h
    refine ⟨_, (pss_cons (ps_set (i := 1) sc_law.nd rfl (Or.inr rfl) (pe_call G__law_bag (hr.mono (by omega)) (by rfl) T.g__law_bag T.F__law_bag.kp T.b__law_bag .nil pass0 (pa_cons (pv 0) pa_nil)))
      (pss_cons (ps_set (i := 2) sc_law.nd rfl (Or.inr rfl) (pe_lst pa_nil))
      (pss_cons (ps_set (i := 3) sc_law.nd rfl (Or.inl rfl) (pe_callTy (call_tupleK (K := K) rfl) (by rfl) T.m_tuple (by decide +kernel) (pa_cons (pe_lc (own := [("_law_step", 9)]) (g := gName 9) (tt := tYes) (by rfl) sc_law.nd (pi_range1 (by rfl) T.m_range (pa_cons (pe_ix (ix_listK (K := K) rfl) (pe_lst (pa_cons pe_int (pa_cons pe_int (pa_cons pe_int (pa_cons pe_int pa_nil))))) (pe_call G__law_pick (hr.mono (by omega)) (by rfl) T.g__law_pick T.F__law_pick.kp T.b__law_pick .nil pass0 (pa_cons (pv 1) (pa_cons pe_int pa_nil))) (fun _ _ => rfl)) pa_nil)) (blkOk_by (own := [("_law_step", 9)]) (N := ["_law_script", "_law_bag_here", "_law_used", "_law_names", "_law_form_here", "_law_changing_here", "_law_needed", "_law_strange", "_law_other", "_law_step", "_law_one"]) (sc := defScope s_law) (by decide +kernel)) (fun _ _ _ _ _ => (pg_name (i := 9) sc_law.nd rfl (Or.inl rfl))) (fun _ _ _ _ _ => pts_nil) (fun _ _ _ _ _ => (pe_call G__law_new_name (hr.mono (by omega)) (by rfl) T.g__law_new_name T.F__law_new_name.kp T.b__law_new_name .nil pass0 (pa_cons (pv 1) (pa_cons (pv 2) pa_nil))))) pa_nil)))
      (pss_cons (ps_set (i := 4) sc_law.nd rfl (Or.inl rfl) (pe_call G__law_form (hr.mono (by omega)) (by rfl) T.g__law_form T.F__law_form.kp T.b__law_form .nil pass0 (pa_cons (pv 1) (pa_cons (pe_callTy (call_listK (K := K) rfl) (by rfl) T.m_list (by decide +kernel) (pa_cons (pv 3) pa_nil)) (pa_cons (pe_op op_add pe_int (pe_call G__law_pick (hr.mono (by omega)) (by rfl) T.g__law_pick T.F__law_pick.kp T.b__law_pick .nil pass0 (pa_cons (pv 1) (pa_cons pe_int pa_nil)))) pa_nil)))))
      (pss_cons (ps_set (i := 5) sc_law.nd rfl (Or.inr rfl) (pe_call G__law_changing (hr.mono (by omega)) (by rfl) T.g__law_changing T.F__law_changing.kp T.b__law_changing .nil pass0 (pa_cons (pv 4) (pa_cons (pv 3) pa_nil))))
      (pss_cons (ps_set (i := 6) sc_law.nd rfl (Or.inl rfl) (pe_callTy (call_tupleK (K := K) rfl) (by rfl) T.m_tuple (by decide +kernel) (pa_cons (pe_call G__law_mingled (hr.mono (by omega)) (by rfl) T.g__law_mingled T.F__law_mingled.kp T.b__law_mingled .nil pass0 (pa_cons (pv 1) (pa_cons (pe_lc (own := [("_law_one", 10)]) (g := gName 10)  (by rfl) sc_law.nd (pi_tupK (K := K) rfl (pv 3)) (blkOk_by (own := [("_law_one", 10)]) (N := ["_law_script", "_law_bag_here", "_law_used", "_law_names", "_law_form_here", "_law_changing_here", "_law_needed", "_law_strange", "_law_other", "_law_step", "_law_one"]) (sc := defScope s_law) (by decide +kernel)) (fun _ _ _ _ _ => (pg_name (i := 10) sc_law.nd rfl (Or.inl rfl))) (fun _ _ _ _ _ => (pts_one (pt_cmpR (op_inDK (K := K) rfl (hu65 hr)) (pe_tup (pa_cons (pv 10) pa_nil)) (pv 5) (by rfl)))) (fun _ _ _ _ _ => (pv 10))) pa_nil))) pa_nil)))
      (pss_cons (ps_set (i := 7) sc_law.nd rfl (Or.inl rfl) (pe_call G__law_new_name (hr.mono (by omega)) (by rfl) T.g__law_new_name T.F__law_new_name.kp T.b__law_new_name .nil pass0 (pa_cons (pv 1) (pa_cons (pv 2) pa_nil))))
      (pss_cons (ps_if (pt_not (pt_val (pe_callG G__law_lot gd (hr.mono (by omega)) (by rfl) T.g__law_lot T.F__law_lot.kp T.b__law_lot pass0 (pa_cons (pv 3) (pa_cons (pv 6) (pa_cons (pv 7) (pa_cons (pv 5) pa_nil))))))) (pss_one (ps_ret pe_bl)) pss_nil)
      (pss_cons (ps_set (i := 8) sc_law.nd rfl (Or.inl rfl) (pe_callTy (call_tupleK (K := K) rfl) (by rfl) T.m_tuple (by decide +kernel) (pa_cons (pe_call G__law_some (hr.mono (by omega)) (by rfl) T.g__law_some T.F__law_some.kp T.b__law_some .nil pass0 (pa_cons (pv 1) (pa_cons (pe_call G__law_mingled (hr.mono (by omega)) (by rfl) T.g__law_mingled T.F__law_mingled.kp T.b__law_mingled .nil pass0 (pa_cons (pv 1) (pa_cons (pv 3) pa_nil))) pa_nil))) pa_nil)))
      (pss_one (ps_ret (pe_callG G__law_lot gd (hr.mono (by omega)) (by rfl) T.g__law_lot T.F__law_lot.kp T.b__law_lot pass0 (pa_cons (pv 3) (pa_cons (pv 8) (pa_cons (pv 7) (pa_cons (pe_lst pa_nil) pa_nil)))))))))))))))), ?_⟩
    walk_at "g"
    refine ⟨a, ns, rfl, hS, hl, fun b H1 s1 nb hB1 => ?_⟩
    walk_at "g"
    refine ⟨szK rfl, fun u hu => ?_⟩
    have ub : u ≠ b := fun z => hB1.there (by rw [← z]; exact hu)
    have eu1 : upd H1 u (.lst []) u = some (.lst []) := upd_same
    have hB2 : Bag K (also (one b) u) (upd H1 u (.lst [])) b := (hB1.more hu).same (same_new hu)
    have hM2 : Mk (also (one b) u) (upd H1 u (.lst [])) := fun c z => by
      rcases z with z | z
      · rw [show c = b from z]; exact hB2.there
      · rw [show c = u from z]; exact upd_there
    generalize upd H1 u (.lst []) = H2 at eu1 hB2 hM2
    walk_at "g"
    refine ⟨szK rfl, fun l0 hl0 => ?_⟩
    have s3 : Same H2 (upd H2 l0 (.lst [.int 1, .int 2, .int 2, .int 3])) := same_new hl0
    have e3 : upd H2 l0 (.lst [.int 1, .int 2, .int 2, .int 3]) l0 = some (.lst [.int 1, .int 2, .int 2, .int 3]) := upd_same
    generalize upd H2 l0 (.lst [.int 1, .int 2, .int 2, .int 3]) = H3 at s3 e3
    have hB3 := hB2.same s3
    have hM3 := hM2.gr (Gr.same s3)
    have l0b : l0 ≠ b := fun z => hB2.there (by rw [← z]; exact hl0)
    walk_at "g"
    refine ⟨b, 4, _, rfl, hB3, by omega, by omega, fun w4 H4 a0 a1 hA4 hB4 => ?_⟩
    obtain ⟨n, hn, n1, n3⟩ := idx4 a0 a1
    have eu4 := (hA4 u ub).trans (s3 _ _ eu1)
    have hM4 := hM3.gr (At.gr hA4 hB4.there)
    walk_at "g"
    refine ⟨_, _, _, _, rfl, rfl, SqL.of ((hA4 l0 l0b).trans e3), hn, ?_⟩
    walk_at "g"
    refine ⟨by omega, by omega, fun D hD => ?_⟩
    have Db : D ≠ b := fun z => hB4.there (by rw [← z]; exact hD)
    have Du : D ≠ u := fun z => by rw [z, eu4] at hD; cases hD
    refine rng_loop (lo := 0) (n := (n : Int).toNat) (fun i H' => Bag K (also (also (one b) u) D) H' b ∧ Mk (also (also (one b) u) D) H' ∧ ∃ ws : List Str, H' u = some (.lst (ws.map V.str)) ∧ ws.length = i ∧ (∀ z ∈ ws, okN z) ∧ ws.Nodup ∧ H' D = some (.lst (ws.map V.str))) ⟨(hB4.more hD).same (same_new hD), (hM4.gr Gr.upd).also upd_there, [], (same_new hD) _ _ eu4, rfl, (fun _ h => nomatch h), List.nodup_nil, upd_same⟩ (fun i H' hi z => ?_) (fun H5 z => ?_)
    · obtain ⟨hB, hM, ws, eu, lw, hw, nd, eD⟩ := z
      refine ⟨rfl, ?_⟩
      walk_at "g"
      refine ⟨b, u, ws, _, rfl, hB, hM, .inl (.inr rfl), ub, eu, by omega, hw, fun H6 z s6 g6 hB6 eu6 okz nz => ?_⟩
      have eD6 := s6 _ _ (fun z => z.elim Db Du) eD
      refine ⟨_, eD6, small1000 (by rw [List.length_map]; omega), hB6.keep (N := one D) (Sx.put rfl) (Ne.symm Db) (one_le (.inr rfl)), (hM.gr g6).gr Gr.upd, ws ++ [z], (upd_ne (Ne.symm Du)).trans eu6, by rw [List.length_append, lw]; rfl, fun y hy => ?_, ?_, ?_⟩
      · rcases List.mem_append.mp hy with z | z
        · exact hw y z
        · rw [List.mem_singleton.mp z]; exact okz
      · rw [List.nodup_append]
        refine ⟨nd, by simp, fun x hx y hy e => nz ?_⟩
        rw [List.mem_singleton.mp hy] at e
        rw [← e]; exact hx
      · rw [upd_same, List.map_append]; rfl
    obtain ⟨hB5, hM5, ws, eu5, lw, hw, nd, eD5⟩ := z
    have okw : NmOk ws := ⟨by omega, by omega, nd, fun x hx => okN_nm (hw x hx)⟩
    have hB5 := hB5.less (N := also (one b) u) (.inl rfl) also_le
    have hM5 : Mk (also (one b) u) H5 := fun c z => hM5 c (.inl z)
    walk_at "g"
    refine ⟨D, _, rfl, .inl ⟨SqL.of eD5, fun p hp => ?_⟩⟩
    have s6 : Same H5 (upd H5 p (.tup (ws.map V.str))) := same_new hp
    have rp6 : Rp (also (one b) u) (upd H5 p (.tup (ws.map V.str))) (.ref p) (namesT ws) := names_new hM5 hp ws
    generalize upd H5 p (.tup (ws.map V.str)) = H6 at s6 rp6
    have hB6 := hB5.same s6
    have hM6 := hM5.gr (Gr.same s6)
    have eu6 := s6 _ _ eu5
    obtain ⟨p', ep', np, hp6⟩ := names_at rp6
    cases ep'
    walk_at "g"
    refine ⟨p, _, rfl, .inr (SqT.of hp6), fun l2 hl2 => ?_⟩
    have s7 : Same H6 (upd H6 l2 (.lst (ws.map V.str))) := same_new hl2
    have rl7 : Rp (also (one b) u) (upd H6 l2 (.lst (ws.map V.str))) (.ref l2) (namesD ws) := Rp.newL hM6 hl2 (RpAll.strs ws)
    generalize upd H6 l2 (.lst (ws.map V.str)) = H7 at s7 rl7
    have hB7 := hB6.same s7
    have hM7 := hM6.gr (Gr.same s7)
    walk_at "g"
    refine ⟨b, 2, _, rfl, hB7, by omega, by omega, fun w8 H8 b0 b1 hA8 hB8 => ?_⟩
    have hM8 := hM7.gr (At.gr hA8 hB8.there)
    have x8 : Sx (also (one b) u) H7 H8 := hA8.sx.le (one_le hB7.w)
    have eu8 := (hA8 u ub).trans (s7 _ _ eu6)
    walk_at "g"
    refine ⟨b, _, 2 + w8, ws, _, rfl, hB8, hM8, rl7.sx x8, (fun z => by rw [z] at lw; simp at lw; omega), by omega, by omega, by omega, fun v9 H9 d9 s9 g9 hB9 hR9 hd9 => ?_⟩
    obtain ⟨f, rfl, fd, fo⟩ := hd9
    have hM9 := hM8.gr g9
    have x9 : Sx (also (one b) u) H6 H9 := (Sx.same s7).trans (x8.trans (s9.le (one_le hB8.w)))
    have eu9 := s9 _ _ (fun z => ub z) eu8
    walk_at "g"
    refine ⟨v9, .ref p, f, ws, _, rfl, hR9, by omega, fo, rp6.sx x9, hM9, okw, fun H10 c cs s10 nc Lc hch lcs => ?_⟩
    have hB10 := hB9.same s10
    have hM10 := hM9.gr (Gr.same s10)
    have eu10 := s10 _ _ eu9
    have rp10 := (rp6.sx x9).sx (Sx.same s10)
    obtain ⟨p', ep', np, hp10⟩ := names_at rp10
    cases ep'
    have rc10 : Rp (also (one b) u) H10 (.ref c) (setsL cs) := Lc.rp
    have csok : ∀ s ∈ cs, (∀ x ∈ s, isNm x) ∧ s.length ≤ 3 := fun s hs => by
      have := (hch.needed okw.pos okw.le okw.nd (ne := ws) (fun x h _ => h) hs).1
      exact ⟨(okw.sub this).nm, (okw.sub this).le⟩
    walk_at "g"
    refine ⟨⟨_, SqT.of hp10⟩, fun D2 hD2 => ?_⟩
    refine vl_tup (ys := ws.map fun x => if decide ([x] ∈ cs) = true then some (V.str x) else none) hD2 (SqT.of hp10) (by rw [List.length_map, List.length_map]) (by rw [List.length_map]; omega) (fun i x y H' C N hx hy hs hC hN => ?_) (fun H11 s11 e11 => ?_)
    · rw [List.getElem?_map] at hx hy
      obtain ⟨x, hxn, rfl⟩ := Option.map_eq_some_iff.mp hx
      rw [hxn] at hy
      cases hy
      refine ⟨rfl, ?_⟩
      walk_at "g"
      refine ⟨szK rfl, fun t ht => ?_⟩
      have st : Same H' (upd H' t (.tup [.str x])) := same_new ht
      have rt : Rp (also (one b) u) (upd H' t (.tup [.str x])) (.ref t) (namesT [x]) := names_new (hM10.gr (Gr.same hs)) ht [x]
      generalize upd H' t (.tup [.str x]) = H'' at st rt
      walk_at "g"
      refine ⟨namesT [x], cs.map namesT, Rp.dp _ _ rt, Rp.dp _ _ (rc10.sx (Sx.same (hs.trans st))), (names_gd (ns := [x]) (fun y hy => by rw [List.mem_singleton.mp hy]; exact okw.nm x (List.mem_of_getElem? hxn)) (show 1 ≤ 3 by decide)).shaped (by decide), (setsL_gd csok).shaped (by decide), ?_⟩
      rw [namesT_any]
      cases cc : decide ([x] ∈ cs) with
      | true =>
        walk_at "g"
        exact hC _ (if_pos cc) _ st
      | false =>
        walk_at "g"
        exact hN (if_neg (by rw [cc]; exact Bool.false_ne_true)) _ st
    rw [opt_filter] at e11
    have hB11 := hB10.same s11
    have hM11 := hM10.gr (Gr.same s11)
    have eu11 := s11 _ _ eu10
    generalize hnd0 : ws.filter (fun x => decide ([x] ∈ cs)) = nd0 at e11
    have ln0 : nd0.length ≤ 3 := by rw [← hnd0]; exact Nat.le_trans (List.length_filter_le _ _) okw.le
    have r11 : Rp (also (one b) u) H11 (.ref D2) (.list (nd0.map PyData.str)) := .lst (hM10.out hD2) (.inl e11) (RpAll.strs _)
    walk_at "g"
    refine .inl ⟨b, _, _, _, rfl, hB11, hM11, r11, by rw [List.length_map]; omega, fun v12 H12 d12 s12 g12 hB12 hR12 hd12 => ?_⟩
    obtain ⟨es, rfl, hper⟩ := hd12
    obtain ⟨ndl, hpn, rfl⟩ := perm_strs hper
    obtain ⟨q12, qx, rfl, nq, hq, rq⟩ := hR12.lstN
    have := rq.ofStrs
    subst this
    have hM12 := hM11.gr g12
    have x12 : Sx (also (one b) u) H10 H12 := (Sx.same s11).trans (s12.le (one_le hB11.w))
    have eu12 := s12 _ _ (fun z => ub z) eu11
    walk_at "g"
    refine ⟨q12, _, rfl, .inl ⟨.inl hq, fun n1 hn1 => ?_⟩⟩
    have s13 : Same H12 (upd H12 n1 (.tup (ndl.map V.str))) := same_new hn1
    have rn13 : Rp (also (one b) u) (upd H12 n1 (.tup (ndl.map V.str))) (.ref n1) (namesT ndl) := names_new hM12 hn1 ndl
    generalize upd H12 n1 (.tup (ndl.map V.str)) = H13 at s13 rn13
    have hB13 := hB12.same s13
    have hM13 := hM12.gr (Gr.same s13)
    have eu13 := s13 _ _ eu12
    have lndl : ndl.length ≤ 3 := by rw [hpn.length_eq]; exact ln0
    walk_at "g"
    refine ⟨b, u, ws, _, rfl, hB13, hM13, .inr rfl, ub, eu13, by omega, hw, fun H14 z s14 g14 hB14 eu14 okz nz => ?_⟩
    have hM14 := hM13.gr g14
    have x14 : Sx (also (one b) u) H10 H14 := x12.trans ((Sx.same s13).trans s14)
    have hneed : ∀ s ∈ cs, s ∈ Sc.sets ws ∧ Sc.has ndl s = true := fun s hs => hch.needed okw.pos okw.le okw.nd (fun x hx hxc => by
      refine hpn.mem_iff.mpr ?_
      rw [← hnd0]
      exact List.mem_filter.mpr ⟨hx, decide_eq_true hxc⟩) hs
    walk_at "g"
    refine ⟨_, _, _, z, ws, ndl, cs, _, rfl, rp10.sx x14, rn13.sx s14, rc10.sx x14, hM14, okw, nz, lndl, hneed, lcs, fun H15 s15 => ?_⟩
    have hB15 := hB14.same s15
    have hM15 := hM14.gr (Gr.same s15)
    have rp15 := (rp10.sx x14).sx (Sx.same s15)
    walk_at "g"
    refine .inr ⟨b, _, _, _, rfl, hB15, hM15, rp15, by rw [List.length_map]; omega, fun v16 H16 d16 s16 g16 hB16 hR16 hd16 => ?_⟩
    obtain ⟨es2, rfl, hper2⟩ := hd16
    obtain ⟨ml, hpm, rfl⟩ := perm_strs hper2
    obtain ⟨q16, qx2, rfl, nq2, hq2, rq2⟩ := hR16.lstN
    have := rq2.ofStrs
    subst this
    have hM16 := hM15.gr g16
    have lml : ml.length ≤ 3 := by rw [hpm.length_eq]; exact okw.le
    walk_at "g"
    refine ⟨b, q16, ml, _, rfl, hB16, hM16, hq2, (fun z => nq2 (.inl z)), by omega, fun H17 q17 os s17 g17 hB17 nq17 e17 hos los => ?_⟩
    have hM17 := hM16.gr g17
    walk_at "g"
    refine ⟨q17, _, rfl, .inl ⟨SqL.of e17, fun n2 hn2 => ?_⟩⟩
    have s18 : Same H17 (upd H17 n2 (.tup (os.map V.str))) := same_new hn2
    have rn18 : Rp (also (one b) u) (upd H17 n2 (.tup (os.map V.str))) (.ref n2) (namesT os) := names_new hM17 hn2 os
    generalize upd H17 n2 (.tup (os.map V.str)) = H18 at s18 rn18
    have hM18 := hM17.gr (Gr.same s18)
    walk_at "g"
    refine ⟨by show 0 ≤ sizeLine; exact Nat.zero_le _, fun e0 he0 => ?_⟩
    have s19 : Same H18 (upd H18 e0 (.lst [])) := same_new he0
    have re19 : Rp (also (one b) u) (upd H18 e0 (.lst [])) (.ref e0) (setsL []) := Rp.newL hM18 he0 .nil
    have rp19 := (rp15.sx ((s16.le (one_le hB15.w)).trans ((s17.le (one_le hB16.w)).trans (Sx.same s18)))).sx (Sx.same s19)
    exact ⟨_, _, _, z, ws, os, [], _, rfl, rp19, rn18.sx (Sx.same s19), re19, hM18.gr (Gr.same s19), okw, nz, by omega, (fun _ h => nomatch h), by show 0 ≤ 1000; omega, fun _ _ => q _⟩
end
end D

namespace D
open PySem PySem.Spec PyProof.Rows L2
theorem all_mk {l : PySem.W.OpenLaw} {w : World} {K : PySem.W.Frag} {h : Heap} {mg : Str → Option Value} {fa : Addr} {f_all_sets f_is_name f__is_set f__check_names f__all_sets f__in_order f__has_needed f_spoiling f__law_mixed f__law_bag f__law_pick f__law_choice f__law_mingled f__law_number f__law_new_name f__law_form f__law_value f__law_some f__law_sets f__law_has f__law_combinations f__law_labels f__law_shown_needs f__law_changing f__law_settings_told f__law_triple f__law_lot f_law C_Schedule f_Schedule___init__ f_Schedule___contains__ f_Schedule___le__ f_Schedule___eq__ f_Schedule___iter__ f_Schedule_missed f_Schedule_least p_Schedule_least C_ScreenError C_BadNames f_BadNames___init__ : Addr} (X : K.In h) (G : h.Ns mainGlobals mg) (hfa : mg "law" = some (.ref fa))
    {od_all_sets an_all_sets : Option Addr} {sl_all_sets : Array (Option Value)} {oc_all_sets kV_all_sets dc_all_sets pm_all_sets cd_all_sets ct_all_sets : Value}
    (a_all_sets : PySem.W.nsIn K mainGlobals "all_sets" = some (some (.ref f_all_sets))) (l_all_sets : K.lookup f_all_sets = some ⟨oc_all_sets, od_all_sets, .func (PySem.W.fnOf "all_sets" "all_sets" (defArgs s_all_sets) (defBody s_all_sets) (defScope s_all_sets) .none kV_all_sets dc_all_sets pm_all_sets an_all_sets cd_all_sets ct_all_sets), sl_all_sets⟩) (c_all_sets : PySem.W.codeIn K cd_all_sets "all_sets" = true) (k_all_sets : PySem.W.keepIn K (.ref f_all_sets) = true)
    {od_is_name an_is_name : Option Addr} {sl_is_name : Array (Option Value)} {oc_is_name kV_is_name dc_is_name pm_is_name cd_is_name ct_is_name : Value}
    (a_is_name : PySem.W.nsIn K mainGlobals "is_name" = some (some (.ref f_is_name))) (l_is_name : K.lookup f_is_name = some ⟨oc_is_name, od_is_name, .func (PySem.W.fnOf "is_name" "is_name" (defArgs s_is_name) (defBody s_is_name) (defScope s_is_name) .none kV_is_name dc_is_name pm_is_name an_is_name cd_is_name ct_is_name), sl_is_name⟩) (c_is_name : PySem.W.codeIn K cd_is_name "is_name" = true) (k_is_name : PySem.W.keepIn K (.ref f_is_name) = true)
    {od__is_set an__is_set : Option Addr} {sl__is_set : Array (Option Value)} {oc__is_set kV__is_set dc__is_set pm__is_set cd__is_set ct__is_set : Value}
    (a__is_set : PySem.W.nsIn K mainGlobals "_is_set" = some (some (.ref f__is_set))) (l__is_set : K.lookup f__is_set = some ⟨oc__is_set, od__is_set, .func (PySem.W.fnOf "_is_set" "_is_set" (defArgs s__is_set) (defBody s__is_set) (defScope s__is_set) .none kV__is_set dc__is_set pm__is_set an__is_set cd__is_set ct__is_set), sl__is_set⟩) (c__is_set : PySem.W.codeIn K cd__is_set "_is_set" = true) (k__is_set : PySem.W.keepIn K (.ref f__is_set) = true)
    {od__check_names an__check_names : Option Addr} {sl__check_names : Array (Option Value)} {oc__check_names kV__check_names dc__check_names pm__check_names cd__check_names ct__check_names : Value}
    (a__check_names : PySem.W.nsIn K mainGlobals "_check_names" = some (some (.ref f__check_names))) (l__check_names : K.lookup f__check_names = some ⟨oc__check_names, od__check_names, .func (PySem.W.fnOf "_check_names" "_check_names" (defArgs s__check_names) (defBody s__check_names) (defScope s__check_names) .none kV__check_names dc__check_names pm__check_names an__check_names cd__check_names ct__check_names), sl__check_names⟩) (c__check_names : PySem.W.codeIn K cd__check_names "_check_names" = true) (k__check_names : PySem.W.keepIn K (.ref f__check_names) = true)
    {od__all_sets an__all_sets : Option Addr} {sl__all_sets : Array (Option Value)} {oc__all_sets kV__all_sets dc__all_sets pm__all_sets cd__all_sets ct__all_sets : Value}
    (a__all_sets : PySem.W.nsIn K mainGlobals "_all_sets" = some (some (.ref f__all_sets))) (l__all_sets : K.lookup f__all_sets = some ⟨oc__all_sets, od__all_sets, .func (PySem.W.fnOf "_all_sets" "_all_sets" (defArgs s__all_sets) (defBody s__all_sets) (defScope s__all_sets) .none kV__all_sets dc__all_sets pm__all_sets an__all_sets cd__all_sets ct__all_sets), sl__all_sets⟩) (c__all_sets : PySem.W.codeIn K cd__all_sets "_all_sets" = true) (k__all_sets : PySem.W.keepIn K (.ref f__all_sets) = true)
    {od__in_order an__in_order : Option Addr} {sl__in_order : Array (Option Value)} {oc__in_order kV__in_order dc__in_order pm__in_order cd__in_order ct__in_order : Value}
    (a__in_order : PySem.W.nsIn K mainGlobals "_in_order" = some (some (.ref f__in_order))) (l__in_order : K.lookup f__in_order = some ⟨oc__in_order, od__in_order, .func (PySem.W.fnOf "_in_order" "_in_order" (defArgs s__in_order) (defBody s__in_order) (defScope s__in_order) .none kV__in_order dc__in_order pm__in_order an__in_order cd__in_order ct__in_order), sl__in_order⟩) (c__in_order : PySem.W.codeIn K cd__in_order "_in_order" = true) (k__in_order : PySem.W.keepIn K (.ref f__in_order) = true)
    {od__has_needed an__has_needed : Option Addr} {sl__has_needed : Array (Option Value)} {oc__has_needed kV__has_needed dc__has_needed pm__has_needed cd__has_needed ct__has_needed : Value}
    (a__has_needed : PySem.W.nsIn K mainGlobals "_has_needed" = some (some (.ref f__has_needed))) (l__has_needed : K.lookup f__has_needed = some ⟨oc__has_needed, od__has_needed, .func (PySem.W.fnOf "_has_needed" "_has_needed" (defArgs s__has_needed) (defBody s__has_needed) (defScope s__has_needed) .none kV__has_needed dc__has_needed pm__has_needed an__has_needed cd__has_needed ct__has_needed), sl__has_needed⟩) (c__has_needed : PySem.W.codeIn K cd__has_needed "_has_needed" = true) (k__has_needed : PySem.W.keepIn K (.ref f__has_needed) = true)
    {od_spoiling an_spoiling : Option Addr} {sl_spoiling : Array (Option Value)} {oc_spoiling kV_spoiling dc_spoiling pm_spoiling cd_spoiling ct_spoiling : Value}
    (a_spoiling : PySem.W.nsIn K mainGlobals "spoiling" = some (some (.ref f_spoiling))) (l_spoiling : K.lookup f_spoiling = some ⟨oc_spoiling, od_spoiling, .func (PySem.W.fnOf "spoiling" "spoiling" (defArgs s_spoiling) (defBody s_spoiling) (defScope s_spoiling) .none kV_spoiling dc_spoiling pm_spoiling an_spoiling cd_spoiling ct_spoiling), sl_spoiling⟩) (c_spoiling : PySem.W.codeIn K cd_spoiling "spoiling" = true) (k_spoiling : PySem.W.keepIn K (.ref f_spoiling) = true)
    {od__law_mixed an__law_mixed : Option Addr} {sl__law_mixed : Array (Option Value)} {oc__law_mixed kV__law_mixed dc__law_mixed pm__law_mixed cd__law_mixed ct__law_mixed : Value}
    (a__law_mixed : PySem.W.nsIn K mainGlobals "_law_mixed" = some (some (.ref f__law_mixed))) (l__law_mixed : K.lookup f__law_mixed = some ⟨oc__law_mixed, od__law_mixed, .func (PySem.W.fnOf "_law_mixed" "_law_mixed" (defArgs s__law_mixed) (defBody s__law_mixed) (defScope s__law_mixed) .none kV__law_mixed dc__law_mixed pm__law_mixed an__law_mixed cd__law_mixed ct__law_mixed), sl__law_mixed⟩) (c__law_mixed : PySem.W.codeIn K cd__law_mixed "_law_mixed" = true) (k__law_mixed : PySem.W.keepIn K (.ref f__law_mixed) = true)
    {od__law_bag an__law_bag : Option Addr} {sl__law_bag : Array (Option Value)} {oc__law_bag kV__law_bag dc__law_bag pm__law_bag cd__law_bag ct__law_bag : Value}
    (a__law_bag : PySem.W.nsIn K mainGlobals "_law_bag" = some (some (.ref f__law_bag))) (l__law_bag : K.lookup f__law_bag = some ⟨oc__law_bag, od__law_bag, .func (PySem.W.fnOf "_law_bag" "_law_bag" (defArgs s__law_bag) (defBody s__law_bag) (defScope s__law_bag) .none kV__law_bag dc__law_bag pm__law_bag an__law_bag cd__law_bag ct__law_bag), sl__law_bag⟩) (c__law_bag : PySem.W.codeIn K cd__law_bag "_law_bag" = true) (k__law_bag : PySem.W.keepIn K (.ref f__law_bag) = true)
    {od__law_pick an__law_pick : Option Addr} {sl__law_pick : Array (Option Value)} {oc__law_pick kV__law_pick dc__law_pick pm__law_pick cd__law_pick ct__law_pick : Value}
    (a__law_pick : PySem.W.nsIn K mainGlobals "_law_pick" = some (some (.ref f__law_pick))) (l__law_pick : K.lookup f__law_pick = some ⟨oc__law_pick, od__law_pick, .func (PySem.W.fnOf "_law_pick" "_law_pick" (defArgs s__law_pick) (defBody s__law_pick) (defScope s__law_pick) .none kV__law_pick dc__law_pick pm__law_pick an__law_pick cd__law_pick ct__law_pick), sl__law_pick⟩) (c__law_pick : PySem.W.codeIn K cd__law_pick "_law_pick" = true) (k__law_pick : PySem.W.keepIn K (.ref f__law_pick) = true)
    {od__law_choice an__law_choice : Option Addr} {sl__law_choice : Array (Option Value)} {oc__law_choice kV__law_choice dc__law_choice pm__law_choice cd__law_choice ct__law_choice : Value}
    (a__law_choice : PySem.W.nsIn K mainGlobals "_law_choice" = some (some (.ref f__law_choice))) (l__law_choice : K.lookup f__law_choice = some ⟨oc__law_choice, od__law_choice, .func (PySem.W.fnOf "_law_choice" "_law_choice" (defArgs s__law_choice) (defBody s__law_choice) (defScope s__law_choice) .none kV__law_choice dc__law_choice pm__law_choice an__law_choice cd__law_choice ct__law_choice), sl__law_choice⟩) (c__law_choice : PySem.W.codeIn K cd__law_choice "_law_choice" = true) (k__law_choice : PySem.W.keepIn K (.ref f__law_choice) = true)
    {od__law_mingled an__law_mingled : Option Addr} {sl__law_mingled : Array (Option Value)} {oc__law_mingled kV__law_mingled dc__law_mingled pm__law_mingled cd__law_mingled ct__law_mingled : Value}
    (a__law_mingled : PySem.W.nsIn K mainGlobals "_law_mingled" = some (some (.ref f__law_mingled))) (l__law_mingled : K.lookup f__law_mingled = some ⟨oc__law_mingled, od__law_mingled, .func (PySem.W.fnOf "_law_mingled" "_law_mingled" (defArgs s__law_mingled) (defBody s__law_mingled) (defScope s__law_mingled) .none kV__law_mingled dc__law_mingled pm__law_mingled an__law_mingled cd__law_mingled ct__law_mingled), sl__law_mingled⟩) (c__law_mingled : PySem.W.codeIn K cd__law_mingled "_law_mingled" = true) (k__law_mingled : PySem.W.keepIn K (.ref f__law_mingled) = true)
    {od__law_number an__law_number : Option Addr} {sl__law_number : Array (Option Value)} {oc__law_number kV__law_number dc__law_number pm__law_number cd__law_number ct__law_number : Value}
    (a__law_number : PySem.W.nsIn K mainGlobals "_law_number" = some (some (.ref f__law_number))) (l__law_number : K.lookup f__law_number = some ⟨oc__law_number, od__law_number, .func (PySem.W.fnOf "_law_number" "_law_number" (defArgs s__law_number) (defBody s__law_number) (defScope s__law_number) .none kV__law_number dc__law_number pm__law_number an__law_number cd__law_number ct__law_number), sl__law_number⟩) (c__law_number : PySem.W.codeIn K cd__law_number "_law_number" = true) (k__law_number : PySem.W.keepIn K (.ref f__law_number) = true)
    {od__law_new_name an__law_new_name : Option Addr} {sl__law_new_name : Array (Option Value)} {oc__law_new_name kV__law_new_name dc__law_new_name pm__law_new_name cd__law_new_name ct__law_new_name : Value}
    (a__law_new_name : PySem.W.nsIn K mainGlobals "_law_new_name" = some (some (.ref f__law_new_name))) (l__law_new_name : K.lookup f__law_new_name = some ⟨oc__law_new_name, od__law_new_name, .func (PySem.W.fnOf "_law_new_name" "_law_new_name" (defArgs s__law_new_name) (defBody s__law_new_name) (defScope s__law_new_name) .none kV__law_new_name dc__law_new_name pm__law_new_name an__law_new_name cd__law_new_name ct__law_new_name), sl__law_new_name⟩) (c__law_new_name : PySem.W.codeIn K cd__law_new_name "_law_new_name" = true) (k__law_new_name : PySem.W.keepIn K (.ref f__law_new_name) = true)
    {od__law_form an__law_form : Option Addr} {sl__law_form : Array (Option Value)} {oc__law_form kV__law_form dc__law_form pm__law_form cd__law_form ct__law_form : Value}
    (a__law_form : PySem.W.nsIn K mainGlobals "_law_form" = some (some (.ref f__law_form))) (l__law_form : K.lookup f__law_form = some ⟨oc__law_form, od__law_form, .func (PySem.W.fnOf "_law_form" "_law_form" (defArgs s__law_form) (defBody s__law_form) (defScope s__law_form) .none kV__law_form dc__law_form pm__law_form an__law_form cd__law_form ct__law_form), sl__law_form⟩) (c__law_form : PySem.W.codeIn K cd__law_form "_law_form" = true) (k__law_form : PySem.W.keepIn K (.ref f__law_form) = true)
    {od__law_value an__law_value : Option Addr} {sl__law_value : Array (Option Value)} {oc__law_value kV__law_value dc__law_value pm__law_value cd__law_value ct__law_value : Value}
    (a__law_value : PySem.W.nsIn K mainGlobals "_law_value" = some (some (.ref f__law_value))) (l__law_value : K.lookup f__law_value = some ⟨oc__law_value, od__law_value, .func (PySem.W.fnOf "_law_value" "_law_value" (defArgs s__law_value) (defBody s__law_value) (defScope s__law_value) .none kV__law_value dc__law_value pm__law_value an__law_value cd__law_value ct__law_value), sl__law_value⟩) (c__law_value : PySem.W.codeIn K cd__law_value "_law_value" = true) (k__law_value : PySem.W.keepIn K (.ref f__law_value) = true)
    {od__law_some an__law_some : Option Addr} {sl__law_some : Array (Option Value)} {oc__law_some kV__law_some dc__law_some pm__law_some cd__law_some ct__law_some : Value}
    (a__law_some : PySem.W.nsIn K mainGlobals "_law_some" = some (some (.ref f__law_some))) (l__law_some : K.lookup f__law_some = some ⟨oc__law_some, od__law_some, .func (PySem.W.fnOf "_law_some" "_law_some" (defArgs s__law_some) (defBody s__law_some) (defScope s__law_some) .none kV__law_some dc__law_some pm__law_some an__law_some cd__law_some ct__law_some), sl__law_some⟩) (c__law_some : PySem.W.codeIn K cd__law_some "_law_some" = true) (k__law_some : PySem.W.keepIn K (.ref f__law_some) = true)
    {od__law_sets an__law_sets : Option Addr} {sl__law_sets : Array (Option Value)} {oc__law_sets kV__law_sets dc__law_sets pm__law_sets cd__law_sets ct__law_sets : Value}
    (a__law_sets : PySem.W.nsIn K mainGlobals "_law_sets" = some (some (.ref f__law_sets))) (l__law_sets : K.lookup f__law_sets = some ⟨oc__law_sets, od__law_sets, .func (PySem.W.fnOf "_law_sets" "_law_sets" (defArgs s__law_sets) (defBody s__law_sets) (defScope s__law_sets) .none kV__law_sets dc__law_sets pm__law_sets an__law_sets cd__law_sets ct__law_sets), sl__law_sets⟩) (c__law_sets : PySem.W.codeIn K cd__law_sets "_law_sets" = true) (k__law_sets : PySem.W.keepIn K (.ref f__law_sets) = true)
    {od__law_has an__law_has : Option Addr} {sl__law_has : Array (Option Value)} {oc__law_has kV__law_has dc__law_has pm__law_has cd__law_has ct__law_has : Value}
    (a__law_has : PySem.W.nsIn K mainGlobals "_law_has" = some (some (.ref f__law_has))) (l__law_has : K.lookup f__law_has = some ⟨oc__law_has, od__law_has, .func (PySem.W.fnOf "_law_has" "_law_has" (defArgs s__law_has) (defBody s__law_has) (defScope s__law_has) .none kV__law_has dc__law_has pm__law_has an__law_has cd__law_has ct__law_has), sl__law_has⟩) (c__law_has : PySem.W.codeIn K cd__law_has "_law_has" = true) (k__law_has : PySem.W.keepIn K (.ref f__law_has) = true)
    {od__law_combinations an__law_combinations : Option Addr} {sl__law_combinations : Array (Option Value)} {oc__law_combinations kV__law_combinations dc__law_combinations pm__law_combinations cd__law_combinations ct__law_combinations : Value}
    (a__law_combinations : PySem.W.nsIn K mainGlobals "_law_combinations" = some (some (.ref f__law_combinations))) (l__law_combinations : K.lookup f__law_combinations = some ⟨oc__law_combinations, od__law_combinations, .func (PySem.W.fnOf "_law_combinations" "_law_combinations" (defArgs s__law_combinations) (defBody s__law_combinations) (defScope s__law_combinations) .none kV__law_combinations dc__law_combinations pm__law_combinations an__law_combinations cd__law_combinations ct__law_combinations), sl__law_combinations⟩) (c__law_combinations : PySem.W.codeIn K cd__law_combinations "_law_combinations" = true) (k__law_combinations : PySem.W.keepIn K (.ref f__law_combinations) = true)
    {od__law_labels an__law_labels : Option Addr} {sl__law_labels : Array (Option Value)} {oc__law_labels kV__law_labels dc__law_labels pm__law_labels cd__law_labels ct__law_labels : Value}
    (a__law_labels : PySem.W.nsIn K mainGlobals "_law_labels" = some (some (.ref f__law_labels))) (l__law_labels : K.lookup f__law_labels = some ⟨oc__law_labels, od__law_labels, .func (PySem.W.fnOf "_law_labels" "_law_labels" (defArgs s__law_labels) (defBody s__law_labels) (defScope s__law_labels) .none kV__law_labels dc__law_labels pm__law_labels an__law_labels cd__law_labels ct__law_labels), sl__law_labels⟩) (c__law_labels : PySem.W.codeIn K cd__law_labels "_law_labels" = true) (k__law_labels : PySem.W.keepIn K (.ref f__law_labels) = true)
    {od__law_shown_needs an__law_shown_needs : Option Addr} {sl__law_shown_needs : Array (Option Value)} {oc__law_shown_needs kV__law_shown_needs dc__law_shown_needs pm__law_shown_needs cd__law_shown_needs ct__law_shown_needs : Value}
    (a__law_shown_needs : PySem.W.nsIn K mainGlobals "_law_shown_needs" = some (some (.ref f__law_shown_needs))) (l__law_shown_needs : K.lookup f__law_shown_needs = some ⟨oc__law_shown_needs, od__law_shown_needs, .func (PySem.W.fnOf "_law_shown_needs" "_law_shown_needs" (defArgs s__law_shown_needs) (defBody s__law_shown_needs) (defScope s__law_shown_needs) .none kV__law_shown_needs dc__law_shown_needs pm__law_shown_needs an__law_shown_needs cd__law_shown_needs ct__law_shown_needs), sl__law_shown_needs⟩) (c__law_shown_needs : PySem.W.codeIn K cd__law_shown_needs "_law_shown_needs" = true) (k__law_shown_needs : PySem.W.keepIn K (.ref f__law_shown_needs) = true)
    {od__law_changing an__law_changing : Option Addr} {sl__law_changing : Array (Option Value)} {oc__law_changing kV__law_changing dc__law_changing pm__law_changing cd__law_changing ct__law_changing : Value}
    (a__law_changing : PySem.W.nsIn K mainGlobals "_law_changing" = some (some (.ref f__law_changing))) (l__law_changing : K.lookup f__law_changing = some ⟨oc__law_changing, od__law_changing, .func (PySem.W.fnOf "_law_changing" "_law_changing" (defArgs s__law_changing) (defBody s__law_changing) (defScope s__law_changing) .none kV__law_changing dc__law_changing pm__law_changing an__law_changing cd__law_changing ct__law_changing), sl__law_changing⟩) (c__law_changing : PySem.W.codeIn K cd__law_changing "_law_changing" = true) (k__law_changing : PySem.W.keepIn K (.ref f__law_changing) = true)
    {od__law_settings_told an__law_settings_told : Option Addr} {sl__law_settings_told : Array (Option Value)} {oc__law_settings_told kV__law_settings_told dc__law_settings_told pm__law_settings_told cd__law_settings_told ct__law_settings_told : Value}
    (a__law_settings_told : PySem.W.nsIn K mainGlobals "_law_settings_told" = some (some (.ref f__law_settings_told))) (l__law_settings_told : K.lookup f__law_settings_told = some ⟨oc__law_settings_told, od__law_settings_told, .func (PySem.W.fnOf "_law_settings_told" "_law_settings_told" (defArgs s__law_settings_told) (defBody s__law_settings_told) (defScope s__law_settings_told) .none kV__law_settings_told dc__law_settings_told pm__law_settings_told an__law_settings_told cd__law_settings_told ct__law_settings_told), sl__law_settings_told⟩) (c__law_settings_told : PySem.W.codeIn K cd__law_settings_told "_law_settings_told" = true) (k__law_settings_told : PySem.W.keepIn K (.ref f__law_settings_told) = true)
    {od__law_triple an__law_triple : Option Addr} {sl__law_triple : Array (Option Value)} {oc__law_triple kV__law_triple dc__law_triple pm__law_triple cd__law_triple ct__law_triple : Value}
    (a__law_triple : PySem.W.nsIn K mainGlobals "_law_triple" = some (some (.ref f__law_triple))) (l__law_triple : K.lookup f__law_triple = some ⟨oc__law_triple, od__law_triple, .func (PySem.W.fnOf "_law_triple" "_law_triple" (defArgs s__law_triple) (defBody s__law_triple) (defScope s__law_triple) .none kV__law_triple dc__law_triple pm__law_triple an__law_triple cd__law_triple ct__law_triple), sl__law_triple⟩) (c__law_triple : PySem.W.codeIn K cd__law_triple "_law_triple" = true) (k__law_triple : PySem.W.keepIn K (.ref f__law_triple) = true)
    {od__law_lot an__law_lot : Option Addr} {sl__law_lot : Array (Option Value)} {oc__law_lot kV__law_lot dc__law_lot pm__law_lot cd__law_lot ct__law_lot : Value}
    (a__law_lot : PySem.W.nsIn K mainGlobals "_law_lot" = some (some (.ref f__law_lot))) (l__law_lot : K.lookup f__law_lot = some ⟨oc__law_lot, od__law_lot, .func (PySem.W.fnOf "_law_lot" "_law_lot" (defArgs s__law_lot) (defBody s__law_lot) (defScope s__law_lot) .none kV__law_lot dc__law_lot pm__law_lot an__law_lot cd__law_lot ct__law_lot), sl__law_lot⟩) (c__law_lot : PySem.W.codeIn K cd__law_lot "_law_lot" = true) (k__law_lot : PySem.W.keepIn K (.ref f__law_lot) = true)
    {od_law an_law : Option Addr} {sl_law : Array (Option Value)} {oc_law kV_law dc_law pm_law cd_law ct_law : Value}
    (a_law : PySem.W.nsIn K mainGlobals "law" = some (some (.ref f_law))) (l_law : K.lookup f_law = some ⟨oc_law, od_law, .func (PySem.W.fnOf "law" "law" (defArgs s_law) (defBody s_law) (defScope s_law) .none kV_law dc_law pm_law an_law cd_law ct_law), sl_law⟩) (c_law : PySem.W.codeIn K cd_law "law" = true) (k_law : PySem.W.keepIn K (.ref f_law) = true)
    (aC_Schedule : PySem.W.nsIn K mainGlobals "Schedule" = some (some (.ref C_Schedule))) (pg_Schedule : PySem.W.plainGet K C_Schedule Str.empty = true) (hd_Schedule : PySem.W.hasDictIn K C_Schedule = true) (po_Schedule : PySem.W.plainOver K C_Schedule = true) (sa_Schedule : PySem.W.findIn K (.ref C_Schedule) "__setattr__" = some (some (.builtin "object.__setattr__"))) (mk_Schedule : PySem.W.makesIn K C_Schedule = true) (kc_Schedule : PySem.W.keepIn K (.ref C_Schedule) = true) (nf_Schedule : PySem.W.notFirst K C_Schedule (.ref C_Schedule) = true) (ih_Schedule : PySem.W.findIn K (.ref C_Schedule) "__class__" = some (some (.builtin "object.__class__"))) (ig_Schedule : PySem.W.specialIn K (.builtin "object.__class__") "__get__" = some (some (.builtin "getset_descriptor.__get__"))) (it_Schedule : PySem.W.takesIn K (.builtin "object.__class__") = some true) (io_Schedule : PySem.W.mroIn K C_Schedule (.type "object") = some true) (ik_Schedule : PySem.W.kitOne K (.ref C_Schedule) (.ref C_Schedule) = some true)
    (nA_Schedule__names : PySem.W.findIn K (.ref C_Schedule) "_names" = some none)
    (nA_Schedule__sets : PySem.W.findIn K (.ref C_Schedule) "_sets" = some none)
    {od_Schedule___init__ an_Schedule___init__ : Option Addr} {sl_Schedule___init__ : Array (Option Value)} {oc_Schedule___init__ kV_Schedule___init__ dc_Schedule___init__ pm_Schedule___init__ cd_Schedule___init__ ct_Schedule___init__ : Value}
    (a_Schedule___init__ : PySem.W.findIn K (.ref C_Schedule) "__init__" = some (some (.ref f_Schedule___init__))) (i_Schedule___init__ : PySem.W.isFn K (.ref f_Schedule___init__) = true) (n_Schedule___init__ : PySem.W.fnIn K f_Schedule___init__ = true)
    (l_Schedule___init__ : K.lookup f_Schedule___init__ = some ⟨oc_Schedule___init__, od_Schedule___init__, .func (PySem.W.fnOf "__init__" "Schedule.__init__" (defArgs s_Schedule___init__) (defBody s_Schedule___init__) (defScope s_Schedule___init__) .none kV_Schedule___init__ dc_Schedule___init__ pm_Schedule___init__ an_Schedule___init__ cd_Schedule___init__ ct_Schedule___init__), sl_Schedule___init__⟩) (c_Schedule___init__ : PySem.W.codeIn K cd_Schedule___init__ "Schedule.__init__" = true) (k_Schedule___init__ : PySem.W.keepIn K (.ref f_Schedule___init__) = true)
    {od_Schedule___contains__ an_Schedule___contains__ : Option Addr} {sl_Schedule___contains__ : Array (Option Value)} {oc_Schedule___contains__ kV_Schedule___contains__ dc_Schedule___contains__ pm_Schedule___contains__ cd_Schedule___contains__ ct_Schedule___contains__ : Value}
    (a_Schedule___contains__ : PySem.W.findIn K (.ref C_Schedule) "__contains__" = some (some (.ref f_Schedule___contains__))) (i_Schedule___contains__ : PySem.W.isFn K (.ref f_Schedule___contains__) = true) (n_Schedule___contains__ : PySem.W.fnIn K f_Schedule___contains__ = true)
    (l_Schedule___contains__ : K.lookup f_Schedule___contains__ = some ⟨oc_Schedule___contains__, od_Schedule___contains__, .func (PySem.W.fnOf "__contains__" "Schedule.__contains__" (defArgs s_Schedule___contains__) (defBody s_Schedule___contains__) (defScope s_Schedule___contains__) .none kV_Schedule___contains__ dc_Schedule___contains__ pm_Schedule___contains__ an_Schedule___contains__ cd_Schedule___contains__ ct_Schedule___contains__), sl_Schedule___contains__⟩) (c_Schedule___contains__ : PySem.W.codeIn K cd_Schedule___contains__ "Schedule.__contains__" = true) (k_Schedule___contains__ : PySem.W.keepIn K (.ref f_Schedule___contains__) = true)
    {od_Schedule___le__ an_Schedule___le__ : Option Addr} {sl_Schedule___le__ : Array (Option Value)} {oc_Schedule___le__ kV_Schedule___le__ dc_Schedule___le__ pm_Schedule___le__ cd_Schedule___le__ ct_Schedule___le__ : Value}
    (a_Schedule___le__ : PySem.W.findIn K (.ref C_Schedule) "__le__" = some (some (.ref f_Schedule___le__))) (i_Schedule___le__ : PySem.W.isFn K (.ref f_Schedule___le__) = true) (n_Schedule___le__ : PySem.W.fnIn K f_Schedule___le__ = true)
    (l_Schedule___le__ : K.lookup f_Schedule___le__ = some ⟨oc_Schedule___le__, od_Schedule___le__, .func (PySem.W.fnOf "__le__" "Schedule.__le__" (defArgs s_Schedule___le__) (defBody s_Schedule___le__) (defScope s_Schedule___le__) .none kV_Schedule___le__ dc_Schedule___le__ pm_Schedule___le__ an_Schedule___le__ cd_Schedule___le__ ct_Schedule___le__), sl_Schedule___le__⟩) (c_Schedule___le__ : PySem.W.codeIn K cd_Schedule___le__ "Schedule.__le__" = true) (k_Schedule___le__ : PySem.W.keepIn K (.ref f_Schedule___le__) = true)
    {od_Schedule___eq__ an_Schedule___eq__ : Option Addr} {sl_Schedule___eq__ : Array (Option Value)} {oc_Schedule___eq__ kV_Schedule___eq__ dc_Schedule___eq__ pm_Schedule___eq__ cd_Schedule___eq__ ct_Schedule___eq__ : Value}
    (a_Schedule___eq__ : PySem.W.findIn K (.ref C_Schedule) "__eq__" = some (some (.ref f_Schedule___eq__))) (i_Schedule___eq__ : PySem.W.isFn K (.ref f_Schedule___eq__) = true) (n_Schedule___eq__ : PySem.W.fnIn K f_Schedule___eq__ = true)
    (l_Schedule___eq__ : K.lookup f_Schedule___eq__ = some ⟨oc_Schedule___eq__, od_Schedule___eq__, .func (PySem.W.fnOf "__eq__" "Schedule.__eq__" (defArgs s_Schedule___eq__) (defBody s_Schedule___eq__) (defScope s_Schedule___eq__) .none kV_Schedule___eq__ dc_Schedule___eq__ pm_Schedule___eq__ an_Schedule___eq__ cd_Schedule___eq__ ct_Schedule___eq__), sl_Schedule___eq__⟩) (c_Schedule___eq__ : PySem.W.codeIn K cd_Schedule___eq__ "Schedule.__eq__" = true) (k_Schedule___eq__ : PySem.W.keepIn K (.ref f_Schedule___eq__) = true)
    {od_Schedule___iter__ an_Schedule___iter__ : Option Addr} {sl_Schedule___iter__ : Array (Option Value)} {oc_Schedule___iter__ kV_Schedule___iter__ dc_Schedule___iter__ pm_Schedule___iter__ cd_Schedule___iter__ ct_Schedule___iter__ : Value}
    (a_Schedule___iter__ : PySem.W.findIn K (.ref C_Schedule) "__iter__" = some (some (.ref f_Schedule___iter__))) (i_Schedule___iter__ : PySem.W.isFn K (.ref f_Schedule___iter__) = true) (n_Schedule___iter__ : PySem.W.fnIn K f_Schedule___iter__ = true)
    (l_Schedule___iter__ : K.lookup f_Schedule___iter__ = some ⟨oc_Schedule___iter__, od_Schedule___iter__, .func (PySem.W.fnOf "__iter__" "Schedule.__iter__" (defArgs s_Schedule___iter__) (defBody s_Schedule___iter__) (defScope s_Schedule___iter__) .none kV_Schedule___iter__ dc_Schedule___iter__ pm_Schedule___iter__ an_Schedule___iter__ cd_Schedule___iter__ ct_Schedule___iter__), sl_Schedule___iter__⟩) (c_Schedule___iter__ : PySem.W.codeIn K cd_Schedule___iter__ "Schedule.__iter__" = true) (k_Schedule___iter__ : PySem.W.keepIn K (.ref f_Schedule___iter__) = true)
    {od_Schedule_missed an_Schedule_missed : Option Addr} {sl_Schedule_missed : Array (Option Value)} {oc_Schedule_missed kV_Schedule_missed dc_Schedule_missed pm_Schedule_missed cd_Schedule_missed ct_Schedule_missed : Value}
    (a_Schedule_missed : PySem.W.findIn K (.ref C_Schedule) "missed" = some (some (.ref f_Schedule_missed))) (i_Schedule_missed : PySem.W.isFn K (.ref f_Schedule_missed) = true) (n_Schedule_missed : PySem.W.fnIn K f_Schedule_missed = true)
    (l_Schedule_missed : K.lookup f_Schedule_missed = some ⟨oc_Schedule_missed, od_Schedule_missed, .func (PySem.W.fnOf "missed" "Schedule.missed" (defArgs s_Schedule_missed) (defBody s_Schedule_missed) (defScope s_Schedule_missed) .none kV_Schedule_missed dc_Schedule_missed pm_Schedule_missed an_Schedule_missed cd_Schedule_missed ct_Schedule_missed), sl_Schedule_missed⟩) (c_Schedule_missed : PySem.W.codeIn K cd_Schedule_missed "Schedule.missed" = true) (k_Schedule_missed : PySem.W.keepIn K (.ref f_Schedule_missed) = true)
    {od_Schedule_least an_Schedule_least : Option Addr} {sl_Schedule_least : Array (Option Value)} {oc_Schedule_least kV_Schedule_least dc_Schedule_least pm_Schedule_least cd_Schedule_least ct_Schedule_least : Value}
    {re_Schedule_least : List Value} (at_Schedule_least : PySem.W.findCls K (.ref C_Schedule) (.type "type") "least" = some (.get (.builtin "staticmethod.__get__") (.ref p_Schedule_least) .none (.ref C_Schedule))) (rd_Schedule_least : PySem.W.readsIn K C_Schedule (.type "type") = true) (ga_Schedule_least : PySem.W.specialIn K (.ref C_Schedule) "__getattribute__" = some (some (.builtin "type.__getattribute__"))) (re1_Schedule_least : PySem.W.recIn K p_Schedule_least "staticmethod" = some (.ref f_Schedule_least :: re_Schedule_least))
    (l_Schedule_least : K.lookup f_Schedule_least = some ⟨oc_Schedule_least, od_Schedule_least, .func (PySem.W.fnOf "least" "Schedule.least" (defArgs s_Schedule_least) (defBody s_Schedule_least) (defScope s_Schedule_least) .none kV_Schedule_least dc_Schedule_least pm_Schedule_least an_Schedule_least cd_Schedule_least ct_Schedule_least), sl_Schedule_least⟩) (c_Schedule_least : PySem.W.codeIn K cd_Schedule_least "Schedule.least" = true) (k_Schedule_least : PySem.W.keepIn K (.ref f_Schedule_least) = true)
    (aC_ScreenError : PySem.W.nsIn K mainGlobals "ScreenError" = some (some (.ref C_ScreenError))) (hd_ScreenError : PySem.W.hasDictIn K C_ScreenError = true) (ty_ScreenError : PySem.W.typeIn K (.ref C_ScreenError) = some (.type "type")) (be_ScreenError : PySem.W.subIn K (.ref C_ScreenError) (.type "BaseException") = some true) (vb_ScreenError : PySem.W.subIn K (.ref C_ScreenError) (.type "ValueError") = some true)
    (aC_BadNames : PySem.W.nsIn K mainGlobals "BadNames" = some (some (.ref C_BadNames))) (hd_BadNames : PySem.W.hasDictIn K C_BadNames = true) (ty_BadNames : PySem.W.typeIn K (.ref C_BadNames) = some (.type "type")) (be_BadNames : PySem.W.subIn K (.ref C_BadNames) (.type "BaseException") = some true) (vb_BadNames : PySem.W.subIn K (.ref C_BadNames) (.type "ValueError") = some true)
    {nm_BadNames q_BadNames : Str} {N_BadNames : Addr} {bs_BadNames bm_BadNames : List Value} {sn_BadNames : List Str} {sub_BadNames : List Value} {ab_BadNames : Bool} {col_BadNames : Option Bool} {dd_BadNames : Option Addr} {k0_BadNames k1_BadNames k2_BadNames k3_BadNames k5_BadNames : Option Value} (lx_BadNames : K.lookup C_BadNames = some (excClassObj nm_BadNames q_BadNames C_BadNames N_BadNames bs_BadNames bm_BadNames true sn_BadNames sub_BadNames ab_BadNames col_BadNames dd_BadNames k0_BadNames k1_BadNames k2_BadNames k3_BadNames k5_BadNames "ValueError.__new__")) (rv_BadNames : PySem.HandSPX.refsVE bm_BadNames = true)
    (sa_BadNames : PySem.W.findIn K (.ref C_BadNames) "__setattr__" = some (some (.builtin "object.__setattr__"))) (kc_BadNames : PySem.W.keepIn K (.ref C_BadNames) = true) (ga_BadNames : PySem.W.findIn K (.ref C_BadNames) "__getattribute__" = some (some (.builtin "BaseException.__getattribute__"))) (gg_BadNames : PySem.W.findIn K (.ref C_BadNames) "__getattr__" = some none) (ca_BadNames : PySem.W.findIn K (.ref C_BadNames) "__class__" = some (some (.builtin "object.__class__"))) (cg_BadNames : PySem.W.specialIn K (.builtin "object.__class__") "__get__" = some (some (.builtin "getset_descriptor.__get__"))) (ck_BadNames : PySem.W.takesIn K (.builtin "object.__class__") = some true) (mo_BadNames : PySem.W.mroIn K C_BadNames (.type "object") = some true)
    {od_BadNames___init__ an_BadNames___init__ : Option Addr} {sl_BadNames___init__ : Array (Option Value)} {oc_BadNames___init__ kV_BadNames___init__ dc_BadNames___init__ pm_BadNames___init__ cd_BadNames___init__ ct_BadNames___init__ : Value} (iC_BadNames : PySem.W.findIn K (.ref C_BadNames) "__init__" = some (some (.ref f_BadNames___init__))) (tI_BadNames : PySem.W.typeIn K (.ref f_BadNames___init__) = some (.type "function"))
    (l_BadNames___init__ : K.lookup f_BadNames___init__ = some ⟨oc_BadNames___init__, od_BadNames___init__, .func (PySem.W.fnOf "__init__" "BadNames.__init__" (defArgs s_BadNames___init__) (defBody s_BadNames___init__) (defScope s_BadNames___init__) .none kV_BadNames___init__ dc_BadNames___init__ pm_BadNames___init__ an_BadNames___init__ cd_BadNames___init__ ct_BadNames___init__), sl_BadNames___init__⟩) (c_BadNames___init__ : PySem.W.codeIn K cd_BadNames___init__ "BadNames.__init__" = true) (k_BadNames___init__ : PySem.W.keepIn K (.ref f_BadNames___init__) = true)
    (nf_BadNames_told : PySem.W.findIn K (.ref C_BadNames) "told" = some none)
    (ne_BadNames_ScreenError : C_BadNames ≠ C_ScreenError) (s_BadNames_ScreenError : PySem.W.subIn K (.ref C_BadNames) (.ref C_ScreenError) = some true)
    {t_MOST_LETTERS : Tok} (z_MOST_LETTERS : PySem.W.nsIn K mainGlobals "MOST_LETTERS" = some (some (.int 8 t_MOST_LETTERS)))
    {t_MOST_NAMES : Tok} (z_MOST_NAMES : PySem.W.nsIn K mainGlobals "MOST_NAMES" = some (some (.int 3 t_MOST_NAMES)))
    (z_ValueError : PySem.W.nsIn K mainGlobals "ValueError" = some none)
    (z_abs : PySem.W.nsIn K mainGlobals "abs" = some none)
    (z_all : PySem.W.nsIn K mainGlobals "all" = some none)
    (z_any : PySem.W.nsIn K mainGlobals "any" = some none)
    (z_bool : PySem.W.nsIn K mainGlobals "bool" = some none)
    (z_dict : PySem.W.nsIn K mainGlobals "dict" = some none)
    (z_enumerate : PySem.W.nsIn K mainGlobals "enumerate" = some none)
    (z_int : PySem.W.nsIn K mainGlobals "int" = some none)
    (z_isinstance : PySem.W.nsIn K mainGlobals "isinstance" = some none)
    (z_iter : PySem.W.nsIn K mainGlobals "iter" = some none)
    (z_len : PySem.W.nsIn K mainGlobals "len" = some none)
    (z_list : PySem.W.nsIn K mainGlobals "list" = some none)
    (z_range : PySem.W.nsIn K mainGlobals "range" = some none)
    (z_repr : PySem.W.nsIn K mainGlobals "repr" = some none)
    (z_set : PySem.W.nsIn K mainGlobals "set" = some none)
    (z_str : PySem.W.nsIn K mainGlobals "str" = some none)
    (z_tuple : PySem.W.nsIn K mainGlobals "tuple" = some none) :
    ∃ fd : FuncData, (∀ (s : Shared) (v : Value), BindsTo s fd ⟨[v], []⟩ [("_law_script", v)]) ∧ ∀ base : Heap, K.In base → base.Ns mainGlobals mg → FnG l.prog w K mg base CX0 10 fa fd ["_law_script"] (sp_law K) := by
  have e := hfa.symm.trans (PySem.W.mg_of X G a_law)
  cases e
  let T : Txt K mg := { f_all_sets := f_all_sets, d_all_sets := _, F_all_sets := fun_mk (st := s_all_sets) l_all_sets c_all_sets k_all_sets, b_all_sets := (fun_mk (st := s_all_sets) l_all_sets c_all_sets k_all_sets).binds fun _ _ _ _ _ _ us hl => match us, hl with | [_], _ => rfl, g_all_sets := PySem.W.mg_of X G a_all_sets, f_is_name := f_is_name, d_is_name := _, F_is_name := fun_mk (st := s_is_name) l_is_name c_is_name k_is_name, b_is_name := (fun_mk (st := s_is_name) l_is_name c_is_name k_is_name).binds fun _ _ _ _ _ _ us hl => match us, hl with | [_], _ => rfl, g_is_name := PySem.W.mg_of X G a_is_name, f__is_set := f__is_set, d__is_set := _, F__is_set := fun_mk (st := s__is_set) l__is_set c__is_set k__is_set, b__is_set := (fun_mk (st := s__is_set) l__is_set c__is_set k__is_set).binds fun _ _ _ _ _ _ us hl => match us, hl with | [_], _ => rfl, g__is_set := PySem.W.mg_of X G a__is_set, f__check_names := f__check_names, d__check_names := _, F__check_names := fun_mk (st := s__check_names) l__check_names c__check_names k__check_names, b__check_names := (fun_mk (st := s__check_names) l__check_names c__check_names k__check_names).binds fun _ _ _ _ _ _ us hl => match us, hl with | [_], _ => rfl, g__check_names := PySem.W.mg_of X G a__check_names, f__all_sets := f__all_sets, d__all_sets := _, F__all_sets := fun_mk (st := s__all_sets) l__all_sets c__all_sets k__all_sets, b__all_sets := (fun_mk (st := s__all_sets) l__all_sets c__all_sets k__all_sets).binds fun _ _ _ _ _ _ us hl => match us, hl with | [_], _ => rfl, g__all_sets := PySem.W.mg_of X G a__all_sets, f__in_order := f__in_order, d__in_order := _, F__in_order := fun_mk (st := s__in_order) l__in_order c__in_order k__in_order, b__in_order := (fun_mk (st := s__in_order) l__in_order c__in_order k__in_order).binds fun _ _ _ _ _ _ us hl => match us, hl with | [_, _], _ => rfl, g__in_order := PySem.W.mg_of X G a__in_order, f__has_needed := f__has_needed, d__has_needed := _, F__has_needed := fun_mk (st := s__has_needed) l__has_needed c__has_needed k__has_needed, b__has_needed := (fun_mk (st := s__has_needed) l__has_needed c__has_needed k__has_needed).binds fun _ _ _ _ _ _ us hl => match us, hl with | [_, _], _ => rfl, g__has_needed := PySem.W.mg_of X G a__has_needed, f_spoiling := f_spoiling, d_spoiling := _, F_spoiling := fun_mk (st := s_spoiling) l_spoiling c_spoiling k_spoiling, b_spoiling := (fun_mk (st := s_spoiling) l_spoiling c_spoiling k_spoiling).binds fun _ _ _ _ _ _ us hl => match us, hl with | [_, _], _ => rfl, g_spoiling := PySem.W.mg_of X G a_spoiling, f__law_mixed := f__law_mixed, d__law_mixed := _, F__law_mixed := fun_mk (st := s__law_mixed) l__law_mixed c__law_mixed k__law_mixed, b__law_mixed := (fun_mk (st := s__law_mixed) l__law_mixed c__law_mixed k__law_mixed).binds fun _ _ _ _ _ _ us hl => match us, hl with | [_, _], _ => rfl, g__law_mixed := PySem.W.mg_of X G a__law_mixed, f__law_bag := f__law_bag, d__law_bag := _, F__law_bag := fun_mk (st := s__law_bag) l__law_bag c__law_bag k__law_bag, b__law_bag := (fun_mk (st := s__law_bag) l__law_bag c__law_bag k__law_bag).binds fun _ _ _ _ _ _ us hl => match us, hl with | [_], _ => rfl, g__law_bag := PySem.W.mg_of X G a__law_bag, f__law_pick := f__law_pick, d__law_pick := _, F__law_pick := fun_mk (st := s__law_pick) l__law_pick c__law_pick k__law_pick, b__law_pick := (fun_mk (st := s__law_pick) l__law_pick c__law_pick k__law_pick).binds fun _ _ _ _ _ _ us hl => match us, hl with | [_, _], _ => rfl, g__law_pick := PySem.W.mg_of X G a__law_pick, f__law_choice := f__law_choice, d__law_choice := _, F__law_choice := fun_mk (st := s__law_choice) l__law_choice c__law_choice k__law_choice, b__law_choice := (fun_mk (st := s__law_choice) l__law_choice c__law_choice k__law_choice).binds fun _ _ _ _ _ _ us hl => match us, hl with | [_, _], _ => rfl, g__law_choice := PySem.W.mg_of X G a__law_choice, f__law_mingled := f__law_mingled, d__law_mingled := _, F__law_mingled := fun_mk (st := s__law_mingled) l__law_mingled c__law_mingled k__law_mingled, b__law_mingled := (fun_mk (st := s__law_mingled) l__law_mingled c__law_mingled k__law_mingled).binds fun _ _ _ _ _ _ us hl => match us, hl with | [_, _], _ => rfl, g__law_mingled := PySem.W.mg_of X G a__law_mingled, f__law_number := f__law_number, d__law_number := _, F__law_number := fun_mk (st := s__law_number) l__law_number c__law_number k__law_number, b__law_number := (fun_mk (st := s__law_number) l__law_number c__law_number k__law_number).binds fun _ _ _ _ _ _ us hl => match us, hl with | [_], _ => rfl, g__law_number := PySem.W.mg_of X G a__law_number, f__law_new_name := f__law_new_name, d__law_new_name := _, F__law_new_name := fun_mk (st := s__law_new_name) l__law_new_name c__law_new_name k__law_new_name, b__law_new_name := (fun_mk (st := s__law_new_name) l__law_new_name c__law_new_name k__law_new_name).binds fun _ _ _ _ _ _ us hl => match us, hl with | [_, _], _ => rfl, g__law_new_name := PySem.W.mg_of X G a__law_new_name, f__law_form := f__law_form, d__law_form := _, F__law_form := fun_mk (st := s__law_form) l__law_form c__law_form k__law_form, b__law_form := (fun_mk (st := s__law_form) l__law_form c__law_form k__law_form).binds fun _ _ _ _ _ _ us hl => match us, hl with | [_, _, _], _ => rfl, g__law_form := PySem.W.mg_of X G a__law_form, f__law_value := f__law_value, d__law_value := _, F__law_value := fun_mk (st := s__law_value) l__law_value c__law_value k__law_value, b__law_value := (fun_mk (st := s__law_value) l__law_value c__law_value k__law_value).binds fun _ _ _ _ _ _ us hl => match us, hl with | [_, _], _ => rfl, g__law_value := PySem.W.mg_of X G a__law_value, f__law_some := f__law_some, d__law_some := _, F__law_some := fun_mk (st := s__law_some) l__law_some c__law_some k__law_some, b__law_some := (fun_mk (st := s__law_some) l__law_some c__law_some k__law_some).binds fun _ _ _ _ _ _ us hl => match us, hl with | [_, _], _ => rfl, g__law_some := PySem.W.mg_of X G a__law_some, f__law_sets := f__law_sets, d__law_sets := _, F__law_sets := fun_mk (st := s__law_sets) l__law_sets c__law_sets k__law_sets, b__law_sets := (fun_mk (st := s__law_sets) l__law_sets c__law_sets k__law_sets).binds fun _ _ _ _ _ _ us hl => match us, hl with | [_], _ => rfl, g__law_sets := PySem.W.mg_of X G a__law_sets, f__law_has := f__law_has, d__law_has := _, F__law_has := fun_mk (st := s__law_has) l__law_has c__law_has k__law_has, b__law_has := (fun_mk (st := s__law_has) l__law_has c__law_has k__law_has).binds fun _ _ _ _ _ _ us hl => match us, hl with | [_, _], _ => rfl, g__law_has := PySem.W.mg_of X G a__law_has, f__law_combinations := f__law_combinations, d__law_combinations := _, F__law_combinations := fun_mk (st := s__law_combinations) l__law_combinations c__law_combinations k__law_combinations, b__law_combinations := (fun_mk (st := s__law_combinations) l__law_combinations c__law_combinations k__law_combinations).binds fun _ _ _ _ _ _ us hl => match us, hl with | [_, _], _ => rfl, g__law_combinations := PySem.W.mg_of X G a__law_combinations, f__law_labels := f__law_labels, d__law_labels := _, F__law_labels := fun_mk (st := s__law_labels) l__law_labels c__law_labels k__law_labels, b__law_labels := (fun_mk (st := s__law_labels) l__law_labels c__law_labels k__law_labels).binds fun _ _ _ _ _ _ us hl => match us, hl with | [_, _], _ => rfl, g__law_labels := PySem.W.mg_of X G a__law_labels, f__law_shown_needs := f__law_shown_needs, d__law_shown_needs := _, F__law_shown_needs := fun_mk (st := s__law_shown_needs) l__law_shown_needs c__law_shown_needs k__law_shown_needs, b__law_shown_needs := (fun_mk (st := s__law_shown_needs) l__law_shown_needs c__law_shown_needs k__law_shown_needs).binds fun _ _ _ _ _ _ us hl => match us, hl with | [_, _], _ => rfl, g__law_shown_needs := PySem.W.mg_of X G a__law_shown_needs, f__law_changing := f__law_changing, d__law_changing := _, F__law_changing := fun_mk (st := s__law_changing) l__law_changing c__law_changing k__law_changing, b__law_changing := (fun_mk (st := s__law_changing) l__law_changing c__law_changing k__law_changing).binds fun _ _ _ _ _ _ us hl => match us, hl with | [_, _], _ => rfl, g__law_changing := PySem.W.mg_of X G a__law_changing, f__law_settings_told := f__law_settings_told, d__law_settings_told := _, F__law_settings_told := fun_mk (st := s__law_settings_told) l__law_settings_told c__law_settings_told k__law_settings_told, b__law_settings_told := (fun_mk (st := s__law_settings_told) l__law_settings_told c__law_settings_told k__law_settings_told).binds fun _ _ _ _ _ _ us hl => match us, hl with | [_, _, _], _ => rfl, g__law_settings_told := PySem.W.mg_of X G a__law_settings_told, f__law_triple := f__law_triple, d__law_triple := _, F__law_triple := fun_mk (st := s__law_triple) l__law_triple c__law_triple k__law_triple, b__law_triple := (fun_mk (st := s__law_triple) l__law_triple c__law_triple k__law_triple).binds fun _ _ _ _ _ _ us hl => match us, hl with | [_, _, _, _], _ => rfl, g__law_triple := PySem.W.mg_of X G a__law_triple, f__law_lot := f__law_lot, d__law_lot := _, F__law_lot := fun_mk (st := s__law_lot) l__law_lot c__law_lot k__law_lot, b__law_lot := (fun_mk (st := s__law_lot) l__law_lot c__law_lot k__law_lot).binds fun _ _ _ _ _ _ us hl => match us, hl with | [_, _, _, _], _ => rfl, g__law_lot := PySem.W.mg_of X G a__law_lot, f_law := fa, d_law := _, F_law := fun_mk (st := s_law) l_law c_law k_law, b_law := (fun_mk (st := s_law) l_law c_law k_law).binds fun _ _ _ _ _ _ us hl => match us, hl with | [_], _ => rfl, g_law := PySem.W.mg_of X G a_law, C_Schedule := C_Schedule, g_Schedule := PySem.W.mg_of X G aC_Schedule, cl_Schedule := ⟨pg_Schedule, hd_Schedule, po_Schedule, sa_Schedule⟩, mk_Schedule := mk_Schedule, kc_Schedule := kc_Schedule, nf_Schedule := nf_Schedule, in_Schedule := ⟨⟨pg_Schedule, hd_Schedule, po_Schedule, sa_Schedule⟩, ih_Schedule, ig_Schedule, it_Schedule, io_Schedule, ik_Schedule⟩, nA_Schedule__names := nA_Schedule__names, nA_Schedule__sets := nA_Schedule__sets, f_Schedule___init__ := f_Schedule___init__, d_Schedule___init__ := _, F_Schedule___init__ := fun_mk (st := s_Schedule___init__) l_Schedule___init__ c_Schedule___init__ k_Schedule___init__, b_Schedule___init__ := (fun_mk (st := s_Schedule___init__) l_Schedule___init__ c_Schedule___init__ k_Schedule___init__).binds fun _ _ _ _ _ _ us hl => match us, hl with | [_, _, _], _ => rfl, a_Schedule___init__ := a_Schedule___init__, i_Schedule___init__ := i_Schedule___init__, n_Schedule___init__ := n_Schedule___init__, f_Schedule___contains__ := f_Schedule___contains__, d_Schedule___contains__ := _, F_Schedule___contains__ := fun_mk (st := s_Schedule___contains__) l_Schedule___contains__ c_Schedule___contains__ k_Schedule___contains__, b_Schedule___contains__ := (fun_mk (st := s_Schedule___contains__) l_Schedule___contains__ c_Schedule___contains__ k_Schedule___contains__).binds fun _ _ _ _ _ _ us hl => match us, hl with | [_, _], _ => rfl, a_Schedule___contains__ := a_Schedule___contains__, i_Schedule___contains__ := i_Schedule___contains__, n_Schedule___contains__ := n_Schedule___contains__, f_Schedule___le__ := f_Schedule___le__, d_Schedule___le__ := _, F_Schedule___le__ := fun_mk (st := s_Schedule___le__) l_Schedule___le__ c_Schedule___le__ k_Schedule___le__, b_Schedule___le__ := (fun_mk (st := s_Schedule___le__) l_Schedule___le__ c_Schedule___le__ k_Schedule___le__).binds fun _ _ _ _ _ _ us hl => match us, hl with | [_, _], _ => rfl, a_Schedule___le__ := a_Schedule___le__, i_Schedule___le__ := i_Schedule___le__, n_Schedule___le__ := n_Schedule___le__, f_Schedule___eq__ := f_Schedule___eq__, d_Schedule___eq__ := _, F_Schedule___eq__ := fun_mk (st := s_Schedule___eq__) l_Schedule___eq__ c_Schedule___eq__ k_Schedule___eq__, b_Schedule___eq__ := (fun_mk (st := s_Schedule___eq__) l_Schedule___eq__ c_Schedule___eq__ k_Schedule___eq__).binds fun _ _ _ _ _ _ us hl => match us, hl with | [_, _], _ => rfl, a_Schedule___eq__ := a_Schedule___eq__, i_Schedule___eq__ := i_Schedule___eq__, n_Schedule___eq__ := n_Schedule___eq__, f_Schedule___iter__ := f_Schedule___iter__, d_Schedule___iter__ := _, F_Schedule___iter__ := fun_mk (st := s_Schedule___iter__) l_Schedule___iter__ c_Schedule___iter__ k_Schedule___iter__, b_Schedule___iter__ := (fun_mk (st := s_Schedule___iter__) l_Schedule___iter__ c_Schedule___iter__ k_Schedule___iter__).binds fun _ _ _ _ _ _ us hl => match us, hl with | [_], _ => rfl, a_Schedule___iter__ := a_Schedule___iter__, i_Schedule___iter__ := i_Schedule___iter__, n_Schedule___iter__ := n_Schedule___iter__, f_Schedule_missed := f_Schedule_missed, d_Schedule_missed := _, F_Schedule_missed := fun_mk (st := s_Schedule_missed) l_Schedule_missed c_Schedule_missed k_Schedule_missed, b_Schedule_missed := (fun_mk (st := s_Schedule_missed) l_Schedule_missed c_Schedule_missed k_Schedule_missed).binds fun _ _ _ _ _ _ us hl => match us, hl with | [_, _], _ => rfl, a_Schedule_missed := a_Schedule_missed, i_Schedule_missed := i_Schedule_missed, n_Schedule_missed := n_Schedule_missed, f_Schedule_least := f_Schedule_least, d_Schedule_least := _, F_Schedule_least := fun_mk (st := s_Schedule_least) l_Schedule_least c_Schedule_least k_Schedule_least, b_Schedule_least := (fun_mk (st := s_Schedule_least) l_Schedule_least c_Schedule_least k_Schedule_least).binds fun _ _ _ _ _ _ us hl => match us, hl with | [_, _], _ => rfl, p_Schedule_least := p_Schedule_least, M_Schedule_least := ⟨rd_Schedule_least, ga_Schedule_least, at_Schedule_least, ⟨_, re1_Schedule_least⟩, k_Schedule_least⟩, C_ScreenError := C_ScreenError, g_ScreenError := PySem.W.mg_of X G aC_ScreenError, hd_ScreenError := hd_ScreenError, ty_ScreenError := ty_ScreenError, be_ScreenError := be_ScreenError, vb_ScreenError := vb_ScreenError, C_BadNames := C_BadNames, g_BadNames := PySem.W.mg_of X G aC_BadNames, hd_BadNames := hd_BadNames, ty_BadNames := ty_BadNames, be_BadNames := be_BadNames, vb_BadNames := vb_BadNames, ox_BadNames := ⟨⟨_, _, _, _, _, _, _, _, _, _, _, _, _, _, _, lx_BadNames, rv_BadNames⟩, sa_BadNames, be_BadNames, ty_BadNames, kc_BadNames⟩, xf_BadNames := ⟨ga_BadNames, gg_BadNames, be_BadNames, hd_BadNames⟩, is_BadNames := ⟨ga_BadNames, gg_BadNames, be_BadNames, hd_BadNames, ca_BadNames, cg_BadNames, ck_BadNames, mo_BadNames⟩, f_BadNames___init__ := f_BadNames___init__, d_BadNames___init__ := _, F_BadNames___init__ := fun_mk (st := s_BadNames___init__) l_BadNames___init__ c_BadNames___init__ k_BadNames___init__, b_BadNames___init__ := (fun_mk (st := s_BadNames___init__) l_BadNames___init__ c_BadNames___init__ k_BadNames___init__).binds fun _ _ _ _ _ _ us hl => match us, hl with | [_, _], _ => rfl, iC_BadNames := iC_BadNames, tI_BadNames := tI_BadNames, nf_BadNames_told := nf_BadNames_told, ne_BadNames_ScreenError := ne_BadNames_ScreenError, s_BadNames_ScreenError := s_BadNames_ScreenError, t_MOST_LETTERS := _, c_MOST_LETTERS := PySem.W.mg_of X G z_MOST_LETTERS, t_MOST_NAMES := _, c_MOST_NAMES := PySem.W.mg_of X G z_MOST_NAMES, m_ValueError := PySem.W.mg_none_of X G z_ValueError, m_abs := PySem.W.mg_none_of X G z_abs, m_all := PySem.W.mg_none_of X G z_all, m_any := PySem.W.mg_none_of X G z_any, m_bool := PySem.W.mg_none_of X G z_bool, m_dict := PySem.W.mg_none_of X G z_dict, m_enumerate := PySem.W.mg_none_of X G z_enumerate, m_int := PySem.W.mg_none_of X G z_int, m_isinstance := PySem.W.mg_none_of X G z_isinstance, m_iter := PySem.W.mg_none_of X G z_iter, m_len := PySem.W.mg_none_of X G z_len, m_list := PySem.W.mg_none_of X G z_list, m_range := PySem.W.mg_none_of X G z_range, m_repr := PySem.W.mg_none_of X G z_repr, m_set := PySem.W.mg_none_of X G z_set, m_str := PySem.W.mg_none_of X G z_str, m_tuple := PySem.W.mg_none_of X G z_tuple }
  exact ⟨_, fun s v => .of_eq rfl, fun base _ _ => ok_law (base := base) T⟩
end D
open PySem PySem.W PyProof.Rows
set_option maxHeartbeats 0 in
theorem PySem.Challenge.cw_drawnanew_k39_whole_schedules_holds : PySem.Challenge.rw_drawnanew_k39_whole_schedules.Holds := by
  w_on; o_law; k_head; (case hw => w_witness2)
  k_fill
  refine D.walk_ofG (l := PySem.Challenge.rw_drawnanew_k39_whole_schedules) (n := 63) (k := 10) (x := "_law_script") (sp := D.sp_law) rfl (by decide) rfl ⟨rfl, by decide, by decide⟩ (fun w h Y => PySem.W.kIn_of Y) ?F (fun _ _ a ns hl hS => ⟨a, ns, rfl, hS, hl, fun _ => rfl⟩)
  case F =>
    intro w mg fa h KX G hmg
    refine' D.all_mk KX G hmg ?a_all_sets ?l_all_sets ?c_all_sets ?k_all_sets ?a_is_name ?l_is_name ?c_is_name ?k_is_name ?a__is_set ?l__is_set ?c__is_set ?k__is_set ?a__check_names ?l__check_names ?c__check_names ?k__check_names ?a__all_sets ?l__all_sets ?c__all_sets ?k__all_sets ?a__in_order ?l__in_order ?c__in_order ?k__in_order ?a__has_needed ?l__has_needed ?c__has_needed ?k__has_needed ?a_spoiling ?l_spoiling ?c_spoiling ?k_spoiling ?a__law_mixed ?l__law_mixed ?c__law_mixed ?k__law_mixed ?a__law_bag ?l__law_bag ?c__law_bag ?k__law_bag ?a__law_pick ?l__law_pick ?c__law_pick ?k__law_pick ?a__law_choice ?l__law_choice ?c__law_choice ?k__law_choice ?a__law_mingled ?l__law_mingled ?c__law_mingled ?k__law_mingled ?a__law_number ?l__law_number ?c__law_number ?k__law_number ?a__law_new_name ?l__law_new_name ?c__law_new_name ?k__law_new_name ?a__law_form ?l__law_form ?c__law_form ?k__law_form ?a__law_value ?l__law_value ?c__law_value ?k__law_value ?a__law_some ?l__law_some ?c__law_some ?k__law_some ?a__law_sets ?l__law_sets ?c__law_sets ?k__law_sets ?a__law_has ?l__law_has ?c__law_has ?k__law_has ?a__law_combinations ?l__law_combinations ?c__law_combinations ?k__law_combinations ?a__law_labels ?l__law_labels ?c__law_labels ?k__law_labels ?a__law_shown_needs ?l__law_shown_needs ?c__law_shown_needs ?k__law_shown_needs ?a__law_changing ?l__law_changing ?c__law_changing ?k__law_changing ?a__law_settings_told ?l__law_settings_told ?c__law_settings_told ?k__law_settings_told ?a__law_triple ?l__law_triple ?c__law_triple ?k__law_triple ?a__law_lot ?l__law_lot ?c__law_lot ?k__law_lot ?a_law ?l_law ?c_law ?k_law ?aC_Schedule ?pg_Schedule ?hd_Schedule ?po_Schedule ?sa_Schedule ?mk_Schedule ?kc_Schedule ?nf_Schedule ?ih_Schedule ?ig_Schedule ?it_Schedule ?io_Schedule ?ik_Schedule ?nA_Schedule__names ?nA_Schedule__sets ?a_Schedule___init__ ?i_Schedule___init__ ?n_Schedule___init__ ?l_Schedule___init__ ?c_Schedule___init__ ?k_Schedule___init__ ?a_Schedule___contains__ ?i_Schedule___contains__ ?n_Schedule___contains__ ?l_Schedule___contains__ ?c_Schedule___contains__ ?k_Schedule___contains__ ?a_Schedule___le__ ?i_Schedule___le__ ?n_Schedule___le__ ?l_Schedule___le__ ?c_Schedule___le__ ?k_Schedule___le__ ?a_Schedule___eq__ ?i_Schedule___eq__ ?n_Schedule___eq__ ?l_Schedule___eq__ ?c_Schedule___eq__ ?k_Schedule___eq__ ?a_Schedule___iter__ ?i_Schedule___iter__ ?n_Schedule___iter__ ?l_Schedule___iter__ ?c_Schedule___iter__ ?k_Schedule___iter__ ?a_Schedule_missed ?i_Schedule_missed ?n_Schedule_missed ?l_Schedule_missed ?c_Schedule_missed ?k_Schedule_missed ?at_Schedule_least ?rd_Schedule_least ?ga_Schedule_least ?re1_Schedule_least ?l_Schedule_least ?c_Schedule_least ?k_Schedule_least ?aC_ScreenError ?hd_ScreenError ?ty_ScreenError ?be_ScreenError ?vb_ScreenError ?aC_BadNames ?hd_BadNames ?ty_BadNames ?be_BadNames ?vb_BadNames ?lx_BadNames ?rv_BadNames ?sa_BadNames ?kc_BadNames ?ga_BadNames ?gg_BadNames ?ca_BadNames ?cg_BadNames ?ck_BadNames ?mo_BadNames ?iC_BadNames ?tI_BadNames ?l_BadNames___init__ ?c_BadNames___init__ ?k_BadNames___init__ ?nf_BadNames_told ?ne_BadNames_ScreenError ?s_BadNames_ScreenError ?z_MOST_LETTERS ?z_MOST_NAMES ?z_ValueError ?z_abs ?z_all ?z_any ?z_bool ?z_dict ?z_enumerate ?z_int ?z_isinstance ?z_iter ?z_len ?z_list ?z_range ?z_repr ?z_set ?z_str ?z_tuple
    (case a_all_sets => k_is); (case l_all_sets => k_is); (case c_all_sets => k_is); (case k_all_sets => k_is); (case a_is_name => k_is); (case l_is_name => k_is); (case c_is_name => k_is); (case k_is_name => k_is); (case a__is_set => k_is); (case l__is_set => k_is); (case c__is_set => k_is); (case k__is_set => k_is); (case a__check_names => k_is); (case l__check_names => k_is); (case c__check_names => k_is); (case k__check_names => k_is); (case a__all_sets => k_is); (case l__all_sets => k_is); (case c__all_sets => k_is); (case k__all_sets => k_is); (case a__in_order => k_is); (case l__in_order => k_is); (case c__in_order => k_is); (case k__in_order => k_is); (case a__has_needed => k_is); (case l__has_needed => k_is); (case c__has_needed => k_is); (case k__has_needed => k_is); (case a_spoiling => k_is); (case l_spoiling => k_is); (case c_spoiling => k_is); (case k_spoiling => k_is); (case a__law_mixed => k_is); (case l__law_mixed => k_is); (case c__law_mixed => k_is); (case k__law_mixed => k_is); (case a__law_bag => k_is); (case l__law_bag => k_is); (case c__law_bag => k_is); (case k__law_bag => k_is); (case a__law_pick => k_is); (case l__law_pick => k_is); (case c__law_pick => k_is); (case k__law_pick => k_is); (case a__law_choice => k_is); (case l__law_choice => k_is); (case c__law_choice => k_is); (case k__law_choice => k_is); (case a__law_mingled => k_is); (case l__law_mingled => k_is); (case c__law_mingled => k_is); (case k__law_mingled => k_is); (case a__law_number => k_is); (case l__law_number => k_is); (case c__law_number => k_is); (case k__law_number => k_is); (case a__law_new_name => k_is); (case l__law_new_name => k_is); (case c__law_new_name => k_is); (case k__law_new_name => k_is); (case a__law_form => k_is); (case l__law_form => k_is); (case c__law_form => k_is); (case k__law_form => k_is); (case a__law_value => k_is); (case l__law_value => k_is); (case c__law_value => k_is); (case k__law_value => k_is); (case a__law_some => k_is); (case l__law_some => k_is); (case c__law_some => k_is); (case k__law_some => k_is); (case a__law_sets => k_is); (case l__law_sets => k_is); (case c__law_sets => k_is); (case k__law_sets => k_is); (case a__law_has => k_is); (case l__law_has => k_is); (case c__law_has => k_is); (case k__law_has => k_is); (case a__law_combinations => k_is); (case l__law_combinations => k_is); (case c__law_combinations => k_is); (case k__law_combinations => k_is); (case a__law_labels => k_is); (case l__law_labels => k_is); (case c__law_labels => k_is); (case k__law_labels => k_is); (case a__law_shown_needs => k_is); (case l__law_shown_needs => k_is); (case c__law_shown_needs => k_is); (case k__law_shown_needs => k_is); (case a__law_changing => k_is); (case l__law_changing => k_is); (case c__law_changing => k_is); (case k__law_changing => k_is); (case a__law_settings_told => k_is); (case l__law_settings_told => k_is); (case c__law_settings_told => k_is); (case k__law_settings_told => k_is); (case a__law_triple => k_is); (case l__law_triple => k_is); (case c__law_triple => k_is); (case k__law_triple => k_is); (case a__law_lot => k_is); (case l__law_lot => k_is); (case c__law_lot => k_is); (case k__law_lot => k_is); (case a_law => k_is); (case l_law => k_is); (case c_law => k_is); (case k_law => k_is); (case aC_Schedule => k_is); (case pg_Schedule => k_is); (case hd_Schedule => k_is); (case po_Schedule => k_is); (case sa_Schedule => k_is); (case mk_Schedule => k_is); (case kc_Schedule => k_is); (case nf_Schedule => k_is); (case ih_Schedule => k_is); (case ig_Schedule => k_is); (case it_Schedule => k_is); (case io_Schedule => k_is); (case ik_Schedule => first | exact rfl | decide +kernel | k_is); (case nA_Schedule__names => k_is); (case nA_Schedule__sets => k_is); (case a_Schedule___init__ => k_is); (case i_Schedule___init__ => k_is); (case n_Schedule___init__ => k_is); (case l_Schedule___init__ => k_is); (case c_Schedule___init__ => k_is); (case k_Schedule___init__ => k_is); (case a_Schedule___contains__ => k_is); (case i_Schedule___contains__ => k_is); (case n_Schedule___contains__ => k_is); (case l_Schedule___contains__ => k_is); (case c_Schedule___contains__ => k_is); (case k_Schedule___contains__ => k_is); (case a_Schedule___le__ => k_is); (case i_Schedule___le__ => k_is); (case n_Schedule___le__ => k_is); (case l_Schedule___le__ => k_is); (case c_Schedule___le__ => k_is); (case k_Schedule___le__ => k_is); (case a_Schedule___eq__ => k_is); (case i_Schedule___eq__ => k_is); (case n_Schedule___eq__ => k_is); (case l_Schedule___eq__ => k_is); (case c_Schedule___eq__ => k_is); (case k_Schedule___eq__ => k_is); (case a_Schedule___iter__ => k_is); (case i_Schedule___iter__ => k_is); (case n_Schedule___iter__ => k_is); (case l_Schedule___iter__ => k_is); (case c_Schedule___iter__ => k_is); (case k_Schedule___iter__ => k_is); (case a_Schedule_missed => k_is); (case i_Schedule_missed => k_is); (case n_Schedule_missed => k_is); (case l_Schedule_missed => k_is); (case c_Schedule_missed => k_is); (case k_Schedule_missed => k_is); (case at_Schedule_least => k_is); (case rd_Schedule_least => k_is); (case ga_Schedule_least => k_is); (case re1_Schedule_least => k_is); (case l_Schedule_least => k_is); (case c_Schedule_least => k_is); (case k_Schedule_least => k_is); (case aC_ScreenError => k_is); (case hd_ScreenError => k_is); (case ty_ScreenError => k_is); (case be_ScreenError => k_is); (case vb_ScreenError => k_is); (case aC_BadNames => k_is); (case hd_BadNames => k_is); (case ty_BadNames => k_is); (case be_BadNames => k_is); (case vb_BadNames => k_is); (case lx_BadNames => k_is); (case rv_BadNames => decide +kernel); (case sa_BadNames => k_is); (case kc_BadNames => k_is); (case ga_BadNames => k_is); (case gg_BadNames => k_is); (case ca_BadNames => k_is); (case cg_BadNames => k_is); (case ck_BadNames => k_is); (case mo_BadNames => k_is); (case iC_BadNames => k_is); (case tI_BadNames => k_is); (case l_BadNames___init__ => k_is); (case c_BadNames___init__ => k_is); (case k_BadNames___init__ => k_is); (case nf_BadNames_told => k_is); (case ne_BadNames_ScreenError => decide +kernel); (case s_BadNames_ScreenError => k_is); (case z_MOST_LETTERS => k_is); (case z_MOST_NAMES => k_is); (case z_ValueError => k_is); (case z_abs => k_is); (case z_all => k_is); (case z_any => k_is); (case z_bool => k_is); (case z_dict => k_is); (case z_enumerate => k_is); (case z_int => k_is); (case z_isinstance => k_is); (case z_iter => k_is); (case z_len => k_is); (case z_list => k_is); (case z_range => k_is); (case z_repr => k_is); (case z_set => k_is); (case z_str => k_is); (case z_tuple => k_is)

