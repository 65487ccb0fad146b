import PyProof.Rows.All
import Wide.All
import OpenK.AllK
import Wide.FinOn
import HandS.ForMost
import HandS.Walk
import HandS.DictComp
import HandS.TupAny
import HandS.Style
import HandS.Conv
import HandS.SortInts
import HandS.SortRule
import KE.KIndexOf
import KE.GoesMore
import KE.GoesEnum
import PySem.Challenge.RW_blowntrees_k01_places_and_listings
set_option Elab.async false
set_option linter.all false
set_option maxRecDepth 100000
set_option maxHeartbeats 4000000
/-! data over the heap, apart from what is held to be changed -/
namespace Y
open PySem PySem.Spec PyProof.Rows L2
theorem same_new {H : Hp} {p : Addr} (h : H p = none) (o : HO) : Same H (upd H p o) := fun b u q => by rw [upd_ne (ne_of_none q h)]; exact q
theorem same_mut {H H' : Hp} {p : Addr} {o : HO} (e : Same H H') (h : H p = none) : Same H (upd H' p o) := fun a u ha => by
  rw [upd_ne (ne_of_none ha h)]
  exact e a u ha
theorem _root_.L2.Same.tup {K : PySem.W.Frag} {H H' : Hp} {a : Addr} {xs : List V} (e : Same H H') (h : SqT K H a xs) : SqT K H' a xs := by
  rcases h with (h | ⟨o, h⟩) | h
  · exact .inl (.inl (e _ _ h))
  · exact .inl (.inr ⟨o, e _ _ h⟩)
  · exact .inr h
/-! ### the heap without some places -/
def wo (H : Hp) (L : List Addr) : Hp := fun b => if b ∈ L then none else H b
theorem wo_in {H : Hp} {L : List Addr} {a : Addr} (h : a ∈ L) : wo H L a = none := by unfold wo; rw [if_pos h]
theorem wo_out {H : Hp} {L : List Addr} {a : Addr} (h : a ∉ L) : wo H L a = H a := by unfold wo; rw [if_neg h]
theorem wo_nil (H : Hp) : wo H [] = H := by funext b; exact wo_out (by simp)
theorem wo_some {H : Hp} {L : List Addr} {a : Addr} {o : HO} (h : wo H L a = some o) : a ∉ L ∧ H a = some o := by
  by_cases m : a ∈ L
  · rw [wo_in m] at h; cases h
  · rw [wo_out m] at h; exact ⟨m, h⟩
theorem wo_le (H : Hp) (L : List Addr) : Same (wo H L) H := fun b o h => (wo_some h).2
theorem wo_mono {H H' : Hp} {L : List Addr} (e : Same H H') : Same (wo H L) (wo H' L) := fun b o h => by
  obtain ⟨m, q⟩ := wo_some h
  rw [wo_out m]; exact e b o q
theorem wo_sub {H : Hp} {L L' : List Addr} (h : ∀ a ∈ L', a ∈ L) : Same (wo H L) (wo H L') := fun b o q => by
  obtain ⟨m, q⟩ := wo_some q
  rw [wo_out fun z => m (h b z)]; exact q
theorem wo_more {H H' : Hp} {L L' : List Addr} (e : Same (wo H L) (wo H' L)) (h : ∀ a ∈ L, a ∈ L') : Same (wo H L') (wo H' L') := fun b o q => by
  obtain ⟨m, q⟩ := wo_some q
  rw [wo_out m]
  have := e b o (by rw [wo_out fun z => m (h b z)]; exact q)
  exact (wo_some this).2
theorem wo_upd_in {H : Hp} {L : List Addr} {a : Addr} {o : HO} (h : a ∈ L) : wo (upd H a o) L = wo H L := by
  funext b
  by_cases m : b ∈ L
  · rw [wo_in m, wo_in m]
  · rw [wo_out m, wo_out m, upd_ne fun e => m (by rw [e]; exact h)]
theorem wo_upd_out {H : Hp} {L : List Addr} {a : Addr} {o : HO} (h : a ∉ L) : wo (upd H a o) L = upd (wo H L) a o := by
  funext b
  by_cases e : b = a
  · subst e
    rw [wo_out h, upd_same, upd_same]
  · by_cases m : b ∈ L
    · rw [wo_in m, upd_ne e, wo_in m]
    · rw [wo_out m, upd_ne e, upd_ne e, wo_out m]
/-- a fresh place kept apart changes nothing for what stood -/
theorem wo_fresh {H : Hp} {L : List Addr} {p : Addr} (h : H p = none) : wo H (p :: L) = wo H L := by
  funext b
  by_cases e : b = p
  · subst e
    rw [wo_in (by simp)]
    by_cases m : b ∈ L
    · rw [wo_in m]
    · rw [wo_out m, h]
  · by_cases m : b ∈ L
    · rw [wo_in m, wo_in (by simp [m])]
    · rw [wo_out m, wo_out (by simp [m, e])]
/-- all of L is known to H -/
def Trk (H : Hp) (L : List Addr) : Prop := ∀ a ∈ L, H a ≠ none
theorem Trk.mono {H H' : Hp} {L : List Addr} (t : Trk H L) (e : Same H H') : Trk H' L := fun a m => by
  cases q : H a with
  | none => exact absurd q (t a m)
  | some o => rw [e a o q]; simp
theorem Trk.fresh {H : Hp} {L : List Addr} (t : Trk H L) {p : Addr} (h : H p = none) : p ∉ L := fun m => t p m h
theorem Trk.cons {H : Hp} {L : List Addr} (t : Trk H L) {p : Addr} (h : H p ≠ none) : Trk H (p :: L) := fun a m => by
  rcases List.mem_cons.mp m with e | m
  · rw [e]; exact h
  · exact t a m
theorem Trk.nil (H : Hp) : Trk H [] := fun a m => by cases m
theorem Trk.upd {H : Hp} {L : List Addr} (t : Trk H L) (p : Addr) (o : HO) : Trk (upd H p o) L := fun a m => by
  by_cases e : a = p
  · rw [e, upd_same]; simp
  · rw [upd_ne e]; exact t a m
theorem Trk.one {H : Hp} {p : Addr} {o : HO} (h : H p = some o) : Trk H [p] := (Trk.nil H).cons (by rw [h]; simp)
theorem Trk.le {H : Hp} {L L' : List Addr} (t : Trk H L) (h : ∀ a ∈ L', a ∈ L) : Trk H L' := fun a m => t a (h a m)
theorem wo_new {H : Hp} {L : List Addr} (t : Trk H L) {p : Addr} (h : H p = none) (o : HO) : wo (upd H p o) L = upd (wo H L) p o := wo_upd_out (t.fresh h)
/-! ### data -/
section
variable {K : PySem.W.Frag} {H H' : Hp}
mutual
theorem dp_mono (e : Same H H') : ∀ {v : V} {d : PyData}, Dp K H v d → Dp K H' v d
  | _, _, .non => .non
  | _, _, .bl b => .bl b
  | _, _, .int i => .int i
  | _, _, .str x => .str x
  | _, _, .lst hs ha => .lst (e.seq hs) (dpAll_mono e ha)
  | _, _, .tup hs ha => .tup (e.tup hs) (dpAll_mono e ha)
theorem dpAll_mono (e : Same H H') : ∀ {xs : List V} {ds : List PyData}, DpAll K H xs ds → DpAll K H' xs ds
  | _, _, .nil => .nil
  | _, _, .cons h t => .cons (dp_mono e h) (dpAll_mono e t)
end
theorem dp_int {v : V} {i : Int} (h : Dp K H v (.int i)) : v = .int i := by cases h; rfl
theorem dp_tup {v : V} {ds : List PyData} (h : Dp K H v (.tuple ds)) : ∃ a xs, v = .ref a ∧ SqT K H a xs ∧ DpAll K H xs ds := by
  cases h with
  | tup hs ha => exact ⟨_, _, rfl, hs, ha⟩
theorem dp_lst {v : V} {ds : List PyData} (h : Dp K H v (.list ds)) : ∃ a xs, v = .ref a ∧ SqL K H a xs ∧ DpAll K H xs ds := by
  cases h with
  | lst hs ha => exact ⟨_, _, rfl, hs, ha⟩
theorem _root_.L2.DpAll.length : ∀ {xs : List V} {ds : List PyData}, DpAll K H xs ds → xs.length = ds.length
  | _, _, .nil => rfl
  | _, _, .cons _ t => congrArg (· + 1) (L2.DpAll.length t)
theorem _root_.L2.DpAll.get : ∀ {xs : List V} {ds : List PyData}, DpAll K H xs ds → ∀ {i : Nat} {d : PyData}, ds[i]? = some d → ∃ x, xs[i]? = some x ∧ Dp K H x d
  | _, _, .cons h t, 0, d, e => by
    cases (Option.some.inj e : _ = d)
    exact ⟨_, rfl, h⟩
  | _, _, .cons h t, i + 1, d, e => L2.DpAll.get t (i := i) e
theorem _root_.L2.DpAll.getV : ∀ {xs : List V} {ds : List PyData}, DpAll K H xs ds → ∀ {i : Nat} {x : V}, xs[i]? = some x → ∃ d, ds[i]? = some d ∧ Dp K H x d
  | _, _, .cons h t, 0, d, e => by
    cases (Option.some.inj e : _ = d)
    exact ⟨_, rfl, h⟩
  | _, _, .cons h t, i + 1, d, e => L2.DpAll.getV t (i := i) e
theorem _root_.L2.DpAll.append : ∀ {xs ys : List V} {ds es : List PyData}, DpAll K H xs ds → DpAll K H ys es → DpAll K H (xs ++ ys) (ds ++ es)
  | _, _, _, _, .nil, q => q
  | _, _, _, _, .cons h t, q => .cons h (L2.DpAll.append t q)
theorem _root_.L2.DpAll.snoc {xs : List V} {ds : List PyData} {x : V} {d : PyData} (h : DpAll K H xs ds) (q : Dp K H x d) : DpAll K H (xs ++ [x]) (ds ++ [d]) := h.append (.cons q .nil)
theorem _root_.L2.DpAll.reverse : ∀ {xs : List V} {ds : List PyData}, DpAll K H xs ds → DpAll K H xs.reverse ds.reverse
  | _, _, .nil => .nil
  | _, _, .cons h t => by
    rw [List.reverse_cons, List.reverse_cons]
    exact (L2.DpAll.reverse t).snoc h
theorem _root_.L2.DpAll.of_get : ∀ {xs : List V} {ds : List PyData}, xs.length = ds.length → (∀ (i : Nat) x d, xs[i]? = some x → ds[i]? = some d → Dp K H x d) → DpAll K H xs ds
  | [], [], _, _ => .nil
  | [], _ :: _, e, _ => by cases e
  | _ :: _, [], e, _ => by cases e
  | x :: xs, d :: ds, e, h => .cons (h 0 x d rfl rfl) (L2.DpAll.of_get (Nat.succ.inj e) fun i y z a b => h (i + 1) y z a b)
def iD (ns : List Int) : List PyData := ns.map PyData.int
def nD (ns : List Nat) : List PyData := ns.map fun (n : Nat) => PyData.int (n : Int)
def iV (ns : List Int) : List V := ns.map V.int
def nV (ns : List Nat) : List V := ns.map fun (n : Nat) => V.int (n : Int)
theorem nD_eq (ns : List Nat) : nD ns = iD (ns.map fun (n : Nat) => (n : Int)) := by unfold nD iD; rw [List.map_map]; rfl
theorem nV_eq (ns : List Nat) : nV ns = iV (ns.map fun (n : Nat) => (n : Int)) := by unfold nV iV; rw [List.map_map]; rfl
theorem dpAll_ints : ∀ {xs : List V} {ns : List Int}, DpAll K H xs (iD ns) ↔ xs = iV ns
  | xs, [] => ⟨fun h => by cases h; rfl, fun e => by rw [e]; exact .nil⟩
  | xs, n :: ns => ⟨fun h => by
      cases h with
      | cons a b => rw [dp_int a, dpAll_ints.mp b]; rfl, fun e => by
      rw [e]
      exact .cons (.int n) (dpAll_ints.mpr rfl)⟩
theorem dpAll_nats {xs : List V} {ns : List Nat} : DpAll K H xs (nD ns) ↔ xs = nV ns := by rw [nD_eq, nV_eq]; exact dpAll_ints
theorem dp_ints {v : V} {ns : List Int} : Dp K H v (.tuple (iD ns)) ↔ ∃ a, v = .ref a ∧ SqT K H a (iV ns) := by
  constructor
  · intro h
    obtain ⟨a, xs, rfl, hs, ha⟩ := dp_tup h
    rw [dpAll_ints.mp ha] at hs
    exact ⟨a, rfl, hs⟩
  · rintro ⟨a, rfl, hs⟩
    exact .tup hs (dpAll_ints.mpr rfl)
theorem dp_intsL {v : V} {ns : List Int} : Dp K H v (.list (iD ns)) ↔ ∃ a, v = .ref a ∧ SqL K H a (iV ns) := by
  constructor
  · intro h
    obtain ⟨a, xs, rfl, hs, ha⟩ := dp_lst h
    rw [dpAll_ints.mp ha] at hs
    exact ⟨a, rfl, hs⟩
  · rintro ⟨a, rfl, hs⟩
    exact .lst hs (dpAll_ints.mpr rfl)
theorem dp_nats {v : V} {ns : List Nat} : Dp K H v (.tuple (nD ns)) ↔ ∃ a, v = .ref a ∧ SqT K H a (nV ns) := by rw [nD_eq, nV_eq]; exact dp_ints
theorem dp_natsL {v : V} {ns : List Nat} : Dp K H v (.list (nD ns)) ↔ ∃ a, v = .ref a ∧ SqL K H a (nV ns) := by rw [nD_eq, nV_eq]; exact dp_intsL
theorem iV_len (ns : List Int) : (iV ns).length = ns.length := List.length_map _
theorem nV_len (ns : List Nat) : (nV ns).length = ns.length := List.length_map _
theorem iD_len (ns : List Int) : (iD ns).length = ns.length := List.length_map _
theorem nD_len (ns : List Nat) : (nD ns).length = ns.length := List.length_map _
theorem iV_get {ns : List Int} {i : Nat} {x : V} (h : (iV ns)[i]? = some x) : ∃ n, ns[i]? = some n ∧ x = .int n := by
  unfold iV at h
  rw [List.getElem?_map] at h
  cases e : ns[i]? with
  | none => rw [e] at h; cases h
  | some n => rw [e] at h; exact ⟨n, rfl, (Option.some.inj h).symm⟩
theorem nV_get {ns : List Nat} {i : Nat} {x : V} (h : (nV ns)[i]? = some x) : ∃ n : Nat, ns[i]? = some n ∧ x = .int n := by
  unfold nV at h
  rw [List.getElem?_map] at h
  cases e : ns[i]? with
  | none => rw [e] at h; cases h
  | some n => rw [e] at h; exact ⟨n, rfl, (Option.some.inj h).symm⟩
theorem iV_at {ns : List Int} {i : Nat} {n : Int} (h : ns[i]? = some n) : (iV ns)[i]? = some (.int n) := by unfold iV; rw [List.getElem?_map, h]; rfl
theorem nV_at {ns : List Nat} {i : Nat} {n : Nat} (h : ns[i]? = some n) : (nV ns)[i]? = some (.int n) := by unfold nV; rw [List.getElem?_map, h]; rfl
/-- a pair of places -/
def pr (p : Nat × Nat) : PyData := .tuple [.int (p.1 : Int), .int (p.2 : Int)]
theorem dp_pr {v : V} {p : Nat × Nat} : Dp K H v (pr p) ↔ ∃ a, v = .ref a ∧ SqT K H a [.int (p.1 : Int), .int (p.2 : Int)] := by
  constructor
  · intro h
    obtain ⟨a, xs, rfl, hs, ha⟩ := dp_tup h
    cases ha with
    | cons h1 t =>
      cases t with
      | cons h2 t =>
        cases t
        rw [dp_int h1, dp_int h2] at hs
        exact ⟨a, rfl, hs⟩
  · rintro ⟨a, rfl, hs⟩
    exact .tup hs (.cons (.int _) (.cons (.int _) .nil))
end
/-! ### a tree as data -/
structure Tr where
  ws : List Int
  ties : List (Nat × Nat)
abbrev Tr.n (t : Tr) : Nat := t.ws.length
def trD (t : Tr) : PyData := .tuple [.tuple (iD t.ws), .tuple (t.ties.map pr)]
theorem dp_tr {K : PySem.W.Frag} {H : Hp} {v : V} {t : Tr} : Dp K H v (trD t) ↔ ∃ a b c ps, v = .ref a ∧ SqT K H a [.ref b, .ref c] ∧ SqT K H b (iV t.ws) ∧ SqT K H c ps ∧ DpAll K H ps (t.ties.map pr) := by
  constructor
  · intro h
    obtain ⟨a, xs, rfl, hs, ha⟩ := dp_tup h
    cases ha with
    | cons h1 q =>
      cases q with
      | cons h2 q =>
        cases q
        obtain ⟨b, rfl, hb⟩ := dp_ints.mp h1
        obtain ⟨c, ps, rfl, hc, hp⟩ := dp_tup h2
        exact ⟨a, b, c, ps, rfl, hs, hb, hc, hp⟩
  · rintro ⟨a, b, c, ps, rfl, hs, hb, hc, hp⟩
    exact .tup hs (.cons (dp_ints.mpr ⟨b, rfl, hb⟩) (.cons (.tup hc hp) .nil))
/-- what a def hands back: data apart from L, all else as it was -/
def Ret (K : PySem.W.Frag) (H : Hp) (L : List Addr) (d : PyData) (Q : VK) : Prop := ∀ v H', Same H H' → Dp K (wo H' L) v d → Q v H'
theorem Ret.same {K : PySem.W.Frag} {H H1 : Hp} {L : List Addr} {d : PyData} {Q : VK} (r : Ret K H L d Q) (e : Same H H1) : Ret K H1 L d Q := fun v H' e' h => r v H' (e.trans e') h
/-! ### a comprehension whose elements are made of data -/
theorem lcw {K : PySem.W.Frag} {J : It} {n : Nat} {G : Hp → Prop} {Yt : Nat → Hp → V → Hp → Prop} (w : Walk J n G Yt) {g : TG} {tt : TT} {te : TE} {vs : List Nat} {σ : L2.St} {H1 : Hp} {Q : Addr → Hp → Prop} (L : List Addr) (f : Nat → Option PyData)
    (hn : n ≤ 100000) (hT : Trk H1 L) (hG : ∀ H', Same H1 H' → G H')
    (hs : ∀ D i x H H' (R : VK) (R0 : Hp → Prop), i < n → Same H1 H → Trk H (D :: L) → Yt i H x H' → (∀ y H4 d, f i = some d → Same H H4 → Dp K (wo H4 (D :: L)) y d → R y H4) → (∀ H4, f i = none → Same H H4 → R0 H4) →
      g x (wipe σ vs) H' fun σ2 H2 => wipe σ2 vs = wipe σ vs ∧ tt σ2 H2 fun b H3 => if b = true then te σ2 H3 R else R0 H3)
    (hd : ∀ D H' ys, H1 D = none → Same H1 H' → H' D = some (.lst ys) → DpAll K (wo H' (D :: L)) ys ((List.range n).filterMap f) → Q D H') :
    ∀ D, H1 D = none → ∃ W : Nat → Nat → Hp → Prop, (∃ m, W 0 m (upd H1 D (.lst []))) ∧ ∀ i m H, W i m H →
      (J.stop i H ∧ Q D H) ∨ (J.go i H ∧ ∃ Nx : Hp → Prop, (∀ H', Nx H' → ∃ m', m' < m ∧ W (i + 1) m' H') ∧ ∀ x H', J.yld i H x H' → g x (wipe σ vs) H' fun σ2 H2 => wipe σ2 vs = wipe σ vs ∧ tt σ2 H2 fun b H3 =>
        if b = true then te σ2 H3 fun y H4 => ∃ acc, H4 D = some (.lst acc) ∧ acc.length < sizeLine ∧ Nx (upd H4 D (.lst (acc ++ [y]))) else Nx H3) := by
  intro D hD
  refine lc_it w (fun i H => Same H1 H ∧ ∃ ys, H D = some (.lst ys) ∧ DpAll K (wo H (D :: L)) ys ((List.range i).filterMap f)) ⟨same_new hD _, [], upd_same, .nil⟩ (fun i H hi p => hG H p.1) ?_ ?_
  · rintro i x H H' hi ⟨s1, ys, hy, ha⟩ y
    have hT' : Trk H (D :: L) := (hT.mono s1).cons (by rw [hy]; simp)
    refine hs D i x H H' _ _ hi s1 hT' y ?_ ?_
    · intro y H4 d hf s2 hd
      refine ⟨ys, s2 D _ hy, ?_, same_mut (s1.trans s2) hD, ys ++ [y], upd_same, ?_⟩
      · have h1 := L2.DpAll.length ha
        have h2 := List.length_filterMap_le f (List.range i)
        rw [List.length_range] at h2
        have h3 : (100000 : Nat) < sizeLine := by decide
        omega
      · rw [List.range_succ, List.filterMap_append, List.filterMap_cons, hf, List.filterMap_nil, wo_upd_in (by simp)]
        exact (dpAll_mono (wo_mono s2) ha).snoc hd
    · intro H4 hf s2
      refine ⟨s1.trans s2, ys, s2 D _ hy, ?_⟩
      rw [List.range_succ, List.filterMap_append, List.filterMap_cons, hf, List.filterMap_nil, List.append_nil]
      exact dpAll_mono (wo_mono s2) ha
  · rintro H ⟨s1, ys, hy, ha⟩
    exact hd D H ys hD s1 hy ha
/-- the made list is data, too -/
theorem made_lst {K : PySem.W.Frag} {H1 H' : Hp} {L : List Addr} {D : Addr} {ys : List V} {ds : List PyData} (hT : Trk H1 L) (hD : H1 D = none) (s : Same H1 H') (h : H' D = some (.lst ys)) (ha : DpAll K (wo H' (D :: L)) ys ds) : Dp K (wo H' L) (.ref D) (.list ds) := by
  refine .lst (.inl (.inl ?_)) (dpAll_mono (wo_sub fun a m => List.mem_cons_of_mem _ m) ha)
  rw [wo_out (hT.fresh hD)]
  exact h
theorem wo_cons_le {H : Hp} {D : Addr} {L : List Addr} : Same (wo H (D :: L)) (wo H L) := wo_sub fun a m => List.mem_cons_of_mem _ m
theorem filterMap_some {α β : Type} (f : α → β) (l : List α) : l.filterMap (fun x => some (f x)) = l.map f := by
  induction l with
  | nil => rfl
  | cons a r ih => rw [List.filterMap_cons, List.map_cons, ih]
theorem filterMap_if {α β : Type} (p : α → Bool) (f : α → β) (l : List α) : l.filterMap (fun x => if p x = true then some (f x) else none) = (l.filter p).map f := by
  induction l with
  | nil => rfl
  | cons a r ih =>
    rw [List.filterMap_cons, List.filter_cons, ih]
    cases p a <;> rfl
theorem sz {n : Nat} (h : n ≤ 100000) : n ≤ sizeLine := Nat.le_trans h (by decide)
theorem szl {n : Nat} (h : n < 100000) : n < sizeLine := Nat.lt_of_lt_of_le h (by decide)
end Y
/-! trees: rooted at any place, non-backtracking ways are one -/
namespace TM
structure Rooted (n : Nat) (adj : Nat → Nat → Prop) (r : Nat) (par dep : Nat → Nat) : Prop where
  root : r < n
  dep0 : dep r = 0
  up : ∀ v, v < n → v ≠ r → par v < n ∧ dep v = dep (par v) + 1
  edge : ∀ u v, adj u v ↔ (u < n ∧ v < n ∧ ((u ≠ r ∧ par u = v) ∨ (v ≠ r ∧ par v = u)))
def IsTree (n : Nat) (adj : Nat → Nat → Prop) : Prop := ∀ r, r < n → ∃ par dep, Rooted n adj r par dep
theorem Rooted.sym {n adj r par dep} (R : Rooted n adj r par dep) {u v : Nat} (h : adj u v) : adj v u := by
  obtain ⟨a, b, c⟩ := (R.edge u v).mp h
  exact (R.edge v u).mpr ⟨b, a, c.symm⟩
theorem isTree_congr {n adj adj'} (h : ∀ u v, adj u v ↔ adj' u v) (T : IsTree n adj) : IsTree n adj' := fun r hr => by
  obtain ⟨par, dep, R⟩ := T r hr
  exact ⟨par, dep, R.root, R.dep0, R.up, fun u v => (h u v).symm.trans (R.edge u v)⟩
theorem isTree_one {adj : Nat → Nat → Prop} (h : ∀ u v, ¬ adj u v) : IsTree 1 adj := fun r hr => by
  refine ⟨fun _ => 0, fun _ => 0, hr, rfl, fun v hv hne => absurd (show v = r by omega) hne, fun u v => ⟨fun a => absurd a (h u v), fun ⟨a, b, c⟩ => ?_⟩⟩
  rcases c with c | c
  · exact absurd (show u = r by omega) c.1
  · exact absurd (show v = r by omega) c.1
theorem isTree_zero {adj : Nat → Nat → Prop} : IsTree 0 adj := fun r hr => absurd hr (Nat.not_lt_zero r)
/-- one more leaf -/
theorem isTree_leaf {n : Nat} {adj adj' : Nat → Nat → Prop} (T : IsTree n adj) {q : Nat} (hq : q < n)
    (h : ∀ u v, adj' u v ↔ (adj u v ∨ (u = q ∧ v = n) ∨ (u = n ∧ v = q))) : IsTree (n + 1) adj' := fun r hr => by
  by_cases e : r = n
  · subst e
    obtain ⟨par, dep, R⟩ := T q hq
    refine ⟨fun v => if v = q then r else par v, fun v => if v = r then 0 else dep v + 1, by omega, by simp, fun v hv hne => ?_, fun u v => ?_⟩
    · have hv' : v < r := by omega
      by_cases evq : v = q
      · subst evq
        have : v ≠ r := by omega
        refine ⟨by simp, ?_⟩
        simp only [if_pos, if_neg this, R.dep0]
      · obtain ⟨h1, h2⟩ := R.up v hv' evq
        have h3 : par v ≠ r := by omega
        refine ⟨by rw [if_neg evq]; omega, ?_⟩
        simp only [if_neg hne, if_neg evq, if_neg h3, h2]
    · rw [h u v, R.edge u v]
      constructor
      · rintro (⟨a, b, c⟩ | ⟨a, b⟩ | ⟨a, b⟩)
        · refine ⟨by omega, by omega, ?_⟩
          rcases c with ⟨c1, c2⟩ | ⟨c1, c2⟩
          · exact .inl ⟨by omega, by rw [if_neg c1]; exact c2⟩
          · exact .inr ⟨by omega, by rw [if_neg c1]; exact c2⟩
        · subst a b
          exact ⟨by omega, by omega, .inl ⟨by omega, by simp⟩⟩
        · subst a b
          exact ⟨by omega, by omega, .inr ⟨by omega, by simp⟩⟩
      · rintro ⟨a, b, ⟨c1, c2⟩ | ⟨c1, c2⟩⟩
        · by_cases euq : u = q
          · rw [if_pos euq] at c2
            exact .inr (.inl ⟨euq, c2.symm⟩)
          · rw [if_neg euq] at c2
            have := R.up u (by omega) euq
            exact .inl ⟨by omega, by omega, .inl ⟨euq, c2⟩⟩
        · by_cases evq : v = q
          · rw [if_pos evq] at c2
            exact .inr (.inr ⟨c2.symm, evq⟩)
          · rw [if_neg evq] at c2
            have := R.up v (by omega) evq
            exact .inl ⟨by omega, by omega, .inr ⟨evq, c2⟩⟩
  · have hr' : r < n := by omega
    obtain ⟨par, dep, R⟩ := T r hr'
    refine ⟨fun v => if v = n then q else par v, fun v => if v = n then dep q + 1 else dep v, by omega, by simp only [if_neg e, R.dep0], fun v hv hne => ?_, fun u v => ?_⟩
    · by_cases evn : v = n
      · have : q ≠ n := by omega
        refine ⟨by rw [if_pos evn]; omega, ?_⟩
        simp only [if_pos evn, if_neg this]
      · obtain ⟨h1, h2⟩ := R.up v (by omega) hne
        have h3 : par v ≠ n := by omega
        refine ⟨by rw [if_neg evn]; omega, ?_⟩
        simp only [if_neg evn, if_neg h3, h2]
    · rw [h u v, R.edge u v]
      constructor
      · rintro (⟨a, b, c⟩ | ⟨a, b⟩ | ⟨a, b⟩)
        · refine ⟨by omega, by omega, ?_⟩
          rcases c with ⟨c1, c2⟩ | ⟨c1, c2⟩
          · exact .inl ⟨c1, by rw [if_neg (by omega)]; exact c2⟩
          · exact .inr ⟨c1, by rw [if_neg (by omega)]; exact c2⟩
        · exact ⟨by omega, by omega, .inr ⟨by omega, by rw [if_pos b]; exact a.symm⟩⟩
        · exact ⟨by omega, by omega, .inl ⟨by omega, by rw [if_pos a]; exact b.symm⟩⟩
      · rintro ⟨a, b, ⟨c1, c2⟩ | ⟨c1, c2⟩⟩
        · by_cases eun : u = n
          · rw [if_pos eun] at c2
            exact .inr (.inr ⟨eun, c2.symm⟩)
          · rw [if_neg eun] at c2
            have := R.up u (by omega) c1
            exact .inl ⟨by omega, by omega, .inl ⟨c1, c2⟩⟩
        · by_cases evn : v = n
          · rw [if_pos evn] at c2
            exact .inr (.inl ⟨c2.symm, evn⟩)
          · rw [if_neg evn] at c2
            have := R.up v (by omega) c1
            exact .inl ⟨by omega, by omega, .inr ⟨c1, c2⟩⟩
/-- numbered otherwise -/
theorem isTree_listed {n : Nat} {adj adj' : Nat → Nat → Prop} (T : IsTree n adj) {f g : Nat → Nat} (hf : ∀ v, v < n → f v < n ∧ g (f v) = v) (hg : ∀ v, v < n → g v < n ∧ f (g v) = v)
    (h : ∀ u v, adj' u v ↔ (u < n ∧ v < n ∧ adj (f u) (f v))) : IsTree n adj' := fun r hr => by
  obtain ⟨par, dep, R⟩ := T (f r) (hf r hr).1
  refine ⟨fun v => g (par (f v)), fun v => dep (f v), hr, R.dep0, fun v hv hne => ?_, fun u v => ?_⟩
  · have hfne : f v ≠ f r := fun e => hne (by rw [← (hf v hv).2, ← (hf r hr).2, e])
    obtain ⟨h1, h2⟩ := R.up (f v) (hf v hv).1 hfne
    exact ⟨(hg _ h1).1, by show dep (f v) = dep (f (g (par (f v)))) + 1; rw [(hg _ h1).2]; exact h2⟩
  · have key : ∀ u v, u < n → v < n → ((f u ≠ f r ∧ par (f u) = f v) ↔ (u ≠ r ∧ g (par (f u)) = v)) := fun u v hu hv => by
      constructor
      · rintro ⟨a, b⟩
        exact ⟨fun e => a (by rw [e]), by rw [b]; exact (hf v hv).2⟩
      · rintro ⟨a, b⟩
        have hfne : f u ≠ f r := fun e => a (by rw [← (hf u hu).2, ← (hf r hr).2, e])
        exact ⟨hfne, by rw [← b]; exact ((hg _ (R.up _ (hf u hu).1 hfne).1).2).symm⟩
    rw [h u v]
    constructor
    · rintro ⟨a, b, c⟩
      obtain ⟨_, _, d⟩ := (R.edge _ _).mp c
      refine ⟨a, b, ?_⟩
      rcases d with d | d
      · exact .inl ((key u v a b).mp d)
      · exact .inr ((key v u b a).mp d)
    · rintro ⟨a, b, d⟩
      refine ⟨a, b, (R.edge _ _).mpr ⟨(hf u a).1, (hf v b).1, ?_⟩⟩
      rcases d with d | d
      · exact .inl ((key u v a b).mpr d)
      · exact .inr ((key v u b a).mpr d)
/-! ### ways up -/
/-- the list leads from its head along par to r -/
inductive Up (par : Nat → Nat) (r : Nat) : List Nat → Prop
  | last : Up par r [r]
  | step {v w : Nat} {l : List Nat} : v ≠ r → par v = w → Up par r (w :: l) → Up par r (v :: w :: l)
theorem Up.uniq {par r} : ∀ {l m : List Nat}, Up par r l → Up par r m → l.head? = m.head? → l = m := by
  intro l m h
  induction h generalizing m with
  | last =>
    intro hm e
    cases hm with
    | last => rfl
    | step a b c =>
      simp at e
      exact absurd e.symm a
  | step a b c ih =>
    intro hm e
    cases hm with
    | last =>
      simp at e
      exact absurd e a
    | step a' b' c' =>
      simp at e
      subst e
      rw [b] at b'
      subst b'
      rw [ih c' rfl]
/-- consecutive ones are neighbours and no step is taken back at once -/
inductive NB (adj : Nat → Nat → Prop) : List Nat → Prop
  | one (v : Nat) : NB adj [v]
  | two {v w : Nat} : adj v w → NB adj [v, w]
  | more {u v w : Nat} {l : List Nat} : adj u v → u ≠ w → NB adj (v :: w :: l) → NB adj (u :: v :: w :: l)
theorem NB.up {n adj r par dep} (R : Rooted n adj r par dep) : ∀ {l : List Nat}, NB adj l → l.getLast? = some r → Up par r l := by
  intro l h
  induction h with
  | one v =>
    intro e
    simp at e
    subst e
    exact .last
  | two a =>
    intro e
    simp at e
    subst e
    obtain ⟨_, _, c⟩ := (R.edge _ _).mp a
    rcases c with ⟨c1, c2⟩ | ⟨c1, _⟩
    · exact .step c1 c2 .last
    · exact absurd rfl c1
  | more a ne hb ih =>
    intro e
    have hu := ih (by simpa using e)
    obtain ⟨_, _, c⟩ := (R.edge _ _).mp a
    rcases c with ⟨c1, c2⟩ | ⟨c1, c2⟩
    · exact .step c1 c2 hu
    · cases hu with
      | step a' b' c' =>
        rw [c2] at b'
        exact absurd b' ne
theorem Up.last? {par r} : ∀ {l : List Nat}, Up par r l → l.getLast? = some r := by
  intro l h
  induction h with
  | last => rfl
  | step a b c ih => simpa using ih
theorem Up.nb {n adj r par dep} (R : Rooted n adj r par dep) : ∀ {l : List Nat}, Up par r l → (∀ v ∈ l, v < n) → NB adj l := by
  intro l h
  induction h with
  | last => intro _; exact .one _
  | @step v w l a b c ih =>
    intro hl
    have hw : w < n := hl w (by simp)
    have hv : v < n := hl v (by simp)
    have e : adj v w := (R.edge _ _).mpr ⟨hv, hw, .inl ⟨a, b⟩⟩
    have q := ih fun x m => hl x (List.mem_cons_of_mem _ m)
    cases c with
    | last => exact .two e
    | step a' b' c' =>
      refine .more e (fun ee => ?_) q
      subst ee
      have h1 := (R.up _ hv a).2
      have h2 := (R.up _ hw a').2
      rw [b] at h1
      rw [b'] at h2
      omega
theorem NB.snoc {adj : Nat → Nat → Prop} : ∀ {l : List Nat} {u v : Nat}, NB adj (l ++ [u]) → adj u v → l.getLast? ≠ some v → NB adj (l ++ [u, v]) := by
  intro l
  induction l with
  | nil =>
    intro u v _ a _
    exact .two a
  | cons x r ih =>
    intro u v h a ne
    cases r with
    | nil =>
      cases h with
      | two b => exact .more b (fun e => ne (by simp [e])) (.two a)
    | cons y r' =>
      have key : NB adj ((y :: r') ++ [u]) ∧ adj x y ∧ ∀ z, (r' ++ [u]).head? = some z → x ≠ z := by
        cases r' with
        | nil =>
          cases h with
          | more b ne hb => exact ⟨hb, b, fun z e => by simp at e; subst e; exact ne⟩
        | cons z r'' =>
          cases h with
          | more b ne hb => exact ⟨hb, b, fun z e => by simp at e; subst e; exact ne⟩
      obtain ⟨k1, k2, k3⟩ := key
      have q := ih (u := u) (v := v) k1 a (by simpa using ne)
      cases r' with
      | nil => exact .more k2 (k3 u rfl) q
      | cons z r'' => exact .more k2 (k3 z rfl) q
theorem NB.reverse {adj : Nat → Nat → Prop} (sy : ∀ u v, adj u v → adj v u) : ∀ {l : List Nat}, NB adj l → NB adj l.reverse := by
  intro l h
  induction h with
  | one v => exact .one v
  | two a => exact .two (sy _ _ a)
  | @more u v w l a ne hb ih =>
    have e : (u :: v :: w :: l).reverse = (w :: l).reverse ++ [v, u] := by simp
    rw [e]
    refine NB.snoc ?_ (sy _ _ a) ?_
    · have e2 : (v :: w :: l).reverse = (w :: l).reverse ++ [v] := by simp
      rw [e2] at ih
      exact ih
    · rw [List.getLast?_reverse]
      simp
      exact fun e => ne e.symm
theorem NB.map {adj adj' : Nat → Nat → Prop} {f : Nat → Nat} {n : Nat} (hf : ∀ u v, u < n → v < n → f u = f v → u = v) (ha : ∀ u v, adj u v → adj' (f u) (f v)) : ∀ {l : List Nat}, NB adj l → (∀ v ∈ l, v < n) → NB adj' (l.map f) := by
  intro l h
  induction h with
  | one v => intro _; exact .one _
  | two a => intro _; exact .two (ha _ _ a)
  | more a ne hb ih =>
    intro hl
    exact .more (ha _ _ a) (fun e => ne (hf _ _ (hl _ (by simp)) (hl _ (by simp)) e)) (ih fun x m => hl x (List.mem_cons_of_mem _ m))
/-- the way from v up -/
def upto (par : Nat → Nat) : Nat → Nat → List Nat
  | 0, v => [v]
  | k + 1, v => v :: upto par k (par v)
theorem upto_head (par : Nat → Nat) (k v : Nat) : (upto par k v).head? = some v := by cases k <;> rfl
theorem upto_len (par : Nat → Nat) : ∀ (k v : Nat), (upto par k v).length = k + 1
  | 0, v => rfl
  | k + 1, v => by show (upto par k (par v)).length + 1 = _; rw [upto_len]
theorem upto_up {n adj r par dep} (R : Rooted n adj r par dep) : ∀ (k v : Nat), v < n → dep v = k → Up par r (upto par k v)
  | 0, v, hv, hk => by
    have e : v = r := by
      refine Classical.byContradiction fun ne => ?_
      have := (R.up v hv ne).2
      omega
    subst e
    exact .last
  | k + 1, v, hv, hk => by
    have ne : v ≠ r := fun e => by rw [e, R.dep0] at hk; omega
    obtain ⟨h1, h2⟩ := R.up v hv ne
    have q := upto_up R k (par v) h1 (by omega)
    show Up par r (v :: upto par k (par v))
    cases k with
    | zero => exact .step ne rfl q
    | succ k => exact .step ne rfl q
theorem upto_lt {n adj r par dep} (R : Rooted n adj r par dep) : ∀ (k v : Nat), v < n → dep v = k → ∀ x ∈ upto par k v, x < n ∧ dep x ≤ k
  | 0, v, hv, hk, x, hx => by
    have : x = v := by simpa [upto] using hx
    subst this
    exact ⟨hv, by omega⟩
  | k + 1, v, hv, hk, x, hx => by
    have ne : v ≠ r := fun e => by rw [e, R.dep0] at hk; omega
    obtain ⟨h1, h2⟩ := R.up v hv ne
    rcases List.mem_cons.mp hx with e | m
    · subst e
      exact ⟨hv, by omega⟩
    · have := upto_lt R k (par v) h1 (by omega) x m
      exact ⟨this.1, by omega⟩
theorem upto_nodup {n adj r par dep} (R : Rooted n adj r par dep) : ∀ (k v : Nat), v < n → dep v = k → (upto par k v).Nodup
  | 0, v, hv, hk => by simp [upto]
  | k + 1, v, hv, hk => by
    have ne : v ≠ r := fun e => by rw [e, R.dep0] at hk; omega
    obtain ⟨h1, h2⟩ := R.up v hv ne
    refine List.nodup_cons.mpr ⟨fun m => ?_, upto_nodup R k (par v) h1 (by omega)⟩
    have := (upto_lt R k (par v) h1 (by omega) v m).2
    omega
theorem nodup_le : ∀ (n : Nat) (l : List Nat), l.Nodup → (∀ x ∈ l, x < n) → l.length ≤ n
  | 0, l, _, h => by
    cases l with
    | nil => exact Nat.le_refl _
    | cons a r => exact absurd (h a (by simp)) (by omega)
  | n + 1, l, hn, h => by
    have q := nodup_le n (l.erase n) (hn.erase n) fun x m => by
      have h1 := h x (List.mem_of_mem_erase m)
      have h2 : x ≠ n := fun e => by
        subst e
        exact (List.Nodup.not_mem_erase hn) m
      omega
    by_cases hm : n ∈ l
    · have := List.length_erase_of_mem hm
      have : 0 < l.length := List.length_pos_of_mem hm
      omega
    · rw [List.erase_of_not_mem hm] at q
      omega
theorem dep_lt {n adj r par dep} (R : Rooted n adj r par dep) {v : Nat} (hv : v < n) : dep v < n := by
  have := nodup_le n _ (upto_nodup R (dep v) v hv rfl) fun x m => (upto_lt R _ v hv rfl x m).1
  rw [upto_len] at this
  omega
/-- the way from i to j in a tree -/
def way (par dep : Nat → Nat) (i : Nat) : List Nat := upto par (dep i) i
theorem way_uniq {n adj r par dep par' dep'} (R : Rooted n adj r par dep) (R' : Rooted n adj r par' dep') {v : Nat} (hv : v < n) : way par dep v = way par' dep' v := by
  have h1 := upto_up R' _ v hv rfl
  have h2 := (h1.nb R' fun x m => (upto_lt R' _ v hv rfl x m).1).up R h1.last?
  exact (upto_up R _ v hv rfl).uniq h2 ((upto_head _ _ _).trans (upto_head _ _ _).symm)
theorem way_back {n adj i j par dep par' dep'} (R : Rooted n adj j par dep) (R' : Rooted n adj i par' dep') : way par dep i = (way par' dep' j).reverse := by
  have h1 := upto_up R' _ j R.root rfl
  have hn := (h1.nb R' fun x m => (upto_lt R' _ j R.root rfl x m).1).reverse (fun u v h => R.sym h)
  have h2 := hn.up R (by rw [List.getLast?_reverse]; exact upto_head _ _ _)
  refine (upto_up R _ i R'.root rfl).uniq h2 ?_
  rw [upto_head, List.head?_reverse]
  exact h1.last?.symm
theorem way_map {n adj adj' r par dep par' dep'} {f : Nat → Nat} (hf : ∀ u v, u < n → v < n → f u = f v → u = v) (ha : ∀ u v, adj u v → adj' (f u) (f v))
    (R : Rooted n adj r par dep) (R' : Rooted n adj' (f r) par' dep') {v : Nat} (hv : v < n) (hfv : f v < n) : (way par dep v).map f = way par' dep' (f v) := by
  have h1 := upto_up R _ v hv rfl
  have hn := (h1.nb R fun x m => (upto_lt R _ v hv rfl x m).1).map hf ha fun x m => (upto_lt R _ v hv rfl x m).1
  have h2 := hn.up R' (by rw [List.getLast?_map, h1.last?]; rfl)
  refine h2.uniq (upto_up R' _ _ hfv rfl) ?_
  refine Eq.trans ?_ (upto_head par' (dep' (f v)) (f v)).symm
  rw [List.head?_map, upto_head]
  rfl
end TM
namespace Y
open PySem PySem.Spec PyProof.Rows L2
/-! ### the mathematics of trees as pairs -/
def other (v : Nat) (p : Nat × Nat) : Option Nat := if p.1 = v then some p.2 else if p.2 = v then some p.1 else none
def nb (ties : List (Nat × Nat)) (v : Nat) : List Nat := ties.filterMap (other v)
def lexL (p q : Nat × Nat) : Prop := p.1 < q.1 ∨ (p.1 = q.1 ∧ p.2 < q.2)
/-- places in bounds, two of a pair apart, few pairs -/
structure Okt (t : Tr) : Prop where
  few : t.n ≤ 16
  fewT : t.ties.length ≤ 100
  inb : ∀ p ∈ t.ties, p.1 < p.2 ∧ p.2 < t.n
  asc : t.ties.Pairwise lexL
def adjT (ties : List (Nat × Nat)) (u v : Nat) : Prop := (u, v) ∈ ties ∨ (v, u) ∈ ties
structure Tree (t : Tr) : Prop extends Okt t where
  tree : TM.IsTree t.n (adjT t.ties)
theorem nb_mem {ties : List (Nat × Nat)} {u v : Nat} : v ∈ nb ties u ↔ adjT ties u v := by
  unfold nb adjT
  rw [List.mem_filterMap]
  constructor
  · rintro ⟨⟨a, b⟩, hm, e⟩
    unfold other at e
    split at e
    · rename_i h
      simp at h e
      subst h e
      exact .inl hm
    · split at e
      · rename_i h
        simp at h e
        subst h e
        exact .inr hm
      · cases e
  · rintro (h | h)
    · exact ⟨_, h, by unfold other; simp⟩
    · by_cases e : v = u
      · subst e
        exact ⟨_, h, by unfold other; simp⟩
      · exact ⟨_, h, by unfold other; simp [e]⟩
theorem nb_asc {t : Tr} (O : Okt t) (v : Nat) : (nb t.ties v).Pairwise (· < ·) := by
  unfold nb
  rw [List.pairwise_filterMap]
  refine List.Pairwise.imp_of_mem ?_ O.asc
  intro p q hp hq l b hb c hc
  have h1 := O.inb p hp
  have h2 := O.inb q hq
  unfold other at hb hc
  unfold lexL at l
  split at hb
  · simp at hb
    subst hb
    split at hc
    · simp at hc
      subst hc
      omega
    · split at hc
      · simp at hc
        subst hc
        omega
      · cases hc
  · split at hb
    · simp at hb
      subst hb
      split at hc
      · simp at hc
        subst hc
        omega
      · split at hc
        · simp at hc
          subst hc
          omega
        · cases hc
    · cases hb
theorem nb_lt {t : Tr} (O : Okt t) {v u : Nat} (h : u ∈ nb t.ties v) : u < t.n ∧ v < t.n ∧ u ≠ v := by
  rcases nb_mem.mp h with h | h
  · have := O.inb _ h; simp at this; omega
  · have := O.inb _ h; simp at this; omega
theorem nb_nodup {t : Tr} (O : Okt t) (v : Nat) : (nb t.ties v).Nodup := (nb_asc O v).imp fun h => Nat.ne_of_lt h
theorem nb_le {t : Tr} (O : Okt t) (v : Nat) : (nb t.ties v).length ≤ 16 := Nat.le_trans (TM.nodup_le t.n _ (nb_nodup O v) fun x hx => (nb_lt O hx).1) O.few
def nbs (t : Tr) : List (List Nat) := (List.range t.n).map (nb t.ties)
def llD (l : List (List Nat)) : PyData := .list (l.map fun x => .list (nD x))
end Y
namespace Y
open PySem PySem.Spec PyProof.Rows L2
/-- a new list at D of new lists at ps, which hold cs -/
structure LL (H0 H : Hp) (D : Addr) (ps : List Addr) (cs : List (List Nat)) : Prop where
  s : Same H0 H
  d0 : H0 D = none
  d : H D = some (.lst (ps.map V.ref))
  nd : ps.Nodup
  nD : D ∉ ps
  f : ∀ p ∈ ps, H0 p = none
  len : ps.length = cs.length
  cat : ∀ (k : Nat) p c, ps[k]? = some p → cs[k]? = some c → H p = some (.lst (nV c))
theorem LL.app {H0 H : Hp} {D : Addr} {ps : List Addr} {cs : List (List Nat)} (h : LL H0 H D ps cs) {k : Nat} {p : Addr} {c : List Nat} (hp : ps[k]? = some p) (hc : cs[k]? = some c) (j : Nat) :
    LL H0 (upd H p (.lst (nV c ++ [.int j]))) D ps (cs.set k (c ++ [j])) := by
  have hm : p ∈ ps := List.mem_of_getElem? hp
  refine ⟨same_mut h.s (h.f p hm), h.d0, ?_, h.nd, h.nD, h.f, by rw [List.length_set]; exact h.len, ?_⟩
  · rw [upd_ne fun e => h.nD (by rw [e]; exact hm)]
    exact h.d
  · intro k' p' c' hp' hc'
    by_cases e : k' = k
    · subst e
      rw [hp] at hp'
      cases hp'
      obtain ⟨hk, _⟩ := List.getElem?_eq_some_iff.mp hc
      rw [List.getElem?_set_self hk] at hc'
      cases hc'
      rw [upd_same]
      unfold nV
      rw [List.map_append]
      rfl
    · rw [List.getElem?_set_ne (Ne.symm e)] at hc'
      have ne : p' ≠ p := fun q => e (nd_ix h.nd hp' (by rw [q]; exact hp))
      rw [upd_ne ne]
      exact h.cat k' p' c' hp' hc'
theorem LL.new {H0 H : Hp} {D : Addr} {ps : List Addr} {cs : List (List Nat)} (h : LL H0 H D ps cs) {p : Addr} (hp : H p = none) :
    LL H0 (upd (upd H p (.lst [])) D (.lst (ps.map V.ref ++ [.ref p]))) D (ps ++ [p]) (cs ++ [[]]) := by
  have neD : p ≠ D := fun e => by rw [e, h.d] at hp; cases hp
  have nm : p ∉ ps := fun m => by
    obtain ⟨k, hk⟩ := List.mem_iff_getElem?.mp m
    have hk' : k < cs.length := by rw [← h.len]; exact (List.getElem?_eq_some_iff.mp hk).1
    have := h.cat k p _ hk (List.getElem?_eq_getElem hk')
    rw [hp] at this
    cases this
  refine ⟨same_mut (h.s.trans (same_new hp _)) h.d0, h.d0, ?_, ?_, ?_, ?_, by rw [List.length_append, List.length_append, h.len]; rfl, ?_⟩
  · rw [upd_same, List.map_append]
    rfl
  · rw [List.nodup_append]
    exact ⟨h.nd, by simp, fun a ha b hb e => nm (by simp at hb; rw [← hb, ← e]; exact ha)⟩
  · intro m
    rcases List.mem_append.mp m with m | m
    · exact h.nD m
    · simp at m
      exact neD m.symm
  · intro q m
    rcases List.mem_append.mp m with m | m
    · exact h.f q m
    · simp at m
      rw [m]
      exact h.s.free hp
  · intro k q c hq hc
    by_cases hk : k < ps.length
    · rw [List.getElem?_append_left hk] at hq
      rw [List.getElem?_append_left (by rw [← h.len]; exact hk)] at hc
      have m : q ∈ ps := List.mem_of_getElem? hq
      rw [upd_ne fun e => h.nD (by rw [← e]; exact m), upd_ne fun e => nm (by rw [← e]; exact m)]
      exact h.cat k q c hq hc
    · rw [List.getElem?_append_right (by omega)] at hq
      rw [List.getElem?_append_right (by rw [← h.len]; omega)] at hc
      have e0 : k - ps.length = 0 := by
        have := (List.getElem?_eq_some_iff.mp hq).1
        simp at this
        omega
      rw [e0] at hq
      rw [← h.len, e0] at hc
      cases hq
      cases hc
      rw [upd_ne neD, upd_same]
      rfl
theorem LL.same {H0 H H' : Hp} {D : Addr} {ps : List Addr} {cs : List (List Nat)} (h : LL H0 H D ps cs) (e : Same H H') : LL H0 H' D ps cs :=
  ⟨h.s.trans e, h.d0, e _ _ h.d, h.nd, h.nD, h.f, h.len, fun k p c a b => e _ _ (h.cat k p c a b)⟩
theorem LL.dp {K : PySem.W.Frag} {H0 H : Hp} {L : List Addr} {D : Addr} {ps : List Addr} {cs : List (List Nat)} (h : LL H0 H D ps cs) (t : Trk H0 L) : Dp K (wo H L) (.ref D) (llD cs) := by
  refine .lst (xs := ps.map V.ref) (.inl (.inl ?_)) (L2.DpAll.of_get (by simp [h.len]) ?_)
  · rw [wo_out (t.fresh h.d0)]
    exact h.d
  · intro i x d hx hd
    rw [List.getElem?_map] at hx hd
    cases e : ps[i]? with
    | none => rw [e] at hx; cases hx
    | some p =>
      cases e2 : cs[i]? with
      | none => rw [e2] at hd; cases hd
      | some c =>
        rw [e] at hx
        rw [e2] at hd
        cases hx
        cases hd
        refine dp_natsL.mpr ⟨p, rfl, .inl (.inl ?_)⟩
        rw [wo_out (t.fresh (h.f p (List.mem_of_getElem? e)))]
        exact h.cat i p c e e2
theorem nb_snoc (T : List (Nat × Nat)) (p : Nat × Nat) (v : Nat) : nb (T ++ [p]) v = nb T v ++ (other v p).toList := by
  unfold nb
  rw [List.filterMap_append]
  congr 1
theorem cs_step {n i j : Nat} (T : List (Nat × Nat)) (hi : i < n) (hj : j < n) (hij : i ≠ j) :
    (((List.range n).map (nb T)).set i (nb T i ++ [j])).set j (nb T j ++ [i]) = (List.range n).map (nb (T ++ [(i, j)])) := by
  apply List.ext_getElem?
  intro k
  by_cases hk : k < n
  · have e1 : (List.map (nb (T ++ [(i, j)])) (List.range n))[k]? = some (nb (T ++ [(i, j)]) k) := by simp [hk]
    rw [e1, nb_snoc]
    unfold other
    by_cases e : k = j
    · subst e
      rw [List.getElem?_set_self (by simpa using hk)]
      simp [hij]
    · rw [List.getElem?_set_ne (Ne.symm e)]
      by_cases e2 : k = i
      · subst e2
        rw [List.getElem?_set_self (by simp [hk])]
        simp
      · rw [List.getElem?_set_ne (Ne.symm e2)]
        simp [hk, Ne.symm e, Ne.symm e2]
  · rw [List.getElem?_eq_none (by simp; omega), List.getElem?_eq_none (by simp; omega)]
theorem nb_nil (v : Nat) : nb [] v = [] := rfl
/-- what is asked of a def over one tree -/
def spTree (r : Tr → PyData) (K : PySem.W.Frag) : Sp := fun vs H Q _ => ∃ L tv t, vs = [tv] ∧ Trk H L ∧ Okt t ∧ Dp K (wo H L) tv (trD t) ∧ Ret K H L (r t) Q
abbrev sp_neighbour_lists := spTree fun t => llD (nbs t)
end Y
namespace Y
open PySem PySem.Spec PyProof.Rows L2
def leP (p q : Nat × Nat) : Bool := decide (p.1 < q.1 ∨ (p.1 = q.1 ∧ p.2 ≤ q.2))
def sortP (l : List (Nat × Nat)) : List (Nat × Nat) := l.mergeSort leP
theorem leP_iff {p q : Nat × Nat} : leP p q = true ↔ (p.1 < q.1 ∨ (p.1 = q.1 ∧ p.2 ≤ q.2)) := decide_eq_true_iff
theorem sortP_perm (l : List (Nat × Nat)) : (sortP l).Perm l := List.mergeSort_perm _ _
theorem sortP_sorted (l : List (Nat × Nat)) : (sortP l).Pairwise fun p q => leP p q = true := by
  refine List.pairwise_mergeSort (fun a b c h1 h2 => ?_) (fun a b => ?_) l
  · rw [leP_iff] at *
    omega
  · rw [Bool.or_eq_true, leP_iff, leP_iff]
    omega
theorem sortP_uniq {l m : List (Nat × Nat)} (h : l.Pairwise fun p q => leP p q = true) (p : l.Perm m) : l = sortP m := by
  refine List.Perm.eq_of_pairwise (le := fun p q => leP p q = true) (fun a b _ _ h1 h2 => ?_) h (sortP_sorted m) (p.trans (sortP_perm m).symm)
  rw [leP_iff] at h1 h2
  apply Prod.ext <;> omega
theorem sortP_of_perm {l m : List (Nat × Nat)} (p : l.Perm m) : sortP l = sortP m := sortP_uniq (sortP_sorted l) ((sortP_perm l).trans p)
open Classical in
noncomputable def keyAt (K : PySem.W.Frag) (H : Hp) : V → Int × Int
  | .ref t => if h : ∃ p : Int × Int, SqT K H t [.int p.1, .int p.2] then choose h else (0, 0)
  | _ => (0, 0)
theorem keyAt_spec {X : Cx} {pins : List (Addr × Obj)} {σ : L2.St} {H : Hp} {s : Shared} (I : Inv X pins σ H s) {t : Addr} {i j : Int} (h : SqT X.K H t [.int i, .int j]) : keyAt X.K H (.ref t) = (i, j) := by
  have hx : ∃ p : Int × Int, SqT X.K H t [.int p.1, .int p.2] := ⟨(i, j), h⟩
  have e : keyAt X.K H (.ref t) = Classical.choose hx := by
    unfold keyAt
    exact dif_pos hx
  rw [e]
  have q := I.tuple_inj (Classical.choose_spec hx) h
  simp at q
  exact Prod.ext q.1 q.2
/-- sorted(xs), xs a list of pairs of places -/
def rSortedD (K : PySem.W.Frag) : List V → Hp → VK → Prop := fun vs H Q => ∃ (a : Addr) (xs : List V) (H0 : Hp) (ps : List (Nat × Nat)), vs = [V.ref a] ∧ SqL K H a xs ∧ Same H0 H ∧ DpAll K H0 xs (ps.map pr) ∧
  ∀ ys p, DpAll K H0 ys ((sortP ps).map pr) → H p = none → Q (.ref p) (upd H p (.lst ys))
section
variable {X : Cx}
theorem cr_sortedD : CallR X (.builtin "sorted") (rSortedD X.K) := by
  intro pins s σ H vs us Q I r h
  obtain ⟨a, xs, H0, ps, rfl, hs, se, hx, q⟩ := h
  obtain ⟨its, rv, hl, hz⟩ := I.list hs
  obtain ⟨u, rfl, ru⟩ := vals1 r
  obtain rfl : u = Value.ref a := ru
  have el : ∀ {i : Nat} {x : V}, xs[i]? = some x → ∃ t p, x = V.ref t ∧ ps[i]? = some p ∧ Dp X.K H0 x (pr p) ∧ SqT X.K H t [.int (p.1 : Int), .int (p.2 : Int)] ∧ keyAt X.K H x = ((p.1 : Int), (p.2 : Int)) := fun {i x} e => by
    obtain ⟨d, hd, hp⟩ := hx.getV e
    rw [List.getElem?_map] at hd
    cases ep : ps[i]? with
    | none => rw [ep] at hd; cases hd
    | some p =>
      rw [ep] at hd
      cases hd
      obtain ⟨t, rfl, ht⟩ := dp_pr.mp hp
      have ht' := se.tup ht
      exact ⟨t, p, rfl, rfl, hp, ht', keyAt_spec I ht'⟩
  have elm : ∀ {x : V}, x ∈ xs → ∃ t p, x = V.ref t ∧ Dp X.K H0 x (pr p) ∧ SqT X.K H t [.int (p.1 : Int), .int (p.2 : Int)] ∧ keyAt X.K H x = ((p.1 : Int), (p.2 : Int)) := fun {x} m => by
    obtain ⟨i, hi⟩ := List.mem_iff_getElem?.mp m
    obtain ⟨t, p, a, _, b, c, d⟩ := el hi
    exact ⟨t, p, a, b, c, d⟩
  obtain ⟨e1, e2⟩ := refs_back rv fun x m => by
    obtain ⟨t, _, e, _⟩ := elm m
    exact ⟨t, e⟩
  have ekeys : xs.map (fun v => ((keyAt X.K H v).1.toNat, (keyAt X.K H v).2.toNat)) = ps := by
    apply List.ext_getElem?
    intro i
    rw [List.getElem?_map]
    cases ex : xs[i]? with
    | none =>
      have h1 := hx.length
      rw [List.length_map] at h1
      have h2 := List.getElem?_eq_none_iff.mp ex
      exact (List.getElem?_eq_none (by omega)).symm
    | some x =>
      obtain ⟨t, p, _, ep, _, _, ek⟩ := el ex
      rw [ep]
      show some ((keyAt X.K H x).1.toNat, (keyAt X.K H x).2.toNat) = some p
      rw [ek]
      rfl
  refine SrtO.sorted_pairsO (k := fun u => keyAt X.K H (backV u)) hl.isList (by rw [← rv.length]; exact hz) (fun v hv => ?_) fun h' d out h1 h2 kp hd hn => ?_
  · obtain ⟨t, rfl⟩ := e2 v hv
    have hm : V.ref t ∈ xs := by rw [e1]; exact List.mem_map.mpr ⟨_, hv, rfl⟩
    obtain ⟨t', p, e, _, ht, ek⟩ := elm hm
    cases e
    obtain ⟨its2, r2, ⟨o, ho, hc, n, hd⟩, _⟩ := I.tuple ht
    obtain ⟨u1, u2, rfl, ri, rj⟩ := vals2 r2
    obtain ⟨t1, rfl⟩ := ri
    obtain ⟨t2, rfl⟩ := rj
    refine ⟨t, o, t1, t2, n, rfl, ho, hc, ?_⟩
    rw [hd]
    show _ = Data.seq #[.int (keyAt X.K H (.ref t)).1 t1, .int (keyAt X.K H (.ref t)).2 t2] n
    rw [ek]
  · have h3 : ∀ u ∈ out, ∃ a, u = Value.ref a := fun u hu => e2 u (h2.perm.mem_iff.mp hu)
    obtain ⟨n, hn⟩ := hn
    have hp : (out.map backV).Perm xs := by
      rw [e1]
      exact h2.perm.map backV
    have hk : (out.map backV).map (fun v => ((keyAt X.K H v).1.toNat, (keyAt X.K H v).2.toNat)) = sortP ps := by
      refine sortP_uniq ?_ ?_
      · rw [List.map_map, List.pairwise_map]
        have hso : out.Pairwise fun x y => SrtO.lexB (keyAt X.K H (backV y)) (keyAt X.K H (backV x)) = false := h1
        refine List.Pairwise.imp_of_mem ?_ hso
        intro x y hx hy l
        obtain ⟨_, p, _, _, _, ex⟩ := elm (hp.mem_iff.mp (List.mem_map.mpr ⟨x, hx, rfl⟩))
        obtain ⟨_, p', _, _, _, ey⟩ := elm (hp.mem_iff.mp (List.mem_map.mpr ⟨y, hy, rfl⟩))
        have l := SrtO.lexB_no.mp l
        rw [ex, ey] at l
        rw [leP_iff]
        simp only [Function.comp_apply]
        rw [ex, ey]
        simp only [Int.toNat_natCast]
        simp only at l
        omega
      · rw [← ekeys]
        exact hp.map _
    refine ⟨.ref d, upd H d (.lst (out.map backV)), I.laid (t' := s.toks) kp hd ⟨?_, out, n, vals_back h3, hn⟩, rfl, q _ d ?_ (I.hok.fresh hd)⟩
    · rw [hp.length_eq]
      exact hz
    · rw [← hk]
      refine L2.DpAll.of_get (by simp) ?_
      intro i x dd hx2 hd2
      obtain ⟨_, p, _, hdp, _, ek⟩ := elm (hp.mem_iff.mp (List.mem_of_getElem? hx2))
      rw [List.getElem?_map, List.getElem?_map, hx2] at hd2
      cases hd2
      show Dp X.K H0 x (pr ((keyAt X.K H x).1.toNat, (keyAt X.K H x).2.toNat))
      rw [ek]
      exact hdp
end
end Y
namespace Y
open PySem PySem.Spec PyProof.Rows L2
def sp_neighbours (K : PySem.W.Frag) : Sp := fun vs H Q _ => ∃ L tv t, ∃ i : Nat, vs = [tv, .int i] ∧ Trk H L ∧ Okt t ∧ Dp K (wo H L) tv (trD t) ∧ i < t.n ∧ Ret K H L (.tuple (nD (nb t.ties i))) Q
abbrev sp_leaves := spTree fun t => .tuple (nD ((List.range t.n).filter fun v => decide ((nb t.ties v).length ≤ 1)))
abbrev sp_joints := spTree fun t => .tuple (nD ((List.range t.n).filter fun v => decide (3 ≤ (nb t.ties v).length)))
/-- what walk tells: each place once, with its neighbour on the way to the root -/
def stepD (r : Nat) (par : Nat → Nat) (v : Nat) : PyData := .tuple [.int (v : Int), .int (if v = r then -1 else (par v : Int))]
def sp_walk (K : PySem.W.Frag) : Sp := fun vs H Q _ => ∃ L tv t, ∃ r : Nat, vs = [tv, .int r] ∧ Trk H L ∧ Tree t ∧ Dp K (wo H L) tv (trD t) ∧ r < t.n ∧
  ∀ (par dep : Nat → Nat) (S : List Nat), TM.Rooted t.n (adjT t.ties) r par dep → S.Nodup → (∀ v, v ∈ S ↔ v < t.n) → Ret K H L (.list (S.map (stepD r par))) Q
def sp_path (K : PySem.W.Frag) : Sp := fun vs H Q _ => ∃ L tv t, ∃ i j : Nat, vs = [tv, .int i, .int j] ∧ Trk H L ∧ Tree t ∧ Dp K (wo H L) tv (trD t) ∧ i < t.n ∧ j < t.n ∧
  ∀ par dep, TM.Rooted t.n (adjT t.ties) j par dep → Ret K H L (.tuple (nD (TM.way par dep i))) Q
def mk2 (i j : Nat) : Nat × Nat := (min i j, max i j)
def sp_tie_of (K : PySem.W.Frag) : Sp := fun vs H Q _ => ∃ L, ∃ i j : Nat, vs = [.int i, .int j] ∧ Trk H L ∧ Ret K H L (pr (mk2 i j)) Q
/-- a listing of n places -/
structure Lst (n : Nat) (l : List Nat) : Prop where
  nd : l.Nodup
  all : ∀ v, v ∈ l ↔ v < n
def lstT (t : Tr) (l : List Nat) : Tr := ⟨l.map fun v => t.ws.getD v 0, sortP (t.ties.map fun p => mk2 (l.idxOf p.1) (l.idxOf p.2))⟩
def sp_listed (K : PySem.W.Frag) : Sp := fun vs H Q _ => ∃ L tv lv t l, vs = [tv, lv] ∧ Trk H L ∧ Okt t ∧ Lst t.n l ∧ Dp K (wo H L) tv (trD t) ∧ Dp K (wo H L) lv (.tuple (nD l)) ∧ Ret K H L (trD (lstT t l)) Q
section
variable {K : PySem.W.Frag} {H H' : Hp} {L : List Addr} {l : Addr} {ys : List V} {ds : List PyData}
theorem tup_new (t : Trk H L) (hl : H l = none) (ha : DpAll K (wo H L) ys ds) : Dp K (wo (upd H l (.tup ys)) L) (.ref l) (.tuple ds) := by
  rw [wo_new t hl]
  refine .tup (.inl (.inl upd_same)) (dpAll_mono (same_new ?_ _) ha)
  rw [wo_out (t.fresh hl)]
  exact hl
theorem frz_new (t : Trk H L) (hl : H l = none) (ha : DpAll K (wo H L) ys ds) (o : Obj) : Dp K (wo (upd H l (.frz o (.tup ys))) L) (.ref l) (.tuple ds) := by
  rw [wo_new t hl]
  refine .tup (.inl (.inr ⟨o, upd_same⟩)) (dpAll_mono (same_new ?_ _) ha)
  rw [wo_out (t.fresh hl)]
  exact hl
theorem lst_new (t : Trk H L) (hl : H l = none) (ha : DpAll K (wo H L) ys ds) : Dp K (wo (upd H l (.lst ys)) L) (.ref l) (.list ds) := by
  rw [wo_new t hl]
  refine .lst (.inl (.inl upd_same)) (dpAll_mono (same_new ?_ _) ha)
  rw [wo_out (t.fresh hl)]
  exact hl
theorem pr_new (t : Trk H L) (hl : H l = none) (i j : Nat) : Dp K (wo (upd H l (.tup [.int i, .int j])) L) (.ref l) (pr (i, j)) := tup_new t hl (.cons (.int _) (.cons (.int _) .nil))
theorem llD_get {v : V} {l : List (List Nat)} (h : Dp K H v (llD l)) : ∃ (a : Addr) (xs : List V), v = V.ref a ∧ SqL K H a xs ∧ xs.length = l.length ∧ ∀ (i : Nat) (ns : List Nat), l[i]? = some ns → ∃ b, xs[i]? = some (V.ref b) ∧ SqL K H b (nV ns) := by
  obtain ⟨a, xs, rfl, hs, ha⟩ := dp_lst h
  refine ⟨a, xs, rfl, hs, by rw [ha.length, List.length_map], fun i ns e => ?_⟩
  obtain ⟨x, hx, hd⟩ := ha.get (i := i) (d := .list (nD ns)) (by rw [List.getElem?_map, e]; rfl)
  obtain ⟨b, rfl, hb⟩ := dp_natsL.mp hd
  exact ⟨b, hx, hb⟩
theorem nbs_get {t : Tr} {i : Nat} (h : i < t.n) : (nbs t)[i]? = some (nb t.ties i) := by
  unfold nbs
  simp [h]
theorem nbs_len {t : Tr} : (nbs t).length = t.n := by unfold nbs; simp
end
/-! ### the law's own -/
abbrev kL : Key := Sum.inr "left"
abbrev kS : Key := Sum.inr "seed"
abbrev kC : Key := Sum.inr "cells"
abbrev kP : Key := Sum.inr "spot"
def mD (left seed spot : Int) (c : Addr) : HO := .dK [(kL, .int left), (kS, .int seed), (kC, .ref c), (kP, .int spot)]
/-- the drawing's dict -/
structure MAt (H : Hp) (m c : Addr) (cs : List Int) (b : Nat) : Prop where
  d : ∃ left seed spot : Int, H m = some (mD left seed spot c) ∧ 0 ≤ spot ∧ spot ≤ b
  c : H c = some (.lst (iV cs))
  ne : 0 < cs.length
  few : cs.length ≤ 200
  lim : b ≤ 1000000
theorem MAt.nmc {H m c cs b} (h : MAt H m c cs b) : m ≠ c := by
  obtain ⟨l, s, p, e, _⟩ := h.d
  exact ne_of e h.c (by intro z; cases z)
theorem MAt.mono {H m c cs b b'} (h : MAt H m c cs b) (l : b ≤ b') (lim : b' ≤ 1000000) : MAt H m c cs b' := by
  obtain ⟨a, s, p, e, e0, e1⟩ := h.d
  exact ⟨⟨a, s, p, e, e0, by omega⟩, h.c, h.ne, h.few, lim⟩
theorem MAt.same {H H' m c cs b} (h : MAt H m c cs b) (s : Same H H') : MAt H' m c cs b := by
  obtain ⟨a, z, p, e, e0, e1⟩ := h.d
  exact ⟨⟨a, z, p, s _ _ e, e0, e1⟩, s _ _ h.c, h.ne, h.few, h.lim⟩
theorem MAt.upd {H m c cs b} (h : MAt H m c cs b) {l : Addr} {o : HO} (h1 : l ≠ m) (h2 : l ≠ c) : MAt (upd H l o) m c cs b := by
  obtain ⟨a, z, p, e, e0, e1⟩ := h.d
  exact ⟨⟨a, z, p, by rw [upd_ne h1.symm]; exact e, e0, e1⟩, by rw [upd_ne h2.symm]; exact h.c, h.ne, h.few, h.lim⟩
/-- all but m as it was -/
abbrev SameM (m : Addr) (H H' : Hp) : Prop := Same (wo H [m]) (wo H' [m])
theorem SameM.at {m : Addr} {H H' : Hp} (s : SameM m H H') {a : Addr} {o : HO} (h : H a = some o) (ne : a ≠ m) : H' a = some o := by
  have := s a o (by rw [wo_out (by simpa using ne)]; exact h)
  exact (wo_some this).2
theorem SameM.free {m : Addr} {H H' : Hp} (s : SameM m H H') {a : Addr} (h : H' a = none) (hm : H m ≠ none) (hm' : H' m ≠ none) : H a = none := by
  cases q : H a with
  | none => rfl
  | some o =>
    have ne : a ≠ m := fun e => hm' (by rw [← e]; exact h)
    rw [s.at q ne] at h
    cases h
theorem SameM.of {m : Addr} {H H' : Hp} (s : Same H H') : SameM m H H' := wo_mono s
def sp_law_begun (K : PySem.W.Frag) : Sp := fun vs H Q _ => ∃ (a : Addr) (ns : List Int) (k : Nat), vs = [.ref a, .int k] ∧ SqL K H a (iV ns) ∧ ns.length ≤ 63 ∧ k ≤ 63 ∧
  ∀ m c cs H', Same H H' → H m = none → MAt H' m c cs 0 → Q (.ref m) H'
def sp_law_draw (K : PySem.W.Frag) : Sp := fun vs H Q _ => ∃ m c cs b, ∃ n : Int, vs = [.ref m, .int n] ∧ MAt H m c cs b ∧ b < 1000000 ∧ 0 < n ∧ n < 1073741824 ∧
  ∀ (r : Int) H', 0 ≤ r → r < n → SameM m H H' → MAt H' m c cs (b + 1) → Q (.int r) H'
def sp_law_of (K : PySem.W.Frag) : Sp := fun vs H Q _ => ∃ m c cs b sv ns, vs = [.ref m, sv] ∧ MAt H m c cs b ∧ b < 1000000 ∧ Dp K (wo H [m]) sv (.list (iD ns)) ∧ 0 < ns.length ∧ ns.length < 1000 ∧
  ∀ (r : Int) H', r ∈ ns → SameM m H H' → MAt H' m c cs (b + 1) → Q (.int r) H'
abbrev sp_law_near := spTree fun t => llD (nbs t)
def madeT (ws : List Int) (ties : List (Nat × Nat)) : Tr := ⟨ws, sortP (ties.map fun p => mk2 p.1 p.2)⟩
def sp_law_made (K : PySem.W.Frag) : Sp := fun vs H Q _ => ∃ L wv tv ws ties, vs = [wv, tv] ∧ Trk H L ∧ Dp K (wo H L) wv (.list (iD ws)) ∧ Dp K (wo H L) tv (.list (ties.map pr)) ∧ ties.length ≤ 10000 ∧ Ret K H L (trD (madeT ws ties)) Q
/-- pairs (p k, k) with p k < k, for k from 1 on -/
def Shape (n : Nat) (ties : List (Nat × Nat)) : Prop := ties.length = n - 1 ∧ ∀ k p, ties[k]? = some p → p.2 = k + 1 ∧ p.1 < k + 1
def sp_law_shape (K : PySem.W.Frag) : Sp := fun vs H Q _ => ∃ L m c cs b, ∃ n : Nat, vs = [.ref m, .int n] ∧ m ∈ L ∧ Trk H L ∧ MAt H m c cs b ∧ n ≤ 100 ∧ b + 100 < 1000000 ∧
  ∀ ties v H', Shape n ties → SameM m H H' → MAt H' m c cs (b + 100) → Dp K (wo H' L) v (.list (ties.map pr)) → Q v H'
def sp_law_tree (K : PySem.W.Frag) : Sp := fun vs H Q _ => ∃ L m c cs b, ∃ most : Nat, ∃ low high : Int, vs = [.ref m, .int most, .int low, .int high] ∧ m ∈ L ∧ Trk H L ∧ MAt H m c cs b ∧ most ≤ 16 ∧ low ≤ high ∧ high - low < 1000000 ∧ b + 300 < 1000000 ∧
  ∀ t v H', Tree t → t.n ≤ most → (∀ x ∈ t.ws, low ≤ x ∧ x ≤ high) → SameM m H H' → MAt H' m c cs (b + 300) → Dp K (wo H' L) v (trD t) → Q v H'
abbrev sp_law_listed := sp_listed
def sp_law_shuffled (K : PySem.W.Frag) : Sp := fun vs H Q _ => ∃ L m c cs b, ∃ n : Nat, vs = [.ref m, .int n] ∧ m ∈ L ∧ Trk H L ∧ MAt H m c cs b ∧ n ≤ 100 ∧ b + 100 < 1000000 ∧
  ∀ l v H', Lst n l → SameM m H H' → MAt H' m c cs (b + 100) → Dp K (wo H' L) v (.tuple (nD l)) → (∃ (la : Addr) (o : Obj), v = .ref la ∧ la ≠ m ∧ H' la = some (.frz o (.tup (nV l))) ∧ o.dict = none) → Q v H'
def sp_law_path (K : PySem.W.Frag) : Sp := fun vs H Q _ => ∃ L nv t, ∃ i j : Nat, vs = [nv, .int i, .int j] ∧ Trk H L ∧ Tree t ∧ Dp K (wo H L) nv (llD (nbs t)) ∧ i < t.n ∧ j < t.n ∧
  ∀ par dep, TM.Rooted t.n (adjT t.ties) i par dep → Ret K H L (.list (nD (TM.way par dep j).reverse)) Q
def sp_law (K : PySem.W.Frag) : Sp := fun vs H Q _ => ∃ (a : Addr) (ns : List Int), vs = [.ref a] ∧ SqL K H a (ns.map V.int) ∧ ns.length ≤ 63 ∧ ∀ H', Q (.bl true) H'
end Y
namespace HT
open PySem PySem.Spec PyProof.Rows
section
variable {prog : Program} {w : World} {A : Around} {E : Value → Shared → Prop} {s : Shared}
theorem adjust_back (n : Nat) : Builtin.Slice.sliceAdjust none none (-1) (n : Int) = ((n : Int) - 1, -1) := by
  unfold Builtin.Slice.sliceAdjust; simp
theorem places_back (n : Nat) : Builtin.Slice.slicePlaces ((n : Int) - 1) (-1) (-1) = n := by
  unfold Builtin.Slice.slicePlaces
  have h1 : ¬ ((-1 : Int) > 0) := by omega
  simp only [h1, if_false]; rw [show (-(-1) : Int) = 1 by decide, Int.ediv_one]
  split <;> omega
theorem sliceApplied_back {sl : Addr} {vl vu vs : Value} {n : Nat} {Q : Int × Int × Nat → Shared → Prop} (hs : s.heap.IsSliceOf sl vl vu vs) (plv : IsPart vl none) (pu : IsPart vu none) (ps : IsPart vs (some (-1)))
    (h : Q ((n : Int) - 1, -1, n) s) : wpAny (model prog w) A (Builtin.Slice.sliceApplied (.ref sl) (pure (n : Int))) Q E s := by
  obtain ⟨os, zo, zc, zd⟩ := id hs; unfold Builtin.Slice.sliceApplied Builtin.Slice.sliceFields; refine wpAny_bind (wpAny_bind (wpAny_field zo zd (x := vl) rfl (wpAny_bind (wpAny_field zo zd (x := vu) rfl (wpAny_bind (wpAny_field zo zd (x := vs) rfl (wpAny_pure ?_)))))))
  refine wpAny_bind (slicePart_ ps ?_); show wpAny _ _ (if ((-1 : Int) == 0) = true then _ else _) _ _ s; rw [if_neg (by decide)]
  refine wpAny_bind (slicePart_ plv (wpAny_bind (slicePart_ pu (wpAny_bind (wpAny_pure ?_))))); show wpAny _ _ (match Builtin.Slice.sliceAdjust none none (-1) (n : Int) with | (lo, hi) => pure (lo, (-1 : Int), Builtin.Slice.slicePlaces lo hi (-1))) _ _ s; rw [adjust_back n]
  show wpAny _ _ (pure ((n : Int) - 1, (-1 : Int), Builtin.Slice.slicePlaces ((n : Int) - 1) (-1) (-1))) _ _ s; rw [places_back]; exact wpAny_pure h
theorem fm_congr {α β : Type} {f g : α → Option β} : ∀ (l : List α), (∀ x ∈ l, f x = g x) → l.filterMap f = l.filterMap g
  | [], _ => rfl
  | a :: r, h => by
    rw [List.filterMap_cons, List.filterMap_cons, h a List.mem_cons_self, fm_congr r fun x m => h x (List.mem_cons_of_mem _ m)]
theorem pick_back (xs : Array Value) : ((List.range xs.size).filterMap fun (m : Nat) => xs[((xs.size : Int) - 1 + (m : Int) * -1).toNat]?).toArray = xs.toList.reverse.toArray := by
  have e : (List.range xs.size).filterMap (fun (m : Nat) => xs[((xs.size : Int) - 1 + (m : Int) * -1).toNat]?) = (List.range xs.size).filterMap ((fun k => xs[k]?) ∘ fun k => xs.size - 1 - k) := by
    refine fm_congr _ fun m hm => ?_
    have hm' := List.mem_range.mp hm; show xs[((xs.size : Int) - 1 + (m : Int) * -1).toNat]? = xs[xs.size - 1 - m]?
    have : ((xs.size : Int) - 1 + (m : Int) * -1).toNat = xs.size - 1 - m := by omega
    rw [this]
  rw [e, ← List.filterMap_map, PySem.W.krv_range, List.filterMap_reverse, PySem.W.krv_all]
theorem getItem_tuple_back {t sl : Addr} {items : Array Value} {vl vu vs : Value} {Q : Value → Shared → Prop} (ht : IsTup s.heap t items) (hs : s.heap.IsSliceOf sl vl vu vs) (plv : IsPart vl none) (pu : IsPart vu none) (ps : IsPart vs (some (-1)))
    (h : Q (.ref s.heap.objs.size) { s with heap := s.heap.push { cls := .type "tuple", data := .seq items.toList.reverse.toArray } })
    (hsz : items.size ≤ sizeLine) : wpAny (model prog w) A (getItem (.ref t) (.ref sl)) Q E s := by
  have zk : sizeOk (.seq items.toList.reverse.toArray) := by
    show items.toList.reverse.toArray.size ≤ sizeLine; rw [List.size_toArray, List.length_reverse, Array.length_toList]
    omega
  obtain ⟨os, zo, zc, zd⟩ := id hs; have zt : s.TypeIs (.ref sl) "slice" := ⟨os, zo, zc⟩; unfold getItem
  try with_reducible refine wpAny_holding ?_
  first | refine wpAny_bind (wpAny_pure ?_) | skip
  refine wpAny_bind (wpAny_sequenceKey ht.typeIs (by decide) ?_)
  refine wpAny_bind (wpAny_callSpecial?_slot (name := Str.ofString "__getitem__") ht.typeIs PyProof.Rows.slot_tuple_getitem
    (wpAny_call_entry PyProof.Rows.slot_tuple_getitem ht.typeIs entry_tuple_getitem ?_ (args_tuple_getitem _ _)))
  show wpAny _ _ (Builtin.Tuple.tupleItemsOf (.ref t) >>= _) _ _ s; refine wpAny_bind (tupleItemsOf_ ht ?_); refine wpAny_bind (wpAny_typeOf zt ?_)
  rw [if_pos (by decide)]; refine wpAny_bind (sliceApplied_back hs plv pu ps ?_)
  have hno : ¬ ((((items.size : Int) - 1) == 0 && (-1 : Int) == 1 && items.size == items.size) = true) := by
    intro q; rw [Bool.and_eq_true, Bool.and_eq_true] at q; exact absurd (eq_of_beq q.1.2 : (-1 : Int) = 1) (by decide)
  show wpAny _ _ (if (((items.size : Int) - 1) == 0 && (-1 : Int) == 1 && items.size == items.size) = true then _ else _) _ _ s; rw [if_neg hno, pick_back]
  first
    | exact wpAny_bind (m := Builtin.Tuple.tupleExact _) (wpAny_newObj_type (wpAny_pure ⟨_, rfl, wpAny_pure h⟩) zk)
    | exact wpAny_bind (m := Builtin.Tuple.tupleExact _) (wpAny_newObj_type (wpAny_bind (wpAny_pure (wpAny_pure ⟨_, rfl, wpAny_pure h⟩))) zk)
    | exact wpAny_bind (wpAny_bind (m := Builtin.Tuple.tupleExact _) (wpAny_newObj_type (wpAny_pure (wpAny_pure ⟨_, rfl, wpAny_pure h⟩)) zk))
    | exact wpAny_bind (wpAny_bind (m := Builtin.Tuple.tupleExact _) (wpAny_newObj_type (wpAny_pure ⟨_, rfl, wpAny_pure h⟩) zk))
end
end HT
namespace L2
open PySem PySem.Spec PyProof.Rows
section
variable {X : Cx}
def tRevT (K : PySem.W.Frag) (te : TE) : TE := fun σ H Q => te σ H fun x H1 => ∃ a xs, x = .ref a ∧ SqT K H1 a xs ∧ ∀ p, H1 p = none → Q (.ref p) (upd H1 p (.tup xs.reverse))
theorem pe_revT {e : Expr} {te : TE} {k : Nat} {p1 p2 p3 pos : Pos} (he : PE X e te) : PE X (.Subscript e (.Slice none none (some (.UnaryOp .USub (.Constant (.int 1) k p1) p2)) p3) pos) (tRevT X.K te) := by
  refine ⟨fun pins s σ H Q I h => ?_⟩
  refine Subscript_ (thn (he.run pins s σ H _ I h) fun v s1 ⟨x, H1, I1, r1, q1⟩ => ?_)
  obtain ⟨a, xs, ex, hx, q⟩ := q1; subst ex
  cases r1
  have zst : PO X (some (.UnaryOp .USub (.Constant (.int 1) k p1) p2)) (tPart (tUn (rU fun i => .int (-i)) (tC (.int 1)))) := po_some (pe_un un_neg pe_int)
  refine wpAny_Slice (thn (po_none.run pins s1 σ H1 (fun o H2 => o = none ∧ H2 = H1) I1 ⟨rfl, rfl⟩) fun vl s2 ⟨l, H2, I2, plv, el, e2⟩ => ?_)
  subst el e2
  refine thn (po_none.run pins s2 σ H2 (fun o H3 => o = none ∧ H3 = H2) I2 ⟨rfl, rfl⟩) fun vu s3 ⟨u, H3, I3, pu, eu, e3⟩ => ?_
  subst eu e3
  refine thn (zst.run pins s3 σ H3 (fun o H4 => o = some (-1) ∧ H4 = H3) I3 ⟨1, rfl, -1, rfl, rfl, rfl⟩) fun vs s4 ⟨o, H4, I4, ps, eo, e4⟩ => ?_
  subst eo e4
  have I5 : Inv X pins σ H4 { s4 with heap := s4.heap.push { cls := .type "slice", data := .fields #[vl, vu, vs] } } := I4.kept (t' := s4.toks) fun b ob q => Heap.get?_push_of_some _ q
  obtain ⟨its, r, ht, hz⟩ := I5.tuple hx; have zn := r.length; show wpAny (model X.prog X.w) X.A (subscriptTail e (.Slice none none (some (.UnaryOp .USub (.Constant (.int 1) k p1) p2)) p3) (.ref a) (.ref s4.heap.objs.size)) (EP X pins σ Q) X.xe { s4 with heap := s4.heap.push { cls := .type "slice", data := .fields #[vl, vu, vs] } }
  refine tail_any (ops := [.ref a, .ref s4.heap.objs.size]) ht.typeIs (PyProof.Rows.slot_tuple_getitem.lookup) ?_ (by with_unfolding_all rfl); refine HT.getItem_tuple_back ht (Heap.IsSliceOf.new _ vl vu vs) plv pu ps ?_ (by rw [List.size_toArray]; omega); refine ⟨.ref _, _, I5.laid (t' := s4.toks) (o := .tup xs.reverse) (fun b ob q => Heap.get?_push_of_some _ q) (Nat.le_refl _) ?_, rfl, q _ (I5.hok.fresh (Nat.le_refl _))⟩
  exact ⟨by rw [List.length_reverse]; exact hz, _, r.reverse, IsTup.new _ _⟩
def rIndexI (K : PySem.W.Frag) : V → List V → Hp → VK → Prop := fun x xs H Q => ∃ p, ∃ ys : List Int, ∃ z : Int, x = .ref p ∧ xs = [.int z] ∧ SqT K H p (ys.map V.int) ∧ z ∈ ys ∧ Q (.int (ys.idxOf z : Nat)) H
theorem mt_tup_indexI : MtR X "tuple.index" (rIndexI X.K) := by
  intro pins s σ H x xs v us Q I rx rs h; obtain ⟨p, ys, z, rfl, rfl, hq, hm, q⟩ := h
  cases rx
  obtain ⟨u, rfl, t, rfl⟩ := vals1 rs; obtain ⟨its, r, plv, hz⟩ := I.tuple hq; exact SeqAt.tuple_index_ints plv (intsAre_of r) hm ⟨.int (ys.idxOf z : Nat), H, I.tok _, ⟨_, rfl⟩, q⟩
end
end L2
namespace PySem
open Sem (wp)
theorem meets_enumerate_newT (l : Addr) (items : Array Value) :
    Meets (Builtin.«enumerate.__new__» ⟨[.type "enumerate", .ref l], []⟩) (fun _ R s => s.heap.IsTuple l items ∧
      R (.ok (.ret (.ref (s.heap.push { cls := .type "tuple_iterator", data := .fields #[.ref l, .int 0 0] }).objs.size)))
        { s with heap := (s.heap.push { cls := .type "tuple_iterator", data := .fields #[.ref l, .int 0 0] }).push { cls := .type "enumerate", data := .fields #[.none, .bool false, .ref s.heap.objs.size, rawInt 0, .none, .none] } }) :=
  .of_wp fun prog w A R s h => by
    obtain ⟨hp, g, d, tk, os⟩ := s; obtain ⟨hl, h⟩ := h; have sbt := sub_enumerate; have hL : Heap.IsTuple (Shared.heap ⟨hp, g, d, tk, os⟩) l items := hl
    wp_walk using wpAny_pyIter_tuple hL
    refine wpAny_stack_any fun st => wpAny_pure ?_
    split
    · rename_i c _ _ _ _ _
      cases (c == Value.type "enumerate")
      · wp_walk using wpAny_pyIter_tuple hL
        exact ⟨_, rfl, h⟩
      · wp_walk using wpAny_pyIter_tuple hL
        exact ⟨_, rfl, h⟩
    · wp_walk using wpAny_pyIter_tuple hL
      exact ⟨_, rfl, h⟩
section
variable {prog : Program} {w : World} {A : Around} {E : Value → Shared → Prop} {s : Shared}
theorem call_enumerate_tuple {l : Addr} {items : Array Value} {Q : Value → Shared → Prop} (hL : s.heap.IsTuple l items)
    (h : ∀ h', IsEnum h' (s.heap.objs.size + 1) s.heap.objs.size 0 .none → h'.IsTupleIter s.heap.objs.size l 0 → h'.objs.size = s.heap.objs.size + 2 →
      (∀ b o, s.heap.get? b = some o → h'.get? b = some o) → Q (.ref (s.heap.objs.size + 1)) { s with heap := h' }) :
    wpAny (model prog w) A (call (.type "enumerate") [.ref l]) Q E s := by
  refine callType_new F.called_enumerate (by decide) (F.typeCall_enumerate_1 _) (F.newCall_enumerate_1 _) (fun obj => F.args_object_init_2 obj _) F.entry_enumerate_new
    (meets_enumerate_newT l items) ⟨hL, ?_⟩
  have hz : (s.heap.push { cls := .type "tuple_iterator", data := .fields #[.ref l, .int 0 0] }).objs.size = s.heap.objs.size + 1 := Heap.size_push ..; show _ ∧ _; rw [hz]
  have he : IsEnum ((s.heap.push { cls := .type "tuple_iterator", data := .fields #[.ref l, .int 0 0] }).push
      { cls := .type "enumerate", data := .fields #[.none, .bool false, .ref s.heap.objs.size, rawInt 0, .none, .none] }) (s.heap.objs.size + 1) s.heap.objs.size 0 .none := by
    have := Heap.get?_push_size (s.heap.push { cls := .type "tuple_iterator", data := .fields #[.ref l, .int 0 0] })
      (o := { cls := .type "enumerate", data := .fields #[.none, .bool false, .ref s.heap.objs.size, rawInt 0, .none, .none] }) rfl
    rw [hz] at this; exact this
  refine ⟨⟨_, he, rfl⟩, h _ he ⟨_, Heap.get?_push_of_some _ (Heap.get?_push_size _ rfl), rfl, rfl⟩ (by rw [Heap.size_push, hz]) fun b o x => Heap.get?_push_of_some _ (Heap.get?_push_of_some _ x)⟩
theorem wpAny_pyNext_enum_endT {e it l : Addr} {i : Nat} {items : Array Value} {old : Value} {Q : Option Value → Shared → Prop} (hh : A.handled = none)
    (he : IsEnum s.heap e it i old) (ti : s.heap.IsTupleIter it l i) (hL : s.heap.IsTuple l items) (hx : items[i]? = none)
    (hQ : ∀ h', Heap.ExtBut it s.heap h' → Q none { s with heap := h' }) : wpAny (model prog w) A (pyNext (.ref e)) Q E s := by
  have hT : s.TypeIs (.ref e) "enumerate" := ⟨_, he, rfl⟩; unfold pyNext
  refine wpAny_bind (wpAny_attempt (wpAny_callSpecial?_slot (name := Str.ofString "__next__") hT F.slot_enumerate_next
    (wpAny_call_entry F.slot_enumerate_next hT F.entry_enumerate_next ?_ (F.args_enumerate_next_1 _))))
  show wpAny _ _ (field (.ref e) 2 >>= _) _ _ _; refine wpAny_bind (wpAny_field he rfl (x := .ref it) rfl ?_); refine wpAny_bind (wpAny_nextOf_tuple_end (A := A.in1) hh ti hL hx fun h' x he' hx' => ?_)
  obtain ⟨o, ho, hc⟩ := hx'; refine wpAny_bind (wpAny_isInstance (T := "StopIteration") (b := true) ⟨o, ho, hc⟩ isSubtype_stop ?_); exact wpAny_pure (hQ _ he')
end
end PySem
namespace L2
open PySem PySem.Spec PyProof.Rows
/-- the tuple at a, each item in a new pair with its place -/
def Iet (K : PySem.W.Frag) (a : Addr) : It :=
  ⟨fun i H => ∃ (xs : List V) (x : V), SqT K H a xs ∧ xs[i]? = some x, fun i H v H' => ∃ T x, v = .ref T ∧ H T = none ∧ H' = upd H T (.tup [.int (i : Nat), x]) ∧ ∀ xs, SqT K H a xs → xs[i]? = some x, fun i H => ∃ xs : List V, SqT K H a xs ∧ xs.length ≤ i⟩
theorem turn_enumT {P : Program} {w : World} {K : PySem.W.Frag} {elts : List Expr} {kk : Nat} {tpos : Pos} (a e it : Addr) :
    Turn P w K (.Tuple elts kk tpos) (Iet K a) [e, it] e (fun i h => (∃ old, IsEnum h e it ((i : Nat) : Int) old) ∧ h.IsTupleIter it a i ∧ e ≠ it) where
  mem := by simp
  obj := fun i h st b hb => by
    obtain ⟨⟨old, he⟩, ⟨o, ho, hc, hd⟩, _⟩ := st; have e' : b = e ∨ b = it := by simpa using hb
    rcases e' with z | z
    · rw [z]; exact ⟨_, he, fun v q => nomatch q⟩
    · rw [z]; exact ⟨o, ho, fun v q => by rw [hd] at q; cases q⟩
  keep := fun i h h' st k => let ⟨⟨old, he⟩, hi, nei⟩ := st; ⟨⟨old, k e (by simp) _ he⟩, hi.at fun o q => k it (by simp) o q, nei⟩
  item := by
    intro X hP hw hK hc i pins s σ H E I hf st hg; subst hP hw hK; obtain ⟨⟨old, he⟩, ti, nei⟩ := st
    obtain ⟨xs, x, hq, hx⟩ := hg; obtain ⟨its, rv, p, hz⟩ := I.tuple hq; obtain ⟨u, hu, ru⟩ := rv.get hx
    have le1 : e < s.heap.objs.size := Heap.lt_size he; have le2 : it < s.heap.objs.size := by obtain ⟨_, q, _⟩ := ti; exact Heap.lt_size q
    have hai : a ≠ it := by
      intro e1; obtain ⟨o1, p1, p2, _⟩ := id p; obtain ⟨o2, q1, q2, _⟩ := id ti
      rw [e1, q1] at p1
      cases p1
      rw [q2] at p2; exact absurd (Value.type.inj p2) (by decide)
    have hae : a ≠ e := by
      intro e1; obtain ⟨o1, p1, p2, _⟩ := id p; have q1 := he
      unfold IsEnum at q1; rw [e1, q1] at p1
      cases p1
      exact absurd (Value.type.inj p2) (by decide)
    have D := Draws.tuple (prog := X.prog) (w := X.w) (A := X.A.in1) (I.ok.hd hc) it a hai its.toArray; refine wpAny_pyNext_enum_itemD D he ⟨ti, p⟩ (i := i) (Array.getElem?_eq_some_iff.mp (show its.toArray[i]? = some u by simpa using hu)).1 nei (by simp; exact ⟨nei, hae.symm⟩) fun x' h' tk hP ho hs' hT hsz hk => ?_
    have ex : x' = u := by
      have h1 : its.toArray[i]? = some x' := hP; rw [show its.toArray[i]? = some u by simpa using hu] at h1; exact (Option.some.inj h1).symm
    subst ex; obtain ⟨hit', hp'⟩ := hs'; refine ⟨_, rfl, wpAny_letOwnedTupleGo_enum (s := { s with heap := h', toks := tk + 1 }) ho fun h'' he' sb => ?_⟩
    have hT2 : h''.get? s.heap.objs.size = some { cls := .type "tuple", data := .seq #[.int i tk, x'] } := (sb.2 _ (Nat.ne_of_gt le1)).trans hT
    have new : ObjOk X.prog X.w (upd H s.heap.objs.size (.tup [.int (i : Nat), x])) h'' s.heap.objs.size (.tup [.int (i : Nat), x]) :=
      ⟨by show 2 ≤ sizeLine; decide, [.int i tk, x'], .cons ⟨_, rfl⟩ (.cons ru .nil), ⟨_, hT2, rfl, _, rfl⟩⟩
    have I1 : Inv X pins σ (upd H s.heap.objs.size (.tup [.int (i : Nat), x])) { s with heap := h'', toks := tk + 1 } :=
      I.turnedNew (ch := [e, it]) (fun b ob hb q => (sb.2 b (fun z => hb (by simp [z]))).trans (hk b ob (fun z => hb (by simp [z])) (fun z => hb (by simp [z])) q)) hf (Nat.le_refl _) new
    refine ⟨.ref s.heap.objs.size, _, I1, rfl, ⟨_, x, rfl, I.hok.fresh (Nat.le_refl _), rfl, fun ys hy => by rw [I.tuple_inj hy hq]; exact hx⟩, ⟨⟨x', ?_⟩, hit'.at fun o q => (sb.2 it (Ne.symm nei)).trans q, nei⟩, fun b hb => ?_⟩
    · have e1 : ((i + 1 : Nat) : Int) = (i : Int) + 1 := by omega
      rw [e1]; exact he'
    · have hb' : b < s.heap.objs.size := by
        have e' : b = e ∨ b = it := by simpa using hb
        rcases e' with z | z
        · rw [z]; exact le1
        · rw [z]; exact le2
      rw [upd_ne (Nat.ne_of_lt hb')]; exact (hf b hb).1
  done := by
    intro X hP hw hK hc i pins s σ H E I hf st hg; subst hP hw hK; obtain ⟨⟨old, he⟩, ti, nei⟩ := st
    obtain ⟨xs, hq, hx⟩ := hg; obtain ⟨its, rv, p, hz⟩ := I.tuple hq; obtain ⟨f0, f1, f2, f3, f4, f5⟩ := hf it (by simp)
    have hl := rv.length
    have hai : a ≠ it := by
      intro e1; obtain ⟨o1, p1, p2, _⟩ := id p; obtain ⟨o2, q1, q2, _⟩ := id ti
      rw [e1, q1] at p1
      cases p1
      rw [q2] at p2; exact absurd (Value.type.inj p2) (by decide)
    have hA := I.ok.hd hc; refine wpAny_pyNext_enum_endT hA he ti (show s.heap.IsTuple a its.toArray from p) (by simp; omega) fun h' eb => ⟨rfl, I.turned (t' := s.toks) (fun b o hb q => eb b o hb q) f0 f1 f3 f4 f5⟩
  self := fun A i s Q E st h => let ⟨⟨_, he⟩, _⟩ := st; wpAny_pyIter_enum he h
def iEnumT (K : PySem.W.Frag) (ta : TA) : TI := fun σ H R => ta σ H fun vs H1 => ∃ a xs, vs = [.ref a] ∧ SqT K H1 a xs ∧ R (Iet K a) H1
theorem pi_enumT {X : Cx} {e : Expr} {ta : TA} {p pos tpos : Pos} {elts : List Expr} {kk : Nat} (hg : Gl X "enumerate") (hm : X.mg "enumerate" = none) (ha : PA X [e] ta) (hs : starEach [e] X.env = [(false, eval e X.env)] := by rfl) :
    PI X (.Tuple elts kk tpos) (.Call (.Name "enumerate" p) [e] [] pos) (iEnumT X.K ta) := by
  refine ⟨fun pins s σ H R I h => ?_⟩; refine Call_ (ld_blt I hg hm boot_enumerate (PyProof.Rows.callWith_type1 (thn (ha.run pos pins s σ H _ I h) fun us s1 ⟨vs, H1, I1, r1, q1⟩ => ?_) hs rfl)); obtain ⟨a, xs, ex, hq, q⟩ := q1
  subst ex
  cases r1 with
  | cons r rr =>
    cases rr
    cases r
    obtain ⟨its, rv, p', hz⟩ := I1.tuple hq; refine call_enumerate_tuple (show s1.heap.IsTuple a its.toArray from p') fun h' he ti hsz hk => wpAny_pyIter_enum he ?_; have I2 : Inv X pins σ H1 { s1 with heap := h' } := I1.kept (t' := s1.toks) hk
    refine ⟨s1.heap.objs.size + 1, [s1.heap.objs.size + 1, s1.heap.objs.size], _, _, H1, rfl, I2, turn_enumT a (s1.heap.objs.size + 1) s1.heap.objs.size, ⟨⟨.none, he⟩, ti, Nat.succ_ne_self _⟩, fun b hb => ?_, q⟩; have e' : b = s1.heap.objs.size + 1 ∨ b = s1.heap.objs.size := by simpa using hb
    have hle : s1.heap.objs.size ≤ b := by
      rcases e' with z | z
      · rw [z]; exact Nat.le_add_right _ _
      · rw [z]; exact Nat.le_refl _
    exact I1.fpOk hle (I1.hok.fresh hle)
theorem walk_enumT {K : PySem.W.Frag} {a : Addr} {xs : List V} : Walk (Iet K a) xs.length (fun H => SqT K H a xs) (YPair (fun i => some (.int (i : Nat))) (fun i => xs[i]?)) := by
  refine ⟨fun i _ hi q => ⟨xs, xs[i], q, by simp [hi]⟩, fun _ q => ⟨xs, q, Nat.le_refl _⟩, fun i H v H' _ q y => ?_⟩; obtain ⟨T, x, h1, h2, h3, h4⟩ := y; exact ⟨T, .int (i : Nat), x, h1, h2, h3, rfl, h4 xs q⟩
end L2
/-! rules with the written part said: within a comprehension -/
namespace Y
open PySem PySem.Spec PyProof.Rows L2
section
variable {X : Cx} (K : PySem.W.Frag)
theorem pg_tupK (hK : X.K = K) {es : List Expr} {k : Nat} {t : TGs} {n : Nat} {pos : Pos} (hc : X.calm = true) (h : PGs X es t)
    (hn : (assignEach es X.env).length = n := by rfl) (zst : (assignEach es X.env).findIdx? (·.1) = none := by rfl) : PG X (.Tuple es k pos) (gTup K n t) := by
  subst hK; exact pg_tup hc h hn zst
theorem ix_listK (hK : X.K = K) : IxR X (rIxL K) := by subst hK; exact ix_list
theorem ix_tupK (hK : X.K = K) : IxR X (rIxT K) := by subst hK; exact ix_tup
def rLenQ (K : PySem.W.Frag) : List V → Hp → VK → Prop := fun xs H Q => ∃ p ys, xs = [.ref p] ∧ (SqL K H p ys ∨ SqT K H p ys) ∧ Q (.int ys.length) H
theorem call_lenK (hK : X.K = K) : CallR X (.builtin "len") (rLenQ K) := by subst hK; exact call_len_seq
def rTupQ (K : PySem.W.Frag) : List V → Hp → VK → Prop := fun xs H Q => ∃ p ys, xs = [.ref p] ∧ ((SqL K H p ys ∧ ∀ l, H l = none → Q (.ref l) (upd H l (.tup ys))) ∨ (SqT K H p ys ∧ Q (.ref p) H))
theorem call_tupK (hK : X.K = K) : CallR X (.type "tuple") (rTupQ K) := by subst hK; exact call_tuple_of
theorem cr_sortedDK (hK : X.K = K) : CallR X (.builtin "sorted") (rSortedD K) := by subst hK; exact cr_sortedD
theorem cr_sortedIK (hK : X.K = K) : CallR X (.builtin "sorted") (rSortedI K) := by subst hK; exact cr_sortedI
theorem op_eqDK (hK : X.K = K) (hu : X.A.units + 64 < cLine) : OpR X (compareOp .Eq) (rEqD K) := by subst hK; exact op_eqD hu
theorem op_neDK (hK : X.K = K) (hu : X.A.units + 64 < cLine) : OpR X (compareOp .NotEq) (rNeD K) := by subst hK; exact op_neD hu
theorem op_inK (hK : X.K = K) : OpR X (compareOp .In) (rIn K false) := by subst hK; exact op_in_seq
theorem op_notInK (hK : X.K = K) : OpR X (compareOp .NotIn) (rIn K true) := by subst hK; exact op_notIn_seq
theorem op_catAK (hK : X.K = K) : OpR X (binaryOp .Add) (rCatA K) := by subst hK; exact op_catA
theorem sl_listK (hK : X.K = K) : SlR X (rSlL K) := by subst hK; exact sl_list
theorem sl_tupAK (hK : X.K = K) : SlR X (rSlA K) := by subst hK; exact sl_tupA
theorem mt_indexIK (hK : X.K = K) : MtR X "tuple.index" (rIndexI K) := by subst hK; exact mt_tup_indexI
theorem pe_bmK (hK : X.K = K) {T name id : String} {o e : Expr} {es : List Expr} {to : TE} {t : TA} {r : V → List V → Hp → VK → Prop} {apos cpos : Pos} (pa : PlainAttrs T) (slot : Slot T name id) (hty : typeOf (.builtin id) = pure (.type "method_descriptor")) (hm : MtR X id r) (ho : PE X o to) (ha : PA X (e :: es) t)
    (jb : attributeBase o name X.env (eval o X.env) = eval o X.env := by rfl)
    (jf : ((backTo cpos (starEach (e :: es) X.env)).all (fun x => !x.1) && (backToKw cpos (keywordEach [] X.env)).all (fun x => x.1.isSome)
      && decide ((e :: es).length + ([] : List Keyword).length + (if ([] : List Keyword).isEmpty then 0 else 1) < 30)) = true := by rfl)
    (jl : (apos.endLine == cpos.line) = true := by rfl) (hs : starEach (e :: es) X.env = (false, eval e X.env) :: starEach es X.env := by rfl) (jp : (backTo cpos (starEach es X.env)).any (·.1) = false := by rfl) :
    PE X (.Call (.Attribute o name apos) (e :: es) [] cpos) (tBM K T r to t) := by
  subst hK; exact pe_bm pa slot hty hm ho ha jb jf jl hs jp
end
end Y
namespace Y
open PySem PySem.Spec PyProof.Rows L2
section
variable {X : Cx}
/-- tuple(a list): the new tuple, held as the object that it is -/
def rTupF (K : PySem.W.Frag) : List V → Hp → VK → Prop := fun xs H Q => ∃ p ys, xs = [.ref p] ∧ SqL K H p ys ∧ ∀ (l : Addr) (o : Obj), H l = none → o.dict = none → Q (.ref l) (upd H l (.frz o (.tup ys)))
theorem call_tupF (K : PySem.W.Frag) (hK : X.K = K) : CallR X (.type "tuple") (rTupF K) := by
  subst hK; intro pins s σ H xs us Q I r h; obtain ⟨p, ys, rfl, hs, q⟩ := h
  obtain ⟨v, rfl, rv0⟩ := vals1 r; obtain rfl : v = .ref p := rv0; obtain ⟨its, rv, plv, hz⟩ := I.list hs
  refine call_tuple_list plv.isList (fun h' hk => ?_) (by rw [List.size_toArray, ← rv.length]; exact hz); have I1 : Inv X pins σ H { s with heap := h' } := I.kept (t' := s.toks) hk
  have I2 := I1.laid (t' := s.toks) (h' := h'.push { cls := .type "tuple", data := .seq its.toArray }) (a := h'.objs.size) (o := .frz { cls := .type "tuple", data := .seq its.toArray } (.tup ys)) (fun b o e => Heap.get?_push_of_some _ e) (Nat.le_refl _)
    (show ObjOk X.prog X.w _ _ _ (.frz _ (.tup ys)) from ⟨Heap.get?_push_size _ rfl, hz, its, rv, IsTup.new _ _⟩)
  exact ⟨.ref h'.objs.size, _, I2, rfl, q _ _ (I1.hok.fresh (Nat.le_refl _)) rfl⟩
/-- t.method(..), t a tuple so held -/
def tBMF (K : PySem.W.Frag) (r : V → List V → Hp → VK → Prop) (to : TE) (t : TA) : TE := fun σ H Q => to σ H fun x H1 => (∃ (p : Addr) (o : Obj) (xs : List V), x = .ref p ∧ H1 p = some (.frz o (.tup xs)) ∧ o.dict = none) ∧ t σ H1 fun xs H2 => r x xs H2 Q
theorem pe_bmF (K : PySem.W.Frag) {name id : String} {o e : Expr} {es : List Expr} {to : TE} {t : TA} {r : V → List V → Hp → VK → Prop} {apos cpos : Pos} (pa : PlainAttrs "tuple") (slot : Slot "tuple" name id) (hty : typeOf (.builtin id) = pure (.type "method_descriptor")) (hm : MtR X id r) (ho : PE X o to) (ha : PA X (e :: es) t)
    (jb : attributeBase o name X.env (eval o X.env) = eval o X.env := by rfl)
    (jf : ((backTo cpos (starEach (e :: es) X.env)).all (fun x => !x.1) && (backToKw cpos (keywordEach [] X.env)).all (fun x => x.1.isSome)
      && decide ((e :: es).length + ([] : List Keyword).length + (if ([] : List Keyword).isEmpty then 0 else 1) < 30)) = true := by rfl)
    (jl : (apos.endLine == cpos.line) = true := by rfl) (hs : starEach (e :: es) X.env = (false, eval e X.env) :: starEach es X.env := by rfl) (jp : (backTo cpos (starEach es X.env)).any (·.1) = false := by rfl) :
    PE X (.Call (.Attribute o name apos) (e :: es) [] cpos) (tBMF K r to t) := by
  refine ⟨fun pins s σ H Q I h => ?_⟩; refine wpAny_Call_method_late jb jf jl rfl (thn (ho.run pins s σ H _ I h) fun v s1 ⟨x, H1, I1, r1, z, q1⟩ => ?_); obtain ⟨p, ob, xs, rfl, hp, hd⟩ := z
  obtain rfl : v = Value.ref p := r1; have ok := I1.hok p _ hp; obtain ⟨g1, g2, its, g3, g4⟩ := ok
  refine ⟨"tuple", id, pa, slot, hty, g4.typeIs, fun a ea => ?_, ?_⟩
  · cases ea
    exact ⟨ob, g1, hd⟩
  · have hA := ha.run cpos pins s1 σ H1 _ I1 q1
    rw [hs] at hA ⊢; refine Calls.callWith_builtin (by show (false || (backTo cpos (starEach es X.env)).any (·.1)) = false; rw [jp] <;> rfl) (Calls.evalArgs_plain ?_); exact thn hA fun us s2 ⟨vs, H2, I2, r2, q2⟩ => hm pins s2 σ H2 (.ref p) vs (.ref p) us Q I2 rfl r2 q2
end
end Y
namespace Y
open PySem PySem.Spec PyProof.Rows L2
section
variable {H : Hp} {m c : Addr} {left seed spot : Int}
theorem getL (e : H m = some (mD left seed spot c)) : DGet H m (.str "left") (some (.int left)) := DGet.k (k := kL) e
theorem getS (e : H m = some (mD left seed spot c)) : DGet H m (.str "seed") (some (.int seed)) := DGet.k (k := kS) e
theorem getC (e : H m = some (mD left seed spot c)) : DGet H m (.str "cells") (some (.ref c)) := DGet.k (k := kC) e
theorem getP (e : H m = some (mD left seed spot c)) : DGet H m (.str "spot") (some (.int spot)) := DGet.k (k := kP) e
theorem putL (e : H m = some (mD left seed spot c)) (x : Int) : DPut H m (.str "left") (.int x) (upd H m (mD x seed spot c)) := DPut.k (k := kL) (v := .int x) e (by show 4 < sizeLine; decide)
theorem putP (e : H m = some (mD left seed spot c)) (x : Int) : DPut H m (.str "spot") (.int x) (upd H m (mD left seed x c)) := DPut.k (k := kP) (v := .int x) e (by show 4 < sizeLine; decide)
theorem sameM_upd (o : HO) : SameM m H (upd H m o) := by
  show Same _ (wo _ _)
  rw [wo_upd_in (by simp)]
  exact Same.refl _
theorem fmod_b {x n : Int} (h : 0 < n) : 0 ≤ x.fmod n ∧ x.fmod n < n := by
  rw [Int.fmod_eq_emod_of_nonneg _ (by omega)]
  exact ⟨Int.emod_nonneg _ (by omega), Int.emod_lt_of_pos _ h⟩
end
end Y
namespace Y
open PySem PySem.Spec PyProof.Rows L2
/-! ### data that can be compared -/
theorem canLay_iD : ∀ ns : List Int, PyData.canLayAll0 (iD ns) = true
  | [] => rfl
  | n :: ns => by
    show (PyData.canLay0 (.int n) && PyData.canLayAll0 (iD ns)) = true
    rw [canLay_iD ns]
    rfl
theorem depth_iD : ∀ ns : List Int, PyData.depthAll (iD ns) ≤ 1
  | [] => by show 0 ≤ 1; omega
  | n :: ns => by
    have := depth_iD ns
    show max (PyData.depth (.int n)) (PyData.depthAll (iD ns)) ≤ 1
    have h : PyData.depth (.int n) = 0 := rfl
    omega
theorem shaped_iL (ns : List Int) : SeqAt.shaped (.list (iD ns)) = true := by
  have h := depth_iD ns
  refine Bool.and_eq_true_iff.mpr ⟨canLay_iD ns, decide_eq_true ?_⟩
  show PyData.depthAll (iD ns) + 1 ≤ 64
  omega
theorem shaped_iT (ns : List Int) : SeqAt.shaped (.tuple (iD ns)) = true := by
  have h := depth_iD ns
  refine Bool.and_eq_true_iff.mpr ⟨canLay_iD ns, decide_eq_true ?_⟩
  show PyData.depthAll (iD ns) + 1 ≤ 64
  omega
theorem dpAll_someInts {K : PySem.W.Frag} {H : Hp} : ∀ {xs : List V} {ds : List PyData}, DpAll K H xs ds → (∀ d ∈ ds, ∃ i, d = PyData.int i) → ∃ gs, xs = iV gs ∧ ds = iD gs
  | _, _, .nil, _ => ⟨[], rfl, rfl⟩
  | _, _, .cons h t, e => by
    obtain ⟨i, rfl⟩ := e _ List.mem_cons_self
    obtain ⟨gs, e1, e2⟩ := dpAll_someInts t fun d m => e d (List.mem_cons_of_mem _ m)
    exact ⟨i :: gs, by rw [dp_int h, e1]; rfl, by rw [e2]; rfl⟩
end Y
namespace Y
open PySem PySem.Spec PyProof.Rows L2
theorem eqv_nilL (gs : List Int) : PyData.eqv (.list (iD gs)) (.list []) = gs.isEmpty := by
  cases gs <;> simp [iD, PyData.eqv, PyData.eqvAll]
theorem mergeM (left seed spot : Int) (c : Addr) : HO.dK (mergeK [] [(kL, .int left), (kS, .int seed), (kC, .ref c), (kP, .int spot)]) = mD left seed spot c := rfl
end Y
namespace Y
theorem range_get {α β : Type} (f : α → β) (xs : List α) : ∀ n, n ≤ xs.length → (List.range n).filterMap (fun i => (xs[i]?).map f) = (xs.take n).map f
  | 0, _ => by simp
  | n + 1, h => by
    rw [List.range_succ, List.filterMap_append, range_get f xs n (by omega), List.take_add_one, List.map_append]
    rw [List.getElem?_eq_getElem (show n < xs.length by omega)]
    simp [List.getElem?_eq_getElem (show n < xs.length by omega)]
theorem range_get_all {α β : Type} (f : α → β) (xs : List α) : (List.range xs.length).filterMap (fun i => (xs[i]?).map f) = xs.map f := by
  rw [range_get f xs _ (Nat.le_refl _), List.take_length]
end Y
namespace Y
theorem sorted_nats {ns' : List Int} {ns : List Nat} (hp : ns'.Perm (ns.map fun (n : Nat) => (n : Int))) (h : ns'.Pairwise (· ≤ ·)) (ha : ns.Pairwise (· < ·)) : ns' = ns.map fun (n : Nat) => (n : Int) := by
  refine List.Perm.eq_of_pairwise (le := fun a b : Int => a ≤ b) (fun a b _ _ h1 h2 => by omega) h ?_ hp
  rw [List.pairwise_map]
  exact ha.imp fun h => by omega
end Y
namespace Y
open PySem PySem.Spec PyProof.Rows L2
section
variable {K : PySem.W.Frag} {H H' H1 H2 : Hp} {m c l p : Addr} {cs : List Int} {b : Nat} {L : List Addr} {o : HO}
theorem SameM.mut (s : SameM m H H') (h : H l = none) (o : HO) : SameM m H (upd H' l o) := fun a u ha => by
  obtain ⟨hm, hu⟩ := wo_some ha
  rw [wo_out hm, upd_ne (ne_of_none hu h)]
  exact (wo_some (s a u ha)).2
theorem MAt.some (M : MAt H m c cs b) : H m ≠ none := by
  obtain ⟨_, _, _, e, _⟩ := M.d
  rw [e]
  simp
theorem Trk.mS (t : Trk H L) (s : SameM m H H') (h : H' m ≠ none) : Trk H' L := fun a ha => by
  by_cases e : a = m
  · rw [e]; exact h
  · cases q : H a with
    | none => exact absurd q (t a ha)
    | some o => rw [s.at q e]; simp
theorem SameM.wo (s : SameM m H H') (h : m ∈ L) : Same (wo H L) (wo H' L) := wo_more s fun a ha => by
  simp at ha
  rw [ha]
  exact h
/-- the list of pairs as it grows -/
structure Shp (K : PySem.W.Frag) (H : Hp) (L : List Addr) (m c l : Addr) (cs : List Int) (b : Nat) (i : Nat) (H' : Hp) (ys : List V) (ties : List (Nat × Nat)) : Prop where
  s : SameM m H H'
  M : MAt H' m c cs b
  l0 : H l = none
  lc : l ≠ c
  el : H' l = some (.lst ys)
  d : DpAll K (wo H' (l :: L)) ys (ties.map pr)
  n : ties.length = i
  sh : ∀ k p, ties[k]? = some p → p.2 = k + 1 ∧ p.1 < k + 1
theorem Shp.ne {i : Nat} {ys : List V} {ties : List (Nat × Nat)} (S : Shp K H L m c l cs b i H' ys ties) (t : Trk H L) (hm : m ∈ L) : l ≠ m := fun e => t m hm (by rw [← e]; exact S.l0)
theorem Shp.turn {b' i r : Nat} {ys : List V} {ties : List (Nat × Nat)} (S : Shp K H L m c l cs b i H1 ys ties) (t : Trk H L) (hm : m ∈ L) (s : SameM m H1 H2) (M : MAt H2 m c cs b') (hp : H2 p = none) (hr : r < i + 1) :
    Shp K H L m c l cs b' (i + 1) (upd (upd H2 p (.tup [.int (r : Int), .int ((i + 1 : Nat) : Int)])) l (.lst (ys ++ [.ref p]))) (ys ++ [.ref p]) (ties ++ [(r, i + 1)]) := by
  have lm := S.ne t hm
  have el : H2 l = some (.lst ys) := s.at S.el lm
  have npl : l ≠ p := ne_of_none el hp
  have npc : c ≠ p := ne_of_none M.c hp
  obtain ⟨_, _, _, em, _⟩ := M.d
  have npm : m ≠ p := ne_of_none em hp
  have p0 : H1 p = none := s.free hp S.M.some (by rw [em]; simp)
  have p00 : H p = none := S.s.free p0 (t m hm) S.M.some
  have t2 : Trk H2 (l :: L) := ((t.mS (S.s.trans s) (by rw [em]; simp))).cons (by rw [el]; simp)
  have hpL : p ∉ l :: L := t2.fresh hp
  refine ⟨SameM.mut (SameM.mut (S.s.trans s) p00 _) S.l0 _, (M.upd npm.symm npc.symm).upd lm S.lc, S.l0, S.lc, upd_same, ?_, by rw [List.length_append, S.n]; rfl, ?_⟩
  · rw [wo_upd_in (by simp), List.map_append]
    refine L2.DpAll.snoc ?_ (pr_new t2 hp r (i + 1))
    refine dpAll_mono ?_ S.d
    refine (SameM.wo (L := l :: L) s (List.mem_cons_of_mem _ hm)).trans ?_
    rw [wo_upd_out hpL]
    exact same_new (by rw [wo_out hpL]; exact hp) _
  · intro k q hk
    by_cases h : k < ties.length
    · rw [List.getElem?_append_left h] at hk
      exact S.sh k q hk
    · rw [List.getElem?_append_right (by omega)] at hk
      have e0 : k - ties.length = 0 := by
        have := (List.getElem?_eq_some_iff.mp hk).1
        simp at this
        omega
      rw [e0] at hk
      cases hk
      have := S.n
      simp only
      omega
end
end Y
namespace Y
open PySem PySem.Spec PyProof.Rows L2
theorem made_lst2 {K : PySem.W.Frag} {H H' : Hp} {L : List Addr} {m c l : Addr} {cs : List Int} {b i : Nat} {ys : List V} {ties : List (Nat × Nat)} (t : Trk H L) (S : Shp K H L m c l cs b i H' ys ties) : Dp K (wo H' L) (.ref l) (.list (ties.map pr)) := by
  refine .lst (.inl (.inl ?_)) (dpAll_mono wo_cons_le S.d)
  rw [wo_out (t.fresh S.l0)]
  exact S.el
end Y
namespace Y
theorem shape_tree {ties : List (Nat × Nat)} (h : ∀ (k : Nat) p, ties[k]? = some p → p.2 = k + 1 ∧ p.1 < k + 1) : ∀ k, k ≤ ties.length → TM.IsTree (k + 1) (adjT (ties.take k))
  | 0, _ => TM.isTree_one fun u v a => by
      unfold adjT at a
      simp at a
  | k + 1, hk => by
    have hp : ties[k]? = some ties[k] := List.getElem?_eq_getElem (by omega)
    obtain ⟨h1, h2⟩ := h k _ hp
    refine TM.isTree_leaf (shape_tree h k (by omega)) (q := ties[k].1) h2 fun u v => ?_
    unfold adjT
    rw [List.take_add_one, hp]
    simp only [Option.toList_some, List.mem_append, List.mem_singleton]
    obtain ⟨⟨a, c⟩, e⟩ : ∃ p, ties[k] = p := ⟨_, rfl⟩
    rw [e] at h1 h2 ⊢
    simp only [Prod.mk.injEq] at *
    subst h1
    constructor
    · rintro ((x | x) | (x | x))
      · exact .inl (.inl x)
      · exact .inr (.inl x)
      · exact .inl (.inr x)
      · exact .inr (.inr ⟨x.2, x.1⟩)
    · rintro ((x | x) | x | x)
      · exact .inl (.inl x)
      · exact .inr (.inl x)
      · exact .inl (.inr x)
      · exact .inr (.inr ⟨x.2, x.1⟩)
theorem asc_of {l : List (Nat × Nat)} (h : l.Pairwise fun p q => leP p q = true) (nd : l.Nodup) : l.Pairwise lexL := by
  refine List.Pairwise.imp ?_ (List.pairwise_and_iff.mpr ⟨h, nd⟩)
  rintro p q ⟨a, b⟩
  rw [leP_iff] at a
  unfold lexL
  have : ¬ (p.1 = q.1 ∧ p.2 = q.2) := fun z => b (Prod.ext z.1 z.2)
  omega
theorem adjT_perm {l m : List (Nat × Nat)} (p : l.Perm m) (u v : Nat) : adjT l u v ↔ adjT m u v := by
  unfold adjT
  rw [p.mem_iff, p.mem_iff]
theorem mk2_id {l : List (Nat × Nat)} (h : ∀ p ∈ l, p.1 < p.2) : (l.map fun p => mk2 p.1 p.2) = l := by
  conv => rhs; rw [← List.map_id l]
  refine List.map_congr_left fun p hp => ?_
  have := h p hp
  unfold mk2
  apply Prod.ext
  · show min p.1 p.2 = p.1
    omega
  · show max p.1 p.2 = p.2
    omega
theorem made_tree {n : Nat} {ws : List Int} {ties : List (Nat × Nat)} (S : Shape n ties) (hw : ws.length = n) (hn : n ≤ 16) : Tree (madeT ws ties) := by
  obtain ⟨hl, h⟩ := S
  have lt : ∀ p ∈ ties, p.1 < p.2 ∧ p.2 < n := fun p hp => by
    obtain ⟨k, hk⟩ := List.mem_iff_getElem?.mp hp
    have := h k p hk
    have := (List.getElem?_eq_some_iff.mp hk).1
    omega
  have e : (madeT ws ties).ties = sortP ties := by
    show sortP (ties.map fun p => mk2 p.1 p.2) = _
    rw [mk2_id fun p hp => (lt p hp).1]
  have nd : ties.Nodup := by
    refine List.pairwise_iff_getElem.mpr fun i j hi hj hij e2 => ?_
    have a := (h i _ (List.getElem?_eq_getElem hi)).1
    have c := (h j _ (List.getElem?_eq_getElem hj)).1
    rw [e2] at a
    omega
  have pm := sortP_perm ties
  have hn' : (madeT ws ties).n = n := hw
  refine ⟨⟨by rw [hn']; exact hn, by rw [e, pm.length_eq]; omega, fun p hp => ?_, by rw [e]; exact asc_of (sortP_sorted ties) (pm.nodup_iff.mpr nd)⟩, ?_⟩
  · rw [e] at hp
    rw [hn']
    exact lt p (pm.mem_iff.mp hp)
  · rw [e, hn']
    refine TM.isTree_congr (fun u v => (adjT_perm pm u v).symm) ?_
    cases n with
    | zero => exact TM.isTree_zero
    | succ n =>
      have := shape_tree h ties.length (Nat.le_refl _)
      rw [List.take_length] at this
      have e3 : ties.length + 1 = n + 1 := by omega
      rw [e3] at this
      exact this
end Y
namespace Y
open PySem PySem.Spec PyProof.Rows L2
/-- a dict comprehension over a walk -/
theorem dc_it {J : It} {n : Nat} {G : Hp → Prop} {Yt : Nat → Hp → V → Hp → Prop} (w : Walk J n G Yt) {g : TG} {tt : TT} {tk tv : TE} {vs : List Nat} {σ : L2.St} {H1 : Hp} {D : Addr} {Qd : Hp → Prop} (Pv : Nat → Hp → Prop) (h0 : Pv 0 (upd H1 D (.dK []))) (hG : ∀ i H, i ≤ n → Pv i H → G H)
    (hs : ∀ i x H H', i < n → Pv i H → Yt i H x H' → g x (wipe σ vs) H' fun σ2 H2 => wipe σ2 vs = wipe σ vs ∧ tt σ2 H2 fun b H3 =>
      if b = true then tk σ2 H3 fun y H4 => tv σ2 H4 fun z H5 => ∃ kvs k, y = kV k ∧ H5 D = some (.dK kvs) ∧ kvs.length < sizeLine ∧ Pv (i + 1) (upd H5 D (.dK (putK kvs k z))) else Pv (i + 1) H3) (hd : ∀ H, Pv n H → Qd H) :
    ∃ W : Nat → Nat → Hp → Prop, (∃ m, W 0 m (upd H1 D (.dK []))) ∧ ∀ i m H, W i m H →
      (J.stop i H ∧ Qd H) ∨ (J.go i H ∧ ∃ Nx : Hp → Prop, (∀ H', Nx H' → ∃ m', m' < m ∧ W (i + 1) m' H') ∧ ∀ x H', J.yld i H x H' → g x (wipe σ vs) H' fun σ2 H2 => wipe σ2 vs = wipe σ vs ∧ tt σ2 H2 fun b H3 =>
        if b = true then tk σ2 H3 fun y H4 => tv σ2 H4 fun z H5 => ∃ kvs k, y = kV k ∧ H5 D = some (.dK kvs) ∧ kvs.length < sizeLine ∧ Nx (upd H5 D (.dK (putK kvs k z))) else Nx H3) := by
  refine ⟨fun i m H => m = n - i ∧ i ≤ n ∧ Pv i H, ⟨n, by simp, Nat.zero_le _, h0⟩, ?_⟩
  rintro i m H ⟨rfl, hi, p⟩
  have q := hG i H hi p
  by_cases hlt : i < n
  · refine .inr ⟨w.goes i H hlt q, Pv (i + 1), fun H' p' => ⟨n - (i + 1), by omega, rfl, hlt, p'⟩, fun x H' y => hs i x H H' hlt p (w.yields i H x H' hlt q y)⟩
  · have e : i = n := by omega
    subst e; exact .inl ⟨w.stops H q, hd H p⟩
/-- places numbered -/
def numK (l : List Nat) : List (Key × V) := l.zipIdx.map fun p => (Sum.inl (p.1 : Int), V.int (p.2 : Int))
theorem numK_len (l : List Nat) : (numK l).length = l.length := by unfold numK; simp
theorem valV_app (a b : List (Key × V)) (k : Key) : valV (a ++ b) k = (valV a k).or (valV b k) := by
  unfold valV; rw [List.find?_append]
  cases List.find? (fun kv => decide (kv.1 = k)) a <;> rfl
theorem numK_snoc (l : List Nat) (x : Nat) : numK (l ++ [x]) = numK l ++ [(Sum.inl (x : Int), V.int (l.length : Int))] := by
  unfold numK; rw [List.zipIdx_append, List.map_append]; simp
theorem numK_none {l : List Nat} {x : Nat} (h : x ∉ l) : valV (numK l) (Sum.inl (x : Int)) = none := by
  unfold valV numK; rw [List.find?_eq_none.mpr]
  · rfl
  · intro kv hkv
    obtain ⟨p, hp, rfl⟩ := List.mem_map.mp hkv
    have : p.1 ∈ l := by
      have := List.mem_zipIdx hp; rw [this.2.2]; exact List.getElem_mem _
    simp only [decide_eq_true_eq]; intro e; have e := Sum.inl.inj e
    have : p.1 = x := by omega
    exact h (by rw [← this]; assumption)
theorem numK_put {l : List Nat} {x : Nat} (h : x ∉ l) : putK (numK l) (Sum.inl (x : Int)) (.int (l.length : Int)) = numK (l ++ [x]) := by
  rw [putK_new _ (numK_none h), numK_snoc]
theorem numK_at : ∀ {l : List Nat} {x : Nat}, l.Nodup → x ∈ l → valV (numK l) (Sum.inl (x : Int)) = some (.int (l.idxOf x : Nat)) := by
  intro l
  induction h : l.length generalizing l with
  | zero =>
    intro x _ m; rw [List.length_eq_zero_iff.mp h] at m
    cases m
  | succ n ih =>
    intro x nd m; obtain ⟨r, y, rfl⟩ : ∃ r y, l = r ++ [y] := ⟨l.dropLast, l.getLast (fun e => by rw [e] at h; cases h), (List.dropLast_concat_getLast _).symm⟩
    have hr : r.length = n := by simp at h; exact h
    rw [numK_snoc, valV_app]; rw [List.nodup_append] at nd
    by_cases hx : x ∈ r
    · rw [ih hr nd.1 hx, List.idxOf_append, if_pos hx]
      rfl
    · have e : x = y := by
        rcases List.mem_append.mp m with m | m
        · exact absurd m hx
        · simpa using m
      subst e; rw [numK_none hx, List.idxOf_append, if_neg hx]; simp [valV]
end Y
namespace Y
/-- the places as they are found: those ahead of c have been looked at -/
structure WInv (n : Nat) (r : Nat) (par : Nat → Nat) (S : List Nat) (c : Nat) : Prop where
  nd : S.Nodup
  lt : ∀ v ∈ S, v < n
  rin : r ∈ S
  le : c ≤ S.length
  up : ∀ v ∈ S, v ≠ r → par v ∈ S.take c
  down : ∀ p ∈ S.take c, ∀ w, w < n → w ≠ r → par w = p → w ∈ S
theorem WInv.start {n r : Nat} {par : Nat → Nat} (h : r < n) : WInv n r par [r] 0 :=
  ⟨by simp, by simp; exact h, by simp, by simp, fun v m ne => absurd (by simpa using m) ne, fun p m => by simp at m⟩
theorem WInv.turn {n r c p : Nat} {par : Nat → Nat} {S cs : List Nat} (W : WInv n r par S c) (hp : S[c]? = some p) (nd : cs.Nodup) (hc : ∀ w, w ∈ cs ↔ w < n ∧ w ≠ r ∧ par w = p) : WInv n r par (S ++ cs) (c + 1) := by
  have hl := (List.getElem?_eq_some_iff.mp hp).1
  have et : (S ++ cs).take (c + 1) = S.take c ++ [p] := by
    rw [List.take_append_of_le_length (by omega), List.take_add_one, hp]
    rfl
  have np : p ∉ S.take c := fun m => by
    obtain ⟨j, hj⟩ := List.mem_iff_getElem?.mp m
    rw [List.getElem?_take] at hj
    split at hj
    · have := L2.nd_ix W.nd hp hj
      omega
    · cases hj
  refine ⟨?_, ?_, List.mem_append_left _ W.rin, by rw [List.length_append]; omega, ?_, ?_⟩
  · rw [List.nodup_append]
    refine ⟨W.nd, nd, fun a ha b hb e => ?_⟩
    subst e
    obtain ⟨_, h2, h3⟩ := (hc a).mp hb
    have := W.up a ha h2
    rw [h3] at this
    exact np this
  · intro v m
    rcases List.mem_append.mp m with m | m
    · exact W.lt v m
    · exact ((hc v).mp m).1
  · intro v m ne
    rw [et]
    rcases List.mem_append.mp m with m | m
    · exact List.mem_append_left _ (W.up v m ne)
    · rw [((hc v).mp m).2.2]
      simp
  · intro q m w h1 h2 h3
    rw [et] at m
    rcases List.mem_append.mp m with m | m
    · exact List.mem_append_left _ (W.down q m w h1 h2 h3)
    · simp at m
      subst m
      exact List.mem_append_right _ ((hc w).mpr ⟨h1, h2, h3⟩)
theorem WInv.all {n r : Nat} {adj : Nat → Nat → Prop} {par dep : Nat → Nat} {S : List Nat} (W : WInv n r par S S.length) (R : TM.Rooted n adj r par dep) : ∀ v, v ∈ S ↔ v < n := by
  intro v
  refine ⟨W.lt v, ?_⟩
  have key : ∀ d v, dep v = d → v < n → v ∈ S := by
    intro d
    induction d with
    | zero =>
      intro v hd hv
      by_cases e : v = r
      · rw [e]; exact W.rin
      · have := (R.up v hv e).2
        omega
    | succ d ih =>
      intro v hd hv
      by_cases e : v = r
      · rw [e]; exact W.rin
      · obtain ⟨h1, h2⟩ := R.up v hv e
        have := ih (par v) (by omega) h1
        exact W.down (par v) (by rw [List.take_length]; exact this) v hv e rfl
  exact key _ v rfl
theorem WInv.few {n r c : Nat} {par : Nat → Nat} {S : List Nat} (W : WInv n r par S c) : S.length ≤ n := TM.nodup_le n S W.nd W.lt
/-- the neighbours but that on the way to the root -/
def kids (ties : List (Nat × Nat)) (r : Nat) (par : Nat → Nat) (p : Nat) : List Nat := (nb ties p).filter fun w => decide ((w : Int) ≠ if p = r then -1 else (par p : Int))
theorem kids_mem {t : Tr} {r : Nat} {par dep : Nat → Nat} (R : TM.Rooted t.n (adjT t.ties) r par dep) {p : Nat} (hp : p < t.n) (w : Nat) : w ∈ kids t.ties r par p ↔ w < t.n ∧ w ≠ r ∧ par w = p := by
  unfold kids
  rw [List.mem_filter, nb_mem, R.edge p w, decide_eq_true_iff]
  constructor
  · rintro ⟨⟨_, hw, c⟩, ne⟩
    rcases c with ⟨c1, c2⟩ | ⟨c1, c2⟩
    · rw [if_neg c1] at ne
      exact absurd (by rw [c2]) ne
    · exact ⟨hw, c1, c2⟩
  · rintro ⟨hw, h1, h2⟩
    refine ⟨⟨hp, hw, .inr ⟨h1, h2⟩⟩, ?_⟩
    by_cases e : p = r
    · rw [if_pos e]
      omega
    · rw [if_neg e]
      intro z
      have z' : w = par p := by omega
      have a := (R.up p hp e).2
      have b := (R.up w hw h1).2
      rw [h2] at b
      rw [← z'] at a
      omega
theorem kids_nodup {t : Tr} (O : Okt t) (r : Nat) (par : Nat → Nat) (p : Nat) : (kids t.ties r par p).Nodup := (nb_nodup O p).filter _
end Y
namespace Y
theorem range_bind {α β : Type} (f : α → Option β) (xs : List α) : ∀ n, n ≤ xs.length → (List.range n).filterMap (fun i => (xs[i]?).bind f) = (xs.take n).filterMap f
  | 0, _ => by simp
  | n + 1, h => by
    rw [List.range_succ, List.filterMap_append, range_bind f xs n (by omega), List.take_add_one, List.filterMap_append]
    have e : xs[n]? = some xs[n] := List.getElem?_eq_getElem (by omega)
    congr 1
    rw [e]
    simp [List.filterMap_cons, e]
theorem range_bind_all {α β : Type} (f : α → Option β) (xs : List α) : (List.range xs.length).filterMap (fun i => (xs[i]?).bind f) = xs.filterMap f := by
  rw [range_bind f xs _ (Nat.le_refl _), List.take_length]
end Y
namespace Y
open PySem PySem.Spec PyProof.Rows L2
/-- what each place is told in a dict -/
theorem merge_at (f : Nat → V) : ∀ (S : List Nat) (kvs : List (Key × V)) (v : Nat), valV (mergeK kvs (S.map fun (u : Nat) => ((Sum.inl (u : Int) : Key), f u))) (Sum.inl (v : Int)) = if v ∈ S then some (f v) else valV kvs (Sum.inl (v : Int))
  | [], kvs, v => by simp [mergeK]
  | u :: S, kvs, v => by
    have := merge_at f S (putK kvs (Sum.inl (u : Int)) (f u)) v
    show valV (mergeK (putK kvs (Sum.inl (u : Int)) (f u)) (S.map fun (u : Nat) => ((Sum.inl (u : Int) : Key), f u))) (Sum.inl (v : Int)) = _
    rw [this, valV_put]
    by_cases h : v ∈ S
    · rw [if_pos h, if_pos (List.mem_cons_of_mem _ h)]
    · rw [if_neg h]
      by_cases e : v = u
      · subst e
        simp
      · have : ¬ ((Sum.inl (v : Int) : Key) = Sum.inl (u : Int)) := fun z => e (by have := Sum.inl.inj z; omega)
        rw [if_neg this]
        simp [e, h]
theorem paired_steps {K : PySem.W.Frag} {H : Hp} {r : Nat} {par : Nat → Nat} : ∀ {xs : List V} {S : List Nat}, DpAll K H xs (S.map (stepD r par)) →
    ∃ ps : List Addr, xs = ps.map V.ref ∧ Paired (fun p (kv : Key × V) => SqT K H p [kV kv.1, kv.2]) ps (S.map fun (u : Nat) => ((Sum.inl (u : Int) : Key), V.int (if u = r then -1 else (par u : Int))))
  | _, [], .nil => ⟨[], rfl, .nil⟩
  | _, u :: S, .cons h t => by
    obtain ⟨ps, rfl, hp⟩ := paired_steps t
    obtain ⟨g, gs, rfl, hg, hga⟩ := dp_tup h
    cases hga with
    | cons h1 hga =>
      cases hga with
      | cons h2 hga =>
        cases hga
        rw [dp_int h1, dp_int h2] at hg
        exact ⟨g :: ps, rfl, .cons hg hp⟩
theorem paired_imp {α β : Type} {F G : α → β → Prop} (h : ∀ a b, F a b → G a b) : ∀ {xs : List α} {ys : List β}, Paired F xs ys → Paired G xs ys
  | _, _, .nil => .nil
  | _, _, .cons a t => .cons (h _ _ a) (paired_imp h t)
end Y
namespace Y
theorem nV_snoc (xs : List Nat) (v : Nat) : nV (xs ++ [v]) = nV xs ++ [L2.V.int (v : Int)] := by
  unfold nV
  rw [List.map_append]
  rfl
end Y
namespace Y
open PySem PySem.Spec PyProof.Rows L2
/-- what the law's dict tells -/
structure AH (S : List Nat) (kvs : List (Key × V)) (r : Nat) (par : Nat → Nat) : Prop where
  n : kvs.length = S.length
  val : ∀ v : Nat, valV kvs (Sum.inl (v : Int)) = if v ∈ S then some (.int ((if v = r then r else par v : Nat) : Int)) else none
theorem AH.put {S : List Nat} {kvs : List (Key × V)} {r w x : Nat} {par : Nat → Nat} (A : AH S kvs r par) (h : w ∉ S) (hr : w ≠ r) (hx : par w = x) : AH (S ++ [w]) (putK kvs (Sum.inl (w : Int)) (.int (x : Int))) r par := by
  have e0 : valV kvs (Sum.inl (w : Int)) = none := by rw [A.val w, if_neg h]
  refine ⟨by rw [putK_new _ e0, List.length_append, List.length_append, A.n]; rfl, fun v => ?_⟩
  rw [valV_put, A.val v]
  by_cases e : v = w
  · subst e
    simp [hr, hx]
  · have : ¬ ((Sum.inl (v : Int) : Key) = Sum.inl (w : Int)) := fun z => e (by have := Sum.inl.inj z; omega)
    rw [if_neg this]
    simp [e]
end Y
namespace Y
theorem Lst.len {n : Nat} {l : List Nat} (h : Lst n l) : l.length = n := by
  have p : l.Perm (List.range n) := (List.perm_ext_iff_of_nodup h.nd List.nodup_range).mpr fun v => by rw [h.all v, List.mem_range]
  rw [p.length_eq, List.length_range]
theorem Lst.at {n : Nat} {l : List Nat} (h : Lst n l) {v : Nat} (hv : v < n) : l[v]? = some (l.getD v 0) := by
  rw [List.getD_eq_getElem?_getD, List.getElem?_eq_getElem (by rw [h.len]; exact hv)]
  rfl
theorem Lst.f {n : Nat} {l : List Nat} (h : Lst n l) {v : Nat} (hv : v < n) : l.getD v 0 < n := (h.all _).mp (List.mem_of_getElem? (h.at hv))
theorem Lst.g {n : Nat} {l : List Nat} (h : Lst n l) {v : Nat} (hv : v < n) : l.idxOf v < n := by
  rw [← h.len]
  exact List.idxOf_lt_length_iff.mpr ((h.all v).mpr hv)
theorem Lst.fg {n : Nat} {l : List Nat} (h : Lst n l) {v : Nat} (hv : v < n) : l.getD (l.idxOf v) 0 = v := by
  have h1 := List.idxOf_lt_length_iff.mpr ((h.all v).mpr hv)
  rw [List.getD_eq_getElem?_getD, List.getElem?_eq_getElem h1, List.getElem_idxOf h1]
  rfl
theorem Lst.gf {n : Nat} {l : List Nat} (h : Lst n l) {v : Nat} (hv : v < n) : l.idxOf (l.getD v 0) = v := by
  have hm := h.f hv
  have h1 := h.at (h.g hm)
  rw [h.fg hm] at h1
  exact L2.nd_ix h.nd h1 (h.at hv)
theorem mk2_or (a b : Nat) : mk2 a b = (a, b) ∨ mk2 a b = (b, a) := by
  unfold mk2
  by_cases h : a ≤ b
  · left; rw [Nat.min_eq_left h, Nat.max_eq_right h]
  · right; rw [Nat.min_eq_right (by omega), Nat.max_eq_left (by omega)]
theorem mk2_comm (a b : Nat) : mk2 a b = mk2 b a := by
  unfold mk2
  rw [Nat.min_comm, Nat.max_comm]
theorem lst_mem {t : Tr} {l : List Nat} {q : Nat × Nat} : q ∈ (lstT t l).ties ↔ ∃ p ∈ t.ties, mk2 (l.idxOf p.1) (l.idxOf p.2) = q := by
  show q ∈ sortP _ ↔ _
  rw [(sortP_perm _).mem_iff, List.mem_map]
theorem lst_adj {t : Tr} (O : Okt t) {l : List Nat} (h : Lst t.n l) (u v : Nat) : adjT (lstT t l).ties u v ↔ (u < t.n ∧ v < t.n ∧ adjT t.ties (l.getD u 0) (l.getD v 0)) := by
  constructor
  · intro a
    have key : ∀ x y, (x, y) ∈ (lstT t l).ties → x < t.n ∧ y < t.n ∧ adjT t.ties (l.getD x 0) (l.getD y 0) := by
      intro x y hm
      obtain ⟨⟨c, d⟩, hp, e⟩ := lst_mem.mp hm
      have ib := O.inb _ hp
      simp only at ib e
      have hc : c < t.n := by omega
      rcases mk2_or (l.idxOf c) (l.idxOf d) with e1 | e1
      · rw [e1] at e
        cases e
        refine ⟨h.g hc, h.g ib.2, .inl ?_⟩
        rw [h.fg hc, h.fg ib.2]
        exact hp
      · rw [e1] at e
        cases e
        refine ⟨h.g ib.2, h.g hc, .inr ?_⟩
        rw [h.fg hc, h.fg ib.2]
        exact hp
    rcases a with a | a
    · exact key u v a
    · obtain ⟨h1, h2, h3⟩ := key v u a
      exact ⟨h2, h1, h3.symm⟩
  · rintro ⟨hu, hv, a⟩
    have key : ∀ x y, x < t.n → y < t.n → (l.getD x 0, l.getD y 0) ∈ t.ties → adjT (lstT t l).ties x y := by
      intro x y hx hy hm
      have := (lst_mem (l := l)).mpr ⟨_, hm, rfl⟩
      simp only at this
      rw [h.gf hx, h.gf hy] at this
      rcases mk2_or x y with e | e
      · rw [e] at this
        exact .inl this
      · rw [e] at this
        exact .inr this
    rcases a with a | a
    · exact key u v hu hv a
    · exact (key v u hv hu a).symm
theorem lst_n {t : Tr} {l : List Nat} (h : Lst t.n l) : (lstT t l).n = t.n := by
  show (l.map _).length = _
  rw [List.length_map, h.len]
theorem lst_okt {t : Tr} (O : Okt t) {l : List Nat} (h : Lst t.n l) : Okt (lstT t l) := by
  have hinj : ∀ a b, a < t.n → b < t.n → l.idxOf a = l.idxOf b → a = b := fun a b ha hb e => by rw [← h.fg ha, ← h.fg hb, e]
  refine ⟨by rw [lst_n h]; exact O.few, ?_, fun p hp => ?_, asc_of (sortP_sorted _) ((sortP_perm _).nodup_iff.mpr ?_)⟩
  · show (sortP _).length ≤ 100
    rw [(sortP_perm _).length_eq, List.length_map]
    exact O.fewT
  · obtain ⟨⟨c, d⟩, hm, e⟩ := lst_mem.mp hp
    have ib := O.inb _ hm
    simp only at ib e
    have hc : c < t.n := by omega
    have g1 := h.g hc
    have g2 := h.g ib.2
    have ne : l.idxOf c ≠ l.idxOf d := fun e => by have := hinj c d hc ib.2 e; omega
    rw [lst_n h, ← e]
    unfold mk2
    simp only
    omega
  · refine List.pairwise_map.mpr (List.Pairwise.imp_of_mem ?_ O.asc)
    rintro ⟨a, b⟩ ⟨c, d⟩ h1 h2 lt e
    have i1 := O.inb _ h1
    have i2 := O.inb _ h2
    simp only at i1 i2 e
    unfold lexL at lt
    simp only at lt
    have ha : a < t.n := by omega
    have hc : c < t.n := by omega
    have e1 : min (l.idxOf a) (l.idxOf b) = min (l.idxOf c) (l.idxOf d) := congrArg Prod.fst e
    have e2 : max (l.idxOf a) (l.idxOf b) = max (l.idxOf c) (l.idxOf d) := congrArg Prod.snd e
    have : (l.idxOf a = l.idxOf c ∧ l.idxOf b = l.idxOf d) ∨ (l.idxOf a = l.idxOf d ∧ l.idxOf b = l.idxOf c) := by omega
    rcases this with ⟨q1, q2⟩ | ⟨q1, q2⟩
    · have := hinj _ _ ha hc q1
      have := hinj _ _ i1.2 i2.2 q2
      omega
    · have := hinj _ _ ha i2.2 q1
      have := hinj _ _ i1.2 hc q2
      omega
theorem lst_tree {t : Tr} (O : Tree t) {l : List Nat} (h : Lst t.n l) : Tree (lstT t l) := by
  refine ⟨lst_okt O.toOkt h, ?_⟩
  rw [lst_n h]
  exact TM.isTree_listed O.tree (f := fun v => l.getD v 0) (g := fun v => l.idxOf v) (fun v hv => ⟨h.f hv, h.gf hv⟩) (fun v hv => ⟨h.g hv, h.fg hv⟩) fun u v => lst_adj O.toOkt h u v
/-- the listing turned back -/
def backL (n : Nat) (l : List Nat) : List Nat := (List.range n).map fun j => l.idxOf j
theorem backL_lst {n : Nat} {l : List Nat} (h : Lst n l) : Lst n (backL n l) := by
  refine ⟨List.pairwise_map.mpr (List.Pairwise.imp_of_mem ?_ List.nodup_range), fun v => ?_⟩
  · intro a b ha hb ne e
    have ha := List.mem_range.mp ha
    have hb := List.mem_range.mp hb
    exact ne (by rw [← h.fg ha, ← h.fg hb, e])
  · unfold backL
    rw [List.mem_map]
    constructor
    · rintro ⟨a, ha, rfl⟩
      exact h.g (List.mem_range.mp ha)
    · intro hv
      exact ⟨l.getD v 0, List.mem_range.mpr (h.f hv), h.gf hv⟩
theorem backL_at {n : Nat} {l : List Nat} {v : Nat} (hv : v < n) : (backL n l)[v]? = some (l.idxOf v) := by
  unfold backL
  simp [hv]
theorem backL_idx {n : Nat} {l : List Nat} (h : Lst n l) {v : Nat} (hv : v < n) : (backL n l).idxOf v = l.getD v 0 := by
  have hb := backL_lst h
  have h1 := hb.at (hb.g hv)
  rw [hb.fg hv] at h1
  have h2 := backL_at (l := l) (h.f hv)
  rw [h.gf hv] at h2
  exact L2.nd_ix hb.nd h1 h2
theorem lst_back {t : Tr} (O : Okt t) {l : List Nat} (h : Lst t.n l) : lstT (lstT t l) (backL t.n l) = t := by
  obtain ⟨ws, ties⟩ := t
  have e1 : (backL ws.length l).map (fun v => (l.map fun v => ws.getD v 0).getD v 0) = ws := by
    apply List.ext_getElem?
    intro i
    by_cases hi : i < ws.length
    · rw [List.getElem?_map, backL_at hi]
      show some ((l.map fun v => ws.getD v 0).getD (l.idxOf i) 0) = ws[i]?
      have hg := h.g (v := i) hi
      rw [List.getD_eq_getElem?_getD, List.getElem?_map, h.at hg, h.fg hi]
      show some (ws.getD i 0) = ws[i]?
      rw [List.getD_eq_getElem?_getD, List.getElem?_eq_getElem hi]
      rfl
    · rw [List.getElem?_eq_none (by simp [backL]; omega), List.getElem?_eq_none (by omega)]
  have e2 : sortP ((sortP (ties.map fun p => mk2 (l.idxOf p.1) (l.idxOf p.2))).map fun p => mk2 ((backL ws.length l).idxOf p.1) ((backL ws.length l).idxOf p.2)) = ties := by
    rw [sortP_of_perm ((sortP_perm (ties.map fun p => mk2 (l.idxOf p.1) (l.idxOf p.2))).map _), List.map_map]
    have e3 : ties.map ((fun p => mk2 ((backL ws.length l).idxOf p.1) ((backL ws.length l).idxOf p.2)) ∘ fun p => mk2 (l.idxOf p.1) (l.idxOf p.2)) = ties := by
      conv => rhs; rw [← List.map_id ties]
      refine List.map_congr_left fun p hp => ?_
      have ib := O.inb p hp
      obtain ⟨a, b⟩ := p
      simp only at ib
      have ha : a < ws.length := by have := ib.2; simp only [Tr.n] at this; omega
      have hb : b < ws.length := ib.2
      have ga : (backL ws.length l).idxOf (l.idxOf a) = a := by rw [backL_idx h (h.g ha), h.fg ha]
      have gb : (backL ws.length l).idxOf (l.idxOf b) = b := by rw [backL_idx h (h.g hb), h.fg hb]
      show mk2 ((backL ws.length l).idxOf (mk2 (l.idxOf a) (l.idxOf b)).1) ((backL ws.length l).idxOf (mk2 (l.idxOf a) (l.idxOf b)).2) = (a, b)
      have fin : mk2 a b = (a, b) := by
        unfold mk2
        rw [Nat.min_eq_left (by omega), Nat.max_eq_right (by omega)]
      rcases mk2_or (l.idxOf a) (l.idxOf b) with e | e
      · rw [e]
        simp only
        rw [ga, gb, fin]
      · rw [e]
        simp only
        rw [ga, gb, mk2_comm, fin]
    rw [e3]
    refine (sortP_uniq (O.asc.imp fun l => ?_) (List.Perm.refl _)).symm
    unfold lexL at l
    rw [leP_iff]
    omega
  show Tr.mk _ _ = Tr.mk _ _
  rw [Tr.mk.injEq]
  exact ⟨e1, e2⟩
end Y
namespace Y
open PySem PySem.Spec PyProof.Rows L2
theorem ne_same {d : PyData} (h : SeqAt.shaped d = true) : (!PyData.eqv d d) = false := by
  have := SeqAt.eqv_refl d (Bool.and_eq_true_iff.mp h).1
  rw [this]
  rfl
theorem shaped_nT (ns : List Nat) : SeqAt.shaped (.tuple (nD ns)) = true := by rw [nD_eq]; exact shaped_iT _
theorem canLay_prs : ∀ ps : List (Nat × Nat), PyData.canLayAll0 (ps.map pr) = true
  | [] => rfl
  | p :: ps => by
    show (PyData.canLay0 (pr p) && PyData.canLayAll0 (ps.map pr)) = true
    rw [canLay_prs ps]
    rfl
theorem depth_prs : ∀ ps : List (Nat × Nat), PyData.depthAll (ps.map pr) ≤ 1
  | [] => by show 0 ≤ 1; omega
  | p :: ps => by
    have := depth_prs ps
    show max (PyData.depth (pr p)) (PyData.depthAll (ps.map pr)) ≤ 1
    have h : PyData.depth (pr p) = 1 := rfl
    omega
theorem shaped_tr (t : Tr) : SeqAt.shaped (trD t) = true := by
  have h1 := depth_iD t.ws
  have h2 := depth_prs t.ties
  refine Bool.and_eq_true_iff.mpr ⟨?_, decide_eq_true ?_⟩
  · show (PyData.canLayAll0 (iD t.ws) && (PyData.canLayAll0 (t.ties.map pr) && true)) = true
    rw [canLay_iD, canLay_prs]
    rfl
  · show max (PyData.depthAll (iD t.ws) + 1) (max (PyData.depthAll (t.ties.map pr) + 1) 0) + 1 ≤ 64
    omega
end Y
namespace Y
open PySem PySem.Spec PyProof.Rows L2
structure Cx1 (K : PySem.W.Frag) (H : Hp) (m c : Addr) (cs : List Int) (b : Nat) (tv nv : V) (t : Tr) : Prop where
  M : MAt H m c cs b
  dT : Dp K (wo H [m]) tv (trD t)
  dN : Dp K (wo H [m]) nv (llD (nbs t))
theorem Cx1.trk {K H m c cs b tv nv t} (h : Cx1 K H m c cs b tv nv t) : Trk H [m] := (Trk.nil H).cons h.M.some
theorem Cx1.same {K H H' m c cs b tv nv t} (h : Cx1 K H m c cs b tv nv t) (s : Same H H') : Cx1 K H' m c cs b tv nv t := ⟨h.M.same s, dp_mono (wo_mono s) h.dT, dp_mono (wo_mono s) h.dN⟩
theorem Cx1.draw {K H H' m c cs b b' tv nv t} (h : Cx1 K H m c cs b tv nv t) (s : SameM m H H') (M : MAt H' m c cs b') : Cx1 K H' m c cs b' tv nv t := ⟨M, dp_mono s h.dT, dp_mono s h.dN⟩
theorem same_back {H0 H1 Hc : Hp} {m : Addr} (s : Same H0 H1) (h : H0 m = none) (z : SameM m H1 Hc) : Same H0 Hc := fun a o e => z.at (s a o e) (ne_of_none e h)
end Y
namespace Y
theorem idxOf_cast : ∀ (l : List Nat) (v : Nat), (l.map fun (n : Nat) => (n : Int)).idxOf (v : Int) = l.idxOf v
  | [], _ => rfl
  | a :: l, v => by
    rw [List.map_cons, List.idxOf_cons, List.idxOf_cons, idxOf_cast l v]
    have : ((a : Int) == (v : Int)) = (a == v) := by
      by_cases e : a = v
      · subst e; simp
      · have h1 : ((a : Int) == (v : Int)) = false := by simpa using fun z => e (by omega)
        have h2 : (a == v) = false := by simpa using e
        rw [h1, h2]
    rw [this]
end Y
namespace Y
open PySem PySem.Spec PyProof.Rows L2
/-- what is held besides, once the listing is drawn -/
structure Cx2 (K : PySem.W.Frag) (H : Hp) (m c : Addr) (cs : List Int) (b : Nat) (tv nv ov : V) (la : Addr) (t : Tr) (l : List Nat) : Prop where
  C : Cx1 K H m c cs b tv nv t
  dL : Dp K (wo H [m]) (.ref la) (.tuple (nD l))
  ne : la ≠ m
  fz : ∃ o : Obj, H la = some (.frz o (.tup (nV l))) ∧ o.dict = none
  dO : Dp K (wo H [m]) ov (trD (lstT t l))
theorem Cx2.same {K H H' m c cs b tv nv ov la t l} (h : Cx2 K H m c cs b tv nv ov la t l) (s : Same H H') : Cx2 K H' m c cs b tv nv ov la t l :=
  ⟨h.C.same s, dp_mono (wo_mono s) h.dL, h.ne, let ⟨o, e, d⟩ := h.fz; ⟨o, s _ _ e, d⟩, dp_mono (wo_mono s) h.dO⟩
theorem Cx2.draw {K H H' m c cs b b' tv nv ov la t l} (h : Cx2 K H m c cs b tv nv ov la t l) (s : SameM m H H') (M : MAt H' m c cs b') : Cx2 K H' m c cs b' tv nv ov la t l :=
  ⟨h.C.draw s M, dp_mono s h.dL, h.ne, let ⟨o, e, d⟩ := h.fz; ⟨o, s.at e h.ne, d⟩, dp_mono s h.dO⟩
theorem Cx2.tup {K H m c cs b tv nv ov la t l} (h : Cx2 K H m c cs b tv nv ov la t l) : SqT K H la (nV l) := by
  obtain ⟨a, e, z⟩ := dp_nats.mp (dp_mono (wo_le _ _) h.dL)
  cases e
  exact z
end Y
namespace Y
open PySem PySem.Spec PyProof.Rows L2
def topS (i : Nat) : Stmt := PySem.Challenge.pw_blowntrees_k01_places_and_listings.main.body.getD i (.Pass ⟨0, 0, 0, 0⟩)
abbrev s_neighbour_lists : Stmt := topS 1
theorem sc_neighbour_lists : FnScope ["tree", "lists", "i", "j", "_"] ["tree"] (defScope s_neighbour_lists) := ⟨rfl, rfl, rfl, by decide +kernel, rfl, by decide +kernel, by decide +kernel⟩
abbrev s_neighbours : Stmt := topS 2
theorem sc_neighbours : FnScope ["tree", "place"] ["tree", "place"] (defScope s_neighbours) := ⟨rfl, rfl, rfl, by decide +kernel, rfl, by decide +kernel, by decide +kernel⟩
abbrev s_leaves : Stmt := topS 3
theorem sc_leaves : FnScope ["tree", "lists", "place", "near"] ["tree"] (defScope s_leaves) := ⟨rfl, rfl, rfl, by decide +kernel, rfl, by decide +kernel, by decide +kernel⟩
abbrev s_joints : Stmt := topS 4
theorem sc_joints : FnScope ["tree", "lists", "place", "near"] ["tree"] (defScope s_joints) := ⟨rfl, rfl, rfl, by decide +kernel, rfl, by decide +kernel, by decide +kernel⟩
abbrev s_walk : Stmt := topS 5
theorem sc_walk : FnScope ["tree", "root", "lists", "steps", "at", "place", "parent", "other"] ["tree", "root"] (defScope s_walk) := ⟨rfl, rfl, rfl, by decide +kernel, rfl, by decide +kernel, by decide +kernel⟩
abbrev s_path : Stmt := topS 6
theorem sc_path : FnScope ["tree", "i", "j", "toward", "places"] ["tree", "i", "j"] (defScope s_path) := ⟨rfl, rfl, rfl, by decide +kernel, rfl, by decide +kernel, by decide +kernel⟩
abbrev s_tie_of : Stmt := topS 7
theorem sc_tie_of : FnScope ["i", "j"] ["i", "j"] (defScope s_tie_of) := ⟨rfl, rfl, rfl, by decide +kernel, rfl, by decide +kernel, by decide +kernel⟩
abbrev s_listed : Stmt := topS 9
theorem sc_listed : FnScope ["tree", "listing", "weights", "ties", "number", "renumbered", "at", "place", "i", "j"] ["tree", "listing"] (defScope s_listed) := ⟨rfl, rfl, rfl, by decide +kernel, rfl, by decide +kernel, by decide +kernel⟩
abbrev s_law_begun : Stmt := topS 11
theorem sc_law_begun : FnScope ["script", "k", "cells", "great", "seed", "cell"] ["script", "k"] (defScope s_law_begun) := ⟨rfl, rfl, rfl, by decide +kernel, rfl, by decide +kernel, by decide +kernel⟩
abbrev s_law_draw : Stmt := topS 12
theorem sc_law_draw : FnScope ["m", "bound", "found", "spot", "cells", "extra", "cell", "blend"] ["m", "bound"] (defScope s_law_draw) := ⟨rfl, rfl, rfl, by decide +kernel, rfl, by decide +kernel, by decide +kernel⟩
abbrev s_law_of : Stmt := topS 13
theorem sc_law_of : FnScope ["m", "some"] ["m", "some"] (defScope s_law_of) := ⟨rfl, rfl, rfl, by decide +kernel, rfl, by decide +kernel, by decide +kernel⟩
abbrev s_law_near : Stmt := topS 14
theorem sc_law_near : FnScope ["tree", "found", "i", "j", "weight", "row"] ["tree"] (defScope s_law_near) := ⟨rfl, rfl, rfl, by decide +kernel, rfl, by decide +kernel, by decide +kernel⟩
abbrev s_law_made : Stmt := topS 15
theorem sc_law_made : FnScope ["weights", "ties", "i", "j"] ["weights", "ties"] (defScope s_law_made) := ⟨rfl, rfl, rfl, by decide +kernel, rfl, by decide +kernel, by decide +kernel⟩
abbrev s_law_shape : Stmt := topS 16
theorem sc_law_shape : FnScope ["m", "n", "word", "ties", "k"] ["m", "n"] (defScope s_law_shape) := ⟨rfl, rfl, rfl, by decide +kernel, rfl, by decide +kernel, by decide +kernel⟩
abbrev s_law_tree : Stmt := topS 17
theorem sc_law_tree : FnScope ["m", "most", "low", "high", "n", "k"] ["m", "most", "low", "high"] (defScope s_law_tree) := ⟨rfl, rfl, rfl, by decide +kernel, rfl, by decide +kernel, by decide +kernel⟩
abbrev s_law_listed : Stmt := topS 18
theorem sc_law_listed : FnScope ["tree", "listing", "spots", "k", "place", "i", "j"] ["tree", "listing"] (defScope s_law_listed) := ⟨rfl, rfl, rfl, by decide +kernel, rfl, by decide +kernel, by decide +kernel⟩
abbrev s_law_shuffled : Stmt := topS 19
theorem sc_law_shuffled : FnScope ["m", "count", "left", "found", "k", "one", "other"] ["m", "count"] (defScope s_law_shuffled) := ⟨rfl, rfl, rfl, by decide +kernel, rfl, by decide +kernel, by decide +kernel⟩
abbrev s_law_path : Stmt := topS 20
theorem sc_law_path : FnScope ["near", "i", "j", "ahead", "line", "at", "other", "found", "step"] ["near", "i", "j"] (defScope s_law_path) := ⟨rfl, rfl, rfl, by decide +kernel, rfl, by decide +kernel, by decide +kernel⟩
abbrev s_law : Stmt := topS 21
theorem sc_law : FnScope ["script", "k", "m", "tree", "size", "near", "listing", "other", "turn", "i", "j", "p"] ["script"] (defScope s_law) := ⟨rfl, rfl, rfl, by decide +kernel, rfl, by decide +kernel, by decide +kernel⟩
structure Txt (K : PySem.W.Frag) (mg : Str → Option Value) where
  a_neighbour_lists : Addr
  fd_neighbour_lists : FuncData
  F_neighbour_lists : Fun K "neighbour_lists" "neighbour_lists" s_neighbour_lists a_neighbour_lists fd_neighbour_lists
  b_neighbour_lists : Binds K fd_neighbour_lists ["tree"] []
  g_neighbour_lists : mg "neighbour_lists" = some (.ref a_neighbour_lists)
  a_neighbours : Addr
  fd_neighbours : FuncData
  F_neighbours : Fun K "neighbours" "neighbours" s_neighbours a_neighbours fd_neighbours
  b_neighbours : Binds K fd_neighbours ["tree", "place"] []
  g_neighbours : mg "neighbours" = some (.ref a_neighbours)
  a_leaves : Addr
  fd_leaves : FuncData
  F_leaves : Fun K "leaves" "leaves" s_leaves a_leaves fd_leaves
  b_leaves : Binds K fd_leaves ["tree"] []
  g_leaves : mg "leaves" = some (.ref a_leaves)
  a_joints : Addr
  fd_joints : FuncData
  F_joints : Fun K "joints" "joints" s_joints a_joints fd_joints
  b_joints : Binds K fd_joints ["tree"] []
  g_joints : mg "joints" = some (.ref a_joints)
  a_walk : Addr
  fd_walk : FuncData
  F_walk : Fun K "walk" "walk" s_walk a_walk fd_walk
  b_walk : Binds K fd_walk ["tree", "root"] []
  g_walk : mg "walk" = some (.ref a_walk)
  a_path : Addr
  fd_path : FuncData
  F_path : Fun K "path" "path" s_path a_path fd_path
  b_path : Binds K fd_path ["tree", "i", "j"] []
  g_path : mg "path" = some (.ref a_path)
  a_tie_of : Addr
  fd_tie_of : FuncData
  F_tie_of : Fun K "tie_of" "tie_of" s_tie_of a_tie_of fd_tie_of
  b_tie_of : Binds K fd_tie_of ["i", "j"] []
  g_tie_of : mg "tie_of" = some (.ref a_tie_of)
  a_listed : Addr
  fd_listed : FuncData
  F_listed : Fun K "listed" "listed" s_listed a_listed fd_listed
  b_listed : Binds K fd_listed ["tree", "listing"] []
  g_listed : mg "listed" = some (.ref a_listed)
  a_law_begun : Addr
  fd_law_begun : FuncData
  F_law_begun : Fun K "_law_begun" "_law_begun" s_law_begun a_law_begun fd_law_begun
  b_law_begun : Binds K fd_law_begun ["script", "k"] []
  g_law_begun : mg "_law_begun" = some (.ref a_law_begun)
  a_law_draw : Addr
  fd_law_draw : FuncData
  F_law_draw : Fun K "_law_draw" "_law_draw" s_law_draw a_law_draw fd_law_draw
  b_law_draw : Binds K fd_law_draw ["m", "bound"] []
  g_law_draw : mg "_law_draw" = some (.ref a_law_draw)
  a_law_of : Addr
  fd_law_of : FuncData
  F_law_of : Fun K "_law_of" "_law_of" s_law_of a_law_of fd_law_of
  b_law_of : Binds K fd_law_of ["m", "some"] []
  g_law_of : mg "_law_of" = some (.ref a_law_of)
  a_law_near : Addr
  fd_law_near : FuncData
  F_law_near : Fun K "_law_near" "_law_near" s_law_near a_law_near fd_law_near
  b_law_near : Binds K fd_law_near ["tree"] []
  g_law_near : mg "_law_near" = some (.ref a_law_near)
  a_law_made : Addr
  fd_law_made : FuncData
  F_law_made : Fun K "_law_made" "_law_made" s_law_made a_law_made fd_law_made
  b_law_made : Binds K fd_law_made ["weights", "ties"] []
  g_law_made : mg "_law_made" = some (.ref a_law_made)
  a_law_shape : Addr
  fd_law_shape : FuncData
  F_law_shape : Fun K "_law_shape" "_law_shape" s_law_shape a_law_shape fd_law_shape
  b_law_shape : Binds K fd_law_shape ["m", "n"] []
  g_law_shape : mg "_law_shape" = some (.ref a_law_shape)
  a_law_tree : Addr
  fd_law_tree : FuncData
  F_law_tree : Fun K "_law_tree" "_law_tree" s_law_tree a_law_tree fd_law_tree
  b_law_tree : Binds K fd_law_tree ["m", "most", "low", "high"] []
  g_law_tree : mg "_law_tree" = some (.ref a_law_tree)
  a_law_listed : Addr
  fd_law_listed : FuncData
  F_law_listed : Fun K "_law_listed" "_law_listed" s_law_listed a_law_listed fd_law_listed
  b_law_listed : Binds K fd_law_listed ["tree", "listing"] []
  g_law_listed : mg "_law_listed" = some (.ref a_law_listed)
  a_law_shuffled : Addr
  fd_law_shuffled : FuncData
  F_law_shuffled : Fun K "_law_shuffled" "_law_shuffled" s_law_shuffled a_law_shuffled fd_law_shuffled
  b_law_shuffled : Binds K fd_law_shuffled ["m", "count"] []
  g_law_shuffled : mg "_law_shuffled" = some (.ref a_law_shuffled)
  a_law_path : Addr
  fd_law_path : FuncData
  F_law_path : Fun K "_law_path" "_law_path" s_law_path a_law_path fd_law_path
  b_law_path : Binds K fd_law_path ["near", "i", "j"] []
  g_law_path : mg "_law_path" = some (.ref a_law_path)
  a_law : Addr
  fd_law : FuncData
  F_law : Fun K "law" "law" s_law a_law fd_law
  b_law : Binds K fd_law ["script"] []
  g_law : mg "law" = some (.ref a_law)
  z_dict : mg "dict" = none
  z_enumerate : mg "enumerate" = none
  z_int : mg "int" = none
  z_len : mg "len" = none
  z_list : mg "list" = none
  z_max : mg "max" = none
  z_min : mg "min" = none
  z_range : mg "range" = none
  z_sorted : mg "sorted" = none
  z_tuple : mg "tuple" = none
end Y
namespace Y
open PySem PySem.Spec PyProof.Rows L2
section
variable {P : Program} {w : World} {K : PySem.W.Frag} {mg : Str → Option Value} {base : Heap}
theorem ok_neighbour_lists (T : Txt K mg) : FnOk P w K mg base CX0 1 T.a_neighbour_lists T.fd_neighbour_lists ["tree"] (sp_neighbour_lists K) := by
  refine T.F_neighbour_lists.ok sc_neighbour_lists (fun vs H Q E h => ?_) (fun cdv A outer s H vs Q E hr h => ?_)
  · obtain ⟨L, tv, t, rfl, _⟩ := h
    rfl
  · obtain ⟨L, tv, t, rfl, hT, O, dt, q⟩ := h
    obtain ⟨a, b, c, ps, rfl, ha, hb, hc, hp⟩ := dp_tr.mp (dp_mono (wo_le _ _) dt)
    have hn := O.few
    have ew : (iV t.ws).length = t.n := iV_len _
    refine ⟨_, (pss_cons (ps_setLc (i := 1) (own := [("_", 4)]) rfl sc_neighbour_lists.nd rfl rfl (sw_true rfl rfl rfl (by decide +kernel)) (pi_range1 rfl T.z_range (pa_cons (pe_callB (call_lenK K rfl) (by rfl) T.z_len PySem.boot_len (pa_cons (pe_ix (ix_tupK K rfl) (pv 0) pe_int (fun _ _ => rfl)) pa_nil)) pa_nil)) (blkOk_by (own := [("_", 4)]) (N := ["tree", "lists", "i", "j", "_"]) (sc := defScope s_neighbour_lists) (by decide +kernel)) (fun _ _ _ _ _ => (pg_name (i := 4) sc_neighbour_lists.nd rfl (Or.inl rfl))) (fun _ _ _ _ _ => pts_nil) (fun _ _ _ _ _ => (pe_lst pa_nil)))
      (pss_cons (ps_for PassesOwn.never rfl (pi_tup (pe_ix (ix_tupK K rfl) (pv 0) pe_int (fun _ _ => rfl))) (pg_tupK K rfl (n := 2) rfl (pgs_cons (pg_name (i := 2) sc_neighbour_lists.nd rfl (Or.inl rfl)) (pgs_cons (pg_name (i := 3) sc_neighbour_lists.nd rfl (Or.inl rfl)) pgs_nil)))
        (pss_cons (ps_expr (pe_bmK K rfl PySem.F.plainAttrs_list PySem.F.slot_list_append PySem.F.type_list_append mt_append (pe_ix (ix_listK K rfl) (pv 1) (pv 2) (fun _ _ => rfl)) (pa_cons (pv 3) pa_nil)))
        (pss_one (ps_expr (pe_bmK K rfl PySem.F.plainAttrs_list PySem.F.slot_list_append PySem.F.type_list_append mt_append (pe_ix (ix_listK K rfl) (pv 1) (pv 3) (fun _ _ => rfl)) (pa_cons (pv 2) pa_nil))))))
      (pss_one (ps_ret (pv 1))))), ?_⟩
    refine ⟨.ref a, rfl, a, _, _, _, rfl, rfl, ha, atI_nat (j := 0) rfl, b, _, rfl, .inr hb, _, rfl, by omega, by omega, fun D hD => ?_⟩
    refine lc_range (lo := 0) (n := (iV t.ws).length) (fun i H' => ∃ qs, LL H H' D qs (List.replicate i [])) ⟨[], same_new hD _, hD, upd_same, .nil, by simp, by simp, rfl, by simp⟩ ?_ ?_
    · rintro i H' hi ⟨qs, l⟩
      refine ⟨rfl, Nat.zero_le _, fun p np => ⟨qs.map V.ref, ?_, ?_, qs ++ [p], ?_⟩⟩
      · rw [upd_ne (ne_of_none l.d np)]
        exact l.d
      · rw [List.length_map, l.len, List.length_replicate]
        exact szl (by omega)
      · have := l.new np
        rw [show List.replicate i ([] : List Nat) ++ [[]] = List.replicate (i + 1) [] by rw [List.replicate_succ']] at this
        exact this
    · rintro H1 ⟨qs, l⟩
      rw [ew] at l
      refine ⟨.ref a, rfl, a, _, _, _, rfl, rfl, l.s.tup ha, atI_nat (j := 1) rfl, c, rfl, ⟨_, l.s.tup hc⟩, ?_⟩
      refine for_tup (xs := ps) (fun k σ H' => (∃ y2 y3, σ = [some (.ref a), some (.ref D), y2, y3, none]) ∧ ∃ qs, LL H H' D qs ((List.range t.n).map (nb (t.ties.take k)))) ⟨⟨none, none, rfl⟩, qs, ?_⟩ (fun i σ H' hi ⟨_, _, l'⟩ => l'.s.tup hc) ?_ ?_
      · have e : (List.range t.n).map (nb (t.ties.take 0)) = List.replicate t.n [] := by
          rw [List.take_zero, List.eq_replicate_iff]
          refine ⟨by simp, fun b hb => ?_⟩
          obtain ⟨v, _, rfl⟩ := List.mem_map.mp hb
          rfl
        rw [e]
        exact l
      · rintro k x σ H' hx ⟨⟨y2, y3, rfl⟩, qs, l⟩
        obtain ⟨d, hd, hx2⟩ := hp.getV hx
        rw [List.getElem?_map] at hd
        cases ep : t.ties[k]? with
        | none => rw [ep] at hd; cases hd
        | some p =>
          rw [ep] at hd
          cases hd
          obtain ⟨at1, rfl, hpr⟩ := dp_pr.mp (dp_mono l.s hx2)
          obtain ⟨i, j⟩ := p
          have hb := O.inb (i, j) (List.mem_of_getElem? ep)
          simp only at hb hpr
          have l1 : LL H H' D qs ((List.range t.n).map (nb (t.ties.take k))) := l
          have lq : qs.length = t.n := by rw [l1.len]; simp
          obtain ⟨qi, hqi⟩ : ∃ q, qs[i]? = some q := ⟨_, List.getElem?_eq_getElem (show i < qs.length by omega)⟩
          obtain ⟨qj, hqj⟩ : ∃ q, qs[j]? = some q := ⟨_, List.getElem?_eq_getElem (show j < qs.length by omega)⟩
          have ci : ((List.range t.n).map (nb (t.ties.take k)))[i]? = some (nb (t.ties.take k) i) := by simp [show i < t.n by omega]
          have l2 := l1.app hqi ci j
          have cj : (((List.range t.n).map (nb (t.ties.take k))).set i (nb (t.ties.take k) i ++ [j]))[j]? = some (nb (t.ties.take k) j) := by
            rw [List.getElem?_set_ne (by omega)]
            simp [show j < t.n by omega]
          have l3 := l2.app hqj cj i
          rw [cs_step _ (by omega) (by omega) (by omega)] at l3
          have et : t.ties.take k ++ [(i, j)] = t.ties.take (k + 1) := by rw [List.take_add_one, ep]; rfl
          rw [et] at l3
          have z1 : (nb (t.ties.take k) i).length < sizeLine := szl (Nat.lt_of_le_of_lt (List.length_filterMap_le _ _) (by rw [List.length_take]; have := O.fewT; omega))
          have z2 : (nb (t.ties.take k) j).length < sizeLine := szl (Nat.lt_of_le_of_lt (List.length_filterMap_le _ _) (by rw [List.length_take]; have := O.fewT; omega))
          refine ⟨at1, _, rfl, hpr, rfl, _, _, rfl, _, _, rfl, rfl, ?_⟩
          refine ⟨_, rfl, _, rfl, D, _, _, .ref qi, rfl, rfl, .inl (.inl l1.d), atI_nat (j := i) (by rw [List.getElem?_map, hqi]; rfl), .inl ⟨rfl, _, .inl (.inl (l1.cat i qi _ hqi ci))⟩, _, rfl, qi, _, _, rfl, rfl, l1.cat i qi _ hqi ci, by rw [nV_len]; exact z1, ?_⟩
          refine ⟨_, rfl, _, rfl, D, _, _, .ref qj, rfl, rfl, .inl (.inl l2.d), atI_nat (j := j) (by rw [List.getElem?_map, hqj]; rfl), .inl ⟨rfl, _, .inl (.inl (l2.cat j qj _ hqj cj))⟩, _, rfl, qj, _, _, rfl, rfl, l2.cat j qj _ hqj cj, by rw [nV_len]; exact z2, ?_⟩
          exact ⟨⟨_, _, rfl⟩, qs, l3⟩
      · rintro σ H' ⟨⟨y2, y3, rfl⟩, qs, l⟩
        refine ⟨.ref D, rfl, q _ _ l.s ?_⟩
        have e := hp.length
        rw [List.length_map] at e
        rw [e, List.take_of_length_le (Nat.le_refl _)] at l
        exact l.dp hT

end
end Y
namespace Y
open PySem PySem.Spec PyProof.Rows L2
section
variable {P : Program} {w : World} {K : PySem.W.Frag} {mg : Str → Option Value} {base : Heap}
theorem ok_tie_of (T : Txt K mg) : FnOk P w K mg base CX0 1 T.a_tie_of T.fd_tie_of ["i", "j"] (sp_tie_of K) := by
  refine T.F_tie_of.ok sc_tie_of (fun vs H Q E h => ?_) (fun cdv A outer s H vs Q E hr h => ?_)
  · obtain ⟨L, i, j, rfl, _⟩ := h
    rfl
  · obtain ⟨L, i, j, rfl, hT, q⟩ := h
    refine ⟨_, (pss_cons (ps_if (pt_cmpR op_lt (pv 0) (pv 1) (nomark _))
        (pss_one (ps_ret (pe_tup (pa_cons (pv 0) (pa_cons (pv 1) pa_nil)))))
        pss_nil)
      (pss_one (ps_ret (pe_tup (pa_cons (pv 1) (pa_cons (pv 0) pa_nil)))))), ?_⟩
    refine ⟨_, rfl, _, rfl, _, _, rfl, rfl, _, rfl, ?_⟩
    refine ite2 (fun c => ?_) (fun c => ?_)
    · have c' := of_decide_eq_true c
      refine ⟨_, rfl, _, rfl, (by show 2 ≤ sizeLine; decide), fun p hp => ?_⟩
      have e : mk2 i j = (i, j) := by unfold mk2; rw [Nat.min_eq_left (by omega), Nat.max_eq_right (by omega)]
      rw [e] at q
      exact q _ _ (same_new hp _) (pr_new hT hp i j)
    · have c' := of_decide_eq_false (Bool.eq_false_iff.mpr c)
      refine ⟨_, rfl, _, rfl, (by show 2 ≤ sizeLine; decide), fun p hp => ?_⟩
      have e : mk2 i j = (j, i) := by unfold mk2; rw [Nat.min_eq_right (by omega), Nat.max_eq_left (by omega)]
      rw [e] at q
      exact q _ _ (same_new hp _) (pr_new hT hp j i)

end
end Y
namespace Y
open PySem PySem.Spec PyProof.Rows L2
section
variable {P : Program} {w : World} {K : PySem.W.Frag} {mg : Str → Option Value} {base : Heap}
theorem ok_law_draw (T : Txt K mg) : FnOk P w K mg base CX0 1 T.a_law_draw T.fd_law_draw ["m", "bound"] (sp_law_draw K) := by
  refine T.F_law_draw.ok sc_law_draw (fun vs H Q E h => ?_) (fun cdv A outer s H vs Q E hr h => ?_)
  · obtain ⟨m, c, cs, b, n, rfl, _⟩ := h
    rfl
  · obtain ⟨m, c, cs, b, n, rfl, M, hb, h0, h1, q⟩ := h
    obtain ⟨left, seed, spot, em, p0, p1⟩ := M.d
    have nmc := M.nmc
    refine ⟨_, (pss_cons (ps_if (pt_cmpR op_gt (pe_dget (hu_of hr) (pv 0) pe_str (fun _ _ => rfl)) pe_int (nomark _))
        (pss_cons (ps_set (i := 2) sc_law_draw.nd rfl (Or.inl rfl) (pe_op op_modN (pe_callTy call_int1 (by rfl) T.z_int (by decide +kernel) (pa_cons (pe_dget (hu_of hr) (pv 0) pe_str (fun _ _ => rfl)) pa_nil)) (pv 1)))
        (pss_cons (ps_dput (hu_of hr) (pv 0) pe_str (pe_op op_fdivN (pe_dget (hu_of hr) (pv 0) pe_str (fun _ _ => rfl)) (pv 1)) rfl)
        (pss_one (ps_ret (pv 2)))))
        pss_nil)
      (pss_cons (ps_set (i := 3) sc_law_draw.nd rfl (Or.inl rfl) (pe_dget (hu_of hr) (pv 0) pe_str (fun _ _ => rfl)))
      (pss_cons (ps_dput (hu_of hr) (pv 0) pe_str (pe_op op_add (pv 3) pe_int) rfl)
      (pss_cons (ps_par (by rfl) sc_law_draw.nd (i := 4) (j := 5) rfl rfl (by decide) rfl rfl (pa_cons (pe_dget (hu_of hr) (pv 0) pe_str (fun _ _ => rfl)) (pa_cons (pe_op op_add (pe_dget (hu_of hr) (pv 0) pe_str (fun _ _ => rfl)) (pe_op op_mul (pe_op op_mul pe_int (pv 3)) (pv 3))) pa_nil)) (by rfl))
      (pss_cons (ps_set (i := 6) sc_law_draw.nd rfl (Or.inl rfl) (pe_ix (ix_listK K rfl) (pv 4) (pe_op op_modN (pe_callTy call_int1 (by rfl) T.z_int (by decide +kernel) (pa_cons (pv 3) pa_nil)) (pe_callB (call_lenK K rfl) (by rfl) T.z_len PySem.boot_len (pa_cons (pv 4) pa_nil))) (fun _ _ => rfl)))
      (pss_cons (ps_set (i := 7) sc_law_draw.nd rfl (Or.inl rfl) (pe_op op_modN (pe_callTy call_int1 (by rfl) T.z_int (by decide +kernel) (pa_cons (pe_op op_add (pe_op op_mul (pv 6) (pe_op op_add (pe_op op_mul pe_int (pv 3)) pe_int)) (pv 5)) pa_nil)) pe_int))
      (pss_cons (ps_set (i := 7) sc_law_draw.nd rfl (Or.inl rfl) (pe_op op_modN (pe_callTy call_int1 (by rfl) T.z_int (by decide +kernel) (pa_cons (pe_op op_add (pe_op op_add (pe_op op_mul (pv 7) (pv 7)) (pe_op op_mul pe_int (pv 3))) (pe_dget (hu_of hr) (pv 0) pe_str (fun _ _ => rfl))) pa_nil)) pe_int))
      (pss_one (ps_ret (pe_op op_modN (pe_op op_fdivN (pe_op op_modN (pe_callTy call_int1 (by rfl) T.z_int (by decide +kernel) (pa_cons (pe_op op_add (pe_op op_mul (pv 7) pe_int) (pv 3)) pa_nil)) pe_int) pe_int) (pv 1))))))))))), ?_⟩
    refine ⟨_, rfl, m, _, rfl, getL em, _, _, rfl, rfl, _, rfl, ?_⟩
    refine ite2 (fun _ => ?_) (fun _ => ?_)
    · refine ⟨_, rfl, m, _, rfl, getL em, .inl ⟨_, rfl, _, rfl, _, _, rfl, rfl, by omega, ?_⟩⟩
      refine ⟨_, rfl, m, _, rfl, getL em, _, rfl, _, _, rfl, rfl, ⟨by omega, by omega⟩, _, rfl, m, _, rfl, putL em _, ?_⟩
      obtain ⟨f0, f1⟩ := fmod_b (x := left) h0
      exact ⟨_, rfl, q _ _ f0 f1 (sameM_upd _) ⟨⟨_, _, _, upd_same, p0, by omega⟩, by rw [upd_ne nmc.symm]; exact M.c, M.ne, M.few, by omega⟩⟩
    · refine ⟨_, rfl, m, _, rfl, getP em, ?_⟩
      refine ⟨_, rfl, _, _, rfl, rfl, _, rfl, m, _, rfl, putP em _, ?_⟩
      have e2 : (upd H m (mD left seed (spot + 1) c)) m = some (mD left seed (spot + 1) c) := upd_same
      have c2 : (upd H m (mD left seed (spot + 1) c)) c = some (.lst (iV cs)) := by rw [upd_ne nmc.symm]; exact M.c
      have lim := M.lim
      have h64 : (2 : Int) ^ 64 = 18446744073709551616 := by decide
      have k1 : 0 ≤ 40503 * spot ∧ 40503 * spot < 18446744073709551616 := by omega
      have lc : (iV cs).length = cs.length := iV_len _
      have few := M.few
      have ne := M.ne
      refine ⟨_, rfl, m, _, rfl, getC e2, _, rfl, m, _, rfl, getS e2, _, rfl, _, _, rfl, rfl, .inl ⟨by decide, by decide⟩, _, rfl, _, _, rfl, rfl, .inl ⟨by omega, by omega⟩, _, _, rfl, rfl, _, _, rfl, ?_⟩
      obtain ⟨f0, f1⟩ := fmod_b (x := spot) (n := ((iV cs).length : Int)) (by omega)
      obtain ⟨x, hx⟩ : ∃ x, cs[(spot.fmod ((iV cs).length : Int)).toNat]? = some x := ⟨_, List.getElem?_eq_getElem (show (spot.fmod ((iV cs).length : Int)).toNat < cs.length by omega)⟩
      refine ⟨_, rfl, _, rfl, .inl ⟨_, rfl, _, rfl, c, _, rfl, .inl (.inl (.inl c2)), _, _, rfl, rfl, by omega, c, _, _, .int x, rfl, rfl, .inl (.inl c2), at_of (j := (spot.fmod ((iV cs).length : Int)).toNat) (by omega) (iV_at hx), ?_⟩⟩
      have k2 : -(2 ^ 64) < 2 * spot + 3 ∧ 2 * spot + 3 < 2 ^ 64 := by rw [h64]; omega
      refine ⟨_, rfl, _, rfl, _, _, rfl, rfl, .inl ⟨by decide, by decide⟩, _, _, rfl, rfl, _, _, rfl, rfl, .inr k2, _, rfl, _, _, rfl, rfl, .inl ⟨_, rfl, _, _, rfl, rfl, (by show (2147483647 : Int) ≠ 0; decide), ?_⟩⟩
      obtain ⟨g0, g1⟩ := fmod_b (x := x * (2 * spot + 3) + (seed + 40503 * spot * spot)) (n := 2147483647) (by decide)
      refine ⟨_, rfl, _, rfl, _, _, rfl, rfl, .inl ⟨by omega, by omega⟩, _, rfl, _, _, rfl, rfl, .inl ⟨by decide, by decide⟩, _, _, rfl, rfl, _, rfl, m, _, rfl, getS e2, _, _, rfl, rfl, .inl ⟨_, rfl, _, _, rfl, rfl, (by show (2147483629 : Int) ≠ 0; decide), ?_⟩⟩
      obtain ⟨l0, l1⟩ := fmod_b (x := (x * (2 * spot + 3) + (seed + 40503 * spot * spot)).fmod 2147483647 * (x * (2 * spot + 3) + (seed + 40503 * spot * spot)).fmod 2147483647 + 69621 * spot + seed) (n := 2147483629) (by decide)
      refine ⟨_, rfl, _, _, rfl, rfl, .inl ⟨by omega, by omega⟩, _, rfl, _, _, rfl, rfl, .inl ⟨_, rfl, _, _, rfl, rfl, (by show (2147483647 : Int) ≠ 0; decide), _, _, rfl, rfl, ⟨by decide, by decide⟩, _, rfl, _, _, rfl, rfl, by omega, ?_⟩⟩
      obtain ⟨r0, r1⟩ := fmod_b (x := ((((x * (2 * spot + 3) + (seed + 40503 * spot * spot)).fmod 2147483647 * (x * (2 * spot + 3) + (seed + 40503 * spot * spot)).fmod 2147483647 + 69621 * spot + seed).fmod 2147483629 * 48271 + spot).fmod 2147483647).fdiv 11) h0
      exact q _ _ r0 r1 (sameM_upd _) ⟨⟨_, _, _, e2, by omega, by omega⟩, c2, M.ne, M.few, by omega⟩

end
end Y
namespace Y
open PySem PySem.Spec PyProof.Rows L2
section
variable {P : Program} {w : World} {K : PySem.W.Frag} {mg : Str → Option Value} {base : Heap}
theorem ok_law_made (T : Txt K mg) : FnOk P w K mg base CX0 1 T.a_law_made T.fd_law_made ["weights", "ties"] (sp_law_made K) := by
  refine T.F_law_made.ok sc_law_made (fun vs H Q E h => ?_) (fun cdv A outer s H vs Q E hr h => ?_)
  · obtain ⟨L, wv, tv, ws, ties, rfl, _⟩ := h
    rfl
  · obtain ⟨L, wv, tv, ws, ties, rfl, hT, dw, dt, hn, q⟩ := h
    obtain ⟨a, rfl, ha⟩ := dp_intsL.mp dw
    obtain ⟨b, ps, rfl, hb, hp⟩ := dp_lst dt
    refine ⟨_, (pss_one (ps_ret (pe_tup (pa_cons (pe_callTy (call_tupK K rfl) (by rfl) T.z_tuple (by decide +kernel) (pa_cons (pv 0) pa_nil)) (pa_cons (pe_callTy (call_tupK K rfl) (by rfl) T.z_tuple (by decide +kernel) (pa_cons (pe_callB (cr_sortedDK K rfl) (by rfl) T.z_sorted (by decide +kernel) (pa_cons (pe_lc (own := [("i", 2), ("j", 3)]) rfl sc_law_made.nd (pi_list (pv 1)) (blkOk_by (own := [("i", 2), ("j", 3)]) (N := ["weights", "ties", "i", "j"]) (sc := defScope s_law_made) (by decide +kernel)) (fun _ _ _ _ _ => (pg_tupK K rfl (n := 2) rfl (pgs_cons (pg_name (i := 2) sc_law_made.nd rfl (Or.inl rfl)) (pgs_cons (pg_name (i := 3) sc_law_made.nd rfl (Or.inl rfl)) pgs_nil)))) (fun _ _ _ _ _ => pts_nil) (fun _ _ _ _ _ => (pe_tup (pa_cons (pe_callB (call_min2 rfl) (by rfl) T.z_min (by decide +kernel) (pa_cons (pv 2) (pa_cons (pv 3) pa_nil))) (pa_cons (pe_callB (call_max2 rfl) (by rfl) T.z_max (by decide +kernel) (pa_cons (pv 2) (pa_cons (pv 3) pa_nil))) pa_nil))))) pa_nil)) pa_nil)) pa_nil))))), ?_⟩
    refine ⟨_, rfl, a, _, rfl, .inl ⟨(wo_le _ _).seq ha, fun p hp1 => ?_⟩⟩
    have s1 : Same H (upd H p (.tup (iV ws))) := same_new hp1 _
    have d1 : Dp K (wo (upd H p (.tup (iV ws))) L) (.ref p) (.tuple (iD ws)) := tup_new hT hp1 (dpAll_ints.mpr rfl)
    refine ⟨_, rfl, b, rfl, ⟨ps, (s1.seq ((wo_le _ _).seq hb))⟩, ?_⟩
    have lp : ps.length = ties.length := by rw [hp.length, List.length_map]
    refine lcw (K := K) walk_list L (fun i => (ties[i]?).map fun p => pr (mk2 p.1 p.2)) (by rw [lp]; omega) (hT.mono s1) (fun H' s => s.seq (s1.seq ((wo_le _ _).seq hb))) ?_ ?_
    · rintro D i x H2 H3 R R0 hi s2 hT2 ⟨rfl, hx⟩ hR hR0
      obtain ⟨d, hd, hx2⟩ := hp.getV hx
      rw [List.getElem?_map] at hd
      cases ep : ties[i]? with
      | none => rw [ep] at hd; cases hd
      | some t =>
        rw [ep] at hd
        cases hd
        obtain ⟨e, rfl, he⟩ := dp_pr.mp hx2
        obtain ⟨u, v⟩ := t
        refine ⟨e, _, rfl, (s1.trans s2).tup ((wo_le _ _).tup he), rfl, _, _, rfl, _, _, rfl, rfl, rfl, ?_⟩
        refine ⟨_, rfl, _, rfl, _, _, rfl, _, rfl, _, rfl, _, _, rfl, (by show 2 ≤ sizeLine; decide), fun p3 hp3 => ?_⟩
        have e1 : (if (v : Int) < u then (v : Int) else u) = ((min u v : Nat) : Int) := by
          split <;> omega
        have e2 : (if (v : Int) > u then (v : Int) else u) = ((max u v : Nat) : Int) := by
          split <;> omega
        show R (.ref p3) (upd H3 p3 (.tup [.int (if (v : Int) < u then (v : Int) else u), .int (if (v : Int) > u then (v : Int) else u)]))
        rw [e1, e2]
        refine hR _ _ (pr (mk2 u v)) (by rw [ep]; rfl) (same_new hp3 _) (pr_new hT2 hp3 _ _)
    · intro D H2 ys hD s2 hy ha2
      have ef : (List.range ps.length).filterMap (fun i => (ties[i]?).map fun p => pr (mk2 p.1 p.2)) = (ties.map fun p => mk2 p.1 p.2).map pr := by
        rw [lp, List.map_map]
        exact range_get_all _ _
      rw [ef] at ha2
      refine ⟨D, ys, wo H2 L, _, rfl, .inl (.inl hy), wo_le _ _, dpAll_mono wo_cons_le ha2, fun zs p2 dz hp2 => ?_⟩
      have s3 := same_new hp2 (.lst zs)
      have hT2 := hT.mono (s1.trans s2)
      refine ⟨p2, zs, rfl, .inl ⟨.inl (.inl upd_same), fun p3 hp3 => ?_⟩⟩
      have s4 := same_new hp3 (.tup zs)
      refine ⟨(by show 2 ≤ sizeLine; decide), fun p4 hp4 => ?_⟩
      have d2 : Dp K (wo (upd (upd H2 p2 (.lst zs)) p3 (.tup zs)) L) (.ref p3) (.tuple ((sortP (ties.map fun p => mk2 p.1 p.2)).map pr)) := tup_new (hT2.mono s3) hp3 (dpAll_mono (wo_mono s3) dz)
      refine q _ _ ((((s1.trans s2).trans s3).trans s4).trans (same_new hp4 _)) (tup_new ((hT2.mono s3).mono s4) hp4 (.cons (dp_mono (wo_mono (s2.trans (s3.trans s4))) d1) (.cons d2 .nil)))

end
end Y
namespace Y
open PySem PySem.Spec PyProof.Rows L2
section
variable {P : Program} {w : World} {K : PySem.W.Frag} {mg : Str → Option Value} {base : Heap}
theorem ok_law_near (T : Txt K mg) : FnOk P w K mg base CX0 1 T.a_law_near T.fd_law_near ["tree"] (sp_law_near K) := by
  refine T.F_law_near.ok sc_law_near (fun vs H Q E h => ?_) (fun cdv A outer s H vs Q E hr h => ?_)
  · obtain ⟨L, tv, t, rfl, _⟩ := h
    rfl
  · obtain ⟨L, tv, t, rfl, hT, O, dt, q⟩ := h
    obtain ⟨a, b, c, ps, rfl, ha, hb, hc, hp⟩ := dp_tr.mp (dp_mono (wo_le _ _) dt)
    have hn := O.few
    have ew : (iV t.ws).length = t.n := iV_len _
    refine ⟨_, (pss_cons (ps_setLc (i := 1) (own := [("weight", 4)]) rfl sc_law_near.nd rfl rfl (sw_true rfl rfl rfl (by decide +kernel)) (pi_tup (pe_ix (ix_tupK K rfl) (pv 0) pe_int (fun _ _ => rfl))) (blkOk_by (own := [("weight", 4)]) (N := ["tree", "found", "i", "j", "weight", "row"]) (sc := defScope s_law_near) (by decide +kernel)) (fun _ _ _ _ _ => (pg_name (i := 4) sc_law_near.nd rfl (Or.inl rfl))) (fun _ _ _ _ _ => pts_nil) (fun _ _ _ _ _ => (pe_lst pa_nil)))
      (pss_cons (ps_for PassesOwn.never rfl (pi_tup (pe_ix (ix_tupK K rfl) (pv 0) pe_int (fun _ _ => rfl))) (pg_tupK K rfl (n := 2) rfl (pgs_cons (pg_name (i := 2) sc_law_near.nd rfl (Or.inl rfl)) (pgs_cons (pg_name (i := 3) sc_law_near.nd rfl (Or.inl rfl)) pgs_nil)))
        (pss_cons (ps_expr (pe_bmK K rfl PySem.F.plainAttrs_list PySem.F.slot_list_append PySem.F.type_list_append mt_append (pe_ix (ix_listK K rfl) (pv 1) (pv 2) (fun _ _ => rfl)) (pa_cons (pv 3) pa_nil)))
        (pss_one (ps_expr (pe_bmK K rfl PySem.F.plainAttrs_list PySem.F.slot_list_append PySem.F.type_list_append mt_append (pe_ix (ix_listK K rfl) (pv 1) (pv 3) (fun _ _ => rfl)) (pa_cons (pv 2) pa_nil))))))
      (pss_one (ps_ret (pe_lc (own := [("row", 5)]) rfl sc_law_near.nd (pi_list (pv 1)) (blkOk_by (own := [("row", 5)]) (N := ["tree", "found", "i", "j", "weight", "row"]) (sc := defScope s_law_near) (by decide +kernel)) (fun _ _ _ _ _ => (pg_name (i := 5) sc_law_near.nd rfl (Or.inl rfl))) (fun _ _ _ _ _ => pts_nil) (fun _ _ _ _ _ => (pe_callB (cr_sortedIK K rfl) (by rfl) T.z_sorted (by decide +kernel) (pa_cons (pv 5) pa_nil)))))))), ?_⟩
    refine ⟨.ref a, rfl, a, _, _, _, rfl, rfl, ha, atI_nat (j := 0) rfl, b, rfl, ⟨_, hb⟩, fun D hD => ?_⟩
    refine lc_it walk_tup (fun i H' => ∃ qs, LL H H' D qs (List.replicate i [])) ⟨[], same_new hD _, hD, upd_same, .nil, by simp, by simp, rfl, by simp⟩ (fun i H' _ ⟨_, l⟩ => l.s.tup hb) ?_ ?_
    · rintro i x H' H'' hi ⟨qs, l⟩ ⟨rfl, _⟩
      refine ⟨rfl, Nat.zero_le _, fun p np => ⟨qs.map V.ref, ?_, ?_, qs ++ [p], ?_⟩⟩
      · rw [upd_ne (ne_of_none l.d np)]
        exact l.d
      · rw [List.length_map, l.len, List.length_replicate]
        exact szl (by omega)
      · have := l.new np
        rw [show List.replicate i ([] : List Nat) ++ [[]] = List.replicate (i + 1) [] by rw [List.replicate_succ']] at this
        exact this
    · rintro H1 ⟨qs, l⟩
      rw [ew] at l
      refine ⟨.ref a, rfl, a, _, _, _, rfl, rfl, l.s.tup ha, atI_nat (j := 1) rfl, c, rfl, ⟨_, l.s.tup hc⟩, ?_⟩
      refine for_tup (xs := ps) (fun k σ H' => (∃ y2 y3, σ = [some (.ref a), some (.ref D), y2, y3, none, none]) ∧ ∃ qs, LL H H' D qs ((List.range t.n).map (nb (t.ties.take k)))) ⟨⟨none, none, rfl⟩, qs, ?_⟩ (fun i σ H' hi ⟨_, _, l'⟩ => l'.s.tup hc) ?_ ?_
      · have e : (List.range t.n).map (nb (t.ties.take 0)) = List.replicate t.n [] := by
          rw [List.take_zero, List.eq_replicate_iff]
          refine ⟨by simp, fun b hb => ?_⟩
          obtain ⟨v, _, rfl⟩ := List.mem_map.mp hb
          rfl
        rw [e]
        exact l
      · rintro k x σ H' hx ⟨⟨y2, y3, rfl⟩, qs, l⟩
        obtain ⟨d, hd, hx2⟩ := hp.getV hx
        rw [List.getElem?_map] at hd
        cases ep : t.ties[k]? with
        | none => rw [ep] at hd; cases hd
        | some p =>
          rw [ep] at hd
          cases hd
          obtain ⟨at1, rfl, hpr⟩ := dp_pr.mp (dp_mono l.s hx2)
          obtain ⟨i, j⟩ := p
          have hb := O.inb (i, j) (List.mem_of_getElem? ep)
          simp only at hb hpr
          have l1 : LL H H' D qs ((List.range t.n).map (nb (t.ties.take k))) := l
          have lq : qs.length = t.n := by rw [l1.len]; simp
          obtain ⟨qi, hqi⟩ : ∃ q, qs[i]? = some q := ⟨_, List.getElem?_eq_getElem (show i < qs.length by omega)⟩
          obtain ⟨qj, hqj⟩ : ∃ q, qs[j]? = some q := ⟨_, List.getElem?_eq_getElem (show j < qs.length by omega)⟩
          have ci : ((List.range t.n).map (nb (t.ties.take k)))[i]? = some (nb (t.ties.take k) i) := by simp [show i < t.n by omega]
          have l2 := l1.app hqi ci j
          have cj : (((List.range t.n).map (nb (t.ties.take k))).set i (nb (t.ties.take k) i ++ [j]))[j]? = some (nb (t.ties.take k) j) := by
            rw [List.getElem?_set_ne (by omega)]
            simp [show j < t.n by omega]
          have l3 := l2.app hqj cj i
          rw [cs_step _ (by omega) (by omega) (by omega)] at l3
          have et : t.ties.take k ++ [(i, j)] = t.ties.take (k + 1) := by rw [List.take_add_one, ep]; rfl
          rw [et] at l3
          have z1 : (nb (t.ties.take k) i).length < sizeLine := szl (Nat.lt_of_le_of_lt (List.length_filterMap_le _ _) (by rw [List.length_take]; have := O.fewT; omega))
          have z2 : (nb (t.ties.take k) j).length < sizeLine := szl (Nat.lt_of_le_of_lt (List.length_filterMap_le _ _) (by rw [List.length_take]; have := O.fewT; omega))
          refine ⟨at1, _, rfl, hpr, rfl, _, _, rfl, _, _, rfl, rfl, ?_⟩
          refine ⟨_, rfl, _, rfl, D, _, _, .ref qi, rfl, rfl, .inl (.inl l1.d), atI_nat (j := i) (by rw [List.getElem?_map, hqi]; rfl), .inl ⟨rfl, _, .inl (.inl (l1.cat i qi _ hqi ci))⟩, _, rfl, qi, _, _, rfl, rfl, l1.cat i qi _ hqi ci, by rw [nV_len]; exact z1, ?_⟩
          refine ⟨_, rfl, _, rfl, D, _, _, .ref qj, rfl, rfl, .inl (.inl l2.d), atI_nat (j := j) (by rw [List.getElem?_map, hqj]; rfl), .inl ⟨rfl, _, .inl (.inl (l2.cat j qj _ hqj cj))⟩, _, rfl, qj, _, _, rfl, rfl, l2.cat j qj _ hqj cj, by rw [nV_len]; exact z2, ?_⟩
          exact ⟨⟨_, _, rfl⟩, qs, l3⟩
      · rintro σ H' ⟨⟨y2, y3, rfl⟩, qs, l⟩
        have e := hp.length
        rw [List.length_map] at e
        rw [e, List.take_of_length_le (Nat.le_refl _)] at l
        have l : LL H H' D qs (nbs t) := l
        refine ⟨_, rfl, D, rfl, ⟨_, .inl (.inl l.d)⟩, ?_⟩
        have lq : qs.length = t.n := by rw [l.len, nbs_len]
        refine lcw (K := K) walk_list L (fun i => ((nbs t)[i]?).map fun ns => .list (nD ns)) (by rw [List.length_map, lq]; omega) (hT.mono l.s) (fun H2 s => .inl (.inl (s _ _ l.d))) ?_ ?_
        · rintro E i x H2 H3 R R0 hi s2 hT2 ⟨rfl, hx⟩ hR hR0
          rw [List.length_map, lq] at hi
          have hq : qs[i]? = some qs[i] := List.getElem?_eq_getElem (by omega)
          rw [List.getElem?_map, hq] at hx
          cases hx
          have hc := s2 _ _ (l.cat i _ _ hq (nbs_get hi))
          refine ⟨rfl, _, rfl, qs[i], (nb t.ties i).map (fun (n : Nat) => (n : Int)), rfl, .inl (.inl (by rw [hc, nV_eq]; rfl)), fun ns' p hpm hso hp2 => ?_⟩
          rw [sorted_nats hpm hso (nb_asc O i)]
          refine hR _ _ (.list (nD (nb t.ties i))) (by rw [nbs_get hi]; rfl) (same_new hp2 _) ?_
          exact lst_new hT2 hp2 (dpAll_nats.mpr (by rw [nV_eq]; rfl))
        · intro E H2 ys hE s2 hy ha2
          rw [List.length_map, lq, ← nbs_len (t := t), range_get_all] at ha2
          exact q _ _ (l.s.trans s2) (made_lst (hT.mono l.s) hE s2 hy ha2)

end
end Y
namespace Y
open PySem PySem.Spec PyProof.Rows L2
section
variable {P : Program} {w : World} {K : PySem.W.Frag} {mg : Str → Option Value} {base : Heap}
theorem ok_law_begun (T : Txt K mg) : FnOk P w K mg base CX0 1 T.a_law_begun T.fd_law_begun ["script", "k"] (sp_law_begun K) := by
  refine T.F_law_begun.ok sc_law_begun (fun vs H Q E h => ?_) (fun cdv A outer s H vs Q E hr h => ?_)
  · obtain ⟨a, ns, k, rfl, _⟩ := h
    rfl
  · obtain ⟨a, ns, k, rfl, hs, hl, hk, q⟩ := h
    refine ⟨_, (pss_cons (ps_set (i := 2) sc_law_begun.nd rfl (Or.inl rfl) (pe_op op_cat (pe_slice (sl_listK K rfl) (pv 0) (po_some (pv 1)) po_none) (pe_slice (sl_listK K rfl) (pv 0) po_none (po_some (pv 1)))))
      (pss_cons (ps_setLc (i := 3) (own := [("cell", 5)]) rfl sc_law_begun.nd rfl rfl (sw_true rfl rfl rfl (by decide +kernel)) (pi_list (pv 2)) (blkOk_by (own := [("cell", 5)]) (N := ["script", "k", "cells", "great", "seed", "cell"]) (sc := defScope s_law_begun) (by decide +kernel)) (fun _ _ _ _ _ => (pg_name (i := 5) sc_law_begun.nd rfl (Or.inl rfl))) (fun _ _ _ _ _ => pts_one (pt_cmpR op_ge (pv 5) (pe_op op_pow pe_int pe_int) (nomark _))) (fun _ _ _ _ _ => (pv 5)))
      (pss_cons (ps_set (i := 4) sc_law_begun.nd rfl (Or.inl rfl) (pe_op op_add pe_int (pv 1)))
      (pss_cons (ps_for PassesOwn.never rfl (pi_list (pv 2)) (pg_name (i := 5) sc_law_begun.nd rfl (Or.inl rfl))
        (pss_one (ps_set (i := 4) sc_law_begun.nd rfl (Or.inl rfl) (pe_op op_modN (pe_callTy call_int1 (by rfl) T.z_int (by decide +kernel) (pa_cons (pe_op op_add (pe_op op_mul (pv 4) pe_int) (pv 5)) pa_nil)) pe_int))))
      (pss_one (ps_ret (pe_disp (pps_cons pe_str (pe_ifExp (pt_cmpR (op_neDK K rfl hr.units) (pv 3) (pe_lst pa_nil) (nomark _)) (pe_ix (ix_listK K rfl) (pv 3) pe_int (fun _ _ => rfl)) pe_int) (pps_cons pe_str (pv 4) (pps_cons pe_str (pe_op op_cat (pv 2) (pe_lst (pa_cons (pe_op op_add (pe_op op_mul pe_int (pv 1)) pe_int) pa_nil))) (pps_cons pe_str pe_int pps_nil)))) (by rfl) (by rfl) (fun z => by cases z) (by decide)))))))), ?_⟩
    have cut : ∀ (xs : List Int) lo hi, cutV (iV xs) lo hi = iV (((xs.drop (HT.sIx xs.length 0 lo)).take (HT.sIx xs.length xs.length hi - HT.sIx xs.length 0 lo))) := fun xs lo hi => by
      unfold cutV iV
      rw [List.length_map, List.map_take, List.map_drop]
    refine ⟨_, rfl, _, rfl, _, rfl, a, _, rfl, hs, fun p1 hp1 => ?_⟩
    have s1 : Same H (upd H p1 (.lst (cutV (iV ns) (some (k : Int)) none))) := same_new hp1 _
    refine ⟨_, rfl, _, rfl, _, rfl, a, _, rfl, s1.seq hs, fun p2 hp2 => ?_⟩
    have n12 : p1 ≠ p2 := fun e => by rw [← e, upd_same] at hp2; cases hp2
    obtain ⟨xs, hxs⟩ : ∃ xs, xs = (((ns.drop (HT.sIx ns.length 0 (some (k : Int)))).take (HT.sIx ns.length ns.length none - HT.sIx ns.length 0 (some (k : Int))))) := ⟨_, rfl⟩
    obtain ⟨ys, hys⟩ : ∃ ys, ys = (((ns.drop (HT.sIx ns.length 0 none)).take (HT.sIx ns.length ns.length (some (k : Int)) - HT.sIx ns.length 0 none))) := ⟨_, rfl⟩
    rw [cut, ← hxs] at hp2 s1 ⊢
    rw [cut, ← hys]
    have lx : xs.length ≤ 63 := by
      rw [hxs, List.length_take, List.length_drop]
      omega
    have ly : ys.length ≤ 63 := by
      rw [hys, List.length_take, List.length_drop]
      omega
    have s2 : Same H (upd (upd H p1 (.lst (iV xs))) p2 (.lst (iV ys))) := s1.trans (same_new hp2 _)
    refine ⟨p1, p2, _, _, rfl, rfl, by rw [upd_ne n12, upd_same], upd_same, sz (by rw [iV_len, iV_len]; omega), fun p3 hp3 => ?_⟩
    have ecat : iV xs ++ iV ys = iV (xs ++ ys) := by unfold iV; rw [List.map_append]
    rw [ecat]
    have s3 := s2.trans (same_new hp3 (.lst (iV (xs ++ ys))))
    obtain ⟨H3, hH3⟩ : ∃ H3, H3 = upd (upd (upd H p1 (.lst (iV xs))) p2 (.lst (iV ys))) p3 (.lst (iV (xs ++ ys))) := ⟨_, rfl⟩
    have h3 : H3 p3 = some (.lst (iV (xs ++ ys))) := by rw [hH3]; exact upd_same
    rw [← hH3] at s3 ⊢
    have lz : (iV (xs ++ ys)).length ≤ 126 := by rw [iV_len, List.length_append]; omega
    obtain ⟨zs, hzs⟩ : ∃ zs, zs = xs ++ ys := ⟨_, rfl⟩
    rw [← hzs] at h3 lz
    clear hH3 hzs ecat
    -- great
    refine ⟨_, rfl, p3, rfl, ⟨_, .inl (.inl h3)⟩, ?_⟩
    refine lcw (K := K) walk_list [] (fun i => (zs[i]?).bind fun c => if decide ((10 : Int) ^ 18 ≤ c) = true then some (.int c) else none) (by omega) (Trk.nil _) (fun H' s => .inl (.inl (s _ _ h3))) ?_ ?_
    · rintro D i x H4 H5 R R0 hi s4 hT ⟨rfl, hx⟩ hR hR0
      obtain ⟨c, hc, rfl⟩ := iV_get hx
      refine ⟨rfl, _, rfl, _, _, rfl, rfl, ⟨by decide, by decide, by decide⟩, _, _, rfl, rfl, _, rfl, ?_⟩
      refine ite2 (fun z => ?_) (fun z => ?_)
      · refine ⟨_, rfl, hR _ _ (.int c) ?_ (Same.refl _) (.int _)⟩
        rw [hc]
        exact if_pos z
      · refine hR0 _ ?_ (Same.refl _)
        rw [hc]
        exact if_neg z
    · intro g H4 gs' hg s4 eg ag
      obtain ⟨gs, rfl, _⟩ := dpAll_someInts ag fun d hd => by
        obtain ⟨i, _, e⟩ := List.mem_filterMap.mp hd
        cases ez : zs[i]? with
        | none => rw [ez] at e; cases e
        | some c =>
          rw [ez] at e
          simp only [Option.bind_some] at e
          split at e
          · exact ⟨c, (Option.some.inj e).symm⟩
          · cases e
      -- seed
      refine ⟨_, rfl, _, _, rfl, rfl, ?_⟩
      have e43 : H4 p3 = some (.lst (iV zs)) := s4 _ _ h3
      refine ⟨_, rfl, p3, rfl, ⟨_, .inl (.inl e43)⟩, for_list (K := K) (a := p3) (xs := iV zs) (fun i σ H' => H' = H4 ∧ ∃ seed y, σ = [some (.ref a), some (.int k), some (.ref p3), some (.ref g), some (.int seed), y]) ⟨rfl, _, none, rfl⟩ (fun i σ H' _ ⟨e, _⟩ => by rw [e]; exact .inl (.inl e43)) ?_ ?_⟩
      · rintro i x σ H' hx ⟨rfl, seed, y, rfl⟩
        obtain ⟨c, hc, rfl⟩ := iV_get hx
        exact ⟨_, rfl, _, _, rfl, rfl, .inr ⟨by decide, by decide⟩, _, rfl, _, _, rfl, rfl, .inl ⟨_, rfl, _, _, rfl, rfl, (by show (2147483647 : Int) ≠ 0; decide), rfl, _, _, rfl⟩⟩
      · rintro σ H' ⟨rfl, seed, y, rfl⟩
        intro m hm
        refine ⟨_, rfl, Nat.zero_le _, fun e he => ?_⟩
        have nem : m ≠ e := fun z => by rw [← z, upd_same] at he; cases he
        have ngm : g ≠ m := ne_of_none eg hm
        have nge : g ≠ e := fun z => by rw [← z, upd_ne ngm, eg] at he; cases he
        have n3m : p3 ≠ m := ne_of_none e43 hm
        have n3e : p3 ≠ e := fun z => by rw [← z, upd_ne n3m, e43] at he; cases he
        have eg2 : (upd (upd H' m (.dK [])) e (.lst [])) g = some (.lst (iV gs)) := by rw [upd_ne nge, upd_ne ngm]; exact eg
        have e32 : (upd (upd H' m (.dK [])) e (.lst [])) p3 = some (.lst (iV zs)) := by rw [upd_ne n3e, upd_ne n3m]; exact e43
        have em2 : (upd (upd H' m (.dK [])) e (.lst [])) m = some (.dK []) := by rw [upd_ne nem, upd_same]
        refine ⟨.list (iD gs), .list [], .lst (.inl (.inl eg2)) (dpAll_ints.mpr rfl), .lst (.inl (.inl upd_same)) .nil, shaped_iL gs, shaped_iL [], ?_⟩
        rw [eqv_nilL]
        obtain ⟨Hx, hHx⟩ : ∃ Hx, Hx = upd (upd H' m (.dK [])) e (.lst []) := ⟨_, rfl⟩
        have sx : Same H' Hx := by rw [hHx]; exact (same_new hm _).trans (same_new he _)
        rw [← hHx] at eg2 e32 em2 ⊢
        have fin : ∀ (left : Int) (p4 p5 : Addr), Hx p4 = none → (upd Hx p4 (.lst [.int (53 * (k : Int) + 11)])) p5 = none →
            (upd (upd Hx p4 (.lst [.int (53 * (k : Int) + 11)])) p5 (.lst (iV zs ++ [.int (53 * (k : Int) + 11)]))) m = some (.dK []) ∧
            Q (.ref m) (upd (upd (upd Hx p4 (.lst [.int (53 * (k : Int) + 11)])) p5 (.lst (iV zs ++ [.int (53 * (k : Int) + 11)]))) m (mD left seed 0 p5)) := by
          intro left p4 p5 h4 h5
          have n4 : m ≠ p4 := ne_of_none em2 h4
          have em3 : (upd Hx p4 (.lst [.int (53 * (k : Int) + 11)])) m = some (.dK []) := by rw [upd_ne n4]; exact em2
          have n5 : m ≠ p5 := ne_of_none em3 h5
          have s5 := (sx.trans (same_new h4 (.lst [.int (53 * (k : Int) + 11)]))).trans (same_new h5 (.lst (iV zs ++ [.int (53 * (k : Int) + 11)])))
          refine ⟨by rw [upd_ne n5]; exact em3, q m p5 (zs ++ [53 * (k : Int) + 11]) _ (s3.trans (s4.trans (same_mut s5 hm))) (s3.free (s4.free hm)) ⟨⟨_, _, _, upd_same, by omega, by omega⟩, ?_, by simp, ?_, by omega⟩⟩
          · rw [upd_ne n5.symm, upd_same]
            unfold iV
            rw [List.map_append]
            rfl
          · rw [iV_len] at lz
            rw [List.length_append]
            show zs.length + 1 ≤ 200
            omega
        have szz : (iV zs).length + 1 ≤ sizeLine := sz (by omega)
        cases gs with
        | nil =>
          refine ⟨_, rfl, iteF ?_⟩
          exact ⟨_, rfl, _, rfl, _, rfl, _, _, rfl, rfl, .inl ⟨by decide, by decide⟩, _, _, rfl, rfl, (by show 1 ≤ sizeLine; decide), fun p4 h4 => ⟨p3, p4, _, _, rfl, rfl, (by rw [upd_ne (ne_of_none e32 h4)]; exact e32), upd_same, szz, fun p5 h5 => ⟨(fin 0 p4 p5 h4 h5).1, [(kL, .int 0), (kS, .int seed), (kC, .ref p5), (kP, .int 0)], rfl, (by show 4 ≤ 15; decide), (fin 0 p4 p5 h4 h5).2⟩⟩⟩
        | cons z gs =>
          refine ⟨_, rfl, iteT ?_⟩
          exact ⟨_, rfl, g, _, _, .int z, rfl, rfl, .inl (.inl eg2), atI_nat (j := 0) rfl, _, rfl, _, rfl, _, rfl, _, _, rfl, rfl, .inl ⟨by decide, by decide⟩, _, _, rfl, rfl, (by show 1 ≤ sizeLine; decide), fun p4 h4 => ⟨p3, p4, _, _, rfl, rfl, (by rw [upd_ne (ne_of_none e32 h4)]; exact e32), upd_same, szz, fun p5 h5 => ⟨(fin z p4 p5 h4 h5).1, [(kL, .int z), (kS, .int seed), (kC, .ref p5), (kP, .int 0)], rfl, (by show 4 ≤ 15; decide), (fin z p4 p5 h4 h5).2⟩⟩⟩

end
end Y
namespace Y
open PySem PySem.Spec PyProof.Rows L2
section
variable {P : Program} {w : World} {K : PySem.W.Frag} {mg : Str → Option Value} {base : Heap}
theorem ok_law_path (T : Txt K mg) : FnOk P w K mg base CX0 1 T.a_law_path T.fd_law_path ["near", "i", "j"] (sp_law_path K) := by
  refine T.F_law_path.ok sc_law_path (fun vs H Q E h => ?_) (fun cdv A outer s H vs Q E hr h => ?_)
  · obtain ⟨L, nv, t, i, j, rfl, _⟩ := h
    rfl
  · obtain ⟨L, nv, t, i, j, rfl, hT, Tt, dn, hi, hj, q⟩ := h
    have O := Tt.toOkt
    have few := O.few
    obtain ⟨par, dep, R⟩ := Tt.tree i hi
    obtain ⟨a, xs, rfl, hs, hl, hx⟩ := llD_get (dp_mono (wo_le _ _) dn)
    rw [nbs_len] at hl
    refine ⟨_, (pss_cons (ps_par (by rfl) sc_law_path.nd (i := 3) (j := 4) rfl rfl (by decide) rfl rfl (pa_cons (pe_disp (pps_cons (pv 1) (pv 1) pps_nil) (by rfl) (by rfl) (fun z => by cases z) (by decide)) (pa_cons (pe_lst (pa_cons (pv 1) pa_nil)) pa_nil)) (by rfl))
      (pss_cons (ps_for PassesOwn.never rfl (pi_range1 rfl T.z_range (pa_cons (pe_callB (call_lenK K rfl) (by rfl) T.z_len PySem.boot_len (pa_cons (pv 0) pa_nil)) pa_nil)) (pg_name (i := 5) sc_law_path.nd rfl (Or.inl rfl))
        (pss_one (ps_if (pt_cmpR op_lt (pv 5) (pe_callB (call_lenK K rfl) (by rfl) T.z_len PySem.boot_len (pa_cons (pv 4) pa_nil)) (nomark _))
          (pss_one (ps_for PassesOwn.never rfl (pi_list (pe_ix (ix_listK K rfl) (pv 0) (pe_ix (ix_listK K rfl) (pv 4) (pv 5) (fun _ _ => rfl)) (fun _ _ => rfl))) (pg_name (i := 6) sc_law_path.nd rfl (Or.inl rfl))
            (pss_one (ps_if (pt_cmp (pc_dnotin (hu_of hr) (pv 6) (pv 3)))
              (pss_cons (ps_dput (hu_of hr) (pv 3) (pv 6) (pe_ix (ix_listK K rfl) (pv 4) (pv 5) (fun _ _ => rfl)) rfl)
              (pss_one (ps_expr (pe_bmK K rfl PySem.F.plainAttrs_list PySem.F.slot_list_append PySem.F.type_list_append mt_append (pv 4) (pa_cons (pv 6) pa_nil)))))
              pss_nil))))
          pss_nil)))
      (pss_cons (ps_set (i := 7) sc_law_path.nd rfl (Or.inl rfl) (pe_lst (pa_cons (pv 2) pa_nil)))
      (pss_cons (ps_for PassesOwn.never rfl (pi_range1 rfl T.z_range (pa_cons (pe_callB (call_lenK K rfl) (by rfl) T.z_len PySem.boot_len (pa_cons (pv 0) pa_nil)) pa_nil)) (pg_name (i := 8) sc_law_path.nd rfl (Or.inl rfl))
        (pss_one (ps_if (pt_cmpR op_ne (pe_ix (ix_listK K rfl) (pv 7) (pe_un un_neg pe_int) (fun _ _ => rfl)) (pv 1) (nomark _))
          (pss_one (ps_expr (pe_bmK K rfl PySem.F.plainAttrs_list PySem.F.slot_list_append PySem.F.type_list_append mt_append (pv 7) (pa_cons (pe_dget (hu_of hr) (pv 3) (pe_ix (ix_listK K rfl) (pv 7) (pe_un un_neg pe_int) (fun _ _ => rfl)) (fun _ _ => rfl)) pa_nil))))
          pss_nil)))
      (pss_one (ps_ret (pe_revL (pv 7)))))))), ?_⟩
    intro D hD
    refine ⟨_, rfl, _, rfl, upd_same, [(Sum.inl (i : Int), .int (i : Int))], rfl, (by show 1 ≤ 15; decide), ?_⟩
    refine ⟨_, rfl, (by show 1 ≤ sizeLine; decide), fun l hl0 => ⟨_, _, rfl, ?_⟩⟩
    rw [upd_upd] at hl0 ⊢
    have s1 := same_new hD (.dK (mergeK [] [(Sum.inl (i : Int), V.int (i : Int))]))
    have s2 := same_new hl0 (.lst [.int (i : Int)])
    obtain ⟨H3, hH3⟩ : ∃ H3, H3 = upd (upd H D (.dK (mergeK [] [(Sum.inl (i : Int), V.int (i : Int))]))) l (.lst [.int (i : Int)]) := ⟨_, rfl⟩
    have e3 : H3 l = some (.lst (nV [i])) := by rw [hH3]; exact upd_same
    have s13 : Same H H3 := by rw [hH3]; exact s1.trans s2
    have eD : H3 D = some (.dK [(Sum.inl (i : Int), .int (i : Int))]) := by rw [hH3]; exact s2 _ _ upd_same
    have nlD : l ≠ D := fun e => by rw [e, upd_same] at hl0; cases hl0
    have l0 : H l = none := s1.free hl0
    have A0 : AH [i] [(Sum.inl (i : Int), .int (i : Int))] i par := ⟨rfl, fun v => by
      by_cases e : v = i
      · subst e
        simp [valV]
      · have : ¬ ((Sum.inl (i : Int) : Key) = Sum.inl (v : Int)) := fun z => e (by have := Sum.inl.inj z; omega)
        simp [valV, e, this]⟩
    rw [← hH3]
    clear hH3
    refine ⟨_, rfl, a, _, rfl, .inl (s13.seq hs), _, rfl, by rw [hl]; omega, by rw [hl]; omega, ?_⟩
    refine for_range (lo := 0) (n := xs.length) (fun c σ H' => ∃ y5 y6 S kvs, σ = [some (.ref a), some (.int (i : Int)), some (.int (j : Int)), some (.ref D), some (.ref l), y5, y6, none, none] ∧ Same H H' ∧ H' D = some (.dK kvs) ∧ H' l = some (.lst (nV S)) ∧ AH S kvs i par ∧ WInv t.n i par S (min c S.length))
      ⟨none, none, [i], _, rfl, s13, eD, e3, A0, by rw [Nat.zero_min]; exact WInv.start hi⟩ ?_ ?_
    · rintro c σ H' hc ⟨y5, y6, S, kvs, rfl, s4, eD4, el4, A4, W⟩
      rw [hl] at hc
      have fewS := W.few
      refine ⟨_, rfl, _, rfl, l, _, rfl, .inl (.inl (.inl el4)), _, _, rfl, rfl, _, rfl, ?_⟩
      rw [nV_len]
      refine ite2 (fun cd => ?_) (fun cd => ?_)
      · have cd := of_decide_eq_true cd
        have hcS : c < S.length := by omega
        rw [Nat.min_eq_left (by omega)] at W
        obtain ⟨p, hp⟩ : ∃ p, S[c]? = some p := ⟨_, List.getElem?_eq_getElem hcS⟩
        have hpn := W.lt p (List.mem_of_getElem? hp)
        obtain ⟨qp, hqp, hqs⟩ := hx p _ (nbs_get hpn)
        have ec : (0 : Int) + (c : Int) = ((c : Nat) : Int) := by omega
        refine ⟨_, rfl, _, rfl, _, rfl, l, _, _, .int (p : Int), rfl, rfl, .inl (.inl el4), at_of ec (nV_at hp), a, xs, _, .ref qp, rfl, rfl, s4.seq hs, atI_nat hqp, qp, rfl, ⟨_, s4.seq hqs⟩, ?_⟩
        refine for_list (K := K) (a := qp) (xs := nV (nb t.ties p)) (fun k σ H' => ∃ y6 kvs, σ = [some (.ref a), some (.int (i : Int)), some (.int (j : Int)), some (.ref D), some (.ref l), some (.int ((0 : Int) + (c : Int))), y6, none, none] ∧ Same H H' ∧ H' D = some (.dK kvs) ∧ H' l = some (.lst (nV (S ++ ((nb t.ties p).take k).filter fun (w : Nat) => decide ((w : Int) ≠ if p = i then -1 else (par p : Int))))) ∧ AH (S ++ ((nb t.ties p).take k).filter fun (w : Nat) => decide ((w : Int) ≠ if p = i then -1 else (par p : Int))) kvs i par)
          ⟨y6, kvs, rfl, s4, eD4, by simpa using el4, by simpa using A4⟩ (fun k σ H' _ ⟨_, _, _, s, _⟩ => s.seq hqs) ?_ ?_
        · rintro k x σ H5 hxk ⟨y6, kvs5, rfl, s5, eD5, el5, A5⟩
          obtain ⟨w1, hw1, rfl⟩ := nV_get hxk
          have hk := (List.getElem?_eq_some_iff.mp hw1).1
          have et : (nb t.ties p).take (k + 1) = (nb t.ties p).take k ++ [w1] := by rw [List.take_add_one, hw1]; rfl
          obtain ⟨S5, hS5⟩ : ∃ S5, S5 = S ++ ((nb t.ties p).take k).filter fun (w : Nat) => decide ((w : Int) ≠ if p = i then -1 else (par p : Int)) := ⟨_, rfl⟩
          rw [← hS5] at el5 A5
          have sub : ((nb t.ties p).take k).length ≤ 16 := by rw [List.length_take]; have := nb_le O p; omega
          have lS5 : S5.length ≤ 40 := by
            rw [hS5, List.length_append]
            have := List.length_filter_le (fun w : Nat => decide ((w : Int) ≠ if p = i then -1 else (par p : Int))) ((nb t.ties p).take k)
            omega
          have step : S ++ ((nb t.ties p).take (k + 1)).filter (fun (w : Nat) => decide ((w : Int) ≠ if p = i then -1 else (par p : Int))) = if decide ((w1 : Int) ≠ if p = i then -1 else (par p : Int)) = true then S5 ++ [w1] else S5 := by
            rw [et, List.filter_append, ← List.append_assoc, ← hS5, List.filter_cons]
            by_cases z : decide ((w1 : Int) ≠ if p = i then -1 else (par p : Int)) = true
            · rw [if_pos z, if_pos z]
              rfl
            · rw [if_neg z, if_neg z]
              simp
          have hadj : adjT t.ties p w1 := nb_mem.mp (List.mem_of_getElem? hw1)
          refine ⟨_, rfl, _, rfl, D, _, rfl, DGet.k (k := Sum.inl (w1 : Int)) eD5, _, rfl, ?_⟩
          rw [A5.val w1]
          by_cases z : decide ((w1 : Int) ≠ if p = i then -1 else (par p : Int)) = true
          · have hkid : w1 ∈ kids t.ties i par p := by
              unfold kids
              exact List.mem_filter.mpr ⟨List.mem_of_getElem? hw1, z⟩
            obtain ⟨_, h2, h3⟩ := (kids_mem R hpn w1).mp hkid
            have nS : w1 ∉ S5 := fun m => by
              rw [hS5] at m
              rcases List.mem_append.mp m with m | m
              · have W2 := (W.turn hp (kids_nodup O i par p) (kids_mem R hpn)).nd
                rw [List.nodup_append] at W2
                exact W2.2.2 _ m _ hkid rfl
              · have m := (List.mem_filter.mp m).1
                obtain ⟨j2, hj2⟩ := List.mem_iff_getElem?.mp m
                rw [List.getElem?_take] at hj2
                split at hj2
                · have := nd_ix (nb_nodup O p) hw1 hj2
                  omega
                · cases hj2
            rw [if_pos z] at step
            rw [if_neg nS]
            refine iteT ?_
            have hpS5 : S5[c]? = some p := by rw [hS5, List.getElem?_append_left hcS]; exact hp
            refine ⟨_, rfl, _, rfl, l, _, _, .int (p : Int), rfl, rfl, .inl (.inl el5), at_of ec (nV_at hpS5), _, rfl, _, rfl, D, _, rfl, DPut.k (k := Sum.inl (w1 : Int)) eD5 (by rw [A5.n]; exact szl (by omega)), ?_⟩
            have el6 : ∀ o, (upd H5 D o) l = some (.lst (nV S5)) := fun o => by rw [upd_ne nlD]; exact el5
            refine ⟨_, rfl, .inl ⟨rfl, _, .inl (.inl (el6 _))⟩, _, rfl, l, _, _, rfl, rfl, el6 _, by rw [nV_len]; exact szl (by omega), ?_⟩
            refine ⟨_, _, rfl, same_mut (same_mut s5 hD) l0, by rw [upd_ne nlD.symm, upd_same], ?_, ?_⟩
            · rw [step, upd_same, nV_snoc]
            · rw [step]
              exact A5.put nS h2 h3
          · rw [if_neg z] at step
            have hw1p : (w1 : Int) = if p = i then -1 else (par p : Int) := by simpa using z
            have hmS : w1 ∈ S5 := by
              by_cases epi : p = i
              · rw [if_pos epi] at hw1p
                omega
              · rw [if_neg epi] at hw1p
                have := W.up p (List.mem_of_getElem? hp) epi
                have e : w1 = par p := by omega
                rw [hS5, e]
                exact List.mem_append_left _ (List.mem_of_mem_take this)
            rw [if_pos hmS]
            refine iteF ?_
            refine ⟨_, _, rfl, s5, eD5, ?_, ?_⟩
            · rw [step]
              exact el5
            · rw [step]
              exact A5
        · rintro σ H5 ⟨y6, kvs5, rfl, s5, eD5, el5, A5⟩
          rw [nV_len, List.take_length] at el5 A5
          have W2 := W.turn hp (kids_nodup O i par p) (kids_mem R hpn)
          refine ⟨_, _, S ++ kids t.ties i par p, kvs5, rfl, s5, eD5, el5, A5, ?_⟩
          have := W2.le
          rw [Nat.min_eq_left this]
          exact W2
      · have cd := of_decide_eq_false (Bool.eq_false_iff.mpr cd)
        refine ⟨_, _, S, kvs, rfl, s4, eD4, el4, A4, ?_⟩
        rw [Nat.min_eq_right (by omega)] at W ⊢
        exact W
    · rintro σ H' ⟨y5, y6, S, kvs, rfl, s4, eD4, el4, A4, W⟩
      have fewS := W.few
      rw [Nat.min_eq_right (by omega)] at W
      have hS := W.all R
      refine ⟨_, rfl, (by show 1 ≤ sizeLine; decide), fun st hst => ?_⟩
      have st0 : H st = none := s4.free hst
      have s5 := same_new hst (.lst [.int (j : Int)])
      have nDs : D ≠ st := ne_of_none eD4 hst
      have eD5 : (upd H' st (.lst [.int (j : Int)])) D = some (.dK kvs) := by rw [upd_ne nDs]; exact eD4
      refine ⟨_, rfl, a, _, rfl, .inl (s5.seq (s4.seq hs)), _, rfl, by rw [hl]; omega, by rw [hl]; omega, ?_⟩
      refine for_range (lo := 0) (n := xs.length) (fun k σ H2 => ∃ y8 front v d, σ = [some (.ref a), some (.int (i : Int)), some (.int (j : Int)), some (.ref D), some (.ref l), y5, y6, some (.ref st), y8] ∧ Same H H2 ∧ H2 D = some (.dK kvs) ∧ H2 st = some (.lst (nV (front ++ [v]))) ∧ dep v = d ∧ v < t.n ∧ front ++ TM.upto par d v = TM.way par dep j ∧ (v = i ∨ front.length = k))
        ⟨none, [], j, dep j, rfl, s4.trans s5, eD5, upd_same, rfl, hj, rfl, .inr rfl⟩ ?_ ?_
      · rintro k σ H2 hk ⟨y8, front, v, d, rfl, s6, eD6, ey, hd, hv, hw, hor⟩
        have lw : front.length + (d + 1) = dep j + 1 := by
          have h1 := congrArg List.length hw
          rw [List.length_append, TM.upto_len] at h1
          have h2 : (TM.way par dep j).length = dep j + 1 := TM.upto_len _ _ _
          omega
        have h3 := TM.dep_lt R hj
        have ev : nV (front ++ [v]) = nV front ++ [.int (v : Int)] := nV_snoc _ _
        have at1 : atI (nV (front ++ [v])) (-1) = some (.int (v : Int)) := by rw [ev]; exact atI_last _ _
        refine ⟨_, rfl, 1, rfl, st, _, _, _, rfl, rfl, .inl (.inl ey), at1, _, rfl, rfl, _, rfl, ?_⟩
        by_cases ei : v = i
        · have e1 : decide (V.int (v : Int) = V.int (i : Int)) = true := decide_eq_true (by rw [ei])
          rw [e1]
          exact iteF ⟨_, front, v, d, rfl, s6, eD6, ey, hd, hv, hw, .inl ei⟩
        · have e1 : decide (V.int (v : Int) = V.int (i : Int)) = false := decide_eq_false (fun z => ei (by have := V.int.inj z; omega))
          rw [e1]
          refine iteT ?_
          obtain ⟨h1, h2⟩ := R.up v hv ei
          have get : DGet H2 D (.int (v : Int)) (some (.int (par v : Int))) := by
            have z := DGet.k (k := Sum.inl (v : Int)) eD6
            rw [A4.val v, if_pos ((hS v).mpr hv), if_neg ei] at z
            exact z
          have hfk : front.length = k := hor.resolve_left ei
          refine ⟨_, rfl, .inl ⟨rfl, _, .inl (.inl ey)⟩, _, rfl, _, rfl, 1, rfl, st, _, _, _, rfl, rfl, .inl (.inl ey), at1, D, _, rfl, get, st, _, _, rfl, rfl, ey, by rw [nV_len, List.length_append]; exact szl (by show front.length + 1 < 100000; omega), ?_⟩
          refine ⟨_, front ++ [v], par v, dep (par v), rfl, same_mut s6 st0, by rw [upd_ne nDs]; exact eD6, ?_, rfl, h1, ?_, .inr ?_⟩
          · rw [upd_same, nV_snoc (front ++ [v])]
          · rw [← hw, ← hd, h2, List.append_assoc]
            rfl
          · rw [List.length_append, hfk]
            rfl
      · rintro σ H2 ⟨y8, front, v, d, rfl, s6, eD6, ey, hd, hv, hw, hor⟩
        have ei : v = i := by
          rcases hor with e | e
          · exact e
          · have h1 := congrArg List.length hw
            rw [List.length_append, TM.upto_len] at h1
            have h2 : (TM.way par dep j).length = dep j + 1 := TM.upto_len _ _ _
            have h3 := TM.dep_lt R hj
            omega
        subst ei
        rw [R.dep0] at hd
        subst hd
        have hw' : front ++ [v] = TM.way par dep j := hw
        refine ⟨_, rfl, st, _, rfl, .inl (.inl ey), fun p hp => ?_⟩
        rw [hw']
        refine q par dep R _ _ (s6.trans (same_new hp _)) ?_
        have er : (nV (TM.way par dep j)).reverse = nV (TM.way par dep j).reverse := by unfold nV; rw [List.map_reverse]
        rw [er]
        exact lst_new (hT.mono s6) hp (dpAll_nats.mpr rfl)

end
end Y
namespace Y
open PySem PySem.Spec PyProof.Rows L2
section
variable {P : Program} {w : World} {K : PySem.W.Frag} {mg : Str → Option Value} {base : Heap}
theorem ok_neighbours (T : Txt K mg) : FnOk P w K mg base CX0 2 T.a_neighbours T.fd_neighbours ["tree", "place"] (sp_neighbours K) := by
  refine T.F_neighbours.ok sc_neighbours (fun vs H Q E h => ?_) (fun cdv A outer s H vs Q E hr h => ?_)
  · obtain ⟨L, tv, t, i, rfl, _⟩ := h
    rfl
  · obtain ⟨L, tv, t, i, rfl, hT, O, dt, hi, q⟩ := h
    refine ⟨_, (pss_one (ps_ret (pe_callTy (call_tupK K rfl) (by rfl) T.z_tuple (by decide +kernel) (pa_cons (pe_ix (ix_listK K rfl) (pe_call (ok_neighbour_lists T) (hr.mono (by decide)) rfl T.g_neighbour_lists T.F_neighbour_lists.kp T.b_neighbour_lists .nil pass0 (pa_cons (pv 0) pa_nil)) (pv 1) (fun _ _ => rfl)) pa_nil)))), ?_⟩
    refine ⟨_, rfl, L, _, t, rfl, hT, O, dt, fun v H1 s1 d1 => ?_⟩
    obtain ⟨a, xs, rfl, hs, hl, hx⟩ := llD_get d1
    obtain ⟨b, hb, hbs⟩ := hx i _ (nbs_get hi)
    refine ⟨_, rfl, a, xs, _, .ref b, rfl, rfl, (wo_le _ _).seq hs, atI_nat hb, b, _, rfl, .inl ⟨(wo_le _ _).seq hbs, fun p hp => ?_⟩⟩
    exact q _ _ (s1.trans (same_new hp _)) (tup_new (hT.mono s1) hp (dpAll_nats.mpr rfl))

end
end Y
namespace Y
open PySem PySem.Spec PyProof.Rows L2
section
variable {P : Program} {w : World} {K : PySem.W.Frag} {mg : Str → Option Value} {base : Heap}
theorem ok_leaves (T : Txt K mg) : FnOk P w K mg base CX0 2 T.a_leaves T.fd_leaves ["tree"] (sp_leaves K) := by
  refine T.F_leaves.ok sc_leaves (fun vs H Q E h => ?_) (fun cdv A outer s H vs Q E hr h => ?_)
  · obtain ⟨L, tv, t, rfl, _⟩ := h
    rfl
  · obtain ⟨L, tv, t, rfl, hT, O, dt, q⟩ := h
    refine ⟨_, (pss_cons (ps_set (i := 1) sc_leaves.nd rfl (Or.inl rfl) (pe_call (ok_neighbour_lists T) (hr.mono (by decide)) rfl T.g_neighbour_lists T.F_neighbour_lists.kp T.b_neighbour_lists .nil pass0 (pa_cons (pv 0) pa_nil)))
      (pss_one (ps_ret (pe_callTy (call_tupK K rfl) (by rfl) T.z_tuple (by decide +kernel) (pa_cons (pe_lc (own := [("place", 2), ("near", 3)]) rfl sc_leaves.nd (pi_enum (by rfl) T.z_enumerate (pa_cons (pv 1) pa_nil)) (blkOk_by (own := [("place", 2), ("near", 3)]) (N := ["tree", "lists", "place", "near"]) (sc := defScope s_leaves) (by decide +kernel)) (fun _ _ _ _ _ => (pg_tupK K rfl (n := 2) rfl (pgs_cons (pg_name (i := 2) sc_leaves.nd rfl (Or.inl rfl)) (pgs_cons (pg_name (i := 3) sc_leaves.nd rfl (Or.inl rfl)) pgs_nil)))) (fun _ _ _ _ _ => pts_one (pt_cmpR op_le (pe_callB (call_lenK K rfl) (by rfl) T.z_len PySem.boot_len (pa_cons (pv 3) pa_nil)) pe_int (nomark _))) (fun _ _ _ _ _ => (pv 2))) pa_nil))))), ?_⟩
    refine ⟨_, rfl, L, _, t, rfl, hT, O, dt, fun v H1 s1 d1 => ?_⟩
    obtain ⟨a, xs, rfl, hs, hl, hx⟩ := llD_get d1
    have hs' := (wo_le _ _).seq hs
    refine ⟨_, rfl, a, xs, rfl, hs', ?_⟩
    refine lcw (K := K) walk_enum L (fun v => if decide ((nb t.ties v).length ≤ 1) = true then some (.int (v : Int)) else none) (by rw [hl, nbs_len]; have := O.few; omega) (hT.mono s1) (fun H' s => s.seq hs') ?_ ?_
    · rintro D i x H2 H3 R R0 hi s2 hT2 ⟨U, x1, x2, rfl, hU, rfl, e1, e2⟩ hR hR0
      rw [hl, nbs_len] at hi
      obtain ⟨b, hb, hbs⟩ := hx i _ (nbs_get hi)
      cases e1
      have e2 : xs[i]? = some x2 := e2
      rw [hb] at e2
      cases e2
      have s3 : Same H2 (upd H2 U (.tup [.int (i : Nat), .ref b])) := same_new hU _
      refine ⟨U, _, rfl, .inl (.inl upd_same), rfl, _, _, rfl, _, _, rfl, rfl, rfl, ?_⟩
      refine ⟨_, rfl, b, _, rfl, .inl ((s2.trans s3).seq ((wo_le _ _).seq hbs)), _, _, rfl, rfl, _, rfl, ?_⟩
      rw [nV_len]
      refine ite2 (fun c => ?_) (fun c => ?_)
      · refine ⟨_, rfl, hR _ _ (.int i) ?_ s3 (.int _)⟩
        have c' := of_decide_eq_true c
        exact if_pos (decide_eq_true (by omega))
      · refine hR0 _ (if_neg fun z => c ?_) s3
        have z' := of_decide_eq_true z
        exact decide_eq_true (by omega)
    · intro D H2 ys hD s2 hy ha
      rw [hl, nbs_len, filterMap_if] at ha
      refine ⟨D, ys, rfl, .inl ⟨.inl (.inl hy), fun p hp => ?_⟩⟩
      refine q _ _ ((s1.trans s2).trans (same_new hp _)) (tup_new (hT.mono (s1.trans s2)) hp ?_)
      exact dpAll_mono wo_cons_le ha

end
end Y
namespace Y
open PySem PySem.Spec PyProof.Rows L2
section
variable {P : Program} {w : World} {K : PySem.W.Frag} {mg : Str → Option Value} {base : Heap}
theorem ok_joints (T : Txt K mg) : FnOk P w K mg base CX0 2 T.a_joints T.fd_joints ["tree"] (sp_joints K) := by
  refine T.F_joints.ok sc_joints (fun vs H Q E h => ?_) (fun cdv A outer s H vs Q E hr h => ?_)
  · obtain ⟨L, tv, t, rfl, _⟩ := h
    rfl
  · obtain ⟨L, tv, t, rfl, hT, O, dt, q⟩ := h
    refine ⟨_, (pss_cons (ps_set (i := 1) sc_joints.nd rfl (Or.inl rfl) (pe_call (ok_neighbour_lists T) (hr.mono (by decide)) rfl T.g_neighbour_lists T.F_neighbour_lists.kp T.b_neighbour_lists .nil pass0 (pa_cons (pv 0) pa_nil)))
      (pss_one (ps_ret (pe_callTy (call_tupK K rfl) (by rfl) T.z_tuple (by decide +kernel) (pa_cons (pe_lc (own := [("place", 2), ("near", 3)]) rfl sc_joints.nd (pi_enum (by rfl) T.z_enumerate (pa_cons (pv 1) pa_nil)) (blkOk_by (own := [("place", 2), ("near", 3)]) (N := ["tree", "lists", "place", "near"]) (sc := defScope s_joints) (by decide +kernel)) (fun _ _ _ _ _ => (pg_tupK K rfl (n := 2) rfl (pgs_cons (pg_name (i := 2) sc_joints.nd rfl (Or.inl rfl)) (pgs_cons (pg_name (i := 3) sc_joints.nd rfl (Or.inl rfl)) pgs_nil)))) (fun _ _ _ _ _ => pts_one (pt_cmpR op_ge (pe_callB (call_lenK K rfl) (by rfl) T.z_len PySem.boot_len (pa_cons (pv 3) pa_nil)) pe_int (nomark _))) (fun _ _ _ _ _ => (pv 2))) pa_nil))))), ?_⟩
    refine ⟨_, rfl, L, _, t, rfl, hT, O, dt, fun v H1 s1 d1 => ?_⟩
    obtain ⟨a, xs, rfl, hs, hl, hx⟩ := llD_get d1
    have hs' := (wo_le _ _).seq hs
    refine ⟨_, rfl, a, xs, rfl, hs', ?_⟩
    refine lcw (K := K) walk_enum L (fun v => if decide (3 ≤ (nb t.ties v).length) = true then some (.int (v : Int)) else none) (by rw [hl, nbs_len]; have := O.few; omega) (hT.mono s1) (fun H' s => s.seq hs') ?_ ?_
    · rintro D i x H2 H3 R R0 hi s2 hT2 ⟨U, x1, x2, rfl, hU, rfl, e1, e2⟩ hR hR0
      rw [hl, nbs_len] at hi
      obtain ⟨b, hb, hbs⟩ := hx i _ (nbs_get hi)
      cases e1
      have e2 : xs[i]? = some x2 := e2
      rw [hb] at e2
      cases e2
      have s3 : Same H2 (upd H2 U (.tup [.int (i : Nat), .ref b])) := same_new hU _
      refine ⟨U, _, rfl, .inl (.inl upd_same), rfl, _, _, rfl, _, _, rfl, rfl, rfl, ?_⟩
      refine ⟨_, rfl, b, _, rfl, .inl ((s2.trans s3).seq ((wo_le _ _).seq hbs)), _, _, rfl, rfl, _, rfl, ?_⟩
      rw [nV_len]
      refine ite2 (fun c => ?_) (fun c => ?_)
      · refine ⟨_, rfl, hR _ _ (.int i) ?_ s3 (.int _)⟩
        have c' := of_decide_eq_true c
        exact if_pos (decide_eq_true (by omega))
      · refine hR0 _ (if_neg fun z => c ?_) s3
        have z' := of_decide_eq_true z
        exact decide_eq_true (by omega)
    · intro D H2 ys hD s2 hy ha
      rw [hl, nbs_len, filterMap_if] at ha
      refine ⟨D, ys, rfl, .inl ⟨.inl (.inl hy), fun p hp => ?_⟩⟩
      refine q _ _ ((s1.trans s2).trans (same_new hp _)) (tup_new (hT.mono (s1.trans s2)) hp ?_)
      exact dpAll_mono wo_cons_le ha

end
end Y
namespace Y
open PySem PySem.Spec PyProof.Rows L2
section
variable {P : Program} {w : World} {K : PySem.W.Frag} {mg : Str → Option Value} {base : Heap}
theorem ok_walk (T : Txt K mg) : FnOk P w K mg base CX0 2 T.a_walk T.fd_walk ["tree", "root"] (sp_walk K) := by
  refine T.F_walk.ok sc_walk (fun vs H Q E h => ?_) (fun cdv A outer s H vs Q E hr h => ?_)
  · obtain ⟨L, tv, t, r, rfl, _⟩ := h
    rfl
  · obtain ⟨L, tv, t, r, rfl, hT, Tt, dt, hrn, q⟩ := h
    have O := Tt.toOkt
    have few := O.few
    obtain ⟨par, dep, R⟩ := Tt.tree r hrn
    refine ⟨_, (pss_cons (ps_set (i := 2) sc_walk.nd rfl (Or.inl rfl) (pe_call (ok_neighbour_lists T) (hr.mono (by decide)) rfl T.g_neighbour_lists T.F_neighbour_lists.kp T.b_neighbour_lists .nil pass0 (pa_cons (pv 0) pa_nil)))
      (pss_cons (ps_set (i := 3) sc_walk.nd rfl (Or.inl rfl) (pe_lst (pa_cons (pe_tup (pa_cons (pv 1) (pa_cons (pe_un un_neg pe_int) pa_nil))) pa_nil)))
      (pss_cons (ps_set (i := 4) sc_walk.nd rfl (Or.inl rfl) pe_int)
      (pss_cons (ps_while PassesOwn.never (pt_cmpR op_lt (pv 4) (pe_callB (call_lenK K rfl) (by rfl) T.z_len PySem.boot_len (pa_cons (pv 3) pa_nil)) (nomark _))
        (pss_cons (ps_asg (pe_ix (ix_listK K rfl) (pv 3) (pv 4) (fun _ _ => rfl)) (pg_tupK K rfl (n := 2) rfl (pgs_cons (pg_name (i := 5) sc_walk.nd rfl (Or.inr rfl)) (pgs_cons (pg_name (i := 6) sc_walk.nd rfl (Or.inr rfl)) pgs_nil))))
        (pss_cons (ps_expr (pe_bmK K rfl PySem.F.plainAttrs_list PySem.F.slot_list_extend PySem.F.type_list_extend mt_extend (pv 3) (pa_cons (pe_lc (own := [("other", 7)]) rfl sc_walk.nd (pi_list (pe_ix (ix_listK K rfl) (pv 2) (pv 5) (fun _ _ => rfl))) (blkOk_by (own := [("other", 7)]) (N := ["tree", "root", "lists", "steps", "at", "place", "parent", "other"]) (sc := defScope s_walk) (by decide +kernel)) (fun _ _ _ _ _ => (pg_name (i := 7) sc_walk.nd rfl (Or.inl rfl))) (fun _ _ _ _ _ => pts_one (pt_cmpR op_ne (pv 7) (pv 6) (nomark _))) (fun _ _ _ _ _ => (pe_tup (pa_cons (pv 7) (pa_cons (pv 5) pa_nil))))) pa_nil)))
        (pss_one (ps_aug (i := 4) sc_walk.nd rfl (Or.inl rfl) pe_int ip_add)))))
      (pss_one (ps_ret (pv 3))))))), ?_⟩
    refine ⟨_, rfl, L, _, t, rfl, hT, O, dt, fun v H1 s1 d1 => ?_⟩
    obtain ⟨a, xs, rfl, hs, hl, hx⟩ := llD_get d1
    have hT1 := hT.mono s1
    refine ⟨_, rfl, 1, rfl, (by show 2 ≤ sizeLine; decide), fun e he => ⟨(by show 1 ≤ sizeLine; decide), fun st hst => ?_⟩⟩
    have s2 := same_new he (.tup [.int (r : Int), .int (-1)])
    have s3 := same_new hst (.lst [.ref e])
    have st1 : H1 st = none := s2.free hst
    have hT2 := hT1.mono s2
    obtain ⟨H3, hH3⟩ : ∃ H3, H3 = upd (upd H1 e (.tup [.int (r : Int), .int (-1)])) st (.lst [.ref e]) := ⟨_, rfl⟩
    have e3 : H3 st = some (.lst [.ref e]) := by rw [hH3]; exact upd_same
    have s13 : Same H1 H3 := by rw [hH3]; exact s2.trans s3
    have d3 : Dp K (wo H3 (st :: L)) (.ref e) (stepD r par r) := by
      have hT3 : Trk (upd H1 e (.tup [.int (r : Int), .int (-1)])) L := hT2
      rw [hH3, wo_upd_in (by simp), wo_fresh hst]
      have := tup_new (K := K) hT1 he (ys := [.int (r : Int), .int (-1)]) (ds := [.int (r : Int), .int (-1)]) (.cons (.int _) (.cons (.int _) .nil))
      unfold stepD
      rw [if_pos rfl]
      exact this
    rw [← hH3]
    refine ⟨fun μ σ H' => ∃ c y5 y6 S ys, σ = [some tv, some (.int (r : Int)), some (.ref a), some (.ref st), some (.int ((c : Nat) : Int)), y5, y6, none] ∧ WInv t.n r par S c ∧ μ = S.length - c + (t.n - S.length) ∧ Same H1 H' ∧ H' st = some (.lst ys) ∧ DpAll K (wo H' (st :: L)) ys (S.map (stepD r par)),
      ⟨_, 0, none, none, [r], [.ref e], rfl, WInv.start hrn, rfl, s13, e3, .cons d3 .nil⟩, ?_⟩
    rintro μ σ H' ⟨c, y5, y6, S, ys, rfl, W, eμ, s4, ey, ad⟩
    have ly : ys.length = S.length := by rw [ad.length, List.length_map]
    refine ⟨_, rfl, _, rfl, st, _, rfl, .inl (.inl (.inl ey)), _, _, rfl, rfl, _, rfl, ?_⟩
    refine ite2 (fun cd => ?_) (fun cd => ?_)
    · have cd := of_decide_eq_true cd
      have hc : c < S.length := by omega
      refine ⟨_, fun _ _ n => n, ?_⟩
      have fewS := W.few
      obtain ⟨p, hp⟩ : ∃ p, S[c]? = some p := ⟨_, List.getElem?_eq_getElem hc⟩
      have hpn := W.lt p (List.mem_of_getElem? hp)
      obtain ⟨x, hxc, hdx⟩ := ad.get (i := c) (d := stepD r par p) (by rw [List.getElem?_map, hp]; rfl)
      obtain ⟨g, gs, rfl, hg, hga⟩ := dp_tup hdx
      cases hga with
      | cons h1 hga =>
        cases hga with
        | cons h2 hga =>
          cases hga
          rw [dp_int h1, dp_int h2] at hg
          have hg' := (wo_le _ _).tup hg
          refine ⟨_, rfl, _, rfl, st, ys, _, .ref g, rfl, rfl, .inl (.inl ey), atI_nat hxc, g, _, rfl, hg', rfl, _, _, rfl, _, _, rfl, rfl, ?_⟩
          obtain ⟨qp, hqp, hqs⟩ := hx p _ (nbs_get hpn)
          have hqs' := s4.seq ((wo_le _ _).seq hqs)
          refine ⟨_, rfl, .inl ⟨rfl, _, .inl (.inl ey)⟩, _, rfl, _, rfl, a, xs, _, .ref qp, rfl, rfl, s4.seq ((wo_le _ _).seq hs), atI_nat hqp, qp, rfl, ⟨_, hqs'⟩, ?_⟩
          have hst' : Trk H' (st :: L) := (hT1.mono s4).cons (by rw [ey]; simp)
          refine lcw (K := K) walk_list (st :: L) (fun i => ((nb t.ties p)[i]?).bind fun (w : Nat) => if decide ((w : Int) ≠ if p = r then -1 else (par p : Int)) = true then some (.tuple [.int (w : Int), .int (p : Int)]) else none) (by rw [nV_len]; have := nb_le O p; omega) hst' (fun H2 s => s.seq hqs') ?_ ?_
          · rintro D i x H2 H3' R1 R0 hi s5 hT5 ⟨rfl, hx5⟩ hR hR0
            obtain ⟨w1, hw1, rfl⟩ := nV_get hx5
            refine ⟨rfl, _, rfl, _, rfl, rfl, _, rfl, ?_⟩
            by_cases ez : (w1 : Int) = if p = r then -1 else (par p : Int)
            · have e1 : decide (V.int (w1 : Int) = V.int (if p = r then -1 else (par p : Int))) = true := decide_eq_true (by rw [ez])
              rw [e1]
              refine iteF (hR0 _ ?_ (Same.refl _))
              rw [hw1]
              simp [ez]
            · have e1 : decide (V.int (w1 : Int) = V.int (if p = r then -1 else (par p : Int))) = false := decide_eq_false (fun q => ez (V.int.inj q))
              rw [e1]
              refine iteT ⟨_, rfl, _, rfl, (by show 2 ≤ sizeLine; decide), fun p6 hp6 => hR _ _ (.tuple [.int (w1 : Int), .int (p : Int)]) ?_ (same_new hp6 _) (tup_new hT5 hp6 (.cons (.int _) (.cons (.int _) .nil)))⟩
              rw [hw1]
              simp [ez]
          · intro D H2 zs hD s5 hz az
            have ek : (List.range (nV (nb t.ties p)).length).filterMap (fun i => ((nb t.ties p)[i]?).bind fun (w : Nat) => if decide ((w : Int) ≠ if p = r then -1 else (par p : Int)) = true then some (PyData.tuple [.int (w : Int), .int (p : Int)]) else none) = (kids t.ties r par p).map (stepD r par) := by
              rw [nV_len, range_bind_all, filterMap_if]
              refine List.map_congr_left fun w hw => ?_
              obtain ⟨_, h2, h3⟩ := (kids_mem R hpn w).mp hw
              unfold stepD
              rw [if_neg h2, h3]
            rw [ek] at az
            have ey5 := s5 _ _ ey
            have Dst : D ≠ st := fun e => by rw [e, ey] at hD; cases hD
            refine ⟨st, D, ys, zs, rfl, rfl, ey5, hz, sz (by have h1 := az.length; rw [List.length_map] at h1; have h2 := TM.nodup_le t.n _ (kids_nodup O r par p) fun x hx => ((kids_mem R hpn x).mp hx).1; omega), ?_⟩
            have W2 := W.turn hp (kids_nodup O r par p) (kids_mem R hpn)
            have few2 := W2.few
            rw [List.length_append] at few2
            refine ⟨_, rfl, _, _, rfl, rfl, _, ?_, c + 1, _, _, S ++ kids t.ties r par p, ys ++ zs, rfl, W2, rfl, same_mut (s4.trans s5) st1, upd_same, ?_⟩
            · rw [List.length_append]
              omega
            · rw [wo_upd_in (by simp), List.map_append]
              refine L2.DpAll.append (dpAll_mono (wo_mono s5) ad) (dpAll_mono wo_cons_le az)
    · have cd := of_decide_eq_false (Bool.eq_false_iff.mpr cd)
      have le := W.le
      have hc : c = S.length := by omega
      subst hc
      refine ⟨_, rfl, q par dep S R W.nd (W.all R) _ _ (s1.trans s4) ?_⟩
      refine .lst (.inl (.inl ?_)) (dpAll_mono wo_cons_le ad)
      rw [wo_out (hT1.fresh st1)]
      exact ey

end
end Y
namespace Y
open PySem PySem.Spec PyProof.Rows L2
section
variable {P : Program} {w : World} {K : PySem.W.Frag} {mg : Str → Option Value} {base : Heap}
theorem ok_law_of (T : Txt K mg) : FnOk P w K mg base CX0 2 T.a_law_of T.fd_law_of ["m", "some"] (sp_law_of K) := by
  refine T.F_law_of.ok sc_law_of (fun vs H Q E h => ?_) (fun cdv A outer s H vs Q E hr h => ?_)
  · obtain ⟨m, c, cs, b, sv, ns, rfl, _⟩ := h
    rfl
  · obtain ⟨m, c, cs, b, sv, ns, rfl, M, hb, ds, h0, h1, q⟩ := h
    obtain ⟨a, rfl, ha⟩ := dp_intsL.mp ds
    refine ⟨_, (pss_one (ps_ret (pe_ix (ix_listK K rfl) (pv 1) (pe_call (ok_law_draw T) (hr.mono (by decide)) rfl T.g_law_draw T.F_law_draw.kp T.b_law_draw .nil pass0 (pa_cons (pv 0) (pa_cons (pe_callB (call_lenK K rfl) (by rfl) T.z_len PySem.boot_len (pa_cons (pv 1) pa_nil)) pa_nil))) (fun _ _ => rfl)))), ?_⟩
    have la : (iV ns).length = ns.length := iV_len _
    refine ⟨_, rfl, _, rfl, _, rfl, a, _, rfl, .inl ((wo_le _ _).seq ha), m, c, cs, b, _, rfl, M, hb, by omega, by omega, fun r H1 r0 r1 s1 M1 => ?_⟩
    obtain ⟨x, hx⟩ : ∃ x, ns[r.toNat]? = some x := ⟨_, List.getElem?_eq_getElem (show r.toNat < ns.length by omega)⟩
    refine ⟨a, _, _, .int x, rfl, rfl, (wo_le _ _).seq (s1.seq ha), at_of (j := r.toNat) (by omega) (iV_at hx), ?_⟩
    exact q _ _ (List.mem_of_getElem? hx) s1 M1

end
end Y
namespace Y
open PySem PySem.Spec PyProof.Rows L2
section
variable {P : Program} {w : World} {K : PySem.W.Frag} {mg : Str → Option Value} {base : Heap}
theorem ok_listed (T : Txt K mg) : FnOk P w K mg base CX0 2 T.a_listed T.fd_listed ["tree", "listing"] (sp_listed K) := by
  refine T.F_listed.ok sc_listed (fun vs H Q E h => ?_) (fun cdv A outer s H vs Q E hr h => ?_)
  · obtain ⟨L, tv, lv, t, l, rfl, _⟩ := h
    rfl
  · obtain ⟨L, tv, lv, t, l, rfl, hT, O, Ls, dt, dl, q⟩ := h
    obtain ⟨a, b, c, ps, rfl, ha, hb, hc, hp⟩ := dp_tr.mp dt
    obtain ⟨e, rfl, he⟩ := dp_nats.mp dl
    have few := O.few
    have ll : l.length ≤ 16 := Nat.le_trans (TM.nodup_le t.n _ Ls.nd fun x hx => (Ls.all x).mp hx) O.few
    have he' := (wo_le _ _).tup he
    have hb' := (wo_le _ _).tup hb
    have hc' := (wo_le _ _).tup hc
    refine ⟨_, (pss_cons (ps_asg (pv 0) (pg_tupK K rfl (n := 2) rfl (pgs_cons (pg_name (i := 2) sc_listed.nd rfl (Or.inr rfl)) (pgs_cons (pg_name (i := 3) sc_listed.nd rfl (Or.inl rfl)) pgs_nil))))
      (pss_cons (ps_set (i := 4) sc_listed.nd rfl (Or.inr rfl) (pe_dc (own := [("at", 6), ("place", 7)]) rfl sc_listed.nd (pi_enumT (by rfl) T.z_enumerate (pa_cons (pv 1) pa_nil)) (blkOk_by (own := [("at", 6), ("place", 7)]) (N := ["tree", "listing", "weights", "ties", "number", "renumbered", "at", "place", "i", "j"]) (sc := defScope s_listed) (by decide +kernel)) (fun _ _ _ _ _ => (pg_tupK K rfl (n := 2) rfl (pgs_cons (pg_name (i := 6) sc_listed.nd rfl (Or.inl rfl)) (pgs_cons (pg_name (i := 7) sc_listed.nd rfl (Or.inl rfl)) pgs_nil)))) (fun _ _ _ _ _ => pts_nil) (fun _ _ _ _ _ => (pv 7)) (fun _ _ _ _ _ => (pv 6))))
      (pss_cons (ps_set (i := 5) sc_listed.nd rfl (Or.inl rfl) (pe_callB (cr_sortedDK K rfl) (by rfl) T.z_sorted (by decide +kernel) (pa_cons (pe_lc (own := [("i", 8), ("j", 9)]) rfl sc_listed.nd (pi_tup (pv 3)) (blkOk_by (own := [("i", 8), ("j", 9)]) (N := ["tree", "listing", "weights", "ties", "number", "renumbered", "at", "place", "i", "j"]) (sc := defScope s_listed) (by decide +kernel)) (fun _ _ _ _ _ => (pg_tupK K rfl (n := 2) rfl (pgs_cons (pg_name (i := 8) sc_listed.nd rfl (Or.inl rfl)) (pgs_cons (pg_name (i := 9) sc_listed.nd rfl (Or.inl rfl)) pgs_nil)))) (fun _ _ _ _ _ => pts_nil) (fun _ _ _ _ _ => (pe_call (ok_tie_of T) (hr.mono (by decide)) rfl T.g_tie_of T.F_tie_of.kp T.b_tie_of .nil pass0 (pa_cons (pe_dget (hu_of hr) (pv 4) (pv 8) (fun _ _ => rfl)) (pa_cons (pe_dget (hu_of hr) (pv 4) (pv 9) (fun _ _ => rfl)) pa_nil))))) pa_nil)))
      (pss_one (ps_ret (pe_tup (pa_cons (pe_callTy (call_tupK K rfl) (by rfl) T.z_tuple (by decide +kernel) (pa_cons (pe_lc (own := [("place", 7)]) rfl sc_listed.nd (pi_tup (pv 1)) (blkOk_by (own := [("place", 7)]) (N := ["tree", "listing", "weights", "ties", "number", "renumbered", "at", "place", "i", "j"]) (sc := defScope s_listed) (by decide +kernel)) (fun _ _ _ _ _ => (pg_name (i := 7) sc_listed.nd rfl (Or.inl rfl))) (fun _ _ _ _ _ => pts_nil) (fun _ _ _ _ _ => (pe_ix (ix_tupK K rfl) (pv 2) (pv 7) (fun _ _ => rfl)))) pa_nil)) (pa_cons (pe_callTy (call_tupK K rfl) (by rfl) T.z_tuple (by decide +kernel) (pa_cons (pv 5) pa_nil)) pa_nil)))))))), ?_⟩
    refine ⟨_, rfl, a, _, rfl, (wo_le _ _).tup ha, rfl, _, _, rfl, _, _, rfl, rfl, ?_⟩
    refine ⟨_, rfl, e, _, rfl, he', fun D hD => ?_⟩
    refine dc_it (walk_enumT (K := K)) (fun i H' => Same H H' ∧ H' D = some (.dK (numK (l.take i)))) ⟨same_new hD _, upd_same⟩ (fun i H' _ z => z.1.tup he') ?_ ?_
    · rintro i x H1 H2 hi ⟨s1, eD⟩ ⟨U, x1, x2, rfl, hU, rfl, e1, e2⟩
      rw [nV_len] at hi
      cases e1
      obtain ⟨v, hv, rfl⟩ := nV_get e2
      refine ⟨U, _, rfl, .inl (.inl upd_same), rfl, _, _, rfl, _, _, rfl, rfl, rfl, ?_⟩
      refine ⟨_, rfl, _, rfl, numK (l.take i), Sum.inl (v : Int), rfl, by rw [upd_ne (ne_of_none eD hU)]; exact eD, by rw [numK_len, List.length_take]; exact szl (by omega), same_mut (s1.trans (same_new hU _)) hD, ?_⟩
      have et : l.take i ++ [v] = l.take (i + 1) := by rw [List.take_add_one, hv]; rfl
      have nm : v ∉ l.take i := fun m => by
        obtain ⟨j, hj⟩ := List.mem_iff_getElem?.mp m
        rw [List.getElem?_take] at hj
        split at hj
        · have := nd_ix Ls.nd hv hj
          omega
        · cases hj
      have el : (l.take i).length = i := by rw [List.length_take]; omega
      have z := numK_put nm
      rw [el, et] at z
      rw [upd_same]
      exact congrArg (fun z => some (HO.dK z)) z
    · rintro H1 ⟨s1, eD⟩
      rw [nV_len, List.take_length] at eD
      refine ⟨_, rfl, c, rfl, ⟨ps, s1.tup hc'⟩, ?_⟩
      have lp : ps.length = t.ties.length := by rw [hp.length, List.length_map]
      have fewT := O.fewT
      have at' : ∀ {H2 : Hp} {v : Nat}, H2 D = some (.dK (numK l)) → v < t.n → DGet H2 D (.int (v : Int)) (some (.int (l.idxOf v : Nat))) := fun {H2 v} h hv => by
        have z := DGet.k (k := Sum.inl (v : Int)) h
        rw [numK_at Ls.nd ((Ls.all v).mpr hv)] at z
        exact z
      refine lcw (K := K) walk_tup L (fun i => (t.ties[i]?).map fun p => pr (mk2 (l.idxOf p.1) (l.idxOf p.2))) (by rw [lp]; omega) (hT.mono s1) (fun H' s => s.tup (s1.tup hc')) ?_ ?_
      · rintro G i x H2 H3 R R0 hi s2 hT2 ⟨rfl, hx⟩ hR hR0
        obtain ⟨d, hd, hx2⟩ := hp.getV hx
        rw [List.getElem?_map] at hd
        cases ep : t.ties[i]? with
        | none => rw [ep] at hd; cases hd
        | some p =>
          rw [ep] at hd
          cases hd
          obtain ⟨f, rfl, hf⟩ := dp_pr.mp hx2
          obtain ⟨u, v⟩ := p
          have ib := O.inb (u, v) (List.mem_of_getElem? ep)
          simp only at ib
          have eD2 := s2 _ _ eD
          refine ⟨f, _, rfl, (s1.trans s2).tup ((wo_le _ _).tup hf), rfl, _, _, rfl, _, _, rfl, rfl, rfl, ?_⟩
          refine ⟨_, rfl, _, rfl, D, _, rfl, at' eD2 (by omega), _, rfl, _, rfl, D, _, rfl, at' eD2 ib.2, G :: L, _, _, rfl, hT2, fun y H4 s4 d4 => ?_⟩
          exact hR y H4 _ (by rw [ep]; rfl) s4 d4
      · intro G H2 ys hG s2 hy ha2
        have ef : (List.range ps.length).filterMap (fun i => (t.ties[i]?).map fun p => pr (mk2 (l.idxOf p.1) (l.idxOf p.2))) = (t.ties.map fun p => mk2 (l.idxOf p.1) (l.idxOf p.2)).map pr := by
          rw [lp, List.map_map]
          exact range_get_all _ _
        rw [ef] at ha2
        refine ⟨G, ys, wo H2 L, _, rfl, .inl (.inl hy), wo_le _ _, dpAll_mono wo_cons_le ha2, fun zs p2 dz hp2 => ?_⟩
        have s3 := same_new hp2 (.lst zs)
        have sA := (s1.trans s2).trans s3
        have hT3 := hT.mono sA
        refine ⟨_, rfl, e, rfl, ⟨_, sA.tup he'⟩, ?_⟩
        refine lcw (K := K) walk_tup L (fun i => (l[i]?).map fun v => .int (t.ws.getD v 0)) (by rw [nV_len]; omega) hT3 (fun H' s => s.tup (sA.tup he')) ?_ ?_
        · rintro G2 i x H4 H5 R R0 hi s4 hT4 ⟨rfl, hx⟩ hR hR0
          obtain ⟨v, hv, rfl⟩ := nV_get hx
          have hvn := (Ls.all v).mp (List.mem_of_getElem? hv)
          have hw : t.ws[v]? = some (t.ws.getD v 0) := by rw [List.getD_eq_getElem?_getD, List.getElem?_eq_getElem hvn]; rfl
          refine ⟨rfl, _, rfl, _, rfl, b, _, _, .int (t.ws.getD v 0), rfl, rfl, s4.tup (sA.tup hb'), atI_nat (iV_at hw), ?_⟩
          exact hR _ _ _ (by rw [hv]; rfl) (Same.refl _) (.int _)
        · intro G2 H4 ws hG2 s4 hy4 ha4
          rw [nV_len, range_get_all] at ha4
          have ew : (l.map fun v => PyData.int (t.ws.getD v 0)) = iD (l.map fun v => t.ws.getD v 0) := by unfold iD; rw [List.map_map]; rfl
          rw [ew] at ha4
          refine ⟨G2, ws, rfl, .inl ⟨.inl (.inl hy4), fun p5 hp5 => ?_⟩⟩
          have s5 := same_new hp5 (.tup ws)
          have hT4 := hT3.mono s4
          have d5 : Dp K (wo (upd H4 p5 (.tup ws)) L) (.ref p5) (.tuple (iD (l.map fun v => t.ws.getD v 0))) := tup_new hT4 hp5 (dpAll_mono wo_cons_le ha4)
          have ep2 : (upd H4 p5 (.tup ws)) p2 = some (.lst zs) := s5 _ _ (s4 _ _ upd_same)
          refine ⟨_, rfl, p2, zs, rfl, .inl ⟨.inl (.inl ep2), fun p6 hp6 => ?_⟩⟩
          have s6 := same_new hp6 (.tup zs)
          have d6 : Dp K (wo (upd (upd H4 p5 (.tup ws)) p6 (.tup zs)) L) (.ref p6) (.tuple ((sortP (t.ties.map fun p => mk2 (l.idxOf p.1) (l.idxOf p.2))).map pr)) := tup_new (hT4.mono s5) hp6 (dpAll_mono (wo_mono (s3.trans (s4.trans s5))) dz)
          refine ⟨(by show 2 ≤ sizeLine; decide), fun p7 hp7 => ?_⟩
          exact q _ _ ((((sA.trans s4).trans s5).trans s6).trans (same_new hp7 _)) (tup_new ((hT4.mono s5).mono s6) hp7 (.cons (dp_mono (wo_mono s6) d5) (.cons d6 .nil)))

end
end Y
namespace Y
open PySem PySem.Spec PyProof.Rows L2
section
variable {P : Program} {w : World} {K : PySem.W.Frag} {mg : Str → Option Value} {base : Heap}
theorem ok_law_listed (T : Txt K mg) : FnOk P w K mg base CX0 2 T.a_law_listed T.fd_law_listed ["tree", "listing"] (sp_law_listed K) := by
  refine T.F_law_listed.ok sc_law_listed (fun vs H Q E h => ?_) (fun cdv A outer s H vs Q E hr h => ?_)
  · obtain ⟨L, tv, lv, t, l, rfl, _⟩ := h
    rfl
  · obtain ⟨L, tv, lv, t, l, rfl, hT, O, Ls, dt, dl, q⟩ := h
    obtain ⟨a, b, c, ps, rfl, ha, hb, hc, hp⟩ := dp_tr.mp dt
    obtain ⟨e, rfl, he⟩ := dp_nats.mp dl
    have few := O.few
    have ll : l.length ≤ 16 := Nat.le_trans (TM.nodup_le t.n _ Ls.nd fun x hx => (Ls.all x).mp hx) O.few
    have ha' := (wo_le _ _).tup ha
    have he' := (wo_le _ _).tup he
    have hb' := (wo_le _ _).tup hb
    have hc' := (wo_le _ _).tup hc
    refine ⟨_, (pss_cons (ps_set (i := 2) sc_law_listed.nd rfl (Or.inr rfl) pe_dnewK)
      (pss_cons (ps_for PassesOwn.never rfl (pi_range1 rfl T.z_range (pa_cons (pe_callB (call_lenK K rfl) (by rfl) T.z_len PySem.boot_len (pa_cons (pv 1) pa_nil)) pa_nil)) (pg_name (i := 3) sc_law_listed.nd rfl (Or.inl rfl))
        (pss_one (ps_dput (hu_of hr) (pv 2) (pe_ix (ix_tupK K rfl) (pv 1) (pv 3) (fun _ _ => rfl)) (pv 3) rfl)))
      (pss_one (ps_ret (pe_call (ok_law_made T) (hr.mono (by decide)) rfl T.g_law_made T.F_law_made.kp T.b_law_made .nil pass0 (pa_cons (pe_lc (own := [("place", 4)]) rfl sc_law_listed.nd (pi_tup (pv 1)) (blkOk_by (own := [("place", 4)]) (N := ["tree", "listing", "spots", "k", "place", "i", "j"]) (sc := defScope s_law_listed) (by decide +kernel)) (fun _ _ _ _ _ => (pg_name (i := 4) sc_law_listed.nd rfl (Or.inl rfl))) (fun _ _ _ _ _ => pts_nil) (fun _ _ _ _ _ => (pe_ix (ix_tupK K rfl) (pe_ix (ix_tupK K rfl) (pv 0) pe_int (fun _ _ => rfl)) (pv 4) (fun _ _ => rfl)))) (pa_cons (pe_lc (own := [("i", 5), ("j", 6)]) rfl sc_law_listed.nd (pi_tup (pe_ix (ix_tupK K rfl) (pv 0) pe_int (fun _ _ => rfl))) (blkOk_by (own := [("i", 5), ("j", 6)]) (N := ["tree", "listing", "spots", "k", "place", "i", "j"]) (sc := defScope s_law_listed) (by decide +kernel)) (fun _ _ _ _ _ => (pg_tupK K rfl (n := 2) rfl (pgs_cons (pg_name (i := 5) sc_law_listed.nd rfl (Or.inl rfl)) (pgs_cons (pg_name (i := 6) sc_law_listed.nd rfl (Or.inl rfl)) pgs_nil)))) (fun _ _ _ _ _ => pts_nil) (fun _ _ _ _ _ => (pe_tup (pa_cons (pe_dget (hu_of hr) (pv 2) (pv 5) (fun _ _ => rfl)) (pa_cons (pe_dget (hu_of hr) (pv 2) (pv 6) (fun _ _ => rfl)) pa_nil))))) pa_nil))))))), ?_⟩
    intro D hD
    have s0 : Same H (upd H D (.dK [])) := same_new hD _
    refine ⟨_, rfl, e, _, rfl, .inr (s0.tup he'), _, rfl, by rw [nV_len]; omega, by rw [nV_len]; omega, ?_⟩
    refine for_range (lo := 0) (n := (nV l).length) (fun i σ H' => (∃ y, σ = [some (.ref a), some (.ref e), some (.ref D), y, none, none, none]) ∧ Same H H' ∧ H' D = some (.dK (numK (l.take i)))) ⟨⟨_, rfl⟩, s0, upd_same⟩ ?_ ?_
    · rintro i σ H1 hi ⟨⟨y, rfl⟩, s1, eD⟩
      rw [nV_len] at hi
      have hv : l[i]? = some l[i] := List.getElem?_eq_getElem hi
      obtain ⟨v, hv⟩ : ∃ v, l[i]? = some v := ⟨_, hv⟩
      have et : l.take i ++ [v] = l.take (i + 1) := by rw [List.take_add_one, hv]; rfl
      have nm : v ∉ l.take i := fun m => by
        obtain ⟨j, hj⟩ := List.mem_iff_getElem?.mp m
        rw [List.getElem?_take] at hj
        split at hj
        · have := nd_ix Ls.nd hv hj
          omega
        · cases hj
      have el : (l.take i).length = i := by rw [List.length_take]; omega
      have z := numK_put nm
      rw [el, et] at z
      refine ⟨_, rfl, _, rfl, _, rfl, _, rfl, e, _, _, .int (v : Int), rfl, rfl, s1.tup he', at_of (j := i) (by omega) (nV_at hv), D, _, rfl, DPut.k (k := Sum.inl (v : Int)) eD (by rw [numK_len, el]; exact szl (by omega)), ?_⟩
      refine ⟨⟨_, rfl⟩, same_mut s1 hD, ?_⟩
      rw [upd_same]
      have e0 : (0 : Int) + (i : Int) = (i : Int) := by omega
      rw [e0]
      exact congrArg (fun z => some (HO.dK z)) z
    · rintro σ H1 ⟨⟨y, rfl⟩, s1, eD⟩
      rw [nV_len, List.take_length] at eD
      have at' : ∀ {H2 : Hp} {v : Nat}, H2 D = some (.dK (numK l)) → v < t.n → DGet H2 D (.int (v : Int)) (some (.int (l.idxOf v : Nat))) := fun {H2 v} h hv => by
        have z := DGet.k (k := Sum.inl (v : Int)) h
        rw [numK_at Ls.nd ((Ls.all v).mpr hv)] at z
        exact z
      have hT1 := hT.mono s1
      refine ⟨_, rfl, e, rfl, ⟨_, s1.tup he'⟩, ?_⟩
      refine lcw (K := K) walk_tup L (fun i => (l[i]?).map fun v => .int (t.ws.getD v 0)) (by rw [nV_len]; omega) hT1 (fun H' s => s.tup (s1.tup he')) ?_ ?_
      · rintro G2 i x H4 H5 R R0 hi s4 hT4 ⟨rfl, hx⟩ hR hR0
        obtain ⟨v, hv, rfl⟩ := nV_get hx
        have hvn := (Ls.all v).mp (List.mem_of_getElem? hv)
        have hw : t.ws[v]? = some (t.ws.getD v 0) := by rw [List.getD_eq_getElem?_getD, List.getElem?_eq_getElem hvn]; rfl
        refine ⟨rfl, _, rfl, a, _, _, .ref b, rfl, rfl, s4.tup (s1.tup ha'), atI_nat (j := 0) rfl, _, rfl, b, _, _, .int (t.ws.getD v 0), rfl, rfl, s4.tup (s1.tup hb'), atI_nat (iV_at hw), ?_⟩
        exact hR _ _ _ (by rw [hv]; rfl) (Same.refl _) (.int _)
      · intro G2 H4 ws hG2 s4 hy4 ha4
        rw [nV_len, range_get_all] at ha4
        have ew : (l.map fun v => PyData.int (t.ws.getD v 0)) = iD (l.map fun v => t.ws.getD v 0) := by unfold iD; rw [List.map_map]; rfl
        rw [ew] at ha4
        have d4 := made_lst hT1 hG2 s4 hy4 ha4
        have sA := s1.trans s4
        have hT4 := hT1.mono s4
        refine ⟨_, rfl, a, _, _, .ref c, rfl, rfl, sA.tup ha', atI_nat (j := 1) rfl, c, rfl, ⟨ps, sA.tup hc'⟩, ?_⟩
        have lp : ps.length = t.ties.length := by rw [hp.length, List.length_map]
        have fewT := O.fewT
        refine lcw (K := K) walk_tup L (fun i => (t.ties[i]?).map fun p => pr (l.idxOf p.1, l.idxOf p.2)) (by rw [lp]; omega) hT4 (fun H' s => s.tup (sA.tup hc')) ?_ ?_
        · rintro G i x H2 H3 R R0 hi s2 hT2 ⟨rfl, hx⟩ hR hR0
          obtain ⟨d, hd, hx2⟩ := hp.getV hx
          rw [List.getElem?_map] at hd
          cases ep : t.ties[i]? with
          | none => rw [ep] at hd; cases hd
          | some p =>
            rw [ep] at hd
            cases hd
            obtain ⟨f, rfl, hf⟩ := dp_pr.mp hx2
            obtain ⟨u, v⟩ := p
            have ib := O.inb (u, v) (List.mem_of_getElem? ep)
            simp only at ib
            have eD2 := s2 _ _ (s4 _ _ eD)
            refine ⟨f, _, rfl, (sA.trans s2).tup ((wo_le _ _).tup hf), rfl, _, _, rfl, _, _, rfl, rfl, rfl, ?_⟩
            refine ⟨_, rfl, _, rfl, D, _, rfl, at' eD2 (by omega), _, rfl, _, rfl, D, _, rfl, at' eD2 ib.2, (by show 2 ≤ sizeLine; decide), fun p3 hp3 => ?_⟩
            exact hR _ _ _ (by rw [ep]; rfl) (same_new hp3 _) (pr_new hT2 hp3 _ _)
        · intro G H2 ys hG s2 hy ha2
          have ef : (List.range ps.length).filterMap (fun i => (t.ties[i]?).map fun p => pr (l.idxOf p.1, l.idxOf p.2)) = (t.ties.map fun p => (l.idxOf p.1, l.idxOf p.2)).map pr := by
            rw [lp, List.map_map]
            exact range_get_all _ _
          rw [ef] at ha2
          refine ⟨L, _, _, _, _, rfl, hT4.mono s2, dp_mono (wo_mono s2) d4, made_lst hT4 hG s2 hy ha2, by rw [List.length_map]; omega, fun v3 H3 s3 d3 => ?_⟩
          refine q _ _ ((sA.trans s2).trans s3) ?_
          have e5 : madeT (l.map fun v => t.ws.getD v 0) (t.ties.map fun p => (l.idxOf p.1, l.idxOf p.2)) = lstT t l := by
            unfold madeT lstT
            rw [List.map_map]
            rfl
          rw [e5] at d3
          exact d3

end
end Y
namespace Y
open PySem PySem.Spec PyProof.Rows L2
section
variable {P : Program} {w : World} {K : PySem.W.Frag} {mg : Str → Option Value} {base : Heap}
theorem ok_path (T : Txt K mg) : FnOk P w K mg base CX0 3 T.a_path T.fd_path ["tree", "i", "j"] (sp_path K) := by
  refine T.F_path.ok sc_path (fun vs H Q E h => ?_) (fun cdv A outer s H vs Q E hr h => ?_)
  · obtain ⟨L, tv, t, i, j, rfl, _⟩ := h
    rfl
  · obtain ⟨L, tv, t, i, j, rfl, hT, Tt, dt, hi, hj, q⟩ := h
    have few := Tt.toOkt.few
    refine ⟨_, (pss_cons (ps_set (i := 3) sc_path.nd rfl (Or.inl rfl) (pe_callTy (call_dictP rfl) (by rfl) T.z_dict (by decide +kernel) (pa_cons (pe_call (ok_walk T) (hr.mono (by decide)) rfl T.g_walk T.F_walk.kp T.b_walk .nil pass0 (pa_cons (pv 0) (pa_cons (pv 2) pa_nil))) pa_nil)))
      (pss_cons (ps_set (i := 4) sc_path.nd rfl (Or.inl rfl) (pe_lst (pa_cons (pv 1) pa_nil)))
      (pss_cons (ps_while PassesOwn.never (pt_cmpR op_ne (pe_ix (ix_listK K rfl) (pv 4) (pe_un un_neg pe_int) (fun _ _ => rfl)) (pv 2) (nomark _))
        (pss_one (ps_expr (pe_bmK K rfl PySem.F.plainAttrs_list PySem.F.slot_list_append PySem.F.type_list_append mt_append (pv 4) (pa_cons (pe_dget (hu_of hr) (pv 3) (pe_ix (ix_listK K rfl) (pv 4) (pe_un un_neg pe_int) (fun _ _ => rfl)) (fun _ _ => rfl)) pa_nil)))))
      (pss_one (ps_ret (pe_callTy (call_tupK K rfl) (by rfl) T.z_tuple (by decide +kernel) (pa_cons (pv 4) pa_nil))))))), ?_⟩
    refine ⟨_, rfl, _, rfl, L, tv, t, j, rfl, hT, Tt, dt, hj, fun par dep S R nd hS v H1 s1 d1 => ?_⟩
    obtain ⟨a, xs, rfl, hs, ha⟩ := dp_lst d1
    obtain ⟨ps, rfl, hp⟩ := paired_steps (dpAll_mono (wo_le _ _) ha)
    refine ⟨a, ps, _, rfl, (wo_le _ _).seq hs, hp, fun D hD => ?_⟩
    have s2 := same_new hD (.dK (mergeK [] (S.map fun (u : Nat) => ((Sum.inl (u : Int) : Key), V.int (if u = j then -1 else (par u : Int))))))
    refine ⟨_, rfl, (by show 1 ≤ sizeLine; decide), fun st hst => ?_⟩
    have s3 := same_new hst (.lst [.int (i : Int)])
    obtain ⟨H3, hH3⟩ : ∃ H3, H3 = upd (upd H1 D (.dK (mergeK [] (S.map fun (u : Nat) => ((Sum.inl (u : Int) : Key), V.int (if u = j then -1 else (par u : Int))))))) st (.lst [.int (i : Int)]) := ⟨_, rfl⟩
    have e3 : H3 st = some (.lst (nV ([] ++ [i]))) := by rw [hH3]; exact upd_same
    have s13 : Same H H3 := by rw [hH3]; exact s1.trans (s2.trans s3)
    have eD : H3 D = some (.dK (mergeK [] (S.map fun (u : Nat) => ((Sum.inl (u : Int) : Key), V.int (if u = j then -1 else (par u : Int)))))) := by rw [hH3]; exact s3 _ _ upd_same
    have st0 : H st = none := s1.free (s2.free hst)
    have nDs : st ≠ D := fun e => by rw [e, upd_same] at hst; cases hst
    rw [← hH3]
    refine ⟨fun μ σ H' => ∃ front v d, σ = [some tv, some (.int (i : Int)), some (.int (j : Int)), some (.ref D), some (.ref st)] ∧ Same H H' ∧ H' D = H3 D ∧ H' st = some (.lst (nV (front ++ [v]))) ∧ dep v = d ∧ v < t.n ∧ front ++ TM.upto par d v = TM.way par dep i ∧ μ = d, ⟨dep i, [], i, dep i, rfl, s13, rfl, e3, rfl, hi, rfl, rfl⟩, ?_⟩
    rintro μ σ H' ⟨front, v, d, rfl, s4, eD4, ey, hd, hv, hw, eμ⟩
    have lw : front.length + (d + 1) ≤ 17 := by
      have h1 := congrArg List.length hw
      rw [List.length_append, TM.upto_len] at h1
      have h2 : (TM.way par dep i).length = dep i + 1 := TM.upto_len _ _ _
      have h3 := TM.dep_lt R hi
      omega
    have ev : nV (front ++ [v]) = nV front ++ [.int (v : Int)] := by unfold nV; rw [List.map_append]; rfl
    have at1 : atI (nV (front ++ [v])) (-1) = some (.int (v : Int)) := by rw [ev]; exact atI_last _ _
    refine ⟨_, rfl, 1, rfl, st, _, _, _, rfl, rfl, .inl (.inl ey), at1, _, rfl, rfl, _, rfl, ?_⟩
    by_cases ej : v = j
    · have e1 : decide (V.int (v : Int) = V.int (j : Int)) = true := decide_eq_true (by rw [ej])
      rw [e1]
      refine iteF ?_
      subst ej
      rw [R.dep0] at hd
      subst hd
      refine ⟨_, rfl, st, _, rfl, .inl ⟨.inl (.inl ey), fun p hp => ?_⟩⟩
      have hw' : front ++ [v] = TM.way par dep i := hw
      rw [hw']
      exact q par dep R _ _ (s4.trans (same_new hp _)) (tup_new (hT.mono s4) hp (dpAll_nats.mpr rfl))
    · have e1 : decide (V.int (v : Int) = V.int (j : Int)) = false := decide_eq_false (fun z => ej (by have := V.int.inj z; omega))
      rw [e1]
      refine iteT ⟨_, fun _ _ n => n, ?_⟩
      obtain ⟨h1, h2⟩ := R.up v hv ej
      have get : DGet H' D (.int (v : Int)) (some (.int (par v : Int))) := by
        rw [eD] at eD4
        have z := DGet.k (k := Sum.inl (v : Int)) eD4
        rw [merge_at (fun u => V.int (if u = j then -1 else (par u : Int))), if_pos ((hS v).mpr hv), if_neg ej] at z
        exact z
      refine ⟨_, rfl, .inl ⟨rfl, _, .inl (.inl ey)⟩, _, rfl, _, rfl, 1, rfl, st, _, _, _, rfl, rfl, .inl (.inl ey), at1, D, _, rfl, get, st, _, _, rfl, rfl, ey, by rw [nV_len, List.length_append]; exact szl (by show front.length + 1 < 100000; omega), ?_⟩
      refine ⟨dep (par v), by rw [eμ]; omega, front ++ [v], par v, dep (par v), rfl, same_mut s4 st0, by rw [upd_ne nDs.symm]; exact eD4, ?_, rfl, h1, ?_, rfl⟩
      · rw [upd_same, nV_snoc (front ++ [v])]
      · rw [← hw, ← hd, h2, List.append_assoc]
        rfl

end
end Y
namespace Y
open PySem PySem.Spec PyProof.Rows L2
section
variable {P : Program} {w : World} {K : PySem.W.Frag} {mg : Str → Option Value} {base : Heap}
theorem ok_law_shape (T : Txt K mg) : FnOk P w K mg base CX0 3 T.a_law_shape T.fd_law_shape ["m", "n"] (sp_law_shape K) := by
  refine T.F_law_shape.ok sc_law_shape (fun vs H Q E h => ?_) (fun cdv A outer s H vs Q E hr h => ?_)
  · obtain ⟨L, m, c, cs, b, n, rfl, _⟩ := h
    rfl
  · obtain ⟨L, m, c, cs, b, n, rfl, hm, hT, M, hn, hb, q⟩ := h
    refine ⟨_, (pss_cons (ps_par (by rfl) sc_law_shape.nd (i := 2) (j := 3) rfl rfl (by decide) rfl rfl (pa_cons (pe_call (ok_law_draw T) (hr.mono (by decide)) rfl T.g_law_draw T.F_law_draw.kp T.b_law_draw .nil pass0 (pa_cons (pv 0) (pa_cons pe_int pa_nil))) (pa_cons (pe_lst pa_nil) pa_nil)) (by rfl))
      (pss_cons (ps_for PassesOwn.never rfl (pi_range2 rfl T.z_range (pa_cons pe_int (pa_cons (pv 1) pa_nil))) (pg_name (i := 4) sc_law_shape.nd rfl (Or.inl rfl))
        (pss_one (ps_if (pt_cmpR op_eq (pv 2) pe_int (nomark _))
          (pss_one (ps_expr (pe_bmK K rfl PySem.F.plainAttrs_list PySem.F.slot_list_append PySem.F.type_list_append mt_append (pv 3) (pa_cons (pe_tup (pa_cons (pe_op op_sub (pv 4) pe_int) (pa_cons (pv 4) pa_nil))) pa_nil))))
          (pss_one (ps_if (pt_cmpR op_eq (pv 2) pe_int (nomark _))
            (pss_one (ps_expr (pe_bmK K rfl PySem.F.plainAttrs_list PySem.F.slot_list_append PySem.F.type_list_append mt_append (pv 3) (pa_cons (pe_tup (pa_cons (pe_call (ok_law_of T) (hr.mono (by decide)) rfl T.g_law_of T.F_law_of.kp T.b_law_of .nil pass0 (pa_cons (pv 0) (pa_cons (pe_lst (pa_cons pe_int (pa_cons (pe_op op_sub (pv 4) pe_int) (pa_cons (pe_op op_sub (pv 4) pe_int) pa_nil)))) pa_nil))) (pa_cons (pv 4) pa_nil))) pa_nil))))
            (pss_one (ps_expr (pe_bmK K rfl PySem.F.plainAttrs_list PySem.F.slot_list_append PySem.F.type_list_append mt_append (pv 3) (pa_cons (pe_tup (pa_cons (pe_call (ok_law_draw T) (hr.mono (by decide)) rfl T.g_law_draw T.F_law_draw.kp T.b_law_draw .nil pass0 (pa_cons (pv 0) (pa_cons (pv 4) pa_nil))) (pa_cons (pv 4) pa_nil))) pa_nil)))))))))
      (pss_one (ps_ret (pv 3))))), ?_⟩
    refine ⟨_, rfl, m, c, cs, b, 4, rfl, M, by omega, by decide, by decide, fun wd H1 w0 w1 s1 M1 => ⟨Nat.zero_le _, fun l hl => ⟨_, _, rfl, ?_⟩⟩⟩
    have l0 : H l = none := s1.free hl M.some M1.some
    have lm : l ≠ m := fun e => M1.some (by rw [← e]; exact hl)
    have lc : l ≠ c := fun e => by rw [e, M1.c] at hl; cases hl
    refine ⟨_, rfl, 1, (n : Int), rfl, ⟨by decide, by decide, by omega, by omega⟩, ?_⟩
    refine for_range (lo := 1) (n := ((n : Int) - 1).toNat) (fun i σ H' => (∃ y, σ = [some (.ref m), some (.int n), some (.int wd), some (.ref l), y]) ∧ ∃ ys ties, Shp K H L m c l cs (b + 1 + i) i H' ys ties)
      ⟨⟨_, rfl⟩, [], [], s1.mut l0 _, (M1.upd lm lc), l0, lc, upd_same, .nil, rfl, by simp⟩ ?_ ?_
    · rintro i σ H' hi ⟨⟨y, rfl⟩, ys, ties, S⟩
      have lys : ys.length ≤ 100 := by
        have := S.d.length
        rw [List.length_map, S.n] at this
        omega
      have el := S.el
      have lm' := S.ne hT hm
      have szy : ys.length < sizeLine := szl (by omega)
      have ek : (1 + (i : Int)) = ((i + 1 : Nat) : Int) := by omega
      -- the turn's end
      have fin : ∀ (r : Nat) (H2 : Hp) (p : Addr) (y2 : Option V), SameM m H' H2 → MAt H2 m c cs (b + 1 + (i + 1)) → H2 p = none → r < i + 1 → ∀ x : Int, x = (r : Int) →
          (∃ y, [some (V.ref m), some (.int n), some (.int wd), some (.ref l), y2] = [some (V.ref m), some (.int n), some (.int wd), some (.ref l), y]) ∧
          ∃ ys' ties', Shp K H L m c l cs (b + 1 + (i + 1)) (i + 1) (upd (upd H2 p (.tup [.int x, .int (1 + (i : Int))])) l (.lst (ys ++ [.ref p]))) ys' ties' := by
        intro r H2 p y2 s2 M2 hp hr x hx
        rw [hx, ek]
        exact ⟨⟨_, rfl⟩, _, _, S.turn hT hm s2 M2 hp hr⟩
      have app : ∀ (H2 : Hp) (p : Addr) (o : HO), SameM m H' H2 → H2 p = none → (upd H2 p o) l = some (.lst ys) := by
        intro H2 p o s2 hp
        have e2 := s2.at el lm'
        rw [upd_ne (ne_of_none e2 hp)]
        exact e2
      refine ⟨_, rfl, rfl, _, rfl, ite2 (fun _ => ?_) (fun _ => ?_)⟩
      · refine ⟨_, rfl, .inl ⟨rfl, _, .inl (.inl el)⟩, _, rfl, _, _, rfl, rfl, _, rfl, (by show 2 ≤ sizeLine; decide), fun p hp => ⟨l, _, _, rfl, rfl, app H' p _ (SameM.of (Same.refl _)) hp, szy, ?_⟩⟩
        exact fin i H' p _ (SameM.of (Same.refl _)) (S.M.mono (by omega) (by omega)) hp (by omega) _ (by omega)
      · refine ⟨_, rfl, rfl, _, rfl, ite2 (fun _ => ?_) (fun _ => ?_)⟩
        · refine ⟨_, rfl, .inl ⟨rfl, _, .inl (.inl el)⟩, _, rfl, _, rfl, _, _, rfl, rfl, _, rfl, _, _, rfl, rfl, (by show 3 ≤ sizeLine; decide), fun a ha => ?_⟩
          have sa := SameM.of (m := m) (same_new ha (.lst [.int 0, .int (1 + (i : Int) - 1), .int (1 + (i : Int) - 1)]))
          have Ma := S.M.same (same_new ha (.lst [.int 0, .int (1 + (i : Int) - 1), .int (1 + (i : Int) - 1)]))
          have nam : a ≠ m := fun e => S.M.some (by rw [← e]; exact ha)
          refine ⟨m, c, cs, b + 1 + i, _, [0, 1 + (i : Int) - 1, 1 + (i : Int) - 1], rfl, Ma, by omega, .lst (.inl (.inl ?_)) (dpAll_ints.mpr rfl), by simp, by simp, fun r H2 hr s2 M2 => ?_⟩
          · rw [wo_out (by simpa using nam), upd_same]
            rfl
          · have s3 : SameM m H' H2 := sa.trans s2
            have hr2 : 0 ≤ r ∧ r < (i : Int) + 1 := by
              simp only [List.mem_cons, List.not_mem_nil, or_false] at hr
              omega
            refine ⟨_, rfl, (by show 2 ≤ sizeLine; decide), fun p hp => ⟨l, _, _, rfl, rfl, app H2 p _ s3 hp, szy, ?_⟩⟩
            exact fin r.toNat H2 p _ s3 (M2.mono (by omega) (by omega)) hp (by omega) _ (by omega)
        · refine ⟨_, rfl, .inl ⟨rfl, _, .inl (.inl el)⟩, _, rfl, _, rfl, m, c, cs, b + 1 + i, _, rfl, S.M, by omega, by omega, by omega, fun r H2 r0 r1 s2 M2 => ?_⟩
          refine ⟨_, rfl, (by show 2 ≤ sizeLine; decide), fun p hp => ⟨l, _, _, rfl, rfl, app H2 p _ s2 hp, szy, ?_⟩⟩
          exact fin r.toNat H2 p _ s2 (M2.mono (by omega) (by omega)) hp (by omega) _ (by omega)
    · rintro σ H' ⟨⟨y, rfl⟩, ys, ties, S⟩
      refine ⟨_, rfl, q ties _ _ ⟨by have := S.n; omega, S.sh⟩ S.s (S.M.mono (by omega) (by omega)) (made_lst2 hT S)⟩

end
end Y
namespace Y
open PySem PySem.Spec PyProof.Rows L2
section
variable {P : Program} {w : World} {K : PySem.W.Frag} {mg : Str → Option Value} {base : Heap}
theorem ok_law_shuffled (T : Txt K mg) : FnOk P w K mg base CX0 3 T.a_law_shuffled T.fd_law_shuffled ["m", "count"] (sp_law_shuffled K) := by
  refine T.F_law_shuffled.ok sc_law_shuffled (fun vs H Q E h => ?_) (fun cdv A outer s H vs Q E hr h => ?_)
  · obtain ⟨L, m, c, cs, b, n, rfl, _⟩ := h
    rfl
  · obtain ⟨L, m, c, cs, b, n, rfl, hm, hT, M, hn, hb, q⟩ := h
    refine ⟨_, (pss_cons (ps_par (by rfl) sc_law_shuffled.nd (i := 2) (j := 3) rfl rfl (by decide) rfl rfl (pa_cons (pe_listRg rfl (by rfl) T.z_list (prg_1 (by rfl) T.z_range (pv 1))) (pa_cons (pe_lst pa_nil) pa_nil)) (by rfl))
      (pss_cons (ps_for PassesOwn.never rfl (pi_range1 rfl T.z_range (pa_cons (pv 1) pa_nil)) (pg_name (i := 4) sc_law_shuffled.nd rfl (Or.inl rfl))
        (pss_cons (ps_set (i := 5) sc_law_shuffled.nd rfl (Or.inr rfl) (pe_call (ok_law_of T) (hr.mono (by decide)) rfl T.g_law_of T.F_law_of.kp T.b_law_of .nil pass0 (pa_cons (pv 0) (pa_cons (pv 2) pa_nil))))
        (pss_cons (ps_setLc (i := 2) (own := [("other", 6)]) rfl sc_law_shuffled.nd rfl rfl (sw_true rfl rfl rfl (by decide +kernel)) (pi_list (pv 2)) (blkOk_by (own := [("other", 6)]) (N := ["m", "count", "left", "found", "k", "one", "other"]) (sc := defScope s_law_shuffled) (by decide +kernel)) (fun _ _ _ _ _ => (pg_name (i := 6) sc_law_shuffled.nd rfl (Or.inl rfl))) (fun _ _ _ _ _ => pts_one (pt_cmpR op_ne (pv 6) (pv 5) (nomark _))) (fun _ _ _ _ _ => (pv 6)))
        (pss_one (ps_expr (pe_bmK K rfl PySem.F.plainAttrs_list PySem.F.slot_list_append PySem.F.type_list_append mt_append (pv 3) (pa_cons (pv 5) pa_nil)))))))
      (pss_one (ps_ret (pe_callTy (call_tupF K rfl) (by rfl) T.z_tuple (by decide +kernel) (pa_cons (pv 3) pa_nil)))))), ?_⟩
    have erg : rgV 0 (n : Int) = nV (List.range n) := by
      unfold rgV nV
      rw [show ((n : Int) - 0).toNat = n by omega]
      refine List.map_congr_left fun i _ => ?_
      rw [show (0 : Int) + (i : Int) = i by omega]
    refine ⟨_, rfl, _, rfl, RgOk.of_le (by decide) (by omega) (by decide) (by omega), fun lf0 hlf => ⟨Nat.zero_le _, fun fd hfd => ⟨_, _, rfl, ?_⟩⟩⟩
    rw [erg] at hfd ⊢
    have l0m : lf0 ≠ m := fun e => M.some (by rw [← e]; exact hlf)
    have nfl : fd ≠ lf0 := fun e => by rw [e, upd_same] at hfd; cases hfd
    have fd0 : H fd = none := by rw [upd_ne nfl] at hfd; exact hfd
    have fdm : fd ≠ m := fun e => M.some (by rw [← e]; exact fd0)
    have fdc : fd ≠ c := fun e => by rw [e, M.c] at fd0; cases fd0
    have s0 : Same H (upd (upd H lf0 (.lst (nV (List.range n)))) fd (.lst [])) := (same_new hlf _).trans (same_new hfd _)
    refine ⟨_, rfl, _, rfl, by omega, by omega, ?_⟩
    refine for_range (lo := 0) (n := (n : Int).toNat) (fun i σ H' => ∃ lf y4 y5 left found, σ = [some (.ref m), some (.int n), some (.ref lf), some (.ref fd), y4, y5, none] ∧ SameM m H H' ∧ MAt H' m c cs (b + i) ∧ H' fd = some (.lst (nV found)) ∧ H' lf = some (.lst (nV left)) ∧ lf ≠ m ∧ found.length = i ∧ (found ++ left).Perm (List.range n))
      ⟨lf0, none, none, List.range n, [], rfl, SameM.of s0, M.same s0, upd_same, by rw [upd_ne nfl.symm, upd_same], l0m, rfl, List.Perm.refl _⟩ ?_ ?_
    · rintro i σ H1 hi ⟨lf, y4, y5, left, found, rfl, s1, M1, ef, el, lm, hl, pm⟩
      have hlen := pm.length_eq
      rw [List.length_append, List.length_range] at hlen
      refine ⟨_, rfl, _, rfl, m, c, cs, b + i, _, left.map (fun (x : Nat) => (x : Int)), rfl, M1, by omega, dp_intsL.mpr ⟨lf, rfl, .inl (.inl ?_)⟩, by rw [List.length_map]; omega, by rw [List.length_map]; omega, fun r H2 hr s2 M2 => ?_⟩
      · rw [wo_out (by simpa using lm), ← nV_eq]
        exact el
      · obtain ⟨v, hv, rfl⟩ := List.mem_map.mp hr
        have el2 := s2.at el lm
        have ef2 := s2.at ef fdm
        refine ⟨_, rfl, lf, rfl, ⟨_, .inl (.inl el2)⟩, ?_⟩
        refine lcw (K := K) walk_list [] (fun i => (left[i]?).bind fun x => if decide (x ≠ v) = true then some (.int (x : Int)) else none) (by rw [nV_len]; omega) (Trk.nil _) (fun H' s => .inl (.inl (s _ _ el2))) ?_ ?_
        · rintro D i x H3 H4 R R0 hi3 s3 hT3 ⟨rfl, hx⟩ hR hR0
          obtain ⟨z, hz, rfl⟩ := nV_get hx
          refine ⟨rfl, _, rfl, _, rfl, rfl, _, rfl, ?_⟩
          by_cases ez : z = v
          · have e1 : decide (V.int (z : Int) = V.int (v : Int)) = true := decide_eq_true (by rw [ez])
            rw [e1]
            refine iteF (hR0 _ ?_ (Same.refl _))
            rw [hz]
            simp [ez]
          · have e1 : decide (V.int (z : Int) = V.int (v : Int)) = false := decide_eq_false (fun q => ez (by have := V.int.inj q; omega))
            rw [e1]
            refine iteT ⟨_, rfl, hR _ _ (.int (z : Int)) ?_ (Same.refl _) (.int _)⟩
            rw [hz]
            simp [ez]
        · intro D H3 ys hD s3 hy ha
          have ef3 : (List.range (nV left).length).filterMap (fun i => (left[i]?).bind fun x => if decide (x ≠ v) = true then some (PyData.int (x : Int)) else none) = nD (left.filter fun x => decide (x ≠ v)) := by
            rw [nV_len]
            have := range_get_all (fun x => if decide (x ≠ v) = true then some (PyData.int (x : Int)) else none) left
            have e4 : (List.range left.length).filterMap (fun i => (left[i]?).bind fun x => if decide (x ≠ v) = true then some (PyData.int (x : Int)) else none) = ((List.range left.length).filterMap (fun i => (left[i]?).map fun x => if decide (x ≠ v) = true then some (PyData.int (x : Int)) else none)).filterMap id := by
              rw [List.filterMap_filterMap]
              refine congrArg (fun f => List.filterMap f _) (funext fun i => ?_)
              cases left[i]? <;> rfl
            rw [e4, this, List.filterMap_map]
            exact filterMap_if _ _ _
          rw [ef3] at ha
          rw [dpAll_nats.mp ha] at hy
          have ef4 := s3 _ _ ef2
          have Dfd : D ≠ fd := fun e => by rw [e, ef2] at hD; cases hD
          have Dm : D ≠ m := fun e => M2.some (by rw [← e]; exact hD)
          have s4 : SameM m H H3 := s1.trans (s2.trans (SameM.of s3))
          refine ⟨_, rfl, .inl ⟨rfl, _, .inl (.inl ef4)⟩, _, rfl, fd, _, _, rfl, rfl, ef4, by rw [nV_len]; exact szl (by omega), ?_⟩
          refine ⟨D, _, _, left.filter (fun x => decide (x ≠ v)), found ++ [v], rfl, SameM.mut s4 fd0 _, ((M2.same s3).upd fdm fdc).mono (by omega) (by omega), ?_, by rw [upd_ne Dfd]; exact hy, Dm, by rw [List.length_append, hl]; rfl, ?_⟩
          · rw [upd_same]
            unfold nV
            rw [List.map_append]
            rfl
          · have ndl : left.Nodup := ((pm.nodup_iff.mpr List.nodup_range).sublist (List.sublist_append_right _ _))
            have e5 : left.filter (fun x => decide (x ≠ v)) = left.erase v := by
              rw [ndl.erase_eq_filter]
              refine List.filter_congr fun x _ => ?_
              by_cases ex : x = v <;> simp [ex]
            rw [e5, List.append_assoc]
            refine List.Perm.trans ?_ pm
            exact List.Perm.append_left found (List.perm_cons_erase hv).symm
    · rintro σ H1 ⟨lf, y4, y5, left, found, rfl, s1, M1, ef, el, lm, hl, pm⟩
      have hlen := pm.length_eq
      rw [List.length_append, List.length_range] at hlen
      have e0 : left = [] := List.length_eq_zero_iff.mp (by omega)
      subst e0
      rw [List.append_nil] at pm
      refine ⟨_, rfl, fd, _, rfl, .inl (.inl ef), fun p o hp ho => ?_⟩
      have s2 := same_new hp (.frz o (.tup (nV found)))
      have pm' : p ≠ m := fun e => M1.some (by rw [← e]; exact hp)
      refine q found _ _ ⟨pm.nodup_iff.mpr List.nodup_range, fun v => by rw [pm.mem_iff, List.mem_range]⟩ (s1.trans (SameM.of s2)) ((M1.same s2).mono (by omega) (by omega)) ?_ ⟨p, o, rfl, pm', upd_same, ho⟩
      exact frz_new (hT.mS s1 M1.some) hp (dpAll_nats.mpr rfl) o

end
end Y
namespace Y
open PySem PySem.Spec PyProof.Rows L2
section
variable {P : Program} {w : World} {K : PySem.W.Frag} {mg : Str → Option Value} {base : Heap}
theorem ok_law_tree (T : Txt K mg) : FnOk P w K mg base CX0 4 T.a_law_tree T.fd_law_tree ["m", "most", "low", "high"] (sp_law_tree K) := by
  refine T.F_law_tree.ok sc_law_tree (fun vs H Q E h => ?_) (fun cdv A outer s H vs Q E hr h => ?_)
  · obtain ⟨L, m, c, cs, b, most, low, high, rfl, _⟩ := h
    rfl
  · obtain ⟨L, m, c, cs, b, most, low, high, rfl, hm, hT, M, h16, hlh, hd, hb, q⟩ := h
    refine ⟨_, (pss_cons (ps_set (i := 4) sc_law_tree.nd rfl (Or.inl rfl) (pe_call (ok_law_draw T) (hr.mono (by decide)) rfl T.g_law_draw T.F_law_draw.kp T.b_law_draw .nil pass0 (pa_cons (pv 0) (pa_cons (pe_op op_add (pv 1) pe_int) pa_nil))))
      (pss_one (ps_ret (pe_call (ok_law_made T) (hr.mono (by decide)) rfl T.g_law_made T.F_law_made.kp T.b_law_made .nil pass0 (pa_cons (pe_lc (own := [("k", 5)]) rfl sc_law_tree.nd (pi_range1 rfl T.z_range (pa_cons (pv 4) pa_nil)) (blkOk_by (own := [("k", 5)]) (N := ["m", "most", "low", "high", "n", "k"]) (sc := defScope s_law_tree) (by decide +kernel)) (fun _ _ _ _ _ => (pg_name (i := 5) sc_law_tree.nd rfl (Or.inl rfl))) (fun _ _ _ _ _ => pts_nil) (fun _ _ _ _ _ => (pe_op op_add (pv 2) (pe_call (ok_law_draw T) (hr.mono (by decide)) rfl T.g_law_draw T.F_law_draw.kp T.b_law_draw .nil pass0 (pa_cons (pv 0) (pa_cons (pe_op op_add (pe_op op_sub (pv 3) (pv 2)) pe_int) pa_nil)))))) (pa_cons (pe_call (ok_law_shape T) (hr.mono (by decide)) rfl T.g_law_shape T.F_law_shape.kp T.b_law_shape .nil pass0 (pa_cons (pv 0) (pa_cons (pv 4) pa_nil))) pa_nil)))))), ?_⟩
    refine ⟨_, rfl, _, rfl, _, _, rfl, rfl, m, c, cs, b, _, rfl, M, by omega, by omega, by omega, fun r H1 r0 r1 s1 M1 => ?_⟩
    obtain ⟨n, rfl⟩ : ∃ n : Nat, r = n := ⟨r.toNat, by omega⟩
    refine ⟨_, rfl, _, rfl, by omega, by omega, fun D hD => ?_⟩
    have D0 : H D = none := s1.free hD M.some M1.some
    refine lc_range (lo := 0) (n := n) (fun i H' => SameM m H H' ∧ MAt H' m c cs (b + 1 + i) ∧ ∃ ws, H' D = some (.lst (iV ws)) ∧ ws.length = i ∧ ∀ x ∈ ws, low ≤ x ∧ x ≤ high)
      ⟨s1.mut D0 _, M1.same (same_new hD _), [], upd_same, rfl, by simp⟩ ?_ ?_
    · rintro i H' hi ⟨s2, M2, ws, eD, hl, hw⟩
      refine ⟨rfl, _, rfl, _, rfl, _, rfl, _, rfl, _, _, rfl, rfl, _, _, rfl, rfl, m, c, cs, _, _, rfl, M2, by omega, by omega, by omega, fun x H3 x0 x1 s3 M3 => ?_⟩
      have Dm : D ≠ m := fun e => M1.some (by rw [← e]; exact hD)
      have Dc : D ≠ c := fun e => by rw [e, M1.c] at hD; cases hD
      refine ⟨_, _, rfl, rfl, _, s3.at eD Dm, by rw [iV_len]; exact szl (by omega), SameM.mut (s2.trans s3) D0 _, (M3.upd Dm Dc).mono (by omega) (by omega), ws ++ [low + x], ?_, by rw [List.length_append, hl]; rfl, ?_⟩
      · rw [upd_same]
        unfold iV
        rw [List.map_append]
        rfl
      · intro y hy
        rcases List.mem_append.mp hy with hy | hy
        · exact hw y hy
        · simp at hy
          omega
    · rintro H2 ⟨s2, M2, ws, eD, hl, hw⟩
      refine ⟨_, rfl, _, rfl, L, m, c, cs, _, n, rfl, hm, hT.mS s2 M2.some, M2, by omega, by omega, fun ties v H3 S s3 M3 d3 => ?_⟩
      have Dm : D ≠ m := fun e => M1.some (by rw [← e]; exact hD)
      have s4 := s2.trans s3
      refine ⟨L, _, v, ws, ties, rfl, hT.mS s4 M3.some, .lst (.inl (.inl ?_)) (dpAll_ints.mpr rfl), d3, by have := S.1; omega, fun v2 H4 s5 d5 => ?_⟩
      · rw [wo_out (hT.fresh D0)]
        exact s3.at eD Dm
      · exact q (madeT ws ties) _ _ (made_tree S hl (by omega)) (by show ws.length ≤ most; omega) hw (s4.trans (SameM.of s5)) ((M3.same s5).mono (by omega) (by omega)) d5

end
end Y
namespace Y
open PySem PySem.Spec PyProof.Rows L2
section
variable {P : Program} {w : World} {K : PySem.W.Frag} {mg : Str → Option Value} {base : Heap}
theorem ok_law (T : Txt K mg) : FnOk P w K mg base CX0 5 T.a_law T.fd_law ["script"] (sp_law K) := by
  refine T.F_law.ok sc_law (fun vs H Q E h => ?_) (fun cdv A outer s H vs Q E hr h => ?_)
  · obtain ⟨a, ns, rfl, _⟩ := h
    rfl
  · obtain ⟨a, ns, rfl, hs, hlen, q⟩ := h
    have hs : SqL K H a (iV ns) := hs
    refine ⟨_, (pss_cons (ps_for PassesOwn.never rfl (pi_range1 rfl T.z_range (pa_cons (pe_callB (call_max2 rfl) (by rfl) T.z_max (by decide +kernel) (pa_cons pe_int (pa_cons (pe_callB (call_min2 rfl) (by rfl) T.z_min (by decide +kernel) (pa_cons (pe_callB (call_lenK K rfl) (by rfl) T.z_len PySem.boot_len (pa_cons (pv 0) pa_nil)) (pa_cons pe_int pa_nil))) pa_nil))) pa_nil)) (pg_name (i := 1) sc_law.nd rfl (Or.inl rfl))
        (pss_cons (ps_set (i := 2) sc_law.nd rfl (Or.inl rfl) (pe_call (ok_law_begun T) (hr.mono (by decide)) rfl T.g_law_begun T.F_law_begun.kp T.b_law_begun .nil pass0 (pa_cons (pv 0) (pa_cons (pv 1) pa_nil))))
        (pss_cons (ps_set (i := 3) sc_law.nd rfl (Or.inl rfl) (pe_call (ok_law_tree T) (hr.mono (by decide)) rfl T.g_law_tree T.F_law_tree.kp T.b_law_tree .nil pass0 (pa_cons (pv 2) (pa_cons pe_int (pa_cons (pe_un un_neg pe_int) (pa_cons pe_int pa_nil))))))
        (pss_cons (ps_asg (pe_tup (pa_cons (pe_callB (call_lenK K rfl) (by rfl) T.z_len PySem.boot_len (pa_cons (pe_ix (ix_tupK K rfl) (pv 3) pe_int (fun _ _ => rfl)) pa_nil)) (pa_cons (pe_call (ok_law_near T) (hr.mono (by decide)) rfl T.g_law_near T.F_law_near.kp T.b_law_near .nil pass0 (pa_cons (pv 3) pa_nil)) pa_nil))) (pg_tupK K rfl (n := 2) rfl (pgs_cons (pg_name (i := 4) sc_law.nd rfl (Or.inl rfl)) (pgs_cons (pg_name (i := 5) sc_law.nd rfl (Or.inr rfl)) pgs_nil))))
        (pss_cons (ps_if (pt_cmpR (op_neDK K rfl hr.units) (pe_call (ok_leaves T) (hr.mono (by decide)) rfl T.g_leaves T.F_leaves.kp T.b_leaves .nil pass0 (pa_cons (pv 3) pa_nil)) (pe_callTy (call_tupK K rfl) (by rfl) T.z_tuple (by decide +kernel) (pa_cons (pe_lc (own := [("j", 10)]) rfl sc_law.nd (pi_range1 rfl T.z_range (pa_cons (pv 4) pa_nil)) (blkOk_by (own := [("j", 10)]) (N := ["script", "k", "m", "tree", "size", "near", "listing", "other", "turn", "i", "j", "p"]) (sc := defScope s_law) (by decide +kernel)) (fun _ _ _ _ _ => (pg_name (i := 10) sc_law.nd rfl (Or.inl rfl))) (fun _ _ _ _ _ => pts_one (pt_cmpR op_le (pe_callB (call_lenK K rfl) (by rfl) T.z_len PySem.boot_len (pa_cons (pe_ix (ix_listK K rfl) (pv 5) (pv 10) (fun _ _ => rfl)) pa_nil)) pe_int (nomark _))) (fun _ _ _ _ _ => (pv 10))) pa_nil)) (nomark _))
          (pss_one (ps_ret pe_bl))
          pss_nil)
        (pss_cons (ps_if (pt_cmpR (op_neDK K rfl hr.units) (pe_call (ok_joints T) (hr.mono (by decide)) rfl T.g_joints T.F_joints.kp T.b_joints .nil pass0 (pa_cons (pv 3) pa_nil)) (pe_callTy (call_tupK K rfl) (by rfl) T.z_tuple (by decide +kernel) (pa_cons (pe_lc (own := [("j", 10)]) rfl sc_law.nd (pi_range1 rfl T.z_range (pa_cons (pv 4) pa_nil)) (blkOk_by (own := [("j", 10)]) (N := ["script", "k", "m", "tree", "size", "near", "listing", "other", "turn", "i", "j", "p"]) (sc := defScope s_law) (by decide +kernel)) (fun _ _ _ _ _ => (pg_name (i := 10) sc_law.nd rfl (Or.inl rfl))) (fun _ _ _ _ _ => pts_one (pt_cmpR op_ge (pe_callB (call_lenK K rfl) (by rfl) T.z_len PySem.boot_len (pa_cons (pe_ix (ix_listK K rfl) (pv 5) (pv 10) (fun _ _ => rfl)) pa_nil)) pe_int (nomark _))) (fun _ _ _ _ _ => (pv 10))) pa_nil)) (nomark _))
          (pss_one (ps_ret pe_bl))
          pss_nil)
        (pss_cons (ps_set (i := 6) sc_law.nd rfl (Or.inr rfl) (pe_call (ok_law_shuffled T) (hr.mono (by decide)) rfl T.g_law_shuffled T.F_law_shuffled.kp T.b_law_shuffled .nil pass0 (pa_cons (pv 2) (pa_cons (pv 4) pa_nil))))
        (pss_cons (ps_set (i := 7) sc_law.nd rfl (Or.inl rfl) (pe_call (ok_listed T) (hr.mono (by decide)) rfl T.g_listed T.F_listed.kp T.b_listed .nil pass0 (pa_cons (pv 3) (pa_cons (pv 6) pa_nil))))
        (pss_cons (ps_if (pt_cmpR (op_neDK K rfl hr.units) (pv 7) (pe_call (ok_law_listed T) (hr.mono (by decide)) rfl T.g_law_listed T.F_law_listed.kp T.b_law_listed .nil pass0 (pa_cons (pv 3) (pa_cons (pv 6) pa_nil))) (nomark _))
          (pss_one (ps_ret pe_bl))
          pss_nil)
        (pss_cons (ps_if (pt_cmpR (op_neDK K rfl hr.units) (pe_call (ok_listed T) (hr.mono (by decide)) rfl T.g_listed T.F_listed.kp T.b_listed .nil pass0 (pa_cons (pv 7) (pa_cons (pe_callTy (call_tupK K rfl) (by rfl) T.z_tuple (by decide +kernel) (pa_cons (pe_lc (own := [("j", 10)]) rfl sc_law.nd (pi_range1 rfl T.z_range (pa_cons (pv 4) pa_nil)) (blkOk_by (own := [("j", 10)]) (N := ["script", "k", "m", "tree", "size", "near", "listing", "other", "turn", "i", "j", "p"]) (sc := defScope s_law) (by decide +kernel)) (fun _ _ _ _ _ => (pg_name (i := 10) sc_law.nd rfl (Or.inl rfl))) (fun _ _ _ _ _ => pts_nil) (fun _ _ _ _ _ => (pe_bmF K PySem.F.plainAttrs_tuple PySem.F.slot_tuple_index PySem.F.type_tuple_index (mt_indexIK K rfl) (pv 6) (pa_cons (pv 10) pa_nil)))) pa_nil)) pa_nil))) (pv 3) (nomark _))
          (pss_one (ps_ret pe_bl))
          pss_nil)
        (pss_one (ps_for PassesOwn.never rfl (pi_range1 rfl T.z_range (pa_cons pe_int pa_nil)) (pg_name (i := 8) sc_law.nd rfl (Or.inl rfl))
          (pss_one (ps_if (pt_cmpR op_gt (pv 4) pe_int (nomark _))
            (pss_cons (ps_par (by rfl) sc_law.nd (i := 9) (j := 10) rfl rfl (by decide) rfl rfl (pa_cons (pe_call (ok_law_draw T) (hr.mono (by decide)) rfl T.g_law_draw T.F_law_draw.kp T.b_law_draw .nil pass0 (pa_cons (pv 2) (pa_cons (pv 4) pa_nil))) (pa_cons (pe_call (ok_law_draw T) (hr.mono (by decide)) rfl T.g_law_draw T.F_law_draw.kp T.b_law_draw .nil pass0 (pa_cons (pv 2) (pa_cons (pv 4) pa_nil))) pa_nil)) (by rfl))
            (pss_cons (ps_if (PW.pt (pw_or (pt_cmpR (op_neDK K rfl hr.units) (pe_call (ok_neighbours T) (hr.mono (by decide)) rfl T.g_neighbours T.F_neighbours.kp T.b_neighbours .nil pass0 (pa_cons (pv 3) (pa_cons (pv 9) pa_nil))) (pe_callTy (call_tupK K rfl) (by rfl) T.z_tuple (by decide +kernel) (pa_cons (pe_ix (ix_listK K rfl) (pv 5) (pv 9) (fun _ _ => rfl)) pa_nil)) (nomark _)) (pw_or1 (pt_cmpR (op_neDK K rfl hr.units) (pe_call (ok_path T) (hr.mono (by decide)) rfl T.g_path T.F_path.kp T.b_path .nil pass0 (pa_cons (pv 3) (pa_cons (pv 9) (pa_cons (pv 10) pa_nil)))) (pe_callTy (call_tupK K rfl) (by rfl) T.z_tuple (by decide +kernel) (pa_cons (pe_call (ok_law_path T) (hr.mono (by decide)) rfl T.g_law_path T.F_law_path.kp T.b_law_path .nil pass0 (pa_cons (pv 5) (pa_cons (pv 9) (pa_cons (pv 10) pa_nil)))) pa_nil)) (nomark _)))))
              (pss_one (ps_ret pe_bl))
              pss_nil)
            (pss_cons (ps_if (pt_cmpR (op_neDK K rfl hr.units) (pe_call (ok_path T) (hr.mono (by decide)) rfl T.g_path T.F_path.kp T.b_path .nil pass0 (pa_cons (pv 3) (pa_cons (pv 10) (pa_cons (pv 9) pa_nil)))) (pe_revT (pe_call (ok_path T) (hr.mono (by decide)) rfl T.g_path T.F_path.kp T.b_path .nil pass0 (pa_cons (pv 3) (pa_cons (pv 9) (pa_cons (pv 10) pa_nil))))) (nomark _))
              (pss_one (ps_ret pe_bl))
              pss_nil)
            (pss_one (ps_if (pt_cmpR (op_neDK K rfl hr.units) (pe_callTy (call_tupK K rfl) (by rfl) T.z_tuple (by decide +kernel) (pa_cons (pe_lc (own := [("p", 11)]) rfl sc_law.nd (pi_tup (pe_call (ok_path T) (hr.mono (by decide)) rfl T.g_path T.F_path.kp T.b_path .nil pass0 (pa_cons (pv 7) (pa_cons (pv 9) (pa_cons (pv 10) pa_nil))))) (blkOk_by (own := [("p", 11)]) (N := ["script", "k", "m", "tree", "size", "near", "listing", "other", "turn", "i", "j", "p"]) (sc := defScope s_law) (by decide +kernel)) (fun _ _ _ _ _ => (pg_name (i := 11) sc_law.nd rfl (Or.inl rfl))) (fun _ _ _ _ _ => pts_nil) (fun _ _ _ _ _ => (pe_ix (ix_tupK K rfl) (pv 6) (pv 11) (fun _ _ => rfl)))) pa_nil)) (pe_call (ok_path T) (hr.mono (by decide)) rfl T.g_path T.F_path.kp T.b_path .nil pass0 (pa_cons (pv 3) (pa_cons (pe_ix (ix_tupK K rfl) (pv 6) (pv 9) (fun _ _ => rfl)) (pa_cons (pe_ix (ix_tupK K rfl) (pv 6) (pv 10) (fun _ _ => rfl)) pa_nil)))) (nomark _))
              (pss_one (ps_ret pe_bl))
              pss_nil)))))
            pss_nil))))))))))))))
      (pss_one (ps_ret pe_bl))), ?_⟩
    refine ⟨_, rfl, a, _, rfl, .inl hs, _, _, rfl, _, _, rfl, _, rfl, ?_⟩
    obtain ⟨N, hN⟩ : ∃ N : Int, N = if (if (5 : Int) < ((iV ns).length : Int) then (5 : Int) else ((iV ns).length : Int)) > 2 then (if (5 : Int) < ((iV ns).length : Int) then (5 : Int) else ((iV ns).length : Int)) else 2 := ⟨_, rfl⟩
    have hN5 : 0 ≤ N ∧ N ≤ 5 := by
      rw [hN]
      split
      · split <;> omega
      · omega
    rw [← hN]
    refine ⟨by omega, by omega, ?_⟩
    refine for_range (lo := 0) (n := N.toNat) (fun i σ H' => ∃ y1 y2 y3 y4 y5 y6 y7 y8 y9 y10, σ = [some (.ref a), y1, y2, y3, y4, y5, y6, y7, y8, y9, y10, none] ∧ Same H H') ⟨none, none, none, none, none, none, none, none, none, none, rfl, Same.refl _⟩ ?_ ?_
    · rintro k σ H0 hk ⟨y1, y2, y3, y4, y5, y6, y7, y8, y9, y10, rfl, s0⟩
      -- m
      refine ⟨_, rfl, _, rfl, a, ns, k, (by rw [Int.zero_add]; rfl), s0.seq hs, hlen, by omega, fun m c cs H1 s1 m0 M1 => ?_⟩
      have t1 : Trk H1 [m] := (Trk.nil H1).cons M1.some
      -- tree
      refine ⟨_, rfl, 60, rfl, [m], m, c, cs, 0, 12, -60, 60, rfl, by simp, t1, M1, by decide, by decide, by decide, by decide, fun t tv H2 Tt tn tw s2 M2 d2 => ?_⟩
      have O := Tt.toOkt
      obtain ⟨at1, bt, ct, pt, rfl, hat, hbt, hct, hpt⟩ := dp_tr.mp d2
      have ew : ((iV t.ws).length : Int) = (t.n : Int) := by rw [iV_len]
      -- size, near
      refine ⟨_, rfl, at1, _, _, .ref bt, rfl, rfl, (wo_le _ _).tup hat, atI_nat (j := 0) rfl, bt, _, rfl, .inr ((wo_le _ _).tup hbt), _, rfl, [m], _, t, rfl, t1.mS s2 M2.some, O, d2, fun nv H3 s3 d3 => ?_⟩
      rw [ew]
      refine ⟨(by show 2 ≤ sizeLine; decide), fun p4 hp4 => ?_⟩
      refine ⟨p4, _, rfl, .inl (.inl upd_same), rfl, _, _, rfl, _, _, rfl, rfl, ?_⟩
      have C3 : Cx1 K H3 m c cs (0 + 300) (.ref at1) nv t := ⟨M2.same s3, dp_mono (wo_mono s3) d2, d3⟩
      have C4 := C3.same (same_new hp4 (.tup [.int (t.n : Int), nv]))
      have S4 : SameM m H1 (upd H3 p4 (.tup [.int (t.n : Int), nv])) := s2.trans (SameM.of (s3.trans (same_new hp4 _)))
      obtain ⟨H4, hH4⟩ : ∃ H4, H4 = upd H3 p4 (.tup [.int (t.n : Int), nv]) := ⟨_, rfl⟩
      rw [← hH4] at C4 S4 ⊢
      clear hH4 C3 hp4
      have few := O.few
      -- leaves
      have near_at : ∀ {H' : Hp} {b : Nat} (C : Cx1 K H' m c cs b (.ref at1) nv t) {i : Nat}, i < t.n → ∃ na xs q, nv = .ref na ∧ SqL K H' na xs ∧ xs[i]? = some (.ref q) ∧ SqL K H' q (nV (nb t.ties i)) := by
        intro H' b C i hi
        obtain ⟨na, xs, e, hs, hl, hx⟩ := llD_get C.dN
        obtain ⟨q, hq, hqs⟩ := hx i _ (nbs_get hi)
        exact ⟨na, xs, q, e, (wo_le _ _).seq hs, hq, (wo_le _ _).seq hqs⟩
      refine ⟨_, rfl, [m], _, t, rfl, C4.trk, O, C4.dT, fun v5 H5 s5 d5 => ?_⟩
      have C5 := C4.same s5
      have S5 : SameM m H1 H5 := S4.trans (SameM.of s5)
      refine ⟨_, rfl, _, rfl, by omega, by omega, ?_⟩
      refine lcw (K := K) (walk_range (lo := 0) (n := t.n)) [m] (fun v => if decide ((nb t.ties v).length ≤ 1) = true then some (.int (v : Int)) else none) (by omega) C5.trk (fun _ _ => True.intro) ?_ ?_
      · rintro D i x Ha Hb R R0 hi sa hT2 ⟨rfl, rfl⟩ hR hR0
        obtain ⟨na, xs, qq, rfl, hna, hxq, hqs⟩ := near_at (C5.same sa) hi
        refine ⟨rfl, _, rfl, _, rfl, na, xs, _, .ref qq, rfl, rfl, hna, at_of (Int.zero_add _) hxq, qq, _, rfl, .inl hqs, _, _, rfl, rfl, _, rfl, ?_⟩
        rw [nV_len, Int.zero_add]
        refine ite2 (fun z => ?_) (fun z => ?_)
        · have z' := of_decide_eq_true z
          exact ⟨_, rfl, hR _ _ (.int (i : Int)) (if_pos (decide_eq_true (by omega))) (Same.refl _) (by show Dp K _ (.int (0 + (i : Int))) (.int (i : Int)); rw [Int.zero_add]; exact .int _)⟩
        · refine hR0 _ (if_neg fun z2 => z ?_) (Same.refl _)
          have z3 := of_decide_eq_true z2
          exact decide_eq_true (by omega)
      · intro D H6 ys hD s6 hy ha
        rw [filterMap_if] at ha
        refine ⟨D, ys, rfl, .inl ⟨.inl (.inl hy), fun p7 hp7 => ?_⟩⟩
        have s7 := same_new hp7 (.tup ys)
        have C7 := (C5.same s6).same s7
        have S7 : SameM m H1 (upd H6 p7 (.tup ys)) := S5.trans (SameM.of (s6.trans s7))
        have d7 := tup_new (K := K) (C5.same s6).trk hp7 (dpAll_mono wo_cons_le ha)
        refine ⟨(.tuple (nD ((List.range t.n).filter fun v => decide ((nb t.ties v).length ≤ 1)))), (.tuple (nD ((List.range t.n).filter fun v => decide ((nb t.ties v).length ≤ 1)))), dp_mono ((wo_le _ _).trans (s6.trans s7)) d5, dp_mono (wo_le _ _) d7, shaped_nT _, shaped_nT _, ?_⟩
        rw [ne_same (shaped_nT _)]
        refine ⟨_, rfl, iteF ?_⟩
        -- joints
        refine ⟨_, rfl, [m], _, t, rfl, C7.trk, O, C7.dT, fun v8 H8 s8 d8 => ?_⟩
        have C8 := C7.same s8
        have S8 : SameM m H1 H8 := S7.trans (SameM.of s8)
        refine ⟨_, rfl, _, rfl, by omega, by omega, ?_⟩
        refine lcw (K := K) (walk_range (lo := 0) (n := t.n)) [m] (fun v => if decide (3 ≤ (nb t.ties v).length) = true then some (.int (v : Int)) else none) (by omega) C8.trk (fun _ _ => True.intro) ?_ ?_
        · rintro D i x Ha Hb R R0 hi sa hT2 ⟨rfl, rfl⟩ hR hR0
          obtain ⟨na, xs, qq, rfl, hna, hxq, hqs⟩ := near_at (C8.same sa) hi
          refine ⟨rfl, _, rfl, _, rfl, na, xs, _, .ref qq, rfl, rfl, hna, at_of (Int.zero_add _) hxq, qq, _, rfl, .inl hqs, _, _, rfl, rfl, _, rfl, ?_⟩
          rw [nV_len, Int.zero_add]
          refine ite2 (fun z => ?_) (fun z => ?_)
          · have z' := of_decide_eq_true z
            exact ⟨_, rfl, hR _ _ (.int (i : Int)) (if_pos (decide_eq_true (by omega))) (Same.refl _) (by show Dp K _ (.int (0 + (i : Int))) (.int (i : Int)); rw [Int.zero_add]; exact .int _)⟩
          · refine hR0 _ (if_neg fun z2 => z ?_) (Same.refl _)
            have z3 := of_decide_eq_true z2
            exact decide_eq_true (by omega)
        · intro D H9 ys hD s9 hy ha
          rw [filterMap_if] at ha
          refine ⟨D, ys, rfl, .inl ⟨.inl (.inl hy), fun p10 hp10 => ?_⟩⟩
          have s10 := same_new hp10 (.tup ys)
          have C10 := (C8.same s9).same s10
          have S10 : SameM m H1 (upd H9 p10 (.tup ys)) := S8.trans (SameM.of (s9.trans s10))
          have d10 := tup_new (K := K) (C8.same s9).trk hp10 (dpAll_mono wo_cons_le ha)
          refine ⟨(.tuple (nD ((List.range t.n).filter fun v => decide (3 ≤ (nb t.ties v).length)))), (.tuple (nD ((List.range t.n).filter fun v => decide (3 ≤ (nb t.ties v).length)))), dp_mono ((wo_le _ _).trans (s9.trans s10)) d8, dp_mono (wo_le _ _) d10, shaped_nT _, shaped_nT _, ?_⟩
          rw [ne_same (shaped_nT _)]
          refine ⟨_, rfl, iteF ?_⟩
          obtain ⟨Hc, hHc⟩ : ∃ Hc, Hc = upd H9 p10 (.tup ys) := ⟨_, rfl⟩
          rw [← hHc] at C10 S10 ⊢
          clear hHc d10 hp10 s10
          -- listing
          refine ⟨_, rfl, _, rfl, [m], m, c, cs, 0 + 300, t.n, rfl, by simp, C10.trk, C10.M, by omega, by decide, fun l lv Ha Ls sa Ma da hf => ?_⟩
          obtain ⟨la, lo, rfl, lam, efz, lod⟩ := hf
          have CA := C10.draw sa Ma
          have SA : SameM m H1 Ha := S10.trans sa
          -- other
          refine ⟨_, rfl, _, rfl, [m], _, _, t, l, rfl, CA.trk, O, Ls, CA.dT, da, fun ov Hb sb db => ?_⟩
          have CB : Cx2 K Hb m c cs _ (.ref at1) nv ov la t l := ⟨CA.same sb, dp_mono (wo_mono sb) da, lam, ⟨lo, sb _ _ efz, lod⟩, db⟩
          have SB : SameM m H1 Hb := SA.trans (SameM.of sb)
          -- other against the law's own
          refine ⟨_, rfl, _, rfl, _, rfl, [m], _, _, t, l, rfl, CB.C.trk, O, Ls, CB.C.dT, CB.dL, fun ov2 Hd sd dd => ?_⟩
          have CD := CB.same sd
          have SD : SameM m H1 Hd := SB.trans (SameM.of sd)
          refine ⟨trD (lstT t l), trD (lstT t l), dp_mono (wo_le _ _) CD.dO, dp_mono (wo_le _ _) dd, shaped_tr _, shaped_tr _, ?_⟩
          rw [ne_same (shaped_tr _)]
          refine ⟨_, rfl, iteF ?_⟩
          -- back
          have ll := Ls.len
          refine ⟨_, rfl, _, rfl, _, rfl, by omega, by omega, ?_⟩
          refine lcw (K := K) (walk_range (lo := 0) (n := t.n)) [m] (fun v => some (.int (l.idxOf v : Nat))) (by omega) CD.C.trk (fun _ _ => True.intro) ?_ ?_
          · rintro D i x Hx Hy R R0 hi sx hT2 ⟨rfl, rfl⟩ hR hR0
            have CX := CD.same sx
            obtain ⟨o, eo, od⟩ := CX.fz
            refine ⟨rfl, _, rfl, ⟨la, o, _, rfl, eo, od⟩, _, rfl, la, l.map (fun (n : Nat) => (n : Int)), ((i : Nat) : Int), rfl, (by show [V.int ((0 : Int) + (i : Int))] = _; rw [Int.zero_add]), (by rw [← iV, ← nV_eq]; exact CX.tup), List.mem_map.mpr ⟨i, (Ls.all i).mpr hi, rfl⟩, ?_⟩
            rw [idxOf_cast]
            exact hR _ _ _ rfl (Same.refl _) (.int _)
          · intro D Hx ys2 hD sx hy2 ha2
            rw [filterMap_some] at ha2
            refine ⟨D, ys2, rfl, .inl ⟨.inl (.inl hy2), fun p11 hp11 => ?_⟩⟩
            have s11 := same_new hp11 (.tup ys2)
            have CX := CD.same sx
            have CE := CX.same s11
            have SE : SameM m H1 (upd Hx p11 (.tup ys2)) := SD.trans (SameM.of (sx.trans s11))
            have d11 : Dp K (wo (upd Hx p11 (.tup ys2)) [m]) (.ref p11) (.tuple (nD (backL t.n l))) := by
              refine tup_new CX.C.trk hp11 (dpAll_mono (wo_cons_le (D := D)) ?_)
              have e : nD (backL t.n l) = (List.range t.n).map fun v => PyData.int (l.idxOf v : Nat) := by unfold nD backL; rw [List.map_map]; rfl
              rw [e]
              exact ha2
            refine ⟨[m], ov, _, lstT t l, backL t.n l, rfl, CE.C.trk, lst_okt O Ls, (by rw [lst_n Ls]; exact backL_lst Ls), CE.dO, d11, fun bv Hf sf df => ?_⟩
            rw [lst_back O Ls] at df
            have CF := CE.same sf
            have SF : SameM m H1 Hf := SE.trans (SameM.of sf)
            refine ⟨_, rfl, trD t, trD t, dp_mono (wo_le _ _) df, dp_mono (wo_le _ _) CF.C.dT, shaped_tr _, shaped_tr _, ?_⟩
            rw [ne_same (shaped_tr _)]
            refine ⟨_, rfl, iteF ?_⟩
            -- three turns
            refine ⟨3, rfl, by decide, by decide, ?_⟩
            refine for_range (lo := 0) (n := 3) (fun i σ H' => (∃ y8 y9 y10, σ = [some (.ref a), some (.int ((0 : Int) + (k : Int))), some (.ref m), some (.ref at1), some (.int (t.n : Int)), some nv, some (.ref la), some ov, y8, y9, y10, none]) ∧ SameM m H1 H' ∧ Cx2 K H' m c cs (0 + 300 + 100 + 2 * i) (.ref at1) nv ov la t l) ⟨⟨_, _, _, rfl⟩, SF, CF⟩ ?_ ?_
            · rintro r σ Hg hr ⟨⟨z8, z9, z10, rfl⟩, SG, CG⟩
              refine ⟨_, rfl, _, _, rfl, rfl, _, rfl, ite2 (fun pos => ?_) (fun _ => ⟨⟨_, _, _, rfl⟩, SG, CG.draw (Same.refl _) (CG.C.M.mono (by omega) (by omega))⟩)⟩
              have pos := of_decide_eq_true pos
              refine ⟨_, rfl, _, rfl, m, c, cs, _, (t.n : Int), rfl, CG.C.M, by omega, by omega, by omega, fun i Hh i0 i1 sh Mh => ?_⟩
              have CH := CG.draw sh Mh
              refine ⟨_, rfl, _, rfl, m, c, cs, _, (t.n : Int), rfl, CH.C.M, by omega, by omega, by omega, fun j Hi j0 j1 si Mi => ⟨_, _, rfl, ?_⟩⟩
              have CI := CH.draw si Mi
              have SI : SameM m H1 Hi := SG.trans (sh.trans si)
              obtain ⟨i, rfl⟩ : ∃ n : Nat, i = n := ⟨i.toNat, by omega⟩
              obtain ⟨j, rfl⟩ : ∃ n : Nat, j = n := ⟨j.toNat, by omega⟩
              have hin : i < t.n := by omega
              have hjn : j < t.n := by omega
              -- neighbours
              refine ⟨_, rfl, _, rfl, [m], _, t, i, rfl, CI.C.trk, O, CI.C.dT, hin, fun v12 H12 s12 d12 => ?_⟩
              have C12 := CI.same s12
              obtain ⟨na, xs, qq, rfl, hna, hxq, hqs⟩ := near_at C12.C hin
              refine ⟨_, rfl, _, rfl, na, xs, _, .ref qq, rfl, rfl, hna, atI_nat hxq, qq, _, rfl, .inl ⟨hqs, fun p13 hp13 => ?_⟩⟩
              have s13 := same_new hp13 (.tup (nV (nb t.ties i)))
              have C13 := C12.same s13
              have S13 : SameM m H1 (upd H12 p13 (.tup (nV (nb t.ties i)))) := SI.trans (SameM.of (s12.trans s13))
              refine ⟨.tuple (nD (nb t.ties i)), .tuple (nD (nb t.ties i)), dp_mono ((wo_le _ _).trans s13) d12, dp_mono (wo_le _ _) (tup_new C12.C.trk hp13 (dpAll_nats.mpr rfl)), shaped_nT _, shaped_nT _, ?_⟩
              rw [ne_same (shaped_nT _)]
              refine ⟨_, rfl, iteF ?_⟩
              -- path against the law's own
              refine ⟨_, rfl, _, rfl, _, rfl, [m], _, t, i, j, rfl, C13.C.trk, Tt, C13.C.dT, hin, hjn, fun par1 dep1 R1 v14 H14 s14 d14 => ?_⟩
              have C14 := C13.same s14
              refine ⟨_, rfl, _, rfl, _, rfl, [m], _, t, i, j, rfl, C14.C.trk, Tt, C14.C.dN, hin, hjn, fun par2 dep2 R2 v15 H15 s15 d15 => ?_⟩
              have C15 := C14.same s15
              obtain ⟨q15, rfl, hq15⟩ := dp_natsL.mp d15
              refine ⟨q15, _, rfl, .inl ⟨(wo_le _ _).seq hq15, fun p16 hp16 => ?_⟩⟩
              have s16 := same_new hp16 (.tup (nV (TM.way par2 dep2 j).reverse))
              have C16 := C15.same s16
              have S16 : SameM m H1 (upd H15 p16 (.tup (nV (TM.way par2 dep2 j).reverse))) := S13.trans (SameM.of (s14.trans (s15.trans s16)))
              refine ⟨.tuple (nD (TM.way par1 dep1 i)), .tuple (nD (TM.way par1 dep1 i)), dp_mono ((wo_le _ _).trans (s15.trans s16)) d14, ?_, shaped_nT _, shaped_nT _, ?_⟩
              · rw [TM.way_back R1 R2]
                exact dp_mono (wo_le _ _) (tup_new C15.C.trk hp16 (dpAll_nats.mpr rfl))
              rw [ne_same (shaped_nT _)]
              refine ⟨_, rfl, iteF ?_⟩
              -- there and back
              refine ⟨_, rfl, _, rfl, _, rfl, [m], _, t, j, i, rfl, C16.C.trk, Tt, C16.C.dT, hjn, hin, fun par3 dep3 R3 v17 H17 s17 d17 => ?_⟩
              have C17 := C16.same s17
              refine ⟨_, rfl, _, rfl, _, rfl, [m], _, t, i, j, rfl, C17.C.trk, Tt, C17.C.dT, hin, hjn, fun par4 dep4 R4 v18 H18 s18 d18 => ?_⟩
              have C18 := C17.same s18
              obtain ⟨q18, rfl, hq18⟩ := dp_nats.mp d18
              refine ⟨q18, _, rfl, (wo_le _ _).tup hq18, fun p19 hp19 => ?_⟩
              have er : (nV (TM.way par4 dep4 i)).reverse = nV (TM.way par4 dep4 i).reverse := by unfold nV; rw [List.map_reverse]
              rw [er]
              have s19 := same_new hp19 (.tup (nV (TM.way par4 dep4 i).reverse))
              have C19 := C18.same s19
              have S19 : SameM m H1 (upd H18 p19 (.tup (nV (TM.way par4 dep4 i).reverse))) := S16.trans (SameM.of (s17.trans (s18.trans s19)))
              refine ⟨.tuple (nD (TM.way par3 dep3 j)), .tuple (nD (TM.way par3 dep3 j)), dp_mono ((wo_le _ _).trans (s18.trans s19)) d17, ?_, shaped_nT _, shaped_nT _, ?_⟩
              · rw [TM.way_back R3 R4]
                exact dp_mono (wo_le _ _) (tup_new C18.C.trk hp19 (dpAll_nats.mpr rfl))
              rw [ne_same (shaped_nT _)]
              refine ⟨_, rfl, iteF ?_⟩
              -- the tree listed otherwise
              refine ⟨_, rfl, _, rfl, _, rfl, [m], _, lstT t l, i, j, rfl, C19.C.trk, lst_tree Tt Ls, C19.dO, (by rw [lst_n Ls]; exact hin), (by rw [lst_n Ls]; exact hjn), fun par5 dep5 R5 v20 H20 s20 d20 => ?_⟩
              have C20 := C19.same s20
              have S20 : SameM m H1 H20 := S19.trans (SameM.of s20)
              rw [lst_n Ls] at R5
              obtain ⟨q20, rfl, hq20⟩ := dp_nats.mp d20
              have hq20' := (wo_le _ _).tup hq20
              have wlt := TM.upto_lt R5 (dep5 i) i hin rfl
              have wln : (TM.way par5 dep5 i).length ≤ 16 := by
                have h1 : (TM.way par5 dep5 i).length = dep5 i + 1 := TM.upto_len _ _ _
                have := TM.dep_lt R5 hin
                omega
              refine ⟨q20, rfl, ⟨_, hq20'⟩, ?_⟩
              refine lcw (K := K) walk_tup [m] (fun u => ((TM.way par5 dep5 i)[u]?).map fun v => .int (l.getD v 0 : Nat)) (by rw [nV_len]; omega) C20.C.trk (fun H' s => s.tup hq20') ?_ ?_
              · rintro D u x Hx2 Hy2 R R0 hi2 sx2 hT2 ⟨rfl, hx2⟩ hR hR0
                obtain ⟨v, hv, rfl⟩ := nV_get hx2
                have hvn := (wlt v (List.mem_of_getElem? hv)).1
                refine ⟨rfl, _, rfl, _, rfl, la, _, _, .int (l.getD v 0 : Nat), rfl, rfl, (C20.same sx2).tup, atI_nat (nV_at (Ls.at hvn)), ?_⟩
                exact hR _ _ _ (by rw [hv]; rfl) (Same.refl _) (.int _)
              · intro D H21 ys3 hD3 s21 hy3 ha3
                rw [nV_len, range_get_all] at ha3
                refine ⟨D, ys3, rfl, .inl ⟨.inl (.inl hy3), fun p22 hp22 => ?_⟩⟩
                have s22 := same_new hp22 (.tup ys3)
                have C21 := C20.same s21
                have C22 := C21.same s22
                have d22 : Dp K (wo (upd H21 p22 (.tup ys3)) [m]) (.ref p22) (.tuple (nD ((TM.way par5 dep5 i).map fun v => l.getD v 0))) := by
                  refine tup_new C21.C.trk hp22 (dpAll_mono (wo_cons_le (D := D)) ?_)
                  have e : nD ((TM.way par5 dep5 i).map fun v => l.getD v 0) = (TM.way par5 dep5 i).map fun v => PyData.int (l.getD v 0 : Nat) := by unfold nD; rw [List.map_map]; rfl
                  rw [e]
                  exact ha3
                refine ⟨_, rfl, _, rfl, _, rfl, la, _, _, .int (l.getD i 0 : Nat), rfl, rfl, C22.tup, atI_nat (nV_at (Ls.at hin)), _, rfl, _, rfl, la, _, _, .int (l.getD j 0 : Nat), rfl, rfl, C22.tup, atI_nat (nV_at (Ls.at hjn)), ?_⟩
                refine ⟨[m], _, t, l.getD i 0, l.getD j 0, rfl, C22.C.trk, Tt, C22.C.dT, Ls.f hin, Ls.f hjn, fun par6 dep6 R6 v23 H23 s23 d23 => ?_⟩
                have C23 := C22.same s23
                have ew2 : (TM.way par5 dep5 i).map (fun v => l.getD v 0) = TM.way par6 dep6 (l.getD i 0) :=
                  TM.way_map (f := fun v => l.getD v 0) (fun u v hu hv e => by rw [← Ls.gf hu, ← Ls.gf hv, e]) (fun u v h => ((lst_adj O Ls u v).mp h).2.2) R5 R6 hin (Ls.f hin)
                rw [ew2] at d22
                refine ⟨.tuple (nD (TM.way par6 dep6 (l.getD i 0))), .tuple (nD (TM.way par6 dep6 (l.getD i 0))), dp_mono ((wo_le _ _).trans s23) d22, dp_mono (wo_le _ _) d23, shaped_nT _, shaped_nT _, ?_⟩
                rw [ne_same (shaped_nT _)]
                refine ⟨_, rfl, iteF ?_⟩
                exact ⟨⟨_, _, _, rfl⟩, S20.trans (SameM.of (s21.trans (s22.trans s23))), C23.draw (Same.refl _) (C23.C.M.mono (by omega) (by omega))⟩
            · rintro σ Hg ⟨⟨z8, z9, z10, rfl⟩, SG, CG⟩
              exact ⟨_, _, _, _, _, _, _, _, _, _, rfl, s0.trans (same_back s1 m0 SG)⟩
    · rintro σ H' ⟨y1, y2, y3, y4, y5, y6, y7, y8, y9, y10, rfl, s0⟩
      exact q H'

end
end Y
namespace Y
open PySem PySem.Spec PyProof.Rows L2
theorem all_mk {l : PySem.W.OpenLaw} {w : World} {K : PySem.W.Frag} {h : Heap} {mg : Str → Option Value} {fa : Addr} (X : K.In h) (G : h.Ns mainGlobals mg) (hfa : mg "law" = some (.ref fa))
    {f0 : Addr} {od0 an0 : Option Addr} {sl0 : Array (Option Value)} {oc0 kV0 dc0 pm0 cd0 ct0 : Value}
    (a0 : PySem.W.nsIn K mainGlobals "neighbour_lists" = some (some (.ref f0))) (l0 : K.lookup f0 = some ⟨oc0, od0, .func (PySem.W.fnOf "neighbour_lists" "neighbour_lists" (defArgs s_neighbour_lists) (defBody s_neighbour_lists) (defScope s_neighbour_lists) .none kV0 dc0 pm0 an0 cd0 ct0), sl0⟩) (c0 : PySem.W.codeIn K cd0 "neighbour_lists" = true) (k0 : PySem.W.keepIn K (.ref f0) = true)
    {f1 : Addr} {od1 an1 : Option Addr} {sl1 : Array (Option Value)} {oc1 kV1 dc1 pm1 cd1 ct1 : Value}
    (a1 : PySem.W.nsIn K mainGlobals "neighbours" = some (some (.ref f1))) (l1 : K.lookup f1 = some ⟨oc1, od1, .func (PySem.W.fnOf "neighbours" "neighbours" (defArgs s_neighbours) (defBody s_neighbours) (defScope s_neighbours) .none kV1 dc1 pm1 an1 cd1 ct1), sl1⟩) (c1 : PySem.W.codeIn K cd1 "neighbours" = true) (k1 : PySem.W.keepIn K (.ref f1) = true)
    {f2 : Addr} {od2 an2 : Option Addr} {sl2 : Array (Option Value)} {oc2 kV2 dc2 pm2 cd2 ct2 : Value}
    (a2 : PySem.W.nsIn K mainGlobals "leaves" = some (some (.ref f2))) (l2 : K.lookup f2 = some ⟨oc2, od2, .func (PySem.W.fnOf "leaves" "leaves" (defArgs s_leaves) (defBody s_leaves) (defScope s_leaves) .none kV2 dc2 pm2 an2 cd2 ct2), sl2⟩) (c2 : PySem.W.codeIn K cd2 "leaves" = true) (k2 : PySem.W.keepIn K (.ref f2) = true)
    {f3 : Addr} {od3 an3 : Option Addr} {sl3 : Array (Option Value)} {oc3 kV3 dc3 pm3 cd3 ct3 : Value}
    (a3 : PySem.W.nsIn K mainGlobals "joints" = some (some (.ref f3))) (l3 : K.lookup f3 = some ⟨oc3, od3, .func (PySem.W.fnOf "joints" "joints" (defArgs s_joints) (defBody s_joints) (defScope s_joints) .none kV3 dc3 pm3 an3 cd3 ct3), sl3⟩) (c3 : PySem.W.codeIn K cd3 "joints" = true) (k3 : PySem.W.keepIn K (.ref f3) = true)
    {f4 : Addr} {od4 an4 : Option Addr} {sl4 : Array (Option Value)} {oc4 kV4 dc4 pm4 cd4 ct4 : Value}
    (a4 : PySem.W.nsIn K mainGlobals "walk" = some (some (.ref f4))) (l4 : K.lookup f4 = some ⟨oc4, od4, .func (PySem.W.fnOf "walk" "walk" (defArgs s_walk) (defBody s_walk) (defScope s_walk) .none kV4 dc4 pm4 an4 cd4 ct4), sl4⟩) (c4 : PySem.W.codeIn K cd4 "walk" = true) (k4 : PySem.W.keepIn K (.ref f4) = true)
    {f5 : Addr} {od5 an5 : Option Addr} {sl5 : Array (Option Value)} {oc5 kV5 dc5 pm5 cd5 ct5 : Value}
    (a5 : PySem.W.nsIn K mainGlobals "path" = some (some (.ref f5))) (l5 : K.lookup f5 = some ⟨oc5, od5, .func (PySem.W.fnOf "path" "path" (defArgs s_path) (defBody s_path) (defScope s_path) .none kV5 dc5 pm5 an5 cd5 ct5), sl5⟩) (c5 : PySem.W.codeIn K cd5 "path" = true) (k5 : PySem.W.keepIn K (.ref f5) = true)
    {f6 : Addr} {od6 an6 : Option Addr} {sl6 : Array (Option Value)} {oc6 kV6 dc6 pm6 cd6 ct6 : Value}
    (a6 : PySem.W.nsIn K mainGlobals "tie_of" = some (some (.ref f6))) (l6 : K.lookup f6 = some ⟨oc6, od6, .func (PySem.W.fnOf "tie_of" "tie_of" (defArgs s_tie_of) (defBody s_tie_of) (defScope s_tie_of) .none kV6 dc6 pm6 an6 cd6 ct6), sl6⟩) (c6 : PySem.W.codeIn K cd6 "tie_of" = true) (k6 : PySem.W.keepIn K (.ref f6) = true)
    {f7 : Addr} {od7 an7 : Option Addr} {sl7 : Array (Option Value)} {oc7 kV7 dc7 pm7 cd7 ct7 : Value}
    (a7 : PySem.W.nsIn K mainGlobals "listed" = some (some (.ref f7))) (l7 : K.lookup f7 = some ⟨oc7, od7, .func (PySem.W.fnOf "listed" "listed" (defArgs s_listed) (defBody s_listed) (defScope s_listed) .none kV7 dc7 pm7 an7 cd7 ct7), sl7⟩) (c7 : PySem.W.codeIn K cd7 "listed" = true) (k7 : PySem.W.keepIn K (.ref f7) = true)
    {f8 : Addr} {od8 an8 : Option Addr} {sl8 : Array (Option Value)} {oc8 kV8 dc8 pm8 cd8 ct8 : Value}
    (a8 : PySem.W.nsIn K mainGlobals "_law_begun" = some (some (.ref f8))) (l8 : K.lookup f8 = some ⟨oc8, od8, .func (PySem.W.fnOf "_law_begun" "_law_begun" (defArgs s_law_begun) (defBody s_law_begun) (defScope s_law_begun) .none kV8 dc8 pm8 an8 cd8 ct8), sl8⟩) (c8 : PySem.W.codeIn K cd8 "_law_begun" = true) (k8 : PySem.W.keepIn K (.ref f8) = true)
    {f9 : Addr} {od9 an9 : Option Addr} {sl9 : Array (Option Value)} {oc9 kV9 dc9 pm9 cd9 ct9 : Value}
    (a9 : PySem.W.nsIn K mainGlobals "_law_draw" = some (some (.ref f9))) (l9 : K.lookup f9 = some ⟨oc9, od9, .func (PySem.W.fnOf "_law_draw" "_law_draw" (defArgs s_law_draw) (defBody s_law_draw) (defScope s_law_draw) .none kV9 dc9 pm9 an9 cd9 ct9), sl9⟩) (c9 : PySem.W.codeIn K cd9 "_law_draw" = true) (k9 : PySem.W.keepIn K (.ref f9) = true)
    {f10 : Addr} {od10 an10 : Option Addr} {sl10 : Array (Option Value)} {oc10 kV10 dc10 pm10 cd10 ct10 : Value}
    (a10 : PySem.W.nsIn K mainGlobals "_law_of" = some (some (.ref f10))) (l10 : K.lookup f10 = some ⟨oc10, od10, .func (PySem.W.fnOf "_law_of" "_law_of" (defArgs s_law_of) (defBody s_law_of) (defScope s_law_of) .none kV10 dc10 pm10 an10 cd10 ct10), sl10⟩) (c10 : PySem.W.codeIn K cd10 "_law_of" = true) (k10 : PySem.W.keepIn K (.ref f10) = true)
    {f11 : Addr} {od11 an11 : Option Addr} {sl11 : Array (Option Value)} {oc11 kV11 dc11 pm11 cd11 ct11 : Value}
    (a11 : PySem.W.nsIn K mainGlobals "_law_near" = some (some (.ref f11))) (l11 : K.lookup f11 = some ⟨oc11, od11, .func (PySem.W.fnOf "_law_near" "_law_near" (defArgs s_law_near) (defBody s_law_near) (defScope s_law_near) .none kV11 dc11 pm11 an11 cd11 ct11), sl11⟩) (c11 : PySem.W.codeIn K cd11 "_law_near" = true) (k11 : PySem.W.keepIn K (.ref f11) = true)
    {f12 : Addr} {od12 an12 : Option Addr} {sl12 : Array (Option Value)} {oc12 kV12 dc12 pm12 cd12 ct12 : Value}
    (a12 : PySem.W.nsIn K mainGlobals "_law_made" = some (some (.ref f12))) (l12 : K.lookup f12 = some ⟨oc12, od12, .func (PySem.W.fnOf "_law_made" "_law_made" (defArgs s_law_made) (defBody s_law_made) (defScope s_law_made) .none kV12 dc12 pm12 an12 cd12 ct12), sl12⟩) (c12 : PySem.W.codeIn K cd12 "_law_made" = true) (k12 : PySem.W.keepIn K (.ref f12) = true)
    {f13 : Addr} {od13 an13 : Option Addr} {sl13 : Array (Option Value)} {oc13 kV13 dc13 pm13 cd13 ct13 : Value}
    (a13 : PySem.W.nsIn K mainGlobals "_law_shape" = some (some (.ref f13))) (l13 : K.lookup f13 = some ⟨oc13, od13, .func (PySem.W.fnOf "_law_shape" "_law_shape" (defArgs s_law_shape) (defBody s_law_shape) (defScope s_law_shape) .none kV13 dc13 pm13 an13 cd13 ct13), sl13⟩) (c13 : PySem.W.codeIn K cd13 "_law_shape" = true) (k13 : PySem.W.keepIn K (.ref f13) = true)
    {f14 : Addr} {od14 an14 : Option Addr} {sl14 : Array (Option Value)} {oc14 kV14 dc14 pm14 cd14 ct14 : Value}
    (a14 : PySem.W.nsIn K mainGlobals "_law_tree" = some (some (.ref f14))) (l14 : K.lookup f14 = some ⟨oc14, od14, .func (PySem.W.fnOf "_law_tree" "_law_tree" (defArgs s_law_tree) (defBody s_law_tree) (defScope s_law_tree) .none kV14 dc14 pm14 an14 cd14 ct14), sl14⟩) (c14 : PySem.W.codeIn K cd14 "_law_tree" = true) (k14 : PySem.W.keepIn K (.ref f14) = true)
    {f15 : Addr} {od15 an15 : Option Addr} {sl15 : Array (Option Value)} {oc15 kV15 dc15 pm15 cd15 ct15 : Value}
    (a15 : PySem.W.nsIn K mainGlobals "_law_listed" = some (some (.ref f15))) (l15 : K.lookup f15 = some ⟨oc15, od15, .func (PySem.W.fnOf "_law_listed" "_law_listed" (defArgs s_law_listed) (defBody s_law_listed) (defScope s_law_listed) .none kV15 dc15 pm15 an15 cd15 ct15), sl15⟩) (c15 : PySem.W.codeIn K cd15 "_law_listed" = true) (k15 : PySem.W.keepIn K (.ref f15) = true)
    {f16 : Addr} {od16 an16 : Option Addr} {sl16 : Array (Option Value)} {oc16 kV16 dc16 pm16 cd16 ct16 : Value}
    (a16 : PySem.W.nsIn K mainGlobals "_law_shuffled" = some (some (.ref f16))) (l16 : K.lookup f16 = some ⟨oc16, od16, .func (PySem.W.fnOf "_law_shuffled" "_law_shuffled" (defArgs s_law_shuffled) (defBody s_law_shuffled) (defScope s_law_shuffled) .none kV16 dc16 pm16 an16 cd16 ct16), sl16⟩) (c16 : PySem.W.codeIn K cd16 "_law_shuffled" = true) (k16 : PySem.W.keepIn K (.ref f16) = true)
    {f17 : Addr} {od17 an17 : Option Addr} {sl17 : Array (Option Value)} {oc17 kV17 dc17 pm17 cd17 ct17 : Value}
    (a17 : PySem.W.nsIn K mainGlobals "_law_path" = some (some (.ref f17))) (l17 : K.lookup f17 = some ⟨oc17, od17, .func (PySem.W.fnOf "_law_path" "_law_path" (defArgs s_law_path) (defBody s_law_path) (defScope s_law_path) .none kV17 dc17 pm17 an17 cd17 ct17), sl17⟩) (c17 : PySem.W.codeIn K cd17 "_law_path" = true) (k17 : PySem.W.keepIn K (.ref f17) = true)
    {f18 : Addr} {od18 an18 : Option Addr} {sl18 : Array (Option Value)} {oc18 kV18 dc18 pm18 cd18 ct18 : Value}
    (a18 : PySem.W.nsIn K mainGlobals "law" = some (some (.ref f18))) (l18 : K.lookup f18 = some ⟨oc18, od18, .func (PySem.W.fnOf "law" "law" (defArgs s_law) (defBody s_law) (defScope s_law) .none kV18 dc18 pm18 an18 cd18 ct18), sl18⟩) (c18 : PySem.W.codeIn K cd18 "law" = true) (k18 : PySem.W.keepIn K (.ref f18) = true)
    (z_dict : PySem.W.nsIn K mainGlobals "dict" = some none)
    (z_enumerate : PySem.W.nsIn K mainGlobals "enumerate" = some none)
    (z_int : PySem.W.nsIn K mainGlobals "int" = some none)
    (z_len : PySem.W.nsIn K mainGlobals "len" = some none)
    (z_list : PySem.W.nsIn K mainGlobals "list" = some none)
    (z_max : PySem.W.nsIn K mainGlobals "max" = some none)
    (z_min : PySem.W.nsIn K mainGlobals "min" = some none)
    (z_range : PySem.W.nsIn K mainGlobals "range" = some none)
    (z_sorted : PySem.W.nsIn K mainGlobals "sorted" = some none)
    (z_tuple : PySem.W.nsIn K mainGlobals "tuple" = some none)
    : ∃ fd : FuncData, (∀ (s : Shared) (v : Value), BindsTo s fd ⟨[v], []⟩ [("script", v)]) ∧ ∀ base : Heap, K.In base → base.Ns mainGlobals mg → FnOk l.prog w K mg base CX0 5 fa fd ["script"] (sp_law K) := by
  have e := hfa.symm.trans (PySem.W.mg_of X G a18)
  cases e
  have F0 := fun_mk (st := s_neighbour_lists) l0 c0 k0
  have b0 := F0.binds (ps := ["tree"]) fun _ _ _ _ _ _ us hl => match us, hl with | [_], _ => rfl
  have F1 := fun_mk (st := s_neighbours) l1 c1 k1
  have b1 := F1.binds (ps := ["tree", "place"]) fun _ _ _ _ _ _ us hl => match us, hl with | [_, _], _ => rfl
  have F2 := fun_mk (st := s_leaves) l2 c2 k2
  have b2 := F2.binds (ps := ["tree"]) fun _ _ _ _ _ _ us hl => match us, hl with | [_], _ => rfl
  have F3 := fun_mk (st := s_joints) l3 c3 k3
  have b3 := F3.binds (ps := ["tree"]) fun _ _ _ _ _ _ us hl => match us, hl with | [_], _ => rfl
  have F4 := fun_mk (st := s_walk) l4 c4 k4
  have b4 := F4.binds (ps := ["tree", "root"]) fun _ _ _ _ _ _ us hl => match us, hl with | [_, _], _ => rfl
  have F5 := fun_mk (st := s_path) l5 c5 k5
  have b5 := F5.binds (ps := ["tree", "i", "j"]) fun _ _ _ _ _ _ us hl => match us, hl with | [_, _, _], _ => rfl
  have F6 := fun_mk (st := s_tie_of) l6 c6 k6
  have b6 := F6.binds (ps := ["i", "j"]) fun _ _ _ _ _ _ us hl => match us, hl with | [_, _], _ => rfl
  have F7 := fun_mk (st := s_listed) l7 c7 k7
  have b7 := F7.binds (ps := ["tree", "listing"]) fun _ _ _ _ _ _ us hl => match us, hl with | [_, _], _ => rfl
  have F8 := fun_mk (st := s_law_begun) l8 c8 k8
  have b8 := F8.binds (ps := ["script", "k"]) fun _ _ _ _ _ _ us hl => match us, hl with | [_, _], _ => rfl
  have F9 := fun_mk (st := s_law_draw) l9 c9 k9
  have b9 := F9.binds (ps := ["m", "bound"]) fun _ _ _ _ _ _ us hl => match us, hl with | [_, _], _ => rfl
  have F10 := fun_mk (st := s_law_of) l10 c10 k10
  have b10 := F10.binds (ps := ["m", "some"]) fun _ _ _ _ _ _ us hl => match us, hl with | [_, _], _ => rfl
  have F11 := fun_mk (st := s_law_near) l11 c11 k11
  have b11 := F11.binds (ps := ["tree"]) fun _ _ _ _ _ _ us hl => match us, hl with | [_], _ => rfl
  have F12 := fun_mk (st := s_law_made) l12 c12 k12
  have b12 := F12.binds (ps := ["weights", "ties"]) fun _ _ _ _ _ _ us hl => match us, hl with | [_, _], _ => rfl
  have F13 := fun_mk (st := s_law_shape) l13 c13 k13
  have b13 := F13.binds (ps := ["m", "n"]) fun _ _ _ _ _ _ us hl => match us, hl with | [_, _], _ => rfl
  have F14 := fun_mk (st := s_law_tree) l14 c14 k14
  have b14 := F14.binds (ps := ["m", "most", "low", "high"]) fun _ _ _ _ _ _ us hl => match us, hl with | [_, _, _, _], _ => rfl
  have F15 := fun_mk (st := s_law_listed) l15 c15 k15
  have b15 := F15.binds (ps := ["tree", "listing"]) fun _ _ _ _ _ _ us hl => match us, hl with | [_, _], _ => rfl
  have F16 := fun_mk (st := s_law_shuffled) l16 c16 k16
  have b16 := F16.binds (ps := ["m", "count"]) fun _ _ _ _ _ _ us hl => match us, hl with | [_, _], _ => rfl
  have F17 := fun_mk (st := s_law_path) l17 c17 k17
  have b17 := F17.binds (ps := ["near", "i", "j"]) fun _ _ _ _ _ _ us hl => match us, hl with | [_, _, _], _ => rfl
  have F18 := fun_mk (st := s_law) l18 c18 k18
  have b18 := F18.binds (ps := ["script"]) fun _ _ _ _ _ _ us hl => match us, hl with | [_], _ => rfl
  exact ⟨_, fun s v => .of_eq rfl, fun base _ _ => ok_law (T := ⟨f0, _, F0, b0, PySem.W.mg_of X G a0, f1, _, F1, b1, PySem.W.mg_of X G a1, f2, _, F2, b2, PySem.W.mg_of X G a2, f3, _, F3, b3, PySem.W.mg_of X G a3, f4, _, F4, b4, PySem.W.mg_of X G a4, f5, _, F5, b5, PySem.W.mg_of X G a5, f6, _, F6, b6, PySem.W.mg_of X G a6, f7, _, F7, b7, PySem.W.mg_of X G a7, f8, _, F8, b8, PySem.W.mg_of X G a8, f9, _, F9, b9, PySem.W.mg_of X G a9, f10, _, F10, b10, PySem.W.mg_of X G a10, f11, _, F11, b11, PySem.W.mg_of X G a11, f12, _, F12, b12, PySem.W.mg_of X G a12, f13, _, F13, b13, PySem.W.mg_of X G a13, f14, _, F14, b14, PySem.W.mg_of X G a14, f15, _, F15, b15, PySem.W.mg_of X G a15, f16, _, F16, b16, PySem.W.mg_of X G a16, f17, _, F17, b17, PySem.W.mg_of X G a17, fa, _, F18, b18, PySem.W.mg_of X G a18, PySem.W.mg_none_of X G z_dict, PySem.W.mg_none_of X G z_enumerate, PySem.W.mg_none_of X G z_int, PySem.W.mg_none_of X G z_len, PySem.W.mg_none_of X G z_list, PySem.W.mg_none_of X G z_max, PySem.W.mg_none_of X G z_min, PySem.W.mg_none_of X G z_range, PySem.W.mg_none_of X G z_sorted, PySem.W.mg_none_of X G z_tuple⟩)⟩
end Y
open PySem PySem.W PyProof.Rows
set_option maxRecDepth 100000 in
set_option maxHeartbeats 0 in
theorem PySem.Challenge.cw_blowntrees_k01_places_and_listings_holds : PySem.Challenge.rw_blowntrees_k01_places_and_listings.Holds := by
  w_on; o_law; k_head; (case hw => w_witness2)
  k_fill
  refine L2.walk_of (l := PySem.Challenge.rw_blowntrees_k01_places_and_listings) (n := 63) (k := 5) (x := "script") (CX := fun _ => L2.CX0) (sp := fun w => Y.sp_law _) rfl (by decide) rfl ⟨rfl, by decide, by decide⟩ (fun w h Y => PySem.W.kIn_of Y) ?F (fun _ _ a ns hl _ hS => ⟨a, ns, rfl, hS, hl, fun _ => rfl⟩) (fun _ _ _ _ _ h => h)
  case F =>
    intro w mg fa h KX G hmg
    refine' Y.all_mk KX G hmg ?a0 ?l0 ?c0 ?k0 ?a1 ?l1 ?c1 ?k1 ?a2 ?l2 ?c2 ?k2 ?a3 ?l3 ?c3 ?k3 ?a4 ?l4 ?c4 ?k4 ?a5 ?l5 ?c5 ?k5 ?a6 ?l6 ?c6 ?k6 ?a7 ?l7 ?c7 ?k7 ?a8 ?l8 ?c8 ?k8 ?a9 ?l9 ?c9 ?k9 ?a10 ?l10 ?c10 ?k10 ?a11 ?l11 ?c11 ?k11 ?a12 ?l12 ?c12 ?k12 ?a13 ?l13 ?c13 ?k13 ?a14 ?l14 ?c14 ?k14 ?a15 ?l15 ?c15 ?k15 ?a16 ?l16 ?c16 ?k16 ?a17 ?l17 ?c17 ?k17 ?a18 ?l18 ?c18 ?k18 ?z_dict ?z_enumerate ?z_int ?z_len ?z_list ?z_max ?z_min ?z_range ?z_sorted ?z_tuple
    (case a0 => k_is)
    (case l0 => k_is)
    (case c0 => k_is)
    (case k0 => k_is)
    (case a1 => k_is)
    (case l1 => k_is)
    (case c1 => k_is)
    (case k1 => k_is)
    (case a2 => k_is)
    (case l2 => k_is)
    (case c2 => k_is)
    (case k2 => k_is)
    (case a3 => k_is)
    (case l3 => k_is)
    (case c3 => k_is)
    (case k3 => k_is)
    (case a4 => k_is)
    (case l4 => k_is)
    (case c4 => k_is)
    (case k4 => k_is)
    (case a5 => k_is)
    (case l5 => k_is)
    (case c5 => k_is)
    (case k5 => k_is)
    (case a6 => k_is)
    (case l6 => k_is)
    (case c6 => k_is)
    (case k6 => k_is)
    (case a7 => k_is)
    (case l7 => k_is)
    (case c7 => k_is)
    (case k7 => k_is)
    (case a8 => k_is)
    (case l8 => k_is)
    (case c8 => k_is)
    (case k8 => k_is)
    (case a9 => k_is)
    (case l9 => k_is)
    (case c9 => k_is)
    (case k9 => k_is)
    (case a10 => k_is)
    (case l10 => k_is)
    (case c10 => k_is)
    (case k10 => k_is)
    (case a11 => k_is)
    (case l11 => k_is)
    (case c11 => k_is)
    (case k11 => k_is)
    (case a12 => k_is)
    (case l12 => k_is)
    (case c12 => k_is)
    (case k12 => k_is)
    (case a13 => k_is)
    (case l13 => k_is)
    (case c13 => k_is)
    (case k13 => k_is)
    (case a14 => k_is)
    (case l14 => k_is)
    (case c14 => k_is)
    (case k14 => k_is)
    (case a15 => k_is)
    (case l15 => k_is)
    (case c15 => k_is)
    (case k15 => k_is)
    (case a16 => k_is)
    (case l16 => k_is)
    (case c16 => k_is)
    (case k16 => k_is)
    (case a17 => k_is)
    (case l17 => k_is)
    (case c17 => k_is)
    (case k17 => k_is)
    (case a18 => k_is)
    (case l18 => k_is)
    (case c18 => k_is)
    (case k18 => k_is)
    (case z_dict => k_is)
    (case z_enumerate => k_is)
    (case z_int => k_is)
    (case z_len => k_is)
    (case z_list => k_is)
    (case z_max => k_is)
    (case z_min => k_is)
    (case z_range => k_is)
    (case z_sorted => k_is)
    (case z_tuple => k_is)
