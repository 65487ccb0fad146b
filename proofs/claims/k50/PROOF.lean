import PyProof.Rows.All
import Wide.All
import OpenK.AllK
import Wide.FinOn
import HandS.ForMost
import HandS.Walk
import HandS.DictComp
import HandS.TupAny
import HandS.Style
import HandS.Conv
import HandS.SortInts
import HandS.SortRule
import KE.KIndexOf
import KE.GoesMore
import KE.GoesEnum
import PyProof.TupleCall
import HandS.Base
import HandS.Call
import HandS.List
import HandS.Gcd
import HandS.IsInst
import HandS.Wide
import HandS.Zip
import HandS.WideBits
import KE.DataMinMax
import HandS.ExcOwn
import HandS.ExcIs
import HandS.WordsExc
import HandS.Exc
import PyProof.ZipIter
import PyProof.EnumIter
import PyProof.WalksMore
import HandS.Zip0
import PyProof.ListMulRoad
import PyProof.FactsAll.tuple_2
import HandS.TupMul
import HandS.Lambda
import HandS.Ends
import HandS.Deep
import PyProof.ReprReads
import PyProof.ReprRoads
import PyProof.ReprLen
import PyProof.FitsInt
import HandS.HotCalls
import HandS.ExcCtx
import HandS.Hot
import PyProof.Seq
import KE.KMathGC
import HandS.Flow
import PySem.Challenge.RW_blowntrees_k50_cycles_above
set_option Elab.async false
set_option linter.all false
set_option maxRecDepth 100000
set_option maxHeartbeats 4000000
/-! data over the heap, apart from what is held to be changed -/
namespace Y
open PySem PySem.Spec PyProof.Rows L2
theorem same_new {H : Hp} {p : Addr} (h : H p = none) (o : HO) : Same H (upd H p o) := fun b u q => by rw [upd_ne (ne_of_none q h)]; exact q
theorem same_mut {H H' : Hp} {p : Addr} {o : HO} (e : Same H H') (h : H p = none) : Same H (upd H' p o) := fun a u ha => by
  rw [upd_ne (ne_of_none ha h)]
  exact e a u ha
theorem _root_.L2.Same.tup {K : PySem.W.Frag} {H H' : Hp} {a : Addr} {xs : List V} (e : Same H H') (h : SqT K H a xs) : SqT K H' a xs := by
  rcases h with (h | ⟨o, h⟩) | h
  · exact .inl (.inl (e _ _ h))
  · exact .inl (.inr ⟨o, e _ _ h⟩)
  · exact .inr h
/-! ### the heap without some places -/
def wo (H : Hp) (L : List Addr) : Hp := fun b => if b ∈ L then none else H b
theorem wo_in {H : Hp} {L : List Addr} {a : Addr} (h : a ∈ L) : wo H L a = none := by unfold wo; rw [if_pos h]
theorem wo_out {H : Hp} {L : List Addr} {a : Addr} (h : a ∉ L) : wo H L a = H a := by unfold wo; rw [if_neg h]
theorem wo_nil (H : Hp) : wo H [] = H := by funext b; exact wo_out (by simp)
theorem wo_some {H : Hp} {L : List Addr} {a : Addr} {o : HO} (h : wo H L a = some o) : a ∉ L ∧ H a = some o := by
  by_cases m : a ∈ L
  · rw [wo_in m] at h; cases h
  · rw [wo_out m] at h; exact ⟨m, h⟩
theorem wo_le (H : Hp) (L : List Addr) : Same (wo H L) H := fun b o h => (wo_some h).2
theorem wo_mono {H H' : Hp} {L : List Addr} (e : Same H H') : Same (wo H L) (wo H' L) := fun b o h => by
  obtain ⟨m, q⟩ := wo_some h
  rw [wo_out m]; exact e b o q
theorem wo_sub {H : Hp} {L L' : List Addr} (h : ∀ a ∈ L', a ∈ L) : Same (wo H L) (wo H L') := fun b o q => by
  obtain ⟨m, q⟩ := wo_some q
  rw [wo_out fun z => m (h b z)]; exact q
theorem wo_more {H H' : Hp} {L L' : List Addr} (e : Same (wo H L) (wo H' L)) (h : ∀ a ∈ L, a ∈ L') : Same (wo H L') (wo H' L') := fun b o q => by
  obtain ⟨m, q⟩ := wo_some q
  rw [wo_out m]
  have := e b o (by rw [wo_out fun z => m (h b z)]; exact q)
  exact (wo_some this).2
theorem wo_upd_in {H : Hp} {L : List Addr} {a : Addr} {o : HO} (h : a ∈ L) : wo (upd H a o) L = wo H L := by
  funext b
  by_cases m : b ∈ L
  · rw [wo_in m, wo_in m]
  · rw [wo_out m, wo_out m, upd_ne fun e => m (by rw [e]; exact h)]
theorem wo_upd_out {H : Hp} {L : List Addr} {a : Addr} {o : HO} (h : a ∉ L) : wo (upd H a o) L = upd (wo H L) a o := by
  funext b
  by_cases e : b = a
  · subst e
    rw [wo_out h, upd_same, upd_same]
  · by_cases m : b ∈ L
    · rw [wo_in m, upd_ne e, wo_in m]
    · rw [wo_out m, upd_ne e, upd_ne e, wo_out m]
/-- a fresh place kept apart changes nothing for what stood -/
theorem wo_fresh {H : Hp} {L : List Addr} {p : Addr} (h : H p = none) : wo H (p :: L) = wo H L := by
  funext b
  by_cases e : b = p
  · subst e
    rw [wo_in (by simp)]
    by_cases m : b ∈ L
    · rw [wo_in m]
    · rw [wo_out m, h]
  · by_cases m : b ∈ L
    · rw [wo_in m, wo_in (by simp [m])]
    · rw [wo_out m, wo_out (by simp [m, e])]
/-- all of L is known to H -/
def Trk (H : Hp) (L : List Addr) : Prop := ∀ a ∈ L, H a ≠ none
theorem Trk.mono {H H' : Hp} {L : List Addr} (t : Trk H L) (e : Same H H') : Trk H' L := fun a m => by
  cases q : H a with
  | none => exact absurd q (t a m)
  | some o => rw [e a o q]; simp
theorem Trk.fresh {H : Hp} {L : List Addr} (t : Trk H L) {p : Addr} (h : H p = none) : p ∉ L := fun m => t p m h
theorem Trk.cons {H : Hp} {L : List Addr} (t : Trk H L) {p : Addr} (h : H p ≠ none) : Trk H (p :: L) := fun a m => by
  rcases List.mem_cons.mp m with e | m
  · rw [e]; exact h
  · exact t a m
theorem Trk.nil (H : Hp) : Trk H [] := fun a m => by cases m
theorem Trk.upd {H : Hp} {L : List Addr} (t : Trk H L) (p : Addr) (o : HO) : Trk (upd H p o) L := fun a m => by
  by_cases e : a = p
  · rw [e, upd_same]; simp
  · rw [upd_ne e]; exact t a m
theorem Trk.one {H : Hp} {p : Addr} {o : HO} (h : H p = some o) : Trk H [p] := (Trk.nil H).cons (by rw [h]; simp)
theorem Trk.le {H : Hp} {L L' : List Addr} (t : Trk H L) (h : ∀ a ∈ L', a ∈ L) : Trk H L' := fun a m => t a (h a m)
theorem wo_new {H : Hp} {L : List Addr} (t : Trk H L) {p : Addr} (h : H p = none) (o : HO) : wo (upd H p o) L = upd (wo H L) p o := wo_upd_out (t.fresh h)
/-! ### data -/
section
variable {K : PySem.W.Frag} {H H' : Hp}
mutual
theorem dp_mono (e : Same H H') : ∀ {v : V} {d : PyData}, Dp K H v d → Dp K H' v d
  | _, _, .non => .non
  | _, _, .bl b => .bl b
  | _, _, .int i => .int i
  | _, _, .str x => .str x
  | _, _, .lst hs ha => .lst (e.seq hs) (dpAll_mono e ha)
  | _, _, .tup hs ha => .tup (e.tup hs) (dpAll_mono e ha)
theorem dpAll_mono (e : Same H H') : ∀ {xs : List V} {ds : List PyData}, DpAll K H xs ds → DpAll K H' xs ds
  | _, _, .nil => .nil
  | _, _, .cons h t => .cons (dp_mono e h) (dpAll_mono e t)
end
theorem dp_int {v : V} {i : Int} (h : Dp K H v (.int i)) : v = .int i := by cases h; rfl
theorem dp_tup {v : V} {ds : List PyData} (h : Dp K H v (.tuple ds)) : ∃ a xs, v = .ref a ∧ SqT K H a xs ∧ DpAll K H xs ds := by
  cases h with
  | tup hs ha => exact ⟨_, _, rfl, hs, ha⟩
theorem dp_lst {v : V} {ds : List PyData} (h : Dp K H v (.list ds)) : ∃ a xs, v = .ref a ∧ SqL K H a xs ∧ DpAll K H xs ds := by
  cases h with
  | lst hs ha => exact ⟨_, _, rfl, hs, ha⟩
theorem _root_.L2.DpAll.length : ∀ {xs : List V} {ds : List PyData}, DpAll K H xs ds → xs.length = ds.length
  | _, _, .nil => rfl
  | _, _, .cons _ t => congrArg (· + 1) (L2.DpAll.length t)
theorem _root_.L2.DpAll.get : ∀ {xs : List V} {ds : List PyData}, DpAll K H xs ds → ∀ {i : Nat} {d : PyData}, ds[i]? = some d → ∃ x, xs[i]? = some x ∧ Dp K H x d
  | _, _, .cons h t, 0, d, e => by
    cases (Option.some.inj e : _ = d)
    exact ⟨_, rfl, h⟩
  | _, _, .cons h t, i + 1, d, e => L2.DpAll.get t (i := i) e
theorem _root_.L2.DpAll.getV : ∀ {xs : List V} {ds : List PyData}, DpAll K H xs ds → ∀ {i : Nat} {x : V}, xs[i]? = some x → ∃ d, ds[i]? = some d ∧ Dp K H x d
  | _, _, .cons h t, 0, d, e => by
    cases (Option.some.inj e : _ = d)
    exact ⟨_, rfl, h⟩
  | _, _, .cons h t, i + 1, d, e => L2.DpAll.getV t (i := i) e
theorem _root_.L2.DpAll.append : ∀ {xs ys : List V} {ds es : List PyData}, DpAll K H xs ds → DpAll K H ys es → DpAll K H (xs ++ ys) (ds ++ es)
  | _, _, _, _, .nil, q => q
  | _, _, _, _, .cons h t, q => .cons h (L2.DpAll.append t q)
theorem _root_.L2.DpAll.snoc {xs : List V} {ds : List PyData} {x : V} {d : PyData} (h : DpAll K H xs ds) (q : Dp K H x d) : DpAll K H (xs ++ [x]) (ds ++ [d]) := h.append (.cons q .nil)
theorem _root_.L2.DpAll.reverse : ∀ {xs : List V} {ds : List PyData}, DpAll K H xs ds → DpAll K H xs.reverse ds.reverse
  | _, _, .nil => .nil
  | _, _, .cons h t => by
    rw [List.reverse_cons, List.reverse_cons]
    exact (L2.DpAll.reverse t).snoc h
theorem _root_.L2.DpAll.of_get : ∀ {xs : List V} {ds : List PyData}, xs.length = ds.length → (∀ (i : Nat) x d, xs[i]? = some x → ds[i]? = some d → Dp K H x d) → DpAll K H xs ds
  | [], [], _, _ => .nil
  | [], _ :: _, e, _ => by cases e
  | _ :: _, [], e, _ => by cases e
  | x :: xs, d :: ds, e, h => .cons (h 0 x d rfl rfl) (L2.DpAll.of_get (Nat.succ.inj e) fun i y z a b => h (i + 1) y z a b)
def iD (ns : List Int) : List PyData := ns.map PyData.int
def nD (ns : List Nat) : List PyData := ns.map fun (n : Nat) => PyData.int (n : Int)
def iV (ns : List Int) : List V := ns.map V.int
def nV (ns : List Nat) : List V := ns.map fun (n : Nat) => V.int (n : Int)
theorem nD_eq (ns : List Nat) : nD ns = iD (ns.map fun (n : Nat) => (n : Int)) := by unfold nD iD; rw [List.map_map]; rfl
theorem nV_eq (ns : List Nat) : nV ns = iV (ns.map fun (n : Nat) => (n : Int)) := by unfold nV iV; rw [List.map_map]; rfl
theorem dpAll_ints : ∀ {xs : List V} {ns : List Int}, DpAll K H xs (iD ns) ↔ xs = iV ns
  | xs, [] => ⟨fun h => by cases h; rfl, fun e => by rw [e]; exact .nil⟩
  | xs, n :: ns => ⟨fun h => by
      cases h with
      | cons a b => rw [dp_int a, dpAll_ints.mp b]; rfl, fun e => by
      rw [e]
      exact .cons (.int n) (dpAll_ints.mpr rfl)⟩
theorem dpAll_nats {xs : List V} {ns : List Nat} : DpAll K H xs (nD ns) ↔ xs = nV ns := by rw [nD_eq, nV_eq]; exact dpAll_ints
theorem dp_ints {v : V} {ns : List Int} : Dp K H v (.tuple (iD ns)) ↔ ∃ a, v = .ref a ∧ SqT K H a (iV ns) := by
  constructor
  · intro h
    obtain ⟨a, xs, rfl, hs, ha⟩ := dp_tup h
    rw [dpAll_ints.mp ha] at hs
    exact ⟨a, rfl, hs⟩
  · rintro ⟨a, rfl, hs⟩
    exact .tup hs (dpAll_ints.mpr rfl)
theorem dp_intsL {v : V} {ns : List Int} : Dp K H v (.list (iD ns)) ↔ ∃ a, v = .ref a ∧ SqL K H a (iV ns) := by
  constructor
  · intro h
    obtain ⟨a, xs, rfl, hs, ha⟩ := dp_lst h
    rw [dpAll_ints.mp ha] at hs
    exact ⟨a, rfl, hs⟩
  · rintro ⟨a, rfl, hs⟩
    exact .lst hs (dpAll_ints.mpr rfl)
theorem dp_nats {v : V} {ns : List Nat} : Dp K H v (.tuple (nD ns)) ↔ ∃ a, v = .ref a ∧ SqT K H a (nV ns) := by rw [nD_eq, nV_eq]; exact dp_ints
theorem dp_natsL {v : V} {ns : List Nat} : Dp K H v (.list (nD ns)) ↔ ∃ a, v = .ref a ∧ SqL K H a (nV ns) := by rw [nD_eq, nV_eq]; exact dp_intsL
theorem iV_len (ns : List Int) : (iV ns).length = ns.length := List.length_map _
theorem nV_len (ns : List Nat) : (nV ns).length = ns.length := List.length_map _
theorem iD_len (ns : List Int) : (iD ns).length = ns.length := List.length_map _
theorem nD_len (ns : List Nat) : (nD ns).length = ns.length := List.length_map _
theorem iV_get {ns : List Int} {i : Nat} {x : V} (h : (iV ns)[i]? = some x) : ∃ n, ns[i]? = some n ∧ x = .int n := by
  unfold iV at h
  rw [List.getElem?_map] at h
  cases e : ns[i]? with
  | none => rw [e] at h; cases h
  | some n => rw [e] at h; exact ⟨n, rfl, (Option.some.inj h).symm⟩
theorem nV_get {ns : List Nat} {i : Nat} {x : V} (h : (nV ns)[i]? = some x) : ∃ n : Nat, ns[i]? = some n ∧ x = .int n := by
  unfold nV at h
  rw [List.getElem?_map] at h
  cases e : ns[i]? with
  | none => rw [e] at h; cases h
  | some n => rw [e] at h; exact ⟨n, rfl, (Option.some.inj h).symm⟩
theorem iV_at {ns : List Int} {i : Nat} {n : Int} (h : ns[i]? = some n) : (iV ns)[i]? = some (.int n) := by unfold iV; rw [List.getElem?_map, h]; rfl
theorem nV_at {ns : List Nat} {i : Nat} {n : Nat} (h : ns[i]? = some n) : (nV ns)[i]? = some (.int n) := by unfold nV; rw [List.getElem?_map, h]; rfl
/-- a pair of places -/
def pr (p : Nat × Nat) : PyData := .tuple [.int (p.1 : Int), .int (p.2 : Int)]
theorem dp_pr {v : V} {p : Nat × Nat} : Dp K H v (pr p) ↔ ∃ a, v = .ref a ∧ SqT K H a [.int (p.1 : Int), .int (p.2 : Int)] := by
  constructor
  · intro h
    obtain ⟨a, xs, rfl, hs, ha⟩ := dp_tup h
    cases ha with
    | cons h1 t =>
      cases t with
      | cons h2 t =>
        cases t
        rw [dp_int h1, dp_int h2] at hs
        exact ⟨a, rfl, hs⟩
  · rintro ⟨a, rfl, hs⟩
    exact .tup hs (.cons (.int _) (.cons (.int _) .nil))
end
/-! ### a tree as data -/
structure Tr where
  ws : List Int
  ties : List (Nat × Nat)
abbrev Tr.n (t : Tr) : Nat := t.ws.length
def trD (t : Tr) : PyData := .tuple [.tuple (iD t.ws), .tuple (t.ties.map pr)]
theorem dp_tr {K : PySem.W.Frag} {H : Hp} {v : V} {t : Tr} : Dp K H v (trD t) ↔ ∃ a b c ps, v = .ref a ∧ SqT K H a [.ref b, .ref c] ∧ SqT K H b (iV t.ws) ∧ SqT K H c ps ∧ DpAll K H ps (t.ties.map pr) := by
  constructor
  · intro h
    obtain ⟨a, xs, rfl, hs, ha⟩ := dp_tup h
    cases ha with
    | cons h1 q =>
      cases q with
      | cons h2 q =>
        cases q
        obtain ⟨b, rfl, hb⟩ := dp_ints.mp h1
        obtain ⟨c, ps, rfl, hc, hp⟩ := dp_tup h2
        exact ⟨a, b, c, ps, rfl, hs, hb, hc, hp⟩
  · rintro ⟨a, b, c, ps, rfl, hs, hb, hc, hp⟩
    exact .tup hs (.cons (dp_ints.mpr ⟨b, rfl, hb⟩) (.cons (.tup hc hp) .nil))
/-- what a def hands back: data apart from L, all else as it was -/
def Ret (K : PySem.W.Frag) (H : Hp) (L : List Addr) (d : PyData) (Q : VK) : Prop := ∀ v H', Same H H' → Dp K (wo H' L) v d → Q v H'
theorem Ret.same {K : PySem.W.Frag} {H H1 : Hp} {L : List Addr} {d : PyData} {Q : VK} (r : Ret K H L d Q) (e : Same H H1) : Ret K H1 L d Q := fun v H' e' h => r v H' (e.trans e') h
/-! ### a comprehension whose elements are made of data -/
theorem lcw {K : PySem.W.Frag} {J : It} {n : Nat} {G : Hp → Prop} {Yt : Nat → Hp → V → Hp → Prop} (w : Walk J n G Yt) {g : TG} {tt : TT} {te : TE} {vs : List Nat} {σ : L2.St} {H1 : Hp} {Q : Addr → Hp → Prop} (L : List Addr) (f : Nat → Option PyData)
    (hn : n ≤ 100000) (hT : Trk H1 L) (hG : ∀ H', Same H1 H' → G H')
    (hs : ∀ D i x H H' (R : VK) (R0 : Hp → Prop), i < n → Same H1 H → Trk H (D :: L) → Yt i H x H' → (∀ y H4 d, f i = some d → Same H H4 → Dp K (wo H4 (D :: L)) y d → R y H4) → (∀ H4, f i = none → Same H H4 → R0 H4) →
      g x (wipe σ vs) H' fun σ2 H2 => wipe σ2 vs = wipe σ vs ∧ tt σ2 H2 fun b H3 => if b = true then te σ2 H3 R else R0 H3)
    (hd : ∀ D H' ys, H1 D = none → Same H1 H' → H' D = some (.lst ys) → DpAll K (wo H' (D :: L)) ys ((List.range n).filterMap f) → Q D H') :
    ∀ D, H1 D = none → ∃ W : Nat → Nat → Hp → Prop, (∃ m, W 0 m (upd H1 D (.lst []))) ∧ ∀ i m H, W i m H →
      (J.stop i H ∧ Q D H) ∨ (J.go i H ∧ ∃ Nx : Hp → Prop, (∀ H', Nx H' → ∃ m', m' < m ∧ W (i + 1) m' H') ∧ ∀ x H', J.yld i H x H' → g x (wipe σ vs) H' fun σ2 H2 => wipe σ2 vs = wipe σ vs ∧ tt σ2 H2 fun b H3 =>
        if b = true then te σ2 H3 fun y H4 => ∃ acc, H4 D = some (.lst acc) ∧ acc.length < sizeLine ∧ Nx (upd H4 D (.lst (acc ++ [y]))) else Nx H3) := by
  intro D hD
  refine lc_it w (fun i H => Same H1 H ∧ ∃ ys, H D = some (.lst ys) ∧ DpAll K (wo H (D :: L)) ys ((List.range i).filterMap f)) ⟨same_new hD _, [], upd_same, .nil⟩ (fun i H hi p => hG H p.1) ?_ ?_
  · rintro i x H H' hi ⟨s1, ys, hy, ha⟩ y
    have hT' : Trk H (D :: L) := (hT.mono s1).cons (by rw [hy]; simp)
    refine hs D i x H H' _ _ hi s1 hT' y ?_ ?_
    · intro y H4 d hf s2 hd
      refine ⟨ys, s2 D _ hy, ?_, same_mut (s1.trans s2) hD, ys ++ [y], upd_same, ?_⟩
      · have h1 := L2.DpAll.length ha
        have h2 := List.length_filterMap_le f (List.range i)
        rw [List.length_range] at h2
        have h3 : (100000 : Nat) < sizeLine := by decide
        omega
      · rw [List.range_succ, List.filterMap_append, List.filterMap_cons, hf, List.filterMap_nil, wo_upd_in (by simp)]
        exact (dpAll_mono (wo_mono s2) ha).snoc hd
    · intro H4 hf s2
      refine ⟨s1.trans s2, ys, s2 D _ hy, ?_⟩
      rw [List.range_succ, List.filterMap_append, List.filterMap_cons, hf, List.filterMap_nil, List.append_nil]
      exact dpAll_mono (wo_mono s2) ha
  · rintro H ⟨s1, ys, hy, ha⟩
    exact hd D H ys hD s1 hy ha
/-- the made list is data, too -/
theorem made_lst {K : PySem.W.Frag} {H1 H' : Hp} {L : List Addr} {D : Addr} {ys : List V} {ds : List PyData} (hT : Trk H1 L) (hD : H1 D = none) (s : Same H1 H') (h : H' D = some (.lst ys)) (ha : DpAll K (wo H' (D :: L)) ys ds) : Dp K (wo H' L) (.ref D) (.list ds) := by
  refine .lst (.inl (.inl ?_)) (dpAll_mono (wo_sub fun a m => List.mem_cons_of_mem _ m) ha)
  rw [wo_out (hT.fresh hD)]
  exact h
theorem wo_cons_le {H : Hp} {D : Addr} {L : List Addr} : Same (wo H (D :: L)) (wo H L) := wo_sub fun a m => List.mem_cons_of_mem _ m
theorem filterMap_some {α β : Type} (f : α → β) (l : List α) : l.filterMap (fun x => some (f x)) = l.map f := by
  induction l with
  | nil => rfl
  | cons a r ih => rw [List.filterMap_cons, List.map_cons, ih]
theorem filterMap_if {α β : Type} (p : α → Bool) (f : α → β) (l : List α) : l.filterMap (fun x => if p x = true then some (f x) else none) = (l.filter p).map f := by
  induction l with
  | nil => rfl
  | cons a r ih =>
    rw [List.filterMap_cons, List.filter_cons, ih]
    cases p a <;> rfl
theorem sz {n : Nat} (h : n ≤ 100000) : n ≤ sizeLine := Nat.le_trans h (by decide)
theorem szl {n : Nat} (h : n < 100000) : n < sizeLine := Nat.lt_of_lt_of_le h (by decide)
end Y
/-! trees: rooted at any place, non-backtracking ways are one -/
namespace TM
structure Rooted (n : Nat) (adj : Nat → Nat → Prop) (r : Nat) (par dep : Nat → Nat) : Prop where
  root : r < n
  dep0 : dep r = 0
  up : ∀ v, v < n → v ≠ r → par v < n ∧ dep v = dep (par v) + 1
  edge : ∀ u v, adj u v ↔ (u < n ∧ v < n ∧ ((u ≠ r ∧ par u = v) ∨ (v ≠ r ∧ par v = u)))
def IsTree (n : Nat) (adj : Nat → Nat → Prop) : Prop := ∀ r, r < n → ∃ par dep, Rooted n adj r par dep
theorem Rooted.sym {n adj r par dep} (R : Rooted n adj r par dep) {u v : Nat} (h : adj u v) : adj v u := by
  obtain ⟨a, b, c⟩ := (R.edge u v).mp h
  exact (R.edge v u).mpr ⟨b, a, c.symm⟩
theorem isTree_congr {n adj adj'} (h : ∀ u v, adj u v ↔ adj' u v) (T : IsTree n adj) : IsTree n adj' := fun r hr => by
  obtain ⟨par, dep, R⟩ := T r hr
  exact ⟨par, dep, R.root, R.dep0, R.up, fun u v => (h u v).symm.trans (R.edge u v)⟩
theorem isTree_one {adj : Nat → Nat → Prop} (h : ∀ u v, ¬ adj u v) : IsTree 1 adj := fun r hr => by
  refine ⟨fun _ => 0, fun _ => 0, hr, rfl, fun v hv hne => absurd (show v = r by omega) hne, fun u v => ⟨fun a => absurd a (h u v), fun ⟨a, b, c⟩ => ?_⟩⟩
  rcases c with c | c
  · exact absurd (show u = r by omega) c.1
  · exact absurd (show v = r by omega) c.1
theorem isTree_zero {adj : Nat → Nat → Prop} : IsTree 0 adj := fun r hr => absurd hr (Nat.not_lt_zero r)
/-- one more leaf -/
theorem isTree_leaf {n : Nat} {adj adj' : Nat → Nat → Prop} (T : IsTree n adj) {q : Nat} (hq : q < n)
    (h : ∀ u v, adj' u v ↔ (adj u v ∨ (u = q ∧ v = n) ∨ (u = n ∧ v = q))) : IsTree (n + 1) adj' := fun r hr => by
  by_cases e : r = n
  · subst e
    obtain ⟨par, dep, R⟩ := T q hq
    refine ⟨fun v => if v = q then r else par v, fun v => if v = r then 0 else dep v + 1, by omega, by simp, fun v hv hne => ?_, fun u v => ?_⟩
    · have hv' : v < r := by omega
      by_cases evq : v = q
      · subst evq
        have : v ≠ r := by omega
        refine ⟨by simp, ?_⟩
        simp only [if_pos, if_neg this, R.dep0]
      · obtain ⟨h1, h2⟩ := R.up v hv' evq
        have h3 : par v ≠ r := by omega
        refine ⟨by rw [if_neg evq]; omega, ?_⟩
        simp only [if_neg hne, if_neg evq, if_neg h3, h2]
    · rw [h u v, R.edge u v]
      constructor
      · rintro (⟨a, b, c⟩ | ⟨a, b⟩ | ⟨a, b⟩)
        · refine ⟨by omega, by omega, ?_⟩
          rcases c with ⟨c1, c2⟩ | ⟨c1, c2⟩
          · exact .inl ⟨by omega, by rw [if_neg c1]; exact c2⟩
          · exact .inr ⟨by omega, by rw [if_neg c1]; exact c2⟩
        · subst a b
          exact ⟨by omega, by omega, .inl ⟨by omega, by simp⟩⟩
        · subst a b
          exact ⟨by omega, by omega, .inr ⟨by omega, by simp⟩⟩
      · rintro ⟨a, b, ⟨c1, c2⟩ | ⟨c1, c2⟩⟩
        · by_cases euq : u = q
          · rw [if_pos euq] at c2
            exact .inr (.inl ⟨euq, c2.symm⟩)
          · rw [if_neg euq] at c2
            have := R.up u (by omega) euq
            exact .inl ⟨by omega, by omega, .inl ⟨euq, c2⟩⟩
        · by_cases evq : v = q
          · rw [if_pos evq] at c2
            exact .inr (.inr ⟨c2.symm, evq⟩)
          · rw [if_neg evq] at c2
            have := R.up v (by omega) evq
            exact .inl ⟨by omega, by omega, .inr ⟨evq, c2⟩⟩
  · have hr' : r < n := by omega
    obtain ⟨par, dep, R⟩ := T r hr'
    refine ⟨fun v => if v = n then q else par v, fun v => if v = n then dep q + 1 else dep v, by omega, by simp only [if_neg e, R.dep0], fun v hv hne => ?_, fun u v => ?_⟩
    · by_cases evn : v = n
      · have : q ≠ n := by omega
        refine ⟨by rw [if_pos evn]; omega, ?_⟩
        simp only [if_pos evn, if_neg this]
      · obtain ⟨h1, h2⟩ := R.up v (by omega) hne
        have h3 : par v ≠ n := by omega
        refine ⟨by rw [if_neg evn]; omega, ?_⟩
        simp only [if_neg evn, if_neg h3, h2]
    · rw [h u v, R.edge u v]
      constructor
      · rintro (⟨a, b, c⟩ | ⟨a, b⟩ | ⟨a, b⟩)
        · refine ⟨by omega, by omega, ?_⟩
          rcases c with ⟨c1, c2⟩ | ⟨c1, c2⟩
          · exact .inl ⟨c1, by rw [if_neg (by omega)]; exact c2⟩
          · exact .inr ⟨c1, by rw [if_neg (by omega)]; exact c2⟩
        · exact ⟨by omega, by omega, .inr ⟨by omega, by rw [if_pos b]; exact a.symm⟩⟩
        · exact ⟨by omega, by omega, .inl ⟨by omega, by rw [if_pos a]; exact b.symm⟩⟩
      · rintro ⟨a, b, ⟨c1, c2⟩ | ⟨c1, c2⟩⟩
        · by_cases eun : u = n
          · rw [if_pos eun] at c2
            exact .inr (.inr ⟨eun, c2.symm⟩)
          · rw [if_neg eun] at c2
            have := R.up u (by omega) c1
            exact .inl ⟨by omega, by omega, .inl ⟨c1, c2⟩⟩
        · by_cases evn : v = n
          · rw [if_pos evn] at c2
            exact .inr (.inl ⟨c2.symm, evn⟩)
          · rw [if_neg evn] at c2
            have := R.up v (by omega) c1
            exact .inl ⟨by omega, by omega, .inr ⟨c1, c2⟩⟩
/-- numbered otherwise -/
theorem isTree_listed {n : Nat} {adj adj' : Nat → Nat → Prop} (T : IsTree n adj) {f g : Nat → Nat} (hf : ∀ v, v < n → f v < n ∧ g (f v) = v) (hg : ∀ v, v < n → g v < n ∧ f (g v) = v)
    (h : ∀ u v, adj' u v ↔ (u < n ∧ v < n ∧ adj (f u) (f v))) : IsTree n adj' := fun r hr => by
  obtain ⟨par, dep, R⟩ := T (f r) (hf r hr).1
  refine ⟨fun v => g (par (f v)), fun v => dep (f v), hr, R.dep0, fun v hv hne => ?_, fun u v => ?_⟩
  · have hfne : f v ≠ f r := fun e => hne (by rw [← (hf v hv).2, ← (hf r hr).2, e])
    obtain ⟨h1, h2⟩ := R.up (f v) (hf v hv).1 hfne
    exact ⟨(hg _ h1).1, by show dep (f v) = dep (f (g (par (f v)))) + 1; rw [(hg _ h1).2]; exact h2⟩
  · have key : ∀ u v, u < n → v < n → ((f u ≠ f r ∧ par (f u) = f v) ↔ (u ≠ r ∧ g (par (f u)) = v)) := fun u v hu hv => by
      constructor
      · rintro ⟨a, b⟩
        exact ⟨fun e => a (by rw [e]), by rw [b]; exact (hf v hv).2⟩
      · rintro ⟨a, b⟩
        have hfne : f u ≠ f r := fun e => a (by rw [← (hf u hu).2, ← (hf r hr).2, e])
        exact ⟨hfne, by rw [← b]; exact ((hg _ (R.up _ (hf u hu).1 hfne).1).2).symm⟩
    rw [h u v]
    constructor
    · rintro ⟨a, b, c⟩
      obtain ⟨_, _, d⟩ := (R.edge _ _).mp c
      refine ⟨a, b, ?_⟩
      rcases d with d | d
      · exact .inl ((key u v a b).mp d)
      · exact .inr ((key v u b a).mp d)
    · rintro ⟨a, b, d⟩
      refine ⟨a, b, (R.edge _ _).mpr ⟨(hf u a).1, (hf v b).1, ?_⟩⟩
      rcases d with d | d
      · exact .inl ((key u v a b).mpr d)
      · exact .inr ((key v u b a).mpr d)
/-! ### ways up -/
/-- the list leads from its head along par to r -/
inductive Up (par : Nat → Nat) (r : Nat) : List Nat → Prop
  | last : Up par r [r]
  | step {v w : Nat} {l : List Nat} : v ≠ r → par v = w → Up par r (w :: l) → Up par r (v :: w :: l)
theorem Up.uniq {par r} : ∀ {l m : List Nat}, Up par r l → Up par r m → l.head? = m.head? → l = m := by
  intro l m h
  induction h generalizing m with
  | last =>
    intro hm e
    cases hm with
    | last => rfl
    | step a b c =>
      simp at e
      exact absurd e.symm a
  | step a b c ih =>
    intro hm e
    cases hm with
    | last =>
      simp at e
      exact absurd e a
    | step a' b' c' =>
      simp at e
      subst e
      rw [b] at b'
      subst b'
      rw [ih c' rfl]
/-- consecutive ones are neighbours and no step is taken back at once -/
inductive NB (adj : Nat → Nat → Prop) : List Nat → Prop
  | one (v : Nat) : NB adj [v]
  | two {v w : Nat} : adj v w → NB adj [v, w]
  | more {u v w : Nat} {l : List Nat} : adj u v → u ≠ w → NB adj (v :: w :: l) → NB adj (u :: v :: w :: l)
theorem NB.up {n adj r par dep} (R : Rooted n adj r par dep) : ∀ {l : List Nat}, NB adj l → l.getLast? = some r → Up par r l := by
  intro l h
  induction h with
  | one v =>
    intro e
    simp at e
    subst e
    exact .last
  | two a =>
    intro e
    simp at e
    subst e
    obtain ⟨_, _, c⟩ := (R.edge _ _).mp a
    rcases c with ⟨c1, c2⟩ | ⟨c1, _⟩
    · exact .step c1 c2 .last
    · exact absurd rfl c1
  | more a ne hb ih =>
    intro e
    have hu := ih (by simpa using e)
    obtain ⟨_, _, c⟩ := (R.edge _ _).mp a
    rcases c with ⟨c1, c2⟩ | ⟨c1, c2⟩
    · exact .step c1 c2 hu
    · cases hu with
      | step a' b' c' =>
        rw [c2] at b'
        exact absurd b' ne
theorem Up.last? {par r} : ∀ {l : List Nat}, Up par r l → l.getLast? = some r := by
  intro l h
  induction h with
  | last => rfl
  | step a b c ih => simpa using ih
theorem Up.nb {n adj r par dep} (R : Rooted n adj r par dep) : ∀ {l : List Nat}, Up par r l → (∀ v ∈ l, v < n) → NB adj l := by
  intro l h
  induction h with
  | last => intro _; exact .one _
  | @step v w l a b c ih =>
    intro hl
    have hw : w < n := hl w (by simp)
    have hv : v < n := hl v (by simp)
    have e : adj v w := (R.edge _ _).mpr ⟨hv, hw, .inl ⟨a, b⟩⟩
    have q := ih fun x m => hl x (List.mem_cons_of_mem _ m)
    cases c with
    | last => exact .two e
    | step a' b' c' =>
      refine .more e (fun ee => ?_) q
      subst ee
      have h1 := (R.up _ hv a).2
      have h2 := (R.up _ hw a').2
      rw [b] at h1
      rw [b'] at h2
      omega
theorem NB.snoc {adj : Nat → Nat → Prop} : ∀ {l : List Nat} {u v : Nat}, NB adj (l ++ [u]) → adj u v → l.getLast? ≠ some v → NB adj (l ++ [u, v]) := by
  intro l
  induction l with
  | nil =>
    intro u v _ a _
    exact .two a
  | cons x r ih =>
    intro u v h a ne
    cases r with
    | nil =>
      cases h with
      | two b => exact .more b (fun e => ne (by simp [e])) (.two a)
    | cons y r' =>
      have key : NB adj ((y :: r') ++ [u]) ∧ adj x y ∧ ∀ z, (r' ++ [u]).head? = some z → x ≠ z := by
        cases r' with
        | nil =>
          cases h with
          | more b ne hb => exact ⟨hb, b, fun z e => by simp at e; subst e; exact ne⟩
        | cons z r'' =>
          cases h with
          | more b ne hb => exact ⟨hb, b, fun z e => by simp at e; subst e; exact ne⟩
      obtain ⟨k1, k2, k3⟩ := key
      have q := ih (u := u) (v := v) k1 a (by simpa using ne)
      cases r' with
      | nil => exact .more k2 (k3 u rfl) q
      | cons z r'' => exact .more k2 (k3 z rfl) q
theorem NB.reverse {adj : Nat → Nat → Prop} (sy : ∀ u v, adj u v → adj v u) : ∀ {l : List Nat}, NB adj l → NB adj l.reverse := by
  intro l h
  induction h with
  | one v => exact .one v
  | two a => exact .two (sy _ _ a)
  | @more u v w l a ne hb ih =>
    have e : (u :: v :: w :: l).reverse = (w :: l).reverse ++ [v, u] := by simp
    rw [e]
    refine NB.snoc ?_ (sy _ _ a) ?_
    · have e2 : (v :: w :: l).reverse = (w :: l).reverse ++ [v] := by simp
      rw [e2] at ih
      exact ih
    · rw [List.getLast?_reverse]
      simp
      exact fun e => ne e.symm
theorem NB.map {adj adj' : Nat → Nat → Prop} {f : Nat → Nat} {n : Nat} (hf : ∀ u v, u < n → v < n → f u = f v → u = v) (ha : ∀ u v, adj u v → adj' (f u) (f v)) : ∀ {l : List Nat}, NB adj l → (∀ v ∈ l, v < n) → NB adj' (l.map f) := by
  intro l h
  induction h with
  | one v => intro _; exact .one _
  | two a => intro _; exact .two (ha _ _ a)
  | more a ne hb ih =>
    intro hl
    exact .more (ha _ _ a) (fun e => ne (hf _ _ (hl _ (by simp)) (hl _ (by simp)) e)) (ih fun x m => hl x (List.mem_cons_of_mem _ m))
/-- the way from v up -/
def upto (par : Nat → Nat) : Nat → Nat → List Nat
  | 0, v => [v]
  | k + 1, v => v :: upto par k (par v)
theorem upto_head (par : Nat → Nat) (k v : Nat) : (upto par k v).head? = some v := by cases k <;> rfl
theorem upto_len (par : Nat → Nat) : ∀ (k v : Nat), (upto par k v).length = k + 1
  | 0, v => rfl
  | k + 1, v => by show (upto par k (par v)).length + 1 = _; rw [upto_len]
theorem upto_up {n adj r par dep} (R : Rooted n adj r par dep) : ∀ (k v : Nat), v < n → dep v = k → Up par r (upto par k v)
  | 0, v, hv, hk => by
    have e : v = r := by
      refine Classical.byContradiction fun ne => ?_
      have := (R.up v hv ne).2
      omega
    subst e
    exact .last
  | k + 1, v, hv, hk => by
    have ne : v ≠ r := fun e => by rw [e, R.dep0] at hk; omega
    obtain ⟨h1, h2⟩ := R.up v hv ne
    have q := upto_up R k (par v) h1 (by omega)
    show Up par r (v :: upto par k (par v))
    cases k with
    | zero => exact .step ne rfl q
    | succ k => exact .step ne rfl q
theorem upto_lt {n adj r par dep} (R : Rooted n adj r par dep) : ∀ (k v : Nat), v < n → dep v = k → ∀ x ∈ upto par k v, x < n ∧ dep x ≤ k
  | 0, v, hv, hk, x, hx => by
    have : x = v := by simpa [upto] using hx
    subst this
    exact ⟨hv, by omega⟩
  | k + 1, v, hv, hk, x, hx => by
    have ne : v ≠ r := fun e => by rw [e, R.dep0] at hk; omega
    obtain ⟨h1, h2⟩ := R.up v hv ne
    rcases List.mem_cons.mp hx with e | m
    · subst e
      exact ⟨hv, by omega⟩
    · have := upto_lt R k (par v) h1 (by omega) x m
      exact ⟨this.1, by omega⟩
theorem upto_nodup {n adj r par dep} (R : Rooted n adj r par dep) : ∀ (k v : Nat), v < n → dep v = k → (upto par k v).Nodup
  | 0, v, hv, hk => by simp [upto]
  | k + 1, v, hv, hk => by
    have ne : v ≠ r := fun e => by rw [e, R.dep0] at hk; omega
    obtain ⟨h1, h2⟩ := R.up v hv ne
    refine List.nodup_cons.mpr ⟨fun m => ?_, upto_nodup R k (par v) h1 (by omega)⟩
    have := (upto_lt R k (par v) h1 (by omega) v m).2
    omega
theorem nodup_le : ∀ (n : Nat) (l : List Nat), l.Nodup → (∀ x ∈ l, x < n) → l.length ≤ n
  | 0, l, _, h => by
    cases l with
    | nil => exact Nat.le_refl _
    | cons a r => exact absurd (h a (by simp)) (by omega)
  | n + 1, l, hn, h => by
    have q := nodup_le n (l.erase n) (hn.erase n) fun x m => by
      have h1 := h x (List.mem_of_mem_erase m)
      have h2 : x ≠ n := fun e => by
        subst e
        exact (List.Nodup.not_mem_erase hn) m
      omega
    by_cases hm : n ∈ l
    · have := List.length_erase_of_mem hm
      have : 0 < l.length := List.length_pos_of_mem hm
      omega
    · rw [List.erase_of_not_mem hm] at q
      omega
theorem dep_lt {n adj r par dep} (R : Rooted n adj r par dep) {v : Nat} (hv : v < n) : dep v < n := by
  have := nodup_le n _ (upto_nodup R (dep v) v hv rfl) fun x m => (upto_lt R _ v hv rfl x m).1
  rw [upto_len] at this
  omega
/-- the way from i to j in a tree -/
def way (par dep : Nat → Nat) (i : Nat) : List Nat := upto par (dep i) i
theorem way_uniq {n adj r par dep par' dep'} (R : Rooted n adj r par dep) (R' : Rooted n adj r par' dep') {v : Nat} (hv : v < n) : way par dep v = way par' dep' v := by
  have h1 := upto_up R' _ v hv rfl
  have h2 := (h1.nb R' fun x m => (upto_lt R' _ v hv rfl x m).1).up R h1.last?
  exact (upto_up R _ v hv rfl).uniq h2 ((upto_head _ _ _).trans (upto_head _ _ _).symm)
theorem way_back {n adj i j par dep par' dep'} (R : Rooted n adj j par dep) (R' : Rooted n adj i par' dep') : way par dep i = (way par' dep' j).reverse := by
  have h1 := upto_up R' _ j R.root rfl
  have hn := (h1.nb R' fun x m => (upto_lt R' _ j R.root rfl x m).1).reverse (fun u v h => R.sym h)
  have h2 := hn.up R (by rw [List.getLast?_reverse]; exact upto_head _ _ _)
  refine (upto_up R _ i R'.root rfl).uniq h2 ?_
  rw [upto_head, List.head?_reverse]
  exact h1.last?.symm
theorem way_map {n adj adj' r par dep par' dep'} {f : Nat → Nat} (hf : ∀ u v, u < n → v < n → f u = f v → u = v) (ha : ∀ u v, adj u v → adj' (f u) (f v))
    (R : Rooted n adj r par dep) (R' : Rooted n adj' (f r) par' dep') {v : Nat} (hv : v < n) (hfv : f v < n) : (way par dep v).map f = way par' dep' (f v) := by
  have h1 := upto_up R _ v hv rfl
  have hn := (h1.nb R fun x m => (upto_lt R _ v hv rfl x m).1).map hf ha fun x m => (upto_lt R _ v hv rfl x m).1
  have h2 := hn.up R' (by rw [List.getLast?_map, h1.last?]; rfl)
  refine h2.uniq (upto_up R' _ _ hfv rfl) ?_
  refine Eq.trans ?_ (upto_head par' (dep' (f v)) (f v)).symm
  rw [List.head?_map, upto_head]
  rfl
end TM
namespace Y
open PySem PySem.Spec PyProof.Rows L2
/-! ### the mathematics of trees as pairs -/
def other (v : Nat) (p : Nat × Nat) : Option Nat := if p.1 = v then some p.2 else if p.2 = v then some p.1 else none
def nb (ties : List (Nat × Nat)) (v : Nat) : List Nat := ties.filterMap (other v)
def lexL (p q : Nat × Nat) : Prop := p.1 < q.1 ∨ (p.1 = q.1 ∧ p.2 < q.2)
/-- places in bounds, two of a pair apart, few pairs -/
structure Okt (t : Tr) : Prop where
  few : t.n ≤ 16
  fewT : t.ties.length ≤ 100
  inb : ∀ p ∈ t.ties, p.1 < p.2 ∧ p.2 < t.n
  asc : t.ties.Pairwise lexL
def adjT (ties : List (Nat × Nat)) (u v : Nat) : Prop := (u, v) ∈ ties ∨ (v, u) ∈ ties
structure Tree (t : Tr) : Prop extends Okt t where
  tree : TM.IsTree t.n (adjT t.ties)
theorem nb_mem {ties : List (Nat × Nat)} {u v : Nat} : v ∈ nb ties u ↔ adjT ties u v := by
  unfold nb adjT
  rw [List.mem_filterMap]
  constructor
  · rintro ⟨⟨a, b⟩, hm, e⟩
    unfold other at e
    split at e
    · rename_i h
      simp at h e
      subst h e
      exact .inl hm
    · split at e
      · rename_i h
        simp at h e
        subst h e
        exact .inr hm
      · cases e
  · rintro (h | h)
    · exact ⟨_, h, by unfold other; simp⟩
    · by_cases e : v = u
      · subst e
        exact ⟨_, h, by unfold other; simp⟩
      · exact ⟨_, h, by unfold other; simp [e]⟩
theorem nb_asc {t : Tr} (O : Okt t) (v : Nat) : (nb t.ties v).Pairwise (· < ·) := by
  unfold nb
  rw [List.pairwise_filterMap]
  refine List.Pairwise.imp_of_mem ?_ O.asc
  intro p q hp hq l b hb c hc
  have h1 := O.inb p hp
  have h2 := O.inb q hq
  unfold other at hb hc
  unfold lexL at l
  split at hb
  · simp at hb
    subst hb
    split at hc
    · simp at hc
      subst hc
      omega
    · split at hc
      · simp at hc
        subst hc
        omega
      · cases hc
  · split at hb
    · simp at hb
      subst hb
      split at hc
      · simp at hc
        subst hc
        omega
      · split at hc
        · simp at hc
          subst hc
          omega
        · cases hc
    · cases hb
theorem nb_lt {t : Tr} (O : Okt t) {v u : Nat} (h : u ∈ nb t.ties v) : u < t.n ∧ v < t.n ∧ u ≠ v := by
  rcases nb_mem.mp h with h | h
  · have := O.inb _ h; simp at this; omega
  · have := O.inb _ h; simp at this; omega
theorem nb_nodup {t : Tr} (O : Okt t) (v : Nat) : (nb t.ties v).Nodup := (nb_asc O v).imp fun h => Nat.ne_of_lt h
theorem nb_le {t : Tr} (O : Okt t) (v : Nat) : (nb t.ties v).length ≤ 16 := Nat.le_trans (TM.nodup_le t.n _ (nb_nodup O v) fun x hx => (nb_lt O hx).1) O.few
def nbs (t : Tr) : List (List Nat) := (List.range t.n).map (nb t.ties)
def llD (l : List (List Nat)) : PyData := .list (l.map fun x => .list (nD x))
end Y
namespace Y
open PySem PySem.Spec PyProof.Rows L2
/-- a new list at D of new lists at ps, which hold cs -/
structure LL (H0 H : Hp) (D : Addr) (ps : List Addr) (cs : List (List Nat)) : Prop where
  s : Same H0 H
  d0 : H0 D = none
  d : H D = some (.lst (ps.map V.ref))
  nd : ps.Nodup
  nD : D ∉ ps
  f : ∀ p ∈ ps, H0 p = none
  len : ps.length = cs.length
  cat : ∀ (k : Nat) p c, ps[k]? = some p → cs[k]? = some c → H p = some (.lst (nV c))
theorem LL.app {H0 H : Hp} {D : Addr} {ps : List Addr} {cs : List (List Nat)} (h : LL H0 H D ps cs) {k : Nat} {p : Addr} {c : List Nat} (hp : ps[k]? = some p) (hc : cs[k]? = some c) (j : Nat) :
    LL H0 (upd H p (.lst (nV c ++ [.int j]))) D ps (cs.set k (c ++ [j])) := by
  have hm : p ∈ ps := List.mem_of_getElem? hp
  refine ⟨same_mut h.s (h.f p hm), h.d0, ?_, h.nd, h.nD, h.f, by rw [List.length_set]; exact h.len, ?_⟩
  · rw [upd_ne fun e => h.nD (by rw [e]; exact hm)]
    exact h.d
  · intro k' p' c' hp' hc'
    by_cases e : k' = k
    · subst e
      rw [hp] at hp'
      cases hp'
      obtain ⟨hk, _⟩ := List.getElem?_eq_some_iff.mp hc
      rw [List.getElem?_set_self hk] at hc'
      cases hc'
      rw [upd_same]
      unfold nV
      rw [List.map_append]
      rfl
    · rw [List.getElem?_set_ne (Ne.symm e)] at hc'
      have ne : p' ≠ p := fun q => e (nd_ix h.nd hp' (by rw [q]; exact hp))
      rw [upd_ne ne]
      exact h.cat k' p' c' hp' hc'
theorem LL.new {H0 H : Hp} {D : Addr} {ps : List Addr} {cs : List (List Nat)} (h : LL H0 H D ps cs) {p : Addr} (hp : H p = none) :
    LL H0 (upd (upd H p (.lst [])) D (.lst (ps.map V.ref ++ [.ref p]))) D (ps ++ [p]) (cs ++ [[]]) := by
  have neD : p ≠ D := fun e => by rw [e, h.d] at hp; cases hp
  have nm : p ∉ ps := fun m => by
    obtain ⟨k, hk⟩ := List.mem_iff_getElem?.mp m
    have hk' : k < cs.length := by rw [← h.len]; exact (List.getElem?_eq_some_iff.mp hk).1
    have := h.cat k p _ hk (List.getElem?_eq_getElem hk')
    rw [hp] at this
    cases this
  refine ⟨same_mut (h.s.trans (same_new hp _)) h.d0, h.d0, ?_, ?_, ?_, ?_, by rw [List.length_append, List.length_append, h.len]; rfl, ?_⟩
  · rw [upd_same, List.map_append]
    rfl
  · rw [List.nodup_append]
    exact ⟨h.nd, by simp, fun a ha b hb e => nm (by simp at hb; rw [← hb, ← e]; exact ha)⟩
  · intro m
    rcases List.mem_append.mp m with m | m
    · exact h.nD m
    · simp at m
      exact neD m.symm
  · intro q m
    rcases List.mem_append.mp m with m | m
    · exact h.f q m
    · simp at m
      rw [m]
      exact h.s.free hp
  · intro k q c hq hc
    by_cases hk : k < ps.length
    · rw [List.getElem?_append_left hk] at hq
      rw [List.getElem?_append_left (by rw [← h.len]; exact hk)] at hc
      have m : q ∈ ps := List.mem_of_getElem? hq
      rw [upd_ne fun e => h.nD (by rw [← e]; exact m), upd_ne fun e => nm (by rw [← e]; exact m)]
      exact h.cat k q c hq hc
    · rw [List.getElem?_append_right (by omega)] at hq
      rw [List.getElem?_append_right (by rw [← h.len]; omega)] at hc
      have e0 : k - ps.length = 0 := by
        have := (List.getElem?_eq_some_iff.mp hq).1
        simp at this
        omega
      rw [e0] at hq
      rw [← h.len, e0] at hc
      cases hq
      cases hc
      rw [upd_ne neD, upd_same]
      rfl
theorem LL.same {H0 H H' : Hp} {D : Addr} {ps : List Addr} {cs : List (List Nat)} (h : LL H0 H D ps cs) (e : Same H H') : LL H0 H' D ps cs :=
  ⟨h.s.trans e, h.d0, e _ _ h.d, h.nd, h.nD, h.f, h.len, fun k p c a b => e _ _ (h.cat k p c a b)⟩
theorem LL.dp {K : PySem.W.Frag} {H0 H : Hp} {L : List Addr} {D : Addr} {ps : List Addr} {cs : List (List Nat)} (h : LL H0 H D ps cs) (t : Trk H0 L) : Dp K (wo H L) (.ref D) (llD cs) := by
  refine .lst (xs := ps.map V.ref) (.inl (.inl ?_)) (L2.DpAll.of_get (by simp [h.len]) ?_)
  · rw [wo_out (t.fresh h.d0)]
    exact h.d
  · intro i x d hx hd
    rw [List.getElem?_map] at hx hd
    cases e : ps[i]? with
    | none => rw [e] at hx; cases hx
    | some p =>
      cases e2 : cs[i]? with
      | none => rw [e2] at hd; cases hd
      | some c =>
        rw [e] at hx
        rw [e2] at hd
        cases hx
        cases hd
        refine dp_natsL.mpr ⟨p, rfl, .inl (.inl ?_)⟩
        rw [wo_out (t.fresh (h.f p (List.mem_of_getElem? e)))]
        exact h.cat i p c e e2
theorem nb_snoc (T : List (Nat × Nat)) (p : Nat × Nat) (v : Nat) : nb (T ++ [p]) v = nb T v ++ (other v p).toList := by
  unfold nb
  rw [List.filterMap_append]
  congr 1
theorem cs_step {n i j : Nat} (T : List (Nat × Nat)) (hi : i < n) (hj : j < n) (hij : i ≠ j) :
    (((List.range n).map (nb T)).set i (nb T i ++ [j])).set j (nb T j ++ [i]) = (List.range n).map (nb (T ++ [(i, j)])) := by
  apply List.ext_getElem?
  intro k
  by_cases hk : k < n
  · have e1 : (List.map (nb (T ++ [(i, j)])) (List.range n))[k]? = some (nb (T ++ [(i, j)]) k) := by simp [hk]
    rw [e1, nb_snoc]
    unfold other
    by_cases e : k = j
    · subst e
      rw [List.getElem?_set_self (by simpa using hk)]
      simp [hij]
    · rw [List.getElem?_set_ne (Ne.symm e)]
      by_cases e2 : k = i
      · subst e2
        rw [List.getElem?_set_self (by simp [hk])]
        simp
      · rw [List.getElem?_set_ne (Ne.symm e2)]
        simp [hk, Ne.symm e, Ne.symm e2]
  · rw [List.getElem?_eq_none (by simp; omega), List.getElem?_eq_none (by simp; omega)]
theorem nb_nil (v : Nat) : nb [] v = [] := rfl
/-- what is asked of a def over one tree -/
def spTree (r : Tr → PyData) (K : PySem.W.Frag) : Sp := fun vs H Q _ => ∃ L tv t, vs = [tv] ∧ Trk H L ∧ Okt t ∧ Dp K (wo H L) tv (trD t) ∧ Ret K H L (r t) Q
abbrev sp_neighbour_lists := spTree fun t => llD (nbs t)
end Y
/-! what is left of a tree: the sum over all sets of ties that share no place -/
namespace MT
/-- g with u put in -/
def ins (g : Nat → Bool) (u : Nat) : Nat → Bool := fun x => g x || decide (x = u)
theorem ins_comm (g : Nat → Bool) (u v : Nat) : ins (ins g u) v = ins (ins g v) u := by
  funext x; unfold ins; cases g x <;> cases decide (x = u) <;> cases decide (x = v) <;> rfl
theorem ins_at (g : Nat → Bool) (u x : Nat) : ins g u x = (g x || decide (x = u)) := rfl
theorem ins_same {g : Nat → Bool} {u : Nat} (h : g u = true) : ins g u = g := by
  funext x; unfold ins
  by_cases e : x = u
  · subst e; rw [h]; rfl
  · simp [e]
/-- the product over places -/
def pd (f : Nat → Int) (V : List Nat) : Int := (V.map f).foldr (· * ·) 1
theorem pd_nil (f : Nat → Int) : pd f [] = 1 := rfl
theorem pd_cons (f : Nat → Int) (x : Nat) (V : List Nat) : pd f (x :: V) = f x * pd f V := rfl
theorem pd_app (f : Nat → Int) (V U : List Nat) : pd f (V ++ U) = pd f V * pd f U := by
  induction V with
  | nil => simp [pd]
  | cons x V ih => rw [List.cons_append, pd_cons, pd_cons, ih]; grind
theorem pd_congr {f f' : Nat → Int} {V : List Nat} (h : ∀ x ∈ V, f x = f' x) : pd f V = pd f' V := by
  induction V with
  | nil => rfl
  | cons x V ih => rw [pd_cons, pd_cons, h x (by simp), ih fun y m => h y (by simp [m])]
theorem pd_lin {f f1 f2 : Nat → Int} {p : Nat} {α β : Int} : ∀ {V : List Nat}, V.Nodup → p ∈ V → (∀ x ∈ V, x ≠ p → f x = f1 x ∧ f x = f2 x) → f p = α * f1 p + β * f2 p → pd f V = α * pd f1 V + β * pd f2 V
  | [], _, m, _, _ => by simp at m
  | x :: V, nd, m, h, hp => by
    have nd' := List.nodup_cons.mp nd
    rw [pd_cons, pd_cons, pd_cons]
    by_cases e : x = p
    · subst e
      have e1 : pd f V = pd f1 V := pd_congr fun y hy => (h y (by simp [hy]) (fun z => nd'.1 (by rw [← z]; exact hy))).1
      have e2 : pd f V = pd f2 V := pd_congr fun y hy => (h y (by simp [hy]) (fun z => nd'.1 (by rw [← z]; exact hy))).2
      rw [hp, ← e1, ← e2]; grind
    · have m' : p ∈ V := by
        rcases List.mem_cons.mp m with z | z
        · exact absurd z.symm e
        · exact z
      obtain ⟨h1, h2⟩ := h x (by simp) e
      rw [pd_lin nd'.2 m' (fun y hy => h y (by simp [hy])) hp, ← h1, ← h2]; grind
/-- W: what a place counts alone, B: what it counts when it is taken -/
def M (V : List Nat) (W B : Nat → Int) : List (Nat × Nat) → (Nat → Bool) → Int
  | [], g => pd (fun x => if g x then B x else W x) V
  | p :: E, g => M V W B E g - bif g p.1 || g p.2 then 0 else M V W B E (ins (ins g p.1) p.2)
section
variable {V : List Nat} {W B : Nat → Int}
theorem M_cons (p : Nat × Nat) (E : List (Nat × Nat)) (g : Nat → Bool) : M V W B (p :: E) g = M V W B E g - bif g p.1 || g p.2 then 0 else M V W B E (ins (ins g p.1) p.2) := rfl
theorem M_swap (p q : Nat × Nat) (E : List (Nat × Nat)) (g : Nat → Bool) : M V W B (p :: q :: E) g = M V W B (q :: p :: E) g := by
  obtain ⟨a, b⟩ := p
  obtain ⟨c, d⟩ := q
  simp only [M_cons, ins_at]
  have e : ins (ins (ins (ins g a) b) c) d = ins (ins (ins (ins g c) d) a) b := by
    rw [ins_comm (ins (ins g a) b) c d, ins_comm (ins g a) b d, ins_comm g a d, ins_comm (ins (ins g d) a) b c, ins_comm (ins g d) a c, ins_comm g d c]
  rw [e, decide_eq_decide.mpr (show c = a ↔ a = c from eq_comm), decide_eq_decide.mpr (show c = b ↔ b = c from eq_comm), decide_eq_decide.mpr (show d = a ↔ a = d from eq_comm), decide_eq_decide.mpr (show d = b ↔ b = d from eq_comm)]
  generalize M V W B E (ins (ins (ins (ins g c) d) a) b) = m1
  generalize M V W B E (ins (ins g a) b) = m2
  generalize M V W B E (ins (ins g c) d) = m3
  generalize M V W B E g = m4
  generalize g a = x1
  generalize g b = x2
  generalize g c = x3
  generalize g d = x4
  generalize decide (a = c) = y1
  generalize decide (b = c) = y2
  generalize decide (a = d) = y3
  generalize decide (b = d) = y4
  cases x1 <;> cases x2 <;> cases x3 <;> cases x4 <;> cases y1 <;> cases y2 <;> cases y3 <;> cases y4 <;> simp <;> omega
theorem M_perm {E E' : List (Nat × Nat)} (p : E.Perm E') : ∀ g, M V W B E g = M V W B E' g := by
  induction p with
  | nil => intro g; rfl
  | cons x _ ih => intro g; rw [M_cons, M_cons, ih, ih]
  | swap x y l => intro g; exact M_swap y x l g
  | trans _ _ h1 h2 => intro g; rw [h1, h2]
theorem M_turn (f : Nat × Nat → Nat × Nat) (hf : ∀ p, f p = p ∨ f p = (p.2, p.1)) : ∀ (E : List (Nat × Nat)) (g : Nat → Bool), M V W B (E.map f) g = M V W B E g
  | [], g => rfl
  | p :: E, g => by
    rw [List.map_cons, M_cons, M_cons, M_turn f hf E, M_turn f hf E]
    rcases hf p with e | e
    · rw [e]
    · rw [e]
      show _ - (bif g p.2 || g p.1 then 0 else M V W B E (ins (ins g p.2) p.1)) = _
      rw [Bool.or_comm, ins_comm g p.2 p.1]
/-- nothing touches v -/
def Off (v : Nat) (E : List (Nat × Nat)) : Prop := ∀ p ∈ E, p.1 ≠ v ∧ p.2 ≠ v
theorem M_off {v : Nat} (hv : v ∉ V) : ∀ {E : List (Nat × Nat)} {g : Nat → Bool}, Off v E → M V W B E (ins g v) = M V W B E g
  | [], g, _ => pd_congr fun x hx => by
      rw [ins_at, show decide (x = v) = false from decide_eq_false fun e => hv (by rw [← e]; exact hx), Bool.or_false]
  | p :: E, g, h => by
    have h' : Off v E := fun q hq => h q (by simp [hq])
    obtain ⟨h1, h2⟩ := h p (by simp)
    rw [M_cons, M_cons, M_off hv h', ins_at, ins_at, decide_eq_false h1, decide_eq_false h2, Bool.or_false, Bool.or_false, ins_comm g v, ins_comm _ v, M_off hv h']
theorem M_snoc {v : Nat} : ∀ {E : List (Nat × Nat)} {g : Nat → Bool}, Off v E → M (V ++ [v]) W B E g = (if g v then B v else W v) * M V W B E g
  | [], g, _ => by
    show pd _ _ = _ * pd _ _
    rw [pd_app, pd_cons, pd_nil]; grind
  | p :: E, g, h => by
    have h' : Off v E := fun q hq => h q (by simp [hq])
    obtain ⟨h1, h2⟩ := h p (by simp)
    rw [M_cons, M_cons, M_snoc h', M_snoc h', ins_at, ins_at, decide_eq_false (Ne.symm h1), decide_eq_false (Ne.symm h2), Bool.or_false, Bool.or_false]
    cases g p.1 <;> cases g p.2 <;> simp <;> grind
/-- a place p takes up c and d -/
def up (f : Nat → Int) (p : Nat) (x : Int) : Nat → Int := fun y => if y = p then x else f y
theorem M_lin {p : Nat} {c d : Int} (nd : V.Nodup) (hp : p ∈ V) : ∀ {E : List (Nat × Nat)} {g : Nat → Bool},
    M V (up W p (W p * c - d * B p)) (up B p (B p * c)) E g = c * M V W B E g - (bif g p then 0 else d * M V W B E (ins g p))
  | [], g => by
    show pd _ _ = c * pd _ _ - (bif g p then 0 else d * pd _ _)
    cases hg : g p
    · have := pd_lin (f := fun x => if g x = true then up B p (B p * c) x else up W p (W p * c - d * B p) x) (f1 := fun x => if g x = true then B x else W x) (f2 := fun x => if ins g p x = true then B x else W x) (α := c) (β := -d) nd hp
        (fun x _ ne => by simp [up, ne, ins_at]) (by simp [up, ins_at, hg]; grind)
      rw [this]; simp; grind
    · have := pd_lin (f := fun x => if g x = true then up B p (B p * c) x else up W p (W p * c - d * B p) x) (f1 := fun x => if g x = true then B x else W x) (f2 := fun x => if g x = true then B x else W x) (α := c) (β := 0) nd hp
        (fun x _ ne => by simp [up, ne]) (by simp [up, hg]; grind)
      rw [this]; simp
  | q :: E, g => by
    obtain ⟨a, b⟩ := q
    simp only [M_cons]
    rw [M_lin nd hp, M_lin nd hp]
    have e : ins (ins (ins g a) b) p = ins (ins (ins g p) a) b := by rw [ins_comm _ b p, ins_comm g a p]
    rw [e]
    simp only [ins_at]
    rw [decide_eq_decide.mpr (show a = p ↔ p = a from eq_comm), decide_eq_decide.mpr (show b = p ↔ p = b from eq_comm)]
    generalize M V W B E (ins (ins (ins g p) a) b) = m1
    generalize M V W B E (ins (ins g a) b) = m2
    generalize M V W B E (ins g p) = m3
    generalize M V W B E g = m4
    generalize g a = x1
    generalize g b = x2
    generalize g p = x3
    generalize decide (p = a) = y1
    generalize decide (p = b) = y2
    cases x1 <;> cases x2 <;> cases x3 <;> cases y1 <;> cases y2 <;> simp <;> grind
/-- the last place v, tied to p alone -/
theorem M_leaf {v p : Nat} {E : List (Nat × Nat)} {g : Nat → Bool} (nd : V.Nodup) (hp : p ∈ V) (hv : v ∉ V) (hE : Off v E) (hg : g v = true → W v = B v) :
    M (V ++ [v]) W B ((p, v) :: E) g = M V (up W p (W p * W v - (if g p || g v then 0 else B p * B v))) (up B p (B p * W v)) E g := by
  have e := M_lin (W := W) (B := B) (c := W v) (d := if g v then 0 else B v) (E := E) (g := g) nd hp
  rw [M_cons, M_snoc hE, M_snoc hE, ins_at, decide_eq_true rfl, Bool.or_true, M_off hv hE]
  cases h1 : g p <;> cases h2 : g v
  · simp [h1, h2] at e ⊢
    rw [show W p * W v - B p * B v = W p * W v - B v * B p by grind, e]
  · simp [h1, h2] at e ⊢
    rw [e, hg h2]
  · simp [h1, h2] at e ⊢
    have e2 : M V (up W p (W p * W v)) (up B p (B p * W v)) E g = M V (up W p (W p * W v - B v * B p)) (up B p (B p * W v)) E g := by
      have := M_lin (W := W) (B := B) (c := W v) (d := 0) (E := E) (g := g) nd hp
      simp [h1] at this
      rw [e, this]
    rw [e2, e]
  · simp [h1, h2] at e ⊢
    rw [e, hg h2]
end
end MT
namespace MT
/-- places found one after the other, each behind the next one on its way to the root -/
inductive Grow (r : Nat) (par : Nat → Nat) : List Nat → Prop
  | one : Grow r par [r]
  | more {S : List Nat} {v : Nat} : Grow r par S → v ∉ S → v ≠ r → par v ∈ S → Grow r par (S ++ [v])
theorem Grow.root {r : Nat} {par : Nat → Nat} {S : List Nat} (h : Grow r par S) : r ∈ S := by
  induction h with
  | one => simp
  | more _ _ _ _ ih => simp [ih]
theorem Grow.nd {r : Nat} {par : Nat → Nat} {S : List Nat} (h : Grow r par S) : S.Nodup := by
  induction h with
  | one => simp
  | more _ hv _ _ ih =>
    rw [List.nodup_append]
    exact ⟨ih, by simp, fun a ha b hb e => by simp at hb; exact hv (by rw [← hb, ← e]; exact ha)⟩
theorem Grow.par {r : Nat} {par : Nat → Nat} {S : List Nat} (h : Grow r par S) : ∀ v ∈ S, v ≠ r → par v ∈ S ∧ par v ≠ v := by
  induction h with
  | one => intro v m ne; simp at m; exact absurd m ne
  | @more S v _ hv _ hp ih =>
    intro u m ne
    rcases List.mem_append.mp m with m | m
    · obtain ⟨h1, h2⟩ := ih u m ne
      exact ⟨List.mem_append_left _ h1, h2⟩
    · simp at m
      subst m
      exact ⟨List.mem_append_left _ hp, fun z => hv (by rw [← z]; exact hp)⟩
theorem Grow.app {r : Nat} {par : Nat → Nat} : ∀ {cs S : List Nat}, Grow r par S → cs.Nodup → (∀ c ∈ cs, c ∉ S ∧ c ≠ r ∧ par c ∈ S) → Grow r par (S ++ cs)
  | [], S, h, _, _ => by rw [List.append_nil]; exact h
  | c :: cs, S, h, nd, hc => by
    have nd' := List.nodup_cons.mp nd
    obtain ⟨h1, h2, h3⟩ := hc c (by simp)
    have := Grow.app (cs := cs) (Grow.more h h1 h2 h3) nd'.2 fun d hd => by
      obtain ⟨k1, k2, k3⟩ := hc d (by simp [hd])
      refine ⟨fun m => ?_, k2, List.mem_append_left _ k3⟩
      rcases List.mem_append.mp m with m | m
      · exact k1 m
      · simp at m
        subst m
        exact nd'.1 hd
    rw [List.append_assoc] at this
    exact this
abbrev WB := (Nat → Int) × (Nat → Int)
/-- one place is folded into the next one on its way -/
def step (gone : Nat → Bool) (r : Nat) (par : Nat → Nat) (v : Nat) (s : WB) : WB :=
  if v = r then s else (up s.1 (par v) (s.1 (par v) * s.1 v - (if gone (par v) || gone v then 0 else s.2 (par v) * s.2 v)), up s.2 (par v) (s.2 (par v) * s.1 v))
def fin (gone : Nat → Bool) (r : Nat) (par : Nat → Nat) (S : List Nat) (s : WB) : WB := S.foldr (step gone r par) s
theorem fin_snoc (gone : Nat → Bool) (r : Nat) (par : Nat → Nat) (S : List Nat) (v : Nat) (s : WB) : fin gone r par (S ++ [v]) s = fin gone r par S (step gone r par v s) := by
  unfold fin
  rw [List.foldr_append]
  rfl
/-- the ties to the places on the way -/
def edg (r : Nat) (par : Nat → Nat) (S : List Nat) : List (Nat × Nat) := (S.filter fun v => decide (v ≠ r)).reverse.map fun v => (par v, v)
theorem edg_snoc {r : Nat} {par : Nat → Nat} {S : List Nat} {v : Nat} (h : v ≠ r) : edg r par (S ++ [v]) = (par v, v) :: edg r par S := by
  unfold edg
  rw [List.filter_append, List.reverse_append, List.map_append]
  simp [h]
theorem edg_mem {r : Nat} {par : Nat → Nat} {S : List Nat} {p : Nat × Nat} : p ∈ edg r par S ↔ ∃ v ∈ S, v ≠ r ∧ p = (par v, v) := by
  unfold edg
  simp only [List.mem_map, List.mem_reverse, List.mem_filter, decide_eq_true_eq]
  constructor
  · rintro ⟨v, ⟨h1, h2⟩, rfl⟩; exact ⟨v, h1, h2, rfl⟩
  · rintro ⟨v, h1, h2, rfl⟩; exact ⟨v, ⟨h1, h2⟩, rfl⟩
theorem edg_off {r : Nat} {par : Nat → Nat} {S : List Nat} (h : Grow r par S) {v : Nat} (hv : v ∉ S) : Off v (edg r par S) := by
  intro p hp
  obtain ⟨u, hu, ne, rfl⟩ := edg_mem.mp hp
  exact ⟨fun z => hv (by rw [← z]; exact (h.par u hu ne).1), fun z => hv (by rw [← z]; exact hu)⟩
theorem fin_M {gone : Nat → Bool} {r : Nat} {par : Nat → Nat} {S : List Nat} (h : Grow r par S) : ∀ s : WB, (∀ v, gone v = true → s.1 v = s.2 v) → (fin gone r par S s).1 r = M S s.1 s.2 (edg r par S) gone := by
  induction h with
  | one =>
    intro s inv
    have e : fin gone r par [r] s = s := by simp [fin, step]
    rw [e, show edg r par [r] = [] by simp [edg]]
    show _ = pd _ [r]
    rw [pd_cons, pd_nil]
    cases hg : gone r
    · simp
    · simp [inv r hg]
  | @more S v G hv ne hp ih =>
    intro s inv
    rw [fin_snoc, edg_snoc ne, M_leaf G.nd hp hv (edg_off G hv) (inv v)]
    have e : step gone r par v s = (up s.1 (par v) (s.1 (par v) * s.1 v - (if gone (par v) || gone v then 0 else s.2 (par v) * s.2 v)), up s.2 (par v) (s.2 (par v) * s.1 v)) := by
      unfold step
      rw [if_neg ne]
    rw [e]
    refine ih _ fun u hu => ?_
    simp only [up]
    by_cases eu : u = par v
    · subst eu
      simp [hu, inv _ hu]
    · simp [eu, inv u hu]
/-! ### a place looked at -/
def sm (f : Nat → Int) (l : List Nat) : Int := (l.map f).foldr (· + ·) 0
theorem sm_nil (f : Nat → Int) : sm f [] = 0 := rfl
theorem sm_cons (f : Nat → Int) (x : Nat) (l : List Nat) : sm f (x :: l) = f x + sm f l := rfl
theorem sm_app (f : Nat → Int) (l m : List Nat) : sm f (l ++ m) = sm f l + sm f m := by
  induction l with
  | nil => simp [sm]
  | cons x l ih => rw [List.cons_append, sm_cons, sm_cons, ih]; omega
theorem sm_congr {f f' : Nat → Int} {l : List Nat} (h : ∀ x ∈ l, f x = f' x) : sm f l = sm f' l := by
  induction l with
  | nil => rfl
  | cons x l ih => rw [sm_cons, sm_cons, h x (by simp), ih fun y m => h y (by simp [m])]
theorem sm_add (f f' : Nat → Int) (l : List Nat) : sm (fun x => f x + f' x) l = sm f l + sm f' l := by
  induction l with
  | nil => rfl
  | cons x l ih => rw [sm_cons, sm_cons, sm_cons, ih]; omega
theorem sm_sub (f f' : Nat → Int) (l : List Nat) : sm (fun x => f x - f' x) l = sm f l - sm f' l := by
  induction l with
  | nil => rfl
  | cons x l ih => rw [sm_cons, sm_cons, sm_cons, ih]; omega
theorem sm_mul (c : Int) (f : Nat → Int) (l : List Nat) : sm (fun x => c * f x) l = c * sm f l := by
  induction l with
  | nil => simp [sm]
  | cons x l ih => rw [sm_cons, sm_cons, ih]; grind
theorem sm_one {f f' : Nat → Int} {p : Nat} : ∀ {l : List Nat}, l.Nodup → p ∈ l → (∀ x ∈ l, x ≠ p → f x = f' x) → sm f l = sm f' l + (f p - f' p)
  | [], _, m, _ => by simp at m
  | x :: l, nd, m, h => by
    have nd' := List.nodup_cons.mp nd
    rw [sm_cons, sm_cons]
    by_cases e : x = p
    · subst e
      rw [sm_congr fun y hy => h y (by simp [hy]) fun z => nd'.1 (by rw [← z]; exact hy)]; omega
    · have m' : p ∈ l := by
        rcases List.mem_cons.mp m with z | z
        · exact absurd z.symm e
        · exact z
      rw [sm_one nd'.2 m' (fun y hy => h y (by simp [hy])), h x (by simp) e]; omega
section
variable {V : List Nat} {W B : Nat → Int}
theorem M_at {i : Nat} (nd : V.Nodup) (hi : i ∈ V) (hB : B i = 1) : ∀ {E : List (Nat × Nat)} {g : Nat → Bool}, (∀ p ∈ E, p.1 ≠ p.2) → g i = false →
    M V W B E g = W i * M V W B E (ins g i) - sm (fun j => bif g j then 0 else M V W B E (ins (ins g i) j)) (Y.nb E i)
  | [], g, _, hg => by
    show pd _ _ = W i * pd _ _ - 0
    have := pd_lin (f := fun x => if g x = true then B x else W x) (f1 := fun x => if ins g i x = true then B x else W x) (f2 := fun x => if ins g i x = true then B x else W x) (α := W i) (β := 0) nd hi
      (fun x _ ne => by simp [ne, ins_at]) (by simp [ins_at, hg, hB])
    rw [this]; simp
  | (u, w) :: E, g, hl, hg => by
    have hl' : ∀ p ∈ E, p.1 ≠ p.2 := fun p m => hl p (by simp [m])
    have huw : u ≠ w := hl (u, w) (by simp)
    have enb : Y.nb ((u, w) :: E) i = (Y.other i (u, w)).toList ++ Y.nb E i := by
      unfold Y.nb
      rw [List.filterMap_cons]
      cases Y.other i (u, w) <;> rfl
    rw [enb, sm_app]
    by_cases h1 : u = i
    · subst h1
      have eo : Y.other u (u, w) = some w := by unfold Y.other; simp
      rw [eo]
      show M V W B ((u, w) :: E) g = W u * M V W B ((u, w) :: E) (ins g u) - (sm _ [w] + _)
      have e1 : ∀ g', g' u = true → M V W B ((u, w) :: E) g' = M V W B E g' := fun g' h => by rw [M_cons]; simp [h]
      rw [sm_cons, sm_nil, e1 (ins g u) (by simp [ins_at]), e1 (ins (ins g u) w) (by simp [ins_at]), sm_congr (f' := fun j => bif g j then 0 else M V W B E (ins (ins g u) j)) fun j _ => by rw [e1 (ins (ins g u) j) (by simp [ins_at])]]
      rw [M_cons, M_at nd hi hB hl' hg]
      simp only [hg, Bool.false_or]
      omega
    · by_cases h2 : w = i
      · subst h2
        have eo : Y.other w (u, w) = some u := by unfold Y.other; simp [h1]
        rw [eo]
        show M V W B ((u, w) :: E) g = W w * M V W B ((u, w) :: E) (ins g w) - (sm _ [u] + _)
        have e1 : ∀ g', g' w = true → M V W B ((u, w) :: E) g' = M V W B E g' := fun g' h => by rw [M_cons]; simp [h]
        rw [sm_cons, sm_nil, e1 (ins g w) (by simp [ins_at]), e1 (ins (ins g w) u) (by simp [ins_at]), sm_congr (f' := fun j => bif g j then 0 else M V W B E (ins (ins g w) j)) fun j _ => by rw [e1 (ins (ins g w) j) (by simp [ins_at])]]
        rw [M_cons, M_at nd hi hB hl' hg]
        simp only [hg, Bool.or_false]
        rw [ins_comm g u w]
        omega
      · have eo : Y.other i (u, w) = none := by unfold Y.other; simp [h1, h2]
        rw [eo]
        show M V W B ((u, w) :: E) g = W i * M V W B ((u, w) :: E) (ins g i) - (0 + _)
        rw [M_cons, M_cons, M_at nd hi hB hl' hg]
        cases hc : (g u || g w)
        · have ha : (ins g i u || ins g i w) = false := by
            simp only [ins_at, decide_eq_false h1, decide_eq_false h2, Bool.or_false, hc]
          have hgi : ins (ins g u) w i = false := by simp [ins_at, hg, Ne.symm h1, Ne.symm h2]
          rw [ha]
          simp only [cond_false]
          rw [M_at nd hi hB hl' hgi]
          have e0 : ins (ins (ins g i) u) w = ins (ins (ins g u) w) i := by rw [ins_comm g i u, ins_comm _ i w]
          rw [e0]
          have es : sm (fun j => bif g j then 0 else M V W B ((u, w) :: E) (ins (ins g i) j)) (Y.nb E i) = sm (fun j => (bif g j then 0 else M V W B E (ins (ins g i) j)) - (bif ins (ins g u) w j then 0 else M V W B E (ins (ins (ins (ins g u) w) i) j))) (Y.nb E i) := by
            refine sm_congr fun j _ => ?_
            rw [M_cons]
            simp only [ins_at, decide_eq_false h1, decide_eq_false h2, Bool.or_false]
            have e5 : ins (ins (ins (ins g i) j) u) w = ins (ins (ins (ins g u) w) i) j := by rw [ins_comm _ j u, ins_comm _ j w, e0]
            rw [e5]
            obtain ⟨g1, g2⟩ := Bool.or_eq_false_iff.mp hc
            rw [g1, g2, decide_eq_decide.mpr (show u = j ↔ j = u from eq_comm), decide_eq_decide.mpr (show w = j ↔ j = w from eq_comm)]
            cases g j <;> cases decide (j = u) <;> cases decide (j = w) <;> simp
          rw [es, sm_sub]
          grind
        · have ha : (ins g i u || ins g i w) = true := by
            simp only [ins_at, decide_eq_false h1, decide_eq_false h2, Bool.or_false, hc]
          rw [ha]
          simp only [cond_true]
          have es : sm (fun j => bif g j then 0 else M V W B ((u, w) :: E) (ins (ins g i) j)) (Y.nb E i) = sm (fun j => bif g j then 0 else M V W B E (ins (ins g i) j)) (Y.nb E i) := by
            refine sm_congr fun j _ => ?_
            rw [M_cons]
            have : (ins (ins g i) j u || ins (ins g i) j w) = true := by
              simp only [ins_at, decide_eq_false h1, decide_eq_false h2, Bool.or_false]
              revert hc
              cases g u <;> cases g w <;> simp
            rw [this]
            simp
          rw [es]
          grind
end
end MT
namespace Y
open PySem PySem.Spec PyProof.Rows L2
def leP (p q : Nat × Nat) : Bool := decide (p.1 < q.1 ∨ (p.1 = q.1 ∧ p.2 ≤ q.2))
def sortP (l : List (Nat × Nat)) : List (Nat × Nat) := l.mergeSort leP
theorem leP_iff {p q : Nat × Nat} : leP p q = true ↔ (p.1 < q.1 ∨ (p.1 = q.1 ∧ p.2 ≤ q.2)) := decide_eq_true_iff
theorem sortP_perm (l : List (Nat × Nat)) : (sortP l).Perm l := List.mergeSort_perm _ _
theorem sortP_sorted (l : List (Nat × Nat)) : (sortP l).Pairwise fun p q => leP p q = true := by
  refine List.pairwise_mergeSort (fun a b c h1 h2 => ?_) (fun a b => ?_) l
  · rw [leP_iff] at *
    omega
  · rw [Bool.or_eq_true, leP_iff, leP_iff]
    omega
theorem sortP_uniq {l m : List (Nat × Nat)} (h : l.Pairwise fun p q => leP p q = true) (p : l.Perm m) : l = sortP m := by
  refine List.Perm.eq_of_pairwise (le := fun p q => leP p q = true) (fun a b _ _ h1 h2 => ?_) h (sortP_sorted m) (p.trans (sortP_perm m).symm)
  rw [leP_iff] at h1 h2
  apply Prod.ext <;> omega
theorem sortP_of_perm {l m : List (Nat × Nat)} (p : l.Perm m) : sortP l = sortP m := sortP_uniq (sortP_sorted l) ((sortP_perm l).trans p)
open Classical in
noncomputable def keyAt (K : PySem.W.Frag) (H : Hp) : V → Int × Int
  | .ref t => if h : ∃ p : Int × Int, SqT K H t [.int p.1, .int p.2] then choose h else (0, 0)
  | _ => (0, 0)
theorem keyAt_spec {X : Cx} {pins : List (Addr × Obj)} {σ : L2.St} {H : Hp} {s : Shared} (I : Inv X pins σ H s) {t : Addr} {i j : Int} (h : SqT X.K H t [.int i, .int j]) : keyAt X.K H (.ref t) = (i, j) := by
  have hx : ∃ p : Int × Int, SqT X.K H t [.int p.1, .int p.2] := ⟨(i, j), h⟩
  have e : keyAt X.K H (.ref t) = Classical.choose hx := by
    unfold keyAt
    exact dif_pos hx
  rw [e]
  have q := I.tuple_inj (Classical.choose_spec hx) h
  simp at q
  exact Prod.ext q.1 q.2
/-- sorted(xs), xs a list of pairs of places -/
def rSortedD (K : PySem.W.Frag) : List V → Hp → VK → Prop := fun vs H Q => ∃ (a : Addr) (xs : List V) (H0 : Hp) (ps : List (Nat × Nat)), vs = [V.ref a] ∧ SqL K H a xs ∧ Same H0 H ∧ DpAll K H0 xs (ps.map pr) ∧
  ∀ ys p, DpAll K H0 ys ((sortP ps).map pr) → H p = none → Q (.ref p) (upd H p (.lst ys))
section
variable {X : Cx}
theorem cr_sortedD : CallR X (.builtin "sorted") (rSortedD X.K) := by
  intro pins s σ H vs us Q I r h
  obtain ⟨a, xs, H0, ps, rfl, hs, se, hx, q⟩ := h
  obtain ⟨its, rv, hl, hz⟩ := I.list hs
  obtain ⟨u, rfl, ru⟩ := vals1 r
  obtain rfl : u = Value.ref a := ru
  have el : ∀ {i : Nat} {x : V}, xs[i]? = some x → ∃ t p, x = V.ref t ∧ ps[i]? = some p ∧ Dp X.K H0 x (pr p) ∧ SqT X.K H t [.int (p.1 : Int), .int (p.2 : Int)] ∧ keyAt X.K H x = ((p.1 : Int), (p.2 : Int)) := fun {i x} e => by
    obtain ⟨d, hd, hp⟩ := hx.getV e
    rw [List.getElem?_map] at hd
    cases ep : ps[i]? with
    | none => rw [ep] at hd; cases hd
    | some p =>
      rw [ep] at hd
      cases hd
      obtain ⟨t, rfl, ht⟩ := dp_pr.mp hp
      have ht' := se.tup ht
      exact ⟨t, p, rfl, rfl, hp, ht', keyAt_spec I ht'⟩
  have elm : ∀ {x : V}, x ∈ xs → ∃ t p, x = V.ref t ∧ Dp X.K H0 x (pr p) ∧ SqT X.K H t [.int (p.1 : Int), .int (p.2 : Int)] ∧ keyAt X.K H x = ((p.1 : Int), (p.2 : Int)) := fun {x} m => by
    obtain ⟨i, hi⟩ := List.mem_iff_getElem?.mp m
    obtain ⟨t, p, a, _, b, c, d⟩ := el hi
    exact ⟨t, p, a, b, c, d⟩
  obtain ⟨e1, e2⟩ := refs_back rv fun x m => by
    obtain ⟨t, _, e, _⟩ := elm m
    exact ⟨t, e⟩
  have ekeys : xs.map (fun v => ((keyAt X.K H v).1.toNat, (keyAt X.K H v).2.toNat)) = ps := by
    apply List.ext_getElem?
    intro i
    rw [List.getElem?_map]
    cases ex : xs[i]? with
    | none =>
      have h1 := hx.length
      rw [List.length_map] at h1
      have h2 := List.getElem?_eq_none_iff.mp ex
      exact (List.getElem?_eq_none (by omega)).symm
    | some x =>
      obtain ⟨t, p, _, ep, _, _, ek⟩ := el ex
      rw [ep]
      show some ((keyAt X.K H x).1.toNat, (keyAt X.K H x).2.toNat) = some p
      rw [ek]
      rfl
  refine SrtO.sorted_pairsO (k := fun u => keyAt X.K H (backV u)) hl.isList (by rw [← rv.length]; exact hz) (fun v hv => ?_) fun h' d out h1 h2 kp hd hn => ?_
  · obtain ⟨t, rfl⟩ := e2 v hv
    have hm : V.ref t ∈ xs := by rw [e1]; exact List.mem_map.mpr ⟨_, hv, rfl⟩
    obtain ⟨t', p, e, _, ht, ek⟩ := elm hm
    cases e
    obtain ⟨its2, r2, ⟨o, ho, hc, n, hd⟩, _⟩ := I.tuple ht
    obtain ⟨u1, u2, rfl, ri, rj⟩ := vals2 r2
    obtain ⟨t1, rfl⟩ := ri
    obtain ⟨t2, rfl⟩ := rj
    refine ⟨t, o, t1, t2, n, rfl, ho, hc, ?_⟩
    rw [hd]
    show _ = Data.seq #[.int (keyAt X.K H (.ref t)).1 t1, .int (keyAt X.K H (.ref t)).2 t2] n
    rw [ek]
  · have h3 : ∀ u ∈ out, ∃ a, u = Value.ref a := fun u hu => e2 u (h2.perm.mem_iff.mp hu)
    obtain ⟨n, hn⟩ := hn
    have hp : (out.map backV).Perm xs := by
      rw [e1]
      exact h2.perm.map backV
    have hk : (out.map backV).map (fun v => ((keyAt X.K H v).1.toNat, (keyAt X.K H v).2.toNat)) = sortP ps := by
      refine sortP_uniq ?_ ?_
      · rw [List.map_map, List.pairwise_map]
        have hso : out.Pairwise fun x y => SrtO.lexB (keyAt X.K H (backV y)) (keyAt X.K H (backV x)) = false := h1
        refine List.Pairwise.imp_of_mem ?_ hso
        intro x y hx hy l
        obtain ⟨_, p, _, _, _, ex⟩ := elm (hp.mem_iff.mp (List.mem_map.mpr ⟨x, hx, rfl⟩))
        obtain ⟨_, p', _, _, _, ey⟩ := elm (hp.mem_iff.mp (List.mem_map.mpr ⟨y, hy, rfl⟩))
        have l := SrtO.lexB_no.mp l
        rw [ex, ey] at l
        rw [leP_iff]
        simp only [Function.comp_apply]
        rw [ex, ey]
        simp only [Int.toNat_natCast]
        simp only at l
        omega
      · rw [← ekeys]
        exact hp.map _
    refine ⟨.ref d, upd H d (.lst (out.map backV)), I.laid (t' := s.toks) kp hd ⟨?_, out, n, vals_back h3, hn⟩, rfl, q _ d ?_ (I.hok.fresh hd)⟩
    · rw [hp.length_eq]
      exact hz
    · rw [← hk]
      refine L2.DpAll.of_get (by simp) ?_
      intro i x dd hx2 hd2
      obtain ⟨_, p, _, hdp, _, ek⟩ := elm (hp.mem_iff.mp (List.mem_of_getElem? hx2))
      rw [List.getElem?_map, List.getElem?_map, hx2] at hd2
      cases hd2
      show Dp X.K H0 x (pr ((keyAt X.K H x).1.toNat, (keyAt X.K H x).2.toNat))
      rw [ek]
      exact hdp
end
end Y
namespace Y
open PySem PySem.Spec PyProof.Rows L2
def sp_neighbours (K : PySem.W.Frag) : Sp := fun vs H Q _ => ∃ L tv t, ∃ i : Nat, vs = [tv, .int i] ∧ Trk H L ∧ Okt t ∧ Dp K (wo H L) tv (trD t) ∧ i < t.n ∧ Ret K H L (.tuple (nD (nb t.ties i))) Q
abbrev sp_leaves := spTree fun t => .tuple (nD ((List.range t.n).filter fun v => decide ((nb t.ties v).length ≤ 1)))
abbrev sp_joints := spTree fun t => .tuple (nD ((List.range t.n).filter fun v => decide (3 ≤ (nb t.ties v).length)))
/-- what walk tells: each place once, with its neighbour on the way to the root -/
def stepD (r : Nat) (par : Nat → Nat) (v : Nat) : PyData := .tuple [.int (v : Int), .int (if v = r then -1 else (par v : Int))]
def sp_walk (K : PySem.W.Frag) : Sp := fun vs H Q _ => ∃ L tv t, ∃ r : Nat, vs = [tv, .int r] ∧ Trk H L ∧ Tree t ∧ Dp K (wo H L) tv (trD t) ∧ r < t.n ∧
  ∀ (par dep : Nat → Nat) (S : List Nat), TM.Rooted t.n (adjT t.ties) r par dep → MT.Grow r par S → S.Nodup → (∀ v, v ∈ S ↔ v < t.n) → Ret K H L (.list (S.map (stepD r par))) Q
def sp_path (K : PySem.W.Frag) : Sp := fun vs H Q _ => ∃ L tv t, ∃ i j : Nat, vs = [tv, .int i, .int j] ∧ Trk H L ∧ Tree t ∧ Dp K (wo H L) tv (trD t) ∧ i < t.n ∧ j < t.n ∧
  ∀ par dep, TM.Rooted t.n (adjT t.ties) j par dep → Ret K H L (.tuple (nD (TM.way par dep i))) Q
def mk2 (i j : Nat) : Nat × Nat := (min i j, max i j)
def sp_tie_of (K : PySem.W.Frag) : Sp := fun vs H Q _ => ∃ L, ∃ i j : Nat, vs = [.int i, .int j] ∧ Trk H L ∧ Ret K H L (pr (mk2 i j)) Q
/-- a listing of n places -/
structure Lst (n : Nat) (l : List Nat) : Prop where
  nd : l.Nodup
  all : ∀ v, v ∈ l ↔ v < n
def lstT (t : Tr) (l : List Nat) : Tr := ⟨l.map fun v => t.ws.getD v 0, sortP (t.ties.map fun p => mk2 (l.idxOf p.1) (l.idxOf p.2))⟩
def sp_listed (K : PySem.W.Frag) : Sp := fun vs H Q _ => ∃ L tv lv t l, vs = [tv, lv] ∧ Trk H L ∧ Okt t ∧ Lst t.n l ∧ Dp K (wo H L) tv (trD t) ∧ Dp K (wo H L) lv (.tuple (nD l)) ∧ Ret K H L (trD (lstT t l)) Q
section
variable {K : PySem.W.Frag} {H H' : Hp} {L : List Addr} {l : Addr} {ys : List V} {ds : List PyData}
theorem tup_new (t : Trk H L) (hl : H l = none) (ha : DpAll K (wo H L) ys ds) : Dp K (wo (upd H l (.tup ys)) L) (.ref l) (.tuple ds) := by
  rw [wo_new t hl]
  refine .tup (.inl (.inl upd_same)) (dpAll_mono (same_new ?_ _) ha)
  rw [wo_out (t.fresh hl)]
  exact hl
theorem frz_new (t : Trk H L) (hl : H l = none) (ha : DpAll K (wo H L) ys ds) (o : Obj) : Dp K (wo (upd H l (.frz o (.tup ys))) L) (.ref l) (.tuple ds) := by
  rw [wo_new t hl]
  refine .tup (.inl (.inr ⟨o, upd_same⟩)) (dpAll_mono (same_new ?_ _) ha)
  rw [wo_out (t.fresh hl)]
  exact hl
theorem lst_new (t : Trk H L) (hl : H l = none) (ha : DpAll K (wo H L) ys ds) : Dp K (wo (upd H l (.lst ys)) L) (.ref l) (.list ds) := by
  rw [wo_new t hl]
  refine .lst (.inl (.inl upd_same)) (dpAll_mono (same_new ?_ _) ha)
  rw [wo_out (t.fresh hl)]
  exact hl
theorem pr_new (t : Trk H L) (hl : H l = none) (i j : Nat) : Dp K (wo (upd H l (.tup [.int i, .int j])) L) (.ref l) (pr (i, j)) := tup_new t hl (.cons (.int _) (.cons (.int _) .nil))
theorem llD_get {v : V} {l : List (List Nat)} (h : Dp K H v (llD l)) : ∃ (a : Addr) (xs : List V), v = V.ref a ∧ SqL K H a xs ∧ xs.length = l.length ∧ ∀ (i : Nat) (ns : List Nat), l[i]? = some ns → ∃ b, xs[i]? = some (V.ref b) ∧ SqL K H b (nV ns) := by
  obtain ⟨a, xs, rfl, hs, ha⟩ := dp_lst h
  refine ⟨a, xs, rfl, hs, by rw [ha.length, List.length_map], fun i ns e => ?_⟩
  obtain ⟨x, hx, hd⟩ := ha.get (i := i) (d := .list (nD ns)) (by rw [List.getElem?_map, e]; rfl)
  obtain ⟨b, rfl, hb⟩ := dp_natsL.mp hd
  exact ⟨b, hx, hb⟩
theorem nbs_get {t : Tr} {i : Nat} (h : i < t.n) : (nbs t)[i]? = some (nb t.ties i) := by
  unfold nbs
  simp [h]
theorem nbs_len {t : Tr} : (nbs t).length = t.n := by unfold nbs; simp
end
/-! ### the law's own -/
abbrev kL : Key := Sum.inr "left"
abbrev kS : Key := Sum.inr "seed"
abbrev kC : Key := Sum.inr "cells"
abbrev kP : Key := Sum.inr "spot"
def mD (left seed spot : Int) (c : Addr) : HO := .dK [(kL, .int left), (kS, .int seed), (kC, .ref c), (kP, .int spot)]
/-- the drawing's dict -/
structure MAt (H : Hp) (m c : Addr) (cs : List Int) (b : Nat) : Prop where
  d : ∃ left seed spot : Int, H m = some (mD left seed spot c) ∧ 0 ≤ spot ∧ spot ≤ b
  c : H c = some (.lst (iV cs))
  ne : 0 < cs.length
  few : cs.length ≤ 200
  lim : b ≤ 1000000
theorem MAt.nmc {H m c cs b} (h : MAt H m c cs b) : m ≠ c := by
  obtain ⟨l, s, p, e, _⟩ := h.d
  exact ne_of e h.c (by intro z; cases z)
theorem MAt.mono {H m c cs b b'} (h : MAt H m c cs b) (l : b ≤ b') (lim : b' ≤ 1000000) : MAt H m c cs b' := by
  obtain ⟨a, s, p, e, e0, e1⟩ := h.d
  exact ⟨⟨a, s, p, e, e0, by omega⟩, h.c, h.ne, h.few, lim⟩
theorem MAt.same {H H' m c cs b} (h : MAt H m c cs b) (s : Same H H') : MAt H' m c cs b := by
  obtain ⟨a, z, p, e, e0, e1⟩ := h.d
  exact ⟨⟨a, z, p, s _ _ e, e0, e1⟩, s _ _ h.c, h.ne, h.few, h.lim⟩
theorem MAt.upd {H m c cs b} (h : MAt H m c cs b) {l : Addr} {o : HO} (h1 : l ≠ m) (h2 : l ≠ c) : MAt (upd H l o) m c cs b := by
  obtain ⟨a, z, p, e, e0, e1⟩ := h.d
  exact ⟨⟨a, z, p, by rw [upd_ne h1.symm]; exact e, e0, e1⟩, by rw [upd_ne h2.symm]; exact h.c, h.ne, h.few, h.lim⟩
/-- all but m as it was -/
abbrev SameM (m : Addr) (H H' : Hp) : Prop := Same (wo H [m]) (wo H' [m])
theorem SameM.at {m : Addr} {H H' : Hp} (s : SameM m H H') {a : Addr} {o : HO} (h : H a = some o) (ne : a ≠ m) : H' a = some o := by
  have := s a o (by rw [wo_out (by simpa using ne)]; exact h)
  exact (wo_some this).2
theorem SameM.free {m : Addr} {H H' : Hp} (s : SameM m H H') {a : Addr} (h : H' a = none) (hm : H m ≠ none) (hm' : H' m ≠ none) : H a = none := by
  cases q : H a with
  | none => rfl
  | some o =>
    have ne : a ≠ m := fun e => hm' (by rw [← e]; exact h)
    rw [s.at q ne] at h
    cases h
theorem SameM.of {m : Addr} {H H' : Hp} (s : Same H H') : SameM m H H' := wo_mono s
def sp_law_begun (K : PySem.W.Frag) : Sp := fun vs H Q _ => ∃ (a : Addr) (ns : List Int) (k : Nat), vs = [.ref a, .int k] ∧ SqL K H a (iV ns) ∧ ns.length ≤ 63 ∧ k ≤ 63 ∧
  ∀ m c cs H', Same H H' → H m = none → MAt H' m c cs 0 → Q (.ref m) H'
def sp_law_draw (K : PySem.W.Frag) : Sp := fun vs H Q _ => ∃ m c cs b, ∃ n : Int, vs = [.ref m, .int n] ∧ MAt H m c cs b ∧ b < 1000000 ∧ 0 < n ∧ n < 2 ^ 200 ∧
  ∀ (r : Int) H', 0 ≤ r → r < n → SameM m H H' → MAt H' m c cs (b + 1) → Q (.int r) H'
def sp_law_of (K : PySem.W.Frag) : Sp := fun vs H Q _ => ∃ m c cs b sv ns, vs = [.ref m, sv] ∧ MAt H m c cs b ∧ b < 1000000 ∧ Dp K (wo H [m]) sv (.list (iD ns)) ∧ 0 < ns.length ∧ ns.length < 1000 ∧
  ∀ (r : Int) H', r ∈ ns → SameM m H H' → MAt H' m c cs (b + 1) → Q (.int r) H'
abbrev sp_law_near := spTree fun t => llD (nbs t)
def madeT (ws : List Int) (ties : List (Nat × Nat)) : Tr := ⟨ws, sortP (ties.map fun p => mk2 p.1 p.2)⟩
def sp_law_made (K : PySem.W.Frag) : Sp := fun vs H Q _ => ∃ L wv tv ws ties, vs = [wv, tv] ∧ Trk H L ∧ Dp K (wo H L) wv (.list (iD ws)) ∧ Dp K (wo H L) tv (.list (ties.map pr)) ∧ ties.length ≤ 10000 ∧ Ret K H L (trD (madeT ws ties)) Q
/-- pairs (p k, k) with p k < k, for k from 1 on -/
def Shape (n : Nat) (ties : List (Nat × Nat)) : Prop := ties.length = n - 1 ∧ ∀ k p, ties[k]? = some p → p.2 = k + 1 ∧ p.1 < k + 1
def sp_law_shape (K : PySem.W.Frag) : Sp := fun vs H Q _ => ∃ L m c cs b, ∃ n : Nat, vs = [.ref m, .int n] ∧ m ∈ L ∧ Trk H L ∧ MAt H m c cs b ∧ n ≤ 100 ∧ b + 100 < 1000000 ∧
  ∀ ties v H', Shape n ties → SameM m H H' → MAt H' m c cs (b + 100) → Dp K (wo H' L) v (.list (ties.map pr)) → Q v H'
def sp_law_tree (K : PySem.W.Frag) : Sp := fun vs H Q _ => ∃ L m c cs b, ∃ most : Nat, ∃ low high : Int, vs = [.ref m, .int most, .int low, .int high] ∧ m ∈ L ∧ Trk H L ∧ MAt H m c cs b ∧ most ≤ 16 ∧ low ≤ high ∧ high - low < 1000000 ∧ b + 300 < 1000000 ∧
  ∀ t v H', Tree t → t.n ≤ most → (∀ x ∈ t.ws, low ≤ x ∧ x ≤ high) → SameM m H H' → MAt H' m c cs (b + 300) → Dp K (wo H' L) v (trD t) → Q v H'
abbrev sp_law_listed := sp_listed
def sp_law_shuffled (K : PySem.W.Frag) : Sp := fun vs H Q _ => ∃ L m c cs b, ∃ n : Nat, vs = [.ref m, .int n] ∧ m ∈ L ∧ Trk H L ∧ MAt H m c cs b ∧ n ≤ 100 ∧ b + 100 < 1000000 ∧
  ∀ l v H', Lst n l → SameM m H H' → MAt H' m c cs (b + 100) → Dp K (wo H' L) v (.tuple (nD l)) → (∃ (la : Addr) (o : Obj), v = .ref la ∧ la ≠ m ∧ H' la = some (.frz o (.tup (nV l))) ∧ o.dict = none) → Q v H'
def sp_law_path (K : PySem.W.Frag) : Sp := fun vs H Q _ => ∃ L nv t, ∃ i j : Nat, vs = [nv, .int i, .int j] ∧ Trk H L ∧ Tree t ∧ Dp K (wo H L) nv (llD (nbs t)) ∧ i < t.n ∧ j < t.n ∧
  ∀ par dep, TM.Rooted t.n (adjT t.ties) i par dep → Ret K H L (.list (nD (TM.way par dep j).reverse)) Q
def sp_law (K : PySem.W.Frag) : Sp := fun vs H Q _ => ∃ (a : Addr) (ns : List Int), vs = [.ref a] ∧ SqL K H a (ns.map V.int) ∧ ns.length ≤ 63 ∧ ∀ H', Q (.bl true) H'
end Y
namespace HT
open PySem PySem.Spec PyProof.Rows
section
variable {prog : Program} {w : World} {A : Around} {E : Value → Shared → Prop} {s : Shared}
theorem adjust_back (n : Nat) : Builtin.Slice.sliceAdjust none none (-1) (n : Int) = ((n : Int) - 1, -1) := by
  unfold Builtin.Slice.sliceAdjust; simp
theorem places_back (n : Nat) : Builtin.Slice.slicePlaces ((n : Int) - 1) (-1) (-1) = n := by
  unfold Builtin.Slice.slicePlaces
  have h1 : ¬ ((-1 : Int) > 0) := by omega
  simp only [h1, if_false]; rw [show (-(-1) : Int) = 1 by decide, Int.ediv_one]
  split <;> omega
theorem sliceApplied_back {sl : Addr} {vl vu vs : Value} {n : Nat} {Q : Int × Int × Nat → Shared → Prop} (hs : s.heap.IsSliceOf sl vl vu vs) (plv : IsPart vl none) (pu : IsPart vu none) (ps : IsPart vs (some (-1)))
    (h : Q ((n : Int) - 1, -1, n) s) : wpAny (model prog w) A (Builtin.Slice.sliceApplied (.ref sl) (pure (n : Int))) Q E s := by
  obtain ⟨os, zo, zc, zd⟩ := id hs; unfold Builtin.Slice.sliceApplied Builtin.Slice.sliceFields; refine wpAny_bind (wpAny_bind (wpAny_field zo zd (x := vl) rfl (wpAny_bind (wpAny_field zo zd (x := vu) rfl (wpAny_bind (wpAny_field zo zd (x := vs) rfl (wpAny_pure ?_)))))))
  refine wpAny_bind (slicePart_ ps ?_); show wpAny _ _ (if ((-1 : Int) == 0) = true then _ else _) _ _ s; rw [if_neg (by decide)]
  refine wpAny_bind (slicePart_ plv (wpAny_bind (slicePart_ pu (wpAny_bind (wpAny_pure ?_))))); show wpAny _ _ (match Builtin.Slice.sliceAdjust none none (-1) (n : Int) with | (lo, hi) => pure (lo, (-1 : Int), Builtin.Slice.slicePlaces lo hi (-1))) _ _ s; rw [adjust_back n]
  show wpAny _ _ (pure ((n : Int) - 1, (-1 : Int), Builtin.Slice.slicePlaces ((n : Int) - 1) (-1) (-1))) _ _ s; rw [places_back]; exact wpAny_pure h
theorem fm_congr {α β : Type} {f g : α → Option β} : ∀ (l : List α), (∀ x ∈ l, f x = g x) → l.filterMap f = l.filterMap g
  | [], _ => rfl
  | a :: r, h => by
    rw [List.filterMap_cons, List.filterMap_cons, h a List.mem_cons_self, fm_congr r fun x m => h x (List.mem_cons_of_mem _ m)]
theorem pick_back (xs : Array Value) : ((List.range xs.size).filterMap fun (m : Nat) => xs[((xs.size : Int) - 1 + (m : Int) * -1).toNat]?).toArray = xs.toList.reverse.toArray := by
  have e : (List.range xs.size).filterMap (fun (m : Nat) => xs[((xs.size : Int) - 1 + (m : Int) * -1).toNat]?) = (List.range xs.size).filterMap ((fun k => xs[k]?) ∘ fun k => xs.size - 1 - k) := by
    refine fm_congr _ fun m hm => ?_
    have hm' := List.mem_range.mp hm; show xs[((xs.size : Int) - 1 + (m : Int) * -1).toNat]? = xs[xs.size - 1 - m]?
    have : ((xs.size : Int) - 1 + (m : Int) * -1).toNat = xs.size - 1 - m := by omega
    rw [this]
  rw [e, ← List.filterMap_map, PySem.W.krv_range, List.filterMap_reverse, PySem.W.krv_all]
theorem getItem_tuple_back {t sl : Addr} {items : Array Value} {vl vu vs : Value} {Q : Value → Shared → Prop} (ht : IsTup s.heap t items) (hs : s.heap.IsSliceOf sl vl vu vs) (plv : IsPart vl none) (pu : IsPart vu none) (ps : IsPart vs (some (-1)))
    (h : Q (.ref s.heap.objs.size) { s with heap := s.heap.push { cls := .type "tuple", data := .seq items.toList.reverse.toArray } })
    (hsz : items.size ≤ sizeLine) : wpAny (model prog w) A (getItem (.ref t) (.ref sl)) Q E s := by
  have zk : sizeOk (.seq items.toList.reverse.toArray) := by
    show items.toList.reverse.toArray.size ≤ sizeLine; rw [List.size_toArray, List.length_reverse, Array.length_toList]
    omega
  obtain ⟨os, zo, zc, zd⟩ := id hs; have zt : s.TypeIs (.ref sl) "slice" := ⟨os, zo, zc⟩; unfold getItem
  try with_reducible refine wpAny_holding ?_
  first | refine wpAny_bind (wpAny_pure ?_) | skip
  refine wpAny_bind (wpAny_sequenceKey ht.typeIs (by decide) ?_)
  refine wpAny_bind (wpAny_callSpecial?_slot (name := Str.ofString "__getitem__") ht.typeIs PyProof.Rows.slot_tuple_getitem
    (wpAny_call_entry PyProof.Rows.slot_tuple_getitem ht.typeIs entry_tuple_getitem ?_ (args_tuple_getitem _ _)))
  show wpAny _ _ (Builtin.Tuple.tupleItemsOf (.ref t) >>= _) _ _ s; refine wpAny_bind (tupleItemsOf_ ht ?_); refine wpAny_bind (wpAny_typeOf zt ?_)
  rw [if_pos (by decide)]; refine wpAny_bind (sliceApplied_back hs plv pu ps ?_)
  have hno : ¬ ((((items.size : Int) - 1) == 0 && (-1 : Int) == 1 && items.size == items.size) = true) := by
    intro q; rw [Bool.and_eq_true, Bool.and_eq_true] at q; exact absurd (eq_of_beq q.1.2 : (-1 : Int) = 1) (by decide)
  show wpAny _ _ (if (((items.size : Int) - 1) == 0 && (-1 : Int) == 1 && items.size == items.size) = true then _ else _) _ _ s; rw [if_neg hno, pick_back]
  first
    | exact wpAny_bind (m := Builtin.Tuple.tupleExact _) (wpAny_newObj_type (wpAny_pure ⟨_, rfl, wpAny_pure h⟩) zk)
    | exact wpAny_bind (m := Builtin.Tuple.tupleExact _) (wpAny_newObj_type (wpAny_bind (wpAny_pure (wpAny_pure ⟨_, rfl, wpAny_pure h⟩))) zk)
    | exact wpAny_bind (wpAny_bind (m := Builtin.Tuple.tupleExact _) (wpAny_newObj_type (wpAny_pure (wpAny_pure ⟨_, rfl, wpAny_pure h⟩)) zk))
    | exact wpAny_bind (wpAny_bind (m := Builtin.Tuple.tupleExact _) (wpAny_newObj_type (wpAny_pure ⟨_, rfl, wpAny_pure h⟩) zk))
end
end HT
namespace L2
open PySem PySem.Spec PyProof.Rows
section
variable {X : Cx}
def tRevT (K : PySem.W.Frag) (te : TE) : TE := fun σ H Q => te σ H fun x H1 => ∃ a xs, x = .ref a ∧ SqT K H1 a xs ∧ ∀ p, H1 p = none → Q (.ref p) (upd H1 p (.tup xs.reverse))
theorem pe_revT {e : Expr} {te : TE} {k : Nat} {p1 p2 p3 pos : Pos} (he : PE X e te) : PE X (.Subscript e (.Slice none none (some (.UnaryOp .USub (.Constant (.int 1) k p1) p2)) p3) pos) (tRevT X.K te) := by
  refine ⟨fun pins s σ H Q I h => ?_⟩
  refine Subscript_ (thn (he.run pins s σ H _ I h) fun v s1 ⟨x, H1, I1, r1, q1⟩ => ?_)
  obtain ⟨a, xs, ex, hx, q⟩ := q1; subst ex
  cases r1
  have zst : PO X (some (.UnaryOp .USub (.Constant (.int 1) k p1) p2)) (tPart (tUn (rU fun i => .int (-i)) (tC (.int 1)))) := po_some (pe_un un_neg pe_int)
  refine wpAny_Slice (thn (po_none.run pins s1 σ H1 (fun o H2 => o = none ∧ H2 = H1) I1 ⟨rfl, rfl⟩) fun vl s2 ⟨l, H2, I2, plv, el, e2⟩ => ?_)
  subst el e2
  refine thn (po_none.run pins s2 σ H2 (fun o H3 => o = none ∧ H3 = H2) I2 ⟨rfl, rfl⟩) fun vu s3 ⟨u, H3, I3, pu, eu, e3⟩ => ?_
  subst eu e3
  refine thn (zst.run pins s3 σ H3 (fun o H4 => o = some (-1) ∧ H4 = H3) I3 ⟨1, rfl, -1, rfl, rfl, rfl⟩) fun vs s4 ⟨o, H4, I4, ps, eo, e4⟩ => ?_
  subst eo e4
  have I5 : Inv X pins σ H4 { s4 with heap := s4.heap.push { cls := .type "slice", data := .fields #[vl, vu, vs] } } := I4.kept (t' := s4.toks) fun b ob q => Heap.get?_push_of_some _ q
  obtain ⟨its, r, ht, hz⟩ := I5.tuple hx; have zn := r.length; show wpAny (model X.prog X.w) X.A (subscriptTail e (.Slice none none (some (.UnaryOp .USub (.Constant (.int 1) k p1) p2)) p3) (.ref a) (.ref s4.heap.objs.size)) (EP X pins σ Q) X.xe { s4 with heap := s4.heap.push { cls := .type "slice", data := .fields #[vl, vu, vs] } }
  refine tail_any (ops := [.ref a, .ref s4.heap.objs.size]) ht.typeIs (PyProof.Rows.slot_tuple_getitem.lookup) ?_ (by with_unfolding_all rfl); refine HT.getItem_tuple_back ht (Heap.IsSliceOf.new _ vl vu vs) plv pu ps ?_ (by rw [List.size_toArray]; omega); refine ⟨.ref _, _, I5.laid (t' := s4.toks) (o := .tup xs.reverse) (fun b ob q => Heap.get?_push_of_some _ q) (Nat.le_refl _) ?_, rfl, q _ (I5.hok.fresh (Nat.le_refl _))⟩
  exact ⟨by rw [List.length_reverse]; exact hz, _, r.reverse, IsTup.new _ _⟩
def rIndexI (K : PySem.W.Frag) : V → List V → Hp → VK → Prop := fun x xs H Q => ∃ p, ∃ ys : List Int, ∃ z : Int, x = .ref p ∧ xs = [.int z] ∧ SqT K H p (ys.map V.int) ∧ z ∈ ys ∧ Q (.int (ys.idxOf z : Nat)) H
theorem mt_tup_indexI : MtR X "tuple.index" (rIndexI X.K) := by
  intro pins s σ H x xs v us Q I rx rs h; obtain ⟨p, ys, z, rfl, rfl, hq, hm, q⟩ := h
  cases rx
  obtain ⟨u, rfl, t, rfl⟩ := vals1 rs; obtain ⟨its, r, plv, hz⟩ := I.tuple hq; exact SeqAt.tuple_index_ints plv (intsAre_of r) hm ⟨.int (ys.idxOf z : Nat), H, I.tok _, ⟨_, rfl⟩, q⟩
end
end L2
namespace PySem
open Sem (wp)
theorem meets_enumerate_newT (l : Addr) (items : Array Value) :
    Meets (Builtin.«enumerate.__new__» ⟨[.type "enumerate", .ref l], []⟩) (fun _ R s => s.heap.IsTuple l items ∧
      R (.ok (.ret (.ref (s.heap.push { cls := .type "tuple_iterator", data := .fields #[.ref l, .int 0 0] }).objs.size)))
        { s with heap := (s.heap.push { cls := .type "tuple_iterator", data := .fields #[.ref l, .int 0 0] }).push { cls := .type "enumerate", data := .fields #[.none, .bool false, .ref s.heap.objs.size, rawInt 0, .none, .none] } }) :=
  .of_wp fun prog w A R s h => by
    obtain ⟨hp, g, d, tk, os⟩ := s; obtain ⟨hl, h⟩ := h; have sbt := sub_enumerate; have hL : Heap.IsTuple (Shared.heap ⟨hp, g, d, tk, os⟩) l items := hl
    wp_walk using wpAny_pyIter_tuple hL
    refine wpAny_stack_any fun st => wpAny_pure ?_
    split
    · rename_i c _ _ _ _ _
      cases (c == Value.type "enumerate")
      · wp_walk using wpAny_pyIter_tuple hL
        exact ⟨_, rfl, h⟩
      · wp_walk using wpAny_pyIter_tuple hL
        exact ⟨_, rfl, h⟩
    · wp_walk using wpAny_pyIter_tuple hL
      exact ⟨_, rfl, h⟩
section
variable {prog : Program} {w : World} {A : Around} {E : Value → Shared → Prop} {s : Shared}
theorem call_enumerate_tuple {l : Addr} {items : Array Value} {Q : Value → Shared → Prop} (hL : s.heap.IsTuple l items)
    (h : ∀ h', IsEnum h' (s.heap.objs.size + 1) s.heap.objs.size 0 .none → h'.IsTupleIter s.heap.objs.size l 0 → h'.objs.size = s.heap.objs.size + 2 →
      (∀ b o, s.heap.get? b = some o → h'.get? b = some o) → Q (.ref (s.heap.objs.size + 1)) { s with heap := h' }) :
    wpAny (model prog w) A (call (.type "enumerate") [.ref l]) Q E s := by
  refine callType_new F.called_enumerate (by decide) (F.typeCall_enumerate_1 _) (F.newCall_enumerate_1 _) (fun obj => F.args_object_init_2 obj _) F.entry_enumerate_new
    (meets_enumerate_newT l items) ⟨hL, ?_⟩
  have hz : (s.heap.push { cls := .type "tuple_iterator", data := .fields #[.ref l, .int 0 0] }).objs.size = s.heap.objs.size + 1 := Heap.size_push ..; show _ ∧ _; rw [hz]
  have he : IsEnum ((s.heap.push { cls := .type "tuple_iterator", data := .fields #[.ref l, .int 0 0] }).push
      { cls := .type "enumerate", data := .fields #[.none, .bool false, .ref s.heap.objs.size, rawInt 0, .none, .none] }) (s.heap.objs.size + 1) s.heap.objs.size 0 .none := by
    have := Heap.get?_push_size (s.heap.push { cls := .type "tuple_iterator", data := .fields #[.ref l, .int 0 0] })
      (o := { cls := .type "enumerate", data := .fields #[.none, .bool false, .ref s.heap.objs.size, rawInt 0, .none, .none] }) rfl
    rw [hz] at this; exact this
  refine ⟨⟨_, he, rfl⟩, h _ he ⟨_, Heap.get?_push_of_some _ (Heap.get?_push_size _ rfl), rfl, rfl⟩ (by rw [Heap.size_push, hz]) fun b o x => Heap.get?_push_of_some _ (Heap.get?_push_of_some _ x)⟩
theorem wpAny_pyNext_enum_endT {e it l : Addr} {i : Nat} {items : Array Value} {old : Value} {Q : Option Value → Shared → Prop} (hh : A.handled = none)
    (he : IsEnum s.heap e it i old) (ti : s.heap.IsTupleIter it l i) (hL : s.heap.IsTuple l items) (hx : items[i]? = none)
    (hQ : ∀ h', Heap.ExtBut it s.heap h' → Q none { s with heap := h' }) : wpAny (model prog w) A (pyNext (.ref e)) Q E s := by
  have hT : s.TypeIs (.ref e) "enumerate" := ⟨_, he, rfl⟩; unfold pyNext
  refine wpAny_bind (wpAny_attempt (wpAny_callSpecial?_slot (name := Str.ofString "__next__") hT F.slot_enumerate_next
    (wpAny_call_entry F.slot_enumerate_next hT F.entry_enumerate_next ?_ (F.args_enumerate_next_1 _))))
  show wpAny _ _ (field (.ref e) 2 >>= _) _ _ _; refine wpAny_bind (wpAny_field he rfl (x := .ref it) rfl ?_); refine wpAny_bind (wpAny_nextOf_tuple_end (A := A.in1) hh ti hL hx fun h' x he' hx' => ?_)
  obtain ⟨o, ho, hc⟩ := hx'; refine wpAny_bind (wpAny_isInstance (T := "StopIteration") (b := true) ⟨o, ho, hc⟩ isSubtype_stop ?_); exact wpAny_pure (hQ _ he')
end
end PySem
namespace L2
open PySem PySem.Spec PyProof.Rows
/-- the tuple at a, each item in a new pair with its place -/
def Iet (K : PySem.W.Frag) (a : Addr) : It :=
  ⟨fun i H => ∃ (xs : List V) (x : V), SqT K H a xs ∧ xs[i]? = some x, fun i H v H' => ∃ T x, v = .ref T ∧ H T = none ∧ H' = upd H T (.tup [.int (i : Nat), x]) ∧ ∀ xs, SqT K H a xs → xs[i]? = some x, fun i H => ∃ xs : List V, SqT K H a xs ∧ xs.length ≤ i⟩
theorem turn_enumT {P : Program} {w : World} {K : PySem.W.Frag} {elts : List Expr} {kk : Nat} {tpos : Pos} (a e it : Addr) :
    Turn P w K (.Tuple elts kk tpos) (Iet K a) [e, it] e (fun i h => (∃ old, IsEnum h e it ((i : Nat) : Int) old) ∧ h.IsTupleIter it a i ∧ e ≠ it) where
  mem := by simp
  obj := fun i h st b hb => by
    obtain ⟨⟨old, he⟩, ⟨o, ho, hc, hd⟩, _⟩ := st; have e' : b = e ∨ b = it := by simpa using hb
    rcases e' with z | z
    · rw [z]; exact ⟨_, he, fun v q => nomatch q⟩
    · rw [z]; exact ⟨o, ho, fun v q => by rw [hd] at q; cases q⟩
  keep := fun i h h' st k => let ⟨⟨old, he⟩, hi, nei⟩ := st; ⟨⟨old, k e (by simp) _ he⟩, hi.at fun o q => k it (by simp) o q, nei⟩
  item := by
    intro X hP hw hK hc i pins s σ H E I hf st hg; subst hP hw hK; obtain ⟨⟨old, he⟩, ti, nei⟩ := st
    obtain ⟨xs, x, hq, hx⟩ := hg; obtain ⟨its, rv, p, hz⟩ := I.tuple hq; obtain ⟨u, hu, ru⟩ := rv.get hx
    have le1 : e < s.heap.objs.size := Heap.lt_size he; have le2 : it < s.heap.objs.size := by obtain ⟨_, q, _⟩ := ti; exact Heap.lt_size q
    have hai : a ≠ it := by
      intro e1; obtain ⟨o1, p1, p2, _⟩ := id p; obtain ⟨o2, q1, q2, _⟩ := id ti
      rw [e1, q1] at p1
      cases p1
      rw [q2] at p2; exact absurd (Value.type.inj p2) (by decide)
    have hae : a ≠ e := by
      intro e1; obtain ⟨o1, p1, p2, _⟩ := id p; have q1 := he
      unfold IsEnum at q1; rw [e1, q1] at p1
      cases p1
      exact absurd (Value.type.inj p2) (by decide)
    have D := Draws.tuple (prog := X.prog) (w := X.w) (A := X.A.in1) (I.ok.hd hc) it a hai its.toArray; refine wpAny_pyNext_enum_itemD D he ⟨ti, p⟩ (i := i) (Array.getElem?_eq_some_iff.mp (show its.toArray[i]? = some u by simpa using hu)).1 nei (by simp; exact ⟨nei, hae.symm⟩) fun x' h' tk hP ho hs' hT hsz hk => ?_
    have ex : x' = u := by
      have h1 : its.toArray[i]? = some x' := hP; rw [show its.toArray[i]? = some u by simpa using hu] at h1; exact (Option.some.inj h1).symm
    subst ex; obtain ⟨hit', hp'⟩ := hs'; refine ⟨_, rfl, wpAny_letOwnedTupleGo_enum (s := { s with heap := h', toks := tk + 1 }) ho fun h'' he' sb => ?_⟩
    have hT2 : h''.get? s.heap.objs.size = some { cls := .type "tuple", data := .seq #[.int i tk, x'] } := (sb.2 _ (Nat.ne_of_gt le1)).trans hT
    have new : ObjOk X.prog X.w (upd H s.heap.objs.size (.tup [.int (i : Nat), x])) h'' s.heap.objs.size (.tup [.int (i : Nat), x]) :=
      ⟨by show 2 ≤ sizeLine; decide, [.int i tk, x'], .cons ⟨_, rfl⟩ (.cons ru .nil), ⟨_, hT2, rfl, _, rfl⟩⟩
    have I1 : Inv X pins σ (upd H s.heap.objs.size (.tup [.int (i : Nat), x])) { s with heap := h'', toks := tk + 1 } :=
      I.turnedNew (ch := [e, it]) (fun b ob hb q => (sb.2 b (fun z => hb (by simp [z]))).trans (hk b ob (fun z => hb (by simp [z])) (fun z => hb (by simp [z])) q)) hf (Nat.le_refl _) new
    refine ⟨.ref s.heap.objs.size, _, I1, rfl, ⟨_, x, rfl, I.hok.fresh (Nat.le_refl _), rfl, fun ys hy => by rw [I.tuple_inj hy hq]; exact hx⟩, ⟨⟨x', ?_⟩, hit'.at fun o q => (sb.2 it (Ne.symm nei)).trans q, nei⟩, fun b hb => ?_⟩
    · have e1 : ((i + 1 : Nat) : Int) = (i : Int) + 1 := by omega
      rw [e1]; exact he'
    · have hb' : b < s.heap.objs.size := by
        have e' : b = e ∨ b = it := by simpa using hb
        rcases e' with z | z
        · rw [z]; exact le1
        · rw [z]; exact le2
      rw [upd_ne (Nat.ne_of_lt hb')]; exact (hf b hb).1
  done := by
    intro X hP hw hK hc i pins s σ H E I hf st hg; subst hP hw hK; obtain ⟨⟨old, he⟩, ti, nei⟩ := st
    obtain ⟨xs, hq, hx⟩ := hg; obtain ⟨its, rv, p, hz⟩ := I.tuple hq; obtain ⟨f0, f1, f2, f3, f4, f5⟩ := hf it (by simp)
    have hl := rv.length
    have hai : a ≠ it := by
      intro e1; obtain ⟨o1, p1, p2, _⟩ := id p; obtain ⟨o2, q1, q2, _⟩ := id ti
      rw [e1, q1] at p1
      cases p1
      rw [q2] at p2; exact absurd (Value.type.inj p2) (by decide)
    have hA := I.ok.hd hc; refine wpAny_pyNext_enum_endT hA he ti (show s.heap.IsTuple a its.toArray from p) (by simp; omega) fun h' eb => ⟨rfl, I.turned (t' := s.toks) (fun b o hb q => eb b o hb q) f0 f1 f3 f4 f5⟩
  self := fun A i s Q E st h => let ⟨⟨_, he⟩, _⟩ := st; wpAny_pyIter_enum he h
def iEnumT (K : PySem.W.Frag) (ta : TA) : TI := fun σ H R => ta σ H fun vs H1 => ∃ a xs, vs = [.ref a] ∧ SqT K H1 a xs ∧ R (Iet K a) H1
theorem pi_enumT {X : Cx} {e : Expr} {ta : TA} {p pos tpos : Pos} {elts : List Expr} {kk : Nat} (hg : Gl X "enumerate") (hm : X.mg "enumerate" = none) (ha : PA X [e] ta) (hs : starEach [e] X.env = [(false, eval e X.env)] := by rfl) :
    PI X (.Tuple elts kk tpos) (.Call (.Name "enumerate" p) [e] [] pos) (iEnumT X.K ta) := by
  refine ⟨fun pins s σ H R I h => ?_⟩; refine Call_ (ld_blt I hg hm boot_enumerate (PyProof.Rows.callWith_type1 (thn (ha.run pos pins s σ H _ I h) fun us s1 ⟨vs, H1, I1, r1, q1⟩ => ?_) hs rfl)); obtain ⟨a, xs, ex, hq, q⟩ := q1
  subst ex
  cases r1 with
  | cons r rr =>
    cases rr
    cases r
    obtain ⟨its, rv, p', hz⟩ := I1.tuple hq; refine call_enumerate_tuple (show s1.heap.IsTuple a its.toArray from p') fun h' he ti hsz hk => wpAny_pyIter_enum he ?_; have I2 : Inv X pins σ H1 { s1 with heap := h' } := I1.kept (t' := s1.toks) hk
    refine ⟨s1.heap.objs.size + 1, [s1.heap.objs.size + 1, s1.heap.objs.size], _, _, H1, rfl, I2, turn_enumT a (s1.heap.objs.size + 1) s1.heap.objs.size, ⟨⟨.none, he⟩, ti, Nat.succ_ne_self _⟩, fun b hb => ?_, q⟩; have e' : b = s1.heap.objs.size + 1 ∨ b = s1.heap.objs.size := by simpa using hb
    have hle : s1.heap.objs.size ≤ b := by
      rcases e' with z | z
      · rw [z]; exact Nat.le_add_right _ _
      · rw [z]; exact Nat.le_refl _
    exact I1.fpOk hle (I1.hok.fresh hle)
theorem walk_enumT {K : PySem.W.Frag} {a : Addr} {xs : List V} : Walk (Iet K a) xs.length (fun H => SqT K H a xs) (YPair (fun i => some (.int (i : Nat))) (fun i => xs[i]?)) := by
  refine ⟨fun i _ hi q => ⟨xs, xs[i], q, by simp [hi]⟩, fun _ q => ⟨xs, q, Nat.le_refl _⟩, fun i H v H' _ q y => ?_⟩; obtain ⟨T, x, h1, h2, h3, h4⟩ := y; exact ⟨T, .int (i : Nat), x, h1, h2, h3, rfl, h4 xs q⟩
end L2
/-! rules with the written part said: within a comprehension -/
namespace Y
open PySem PySem.Spec PyProof.Rows L2
section
variable {X : Cx} (K : PySem.W.Frag)
theorem pg_tupK (hK : X.K = K) {es : List Expr} {k : Nat} {t : TGs} {n : Nat} {pos : Pos} (hc : X.calm = true) (h : PGs X es t)
    (hn : (assignEach es X.env).length = n := by rfl) (zst : (assignEach es X.env).findIdx? (·.1) = none := by rfl) : PG X (.Tuple es k pos) (gTup K n t) := by
  subst hK; exact pg_tup hc h hn zst
theorem ix_listK (hK : X.K = K) : IxR X (rIxL K) := by subst hK; exact ix_list
theorem ix_tupK (hK : X.K = K) : IxR X (rIxT K) := by subst hK; exact ix_tup
def rLenQ (K : PySem.W.Frag) : List V → Hp → VK → Prop := fun xs H Q => ∃ p ys, xs = [.ref p] ∧ (SqL K H p ys ∨ SqT K H p ys) ∧ Q (.int ys.length) H
theorem call_lenK (hK : X.K = K) : CallR X (.builtin "len") (rLenQ K) := by subst hK; exact call_len_seq
def rTupQ (K : PySem.W.Frag) : List V → Hp → VK → Prop := fun xs H Q => ∃ p ys, xs = [.ref p] ∧ ((SqL K H p ys ∧ ∀ l, H l = none → Q (.ref l) (upd H l (.tup ys))) ∨ (SqT K H p ys ∧ Q (.ref p) H))
theorem call_tupK (hK : X.K = K) : CallR X (.type "tuple") (rTupQ K) := by subst hK; exact call_tuple_of
theorem cr_sortedDK (hK : X.K = K) : CallR X (.builtin "sorted") (rSortedD K) := by subst hK; exact cr_sortedD
theorem cr_sortedIK (hK : X.K = K) : CallR X (.builtin "sorted") (rSortedI K) := by subst hK; exact cr_sortedI
theorem op_eqDK (hK : X.K = K) (hu : X.A.units + 64 < cLine) : OpR X (compareOp .Eq) (rEqD K) := by subst hK; exact op_eqD hu
theorem op_neDK (hK : X.K = K) (hu : X.A.units + 64 < cLine) : OpR X (compareOp .NotEq) (rNeD K) := by subst hK; exact op_neD hu
theorem op_inK (hK : X.K = K) : OpR X (compareOp .In) (rIn K false) := by subst hK; exact op_in_seq
theorem op_notInK (hK : X.K = K) : OpR X (compareOp .NotIn) (rIn K true) := by subst hK; exact op_notIn_seq
theorem op_catAK (hK : X.K = K) : OpR X (binaryOp .Add) (rCatA K) := by subst hK; exact op_catA
theorem sl_listK (hK : X.K = K) : SlR X (rSlL K) := by subst hK; exact sl_list
theorem sl_tupAK (hK : X.K = K) : SlR X (rSlA K) := by subst hK; exact sl_tupA
theorem mt_indexIK (hK : X.K = K) : MtR X "tuple.index" (rIndexI K) := by subst hK; exact mt_tup_indexI
theorem pe_bmK (hK : X.K = K) {T name id : String} {o e : Expr} {es : List Expr} {to : TE} {t : TA} {r : V → List V → Hp → VK → Prop} {apos cpos : Pos} (pa : PlainAttrs T) (slot : Slot T name id) (hty : typeOf (.builtin id) = pure (.type "method_descriptor")) (hm : MtR X id r) (ho : PE X o to) (ha : PA X (e :: es) t)
    (jb : attributeBase o name X.env (eval o X.env) = eval o X.env := by rfl)
    (jf : ((backTo cpos (starEach (e :: es) X.env)).all (fun x => !x.1) && (backToKw cpos (keywordEach [] X.env)).all (fun x => x.1.isSome)
      && decide ((e :: es).length + ([] : List Keyword).length + (if ([] : List Keyword).isEmpty then 0 else 1) < 30)) = true := by rfl)
    (jl : (apos.endLine == cpos.line) = true := by rfl) (hs : starEach (e :: es) X.env = (false, eval e X.env) :: starEach es X.env := by rfl) (jp : (backTo cpos (starEach es X.env)).any (·.1) = false := by rfl) :
    PE X (.Call (.Attribute o name apos) (e :: es) [] cpos) (tBM K T r to t) := by
  subst hK; exact pe_bm pa slot hty hm ho ha jb jf jl hs jp
end
end Y
namespace Y
open PySem PySem.Spec PyProof.Rows L2
section
variable {X : Cx}
/-- tuple(a list): the new tuple, held as the object that it is -/
def rTupF (K : PySem.W.Frag) : List V → Hp → VK → Prop := fun xs H Q => ∃ p ys, xs = [.ref p] ∧ SqL K H p ys ∧ ∀ (l : Addr) (o : Obj), H l = none → o.dict = none → Q (.ref l) (upd H l (.frz o (.tup ys)))
theorem call_tupF (K : PySem.W.Frag) (hK : X.K = K) : CallR X (.type "tuple") (rTupF K) := by
  subst hK; intro pins s σ H xs us Q I r h; obtain ⟨p, ys, rfl, hs, q⟩ := h
  obtain ⟨v, rfl, rv0⟩ := vals1 r; obtain rfl : v = .ref p := rv0; obtain ⟨its, rv, plv, hz⟩ := I.list hs
  refine call_tuple_list plv.isList (fun h' hk => ?_) (by rw [List.size_toArray, ← rv.length]; exact hz); have I1 : Inv X pins σ H { s with heap := h' } := I.kept (t' := s.toks) hk
  have I2 := I1.laid (t' := s.toks) (h' := h'.push { cls := .type "tuple", data := .seq its.toArray }) (a := h'.objs.size) (o := .frz { cls := .type "tuple", data := .seq its.toArray } (.tup ys)) (fun b o e => Heap.get?_push_of_some _ e) (Nat.le_refl _)
    (show ObjOk X.prog X.w _ _ _ (.frz _ (.tup ys)) from ⟨Heap.get?_push_size _ rfl, hz, its, rv, IsTup.new _ _⟩)
  exact ⟨.ref h'.objs.size, _, I2, rfl, q _ _ (I1.hok.fresh (Nat.le_refl _)) rfl⟩
/-- t.method(..), t a tuple so held -/
def tBMF (K : PySem.W.Frag) (r : V → List V → Hp → VK → Prop) (to : TE) (t : TA) : TE := fun σ H Q => to σ H fun x H1 => (∃ (p : Addr) (o : Obj) (xs : List V), x = .ref p ∧ H1 p = some (.frz o (.tup xs)) ∧ o.dict = none) ∧ t σ H1 fun xs H2 => r x xs H2 Q
theorem pe_bmF (K : PySem.W.Frag) {name id : String} {o e : Expr} {es : List Expr} {to : TE} {t : TA} {r : V → List V → Hp → VK → Prop} {apos cpos : Pos} (pa : PlainAttrs "tuple") (slot : Slot "tuple" name id) (hty : typeOf (.builtin id) = pure (.type "method_descriptor")) (hm : MtR X id r) (ho : PE X o to) (ha : PA X (e :: es) t)
    (jb : attributeBase o name X.env (eval o X.env) = eval o X.env := by rfl)
    (jf : ((backTo cpos (starEach (e :: es) X.env)).all (fun x => !x.1) && (backToKw cpos (keywordEach [] X.env)).all (fun x => x.1.isSome)
      && decide ((e :: es).length + ([] : List Keyword).length + (if ([] : List Keyword).isEmpty then 0 else 1) < 30)) = true := by rfl)
    (jl : (apos.endLine == cpos.line) = true := by rfl) (hs : starEach (e :: es) X.env = (false, eval e X.env) :: starEach es X.env := by rfl) (jp : (backTo cpos (starEach es X.env)).any (·.1) = false := by rfl) :
    PE X (.Call (.Attribute o name apos) (e :: es) [] cpos) (tBMF K r to t) := by
  refine ⟨fun pins s σ H Q I h => ?_⟩; refine wpAny_Call_method_late jb jf jl rfl (thn (ho.run pins s σ H _ I h) fun v s1 ⟨x, H1, I1, r1, z, q1⟩ => ?_); obtain ⟨p, ob, xs, rfl, hp, hd⟩ := z
  obtain rfl : v = Value.ref p := r1; have ok := I1.hok p _ hp; obtain ⟨g1, g2, its, g3, g4⟩ := ok
  refine ⟨"tuple", id, pa, slot, hty, g4.typeIs, fun a ea => ?_, ?_⟩
  · cases ea
    exact ⟨ob, g1, hd⟩
  · have hA := ha.run cpos pins s1 σ H1 _ I1 q1
    rw [hs] at hA ⊢; refine Calls.callWith_builtin (by show (false || (backTo cpos (starEach es X.env)).any (·.1)) = false; rw [jp] <;> rfl) (Calls.evalArgs_plain ?_); exact thn hA fun us s2 ⟨vs, H2, I2, r2, q2⟩ => hm pins s2 σ H2 (.ref p) vs (.ref p) us Q I2 rfl r2 q2
end
end Y
namespace Y
open PySem PySem.Spec PyProof.Rows L2
section
variable {H : Hp} {m c : Addr} {left seed spot : Int}
theorem getL (e : H m = some (mD left seed spot c)) : DGet H m (.str "left") (some (.int left)) := DGet.k (k := kL) e
theorem getS (e : H m = some (mD left seed spot c)) : DGet H m (.str "seed") (some (.int seed)) := DGet.k (k := kS) e
theorem getC (e : H m = some (mD left seed spot c)) : DGet H m (.str "cells") (some (.ref c)) := DGet.k (k := kC) e
theorem getP (e : H m = some (mD left seed spot c)) : DGet H m (.str "spot") (some (.int spot)) := DGet.k (k := kP) e
theorem putL (e : H m = some (mD left seed spot c)) (x : Int) : DPut H m (.str "left") (.int x) (upd H m (mD x seed spot c)) := DPut.k (k := kL) (v := .int x) e (by show 4 < sizeLine; decide)
theorem putP (e : H m = some (mD left seed spot c)) (x : Int) : DPut H m (.str "spot") (.int x) (upd H m (mD left seed x c)) := DPut.k (k := kP) (v := .int x) e (by show 4 < sizeLine; decide)
theorem sameM_upd (o : HO) : SameM m H (upd H m o) := by
  show Same _ (wo _ _)
  rw [wo_upd_in (by simp)]
  exact Same.refl _
theorem fmod_b {x n : Int} (h : 0 < n) : 0 ≤ x.fmod n ∧ x.fmod n < n := by
  rw [Int.fmod_eq_emod_of_nonneg _ (by omega)]
  exact ⟨Int.emod_nonneg _ (by omega), Int.emod_lt_of_pos _ h⟩
end
end Y
namespace Y
open PySem PySem.Spec PyProof.Rows L2
/-! ### data that can be compared -/
theorem canLay_iD : ∀ ns : List Int, PyData.canLayAll0 (iD ns) = true
  | [] => rfl
  | n :: ns => by
    show (PyData.canLay0 (.int n) && PyData.canLayAll0 (iD ns)) = true
    rw [canLay_iD ns]
    rfl
theorem depth_iD : ∀ ns : List Int, PyData.depthAll (iD ns) ≤ 1
  | [] => by show 0 ≤ 1; omega
  | n :: ns => by
    have := depth_iD ns
    show max (PyData.depth (.int n)) (PyData.depthAll (iD ns)) ≤ 1
    have h : PyData.depth (.int n) = 0 := rfl
    omega
theorem shaped_iL (ns : List Int) : SeqAt.shaped (.list (iD ns)) = true := by
  have h := depth_iD ns
  refine Bool.and_eq_true_iff.mpr ⟨canLay_iD ns, decide_eq_true ?_⟩
  show PyData.depthAll (iD ns) + 1 ≤ 64
  omega
theorem shaped_iT (ns : List Int) : SeqAt.shaped (.tuple (iD ns)) = true := by
  have h := depth_iD ns
  refine Bool.and_eq_true_iff.mpr ⟨canLay_iD ns, decide_eq_true ?_⟩
  show PyData.depthAll (iD ns) + 1 ≤ 64
  omega
theorem dpAll_someInts {K : PySem.W.Frag} {H : Hp} : ∀ {xs : List V} {ds : List PyData}, DpAll K H xs ds → (∀ d ∈ ds, ∃ i, d = PyData.int i) → ∃ gs, xs = iV gs ∧ ds = iD gs
  | _, _, .nil, _ => ⟨[], rfl, rfl⟩
  | _, _, .cons h t, e => by
    obtain ⟨i, rfl⟩ := e _ List.mem_cons_self
    obtain ⟨gs, e1, e2⟩ := dpAll_someInts t fun d m => e d (List.mem_cons_of_mem _ m)
    exact ⟨i :: gs, by rw [dp_int h, e1]; rfl, by rw [e2]; rfl⟩
end Y
namespace Y
open PySem PySem.Spec PyProof.Rows L2
theorem eqv_nilL (gs : List Int) : PyData.eqv (.list (iD gs)) (.list []) = gs.isEmpty := by
  cases gs <;> simp [iD, PyData.eqv, PyData.eqvAll]
theorem mergeM (left seed spot : Int) (c : Addr) : HO.dK (mergeK [] [(kL, .int left), (kS, .int seed), (kC, .ref c), (kP, .int spot)]) = mD left seed spot c := rfl
end Y
namespace Y
theorem range_get {α β : Type} (f : α → β) (xs : List α) : ∀ n, n ≤ xs.length → (List.range n).filterMap (fun i => (xs[i]?).map f) = (xs.take n).map f
  | 0, _ => by simp
  | n + 1, h => by
    rw [List.range_succ, List.filterMap_append, range_get f xs n (by omega), List.take_add_one, List.map_append]
    rw [List.getElem?_eq_getElem (show n < xs.length by omega)]
    simp [List.getElem?_eq_getElem (show n < xs.length by omega)]
theorem range_get_all {α β : Type} (f : α → β) (xs : List α) : (List.range xs.length).filterMap (fun i => (xs[i]?).map f) = xs.map f := by
  rw [range_get f xs _ (Nat.le_refl _), List.take_length]
end Y
namespace Y
theorem sorted_nats {ns' : List Int} {ns : List Nat} (hp : ns'.Perm (ns.map fun (n : Nat) => (n : Int))) (h : ns'.Pairwise (· ≤ ·)) (ha : ns.Pairwise (· < ·)) : ns' = ns.map fun (n : Nat) => (n : Int) := by
  refine List.Perm.eq_of_pairwise (le := fun a b : Int => a ≤ b) (fun a b _ _ h1 h2 => by omega) h ?_ hp
  rw [List.pairwise_map]
  exact ha.imp fun h => by omega
end Y
namespace Y
open PySem PySem.Spec PyProof.Rows L2
section
variable {K : PySem.W.Frag} {H H' H1 H2 : Hp} {m c l p : Addr} {cs : List Int} {b : Nat} {L : List Addr} {o : HO}
theorem SameM.mut (s : SameM m H H') (h : H l = none) (o : HO) : SameM m H (upd H' l o) := fun a u ha => by
  obtain ⟨hm, hu⟩ := wo_some ha
  rw [wo_out hm, upd_ne (ne_of_none hu h)]
  exact (wo_some (s a u ha)).2
theorem MAt.some (M : MAt H m c cs b) : H m ≠ none := by
  obtain ⟨_, _, _, e, _⟩ := M.d
  rw [e]
  simp
theorem Trk.mS (t : Trk H L) (s : SameM m H H') (h : H' m ≠ none) : Trk H' L := fun a ha => by
  by_cases e : a = m
  · rw [e]; exact h
  · cases q : H a with
    | none => exact absurd q (t a ha)
    | some o => rw [s.at q e]; simp
theorem SameM.wo (s : SameM m H H') (h : m ∈ L) : Same (wo H L) (wo H' L) := wo_more s fun a ha => by
  simp at ha
  rw [ha]
  exact h
/-- the list of pairs as it grows -/
structure Shp (K : PySem.W.Frag) (H : Hp) (L : List Addr) (m c l : Addr) (cs : List Int) (b : Nat) (i : Nat) (H' : Hp) (ys : List V) (ties : List (Nat × Nat)) : Prop where
  s : SameM m H H'
  M : MAt H' m c cs b
  l0 : H l = none
  lc : l ≠ c
  el : H' l = some (.lst ys)
  d : DpAll K (wo H' (l :: L)) ys (ties.map pr)
  n : ties.length = i
  sh : ∀ k p, ties[k]? = some p → p.2 = k + 1 ∧ p.1 < k + 1
theorem Shp.ne {i : Nat} {ys : List V} {ties : List (Nat × Nat)} (S : Shp K H L m c l cs b i H' ys ties) (t : Trk H L) (hm : m ∈ L) : l ≠ m := fun e => t m hm (by rw [← e]; exact S.l0)
theorem Shp.turn {b' i r : Nat} {ys : List V} {ties : List (Nat × Nat)} (S : Shp K H L m c l cs b i H1 ys ties) (t : Trk H L) (hm : m ∈ L) (s : SameM m H1 H2) (M : MAt H2 m c cs b') (hp : H2 p = none) (hr : r < i + 1) :
    Shp K H L m c l cs b' (i + 1) (upd (upd H2 p (.tup [.int (r : Int), .int ((i + 1 : Nat) : Int)])) l (.lst (ys ++ [.ref p]))) (ys ++ [.ref p]) (ties ++ [(r, i + 1)]) := by
  have lm := S.ne t hm
  have el : H2 l = some (.lst ys) := s.at S.el lm
  have npl : l ≠ p := ne_of_none el hp
  have npc : c ≠ p := ne_of_none M.c hp
  obtain ⟨_, _, _, em, _⟩ := M.d
  have npm : m ≠ p := ne_of_none em hp
  have p0 : H1 p = none := s.free hp S.M.some (by rw [em]; simp)
  have p00 : H p = none := S.s.free p0 (t m hm) S.M.some
  have t2 : Trk H2 (l :: L) := ((t.mS (S.s.trans s) (by rw [em]; simp))).cons (by rw [el]; simp)
  have hpL : p ∉ l :: L := t2.fresh hp
  refine ⟨SameM.mut (SameM.mut (S.s.trans s) p00 _) S.l0 _, (M.upd npm.symm npc.symm).upd lm S.lc, S.l0, S.lc, upd_same, ?_, by rw [List.length_append, S.n]; rfl, ?_⟩
  · rw [wo_upd_in (by simp), List.map_append]
    refine L2.DpAll.snoc ?_ (pr_new t2 hp r (i + 1))
    refine dpAll_mono ?_ S.d
    refine (SameM.wo (L := l :: L) s (List.mem_cons_of_mem _ hm)).trans ?_
    rw [wo_upd_out hpL]
    exact same_new (by rw [wo_out hpL]; exact hp) _
  · intro k q hk
    by_cases h : k < ties.length
    · rw [List.getElem?_append_left h] at hk
      exact S.sh k q hk
    · rw [List.getElem?_append_right (by omega)] at hk
      have e0 : k - ties.length = 0 := by
        have := (List.getElem?_eq_some_iff.mp hk).1
        simp at this
        omega
      rw [e0] at hk
      cases hk
      have := S.n
      simp only
      omega
end
end Y
namespace Y
open PySem PySem.Spec PyProof.Rows L2
theorem made_lst2 {K : PySem.W.Frag} {H H' : Hp} {L : List Addr} {m c l : Addr} {cs : List Int} {b i : Nat} {ys : List V} {ties : List (Nat × Nat)} (t : Trk H L) (S : Shp K H L m c l cs b i H' ys ties) : Dp K (wo H' L) (.ref l) (.list (ties.map pr)) := by
  refine .lst (.inl (.inl ?_)) (dpAll_mono wo_cons_le S.d)
  rw [wo_out (t.fresh S.l0)]
  exact S.el
end Y
namespace Y
theorem shape_tree {ties : List (Nat × Nat)} (h : ∀ (k : Nat) p, ties[k]? = some p → p.2 = k + 1 ∧ p.1 < k + 1) : ∀ k, k ≤ ties.length → TM.IsTree (k + 1) (adjT (ties.take k))
  | 0, _ => TM.isTree_one fun u v a => by
      unfold adjT at a
      simp at a
  | k + 1, hk => by
    have hp : ties[k]? = some ties[k] := List.getElem?_eq_getElem (by omega)
    obtain ⟨h1, h2⟩ := h k _ hp
    refine TM.isTree_leaf (shape_tree h k (by omega)) (q := ties[k].1) h2 fun u v => ?_
    unfold adjT
    rw [List.take_add_one, hp]
    simp only [Option.toList_some, List.mem_append, List.mem_singleton]
    obtain ⟨⟨a, c⟩, e⟩ : ∃ p, ties[k] = p := ⟨_, rfl⟩
    rw [e] at h1 h2 ⊢
    simp only [Prod.mk.injEq] at *
    subst h1
    constructor
    · rintro ((x | x) | (x | x))
      · exact .inl (.inl x)
      · exact .inr (.inl x)
      · exact .inl (.inr x)
      · exact .inr (.inr ⟨x.2, x.1⟩)
    · rintro ((x | x) | x | x)
      · exact .inl (.inl x)
      · exact .inr (.inl x)
      · exact .inl (.inr x)
      · exact .inr (.inr ⟨x.2, x.1⟩)
theorem asc_of {l : List (Nat × Nat)} (h : l.Pairwise fun p q => leP p q = true) (nd : l.Nodup) : l.Pairwise lexL := by
  refine List.Pairwise.imp ?_ (List.pairwise_and_iff.mpr ⟨h, nd⟩)
  rintro p q ⟨a, b⟩
  rw [leP_iff] at a
  unfold lexL
  have : ¬ (p.1 = q.1 ∧ p.2 = q.2) := fun z => b (Prod.ext z.1 z.2)
  omega
theorem adjT_perm {l m : List (Nat × Nat)} (p : l.Perm m) (u v : Nat) : adjT l u v ↔ adjT m u v := by
  unfold adjT
  rw [p.mem_iff, p.mem_iff]
theorem mk2_id {l : List (Nat × Nat)} (h : ∀ p ∈ l, p.1 < p.2) : (l.map fun p => mk2 p.1 p.2) = l := by
  conv => rhs; rw [← List.map_id l]
  refine List.map_congr_left fun p hp => ?_
  have := h p hp
  unfold mk2
  apply Prod.ext
  · show min p.1 p.2 = p.1
    omega
  · show max p.1 p.2 = p.2
    omega
theorem made_tree {n : Nat} {ws : List Int} {ties : List (Nat × Nat)} (S : Shape n ties) (hw : ws.length = n) (hn : n ≤ 16) : Tree (madeT ws ties) := by
  obtain ⟨hl, h⟩ := S
  have lt : ∀ p ∈ ties, p.1 < p.2 ∧ p.2 < n := fun p hp => by
    obtain ⟨k, hk⟩ := List.mem_iff_getElem?.mp hp
    have := h k p hk
    have := (List.getElem?_eq_some_iff.mp hk).1
    omega
  have e : (madeT ws ties).ties = sortP ties := by
    show sortP (ties.map fun p => mk2 p.1 p.2) = _
    rw [mk2_id fun p hp => (lt p hp).1]
  have nd : ties.Nodup := by
    refine List.pairwise_iff_getElem.mpr fun i j hi hj hij e2 => ?_
    have a := (h i _ (List.getElem?_eq_getElem hi)).1
    have c := (h j _ (List.getElem?_eq_getElem hj)).1
    rw [e2] at a
    omega
  have pm := sortP_perm ties
  have hn' : (madeT ws ties).n = n := hw
  refine ⟨⟨by rw [hn']; exact hn, by rw [e, pm.length_eq]; omega, fun p hp => ?_, by rw [e]; exact asc_of (sortP_sorted ties) (pm.nodup_iff.mpr nd)⟩, ?_⟩
  · rw [e] at hp
    rw [hn']
    exact lt p (pm.mem_iff.mp hp)
  · rw [e, hn']
    refine TM.isTree_congr (fun u v => (adjT_perm pm u v).symm) ?_
    cases n with
    | zero => exact TM.isTree_zero
    | succ n =>
      have := shape_tree h ties.length (Nat.le_refl _)
      rw [List.take_length] at this
      have e3 : ties.length + 1 = n + 1 := by omega
      rw [e3] at this
      exact this
end Y
namespace Y
open PySem PySem.Spec PyProof.Rows L2
/-- a dict comprehension over a walk -/
theorem dc_it {J : It} {n : Nat} {G : Hp → Prop} {Yt : Nat → Hp → V → Hp → Prop} (w : Walk J n G Yt) {g : TG} {tt : TT} {tk tv : TE} {vs : List Nat} {σ : L2.St} {H1 : Hp} {D : Addr} {Qd : Hp → Prop} (Pv : Nat → Hp → Prop) (h0 : Pv 0 (upd H1 D (.dK []))) (hG : ∀ i H, i ≤ n → Pv i H → G H)
    (hs : ∀ i x H H', i < n → Pv i H → Yt i H x H' → g x (wipe σ vs) H' fun σ2 H2 => wipe σ2 vs = wipe σ vs ∧ tt σ2 H2 fun b H3 =>
      if b = true then tk σ2 H3 fun y H4 => tv σ2 H4 fun z H5 => ∃ kvs k, y = kV k ∧ H5 D = some (.dK kvs) ∧ kvs.length < sizeLine ∧ Pv (i + 1) (upd H5 D (.dK (putK kvs k z))) else Pv (i + 1) H3) (hd : ∀ H, Pv n H → Qd H) :
    ∃ W : Nat → Nat → Hp → Prop, (∃ m, W 0 m (upd H1 D (.dK []))) ∧ ∀ i m H, W i m H →
      (J.stop i H ∧ Qd H) ∨ (J.go i H ∧ ∃ Nx : Hp → Prop, (∀ H', Nx H' → ∃ m', m' < m ∧ W (i + 1) m' H') ∧ ∀ x H', J.yld i H x H' → g x (wipe σ vs) H' fun σ2 H2 => wipe σ2 vs = wipe σ vs ∧ tt σ2 H2 fun b H3 =>
        if b = true then tk σ2 H3 fun y H4 => tv σ2 H4 fun z H5 => ∃ kvs k, y = kV k ∧ H5 D = some (.dK kvs) ∧ kvs.length < sizeLine ∧ Nx (upd H5 D (.dK (putK kvs k z))) else Nx H3) := by
  refine ⟨fun i m H => m = n - i ∧ i ≤ n ∧ Pv i H, ⟨n, by simp, Nat.zero_le _, h0⟩, ?_⟩
  rintro i m H ⟨rfl, hi, p⟩
  have q := hG i H hi p
  by_cases hlt : i < n
  · refine .inr ⟨w.goes i H hlt q, Pv (i + 1), fun H' p' => ⟨n - (i + 1), by omega, rfl, hlt, p'⟩, fun x H' y => hs i x H H' hlt p (w.yields i H x H' hlt q y)⟩
  · have e : i = n := by omega
    subst e; exact .inl ⟨w.stops H q, hd H p⟩
/-- places numbered -/
def numK (l : List Nat) : List (Key × V) := l.zipIdx.map fun p => (Sum.inl (p.1 : Int), V.int (p.2 : Int))
theorem numK_len (l : List Nat) : (numK l).length = l.length := by unfold numK; simp
theorem valV_app (a b : List (Key × V)) (k : Key) : valV (a ++ b) k = (valV a k).or (valV b k) := by
  unfold valV; rw [List.find?_append]
  cases List.find? (fun kv => decide (kv.1 = k)) a <;> rfl
theorem numK_snoc (l : List Nat) (x : Nat) : numK (l ++ [x]) = numK l ++ [(Sum.inl (x : Int), V.int (l.length : Int))] := by
  unfold numK; rw [List.zipIdx_append, List.map_append]; simp
theorem numK_none {l : List Nat} {x : Nat} (h : x ∉ l) : valV (numK l) (Sum.inl (x : Int)) = none := by
  unfold valV numK; rw [List.find?_eq_none.mpr]
  · rfl
  · intro kv hkv
    obtain ⟨p, hp, rfl⟩ := List.mem_map.mp hkv
    have : p.1 ∈ l := by
      have := List.mem_zipIdx hp; rw [this.2.2]; exact List.getElem_mem _
    simp only [decide_eq_true_eq]; intro e; have e := Sum.inl.inj e
    have : p.1 = x := by omega
    exact h (by rw [← this]; assumption)
theorem numK_put {l : List Nat} {x : Nat} (h : x ∉ l) : putK (numK l) (Sum.inl (x : Int)) (.int (l.length : Int)) = numK (l ++ [x]) := by
  rw [putK_new _ (numK_none h), numK_snoc]
theorem numK_at : ∀ {l : List Nat} {x : Nat}, l.Nodup → x ∈ l → valV (numK l) (Sum.inl (x : Int)) = some (.int (l.idxOf x : Nat)) := by
  intro l
  induction h : l.length generalizing l with
  | zero =>
    intro x _ m; rw [List.length_eq_zero_iff.mp h] at m
    cases m
  | succ n ih =>
    intro x nd m; obtain ⟨r, y, rfl⟩ : ∃ r y, l = r ++ [y] := ⟨l.dropLast, l.getLast (fun e => by rw [e] at h; cases h), (List.dropLast_concat_getLast _).symm⟩
    have hr : r.length = n := by simp at h; exact h
    rw [numK_snoc, valV_app]; rw [List.nodup_append] at nd
    by_cases hx : x ∈ r
    · rw [ih hr nd.1 hx, List.idxOf_append, if_pos hx]
      rfl
    · have e : x = y := by
        rcases List.mem_append.mp m with m | m
        · exact absurd m hx
        · simpa using m
      subst e; rw [numK_none hx, List.idxOf_append, if_neg hx]; simp [valV]
end Y
namespace MT
open Y
section
variable {V : List Nat} {W B : Nat → Int}
theorem pd_perm (f : Nat → Int) {V V' : List Nat} (p : V.Perm V') : pd f V = pd f V' := by
  induction p with
  | nil => rfl
  | cons x _ ih => rw [pd_cons, pd_cons, ih]
  | swap x y l => rw [pd_cons, pd_cons, pd_cons, pd_cons]; grind
  | trans _ _ h1 h2 => rw [h1, h2]
theorem M_V {V V' : List Nat} (p : V.Perm V') : ∀ (E : List (Nat × Nat)) (g : Nat → Bool), M V W B E g = M V' W B E g
  | [], g => pd_perm _ p
  | q :: E, g => by rw [M_cons, M_cons, M_V p E, M_V p E]
theorem M_W {W' : Nat → Int} : ∀ (E : List (Nat × Nat)) (g : Nat → Bool), (∀ x, g x = false → W x = W' x) → M V W B E g = M V W' B E g
  | [], g, h => pd_congr fun x _ => by
      cases hg : g x
      · simp [h x hg]
      · simp
  | q :: E, g, h => by
    rw [M_cons, M_cons, M_W E g h, M_W E _ fun x hx => h x (by
      simp only [ins_at, Bool.or_eq_false_iff] at hx
      exact hx.1.1)]
end
def wt (t : Tr) (v : Nat) : Int := t.ws.getD v 0
/-- what is left without some places -/
def LW (t : Tr) (g : Nat → Bool) : Int := M (List.range t.n) (fun v => -wt t v) (fun _ => 1) t.ties g
def none' : Nat → Bool := fun _ => false
def Dt (t : Tr) : Int := LW t none'
section
variable {t : Tr} {r : Nat} {par dep : Nat → Nat} {S : List Nat}
theorem edg_perm (T : Tree t) (R : TM.Rooted t.n (adjT t.ties) r par dep) (G : Grow r par S) (hS : ∀ v, v ∈ S ↔ v < t.n) : ((edg r par S).map fun p => mk2 p.1 p.2).Perm t.ties := by
  have nt : t.ties.Nodup := T.asc.imp fun h e => by
    subst e; unfold lexL at h; omega
  refine (List.perm_ext_iff_of_nodup ?_ nt).mpr fun p => ?_
  · have nf : ((S.filter fun v => decide (v ≠ r)).reverse).Nodup := by
      refine List.pairwise_reverse.mpr ?_
      exact (G.nd.filter _).imp fun h => Ne.symm h
    unfold edg
    rw [List.map_map]
    refine List.pairwise_map.mpr (List.Pairwise.imp_of_mem ?_ nf)
    intro a b ha hb ne e
    simp only [List.mem_reverse, List.mem_filter, decide_eq_true_eq] at ha hb
    have ra := R.up a ((hS a).mp ha.1) ha.2
    have rb := R.up b ((hS b).mp hb.1) hb.2
    have e' : mk2 (par a) a = mk2 (par b) b := e
    unfold mk2 at e'
    have e1 := congrArg Prod.fst e'
    have e2 := congrArg Prod.snd e'
    simp only at e1 e2
    have : (par a = par b ∧ a = b) ∨ (par a = b ∧ a = par b) := by omega
    rcases this with h | h
    · exact ne h.2
    · rw [h.1] at ra
      rw [← h.2] at rb
      omega
  · rw [List.mem_map]
    constructor
    · rintro ⟨q, hq, rfl⟩
      obtain ⟨v, hv, ne, rfl⟩ := edg_mem.mp hq
      have hn := (hS v).mp hv
      have := (R.edge (par v) v).mpr ⟨(R.up v hn ne).1, hn, .inr ⟨ne, rfl⟩⟩
      rcases this with h | h
      · have := (T.inb _ h).1
        have e : mk2 (par v) v = (par v, v) := by
          unfold mk2
          simp only at this
          exact Prod.ext (by show min _ _ = _; omega) (by show max _ _ = _; omega)
        show mk2 (par v) v ∈ _
        rw [e]; exact h
      · have := (T.inb _ h).1
        have e : mk2 (par v) v = (v, par v) := by
          unfold mk2
          simp only at this
          exact Prod.ext (by show min _ _ = _; omega) (by show max _ _ = _; omega)
        show mk2 (par v) v ∈ _
        rw [e]; exact h
    · intro hp
      obtain ⟨u, w⟩ := p
      have lt := T.inb _ hp
      simp only at lt
      rcases ((R.edge u w).mp (.inl hp)).2.2 with ⟨h1, h2⟩ | ⟨h1, h2⟩
      · refine ⟨(par u, u), edg_mem.mpr ⟨u, (hS u).mpr (by omega), h1, rfl⟩, ?_⟩
        rw [h2]
        unfold mk2
        exact Prod.ext (by show min _ _ = _; omega) (by show max _ _ = _; omega)
      · refine ⟨(par w, w), edg_mem.mpr ⟨w, (hS w).mpr (by omega), h1, rfl⟩, ?_⟩
        rw [h2]
        unfold mk2
        exact Prod.ext (by show min _ _ = _; omega) (by show max _ _ = _; omega)
theorem S_perm (G : Grow r par S) (hS : ∀ v, v ∈ S ↔ v < t.n) : S.Perm (List.range t.n) := (List.perm_ext_iff_of_nodup G.nd List.nodup_range).mpr fun v => by rw [hS, List.mem_range]
theorem M_tree {W B : Nat → Int} (T : Tree t) (R : TM.Rooted t.n (adjT t.ties) r par dep) (G : Grow r par S) (hS : ∀ v, v ∈ S ↔ v < t.n) (g : Nat → Bool) : M S W B (edg r par S) g = M (List.range t.n) W B t.ties g := by
  rw [← M_perm (edg_perm T R G hS), M_turn (fun p : Nat × Nat => mk2 p.1 p.2) (fun p => by
    unfold mk2
    by_cases h : p.1 ≤ p.2
    · exact .inl (Prod.ext (by show min _ _ = _; omega) (by show max _ _ = _; omega))
    · exact .inr (Prod.ext (by show min _ _ = _; omega) (by show max _ _ = _; omega))), M_V (S_perm G hS)]
/-- the code's way of working it out -/
theorem left_is (T : Tree t) (R : TM.Rooted t.n (adjT t.ties) r par dep) (G : Grow r par S) (hS : ∀ v, v ∈ S ↔ v < t.n) (gone : Nat → Bool) :
    (fin gone r par S (fun v => if gone v then 1 else -wt t v, fun _ => 1)).1 r = LW t gone := by
  rw [fin_M G _ fun v h => by simp [h], M_tree T R G hS]
  exact M_W _ _ fun x hx => by simp [hx]
end
/-! ### ways -/
section
variable {t : Tr} {i : Nat} {par dep : Nat → Nat}
/-- the places on the way from k to the root -/
def on (par dep : Nat → Nat) (k : Nat) : Nat → Bool := fun x => decide (x ∈ TM.way par dep k)
theorem on_root (R : TM.Rooted t.n (adjT t.ties) i par dep) : on par dep i = ins none' i := by
  funext x
  unfold on TM.way
  rw [R.dep0]
  simp [TM.upto, ins, none']
theorem on_up (R : TM.Rooted t.n (adjT t.ties) i par dep) {k : Nat} (hk : k < t.n) (ne : k ≠ i) : on par dep k = ins (on par dep (par k)) k := by
  funext x
  unfold on TM.way
  rw [(R.up k hk ne).2]
  simp only [TM.upto, List.mem_cons, ins_at]
  rw [Bool.eq_iff_iff]
  simp only [Bool.or_eq_true, decide_eq_true_eq]
  exact or_comm
theorem on_dep (R : TM.Rooted t.n (adjT t.ties) i par dep) {k x : Nat} (hk : k < t.n) (h : on par dep k x = true) : dep x ≤ dep k := (TM.upto_lt R _ k hk rfl x (of_decide_eq_true h)).2
theorem on_self (R : TM.Rooted t.n (adjT t.ties) i par dep) (k : Nat) : on par dep k k = true := by
  refine decide_eq_true ?_
  unfold TM.way
  cases h : dep k <;> simp [TM.upto]
/-- the lines of the inverse: what is left off the ways to i -/
theorem inv_at (T : Tree t) (R : TM.Rooted t.n (adjT t.ties) i par dep) {k : Nat} (hk : k < t.n) :
    wt t k * LW t (on par dep k) + sm (fun j => LW t (on par dep j)) (nb t.ties k) = if k = i then -Dt t else 0 := by
  have nl : ∀ p ∈ t.ties, p.1 ≠ p.2 := fun p hp => Nat.ne_of_lt (T.inb p hp).1
  by_cases e : k = i
  · subst e
    rw [if_pos rfl]
    have x := M_at (V := List.range t.n) (W := fun v => -wt t v) (B := fun _ => 1) (i := k) List.nodup_range (List.mem_range.mpr hk) rfl (E := t.ties) (g := none') nl rfl
    have e1 : sm (fun j => LW t (on par dep j)) (nb t.ties k) = sm (fun j => bif none' j then 0 else M (List.range t.n) (fun v => -wt t v) (fun _ => 1) t.ties (ins (ins none' k) j)) (nb t.ties k) := by
      refine sm_congr fun j hj => ?_
      have hjn := nb_lt T.toOkt hj
      have ed := ((R.edge k j).mp (nb_mem.mp hj)).2.2
      rcases ed with h | h
      · exact absurd rfl h.1
      · rw [on_up R hjn.1 h.1, h.2, on_root R]
        rfl
    rw [e1, on_root R]
    show _ * M _ _ _ _ _ + _ = -M _ _ _ _ _
    rw [x]
    grind
  · rw [if_neg e]
    have up := R.up k hk e
    have gk : on par dep (par k) k = false := by
      cases h : on par dep (par k) k
      · rfl
      · have := on_dep R up.1 h
        omega
    have x := M_at (V := List.range t.n) (W := fun v => -wt t v) (B := fun _ => 1) (i := k) List.nodup_range (List.mem_range.mpr hk) rfl (E := t.ties) (g := on par dep (par k)) nl gk
    have pin : par k ∈ nb t.ties k := nb_mem.mpr ((R.edge k (par k)).mpr ⟨hk, up.1, .inl ⟨e, rfl⟩⟩)
    have e1 := sm_one (f := fun j => LW t (on par dep j)) (f' := fun j => bif on par dep (par k) j then 0 else M (List.range t.n) (fun v => -wt t v) (fun _ => 1) t.ties (ins (ins (on par dep (par k)) k) j)) (p := par k) (nb_nodup T.toOkt k) pin (fun j hj ne => by
      have hjn := nb_lt T.toOkt hj
      rcases ((R.edge k j).mp (nb_mem.mp hj)).2.2 with h | h
      · exact absurd h.2.symm ne
      · have uj := R.up j hjn.1 h.1
        rw [h.2] at uj
        have gj : on par dep (par k) j = false := by
          cases h : on par dep (par k) j
          · rfl
          · have := on_dep R up.1 h
            omega
        rw [on_up R hjn.1 h.1, h.2, on_up R hk e]
        simp only [gj, cond_false]
        rfl)
    rw [e1, on_self R (par k), on_up R hk e]
    show _ * M _ _ _ _ _ + (_ + (M _ _ _ _ _ - _)) = 0
    rw [x]
    simp only [cond_true]
    grind
end
/-! ### sums over ties -/
theorem sm_two {f : Nat → Int} {u w n : Nat} {x y : Int} (hu : u < n) (hw : w < n) (ne : u ≠ w) (h : ∀ j, f j = if j = u then x else if j = w then y else 0) : sm f (List.range n) = x + y := by
  have z : sm (fun _ => 0) (List.range n) = 0 := by
    have := sm_mul 0 (fun _ => 0) (List.range n)
    simp at this
    exact this
  have e1 := sm_one (f := f) (f' := fun j => if j = w then y else 0) (p := u) List.nodup_range (List.mem_range.mpr hu) fun j _ hj => by rw [h, if_neg hj]
  have e2 := sm_one (f := fun j => if j = w then y else 0) (f' := fun _ => 0) (p := w) List.nodup_range (List.mem_range.mpr hw) fun j _ hj => by simp [hj]
  rw [e1, e2, z, h]
  simp [ne]
  omega
/-- the sum over all ties, both ways -/
def sT (f h : Nat → Int) (T : List (Nat × Nat)) : Int := (T.map fun p => f p.1 * h p.2 + f p.2 * h p.1).foldr (· + ·) 0
theorem sT_comm (f h : Nat → Int) : ∀ T, sT f h T = sT h f T
  | [] => rfl
  | p :: T => by
    show f p.1 * h p.2 + f p.2 * h p.1 + sT f h T = h p.1 * f p.2 + h p.2 * f p.1 + sT h f T
    rw [sT_comm f h T]
    grind
theorem sm_ties (f h : Nat → Int) {n : Nat} : ∀ {T : List (Nat × Nat)}, (∀ p ∈ T, p.1 < p.2 ∧ p.2 < n) → sm (fun j => f j * sm h (nb T j)) (List.range n) = sT f h T
  | [], _ => by
    show sm (fun j => f j * 0) _ = 0
    have := sm_mul 0 (fun _ => 0) (List.range n)
    simp at this
    simp [this]
  | (u, w) :: T, H => by
    have hp := H (u, w) (by simp)
    simp only at hp
    have e : sm (fun j => f j * sm h (nb ((u, w) :: T) j)) (List.range n) = sm (fun j => (f j * sm h (other j (u, w)).toList) + f j * sm h (nb T j)) (List.range n) := by
      refine sm_congr fun j _ => ?_
      have : nb ((u, w) :: T) j = (other j (u, w)).toList ++ nb T j := by
        unfold nb
        rw [List.filterMap_cons]
        cases other j (u, w) <;> rfl
      rw [this, sm_app]
      grind
    rw [e, sm_add, sm_ties f h fun p m => H p (by simp [m]), sm_two (u := u) (w := w) (x := f u * h w) (y := f w * h u) (by omega) hp.2 (by omega) fun j => ?_]
    · rfl
    · unfold other
      by_cases h1 : u = j
      · subst h1; simp [sm]
      · by_cases h2 : w = j
        · subst h2; simp [sm, h1, Ne.symm h1]
        · simp [sm, h1, h2, Ne.symm h1, Ne.symm h2]
/-- a line of the table times x -/
def rowE (t : Tr) (x : Nat → Int) (k : Nat) : Int := wt t k * x k + sm x (nb t.ties k)
theorem sm_row {t : Tr} (O : Okt t) (f x : Nat → Int) : sm (fun k => f k * rowE t x k) (List.range t.n) = sm (fun k => wt t k * f k * x k) (List.range t.n) + sT f x t.ties := by
  rw [← sm_ties f x O.inb, ← sm_add]
  refine sm_congr fun k _ => ?_
  unfold rowE
  grind
/-- the inverse's line times the row of x is x again -/
theorem back_at {t : Tr} (T : Tree t) {i : Nat} {par dep : Nat → Nat} (R : TM.Rooted t.n (adjT t.ties) i par dep) (x : Nat → Int) : sm (fun j => LW t (on par dep j) * rowE t x j) (List.range t.n) = -Dt t * x i := by
  have e : sm (fun j => LW t (on par dep j) * rowE t x j) (List.range t.n) = sm (fun k => x k * rowE t (fun j => LW t (on par dep j)) k) (List.range t.n) := by
    rw [sm_row T.toOkt, sm_row T.toOkt, sT_comm]
    congr 1
    exact sm_congr fun k _ => by grind
  rw [e]
  have e2 := sm_one (f := fun k => x k * rowE t (fun j => LW t (on par dep j)) k) (f' := fun _ => 0) (p := i) List.nodup_range (List.mem_range.mpr R.root) fun k hk ne => by
    have := inv_at T R (List.mem_range.mp hk)
    rw [if_neg ne] at this
    show x k * (wt t k * LW t (on par dep k) + sm (fun j => LW t (on par dep j)) (nb t.ties k)) = 0
    rw [this]
    simp
  have z : sm (fun _ => 0) (List.range t.n) = 0 := by
    have := sm_mul 0 (fun _ => 0) (List.range t.n)
    simp at this
    exact this
  rw [e2, z]
  have := inv_at T R R.root
  rw [if_pos rfl] at this
  show 0 + (x i * (wt t i * LW t (on par dep i) + sm (fun j => LW t (on par dep j)) (nb t.ties i)) - 0) = _
  rw [this]
  grind
end MT
namespace Y
/-- the places as they are found: those ahead of c have been looked at -/
structure WInv (n : Nat) (r : Nat) (par : Nat → Nat) (S : List Nat) (c : Nat) : Prop where
  gr : MT.Grow r par S
  nd : S.Nodup
  lt : ∀ v ∈ S, v < n
  rin : r ∈ S
  le : c ≤ S.length
  up : ∀ v ∈ S, v ≠ r → par v ∈ S.take c
  down : ∀ p ∈ S.take c, ∀ w, w < n → w ≠ r → par w = p → w ∈ S
theorem WInv.start {n r : Nat} {par : Nat → Nat} (h : r < n) : WInv n r par [r] 0 :=
  ⟨.one, by simp, by simp; exact h, by simp, by simp, fun v m ne => absurd (by simpa using m) ne, fun p m => by simp at m⟩
theorem WInv.turn {n r c p : Nat} {par : Nat → Nat} {S cs : List Nat} (W : WInv n r par S c) (hp : S[c]? = some p) (nd : cs.Nodup) (hc : ∀ w, w ∈ cs ↔ w < n ∧ w ≠ r ∧ par w = p) : WInv n r par (S ++ cs) (c + 1) := by
  have hl := (List.getElem?_eq_some_iff.mp hp).1
  have et : (S ++ cs).take (c + 1) = S.take c ++ [p] := by
    rw [List.take_append_of_le_length (by omega), List.take_add_one, hp]
    rfl
  have np : p ∉ S.take c := fun m => by
    obtain ⟨j, hj⟩ := List.mem_iff_getElem?.mp m
    rw [List.getElem?_take] at hj
    split at hj
    · have := L2.nd_ix W.nd hp hj
      omega
    · cases hj
  refine ⟨W.gr.app nd fun c h => ?_, ?_, ?_, List.mem_append_left _ W.rin, by rw [List.length_append]; omega, ?_, ?_⟩
  · obtain ⟨h1, h2, h3⟩ := (hc c).mp h
    refine ⟨fun m => ?_, h2, by rw [h3]; exact List.mem_of_getElem? hp⟩
    have := W.up c m h2
    rw [h3] at this
    exact np this
  · rw [List.nodup_append]
    refine ⟨W.nd, nd, fun a ha b hb e => ?_⟩
    subst e
    obtain ⟨_, h2, h3⟩ := (hc a).mp hb
    have := W.up a ha h2
    rw [h3] at this
    exact np this
  · intro v m
    rcases List.mem_append.mp m with m | m
    · exact W.lt v m
    · exact ((hc v).mp m).1
  · intro v m ne
    rw [et]
    rcases List.mem_append.mp m with m | m
    · exact List.mem_append_left _ (W.up v m ne)
    · rw [((hc v).mp m).2.2]
      simp
  · intro q m w h1 h2 h3
    rw [et] at m
    rcases List.mem_append.mp m with m | m
    · exact List.mem_append_left _ (W.down q m w h1 h2 h3)
    · simp at m
      subst m
      exact List.mem_append_right _ ((hc w).mpr ⟨h1, h2, h3⟩)
theorem WInv.all {n r : Nat} {adj : Nat → Nat → Prop} {par dep : Nat → Nat} {S : List Nat} (W : WInv n r par S S.length) (R : TM.Rooted n adj r par dep) : ∀ v, v ∈ S ↔ v < n := by
  intro v
  refine ⟨W.lt v, ?_⟩
  have key : ∀ d v, dep v = d → v < n → v ∈ S := by
    intro d
    induction d with
    | zero =>
      intro v hd hv
      by_cases e : v = r
      · rw [e]; exact W.rin
      · have := (R.up v hv e).2
        omega
    | succ d ih =>
      intro v hd hv
      by_cases e : v = r
      · rw [e]; exact W.rin
      · obtain ⟨h1, h2⟩ := R.up v hv e
        have := ih (par v) (by omega) h1
        exact W.down (par v) (by rw [List.take_length]; exact this) v hv e rfl
  exact key _ v rfl
theorem WInv.few {n r c : Nat} {par : Nat → Nat} {S : List Nat} (W : WInv n r par S c) : S.length ≤ n := TM.nodup_le n S W.nd W.lt
/-- the neighbours but that on the way to the root -/
def kids (ties : List (Nat × Nat)) (r : Nat) (par : Nat → Nat) (p : Nat) : List Nat := (nb ties p).filter fun w => decide ((w : Int) ≠ if p = r then -1 else (par p : Int))
theorem kids_mem {t : Tr} {r : Nat} {par dep : Nat → Nat} (R : TM.Rooted t.n (adjT t.ties) r par dep) {p : Nat} (hp : p < t.n) (w : Nat) : w ∈ kids t.ties r par p ↔ w < t.n ∧ w ≠ r ∧ par w = p := by
  unfold kids
  rw [List.mem_filter, nb_mem, R.edge p w, decide_eq_true_iff]
  constructor
  · rintro ⟨⟨_, hw, c⟩, ne⟩
    rcases c with ⟨c1, c2⟩ | ⟨c1, c2⟩
    · rw [if_neg c1] at ne
      exact absurd (by rw [c2]) ne
    · exact ⟨hw, c1, c2⟩
  · rintro ⟨hw, h1, h2⟩
    refine ⟨⟨hp, hw, .inr ⟨h1, h2⟩⟩, ?_⟩
    by_cases e : p = r
    · rw [if_pos e]
      omega
    · rw [if_neg e]
      intro z
      have z' : w = par p := by omega
      have a := (R.up p hp e).2
      have b := (R.up w hw h1).2
      rw [h2] at b
      rw [← z'] at a
      omega
theorem kids_nodup {t : Tr} (O : Okt t) (r : Nat) (par : Nat → Nat) (p : Nat) : (kids t.ties r par p).Nodup := (nb_nodup O p).filter _
end Y
namespace Y
theorem range_bind {α β : Type} (f : α → Option β) (xs : List α) : ∀ n, n ≤ xs.length → (List.range n).filterMap (fun i => (xs[i]?).bind f) = (xs.take n).filterMap f
  | 0, _ => by simp
  | n + 1, h => by
    rw [List.range_succ, List.filterMap_append, range_bind f xs n (by omega), List.take_add_one, List.filterMap_append]
    have e : xs[n]? = some xs[n] := List.getElem?_eq_getElem (by omega)
    congr 1
    rw [e]
    simp [List.filterMap_cons, e]
theorem range_bind_all {α β : Type} (f : α → Option β) (xs : List α) : (List.range xs.length).filterMap (fun i => (xs[i]?).bind f) = xs.filterMap f := by
  rw [range_bind f xs _ (Nat.le_refl _), List.take_length]
end Y
namespace MT
open Y
/-- one child taken up -/
def kf (D N : Nat → Int) (s : Int × Int) (c : Nat) : Int × Int := (s.1 * D c - s.2 * N c, s.2 * D c)
def fk (D N : Nat → Int) (a : Int) (l : List Nat) : Int × Int := l.foldl (kf D N) (a, 1)
theorem kf_comm (D N : Nat → Int) (s : Int × Int) (c d : Nat) : kf D N (kf D N s c) d = kf D N (kf D N s d) c := by
  unfold kf
  exact Prod.ext (by simp only; grind) (by simp only; grind)
theorem foldl_perm {D N : Nat → Int} {l m : List Nat} (p : l.Perm m) : ∀ s, l.foldl (kf D N) s = m.foldl (kf D N) s := by
  induction p with
  | nil => intro s; rfl
  | cons x _ ih => intro s; exact ih _
  | swap x y l => intro s; show l.foldl _ (kf D N (kf D N s y) x) = l.foldl _ (kf D N (kf D N s x) y); rw [kf_comm]
  | trans _ _ h1 h2 => intro s; rw [h1, h2]
theorem fk_snoc (D N : Nat → Int) (a : Int) (l : List Nat) (c : Nat) : fk D N a (l ++ [c]) = kf D N (fk D N a l) c := by
  unfold fk
  rw [List.foldl_append]
  rfl
/-- what hangs on each place, and that without the place -/
def DN (n : Nat) (a : Nat → Int) (ks : Nat → List Nat) (D N : Nat → Int) : Prop := ∀ v, v < n → (D v, N v) = fk D N (a v) (ks v)
theorem dn_made {n : Nat} {adj : Nat → Nat → Prop} {r : Nat} {par dep : Nat → Nat} (R : TM.Rooted n adj r par dep) (a : Nat → Int) (ks : Nat → List Nat) (hk : ∀ v, v < n → ∀ c ∈ ks v, c < n ∧ c ≠ r ∧ par c = v) : ∃ D N, DN n a ks D N := by
  let F : Nat → Nat → Int × Int := fun k => Nat.rec (fun v => (a v, 1)) (fun _ f v => (ks v).foldl (fun s c => (s.1 * (f c).1 - s.2 * (f c).2, s.2 * (f c).1)) (a v, 1)) k
  refine ⟨fun v => (F (n - dep v) v).1, fun v => (F (n - dep v) v).2, fun v hv => ?_⟩
  have hd := TM.dep_lt R hv
  obtain ⟨k, e⟩ : ∃ k, n - dep v = k + 1 := ⟨n - dep v - 1, by omega⟩
  have e2 : F (n - dep v) v = (ks v).foldl (fun s c => (s.1 * (F k c).1 - s.2 * (F k c).2, s.2 * (F k c).1)) (a v, 1) := by rw [e]
  show ((F (n - dep v) v).1, (F (n - dep v) v).2) = _
  rw [show ((F (n - dep v) v).1, (F (n - dep v) v).2) = F (n - dep v) v from rfl, e2]
  unfold fk
  have go : ∀ (l : List Nat), (∀ c ∈ l, c ∈ ks v) → ∀ s : Int × Int, l.foldl (fun s c => (s.1 * (F k c).1 - s.2 * (F k c).2, s.2 * (F k c).1)) s = l.foldl (kf (fun v => (F (n - dep v) v).1) fun v => (F (n - dep v) v).2) s := by
    intro l
    induction l with
    | nil => intro _ s; rfl
    | cons c l ih =>
      intro hl s
      obtain ⟨h1, h2, h3⟩ := hk v hv c (hl c (by simp))
      have := (R.up c h1 h2).2
      rw [h3] at this
      have e3 : n - dep c = k := by omega
      rw [List.foldl_cons, List.foldl_cons, ih fun d m => hl d (by simp [m])]
      have e4 : kf (fun v => (F (n - dep v) v).1) (fun v => (F (n - dep v) v).2) s c = (s.1 * (F k c).1 - s.2 * (F k c).2, s.2 * (F k c).1) := by
        show (s.1 * (F (n - dep c) c).1 - s.2 * (F (n - dep c) c).2, s.2 * (F (n - dep c) c).1) = _
        rw [e3]
      rw [e4]
  exact go _ (fun c m => m) _
section
variable {t : Tr} {r : Nat} {par dep : Nat → Nat} {S : List Nat} {D N : Nat → Int}
theorem dn_keep {n : Nat} {ks : Nat → List Nat} {a : Nat → Int} (hDN : DN n a ks D N) (hk : ∀ v, v < n → ∀ c, c ∈ ks v ↔ c < n ∧ c ≠ r ∧ par c = v) (nd : ∀ v, v < n → (ks v).Nodup) {s : WB} {v u : Nat} {l : List Nat} (hun : u < n) (hvn : v < n) (hv : v ∉ S) (ne : v ≠ r) (hp : par v ∈ S) (own : s.1 v = D v ∧ s.2 v = N v)
    (e : (s.1 u, s.2 u) = fk D N (a u) l) (p : (l ++ (ks u).filter fun c => decide (c ∈ S ++ [v])).Perm (ks u)) : ∃ l, ((step none' r par v s).1 u, (step none' r par v s).2 u) = fk D N (a u) l ∧ (l ++ (ks u).filter fun c => decide (c ∈ S)).Perm (ks u) := by
  have est : step none' r par v s = (up s.1 (par v) (s.1 (par v) * s.1 v - s.2 (par v) * s.2 v), up s.2 (par v) (s.2 (par v) * s.1 v)) := by
    unfold step
    rw [if_neg ne]
    simp [none']
  by_cases eu : u = par v
  · subst eu
    refine ⟨l ++ [v], ?_, ?_⟩
    · rw [est, fk_snoc, ← e, own.1, own.2]
      simp [kf, up]
    · have p2 : ([v] ++ (ks (par v)).filter fun c => decide (c ∈ S)).Perm ((ks (par v)).filter fun c => decide (c ∈ S ++ [v])) := by
        refine (List.perm_ext_iff_of_nodup ?_ ((nd _ hun).filter _)).mpr fun c => ?_
        · exact List.nodup_cons.mpr ⟨fun m => by simp at m; exact hv m.2, (nd _ hun).filter _⟩
        · simp only [List.singleton_append, List.mem_cons, List.mem_filter, decide_eq_true_eq, List.mem_append, List.not_mem_nil, or_false]
          constructor
          · rintro (z | ⟨z1, z2⟩)
            · subst z
              exact ⟨(hk _ hun c).mpr ⟨hvn, ne, rfl⟩, .inr rfl⟩
            · exact ⟨z1, .inl z2⟩
          · rintro ⟨z1, z2 | z2⟩
            · exact .inr ⟨z1, z2⟩
            · exact .inl z2
      rw [List.append_assoc]
      exact (List.Perm.append_left l p2).trans p
  · refine ⟨l, ?_, ?_⟩
    · rw [est, ← e]
      simp [up, eu]
    · have e2 : ((ks u).filter fun c => decide (c ∈ S)) = (ks u).filter fun c => decide (c ∈ S ++ [v]) := by
        refine List.filter_congr fun c hc => ?_
        have h3 := ((hk u hun c).mp hc).2.2
        have : c ≠ v := fun z => eu (by rw [← h3, z])
        simp [this]
      rw [e2]
      exact p
theorem dn_fin {n : Nat} {ks : Nat → List Nat} {a : Nat → Int} (hDN : DN n a ks D N) (hk : ∀ v, v < n → ∀ c, c ∈ ks v ↔ c < n ∧ c ≠ r ∧ par c = v) (nd : ∀ v, v < n → (ks v).Nodup) (G : Grow r par S) : (∀ v ∈ S, v < n) →
    ∀ s : WB, (∀ v ∈ S, ∃ l, (s.1 v, s.2 v) = fk D N (a v) l ∧ (l ++ (ks v).filter fun c => decide (c ∈ S)).Perm (ks v)) → (fin none' r par S s).1 r = D r := by
  induction G with
  | one =>
    intro lt s h
    obtain ⟨l, e, p⟩ := h r (by simp)
    have hr := lt r (by simp)
    have e0 : ((ks r).filter fun c => decide (c ∈ [r])) = [] := by
      rw [List.filter_eq_nil_iff]
      intro c hc
      have := ((hk r hr c).mp hc).2.1
      simp [this]
    rw [e0, List.append_nil] at p
    have e1 : fin none' r par [r] s = s := by simp [fin, step]
    rw [e1]
    have e2 := hDN r hr
    unfold fk at e e2
    rw [foldl_perm p, ← e2] at e
    exact (congrArg Prod.fst e)
  | @more S v G hv ne hp ih =>
    intro lt s h
    rw [fin_snoc]
    have hvn := lt v (by simp)
    have hpn : par v < n := lt _ (by simp [hp])
    have own : s.1 v = D v ∧ s.2 v = N v := by
      obtain ⟨l, e, p⟩ := h v (by simp)
      have e0 : ((ks v).filter fun c => decide (c ∈ S ++ [v])) = [] := by
        rw [List.filter_eq_nil_iff]
        intro c hc z
        have z := of_decide_eq_true z
        obtain ⟨_, h2, h3⟩ := (hk v hvn c).mp hc
        rcases List.mem_append.mp z with m | m
        · have := (G.par c m h2).1
          rw [h3] at this
          exact hv this
        · simp at m
          subst m
          rw [h3] at hp
          exact hv hp
      rw [e0, List.append_nil] at p
      have e2 := hDN v hvn
      unfold fk at e e2
      rw [foldl_perm p, ← e2] at e
      exact ⟨congrArg Prod.fst e, congrArg Prod.snd e⟩
    refine ih (fun u m => lt u (by simp [m])) _ fun u hu => ?_
    obtain ⟨l, e, p⟩ := h u (by simp [hu])
    exact dn_keep hDN hk nd (lt u (by simp [hu])) hvn hv ne hp own e p
/-- the law's way of working it out -/
theorem dn_is (T : Tree t) (R : TM.Rooted t.n (adjT t.ties) r par dep) (G : Grow r par S) (hS : ∀ v, v ∈ S ↔ v < t.n) (h : DN t.n (fun v => -wt t v) (kids t.ties r par) D N) : D r = Dt t := by
  rw [Dt, ← left_is T R G hS none']
  refine (dn_fin h (fun v hv c => kids_mem R hv c) (fun v hv => kids_nodup T.toOkt r par v) G (fun v m => (hS v).mp m) _ fun v m => ⟨[], ?_, ?_⟩).symm
  · simp [fk, none']
  · rw [List.nil_append]
    refine List.Perm.of_eq (List.filter_eq_self.mpr fun c hc => decide_eq_true ((hS c).mpr ((kids_mem R ((hS v).mp m) c).mp hc).1))
/-- the closed form -/
theorem fk_eq (D N : Nat → Int) (a : Int) : ∀ (l : List Nat) (s : Int × Int), l.foldl (kf D N) s = (s.1 * pd D l - s.2 * ((List.range l.length).map fun k => N (l.getD k 0) * ((List.range l.length).map fun j => if j = k then 1 else D (l.getD j 0)).foldr (· * ·) 1).foldr (· + ·) 0, s.2 * pd D l)
  | [], s => by simp [pd]
  | c :: l, s => by
    rw [List.foldl_cons, fk_eq D N a l]
    have e1 : pd D (c :: l) = D c * pd D l := rfl
    have e2 : ((List.range l.length).map fun j => D (l.getD j 0)) = l.map D := by
      refine List.ext_getElem (by simp) fun i h1 h2 => ?_
      simp at h1 h2
      simp [h2]
    rw [e1, List.length_cons, List.range_succ_eq_map, List.map_cons, List.foldr_cons, List.map_cons, List.foldr_cons, List.map_map, List.map_map]
    have e3 : ((List.range l.length).map ((fun j => if j = 0 then 1 else D ((c :: l).getD j 0)) ∘ Nat.succ)).foldr (· * ·) 1 = pd D l := by
      unfold pd
      rw [← e2]
      congr 1
    have e4 : ((List.range l.length).map ((fun k => N ((c :: l).getD k 0) * ((0 :: (List.range l.length).map Nat.succ).map fun j => if j = k then 1 else D ((c :: l).getD j 0)).foldr (· * ·) 1) ∘ Nat.succ)).foldr (· + ·) 0 =
        D c * ((List.range l.length).map fun k => N (l.getD k 0) * ((List.range l.length).map fun j => if j = k then 1 else D (l.getD j 0)).foldr (· * ·) 1).foldr (· + ·) 0 := by
      have gen : ∀ m : List Nat, (m.map ((fun k => N ((c :: l).getD k 0) * ((0 :: (List.range l.length).map Nat.succ).map fun j => if j = k then 1 else D ((c :: l).getD j 0)).foldr (· * ·) 1) ∘ Nat.succ)).foldr (· + ·) 0 =
          D c * (m.map fun k => N (l.getD k 0) * ((List.range l.length).map fun j => if j = k then 1 else D (l.getD j 0)).foldr (· * ·) 1).foldr (· + ·) 0 := by
        intro m
        induction m with
        | nil => simp
        | cons k m ih =>
          rw [List.map_cons, List.map_cons, List.foldr_cons, List.foldr_cons, ih]
          have e5 : (((0 :: (List.range l.length).map Nat.succ).map fun j => if j = Nat.succ k then 1 else D ((c :: l).getD j 0)).foldr (· * ·) 1) = D c * ((List.range l.length).map fun j => if j = k then 1 else D (l.getD j 0)).foldr (· * ·) 1 := by
            rw [List.map_cons, List.foldr_cons, List.map_map]
            have e6 : ((List.range l.length).map ((fun j => if j = Nat.succ k then 1 else D ((c :: l).getD j 0)) ∘ Nat.succ)) = (List.range l.length).map fun j => if j = k then 1 else D (l.getD j 0) := by
              refine List.map_congr_left fun j _ => ?_
              simp
            rw [e6]
            simp
          show N ((c :: l).getD (k + 1) 0) * _ + _ = _
          rw [show (((0 :: (List.range l.length).map Nat.succ).map fun j => if j = k + 1 then 1 else D ((c :: l).getD j 0)).foldr (· * ·) 1) = _ from e5]
          simp
          grind
      exact gen _
    refine Prod.ext ?_ ?_
    · simp only [kf]
      rw [show (((List.range l.length).map ((fun j => if j = 0 then (1 : Int) else D ((c :: l).getD j 0)) ∘ Nat.succ)).foldr (· * ·) 1) = _ from e3, e4]
      simp
      grind
    · simp only [kf]
      grind
end
end MT
namespace MT
open Y
/-- numbers of few bits, together at most C -/
def Bd (C : Nat) (S : List Nat) (s : WB) : Prop := ∃ K : Nat → Nat, (∀ v ∈ S, (s.1 v).natAbs ≤ 2 ^ K v ∧ (s.2 v).natAbs ≤ 2 ^ K v) ∧ (S.map fun v => K v + 1).sum ≤ C
theorem sum_le {l : List Nat} {f : Nat → Nat} {v : Nat} (h : v ∈ l) : f v ≤ (l.map f).sum := by
  induction l with
  | nil => simp at h
  | cons x l ih =>
    rw [List.map_cons, List.sum_cons]
    rcases List.mem_cons.mp h with e | m
    · subst e; omega
    · have := ih m; omega
theorem Bd.at {C : Nat} {S : List Nat} {s : WB} (b : Bd C S s) {v : Nat} (h : v ∈ S) : (s.1 v).natAbs ≤ 2 ^ C ∧ (s.2 v).natAbs ≤ 2 ^ C := by
  obtain ⟨K, h1, h2⟩ := b
  have := sum_le (f := fun v => K v + 1) h
  have le : (2 : Nat) ^ K v ≤ 2 ^ C := Nat.pow_le_pow_right (by omega) (by omega)
  exact ⟨Nat.le_trans (h1 v h).1 le, Nat.le_trans (h1 v h).2 le⟩
theorem sum_up {p : Nat} {K : Nat → Nat} {k : Nat} : ∀ {l : List Nat}, l.Nodup → p ∈ l → (l.map fun u => (if u = p then K p + k else K u) + 1).sum = (l.map fun u => K u + 1).sum + k
  | [], _, m => by simp at m
  | x :: l, nd, m => by
    have nd' := List.nodup_cons.mp nd
    rw [List.map_cons, List.map_cons, List.sum_cons, List.sum_cons]
    by_cases e : x = p
    · subst e
      have : (l.map fun u => (if u = x then K x + k else K u) + 1) = l.map fun u => K u + 1 := List.map_congr_left fun u hu => by
        rw [if_neg fun z => nd'.1 (by rw [← z]; exact hu)]
      rw [this, if_pos rfl]; omega
    · have m' : p ∈ l := by
        rcases List.mem_cons.mp m with z | z
        · exact absurd z.symm e
        · exact z
      rw [sum_up nd'.2 m', if_neg e]; omega
theorem mul_le {a b : Int} {i j : Nat} (h1 : a.natAbs ≤ 2 ^ i) (h2 : b.natAbs ≤ 2 ^ j) : (a * b).natAbs ≤ 2 ^ (i + j) := by
  rw [Int.natAbs_mul, Nat.pow_add]; exact Nat.mul_le_mul h1 h2
theorem Bd.step {C : Nat} {S : List Nat} {s : WB} {gone : Nat → Bool} {r v : Nat} {par : Nat → Nat} (nd : S.Nodup) (hp : par v ∈ S) (hv : v ∉ S) (ne : v ≠ r) (b : Bd C (S ++ [v]) s) : Bd C S (MT.step gone r par v s) := by
  obtain ⟨K, h1, h2⟩ := b
  rw [List.map_append, List.sum_append] at h2
  refine ⟨fun u => if u = par v then K (par v) + (K v + 1) else K u, fun u hu => ?_, ?_⟩
  · have est : MT.step gone r par v s = (up s.1 (par v) (s.1 (par v) * s.1 v - (if gone (par v) || gone v then 0 else s.2 (par v) * s.2 v)), up s.2 (par v) (s.2 (par v) * s.1 v)) := by
      unfold MT.step; rw [if_neg ne]
    rw [est]
    by_cases e : u = par v
    · subst e
      obtain ⟨p1, p2⟩ := h1 (par v) (by simp [hp])
      obtain ⟨v1, v2⟩ := h1 v (by simp)
      have m1 := mul_le p1 v1
      have m2 := mul_le p2 v2
      have m3 := mul_le p2 v1
      have e2 : (2 : Nat) ^ (K (par v) + (K v + 1)) = 2 * 2 ^ (K (par v) + K v) := by rw [← Nat.add_assoc, Nat.pow_succ]; omega
      simp only [up, if_true]
      rw [e2]
      refine ⟨?_, by omega⟩
      have tri := Int.natAbs_sub_le (s.1 (par v) * s.1 v) (if (gone (par v) || gone v) = true then 0 else s.2 (par v) * s.2 v)
      have : (if (gone (par v) || gone v) = true then (0 : Int) else s.2 (par v) * s.2 v).natAbs ≤ 2 ^ (K (par v) + K v) := by
        split
        · simp
        · exact m2
      omega
    · simp only [up, if_neg e]
      exact h1 u (by simp [hu])
  · have := sum_up (K := K) (k := K v + 1) nd hp
    rw [this]
    simp at h2
    omega
theorem dn_bd {r n C : Nat} {par : Nat → Nat} {S : List Nat} {D N : Nat → Int} {ks : Nat → List Nat} {a : Nat → Int} (hDN : DN n a ks D N) (hk : ∀ v, v < n → ∀ c, c ∈ ks v ↔ c < n ∧ c ≠ r ∧ par c = v) (nd : ∀ v, v < n → (ks v).Nodup) (G : Grow r par S) : (∀ v ∈ S, v < n) →
    ∀ s : WB, Bd C S s → (∀ v ∈ S, ∃ l, (s.1 v, s.2 v) = fk D N (a v) l ∧ (l ++ (ks v).filter fun c => decide (c ∈ S)).Perm (ks v)) → ∀ v ∈ S, (D v).natAbs ≤ 2 ^ C ∧ (N v).natAbs ≤ 2 ^ C := by
  induction G with
  | one =>
    intro lt s b h v hv
    obtain ⟨l, e, p⟩ := h v hv
    have hr := lt v hv
    have e0 : ((ks v).filter fun c => decide (c ∈ [r])) = [] := by
      rw [List.filter_eq_nil_iff]
      intro c hc
      have := ((hk v hr c).mp hc).2.1
      simp [this]
    rw [e0, List.append_nil] at p
    have e2 := hDN v hr
    unfold fk at e e2
    rw [foldl_perm p, ← e2] at e
    have f1 : s.1 v = D v := congrArg Prod.fst e
    have f2 : s.2 v = N v := congrArg Prod.snd e
    have := b.at hv
    rw [f1, f2] at this
    exact this
  | @more S v G hv ne hp ih =>
    intro lt s b h
    have hvn := lt v (by simp)
    have own : s.1 v = D v ∧ s.2 v = N v := by
      obtain ⟨l, e, p⟩ := h v (by simp)
      have e0 : ((ks v).filter fun c => decide (c ∈ S ++ [v])) = [] := by
        rw [List.filter_eq_nil_iff]
        intro c hc z
        have z := of_decide_eq_true z
        obtain ⟨_, h2, h3⟩ := (hk v hvn c).mp hc
        rcases List.mem_append.mp z with m | m
        · have := (G.par c m h2).1
          rw [h3] at this
          exact hv this
        · simp at m
          subst m
          rw [h3] at hp
          exact hv hp
      rw [e0, List.append_nil] at p
      have e2 := hDN v hvn
      unfold fk at e e2
      rw [foldl_perm p, ← e2] at e
      exact ⟨congrArg Prod.fst e, congrArg Prod.snd e⟩
    intro u hu
    rcases List.mem_append.mp hu with m | m
    · refine ih (fun u m => lt u (by simp [m])) (step none' r par v s) (b.step G.nd hp hv ne) (fun u hu => ?_) u m
      obtain ⟨l, e, p⟩ := h u (by simp [hu])
      exact dn_keep hDN hk nd (lt u (by simp [hu])) hvn hv ne hp own e p
    · simp at m
      subst m
      have := b.at (v := u) (by simp)
      rw [own.1, own.2] at this
      exact this
/-! ### the loop's states -/
section
variable {t : Tr} {gone : Nat → Bool} {r : Nat} {par : Nat → Nat} {S : List Nat} {s : WB}
def sti (gone : Nat → Bool) (r : Nat) (par : Nat → Nat) (S : List Nat) (s : WB) (i : Nat) : WB := fin gone r par (S.drop (S.length - i)) s
theorem sti_zero : sti gone r par S s 0 = s := by
  unfold sti fin; simp
theorem sti_end : sti gone r par S s S.length = fin gone r par S s := by
  unfold sti; simp
theorem sti_succ {i v : Nat} (h : S[S.length - 1 - i]? = some v) (hi : i < S.length) : sti gone r par S s (i + 1) = step gone r par v (sti gone r par S s i) := by
  unfold sti fin
  have e : S.drop (S.length - (i + 1)) = v :: S.drop (S.length - i) := by
    have e1 : S.length - (i + 1) = S.length - 1 - i := by omega
    have e2 : S.length - i = S.length - 1 - i + 1 := by omega
    obtain ⟨hl, e3⟩ := List.getElem?_eq_some_iff.mp h
    rw [e1, e2, List.drop_eq_getElem_cons hl, e3]
  rw [e]
  rfl
theorem grow_take (G : Grow r par S) : ∀ i, i < S.length → Grow r par (S.take (S.length - i)) := by
  induction G with
  | one => intro i hi; simp at hi; subst hi; exact .one
  | @more S v G hv ne hp ih =>
    intro i hi
    cases i with
    | zero => rw [Nat.sub_zero, List.take_length]; exact .more G hv ne hp
    | succ i =>
      have e : (S ++ [v]).take ((S ++ [v]).length - (i + 1)) = S.take (S.length - i) := by
        rw [List.length_append, List.take_append_of_le_length (by simp)]
        simp
      rw [e]
      simp at hi
      exact ih i hi
theorem sti_bd {C : Nat} (G : Grow r par S) (b : Bd C S s) : ∀ i, i < S.length → Bd C (S.take (S.length - i)) (sti gone r par S s i)
  | 0, _ => by rw [sti_zero]; simpa using b
  | i + 1, hi => by
    have q := sti_bd G b i (by omega)
    obtain ⟨v, hv⟩ : ∃ v, S[S.length - 1 - i]? = some v := ⟨_, List.getElem?_eq_getElem (by omega)⟩
    rw [sti_succ hv (by omega)]
    have e : S.take (S.length - i) = S.take (S.length - (i + 1)) ++ [v] := by
      have e2 : S.length - i = S.length - (i + 1) + 1 := by omega
      rw [e2, List.take_add_one, show S.length - (i + 1) = S.length - 1 - i by omega, hv]
      rfl
    have g1 := grow_take G i (by omega)
    rw [e] at q g1
    cases hS : S.take (S.length - (i + 1)) with
    | nil =>
      have := congrArg List.length hS
      simp at this
      omega
    | cons x l =>
      rw [hS] at q g1
      have key : ∀ {T : List Nat}, Grow r par T → ∀ {A : List Nat}, T = A ++ [v] → A ≠ [] → A.Nodup ∧ v ∉ A ∧ v ≠ r ∧ par v ∈ A := by
        intro T g A e ne
        cases g with
        | one =>
          cases A with
          | nil => exact absurd rfl ne
          | cons a A => simp at e
        | @more S' v' g' h1 h2 h3 =>
          obtain ⟨e1, e2⟩ := List.append_inj' e rfl
          simp at e2
          subst e1 e2
          exact ⟨g'.nd, h1, h2, h3⟩
      obtain ⟨k1, k2, k3, k4⟩ := key g1 rfl (by simp)
      exact q.step k1 k4 k2 k3
end
end MT
namespace Y
open PySem PySem.Spec PyProof.Rows L2
/-- what each place is told in a dict -/
theorem merge_at (f : Nat → V) : ∀ (S : List Nat) (kvs : List (Key × V)) (v : Nat), valV (mergeK kvs (S.map fun (u : Nat) => ((Sum.inl (u : Int) : Key), f u))) (Sum.inl (v : Int)) = if v ∈ S then some (f v) else valV kvs (Sum.inl (v : Int))
  | [], kvs, v => by simp [mergeK]
  | u :: S, kvs, v => by
    have := merge_at f S (putK kvs (Sum.inl (u : Int)) (f u)) v
    show valV (mergeK (putK kvs (Sum.inl (u : Int)) (f u)) (S.map fun (u : Nat) => ((Sum.inl (u : Int) : Key), f u))) (Sum.inl (v : Int)) = _
    rw [this, valV_put]
    by_cases h : v ∈ S
    · rw [if_pos h, if_pos (List.mem_cons_of_mem _ h)]
    · rw [if_neg h]
      by_cases e : v = u
      · subst e
        simp
      · have : ¬ ((Sum.inl (v : Int) : Key) = Sum.inl (u : Int)) := fun z => e (by have := Sum.inl.inj z; omega)
        rw [if_neg this]
        simp [e, h]
theorem paired_steps {K : PySem.W.Frag} {H : Hp} {r : Nat} {par : Nat → Nat} : ∀ {xs : List V} {S : List Nat}, DpAll K H xs (S.map (stepD r par)) →
    ∃ ps : List Addr, xs = ps.map V.ref ∧ Paired (fun p (kv : Key × V) => SqT K H p [kV kv.1, kv.2]) ps (S.map fun (u : Nat) => ((Sum.inl (u : Int) : Key), V.int (if u = r then -1 else (par u : Int))))
  | _, [], .nil => ⟨[], rfl, .nil⟩
  | _, u :: S, .cons h t => by
    obtain ⟨ps, rfl, hp⟩ := paired_steps t
    obtain ⟨g, gs, rfl, hg, hga⟩ := dp_tup h
    cases hga with
    | cons h1 hga =>
      cases hga with
      | cons h2 hga =>
        cases hga
        rw [dp_int h1, dp_int h2] at hg
        exact ⟨g :: ps, rfl, .cons hg hp⟩
theorem paired_imp {α β : Type} {F G : α → β → Prop} (h : ∀ a b, F a b → G a b) : ∀ {xs : List α} {ys : List β}, Paired F xs ys → Paired G xs ys
  | _, _, .nil => .nil
  | _, _, .cons a t => .cons (h _ _ a) (paired_imp h t)
end Y
namespace Y
theorem nV_snoc (xs : List Nat) (v : Nat) : nV (xs ++ [v]) = nV xs ++ [L2.V.int (v : Int)] := by
  unfold nV
  rw [List.map_append]
  rfl
end Y
namespace Y
open PySem PySem.Spec PyProof.Rows L2
/-- what the law's dict tells -/
structure AH (S : List Nat) (kvs : List (Key × V)) (r : Nat) (par : Nat → Nat) : Prop where
  n : kvs.length = S.length
  val : ∀ v : Nat, valV kvs (Sum.inl (v : Int)) = if v ∈ S then some (.int ((if v = r then r else par v : Nat) : Int)) else none
theorem AH.put {S : List Nat} {kvs : List (Key × V)} {r w x : Nat} {par : Nat → Nat} (A : AH S kvs r par) (h : w ∉ S) (hr : w ≠ r) (hx : par w = x) : AH (S ++ [w]) (putK kvs (Sum.inl (w : Int)) (.int (x : Int))) r par := by
  have e0 : valV kvs (Sum.inl (w : Int)) = none := by rw [A.val w, if_neg h]
  refine ⟨by rw [putK_new _ e0, List.length_append, List.length_append, A.n]; rfl, fun v => ?_⟩
  rw [valV_put, A.val v]
  by_cases e : v = w
  · subst e
    simp [hr, hx]
  · have : ¬ ((Sum.inl (v : Int) : Key) = Sum.inl (w : Int)) := fun z => e (by have := Sum.inl.inj z; omega)
    rw [if_neg this]
    simp [e]
end Y
namespace Y
theorem Lst.len {n : Nat} {l : List Nat} (h : Lst n l) : l.length = n := by
  have p : l.Perm (List.range n) := (List.perm_ext_iff_of_nodup h.nd List.nodup_range).mpr fun v => by rw [h.all v, List.mem_range]
  rw [p.length_eq, List.length_range]
theorem Lst.at {n : Nat} {l : List Nat} (h : Lst n l) {v : Nat} (hv : v < n) : l[v]? = some (l.getD v 0) := by
  rw [List.getD_eq_getElem?_getD, List.getElem?_eq_getElem (by rw [h.len]; exact hv)]
  rfl
theorem Lst.f {n : Nat} {l : List Nat} (h : Lst n l) {v : Nat} (hv : v < n) : l.getD v 0 < n := (h.all _).mp (List.mem_of_getElem? (h.at hv))
theorem Lst.g {n : Nat} {l : List Nat} (h : Lst n l) {v : Nat} (hv : v < n) : l.idxOf v < n := by
  rw [← h.len]
  exact List.idxOf_lt_length_iff.mpr ((h.all v).mpr hv)
theorem Lst.fg {n : Nat} {l : List Nat} (h : Lst n l) {v : Nat} (hv : v < n) : l.getD (l.idxOf v) 0 = v := by
  have h1 := List.idxOf_lt_length_iff.mpr ((h.all v).mpr hv)
  rw [List.getD_eq_getElem?_getD, List.getElem?_eq_getElem h1, List.getElem_idxOf h1]
  rfl
theorem Lst.gf {n : Nat} {l : List Nat} (h : Lst n l) {v : Nat} (hv : v < n) : l.idxOf (l.getD v 0) = v := by
  have hm := h.f hv
  have h1 := h.at (h.g hm)
  rw [h.fg hm] at h1
  exact L2.nd_ix h.nd h1 (h.at hv)
theorem mk2_or (a b : Nat) : mk2 a b = (a, b) ∨ mk2 a b = (b, a) := by
  unfold mk2
  by_cases h : a ≤ b
  · left; rw [Nat.min_eq_left h, Nat.max_eq_right h]
  · right; rw [Nat.min_eq_right (by omega), Nat.max_eq_left (by omega)]
theorem mk2_comm (a b : Nat) : mk2 a b = mk2 b a := by
  unfold mk2
  rw [Nat.min_comm, Nat.max_comm]
theorem lst_mem {t : Tr} {l : List Nat} {q : Nat × Nat} : q ∈ (lstT t l).ties ↔ ∃ p ∈ t.ties, mk2 (l.idxOf p.1) (l.idxOf p.2) = q := by
  show q ∈ sortP _ ↔ _
  rw [(sortP_perm _).mem_iff, List.mem_map]
theorem lst_adj {t : Tr} (O : Okt t) {l : List Nat} (h : Lst t.n l) (u v : Nat) : adjT (lstT t l).ties u v ↔ (u < t.n ∧ v < t.n ∧ adjT t.ties (l.getD u 0) (l.getD v 0)) := by
  constructor
  · intro a
    have key : ∀ x y, (x, y) ∈ (lstT t l).ties → x < t.n ∧ y < t.n ∧ adjT t.ties (l.getD x 0) (l.getD y 0) := by
      intro x y hm
      obtain ⟨⟨c, d⟩, hp, e⟩ := lst_mem.mp hm
      have ib := O.inb _ hp
      simp only at ib e
      have hc : c < t.n := by omega
      rcases mk2_or (l.idxOf c) (l.idxOf d) with e1 | e1
      · rw [e1] at e
        cases e
        refine ⟨h.g hc, h.g ib.2, .inl ?_⟩
        rw [h.fg hc, h.fg ib.2]
        exact hp
      · rw [e1] at e
        cases e
        refine ⟨h.g ib.2, h.g hc, .inr ?_⟩
        rw [h.fg hc, h.fg ib.2]
        exact hp
    rcases a with a | a
    · exact key u v a
    · obtain ⟨h1, h2, h3⟩ := key v u a
      exact ⟨h2, h1, h3.symm⟩
  · rintro ⟨hu, hv, a⟩
    have key : ∀ x y, x < t.n → y < t.n → (l.getD x 0, l.getD y 0) ∈ t.ties → adjT (lstT t l).ties x y := by
      intro x y hx hy hm
      have := (lst_mem (l := l)).mpr ⟨_, hm, rfl⟩
      simp only at this
      rw [h.gf hx, h.gf hy] at this
      rcases mk2_or x y with e | e
      · rw [e] at this
        exact .inl this
      · rw [e] at this
        exact .inr this
    rcases a with a | a
    · exact key u v hu hv a
    · exact (key v u hv hu a).symm
theorem lst_n {t : Tr} {l : List Nat} (h : Lst t.n l) : (lstT t l).n = t.n := by
  show (l.map _).length = _
  rw [List.length_map, h.len]
theorem lst_okt {t : Tr} (O : Okt t) {l : List Nat} (h : Lst t.n l) : Okt (lstT t l) := by
  have hinj : ∀ a b, a < t.n → b < t.n → l.idxOf a = l.idxOf b → a = b := fun a b ha hb e => by rw [← h.fg ha, ← h.fg hb, e]
  refine ⟨by rw [lst_n h]; exact O.few, ?_, fun p hp => ?_, asc_of (sortP_sorted _) ((sortP_perm _).nodup_iff.mpr ?_)⟩
  · show (sortP _).length ≤ 100
    rw [(sortP_perm _).length_eq, List.length_map]
    exact O.fewT
  · obtain ⟨⟨c, d⟩, hm, e⟩ := lst_mem.mp hp
    have ib := O.inb _ hm
    simp only at ib e
    have hc : c < t.n := by omega
    have g1 := h.g hc
    have g2 := h.g ib.2
    have ne : l.idxOf c ≠ l.idxOf d := fun e => by have := hinj c d hc ib.2 e; omega
    rw [lst_n h, ← e]
    unfold mk2
    simp only
    omega
  · refine List.pairwise_map.mpr (List.Pairwise.imp_of_mem ?_ O.asc)
    rintro ⟨a, b⟩ ⟨c, d⟩ h1 h2 lt e
    have i1 := O.inb _ h1
    have i2 := O.inb _ h2
    simp only at i1 i2 e
    unfold lexL at lt
    simp only at lt
    have ha : a < t.n := by omega
    have hc : c < t.n := by omega
    have e1 : min (l.idxOf a) (l.idxOf b) = min (l.idxOf c) (l.idxOf d) := congrArg Prod.fst e
    have e2 : max (l.idxOf a) (l.idxOf b) = max (l.idxOf c) (l.idxOf d) := congrArg Prod.snd e
    have : (l.idxOf a = l.idxOf c ∧ l.idxOf b = l.idxOf d) ∨ (l.idxOf a = l.idxOf d ∧ l.idxOf b = l.idxOf c) := by omega
    rcases this with ⟨q1, q2⟩ | ⟨q1, q2⟩
    · have := hinj _ _ ha hc q1
      have := hinj _ _ i1.2 i2.2 q2
      omega
    · have := hinj _ _ ha i2.2 q1
      have := hinj _ _ i1.2 hc q2
      omega
theorem lst_tree {t : Tr} (O : Tree t) {l : List Nat} (h : Lst t.n l) : Tree (lstT t l) := by
  refine ⟨lst_okt O.toOkt h, ?_⟩
  rw [lst_n h]
  exact TM.isTree_listed O.tree (f := fun v => l.getD v 0) (g := fun v => l.idxOf v) (fun v hv => ⟨h.f hv, h.gf hv⟩) (fun v hv => ⟨h.g hv, h.fg hv⟩) fun u v => lst_adj O.toOkt h u v
/-- the listing turned back -/
def backL (n : Nat) (l : List Nat) : List Nat := (List.range n).map fun j => l.idxOf j
theorem backL_lst {n : Nat} {l : List Nat} (h : Lst n l) : Lst n (backL n l) := by
  refine ⟨List.pairwise_map.mpr (List.Pairwise.imp_of_mem ?_ List.nodup_range), fun v => ?_⟩
  · intro a b ha hb ne e
    have ha := List.mem_range.mp ha
    have hb := List.mem_range.mp hb
    exact ne (by rw [← h.fg ha, ← h.fg hb, e])
  · unfold backL
    rw [List.mem_map]
    constructor
    · rintro ⟨a, ha, rfl⟩
      exact h.g (List.mem_range.mp ha)
    · intro hv
      exact ⟨l.getD v 0, List.mem_range.mpr (h.f hv), h.gf hv⟩
theorem backL_at {n : Nat} {l : List Nat} {v : Nat} (hv : v < n) : (backL n l)[v]? = some (l.idxOf v) := by
  unfold backL
  simp [hv]
theorem backL_idx {n : Nat} {l : List Nat} (h : Lst n l) {v : Nat} (hv : v < n) : (backL n l).idxOf v = l.getD v 0 := by
  have hb := backL_lst h
  have h1 := hb.at (hb.g hv)
  rw [hb.fg hv] at h1
  have h2 := backL_at (l := l) (h.f hv)
  rw [h.gf hv] at h2
  exact L2.nd_ix hb.nd h1 h2
theorem lst_back {t : Tr} (O : Okt t) {l : List Nat} (h : Lst t.n l) : lstT (lstT t l) (backL t.n l) = t := by
  obtain ⟨ws, ties⟩ := t
  have e1 : (backL ws.length l).map (fun v => (l.map fun v => ws.getD v 0).getD v 0) = ws := by
    apply List.ext_getElem?
    intro i
    by_cases hi : i < ws.length
    · rw [List.getElem?_map, backL_at hi]
      show some ((l.map fun v => ws.getD v 0).getD (l.idxOf i) 0) = ws[i]?
      have hg := h.g (v := i) hi
      rw [List.getD_eq_getElem?_getD, List.getElem?_map, h.at hg, h.fg hi]
      show some (ws.getD i 0) = ws[i]?
      rw [List.getD_eq_getElem?_getD, List.getElem?_eq_getElem hi]
      rfl
    · rw [List.getElem?_eq_none (by simp [backL]; omega), List.getElem?_eq_none (by omega)]
  have e2 : sortP ((sortP (ties.map fun p => mk2 (l.idxOf p.1) (l.idxOf p.2))).map fun p => mk2 ((backL ws.length l).idxOf p.1) ((backL ws.length l).idxOf p.2)) = ties := by
    rw [sortP_of_perm ((sortP_perm (ties.map fun p => mk2 (l.idxOf p.1) (l.idxOf p.2))).map _), List.map_map]
    have e3 : ties.map ((fun p => mk2 ((backL ws.length l).idxOf p.1) ((backL ws.length l).idxOf p.2)) ∘ fun p => mk2 (l.idxOf p.1) (l.idxOf p.2)) = ties := by
      conv => rhs; rw [← List.map_id ties]
      refine List.map_congr_left fun p hp => ?_
      have ib := O.inb p hp
      obtain ⟨a, b⟩ := p
      simp only at ib
      have ha : a < ws.length := by have := ib.2; simp only [Tr.n] at this; omega
      have hb : b < ws.length := ib.2
      have ga : (backL ws.length l).idxOf (l.idxOf a) = a := by rw [backL_idx h (h.g ha), h.fg ha]
      have gb : (backL ws.length l).idxOf (l.idxOf b) = b := by rw [backL_idx h (h.g hb), h.fg hb]
      show mk2 ((backL ws.length l).idxOf (mk2 (l.idxOf a) (l.idxOf b)).1) ((backL ws.length l).idxOf (mk2 (l.idxOf a) (l.idxOf b)).2) = (a, b)
      have fin : mk2 a b = (a, b) := by
        unfold mk2
        rw [Nat.min_eq_left (by omega), Nat.max_eq_right (by omega)]
      rcases mk2_or (l.idxOf a) (l.idxOf b) with e | e
      · rw [e]
        simp only
        rw [ga, gb, fin]
      · rw [e]
        simp only
        rw [ga, gb, mk2_comm, fin]
    rw [e3]
    refine (sortP_uniq (O.asc.imp fun l => ?_) (List.Perm.refl _)).symm
    unfold lexL at l
    rw [leP_iff]
    omega
  show Tr.mk _ _ = Tr.mk _ _
  rw [Tr.mk.injEq]
  exact ⟨e1, e2⟩
end Y
namespace Y
open PySem PySem.Spec PyProof.Rows L2
theorem ne_same {d : PyData} (h : SeqAt.shaped d = true) : (!PyData.eqv d d) = false := by
  have := SeqAt.eqv_refl d (Bool.and_eq_true_iff.mp h).1
  rw [this]
  rfl
theorem shaped_nT (ns : List Nat) : SeqAt.shaped (.tuple (nD ns)) = true := by rw [nD_eq]; exact shaped_iT _
theorem canLay_prs : ∀ ps : List (Nat × Nat), PyData.canLayAll0 (ps.map pr) = true
  | [] => rfl
  | p :: ps => by
    show (PyData.canLay0 (pr p) && PyData.canLayAll0 (ps.map pr)) = true
    rw [canLay_prs ps]
    rfl
theorem depth_prs : ∀ ps : List (Nat × Nat), PyData.depthAll (ps.map pr) ≤ 1
  | [] => by show 0 ≤ 1; omega
  | p :: ps => by
    have := depth_prs ps
    show max (PyData.depth (pr p)) (PyData.depthAll (ps.map pr)) ≤ 1
    have h : PyData.depth (pr p) = 1 := rfl
    omega
theorem shaped_tr (t : Tr) : SeqAt.shaped (trD t) = true := by
  have h1 := depth_iD t.ws
  have h2 := depth_prs t.ties
  refine Bool.and_eq_true_iff.mpr ⟨?_, decide_eq_true ?_⟩
  · show (PyData.canLayAll0 (iD t.ws) && (PyData.canLayAll0 (t.ties.map pr) && true)) = true
    rw [canLay_iD, canLay_prs]
    rfl
  · show max (PyData.depthAll (iD t.ws) + 1) (max (PyData.depthAll (t.ties.map pr) + 1) 0) + 1 ≤ 64
    omega
end Y
namespace Y
open PySem PySem.Spec PyProof.Rows L2
structure Cx1 (K : PySem.W.Frag) (H : Hp) (m c : Addr) (cs : List Int) (b : Nat) (tv nv : V) (t : Tr) : Prop where
  M : MAt H m c cs b
  dT : Dp K (wo H [m]) tv (trD t)
  dN : Dp K (wo H [m]) nv (llD (nbs t))
theorem Cx1.trk {K H m c cs b tv nv t} (h : Cx1 K H m c cs b tv nv t) : Trk H [m] := (Trk.nil H).cons h.M.some
theorem Cx1.same {K H H' m c cs b tv nv t} (h : Cx1 K H m c cs b tv nv t) (s : Same H H') : Cx1 K H' m c cs b tv nv t := ⟨h.M.same s, dp_mono (wo_mono s) h.dT, dp_mono (wo_mono s) h.dN⟩
theorem Cx1.draw {K H H' m c cs b b' tv nv t} (h : Cx1 K H m c cs b tv nv t) (s : SameM m H H') (M : MAt H' m c cs b') : Cx1 K H' m c cs b' tv nv t := ⟨M, dp_mono s h.dT, dp_mono s h.dN⟩
theorem same_back {H0 H1 Hc : Hp} {m : Addr} (s : Same H0 H1) (h : H0 m = none) (z : SameM m H1 Hc) : Same H0 Hc := fun a o e => z.at (s a o e) (ne_of_none e h)
end Y
namespace Y
theorem idxOf_cast : ∀ (l : List Nat) (v : Nat), (l.map fun (n : Nat) => (n : Int)).idxOf (v : Int) = l.idxOf v
  | [], _ => rfl
  | a :: l, v => by
    rw [List.map_cons, List.idxOf_cons, List.idxOf_cons, idxOf_cast l v]
    have : ((a : Int) == (v : Int)) = (a == v) := by
      by_cases e : a = v
      · subst e; simp
      · have h1 : ((a : Int) == (v : Int)) = false := by simpa using fun z => e (by omega)
        have h2 : (a == v) = false := by simpa using e
        rw [h1, h2]
    rw [this]
end Y
namespace Y
open PySem PySem.Spec PyProof.Rows L2
/-- what is held besides, once the listing is drawn -/
structure Cx2 (K : PySem.W.Frag) (H : Hp) (m c : Addr) (cs : List Int) (b : Nat) (tv nv ov : V) (la : Addr) (t : Tr) (l : List Nat) : Prop where
  C : Cx1 K H m c cs b tv nv t
  dL : Dp K (wo H [m]) (.ref la) (.tuple (nD l))
  ne : la ≠ m
  fz : ∃ o : Obj, H la = some (.frz o (.tup (nV l))) ∧ o.dict = none
  dO : Dp K (wo H [m]) ov (trD (lstT t l))
theorem Cx2.same {K H H' m c cs b tv nv ov la t l} (h : Cx2 K H m c cs b tv nv ov la t l) (s : Same H H') : Cx2 K H' m c cs b tv nv ov la t l :=
  ⟨h.C.same s, dp_mono (wo_mono s) h.dL, h.ne, let ⟨o, e, d⟩ := h.fz; ⟨o, s _ _ e, d⟩, dp_mono (wo_mono s) h.dO⟩
theorem Cx2.draw {K H H' m c cs b b' tv nv ov la t l} (h : Cx2 K H m c cs b tv nv ov la t l) (s : SameM m H H') (M : MAt H' m c cs b') : Cx2 K H' m c cs b' tv nv ov la t l :=
  ⟨h.C.draw s M, dp_mono s h.dL, h.ne, let ⟨o, e, d⟩ := h.fz; ⟨o, s.at e h.ne, d⟩, dp_mono s h.dO⟩
theorem Cx2.tup {K H m c cs b tv nv ov la t l} (h : Cx2 K H m c cs b tv nv ov la t l) : SqT K H la (nV l) := by
  obtain ⟨a, e, z⟩ := dp_nats.mp (dp_mono (wo_le _ _) h.dL)
  cases e
  exact z
end Y
namespace Y
open PySem PySem.Spec PyProof.Rows L2
/-- a statement that is never come to -/
theorem ps_dead {X : Cx} {st : Stmt} : PS X st (fun _ _ _ => False) := ⟨fun _ _ _ _ _ _ h => h.elim⟩
/-- xs[i] of a list, i from the beginning -/
def rGetL (K : PySem.W.Frag) : V → V → Hp → VK → Prop := fun o i H Q => ∃ (p : Addr) (xs : List V) (k : Nat) (v : V), o = .ref p ∧ i = .int (k : Int) ∧ SqL K H p xs ∧ xs[k]? = some v ∧ Q v H
theorem get_listK {X : Cx} (K : PySem.W.Frag) (hK : X.K = K) : PGet X (rGetL K) := by
  subst hK
  intro pins s σ H o i ov iv Q I ro ri h
  obtain ⟨p, xs, k, v, rfl, rfl, hq, he, q⟩ := h
  cases ro
  obtain ⟨t, rfl⟩ := ri
  obtain ⟨its, r, pl, hz⟩ := I.list hq
  obtain ⟨w, ew, rw'⟩ := r.get he
  have hl := r.length
  have hk := (List.getElem?_eq_some_iff.mp he).1
  have hn := line63
  exact wpAny_getItem_list pl.isList (by omega) (by omega) (by simpa using ew) ⟨v, H, I, rw', q⟩
theorem call_isiK {X : Cx} (K : PySem.W.Frag) (hK : X.K = K) : CallR X (.builtin "isinstance") (rIsi K) := by
  subst hK
  exact call_isi
theorem isi_int {K : PySem.W.Frag} {H : Hp} {i : Int} {Q : VK} (q : Q (.bl true) H) : rIsi K [.int i, .ty "int"] H Q := ⟨_, _, _, _, true, rfl, .ty _, .base (.int i), by first | rfl | kernel_rfl, q⟩
theorem isi_nbool {K : PySem.W.Frag} {H : Hp} {i : Int} {Q : VK} (q : Q (.bl false) H) : rIsi K [.int i, .ty "bool"] H Q := ⟨_, _, _, _, false, rfl, .ty _, .base (.int i), by first | rfl | kernel_rfl, q⟩
theorem tyx_tup {K : PySem.W.Frag} {H : Hp} {a : Addr} {xs : List V} (h : SqT K H a xs) : TyX K H (.ref a) (.type "tuple") := by
  rcases h with (h | ⟨o, h⟩) | h
  · exact .base (.tup h)
  · exact .fTuple h
  · obtain ⟨o, its, n, e, c, _⟩ := h
    exact .kTuple e c
theorem isi_tup {K : PySem.W.Frag} {H : Hp} {a : Addr} {xs : List V} {Q : VK} (h : SqT K H a xs) (q : Q (.bl true) H) : rIsi K [.ref a, .ty "tuple"] H Q := ⟨_, _, _, _, true, rfl, .ty _, tyx_tup h, by first | rfl | kernel_rfl, q⟩
end Y
namespace Y
open PySem PySem.Spec PyProof.Rows L2
theorem lg_le {x : Int} {c : Nat} (h : x.natAbs ≤ 2 ^ c) : x.natAbs.log2 ≤ c := by
  by_cases e : x.natAbs = 0
  · rw [e]; simp
  · have := Nat.log2_self_le e
    refine Classical.byContradiction fun z => ?_
    have h1 : (2 : Nat) ^ (c + 1) ≤ 2 ^ x.natAbs.log2 := Nat.pow_le_pow_right (by omega) (by omega)
    rw [Nat.pow_succ] at h1
    have h2 : 0 < (2 : Nat) ^ c := Nat.pow_pos (by omega)
    omega
theorem divB {i j : Int} {c : Nat} (h0 : j ≠ 0) (h : j.natAbs ≤ 2 ^ c) (hc : c < 9000) : j ≠ 0 ∧ j.natAbs.log2 < 9000 := ⟨h0, Nat.lt_of_le_of_lt (lg_le h) hc⟩
/-- bits of great numbers -/
theorem bits_le {x : Int} {c : Nat} (h : x.natAbs ≤ 2 ^ c) : Builtin.Int.intBits x ≤ c + 1 := by
  have b : Builtin.Int.intBits x ≤ x.natAbs.log2 + 1 := by
    unfold Builtin.Int.intBits
    split <;> omega
  have := lg_le h
  omega
/-- * of two numbers of at most a million bits -/
def CMulB (i j : Int) : Prop := Builtin.Int.intBits i ≤ 1000001 ∧ Builtin.Int.intBits j ≤ 1000001
theorem mulB {i j : Int} {c d : Nat} (h1 : i.natAbs ≤ 2 ^ c) (h2 : j.natAbs ≤ 2 ^ d) (hc : c ≤ 1000000) (hd : d ≤ 1000000) : CMulB i j := ⟨Nat.le_trans (bits_le h1) (by omega), Nat.le_trans (bits_le h2) (by omega)⟩
theorem CMulB.ok {i j : Int} (h : CMulB i j) : IntMulOk i j := by
  obtain ⟨h1, h2⟩ := h
  exact CMulX.ok (show (Builtin.Int.intBits i : Int) + (Builtin.Int.intBits j : Int) ≤ 134217728 by omega)
section
variable {X : Cx}
theorem op_mulB : OpR X (binaryOp .Mult) (rI CMulB fun i j => .int (i * j)) := opI fun _ _ _ _ _ _ _ hc q => mul_int q hc.ok
theorem ip_mulB : PIp X .Mult (fun x y H Q => ∃ i j, x = .int i ∧ y = .int j ∧ CMulB i j ∧ Q (.int (i * j)) H) := by
  intro pins s σ H x y v u Q I r1 r2 h
  obtain ⟨i, j, rfl, rfl, hc, q⟩ := h
  obtain ⟨t, rfl⟩ := r1
  obtain ⟨t', rfl⟩ := r2
  exact imul_int ⟨.int _, H, I.tok _, ⟨_, rfl⟩, q⟩ hc.ok
/-- // by a number of at most some thousand bits -/
def CDivB (_ j : Int) : Prop := j ≠ 0 ∧ j.natAbs.log2 < 9000
theorem op_fdivB : OpR X (binaryOp .FloorDiv) (rI CDivB fun i j => .int (i.fdiv j)) := opI fun i j _ _ _ _ _ hc q => floordiv_int hc.1 q (.inl (PyProof.noPylong_of_log2 hc.2))
end
end Y
namespace Y
open PySem PySem.Spec PyProof.Rows L2
theorem cr_sumK {X : Cx} (K : PySem.W.Frag) (hK : X.K = K) (hc : X.calm = true) : CallR X (.builtin "sum") (rSum K) := by
  subst hK; exact cr_sum hc
theorem walk_zipT {K : PySem.W.Frag} {a b : Addr} {xs ys : List V} {n : Nat} (hn : n = min xs.length ys.length) : Walk (RZ.ItzT K a b) n (fun H => SqT K H a xs ∧ SqT K H b ys) (YPair (fun i => xs[i]?) (fun i => ys[i]?)) := by
  subst hn
  constructor
  · intro i H hi q
    exact ⟨xs, ys, xs[i]'(by omega), ys[i]'(by omega), q.1, q.2, List.getElem?_eq_getElem _, List.getElem?_eq_getElem _⟩
  · intro H q
    exact ⟨xs, ys, q.1, q.2, by omega⟩
  · rintro i H v H' _ q ⟨U, x, y, e1, e2, e3, e4, e5⟩
    exact ⟨U, x, y, e1, e2, e3, e4 xs q.1, e5 ys q.2⟩
end Y
namespace Y
open PySem PySem.Spec PyProof.Rows L2
theorem pi_listK {X : Cx} {tg e : Expr} {t : TE} (K : PySem.W.Frag) (hK : X.K = K) (h : PE X e t) : PI X tg e (iList K t) := by
  subst hK; exact pi_list h
theorem pi_tupK {X : Cx} {tg e : Expr} {t : TE} (K : PySem.W.Frag) (hK : X.K = K) (h : PE X e t) : PI X tg e (iTup K t) := by
  subst hK; exact pi_tup h
end Y
namespace Y
open PySem PySem.Spec PyProof.Rows L2
/-- weights of a few figures -/
structure Bt (t : Tr) : Prop extends Tree t where
  wb : ∀ x ∈ t.ws, -1000 ≤ x ∧ x ≤ 1000
def inl (l : List Nat) : Nat → Bool := fun x => decide (x ∈ l)
def sp_left_product (K : PySem.W.Frag) : Sp := fun vs H Q _ => ∃ L tv gv t l, vs = [tv, gv] ∧ Trk H L ∧ Bt t ∧ Dp K (wo H L) tv (trD t) ∧ Dp K (wo H L) gv (.tuple (nD l)) ∧ l.length ≤ 1000 ∧ ∀ H', Same H H' → (MT.LW t (inl l)).natAbs ≤ 2 ^ 200 → Q (.int (MT.LW t (inl l))) H'
/-- a ratio in lowest terms, told by its divisor -/
structure Rat' (a b top under : Int) : Prop where
  ex : ∃ c : Int, a = top * c ∧ b = under * c
  pos : 1 ≤ under
def cm (a b : Int) : Int := if b < 0 then -(Nat.gcd a.natAbs b.natAbs : Int) else (Nat.gcd a.natAbs b.natAbs : Int)
def rt (a b : Int) : Int × Int := (a.fdiv (cm a b), b.fdiv (cm a b))
def sp_ratio (K : PySem.W.Frag) : Sp := fun vs H Q _ => ∃ L, ∃ a b : Int, vs = [.int a, .int b] ∧ Trk H L ∧ b ≠ 0 ∧ a.natAbs ≤ 2 ^ 2000 ∧ b.natAbs ≤ 2 ^ 2000 ∧ Ret K H L (.tuple [.int (rt a b).1, .int (rt a b).2]) Q
theorem rt_ok {a b : Int} (hb : b ≠ 0) : Rat' a b (rt a b).1 (rt a b).2 := by
  have gp : 0 < Nat.gcd a.natAbs b.natAbs := Nat.gcd_pos_of_pos_right _ (by omega)
  have da : (Nat.gcd a.natAbs b.natAbs : Int) ∣ a := Int.ofNat_dvd_left.mpr (Nat.gcd_dvd_left _ _)
  have db : (Nat.gcd a.natAbs b.natAbs : Int) ∣ b := Int.ofNat_dvd_left.mpr (Nat.gcd_dvd_right _ _)
  have key : ∀ c : Int, c = cm a b → c ∣ a → c ∣ b → (0 < b ∧ 0 < c ∨ b < 0 ∧ c < 0) → Rat' a b (rt a b).1 (rt a b).2 := by
    intro c ec h1 h2 h3
    unfold rt
    rw [← ec]
    have e := Int.fdiv_mul_cancel_of_dvd h2
    refine ⟨⟨c, (Int.fdiv_mul_cancel_of_dvd h1).symm, e.symm⟩, ?_⟩
    show 1 ≤ b.fdiv c
    refine Classical.byContradiction fun z => ?_
    rcases h3 with h3 | h3
    · have := Int.mul_nonpos_of_nonpos_of_nonneg (a := b.fdiv c) (b := c) (by omega) (by omega)
      omega
    · have := Int.mul_nonneg_of_nonpos_of_nonpos (a := b.fdiv c) (b := c) (by omega) (by omega)
      omega
  by_cases h : b < 0
  · refine key (-(Nat.gcd a.natAbs b.natAbs : Int)) (by unfold cm; rw [if_pos h]) (Int.neg_dvd.mpr da) (Int.neg_dvd.mpr db) (.inr ⟨h, by omega⟩)
  · exact key _ (by unfold cm; rw [if_neg h]) da db (.inl ⟨by omega, by omega⟩)
/-- a cycle's entries -/
def Cy (t : Tr) (xs : List Int) : Prop := xs.length = t.n ∧ ∀ x ∈ xs, x.natAbs ≤ 2 ^ 1000
def en (xs : List Int) (k : Nat) : Int := xs.getD k 0
def rowL (t : Tr) (xs : List Int) : List Int := (List.range t.n).map (MT.rowE t (en xs))
def sp_row_of (K : PySem.W.Frag) : Sp := fun vs H Q _ => ∃ L tv cv t xs, vs = [tv, cv] ∧ Trk H L ∧ Bt t ∧ Cy t xs ∧ Dp K (wo H L) tv (trD t) ∧ Dp K (wo H L) cv (.tuple (iD xs)) ∧ Ret K H L (.tuple (iD (rowL t xs))) Q
def prE (t : Tr) (xs ys : List Int) : Int := MT.sm (fun k => en xs k * MT.rowE t (en ys) k) (List.range t.n)
def sp_product (K : PySem.W.Frag) : Sp := fun vs H Q _ => ∃ L tv xv yv t xs ys, vs = [tv, xv, yv] ∧ Trk H L ∧ Bt t ∧ Cy t xs ∧ Cy t ys ∧ Dp K (wo H L) tv (trD t) ∧ Dp K (wo H L) xv (.tuple (iD xs)) ∧ Dp K (wo H L) yv (.tuple (iD ys)) ∧ ∀ H', Same H H' → Q (.int (prE t xs ys)) H'
/-- what is left off the ways -/
def Gp (t : Tr) (g : Nat → Nat → Int) : Prop := ∀ i j, i < t.n → ∀ par dep, TM.Rooted t.n (adjT t.ties) j par dep → g i j = MT.LW t (inl (TM.way par dep i))
def invD (t : Tr) (f : Nat → Nat → Int × Int) : PyData := .tuple ((List.range t.n).map fun i => .tuple ((List.range t.n).map fun j => .tuple [.int (f i j).1, .int (f i j).2]))
def sp_inverse (K : PySem.W.Frag) : Sp := fun vs H Q _ => ∃ L tv t, vs = [tv] ∧ Trk H L ∧ Bt t ∧ MT.Dt t ≠ 0 ∧ Dp K (wo H L) tv (trD t) ∧ ∀ g, Gp t g → Ret K H L (invD t fun i j => rt (-g i j) (MT.Dt t)) Q
/-! ### the law's own -/
def lastOf (r : Nat) (par : Nat → Nat) (v : Nat) : Int := if v = r then -1 else (par v : Int)
def sp_law_minors (k : Nat) (K : PySem.W.Frag) : Sp := fun vs H Q _ => ∃ L tv nv t r par dep D N, ∃ v : Nat, ∃ last : Int, vs = [tv, nv, .int v, .int last] ∧ Trk H L ∧ Bt t ∧ Dp K (wo H L) tv (trD t) ∧ Dp K (wo H L) nv (llD (nbs t)) ∧ TM.Rooted t.n (adjT t.ties) r par dep ∧ last = lastOf r par v ∧
  v < t.n ∧ t.n ≤ dep v + k ∧ MT.DN t.n (fun v => -MT.wt t v) (kids t.ties r par) D N ∧ (∀ u, u < t.n → (D u).natAbs ≤ 2 ^ 200 ∧ (N u).natAbs ≤ 2 ^ 200) ∧ Ret K H L (.tuple [.int (D v), .int (N v)]) Q
def sp_law_all_above (k : Nat) (K : PySem.W.Frag) : Sp := fun vs H Q _ => ∃ L tv nv t r par dep, ∃ v : Nat, ∃ last : Int, vs = [tv, nv, .int v, .int last] ∧ Trk H L ∧ Bt t ∧ Dp K (wo H L) tv (trD t) ∧ Dp K (wo H L) nv (llD (nbs t)) ∧ TM.Rooted t.n (adjT t.ties) r par dep ∧ last = lastOf r par v ∧
  v < t.n ∧ t.n ≤ dep v + k ∧ ∀ b H', Same H H' → Q (.bl b) H'
def spTB (v : Bool) (K : PySem.W.Frag) : Sp := fun vs H Q _ => ∃ L tv t, vs = [tv] ∧ Trk H L ∧ Bt t ∧ Dp K (wo H L) tv (trD t) ∧ ∀ b H', Same H H' → (t.n = 0 → b = v) → Q (.bl b) H'
abbrev sp_law_is_below := spTB true
abbrev sp_law_is_long := spTB false
theorem tree_ws {t : Tr} (T : Tree t) {ws : List Int} (h : ws.length = t.n) : Tree ⟨ws, t.ties⟩ := by
  have e : (⟨ws, t.ties⟩ : Tr).n = t.n := h
  exact ⟨⟨by rw [e]; exact T.few, T.fewT, by rw [e]; exact T.inb, T.asc⟩, by rw [e]; exact T.tree⟩
def sp_law_drawn_below (K : PySem.W.Frag) : Sp := fun vs H Q _ => ∃ L m c cs b, ∃ most : Nat, vs = [.ref m, .int most] ∧ m ∈ L ∧ Trk H L ∧ MAt H m c cs b ∧ most ≤ 16 ∧ b + 1000 < 1000000 ∧
  ∀ t v H', Bt t → SameM m H H' → MAt H' m c cs (b + 1000) → Dp K (wo H' L) v (trD t) → Q v H'
def sp_law_determinant (K : PySem.W.Frag) : Sp := fun vs H Q _ => ∃ L tv t, vs = [tv] ∧ Trk H L ∧ Bt t ∧ Dp K (wo H L) tv (trD t) ∧ ∀ H', Same H H' → (MT.Dt t).natAbs ≤ 2 ^ 200 → Q (.int (MT.Dt t)) H'
def sp_law_some_tree (K : PySem.W.Frag) : Sp := fun vs H Q _ => ∃ L m c cs b, vs = [.ref m] ∧ m ∈ L ∧ Trk H L ∧ MAt H m c cs b ∧ b + 2000 < 1000000 ∧
  ∀ t v H', Bt t → SameM m H H' → MAt H' m c cs (b + 2000) → Dp K (wo H' L) v (trD t) → Q v H'
def sp_law_is_whole (K : PySem.W.Frag) : Sp := fun vs H Q _ => ∃ i : Int, vs = [.int i] ∧ ∀ H', Same H H' → Q (.bl true) H'
def sp_law_cycle (K : PySem.W.Frag) : Sp := fun vs H Q _ => ∃ L m c cs b, ∃ n : Nat, vs = [.ref m, .int n] ∧ m ∈ L ∧ Trk H L ∧ MAt H m c cs b ∧ n ≤ 16 ∧ b + 100 < 1000000 ∧
  ∀ xs v H', xs.length = n → (∀ x ∈ xs, x.natAbs ≤ 2 ^ 400) → SameM m H H' → MAt H' m c cs (b + 100) → Dp K (wo H' L) v (.tuple (iD xs)) → Q v H'
abbrev sp_law_due := sp_product
def sp_law_is_row (K : PySem.W.Frag) : Sp := fun vs H Q _ => ∃ L tv nv xv t xs, vs = [tv, nv, xv] ∧ Trk H L ∧ Bt t ∧ Cy t xs ∧ Dp K (wo H L) tv (trD t) ∧ Dp K (wo H L) nv (llD (nbs t)) ∧ Dp K (wo H L) xv (.tuple (iD xs)) ∧ ∀ H', Same H H' → Q (.bl true) H'
def sp_law_is_back (K : PySem.W.Frag) : Sp := fun vs H Q _ => ∃ L tv xv t xs, vs = [tv, .int ((MT.Dt t).natAbs : Int), xv] ∧ Trk H L ∧ Bt t ∧ Cy t xs ∧ MT.Dt t ≠ 0 ∧ (MT.Dt t).natAbs ≤ 2 ^ 200 ∧ Dp K (wo H L) tv (trD t) ∧ Dp K (wo H L) xv (.tuple (iD xs)) ∧ ∀ H', Same H H' → Q (.bl true) H'
end Y
namespace Y
open PySem PySem.Spec PyProof.Rows L2
/-- a list of numbers, place by place -/
def arr (n : Nat) (f : Nat → Int) : List V := iV ((List.range n).map f)
theorem arr_len (n : Nat) (f : Nat → Int) : (arr n f).length = n := by unfold arr; rw [iV_len]; simp
theorem arr_at {n : Nat} {f : Nat → Int} {k : Nat} (h : k < n) : (arr n f)[k]? = some (.int (f k)) := iV_at (by simp [h])
theorem arr_set {n : Nat} {f : Nat → Int} {k : Nat} {x : Int} : (arr n f).set k (.int x) = arr n (MT.up f k x) := by
  unfold arr iV
  refine List.ext_getElem (by simp) fun i h1 h2 => ?_
  simp at h1 h2
  rw [List.getElem_set]
  simp only [List.getElem_map, List.getElem_range, MT.up]
  by_cases e : k = i
  · subst e; simp
  · simp [e, Ne.symm e]
theorem ixN_nat {n k : Nat} (h : k < n) : ixN n (k : Int) = some k := by
  unfold ixN
  rw [if_pos (by omega), if_pos (by omega)]
  simp
theorem wo_to {H H' : Hp} {L M : List Addr} (s : Same H H') (h : ∀ a ∈ M, H a = none) : Same (wo H L) (wo H' (M ++ L)) := fun b o q => by
  obtain ⟨m, e⟩ := wo_some q
  rw [wo_out fun z => ?_]
  · exact s b o e
  · rcases List.mem_append.mp z with z | z
    · rw [h b z] at e; cases e
    · exact m z
theorem inV_nats (x : Nat) (l : List Nat) : inV (.int (x : Int)) (nV l) = inl l x := by
  unfold inV nV inl
  rw [List.any_map, Bool.eq_iff_iff, List.any_eq_true, decide_eq_true_iff]
  constructor
  · rintro ⟨y, hy, e⟩
    have : (y : Int) = (x : Int) := by
      have := e
      simp [eqV] at this
      omega
    have : y = x := by omega
    rw [← this]; exact hy
  · intro h
    exact ⟨x, h, by simp [eqV]⟩
theorem flat_nats (l : List Nat) : (nV l).all flatV = true := by
  unfold nV
  rw [List.all_map, List.all_eq_true]
  intro x _
  rfl
/-- tells of x and l by the rule for in -/
theorem in_nats {K : PySem.W.Frag} {H : Hp} {g : Addr} {l : List Nat} {x : Nat} {neg : Bool} {Q : VK} (h : SqT K H g (nV l)) (q : Q (.bl (if neg then !inl l x else inl l x)) H) : rIn K neg (.int (x : Int)) (.ref g) H Q :=
  ⟨g, nV l, rfl, .inr h, rfl, flat_nats l, by rw [inV_nats]; exact q⟩
end Y
namespace Y
theorem fm_some {α β : Type} {f : α → Option β} {g : α → β} : ∀ {l : List α}, (∀ i ∈ l, f i = some (g i)) → l.filterMap f = l.map g
  | [], _ => rfl
  | x :: l, h => by rw [List.filterMap_cons, h x (by simp), List.map_cons, fm_some fun i m => h i (by simp [m])]
end Y
namespace Y
theorem up_up (f : Nat → Int) (p : Nat) (x y : Int) : MT.up (MT.up f p x) p y = MT.up f p y := by
  funext u
  unfold MT.up
  by_cases h : u = p <;> simp [h]
theorem up_at (f : Nat → Int) (p : Nat) (x : Int) : MT.up f p x p = x := by unfold MT.up; simp
theorem up_ne (f : Nat → Int) {p u : Nat} (x : Int) (h : u ≠ p) : MT.up f p x u = f u := by unfold MT.up; simp [h]
end Y
namespace Y
theorem sm_sum (f : Nat → Int) (l : List Nat) : MT.sm f l = (l.map f).sum := by
  induction l with
  | nil => rfl
  | cons x l ih => rw [MT.sm_cons, List.map_cons, List.sum_cons, ih]
theorem en_at {xs : List Int} {k : Nat} {x : Int} (h : xs[k]? = some x) : en xs k = x := by
  unfold en; rw [List.getD_eq_getElem?_getD, h]; rfl
theorem wt_at {t : Tr} {k : Nat} {x : Int} (h : t.ws[k]? = some x) : MT.wt t k = x := by
  unfold MT.wt; rw [List.getD_eq_getElem?_getD, h]; rfl
theorem Bt.wt {t : Tr} (B : Bt t) (k : Nat) : (MT.wt t k).natAbs ≤ 2 ^ 10 := by
  have e10 : (2 : Nat) ^ 10 = 1024 := by decide
  cases h : t.ws[k]? with
  | none =>
    unfold MT.wt; rw [List.getD_eq_getElem?_getD, h]; simp
  | some x =>
    rw [wt_at h]
    have := B.wb x (List.mem_of_getElem? h)
    omega
theorem Cy.en {t : Tr} {xs : List Int} (C : Cy t xs) (k : Nat) : (en xs k).natAbs ≤ 2 ^ 1000 := by
  cases h : xs[k]? with
  | none =>
    unfold Y.en; rw [List.getD_eq_getElem?_getD, h]; simp
  | some x =>
    rw [en_at h]
    exact C.2 x (List.mem_of_getElem? h)
theorem Cy.at {t : Tr} {xs : List Int} (C : Cy t xs) {k : Nat} (h : k < t.n) : xs[k]? = some (Y.en xs k) := by
  have : k < xs.length := by rw [C.1]; exact h
  rw [List.getElem?_eq_getElem this, en_at (List.getElem?_eq_getElem this)]
theorem w_at {t : Tr} {k : Nat} (h : k < t.n) : t.ws[k]? = some (MT.wt t k) := by
  rw [List.getElem?_eq_getElem h, wt_at (List.getElem?_eq_getElem h)]
end Y
namespace Y
theorem sm_bd {f : Nat → Int} {b : Nat} (h : ∀ x, (f x).natAbs ≤ b) : ∀ l : List Nat, (MT.sm f l).natAbs ≤ l.length * b
  | [] => by simp [MT.sm]
  | x :: l => by
    rw [MT.sm_cons, List.length_cons, Nat.add_mul, Nat.one_mul]
    have := sm_bd h l
    have := h x
    have := Int.natAbs_add_le (f x) (MT.sm f l)
    omega
theorem row_bd {t : Tr} (B : Bt t) {xs : List Int} (C : Cy t xs) (k : Nat) : (MT.rowE t (en xs) k).natAbs ≤ 2 ^ 1020 := by
  unfold MT.rowE
  have h1 := MT.mul_le (B.wt k) (C.en k)
  have h2 := sm_bd (b := 2 ^ 1000) C.en (nb t.ties k)
  have h3 := nb_le B.toOkt k
  have h4 := Int.natAbs_add_le (MT.wt t k * en xs k) (MT.sm (en xs) (nb t.ties k))
  have h5 : (nb t.ties k).length * 2 ^ 1000 ≤ 16 * 2 ^ 1000 := Nat.mul_le_mul_right _ h3
  have e1 : (2 : Nat) ^ (10 + 1000) = 1024 * 2 ^ 1000 := by rw [Nat.pow_add]
  have e2 : (2 : Nat) ^ 1020 = 1048576 * 2 ^ 1000 := by rw [show 1020 = 20 + 1000 from rfl, Nat.pow_add]
  rw [e1] at h1
  rw [e2]
  omega
theorem rowL_at {t : Tr} {xs : List Int} {k : Nat} (h : k < t.n) : (rowL t xs)[k]? = some (MT.rowE t (en xs) k) := by
  unfold rowL; simp [h]
theorem rowL_len (t : Tr) (xs : List Int) : (rowL t xs).length = t.n := by unfold rowL; simp
end Y

namespace Y
theorem pd_bd {f : Nat → Int} {c : Nat} : ∀ {V : List Nat}, (∀ x ∈ V, (f x).natAbs ≤ 2 ^ c) → (MT.pd f V).natAbs ≤ 2 ^ (c * V.length)
  | [], _ => by simp [MT.pd]
  | x :: V, h => by
    rw [MT.pd_cons]
    have := MT.mul_le (h x (by simp)) (pd_bd (V := V) fun y m => h y (by simp [m]))
    rw [List.length_cons, Nat.mul_add, Nat.mul_one, Nat.add_comm]
    exact this
theorem M_bd {V : List Nat} {W B : Nat → Int} {c : Nat} (h : ∀ x ∈ V, (W x).natAbs ≤ 2 ^ c ∧ (B x).natAbs ≤ 2 ^ c) : ∀ (E : List (Nat × Nat)) (g : Nat → Bool), (MT.M V W B E g).natAbs ≤ 2 ^ (E.length + c * V.length)
  | [], g => by
    rw [List.length_nil, Nat.zero_add]
    refine pd_bd fun x m => ?_
    split
    · exact (h x m).2
    · exact (h x m).1
  | p :: E, g => by
    rw [MT.M_cons, List.length_cons, show E.length + 1 + c * V.length = E.length + c * V.length + 1 by omega, Nat.pow_succ]
    have h1 := M_bd h E g
    have h2 := M_bd h E (MT.ins (MT.ins g p.1) p.2)
    cases (g p.1 || g p.2)
    · simp only [cond_false]
      omega
    · simp only [cond_true]
      omega
theorem LW_bd {t : Tr} (B : Bt t) (g : Nat → Bool) : (MT.LW t g).natAbs ≤ 2 ^ 260 := by
  have h := M_bd (V := List.range t.n) (W := fun v => -MT.wt t v) (B := fun _ => 1) (c := 10) (fun x _ => ⟨by rw [Int.natAbs_neg]; exact B.wt x, Nat.one_le_two_pow⟩) t.ties g
  refine Nat.le_trans h (Nat.pow_le_pow_right (by omega) ?_)
  rw [List.length_range]
  have := B.fewT
  have := B.few
  omega
end Y
namespace Y
theorem iteT' {b : Bool} {p q : Prop} (h : b = true) (x : p) : if b = true then p else q := by rw [if_pos h]; exact x
theorem iteF' {b : Bool} {p q : Prop} (h : b = false) (x : q) : if b = true then p else q := by rw [if_neg (by rw [h]; simp)]; exact x
end Y
namespace Y
open PySem PySem.Spec PyProof.Rows L2
/-- range(n) -/
theorem walk_rg {n : Nat} : Walk (Itr 0 n) n (fun _ => True) (fun i H x H' => H' = H ∧ x = .int (i : Int)) :=
  (walk_range (lo := 0) (n := n)).mono (fun _ h => h) fun i H x H' _ _ y => ⟨y.1, by rw [y.2]; simp⟩
end Y
namespace Y
theorem grow_all {n : Nat} {adj : Nat → Nat → Prop} {r : Nat} {par dep : Nat → Nat} (R : TM.Rooted n adj r par dep) : ∃ S, MT.Grow r par S ∧ ∀ v, v ∈ S ↔ v < n := by
  have key : ∀ k, ∃ S, MT.Grow r par S ∧ (∀ v ∈ S, v < n) ∧ (k + 1 ≤ S.length ∨ ∀ v, v < n → v ∈ S) := by
    intro k
    induction k with
    | zero => exact ⟨[r], .one, fun v m => by simp at m; rw [m]; exact R.root, .inl (by simp)⟩
    | succ k ih =>
      obtain ⟨S, G, lt, h⟩ := ih
      by_cases all : ∀ v, v < n → v ∈ S
      · exact ⟨S, G, lt, .inr all⟩
      · have h := h.resolve_right all
        have ex : ∃ d, ∃ v, v < n ∧ v ∉ S ∧ dep v = d := by
          refine Classical.byContradiction fun z => all fun v hv => Classical.byContradiction fun m => z ⟨_, v, hv, m, rfl⟩
        have min : ∀ d v, v < n → v ∉ S → dep v = d → ∃ u, u < n ∧ u ∉ S ∧ par u ∈ S ∧ u ≠ r := by
          intro d
          induction d with
          | zero =>
            intro v hv m hd
            by_cases e : v = r
            · rw [e] at m; exact absurd G.root m
            · have := (R.up v hv e).2
              omega
          | succ d ih =>
            intro v hv m hd
            have e : v ≠ r := fun e => m (by rw [e]; exact G.root)
            have up := R.up v hv e
            by_cases hp : par v ∈ S
            · exact ⟨v, hv, m, hp, e⟩
            · exact ih (par v) up.1 hp (by omega)
        obtain ⟨d, v, hv, m, hd⟩ := ex
        obtain ⟨u, h1, h2, h3, h4⟩ := min d v hv m hd
        refine ⟨S ++ [u], .more G h2 h4 h3, fun w hw => ?_, .inl (by simp; omega)⟩
        rcases List.mem_append.mp hw with hw | hw
        · exact lt w hw
        · simp at hw
          rw [hw]
          exact h1
  obtain ⟨S, G, lt, h⟩ := key n
  have hn := TM.nodup_le n S G.nd lt
  exact ⟨S, G, fun v => ⟨lt v, (h.resolve_left (by omega)) v⟩⟩
/-- what the law's own way works out, place by place -/
theorem dn_all {t : Tr} (B : Bt t) {r : Nat} {par dep : Nat → Nat} (R : TM.Rooted t.n (adjT t.ties) r par dep) : ∃ D N, MT.DN t.n (fun v => -MT.wt t v) (kids t.ties r par) D N ∧ (∀ u, u < t.n → (D u).natAbs ≤ 2 ^ 200 ∧ (N u).natAbs ≤ 2 ^ 200) ∧ D r = MT.Dt t := by
  obtain ⟨S, G, hS⟩ := grow_all R
  obtain ⟨D, N, h⟩ := MT.dn_made R (fun v => -MT.wt t v) (kids t.ties r par) fun v hv c hc => (kids_mem R hv c).mp hc
  have lS : S.length = t.n := by rw [(MT.S_perm G hS).length_eq, List.length_range]
  have few := B.few
  refine ⟨D, N, h, fun u hu => ?_, MT.dn_is B.toTree R G hS h⟩
  refine MT.dn_bd h (fun v hv c => kids_mem R hv c) (fun v hv => kids_nodup B.toOkt r par v) G (fun v m => (hS v).mp m) (fun v => -MT.wt t v, fun _ => 1) ⟨fun _ => 10, fun v _ => ⟨by rw [Int.natAbs_neg]; exact B.wt v, Nat.one_le_two_pow⟩, ?_⟩ (fun v m => ⟨[], rfl, ?_⟩) u ((hS u).mpr hu)
  · rw [List.map_const', List.sum_replicate_nat]
    omega
  · rw [List.nil_append]
    exact List.Perm.of_eq (List.filter_eq_self.mpr fun c hc => decide_eq_true ((hS c).mpr ((kids_mem R ((hS v).mp m) c).mp hc).1))
end Y
namespace Y
open PySem PySem.Spec PyProof.Rows L2
theorem canLay_lls : ∀ l : List (List Nat), PyData.canLayAll0 (l.map fun x => .list (nD x)) = true
  | [] => rfl
  | x :: l => by
    show (PyData.canLay0 (.list (nD x)) && PyData.canLayAll0 (l.map fun x => .list (nD x))) = true
    rw [canLay_lls l]
    have := (Bool.and_eq_true_iff.mp (shaped_iL (x.map fun (n : Nat) => (n : Int)))).1
    rw [← nD_eq] at this
    rw [this]
    rfl
theorem depth_lls : ∀ l : List (List Nat), PyData.depthAll (l.map fun x => .list (nD x)) ≤ 2
  | [] => by show 0 ≤ 2; omega
  | x :: l => by
    have := depth_lls l
    show max (PyData.depth (.list (nD x))) (PyData.depthAll (l.map fun x => .list (nD x))) ≤ 2
    have h : PyData.depth (.list (nD x)) ≤ 2 := by
      rw [nD_eq]
      have := depth_iD (x.map fun (n : Nat) => (n : Int))
      show PyData.depthAll _ + 1 ≤ 2
      omega
    omega
theorem shaped_ll (l : List (List Nat)) : SeqAt.shaped (llD l) = true := by
  have h := depth_lls l
  refine Bool.and_eq_true_iff.mpr ⟨canLay_lls l, decide_eq_true ?_⟩
  show PyData.depthAll _ + 1 ≤ 64
  omega
theorem eqv_nilA (xs : List PyData) : PyData.eqv (.list xs) (.list []) = xs.isEmpty := by
  cases xs <;> simp [PyData.eqv, PyData.eqvAll]
theorem eqv_nilT (xs : List PyData) : PyData.eqv (.tuple xs) (.tuple []) = xs.isEmpty := by
  cases xs <;> simp [PyData.eqv, PyData.eqvAll]
end Y
namespace Y
theorem sT_snoc (f h : Nat → Int) (p : Nat × Nat) : ∀ l, MT.sT f h (l ++ [p]) = MT.sT f h l + (f p.1 * h p.2 + f p.2 * h p.1)
  | [] => by show f p.1 * h p.2 + f p.2 * h p.1 + 0 = 0 + (f p.1 * h p.2 + f p.2 * h p.1); omega
  | x :: l => by
    show (f x.1 * h x.2 + f x.2 * h x.1) + MT.sT f h (l ++ [p]) = (f x.1 * h x.2 + f x.2 * h x.1) + MT.sT f h l + (f p.1 * h p.2 + f p.2 * h p.1)
    rw [sT_snoc f h p l]
    omega
end Y
namespace Y
open PySem PySem.Spec PyProof.Rows L2
theorem tr_new {K : PySem.W.Frag} {H : Hp} {L : List Addr} {l p c : Addr} {ps : List V} {ws : List Int} {ties : List (Nat × Nat)} (hT : Trk H L) (hl : H l = none) (hp : (upd H l (.tup (iV ws))) p = none) (hc : SqT K (wo H L) c ps) (hd : DpAll K (wo H L) ps (ties.map pr)) :
    Dp K (wo (upd (upd H l (.tup (iV ws))) p (.tup [.ref l, .ref c])) L) (.ref p) (trD ⟨ws, ties⟩) := by
  have s1 := same_new hl (.tup (iV ws))
  have hT1 := hT.mono s1
  have s2 := same_new hp (.tup [.ref l, .ref c])
  have w := wo_mono (L := L) (s1.trans s2)
  refine dp_tr.mpr ⟨p, l, c, ps, rfl, .inl (.inl ?_), .inl (.inl ?_), w.tup hc, dpAll_mono w hd⟩
  · rw [wo_out (hT1.fresh hp)]; exact upd_same
  · rw [wo_out (hT.fresh hl)]; exact s2 _ _ upd_same
end Y
namespace Y
theorem lst_bt {t : Tr} (B : Bt t) {l : List Nat} (h : Lst t.n l) : Bt (lstT t l) := by
  refine ⟨lst_tree B.toTree h, fun x hx => ?_⟩
  obtain ⟨v, hv, rfl⟩ := List.mem_map.mp (show x ∈ l.map fun v => t.ws.getD v 0 from hx)
  have hn := (h.all v).mp hv
  have : t.ws.getD v 0 ∈ t.ws := by simp [show v < t.ws.length from hn]
  exact B.wb _ this
end Y
namespace Y
/-- the sign of b -/
def sg (b : Int) : Int := if b < 0 then -1 else 1
structure RatU (a b top under : Int) : Prop where
  pos : 1 ≤ under
  md : (b.natAbs : Int).fmod under = 0
  dv : top * (b.natAbs : Int).fdiv under = a * sg b
  b1 : top.natAbs ≤ a.natAbs
  b2 : under.natAbs ≤ b.natAbs
  b3 : ((b.natAbs : Int).fdiv under).natAbs ≤ b.natAbs
theorem rat_use {a b top under : Int} (h : Rat' a b top under) (hb : b ≠ 0) : RatU a b top under := by
  obtain ⟨⟨c, ea, eb⟩, hp⟩ := h
  have c0 : c ≠ 0 := fun z => hb (by rw [eb, z, Int.mul_zero])
  have key : (b.natAbs : Int) = under * (c.natAbs : Int) := by
    rw [eb, Int.natAbs_mul]
    have : ((under.natAbs : Nat) : Int) = under := by omega
    rw [Int.natCast_mul, this]
  have hd : (b.natAbs : Int).fdiv under = (c.natAbs : Int) := by rw [key]; exact Int.mul_fdiv_cancel_left _ (by omega)
  have na : a.natAbs = top.natAbs * c.natAbs := by rw [ea, Int.natAbs_mul]
  have nb' : b.natAbs = under.natAbs * c.natAbs := by rw [eb, Int.natAbs_mul]
  have c1 : 1 ≤ c.natAbs := by omega
  refine ⟨hp, by rw [key]; exact Int.mul_fmod_right _ _, ?_, ?_, ?_, ?_⟩
  · rw [hd, ea, Int.mul_assoc]
    congr 1
    unfold sg
    by_cases h : c < 0
    · have : b < 0 := by rw [eb]; exact Int.mul_neg_of_pos_of_neg (by omega) h
      rw [if_pos this]; omega
    · have : ¬ b < 0 := by
        have := Int.mul_nonneg (a := under) (b := c) (by omega) (by omega)
        rw [← eb] at this
        omega
      rw [if_neg this]; omega
  · rw [na]; exact Nat.le_mul_of_pos_right _ c1
  · rw [nb']; exact Nat.le_mul_of_pos_right _ c1
  · rw [hd, nb']
    show c.natAbs ≤ _
    exact Nat.le_mul_of_pos_left _ (by omega)
theorem sg_abs (b : Int) : sg b * b = (b.natAbs : Int) := by
  unfold sg
  split <;> omega
theorem way_on {t : Tr} {g : Nat → Nat → Int} (hg : Gp t g) {i j : Nat} {par dep par' dep' : Nat → Nat} (R : TM.Rooted t.n (adjT t.ties) i par dep) (R' : TM.Rooted t.n (adjT t.ties) j par' dep') : g i j = MT.LW t (MT.on par dep j) := by
  rw [hg i j R.root par' dep' R', TM.way_back R' R]
  congr 1
  funext x
  unfold inl MT.on
  rw [Bool.eq_iff_iff]
  simp
/-- the law's own sum -/
theorem back_sum {t : Tr} (B : Bt t) {g : Nat → Nat → Int} (hg : Gp t g) {i : Nat} (hi : i < t.n) (x : Nat → Int) : MT.sm (fun j => -g i j * sg (MT.Dt t) * MT.rowE t x j) (List.range t.n) = ((MT.Dt t).natAbs : Int) * x i := by
  obtain ⟨par, dep, R⟩ := B.tree i hi
  have e : MT.sm (fun j => -g i j * sg (MT.Dt t) * MT.rowE t x j) (List.range t.n) = MT.sm (fun j => (-sg (MT.Dt t)) * (MT.LW t (MT.on par dep j) * MT.rowE t x j)) (List.range t.n) := by
    refine MT.sm_congr fun j hj => ?_
    obtain ⟨par', dep', R'⟩ := B.tree j (List.mem_range.mp hj)
    rw [way_on hg R R']
    grind
  rw [e, MT.sm_mul, MT.back_at B.toTree R, ← sg_abs]
  grind
end Y
namespace Y
open PySem PySem.Spec PyProof.Rows L2
/-- what a turn of the law holds -/
structure Zc' (K : PySem.W.Frag) (H : Hp) (tv nv xv yv zv bv : V) (t : Tr) (xs ys zs bs : List Int) : Prop where
  T : Dp K (wo H []) tv (trD t)
  N : Dp K (wo H []) nv (llD (nbs t))
  X : Dp K (wo H []) xv (.tuple (iD xs))
  Y : Dp K (wo H []) yv (.tuple (iD ys))
  Z : Dp K (wo H []) zv (.tuple (iD zs))
  B : Dp K (wo H []) bv (.tuple (iD bs))
theorem Zc'.same {K H H' tv nv xv yv zv bv t xs ys zs bs} (h : Zc' K H tv nv xv yv zv bv t xs ys zs bs) (s : Same H H') : Zc' K H' tv nv xv yv zv bv t xs ys zs bs :=
  have w := wo_mono (L := []) s
  ⟨dp_mono w h.T, dp_mono w h.N, dp_mono w h.X, dp_mono w h.Y, dp_mono w h.Z, dp_mono w h.B⟩
/-- a pair of cycles -/
def PairOk (K : PySem.W.Frag) (H : Hp) (t : Tr) (x : V) : Prop := ∃ p u w us ws, x = .ref p ∧ SqT K H p [u, w] ∧ Dp K (wo H []) u (.tuple (iD us)) ∧ Dp K (wo H []) w (.tuple (iD ws)) ∧ Cy t us ∧ Cy t ws
theorem PairOk.same {K H H' t x} (h : PairOk K H t x) (s : Same H H') : PairOk K H' t x := by
  obtain ⟨p, u, w, us, ws, e, q, d1, d2, c1, c2⟩ := h
  exact ⟨p, u, w, us, ws, e, s.tup q, dp_mono (wo_mono s) d1, dp_mono (wo_mono s) d2, c1, c2⟩
theorem PairOk.new {K : PySem.W.Frag} {H : Hp} {t : Tr} {p : Addr} {u w : V} {us ws : List Int} (hp : H p = none) (d1 : Dp K (wo H []) u (.tuple (iD us))) (d2 : Dp K (wo H []) w (.tuple (iD ws))) (c1 : Cy t us) (c2 : Cy t ws) : PairOk K (upd H p (.tup [u, w])) t (.ref p) :=
  have s := same_new hp (.tup [u, w])
  ⟨p, u, w, us, ws, rfl, .inl (.inl upd_same), dp_mono (wo_mono s) d1, dp_mono (wo_mono s) d2, c1, c2⟩
theorem prE_add {t : Tr} (O : Okt t) {xs ys zs bs : List Int} (h : ∀ k, k < t.n → en bs k = en ys k + en zs k) : prE t xs bs = prE t xs ys + prE t xs zs := by
  unfold prE
  rw [← MT.sm_add]
  refine MT.sm_congr fun k hk => ?_
  have hk := List.mem_range.mp hk
  have e : MT.rowE t (en bs) k = MT.rowE t (en ys) k + MT.rowE t (en zs) k := by
    unfold MT.rowE
    rw [h k hk, MT.sm_congr (f := en bs) (f' := fun u => en ys u + en zs u) fun u hu => h u (nb_lt O hu).1, MT.sm_add]
    grind
  rw [e]
  grind
theorem bt_nil : Bt ⟨[], []⟩ := ⟨⟨⟨by decide, by decide, (fun p h => nomatch h), List.Pairwise.nil⟩, TM.isTree_zero⟩, (fun x h => nomatch h)⟩
theorem cy_nil : Cy ⟨[], []⟩ [] := ⟨rfl, (fun x h => nomatch h)⟩
end Y
/-! what hangs on each place, some places gone -/
namespace MT
open Y
/-- what a place comes to behind some of its children -/
def xw (D N : Nat → Int) (b : Bool) (a : Int) (l : List Nat) : Int := if b then pd D l else (fk D N a l).1
structure DG (n : Nat) (a : Nat → Int) (ks : Nat → List Nat) (g : Nat → Bool) (D N : Nat → Int) : Prop where
  d : ∀ v, v < n → D v = xw D N (g v) (a v) (ks v)
  n : ∀ v, v < n → N v = if g v then 0 else pd D (ks v)
theorem pd_snoc (f : Nat → Int) (l : List Nat) (c : Nat) : pd f (l ++ [c]) = pd f l * f c := by rw [pd_app, pd_cons, pd_nil]; grind
theorem fk_two (D N : Nat → Int) (a : Int) (l : List Nat) : (fk D N a l).2 = pd D l := by
  unfold fk
  have : ∀ (l : List Nat) (s : Int × Int), (l.foldl (kf D N) s).2 = s.2 * pd D l := by
    intro l
    induction l with
    | nil => intro s; simp [pd]
    | cons c l ih => intro s; rw [List.foldl_cons, ih, pd_cons]; unfold kf; grind
  rw [this]; simp
theorem xw_perm {D N : Nat → Int} {b : Bool} {a : Int} {l m : List Nat} (p : l.Perm m) : xw D N b a l = xw D N b a m := by
  unfold xw fk
  rw [foldl_perm p]
  split
  · exact pd_perm _ p
  · rfl
theorem xw_snoc (D N : Nat → Int) (b : Bool) (a : Int) (l : List Nat) (c : Nat) : xw D N b a (l ++ [c]) = xw D N b a l * D c - (if b then 0 else pd D l * N c) := by
  unfold xw
  rw [fk_snoc, pd_snoc]
  cases b
  · simp only [Bool.false_eq_true, if_false]
    rw [← fk_two D N a l]
    rfl
  · simp
theorem fk_congr {D N D' N' : Nat → Int} (a : Int) {l : List Nat} (h : ∀ c ∈ l, D c = D' c ∧ N c = N' c) : fk D N a l = fk D' N' a l := by
  unfold fk
  have : ∀ (l : List Nat), (∀ c ∈ l, D c = D' c ∧ N c = N' c) → ∀ s : Int × Int, l.foldl (kf D N) s = l.foldl (kf D' N') s := by
    intro l
    induction l with
    | nil => intro _ s; rfl
    | cons c l ih =>
      intro h s
      rw [List.foldl_cons, List.foldl_cons, ih fun d m => h d (by simp [m])]
      unfold kf
      rw [(h c (by simp)).1, (h c (by simp)).2]
  exact this l h _
theorem xw_congr {D N D' N' : Nat → Int} {b : Bool} (a : Int) {l : List Nat} (h : ∀ c ∈ l, D c = D' c ∧ N c = N' c) : xw D N b a l = xw D' N' b a l := by
  unfold xw
  rw [fk_congr a h, pd_congr fun c hc => (h c hc).1]
theorem dg_made {n : Nat} {adj : Nat → Nat → Prop} {r : Nat} {par dep : Nat → Nat} (R : TM.Rooted n adj r par dep) (a : Nat → Int) (ks : Nat → List Nat) (g : Nat → Bool) (hk : ∀ v, v < n → ∀ c ∈ ks v, c < n ∧ c ≠ r ∧ par c = v) : ∃ D N, DG n a ks g D N := by
  let F : Nat → Nat → Int × Int := fun k => Nat.rec (fun v => (0, 0)) (fun _ f v => (xw (fun c => (f c).1) (fun c => (f c).2) (g v) (a v) (ks v), if g v then 0 else pd (fun c => (f c).1) (ks v))) k
  have key : ∀ v, v < n → ∃ k, n - dep v = k + 1 ∧ F (n - dep v) v = (xw (fun c => (F k c).1) (fun c => (F k c).2) (g v) (a v) (ks v), if g v then 0 else pd (fun c => (F k c).1) (ks v)) ∧ ∀ c ∈ ks v, n - dep c = k := fun v hv => by
    have hd := TM.dep_lt R hv
    refine ⟨n - dep v - 1, by omega, ?_, fun c hc => ?_⟩
    · obtain ⟨k, e⟩ : ∃ k, n - dep v = k + 1 := ⟨n - dep v - 1, by omega⟩
      rw [e]; rfl
    · obtain ⟨h1, h2, h3⟩ := hk v hv c hc
      have := (R.up c h1 h2).2
      rw [h3] at this
      omega
  refine ⟨fun v => (F (n - dep v) v).1, fun v => (F (n - dep v) v).2, fun v hv => ?_, fun v hv => ?_⟩
  · obtain ⟨k, _, e, hc⟩ := key v hv
    show (F (n - dep v) v).1 = _
    rw [e]
    exact xw_congr _ fun c m => by rw [hc c m]; exact ⟨rfl, rfl⟩
  · obtain ⟨k, _, e, hc⟩ := key v hv
    show (F (n - dep v) v).2 = _
    rw [e]
    show (if g v then 0 else pd _ _) = _
    rw [pd_congr fun c m => by show (F k c).1 = (F (n - dep c) c).1; rw [hc c m]]
section
variable {r : Nat} {par dep : Nat → Nat} {S : List Nat} {D N : Nat → Int} {g : Nat → Bool}
/-- the state of a place with some children taken up -/
def Has (S : List Nat) (a : Nat → Int) (ks : Nat → List Nat) (g : Nat → Bool) (D N : Nat → Int) (s : WB) (u : Nat) : Prop := ∃ l, s.1 u = xw D N (g u) (a u) l ∧ s.2 u = pd D l ∧ (l ++ (ks u).filter fun c => decide (c ∈ S)).Perm (ks u)
theorem Has.own {n : Nat} {ks : Nat → List Nat} {a : Nat → Int} {s : WB} {v : Nat} (hDG : DG n a ks g D N) (hvn : v < n) (h : Has S a ks g D N s v) (e0 : ((ks v).filter fun c => decide (c ∈ S)) = []) : s.1 v = D v ∧ s.2 v = pd D (ks v) := by
  obtain ⟨l, e1, e2, p⟩ := h
  rw [e0, List.append_nil] at p
  rw [hDG.d v hvn, e1, e2, xw_perm p]
  exact ⟨rfl, pd_perm _ p⟩
theorem dg_keep {n : Nat} {ks : Nat → List Nat} {a : Nat → Int} (hDG : DG n a ks g D N) (hk : ∀ v, v < n → ∀ c, c ∈ ks v ↔ c < n ∧ c ≠ r ∧ par c = v) (nd : ∀ v, v < n → (ks v).Nodup) {s : WB} {v u : Nat} (hun : u < n) (hvn : v < n) (hv : v ∉ S) (ne : v ≠ r) (own : s.1 v = D v ∧ s.2 v = pd D (ks v))
    (h : Has (S ++ [v]) a ks g D N s u) : Has S a ks g D N (step g r par v s) u := by
  obtain ⟨l, e1, e2, p⟩ := h
  have est : step g r par v s = (up s.1 (par v) (s.1 (par v) * s.1 v - (if g (par v) || g v then 0 else s.2 (par v) * s.2 v)), up s.2 (par v) (s.2 (par v) * s.1 v)) := by
    unfold step
    rw [if_neg ne]
  by_cases eu : u = par v
  · subst eu
    refine ⟨l ++ [v], ?_, ?_, ?_⟩
    · rw [est, xw_snoc, ← e1, own.1, own.2, e2, hDG.n v hvn]
      simp only [up, if_true]
      cases g (par v) <;> cases g v <;> simp
    · rw [est, pd_snoc, ← e2, own.1]
      simp [up]
    · have p2 : ([v] ++ (ks (par v)).filter fun c => decide (c ∈ S)).Perm ((ks (par v)).filter fun c => decide (c ∈ S ++ [v])) := by
        refine (List.perm_ext_iff_of_nodup ?_ ((nd _ hun).filter _)).mpr fun c => ?_
        · exact List.nodup_cons.mpr ⟨fun m => by simp at m; exact hv m.2, (nd _ hun).filter _⟩
        · simp only [List.singleton_append, List.mem_cons, List.mem_filter, decide_eq_true_eq, List.mem_append, List.not_mem_nil, or_false]
          constructor
          · rintro (z | ⟨z1, z2⟩)
            · subst z
              exact ⟨(hk _ hun c).mpr ⟨hvn, ne, rfl⟩, .inr rfl⟩
            · exact ⟨z1, .inl z2⟩
          · rintro ⟨z1, z2 | z2⟩
            · exact .inr ⟨z1, z2⟩
            · exact .inl z2
      rw [List.append_assoc]
      exact (List.Perm.append_left l p2).trans p
  · refine ⟨l, ?_, ?_, ?_⟩
    · rw [est, ← e1]
      simp [up, eu]
    · rw [est, ← e2]
      simp [up, eu]
    · have e2 : ((ks u).filter fun c => decide (c ∈ S)) = (ks u).filter fun c => decide (c ∈ S ++ [v]) := by
        refine List.filter_congr fun c hc => ?_
        have h3 := ((hk u hun c).mp hc).2.2
        have : c ≠ v := fun z => eu (by rw [← h3, z])
        simp [this]
      rw [e2]
      exact p
theorem step_out {s : WB} {v u : Nat} (h : v ≠ r → u ≠ par v) : (step g r par v s).1 u = s.1 u ∧ (step g r par v s).2 u = s.2 u := by
  unfold step
  split
  · exact ⟨rfl, rfl⟩
  · rename_i ne
    simp [up, h ne]
theorem fin_out (G : Grow r par S) : ∀ {s : WB} {u : Nat}, u ∉ S → (fin g r par S s).1 u = s.1 u ∧ (fin g r par S s).2 u = s.2 u := by
  induction G with
  | one => intro s u _; simp [fin, step]
  | @more S v G hv ne hp ih =>
    intro s u hu
    rw [fin_snoc]
    simp only [List.mem_append, List.mem_singleton, not_or] at hu
    have h := step_out (g := g) (r := r) (par := par) (s := s) (v := v) (u := u) fun _ z => hu.1 (by rw [z]; exact hp)
    have := ih (s := step g r par v s) hu.1
    rw [this.1, this.2]
    exact h
theorem dg_fin {n : Nat} {ks : Nat → List Nat} {a : Nat → Int} (hDG : DG n a ks g D N) (hk : ∀ v, v < n → ∀ c, c ∈ ks v ↔ c < n ∧ c ≠ r ∧ par c = v) (nd : ∀ v, v < n → (ks v).Nodup) (G : Grow r par S) : (∀ v ∈ S, v < n) →
    ∀ s : WB, (∀ v ∈ S, Has S a ks g D N s v) → ∀ v ∈ S, (fin g r par S s).1 v = D v ∧ (fin g r par S s).2 v = pd D (ks v) := by
  induction G with
  | one =>
    intro lt s h v hv
    have hr := lt r (by simp)
    simp at hv
    subst hv
    have e1 : fin g v par [v] s = s := by simp [fin, step]
    rw [e1]
    refine (h v (by simp)).own hDG hr ?_
    rw [List.filter_eq_nil_iff]
    intro c hc
    have := ((hk v hr c).mp hc).2.1
    simp [this]
  | @more S v G hv ne hp ih =>
    intro lt s h u hu
    rw [fin_snoc]
    have hvn := lt v (by simp)
    have own : s.1 v = D v ∧ s.2 v = pd D (ks v) := by
      refine (h v (by simp)).own hDG hvn ?_
      rw [List.filter_eq_nil_iff]
      intro c hc z
      have z := of_decide_eq_true z
      obtain ⟨_, h2, h3⟩ := (hk v hvn c).mp hc
      rcases List.mem_append.mp z with m | m
      · have := (G.par c m h2).1
        rw [h3] at this
        exact hv this
      · simp at m
        subst m
        rw [h3] at hp
        exact hv hp
    rcases List.mem_append.mp hu with m | m
    · exact ih (fun w hw => lt w (by simp [hw])) _ (fun w hw => dg_keep hDG hk nd (lt w (by simp [hw])) hvn hv ne own (h w (by simp [hw]))) u m
    · simp at m
      subst m
      have o := fin_out (g := g) G (s := step g r par u s) hv
      have q := step_out (g := g) (r := r) (par := par) (s := s) (v := u) (u := u) fun _ z => hv (by rw [z]; exact hp)
      rw [o.1, o.2, q.1, q.2]
      exact own
end
section
variable {t : Tr} {r : Nat} {par dep : Nat → Nat} {S : List Nat} {D N : Nat → Int} {g : Nat → Bool}
def s0 (t : Tr) (g : Nat → Bool) : WB := (fun v => if g v then 1 else -wt t v, fun _ => 1)
theorem dg_all (T : Tree t) (R : TM.Rooted t.n (adjT t.ties) r par dep) (G : Grow r par S) (hS : ∀ v, v ∈ S ↔ v < t.n) (h : DG t.n (fun v => -wt t v) (kids t.ties r par) g D N) :
    ∀ v, v < t.n → (fin g r par S (s0 t g)).1 v = D v ∧ (fin g r par S (s0 t g)).2 v = pd D (kids t.ties r par v) := fun v hv =>
  dg_fin h (fun v hv c => kids_mem R hv c) (fun v hv => kids_nodup T.toOkt r par v) G (fun v m => (hS v).mp m) _ (fun v m => ⟨[], by
      unfold s0 xw fk pd
      cases h : g v <;> simp [h], rfl, by
      rw [List.nil_append]
      exact List.Perm.of_eq (List.filter_eq_self.mpr fun c hc => decide_eq_true ((hS c).mpr ((kids_mem R ((hS v).mp m) c).mp hc).1))⟩) v ((hS v).mpr hv)
theorem dg_is (T : Tree t) (R : TM.Rooted t.n (adjT t.ties) r par dep) (h : DG t.n (fun v => -wt t v) (kids t.ties r par) g D N) {S : List Nat} (G : Grow r par S) (hS : ∀ v, v ∈ S ↔ v < t.n) : D r = LW t g := by
  rw [← left_is T R G hS g]
  exact ((dg_all T R G hS h r R.root).1).symm
theorem dn_dg {n : Nat} {a : Nat → Int} {ks : Nat → List Nat} (h : DN n a ks D N) : DG n a ks none' D N := ⟨fun v hv => congrArg Prod.fst (h v hv), fun v hv => by
  have := congrArg Prod.snd (h v hv)
  rw [fk_two] at this
  exact this⟩
theorem dg_dn {n : Nat} {a : Nat → Int} {ks : Nat → List Nat} (h : DG n a ks none' D N) : DN n a ks D N := fun v hv => Prod.ext (h.d v hv) (by
  show N v = _
  rw [fk_two, h.n v hv]; rfl)
end
/-! ### above zero -/
/-- all that is left is above zero -/
def Pos (t : Tr) : Prop := ∀ g, 0 < LW t g
section
variable {n r : Nat} {adj : Nat → Nat → Prop} {par dep : Nat → Nat} {a : Nat → Int} {ks : Nat → List Nat} {g : Nat → Bool} {D N D0 N0 : Nat → Int}
theorem pos_fold {l : List Nat} (a : Int) (h : ∀ c ∈ l, 0 < D c ∧ 0 < D0 c ∧ N c * D0 c ≤ N0 c * D c) :
    0 < (fk D N a l).2 ∧ 0 < (fk D0 N0 a l).2 ∧ (fk D0 N0 a l).1 * (fk D N a l).2 ≤ (fk D N a l).1 * (fk D0 N0 a l).2 := by
  unfold fk
  have : ∀ (l : List Nat), (∀ c ∈ l, 0 < D c ∧ 0 < D0 c ∧ N c * D0 c ≤ N0 c * D c) → ∀ s s0 : Int × Int, 0 < s.2 → 0 < s0.2 → s0.1 * s.2 ≤ s.1 * s0.2 →
      0 < (l.foldl (kf D N) s).2 ∧ 0 < (l.foldl (kf D0 N0) s0).2 ∧ (l.foldl (kf D0 N0) s0).1 * (l.foldl (kf D N) s).2 ≤ (l.foldl (kf D N) s).1 * (l.foldl (kf D0 N0) s0).2 := by
    intro l
    induction l with
    | nil => intro _ s s0 h1 h2 h3; exact ⟨h1, h2, h3⟩
    | cons c l ih =>
      intro h s s0 h1 h2 h3
      rw [List.foldl_cons, List.foldl_cons]
      obtain ⟨c1, c2, c3⟩ := h c (by simp)
      refine ih (fun d m => h d (by simp [m])) _ _ (Int.mul_pos h1 c1) (Int.mul_pos h2 c2) ?_
      unfold kf
      simp only
      have m1 := Int.mul_le_mul_of_nonneg_right h3 (Int.le_of_lt (Int.mul_pos c1 c2))
      have m2 := Int.mul_le_mul_of_nonneg_right c3 (Int.le_of_lt (Int.mul_pos h1 h2))
      have e1 : (s.1 * D c - s.2 * N c) * (s0.2 * D0 c) - (s0.1 * D0 c - s0.2 * N0 c) * (s.2 * D c) = (s.1 * s0.2 * (D c * D0 c) - s0.1 * s.2 * (D c * D0 c)) + (N0 c * D c * (s.2 * s0.2) - N c * D0 c * (s.2 * s0.2)) := by grind
      omega
  exact this l h _ _ (by simp) (by simp) (by simp)
theorem pos_all (R : TM.Rooted n adj r par dep) (hk : ∀ v, v < n → ∀ c ∈ ks v, c < n ∧ c ≠ r ∧ par c = v) (h0 : DG n a ks none' D0 N0) (h : DG n a ks g D N) (hp : ∀ v, v < n → 0 < D0 v) : ∀ k v, v < n → n ≤ dep v + k → 0 < D v ∧ N v * D0 v ≤ N0 v * D v
  | 0, v, hv, hd => by have := TM.dep_lt R hv; omega
  | k + 1, v, hv, hd => by
    have kid : ∀ c ∈ ks v, 0 < D c ∧ 0 < D0 c ∧ N c * D0 c ≤ N0 c * D c := fun c hc => by
      obtain ⟨h1, h2, h3⟩ := hk v hv c hc
      have := (R.up c h1 h2).2
      rw [h3] at this
      have := pos_all R hk h0 h hp k c h1 (by omega)
      exact ⟨this.1, hp c h1, this.2⟩
    obtain ⟨q1, q2, q3⟩ := pos_fold (a v) kid
    have p0 := hp v hv
    have d0 := h0.d v hv
    have n0 := h0.n v hv
    have d1 := h.d v hv
    have n1 := h.n v hv
    rw [fk_two] at q1 q2
    rw [fk_two, fk_two] at q3
    unfold xw at d0 d1
    simp only [none', Bool.false_eq_true, if_false] at d0 n0
    cases hg : g v
    · rw [hg] at d1 n1
      simp only [Bool.false_eq_true, if_false] at d1 n1
      rw [← d0, ← d1, ← n0, ← n1] at q3
      rw [← n1] at q1
      rw [← n0] at q2
      have : 0 < D v * N0 v := Int.lt_of_lt_of_le (Int.mul_pos p0 q1) q3
      refine ⟨Int.pos_of_mul_pos_right (by rw [Int.mul_comm]; exact this) q2, ?_⟩
      rw [Int.mul_comm (N v), Int.mul_comm (N0 v)]; exact q3
    · rw [hg] at d1 n1
      simp only [if_true] at d1 n1
      rw [← d1] at q1
      refine ⟨q1, ?_⟩
      rw [n1, n0]
      have := Int.mul_pos q2 q1
      omega
end
end MT
/-! what is left falls into parts -/
namespace MT
open Y
abbrev one : Nat → Int := fun _ => 1
theorem pd_mul (f h : Nat → Int) : ∀ V : List Nat, pd (fun x => f x * h x) V = pd f V * pd h V
  | [] => by simp [pd]
  | x :: V => by rw [pd_cons, pd_cons, pd_cons, pd_mul f h V]; grind
theorem M_mul {V : List Nat} {W : Nat → Int} : ∀ (E : List (Nat × Nat)) (g1 g2 : Nat → Bool), (∀ x, g1 x = true ∨ g2 x = true) → (∀ p ∈ E, (g1 p.1 = true ∨ g2 p.2 = true) ∧ (g2 p.1 = true ∨ g1 p.2 = true)) →
    M V W one E (fun x => g1 x && g2 x) = M V W one E g1 * M V W one E g2
  | [], g1, g2, h, _ => by
    show pd _ V = pd _ V * pd _ V
    rw [← pd_mul]
    refine pd_congr fun x _ => ?_
    rcases h x with z | z
    · simp [z]
    · simp [z]
  | p :: E, g1, g2, h, hE => by
    have ih := fun g1 g2 a b => M_mul (V := V) (W := W) E g1 g2 a b
    have hE' : ∀ q ∈ E, (g1 q.1 = true ∨ g2 q.2 = true) ∧ (g2 q.1 = true ∨ g1 q.2 = true) := fun q m => hE q (by simp [m])
    have i0 := ih g1 g2 h hE'
    obtain ⟨k1, k2⟩ := hE p (by simp)
    have h1 := h p.1
    have h2 := h p.2
    have insT : ∀ {g : Nat → Bool} {x : Nat}, g x = true → ins (ins g p.1) p.2 x = true := fun hx => by simp [ins_at, hx]
    rw [M_cons, M_cons, M_cons, i0]
    cases a : g1 p.1 <;> cases b : g1 p.2 <;> cases c : g2 p.1 <;> cases d : g2 p.2 <;> rw [a] at k1 h1 <;> rw [b] at k2 h2 <;> rw [c] at k2 h1 <;> rw [d] at k1 h2 <;> simp at k1 k2 h1 h2 <;> simp [a, b, c, d]
    · have e : ins (ins (fun x => g1 x && g2 x) p.1) p.2 = fun x => ins (ins g1 p.1) p.2 x && g2 x := by
        funext x
        simp only [ins_at]
        by_cases e1 : x = p.1
        · subst e1; simp [c]
        · by_cases e2 : x = p.2
          · subst e2; simp [d]
          · simp [e1, e2]
      rw [e, ih _ _ (fun x => (h x).imp insT id) fun q m => ⟨(hE' q m).1.imp insT id, (hE' q m).2.imp id insT⟩]
      grind
    · have e : ins (ins (fun x => g1 x && g2 x) p.1) p.2 = fun x => g1 x && ins (ins g2 p.1) p.2 x := by
        funext x
        simp only [ins_at]
        by_cases e1 : x = p.1
        · subst e1; simp [a]
        · by_cases e2 : x = p.2
          · subst e2; simp [b]
          · simp [e1, e2]
      rw [e, ih _ _ (fun x => (h x).imp id insT) fun q m => ⟨(hE' q m).1.imp id insT, (hE' q m).2.imp insT id⟩]
      grind
/-- numbered otherwise -/
theorem M_inj {W W' : Nat → Int} {f : Nat → Nat} {U V : List Nat} (hV : ∀ x ∈ V, x ∈ U) (hf : ∀ x ∈ U, ∀ y ∈ U, f x = f y → x = y) (hW : ∀ x ∈ U, W' (f x) = W x) : ∀ (E : List (Nat × Nat)) (g g' : Nat → Bool), (∀ p ∈ E, p.1 ∈ U ∧ p.2 ∈ U) → (∀ x ∈ U, g' (f x) = g x) →
    M (V.map f) W' one (E.map fun p => (f p.1, f p.2)) g' = M V W one E g
  | [], g, g', _, hg => by
    show pd _ (V.map f) = pd _ V
    unfold pd
    rw [List.map_map]
    congr 1
    exact List.map_congr_left fun x hx => by
      show (if g' (f x) = true then one (f x) else W' (f x)) = if g x = true then one x else W x
      rw [hg x (hV x hx), hW x (hV x hx)]
  | p :: E, g, g', hE, hg => by
    obtain ⟨u1, u2⟩ := hE p (by simp)
    have hE' : ∀ q ∈ E, q.1 ∈ U ∧ q.2 ∈ U := fun q m => hE q (by simp [m])
    rw [List.map_cons, M_cons, M_cons, M_inj hV hf hW E g g' hE' hg, M_inj hV hf hW E (ins (ins g p.1) p.2) (ins (ins g' (f p.1)) (f p.2)) hE' fun x hx => ?_]
    · simp only
      rw [hg _ u1, hg _ u2]
    · simp only [ins_at]
      rw [hg x hx, decide_eq_decide.mpr (⟨hf x hx _ u1, fun z => by rw [z]⟩ : f x = f p.1 ↔ x = p.1), decide_eq_decide.mpr (⟨hf x hx _ u2, fun z => by rw [z]⟩ : f x = f p.2 ↔ x = p.2)]
theorem LW_congr {t : Tr} (O : Okt t) {g g' : Nat → Bool} (h : ∀ x, x < t.n → g x = g' x) : LW t g = LW t g' := by
  have := M_inj (f := id) (U := List.range t.n) (V := List.range t.n) (W := fun v => -wt t v) (W' := fun v => -wt t v) (fun _ h => h) (fun _ _ _ _ e => e) (fun _ _ => rfl) t.ties g' g (fun p hp => by
    have := O.inb p hp
    exact ⟨List.mem_range.mpr (by omega), List.mem_range.mpr this.2⟩) fun x hx => h x (List.mem_range.mp hx)
  rw [List.map_id] at this
  have e : (t.ties.map fun p => (id p.1, id p.2)) = t.ties := by
    conv => rhs; rw [← List.map_id t.ties]
    rfl
  rw [e] at this
  exact this
theorem M_drop {V : List Nat} {W B : Nat → Int} {g : Nat → Bool} : ∀ (E : List (Nat × Nat)) (g' : Nat → Bool), (∀ x, g x = true → g' x = true) → M V W B E g' = M V W B (E.filter fun p => !g p.1 && !g p.2) g'
  | [], g', _ => rfl
  | p :: E, g', h => by
    rw [M_cons, List.filter_cons]
    cases a : g p.1
    · cases b : g p.2
      · simp only [Bool.not_false, Bool.and_self, if_true]
        rw [M_cons, M_drop E g' h, M_drop E (ins (ins g' p.1) p.2) fun x hx => by simp [ins_at, h x hx]]
      · simp only [Bool.not_true, Bool.and_false, Bool.false_eq_true, if_false]
        rw [← M_drop E g' h, h _ b]
        simp
    · simp only [Bool.not_true, Bool.false_and, Bool.false_eq_true, if_false]
      rw [← M_drop E g' h, h _ a]
      simp
theorem M_some {V : List Nat} {W : Nat → Int} {g : Nat → Bool} : ∀ (E : List (Nat × Nat)) (g' : Nat → Bool), (∀ x, g x = true → g' x = true) → M V W one E g' = M (V.filter fun x => !g x) W one E g'
  | [], g', h => by
    show pd _ V = pd _ _
    induction V with
    | nil => rfl
    | cons x V ih =>
      rw [pd_cons, List.filter_cons, ih]
      cases a : g x
      · simp only [Bool.not_false, if_true]
        rw [pd_cons]
      · simp only [Bool.not_true, Bool.false_eq_true, if_false]
        rw [h x a]
        simp
  | p :: E, g', h => by
    rw [M_cons, M_cons, M_some E g' h, M_some E (ins (ins g' p.1) p.2) fun x hx => by simp [ins_at, h x hx]]
/-! ### parts -/
def cut (t : Tr) (p : List Nat) : List (Nat × Nat) := (t.ties.filter fun q => inl p q.1 && inl p q.2).map fun q => (p.idxOf q.1, p.idxOf q.2)
def partT (t : Tr) (p : List Nat) : Tr := madeT (p.map (wt t)) (cut t p)
/-- places that hang together, and with no others that are left -/
structure Part (t : Tr) (g : Nat → Bool) (p : List Nat) : Prop where
  asc : p.Pairwise (· < ·)
  lt : ∀ v ∈ p, v < t.n ∧ g v = false
  closed : ∀ u ∈ p, ∀ v, adjT t.ties u v → g v = false → v ∈ p
  conn : ∀ P : Nat → Prop, (∃ x ∈ p, P x) → (∃ y ∈ p, ¬P y) → ∃ x ∈ p, ∃ y ∈ p, P x ∧ ¬P y ∧ adjT t.ties x y
theorem ix_at {p : List Nat} {v : Nat} (h : v ∈ p) : p.idxOf v < p.length ∧ p.getD (p.idxOf v) 0 = v := by
  have h1 := List.idxOf_lt_length_iff.mpr h
  refine ⟨h1, ?_⟩
  rw [List.getD_eq_getElem?_getD, List.getElem?_eq_getElem h1]
  simp
theorem at_mem {p : List Nat} {i : Nat} (h : i < p.length) : p.getD i 0 ∈ p := by
  rw [List.getD_eq_getElem?_getD, List.getElem?_eq_getElem h]
  simp
theorem at_ix {p : List Nat} (nd : p.Nodup) {i : Nat} (h : i < p.length) : p.idxOf (p.getD i 0) = i := by
  rw [List.getD_eq_getElem?_getD, List.getElem?_eq_getElem h]
  exact nd.idxOf_getElem i h
theorem ix_inj {p : List Nat} {u v : Nat} (hu : u ∈ p) (hv : v ∈ p) (e : p.idxOf u = p.idxOf v) : u = v := by
  rw [← (ix_at hu).2, ← (ix_at hv).2, e]
theorem ix_mono {p : List Nat} (asc : p.Pairwise (· < ·)) {u v : Nat} (hu : u ∈ p) (hv : v ∈ p) (h : u < v) : p.idxOf u < p.idxOf v := by
  refine Classical.byContradiction fun z => ?_
  obtain ⟨a1, a2⟩ := ix_at hu
  obtain ⟨b1, b2⟩ := ix_at hv
  have ne : p.idxOf u ≠ p.idxOf v := fun e => by have := ix_inj hu hv e; omega
  have := List.pairwise_iff_getElem.mp asc _ _ b1 a1 (by omega)
  simp at this
  omega
theorem inl_mem {p : List Nat} {x : Nat} : inl p x = true ↔ x ∈ p := decide_eq_true_iff
section
variable {t : Tr} {g : Nat → Bool} {p : List Nat}
theorem Part.nd (P : Part t g p) : p.Nodup := P.asc.imp fun h => Nat.ne_of_lt h
theorem Part.few (P : Part t g p) : p.length ≤ t.n := TM.nodup_le _ _ P.nd fun v m => (P.lt v m).1
theorem cut_mem {q : Nat × Nat} : q ∈ cut t p ↔ ∃ e ∈ t.ties, e.1 ∈ p ∧ e.2 ∈ p ∧ (p.idxOf e.1, p.idxOf e.2) = q := by
  unfold cut
  rw [List.mem_map]
  constructor
  · rintro ⟨e, he, rfl⟩
    obtain ⟨h1, h2⟩ := List.mem_filter.mp he
    rw [Bool.and_eq_true, inl_mem, inl_mem] at h2
    exact ⟨e, h1, h2.1, h2.2, rfl⟩
  · rintro ⟨e, he, h1, h2, rfl⟩
    exact ⟨e, List.mem_filter.mpr ⟨he, by rw [Bool.and_eq_true, inl_mem, inl_mem]; exact ⟨h1, h2⟩⟩, rfl⟩
theorem cut_adj (P : Part t g p) (u v : Nat) : adjT (cut t p) u v ↔ (u < p.length ∧ v < p.length ∧ adjT t.ties (p.getD u 0) (p.getD v 0)) := by
  unfold adjT
  rw [cut_mem, cut_mem]
  constructor
  · rintro (⟨e, he, h1, h2, z⟩ | ⟨e, he, h1, h2, z⟩)
    · cases z
      exact ⟨(ix_at h1).1, (ix_at h2).1, .inl (by rw [(ix_at h1).2, (ix_at h2).2]; exact he)⟩
    · cases z
      exact ⟨(ix_at h2).1, (ix_at h1).1, .inr (by rw [(ix_at h1).2, (ix_at h2).2]; exact he)⟩
  · rintro ⟨a, b, h | h⟩
    · exact .inl ⟨_, h, at_mem a, at_mem b, by rw [at_ix P.nd a, at_ix P.nd b]⟩
    · exact .inr ⟨_, h, at_mem b, at_mem a, by rw [at_ix P.nd a, at_ix P.nd b]⟩
theorem way_cons {n : Nat} {adj : Nat → Nat → Prop} {r : Nat} {par dep : Nat → Nat} (R : TM.Rooted n adj r par dep) {v : Nat} (hv : v < n) (ne : v ≠ r) : TM.way par dep v = v :: TM.way par dep (par v) := by
  unfold TM.way
  rw [(R.up v hv ne).2]
  rfl
theorem way_root {n : Nat} {adj : Nat → Nat → Prop} {r : Nat} {par dep : Nat → Nat} (R : TM.Rooted n adj r par dep) : TM.way par dep r = [r] := by
  unfold TM.way
  rw [R.dep0]
  rfl
theorem way_self {n : Nat} {adj : Nat → Nat → Prop} {r : Nat} {par dep : Nat → Nat} (R : TM.Rooted n adj r par dep) (v : Nat) : v ∈ TM.way par dep v := by
  unfold TM.way
  cases dep v <;> simp [TM.upto]
theorem part_par (P : Part t g p) {r : Nat} {par dep : Nat → Nat} (R : TM.Rooted t.n (adjT t.ties) r par dep) (hr : r ∈ p) {v : Nat} (hv : v ∈ p) (ne : v ≠ r) : par v ∈ p := by
  obtain ⟨x, hx, y, hy, p1, p2, ha⟩ := P.conn (fun x => v ∈ TM.way par dep x) ⟨v, hv, way_self R v⟩ ⟨r, hr, by rw [way_root R]; simpa using ne⟩
  rcases ((R.edge x y).mp ha).2.2 with ⟨h1, h2⟩ | ⟨h1, h2⟩
  · rw [way_cons R (P.lt x hx).1 h1, h2] at p1
    rcases List.mem_cons.mp p1 with e | m
    · rw [e, h2]; exact hy
    · exact absurd m p2
  · rw [way_cons R (P.lt y hy).1 h1, h2] at p2
    exact absurd (List.mem_cons_of_mem _ p1) p2
theorem part_isTree (T : Tree t) (P : Part t g p) : TM.IsTree p.length (adjT (cut t p)) := fun r hr => by
  obtain ⟨par, dep, R⟩ := T.tree (p.getD r 0) (P.lt _ (at_mem hr)).1
  refine ⟨fun v => p.idxOf (par (p.getD v 0)), fun v => dep (p.getD v 0), hr, R.dep0, fun v hv hne => ?_, fun u v => ?_⟩
  · have ne : p.getD v 0 ≠ p.getD r 0 := fun e => hne (by rw [← at_ix P.nd hv, e, at_ix P.nd hr])
    have m := part_par P R (at_mem hr) (at_mem hv) ne
    refine ⟨(ix_at m).1, ?_⟩
    show dep _ = dep (p.getD (p.idxOf _) 0) + 1
    rw [(ix_at m).2]
    exact (R.up _ (P.lt _ (at_mem hv)).1 ne).2
  · rw [cut_adj P]
    have key : ∀ u v, u < p.length → v < p.length → ((p.getD u 0 ≠ p.getD r 0 ∧ par (p.getD u 0) = p.getD v 0) ↔ (u ≠ r ∧ p.idxOf (par (p.getD u 0)) = v)) := fun u v hu hv => by
      constructor
      · rintro ⟨a, b⟩
        exact ⟨fun e => a (by rw [e]), by rw [b]; exact at_ix P.nd hv⟩
      · rintro ⟨a, b⟩
        have ne : p.getD u 0 ≠ p.getD r 0 := fun e => a (by rw [← at_ix P.nd hu, e, at_ix P.nd hr])
        exact ⟨ne, by rw [← b]; exact ((ix_at (part_par P R (at_mem hr) (at_mem hu) ne)).2).symm⟩
    constructor
    · rintro ⟨a, b, c⟩
      refine ⟨a, b, ?_⟩
      rcases ((R.edge _ _).mp c).2.2 with d | d
      · exact .inl ((key u v a b).mp d)
      · exact .inr ((key v u b a).mp d)
    · rintro ⟨a, b, d⟩
      refine ⟨a, b, (R.edge _ _).mpr ⟨(P.lt _ (at_mem a)).1, (P.lt _ (at_mem b)).1, ?_⟩⟩
      rcases d with d | d
      · exact .inl ((key u v a b).mpr d)
      · exact .inr ((key v u b a).mpr d)
theorem cut_lt (O : Okt t) (P : Part t g p) : ∀ q ∈ cut t p, q.1 < q.2 ∧ q.2 < p.length := fun q hq => by
  obtain ⟨e, he, h1, h2, rfl⟩ := cut_mem.mp hq
  exact ⟨ix_mono P.asc h1 h2 (O.inb e he).1, (ix_at h2).1⟩
theorem part_ties (O : Okt t) (P : Part t g p) : (partT t p).ties = sortP (cut t p) := by
  show sortP ((cut t p).map fun q => mk2 q.1 q.2) = _
  rw [mk2_id fun q hq => (cut_lt O P q hq).1]
theorem part_n (t : Tr) (p : List Nat) : (partT t p).n = p.length := List.length_map _
theorem part_tree (T : Tree t) (P : Part t g p) : Tree (partT t p) := by
  have O := T.toOkt
  have e := part_ties O P
  have pm := sortP_perm (cut t p)
  have hn := part_n t p
  have few := P.few
  have f16 := T.few
  have fT := T.fewT
  have lc : (cut t p).length ≤ 100 := by
    unfold cut
    rw [List.length_map]
    exact Nat.le_trans (List.length_filter_le _ _) fT
  have nd : (cut t p).Nodup := by
    unfold cut
    refine List.pairwise_map.mpr (List.Pairwise.imp_of_mem ?_ ((O.asc.imp fun h e => by subst e; unfold lexL at h; omega : t.ties.Nodup).filter _))
    intro a b ha hb ne z
    have ha := (List.mem_filter.mp ha).2
    have hb := (List.mem_filter.mp hb).2
    rw [Bool.and_eq_true, inl_mem, inl_mem] at ha hb
    have z1 := ix_inj ha.1 hb.1 (congrArg Prod.fst z)
    have z2 := ix_inj ha.2 hb.2 (congrArg Prod.snd z)
    exact ne (Prod.ext z1 z2)
  refine ⟨⟨by rw [hn]; omega, by rw [e, pm.length_eq]; exact lc, fun q hq => ?_, by rw [e]; exact asc_of (sortP_sorted _) (pm.nodup_iff.mpr nd)⟩, ?_⟩
  · rw [e] at hq
    rw [hn]
    exact cut_lt O P q (pm.mem_iff.mp hq)
  · rw [e, hn]
    exact TM.isTree_congr (fun u v => (adjT_perm pm u v).symm) (part_isTree T P)
theorem part_bt (B : Bt t) (P : Part t g p) : Bt (partT t p) := ⟨part_tree B.toTree P, fun x hx => by
  obtain ⟨v, hv, rfl⟩ := List.mem_map.mp (show x ∈ p.map (wt t) from hx)
  have hn := (P.lt v hv).1
  exact B.wb _ (by unfold wt; simp [show v < t.ws.length from hn])⟩
/-- without all but a part -/
theorem part_dt (T : Tree t) (P : Part t g p) : Dt (partT t p) = LW t (fun x => !inl p x) := by
  have O := T.toOkt
  have pV : ((List.range t.n).filter fun x => !(!inl p x)).Perm p := by
    refine (List.perm_ext_iff_of_nodup (List.nodup_range.filter _) P.nd).mpr fun v => ?_
    rw [List.mem_filter, List.mem_range, Bool.not_not, inl_mem]
    exact ⟨fun z => z.2, fun z => ⟨(P.lt v z).1, z⟩⟩
  unfold Dt LW
  rw [part_ties O P, part_n, M_perm (sortP_perm _)]
  rw [M_drop (g := fun x => !inl p x) t.ties _ fun _ h => h, M_some (g := fun x => !inl p x) _ _ fun _ h => h, M_V pV]
  have er : List.range p.length = p.map fun v => p.idxOf v := by
    refine List.ext_getElem (by simp) fun i h1 h2 => ?_
    simp at h1 h2
    simp
    exact (P.nd.idxOf_getElem i h1).symm
  rw [er]
  have ec : cut t p = (t.ties.filter fun q => !(!inl p q.1) && !(!inl p q.2)).map fun q => (p.idxOf q.1, p.idxOf q.2) := by
    unfold cut
    simp
  rw [ec]
  refine M_inj (U := p) (fun _ h => h) (fun x hx y hy e => ix_inj hx hy e) (fun x hx => ?_) _ _ _ (fun q hq => ?_) fun x hx => ?_
  · show -((p.map (wt t)).getD (p.idxOf x) 0) = _
    have h1 := (ix_at hx).1
    have h2 := (ix_at hx).2
    rw [List.getD_eq_getElem?_getD, List.getElem?_eq_getElem h1] at h2
    simp at h2
    rw [List.getD_eq_getElem?_getD, List.getElem?_map, List.getElem?_eq_getElem h1]
    simp [h2]
  · have := (List.mem_filter.mp hq).2
    simp only [Bool.not_not, Bool.and_eq_true, inl_mem] at this
    exact this
  · simp [none', inl_mem.mpr hx]
end
/-- none of these parts -/
def out (ps : List (List Nat)) : Nat → Bool := fun x => !(ps.any fun p => inl p x)
structure Parts (t : Tr) (g : Nat → Bool) (ps : List (List Nat)) : Prop where
  each : ∀ p ∈ ps, Part t g p
  dis : ps.Pairwise fun p q => ∀ x ∈ p, x ∉ q
theorem out_mem {ps : List (List Nat)} {x : Nat} : out ps x = false ↔ ∃ p ∈ ps, x ∈ p := by
  unfold out
  rw [Bool.not_eq_false', List.any_eq_true]
  constructor
  · rintro ⟨p, h1, h2⟩; exact ⟨p, h1, inl_mem.mp h2⟩
  · rintro ⟨p, h1, h2⟩; exact ⟨p, h1, inl_mem.mpr h2⟩
theorem out_nil {t : Tr} (O : Okt t) : LW t (out []) = 1 := by
  have e : out [] = fun _ => true := by funext x; rfl
  rw [e]
  unfold LW
  rw [M_drop (g := fun _ => true) t.ties _ fun _ h => h]
  have : (t.ties.filter fun p => !true && !true) = [] := by simp
  rw [this]
  show pd _ _ = 1
  have : ∀ l : List Nat, pd (fun x => if true = true then (1 : Int) else -wt t x) l = 1 := by
    intro l
    induction l with
    | nil => rfl
    | cons x l ih => rw [pd_cons, ih]; simp
  exact this _
theorem out_snoc {t : Tr} (T : Tree t) {g : Nat → Bool} {ps : List (List Nat)} {p : List Nat} (P : Parts t g (ps ++ [p])) : LW t (out (ps ++ [p])) = LW t (out ps) * Dt (partT t p) := by
  have hp := P.each p (by simp)
  have hd := (List.pairwise_append.mp P.dis).2.2
  rw [part_dt T hp]
  have e : out (ps ++ [p]) = fun x => out ps x && !inl p x := by
    funext x
    unfold out
    rw [List.any_append]
    simp
  rw [e]
  have no : ∀ u w, adjT t.ties u w → out ps u = true ∨ (!inl p w) = true := fun u w ha => by
    cases h1 : out ps u
    · obtain ⟨q, hq, hu⟩ := out_mem.mp h1
      have hQ := P.each q (by simp [hq])
      cases h2 : inl p w
      · exact .inr rfl
      · exfalso
        have hw := inl_mem.mp h2
        have := hQ.closed u hu w ha (hp.lt w hw).2
        exact hd q hq p (by simp) w this hw
    · exact .inl rfl
  refine M_mul t.ties (out ps) (fun x => !inl p x) (fun x => ?_) fun q hq => ⟨no _ _ (.inl hq), (no _ _ (.inr hq)).symm⟩
  cases h1 : out ps x
  · obtain ⟨q, hq, hu⟩ := out_mem.mp h1
    cases h2 : inl p x
    · exact .inr rfl
    · exact absurd (inl_mem.mp h2) (hd q hq p (by simp) x hu)
  · exact .inl rfl
theorem out_all {t : Tr} (O : Okt t) {g : Nat → Bool} {ps : List (List Nat)} (P : Parts t g ps) (all : ∀ v, v < t.n → g v = false → ∃ p ∈ ps, v ∈ p) : LW t (out ps) = LW t g := by
  refine LW_congr O fun x hx => ?_
  cases h : g x
  · exact out_mem.mpr (all x hx h)
  · cases h2 : out ps x
    · obtain ⟨p, hp, hm⟩ := out_mem.mp h2
      have := ((P.each p hp).lt x hm).2
      rw [h] at this; cases this
    · rfl
/-! ### listed anew -/
theorem lst_wt {t : Tr} {l : List Nat} {v : Nat} (h : v < l.length) : wt (lstT t l) v = wt t (l.getD v 0) := by
  unfold wt lstT
  simp [h]
theorem lst_LW {t : Tr} (O : Okt t) {l : List Nat} (h : Lst t.n l) (g : Nat → Bool) : LW (lstT t l) g = LW t (fun x => g (l.idxOf x)) := by
  unfold LW
  rw [lst_n h]
  have e : (lstT t l).ties = sortP (t.ties.map fun p => mk2 (l.idxOf p.1) (l.idxOf p.2)) := rfl
  rw [e, M_perm (sortP_perm _)]
  have e2 : (t.ties.map fun p => mk2 (l.idxOf p.1) (l.idxOf p.2)) = (t.ties.map fun p => (l.idxOf p.1, l.idxOf p.2)).map fun p => mk2 p.1 p.2 := by rw [List.map_map]; rfl
  rw [e2, M_turn (fun p : Nat × Nat => mk2 p.1 p.2) fun p => mk2_or p.1 p.2]
  have pV : (List.range t.n).Perm ((List.range t.n).map fun v => l.idxOf v) := by
    refine (List.perm_ext_iff_of_nodup List.nodup_range ?_).mpr fun v => ?_
    · refine List.pairwise_map.mpr (List.Pairwise.imp_of_mem ?_ List.nodup_range)
      intro a b ha hb ne z
      have ha := List.mem_range.mp ha
      have hb := List.mem_range.mp hb
      exact ne (by rw [← h.fg ha, ← h.fg hb, z])
    · rw [List.mem_range, List.mem_map]
      constructor
      · intro hv
        exact ⟨l.getD v 0, List.mem_range.mpr (h.f hv), h.gf hv⟩
      · rintro ⟨u, hu, rfl⟩
        exact h.g (List.mem_range.mp hu)
  rw [M_V pV]
  refine M_inj (U := List.range t.n) (fun _ h => h) (fun x hx y hy e => ?_) (fun x hx => ?_) _ _ _ (fun q hq => ?_) fun x hx => rfl
  · rw [← h.fg (List.mem_range.mp hx), ← h.fg (List.mem_range.mp hy), e]
  · have hx := List.mem_range.mp hx
    show -wt (lstT t l) (l.idxOf x) = -wt t x
    rw [lst_wt (by rw [h.len]; exact h.g hx), h.fg hx]
  · have := O.inb q hq
    exact ⟨List.mem_range.mpr (by omega), List.mem_range.mpr this.2⟩
theorem pos_listed {t : Tr} (O : Okt t) {l : List Nat} (h : Lst t.n l) (P : Pos t) : Pos (lstT t l) := fun g => by rw [lst_LW O h]; exact P _
end MT
namespace TM
theorem way_cons {n adj r par dep} (R : Rooted n adj r par dep) {v : Nat} (hv : v < n) (ne : v ≠ r) : way par dep v = v :: way par dep (par v) := by
  unfold way
  rw [(R.up v hv ne).2]
  rfl
theorem way_root {n adj r par dep} (R : Rooted n adj r par dep) : way par dep r = [r] := by
  unfold way
  rw [R.dep0]
  rfl
/-- a tie from the next place on the way is put through a new place -/
theorem split_down {n : Nat} {adj adj' : Nat → Nat → Prop} {r b c : Nat} {par dep : Nat → Nat} (R : Rooted n adj r par dep) (hc : c < n) (ne : c ≠ r) (hb : par c = b)
    (h : ∀ u v, adj' u v ↔ ((adj u v ∧ ¬(u = b ∧ v = c) ∧ ¬(u = c ∧ v = b)) ∨ (u = b ∧ v = n) ∨ (u = n ∧ v = b) ∨ (u = c ∧ v = n) ∨ (u = n ∧ v = c))) :
    Rooted (n + 1) adj' r (fun v => if v = n then b else if v = c then n else par v) (fun v => if v = n then dep b + 1 else if c ∈ way par dep v then dep v + 1 else dep v) := by
  have hr := R.root
  have upc := R.up c hc ne
  rw [hb] at upc
  have nb : c ∉ way par dep b := fun m => by
    have := (upto_lt R _ b upc.1 rfl c m).2
    omega
  have inc : c ∈ way par dep c := by rw [way_cons R hc ne]; simp
  refine ⟨by omega, ?_, fun v hv hne => ?_, fun u v => ?_⟩
  · rw [if_neg (by omega), way_root R, if_neg (by simp; exact ne)]
    exact R.dep0
  · by_cases e : v = n
    · subst e
      simp only [if_true]
      refine ⟨by omega, ?_⟩
      rw [if_neg (by omega), if_neg nb]
    · by_cases e2 : v = c
      · subst e2
        simp only [if_neg e, if_true, if_pos inc]
        exact ⟨by omega, by omega⟩
      · have up := R.up v (by omega) hne
        simp only [if_neg e, if_neg e2]
        refine ⟨by omega, ?_⟩
        rw [if_neg (show ¬ par v = n by omega), way_cons R (by omega) hne]
        have : (c ∈ v :: way par dep (par v)) ↔ c ∈ way par dep (par v) := by
          rw [List.mem_cons]
          exact ⟨fun z => z.resolve_left (Ne.symm e2), .inr⟩
        by_cases m : c ∈ way par dep (par v)
        · rw [if_pos (this.mpr m), if_pos m]; omega
        · rw [if_neg fun z => m (this.mp z), if_neg m]; omega
  · rw [h u v, R.edge u v]
    have upn : ∀ w, w < n → w ≠ r → par w < n := fun w h1 h2 => (R.up w h1 h2).1
    constructor
    · rintro (⟨⟨a1, a2, a3⟩, a4, a5⟩ | ⟨a1, a2⟩ | ⟨a1, a2⟩ | ⟨a1, a2⟩ | ⟨a1, a2⟩)
      · refine ⟨by omega, by omega, ?_⟩
        rcases a3 with ⟨c1, c2⟩ | ⟨c1, c2⟩
        · refine .inl ⟨c1, ?_⟩
          rw [if_neg (show ¬ u = n by omega), if_neg (fun z => a5 ⟨z, by rw [← c2, z, hb]⟩)]
          exact c2
        · refine .inr ⟨c1, ?_⟩
          rw [if_neg (show ¬ v = n by omega), if_neg (fun z => a4 ⟨by rw [← c2, z, hb], z⟩)]
          exact c2
      · subst a1 a2
        exact ⟨by omega, by omega, .inr ⟨by omega, by simp⟩⟩
      · subst a1 a2
        exact ⟨by omega, by omega, .inl ⟨by omega, by simp⟩⟩
      · subst a1 a2
        exact ⟨by omega, by omega, .inl ⟨ne, by rw [if_neg (show ¬ u = v by omega), if_pos rfl]⟩⟩
      · subst a1 a2
        exact ⟨by omega, by omega, .inr ⟨ne, by rw [if_neg (show ¬ v = u by omega), if_pos rfl]⟩⟩
    · have key : ∀ u v, u < n + 1 → v < n + 1 → u ≠ r → (if u = n then b else if u = c then n else par u) = v → ((u < n ∧ v < n ∧ par u = v ∧ u ≠ c) ∨ (u = n ∧ v = b) ∨ (u = c ∧ v = n)) := by
        intro u v h1 h2 h3 h4
        by_cases e : u = n
        · rw [if_pos e] at h4
          exact .inr (.inl ⟨e, h4.symm⟩)
        · rw [if_neg e] at h4
          by_cases e2 : u = c
          · rw [if_pos e2] at h4
            exact .inr (.inr ⟨e2, h4.symm⟩)
          · rw [if_neg e2] at h4
            have := upn u (by omega) h3
            exact .inl ⟨by omega, by omega, h4, e2⟩
      rintro ⟨a1, a2, ⟨c1, c2⟩ | ⟨c1, c2⟩⟩
      · rcases key u v a1 a2 c1 c2 with ⟨k1, k2, k3, k4⟩ | k | k
        · refine .inl ⟨⟨k1, k2, .inl ⟨c1, k3⟩⟩, fun z => ?_, fun z => k4 z.1⟩
          have hv := z.2
          have hu := z.1
          have := (R.up u k1 c1).2
          rw [k3, hv, hu] at this
          omega
        · exact .inr (.inr (.inl k))
        · exact .inr (.inr (.inr (.inl k)))
      · rcases key v u a2 a1 c1 c2 with ⟨k1, k2, k3, k4⟩ | k | k
        · refine .inl ⟨⟨k2, k1, .inr ⟨c1, k3⟩⟩, fun z => k4 z.2, fun z => ?_⟩
          have hv := z.2
          have hu := z.1
          have := (R.up v k1 c1).2
          rw [k3, hv, hu] at this
          omega
        · exact .inr (.inl ⟨k.2, k.1⟩)
        · exact .inr (.inr (.inr (.inr ⟨k.2, k.1⟩)))
end TM
namespace TM
/-- .. seen from the new place -/
theorem split_root {n : Nat} {adj adj' : Nat → Nat → Prop} {p q : Nat} {par dep : Nat → Nat} (R : Rooted n adj p par dep) (hq : q < n) (ne : q ≠ p) (hb : par q = p)
    (h : ∀ u v, adj' u v ↔ ((adj u v ∧ ¬(u = p ∧ v = q) ∧ ¬(u = q ∧ v = p)) ∨ (u = p ∧ v = n) ∨ (u = n ∧ v = p) ∨ (u = q ∧ v = n) ∨ (u = n ∧ v = q))) :
    Rooted (n + 1) adj' n (fun v => if v = p then n else if v = q then n else par v) (fun v => if v = n then 0 else if q ∈ way par dep v then dep v else dep v + 1) := by
  have hp := R.root
  have upq := R.up q hq ne
  have d0 := R.dep0
  rw [hb] at upq
  have inq : q ∈ way par dep q := by rw [way_cons R hq ne]; simp
  have nip : q ∉ way par dep p := by rw [way_root R]; simp; exact ne
  refine ⟨by omega, by simp, fun v hv hne => ?_, fun u v => ?_⟩
  · by_cases e : v = p
    · subst e
      simp only [if_true, if_neg hne, if_neg nip]
      exact ⟨by omega, by omega⟩
    · by_cases e2 : v = q
      · subst e2
        simp only [if_neg e, if_true, if_neg hne, if_pos inq]
        exact ⟨by omega, by omega⟩
      · have up := R.up v (by omega) e
        simp only [if_neg e, if_neg e2, if_neg hne]
        refine ⟨by omega, ?_⟩
        rw [if_neg (show ¬ par v = n by omega), way_cons R (by omega) e]
        have : (q ∈ v :: way par dep (par v)) ↔ q ∈ way par dep (par v) := by
          rw [List.mem_cons]
          exact ⟨fun z => z.resolve_left (Ne.symm e2), .inr⟩
        by_cases m : q ∈ way par dep (par v)
        · rw [if_pos (this.mpr m), if_pos m]; omega
        · rw [if_neg fun z => m (this.mp z), if_neg m]; omega
  · rw [h u v, R.edge u v]
    have upn : ∀ w, w < n → w ≠ p → par w < n := fun w h1 h2 => (R.up w h1 h2).1
    constructor
    · rintro (⟨⟨a1, a2, a3⟩, a4, a5⟩ | ⟨a1, a2⟩ | ⟨a1, a2⟩ | ⟨a1, a2⟩ | ⟨a1, a2⟩)
      · refine ⟨by omega, by omega, ?_⟩
        rcases a3 with ⟨c1, c2⟩ | ⟨c1, c2⟩
        · refine .inl ⟨by omega, ?_⟩
          rw [if_neg c1, if_neg (fun z => a5 ⟨z, by rw [← c2, z, hb]⟩)]
          exact c2
        · refine .inr ⟨by omega, ?_⟩
          rw [if_neg c1, if_neg (fun z => a4 ⟨by rw [← c2, z, hb], z⟩)]
          exact c2
      · subst a1 a2
        exact ⟨by omega, by omega, .inl ⟨by omega, by simp⟩⟩
      · subst a1 a2
        exact ⟨by omega, by omega, .inr ⟨by omega, by simp⟩⟩
      · subst a1 a2
        exact ⟨by omega, by omega, .inl ⟨by omega, by rw [if_neg ne, if_pos rfl]⟩⟩
      · subst a1 a2
        exact ⟨by omega, by omega, .inr ⟨by omega, by rw [if_neg ne, if_pos rfl]⟩⟩
    · have key : ∀ u v, u < n + 1 → v < n + 1 → u ≠ n → (if u = p then n else if u = q then n else par u) = v → ((u < n ∧ v < n ∧ par u = v ∧ u ≠ p ∧ u ≠ q) ∨ (u = p ∧ v = n) ∨ (u = q ∧ v = n)) := by
        intro u v h1 h2 h3 h4
        by_cases e : u = p
        · rw [if_pos e] at h4
          exact .inr (.inl ⟨e, h4.symm⟩)
        · rw [if_neg e] at h4
          by_cases e2 : u = q
          · rw [if_pos e2] at h4
            exact .inr (.inr ⟨e2, h4.symm⟩)
          · rw [if_neg e2] at h4
            have := upn u (by omega) e
            exact .inl ⟨by omega, by omega, h4, e, e2⟩
      rintro ⟨a1, a2, ⟨c1, c2⟩ | ⟨c1, c2⟩⟩
      · rcases key u v a1 a2 c1 c2 with ⟨k1, k2, k3, k4, k5⟩ | k | k
        · exact .inl ⟨⟨k1, k2, .inl ⟨k4, k3⟩⟩, fun z => k4 z.1, fun z => k5 z.1⟩
        · exact .inr (.inl k)
        · exact .inr (.inr (.inr (.inl k)))
      · rcases key v u a2 a1 c1 c2 with ⟨k1, k2, k3, k4, k5⟩ | k | k
        · exact .inl ⟨⟨k2, k1, .inr ⟨k4, k3⟩⟩, fun z => k5 z.2, fun z => k4 z.2⟩
        · exact .inr (.inr (.inl ⟨k.2, k.1⟩))
        · exact .inr (.inr (.inr (.inr ⟨k.2, k.1⟩)))
/-- a tie put through a new place leaves a tree -/
theorem isTree_split {n : Nat} {adj adj' : Nat → Nat → Prop} (T : IsTree n adj) {p q : Nat} (hp : p < n) (ha : adj p q) (ne : p ≠ q)
    (h : ∀ u v, adj' u v ↔ ((adj u v ∧ ¬(u = p ∧ v = q) ∧ ¬(u = q ∧ v = p)) ∨ (u = p ∧ v = n) ∨ (u = n ∧ v = p) ∨ (u = q ∧ v = n) ∨ (u = n ∧ v = q))) : IsTree (n + 1) adj' := fun r hr => by
  by_cases e : r = n
  · subst e
    obtain ⟨par, dep, R⟩ := T p hp
    rcases ((R.edge p q).mp ha).2.2 with z | z
    · exact absurd rfl z.1
    · exact ⟨_, _, split_root R ((R.edge p q).mp ha).2.1 (Ne.symm ne) z.2 h⟩
  · obtain ⟨par, dep, R⟩ := T r (by omega)
    rcases ((R.edge p q).mp ha).2.2 with z | z
    · refine ⟨_, _, split_down R ((R.edge p q).mp ha).1 z.1 z.2 fun u v => (h u v).trans ?_⟩
      constructor
      · rintro (⟨a, b, c⟩ | z | z | z | z)
        · exact .inl ⟨a, c, b⟩
        · exact .inr (.inr (.inr (.inl z)))
        · exact .inr (.inr (.inr (.inr z)))
        · exact .inr (.inl z)
        · exact .inr (.inr (.inl z))
      · rintro (⟨a, b, c⟩ | z | z | z | z)
        · exact .inl ⟨a, c, b⟩
        · exact .inr (.inr (.inr (.inl z)))
        · exact .inr (.inr (.inr (.inr z)))
        · exact .inr (.inl z)
        · exact .inr (.inr (.inl z))
    · exact ⟨_, _, split_down R ((R.edge p q).mp ha).2.1 z.1 z.2 h⟩
end TM
/-! trees blown up -/
namespace Y
theorem tree_ties {t : Tr} (T : Tree t) : t.ties.length ≤ 16 := by
  by_cases hn : 0 < t.n
  · obtain ⟨par, dep, R⟩ := T.tree 0 hn
    obtain ⟨S, G, hS⟩ := grow_all R
    have p := (MT.edg_perm T R G hS).length_eq
    have lS : S.length = t.n := by rw [(MT.S_perm G hS).length_eq, List.length_range]
    have := List.length_filter_le (fun v => decide (v ≠ 0)) S
    have few := T.few
    unfold MT.edg at p
    rw [List.length_map, List.length_map, List.length_reverse] at p
    omega
  · cases h : t.ties with
    | nil => simp
    | cons x r =>
      have := T.inb x (by rw [h]; simp)
      omega
/-- weights and ties that make a tree of one place more -/
theorem made_more {t : Tr} (T : Tree t) (h16 : t.n + 1 ≤ 16) {ws : List Int} (hw : ws.length = t.n + 1) {ties : List (Nat × Nat)} (hl : ties.length ≤ 100) (lt : ∀ p ∈ ties, p.1 < p.2 ∧ p.2 < t.n + 1) (nd : ties.Nodup) (tr : TM.IsTree (t.n + 1) (adjT ties)) : Tree (madeT ws ties) ∧ (madeT ws ties).n = t.n + 1 := by
  have e : (madeT ws ties).ties = sortP ties := by
    show sortP (ties.map fun p => mk2 p.1 p.2) = _
    rw [mk2_id fun p hp => (lt p hp).1]
  have pm := sortP_perm ties
  have hn' : (madeT ws ties).n = t.n + 1 := hw
  refine ⟨⟨⟨by rw [hn']; exact h16, by rw [e, pm.length_eq]; exact hl, fun p hp => ?_, by rw [e]; exact asc_of (sortP_sorted ties) (pm.nodup_iff.mpr nd)⟩, ?_⟩, hn'⟩
  · rw [e] at hp
    rw [hn']
    exact lt p (pm.mem_iff.mp hp)
  · rw [e, hn']
    exact TM.isTree_congr (fun u v => (adjT_perm pm u v).symm) tr
theorem ties_nd {t : Tr} (T : Okt t) : t.ties.Nodup := T.asc.imp fun h e => by
  subst e; unfold lexL at h; omega
/-- a new place at p -/
theorem at_tree {t : Tr} (T : Tree t) (h16 : t.n + 1 ≤ 16) {p : Nat} (hp : p < t.n) {ws : List Int} (hw : ws.length = t.n + 1) : Tree (madeT ws (t.ties ++ [(p, t.n)])) ∧ (madeT ws (t.ties ++ [(p, t.n)])).n = t.n + 1 := by
  have few := tree_ties T
  refine made_more T h16 hw (by rw [List.length_append]; simp; omega) (fun q hq => ?_) ?_ ?_
  · rcases List.mem_append.mp hq with m | m
    · have := T.inb q m
      omega
    · simp at m
      subst m
      exact ⟨hp, by simp only; omega⟩
  · rw [List.nodup_append]
    refine ⟨ties_nd T.toOkt, by simp, fun a ha b hb e => ?_⟩
    simp at hb
    subst hb e
    have := T.inb _ ha
    simp only at this
    omega
  · refine TM.isTree_leaf T.tree hp fun u v => ?_
    unfold adjT
    simp only [List.mem_append, List.mem_singleton, Prod.mk.injEq]
    constructor
    · rintro ((x | x) | (x | x))
      · exact .inl (.inl x)
      · exact .inr (.inl x)
      · exact .inl (.inr x)
      · exact .inr (.inr ⟨x.2, x.1⟩)
    · rintro ((x | x) | x | x)
      · exact .inl (.inl x)
      · exact .inr (.inl x)
      · exact .inl (.inr x)
      · exact .inr (.inr ⟨x.2, x.1⟩)
/-- a new place on the tie of i and j -/
theorem on_tree {t : Tr} (T : Tree t) (h16 : t.n + 1 ≤ 16) {i j : Nat} (hij : (i, j) ∈ t.ties) {ws : List Int} (hw : ws.length = t.n + 1) :
    Tree (madeT ws ((t.ties.filter fun p => decide (p ≠ (i, j))) ++ [(i, t.n), (j, t.n)])) ∧ (madeT ws ((t.ties.filter fun p => decide (p ≠ (i, j))) ++ [(i, t.n), (j, t.n)])).n = t.n + 1 := by
  have few := tree_ties T
  have lij := T.inb _ hij
  simp only at lij
  have lf := List.length_filter_le (fun p => decide (p ≠ (i, j))) t.ties
  refine made_more T h16 hw (by rw [List.length_append]; show _ + 2 ≤ 100; omega) (fun q hq => ?_) ?_ ?_
  · rcases List.mem_append.mp hq with m | m
    · have := T.inb q (List.mem_filter.mp m).1
      omega
    · simp at m
      rcases m with m | m <;> subst m <;> simp only <;> omega
  · rw [List.nodup_append]
    refine ⟨(ties_nd T.toOkt).filter _, ?_, fun a ha b hb e => ?_⟩
    · simp
      omega
    · have := T.inb a (List.mem_filter.mp ha).1
      subst e
      simp at hb
      rcases hb with m | m <;> subst m <;> simp only at this <;> omega
  · refine TM.isTree_split T.tree (p := i) (q := j) (by omega) (.inl hij) (by omega) fun u v => ?_
    unfold adjT
    simp only [List.mem_append, List.mem_filter, decide_eq_true_eq, List.mem_cons, List.not_mem_nil, or_false, Prod.mk.injEq, ne_eq]
    constructor
    · rintro ((⟨x, y⟩ | x | x) | (⟨x, y⟩ | x | x))
      · refine .inl ⟨.inl x, y, fun z => ?_⟩
        rw [z.1, z.2] at x
        have := T.inb _ x
        simp only at this
        omega
      · exact .inr (.inl x)
      · exact .inr (.inr (.inr (.inl x)))
      · refine .inl ⟨.inr x, fun z => ?_, fun z => y ⟨z.2, z.1⟩⟩
        rw [z.1, z.2] at x
        have := T.inb _ x
        simp only at this
        omega
      · exact .inr (.inr (.inl ⟨x.2, x.1⟩))
      · exact .inr (.inr (.inr (.inr ⟨x.2, x.1⟩)))
    · rintro (⟨x | x, y, z⟩ | x | x | x | x)
      · exact .inl (.inl ⟨x, y⟩)
      · exact .inr (.inl ⟨x, fun w => z ⟨w.2, w.1⟩⟩)
      · exact .inl (.inr (.inl x))
      · exact .inr (.inr (.inl ⟨x.2, x.1⟩))
      · exact .inl (.inr (.inr x))
      · exact .inr (.inr (.inr ⟨x.2, x.1⟩))
end Y
namespace Y
open PySem PySem.Spec PyProof.Rows L2
def atW (t : Tr) (p : Nat) : List Int := ((List.range t.n).map fun k => MT.wt t k - (if k = p then 1 else 0)) ++ [-1]
def sp_law_at (K : PySem.W.Frag) : Sp := fun vs H Q _ => ∃ L tv t, ∃ p : Nat, vs = [tv, .int p] ∧ Trk H L ∧ Tree t ∧ Dp K (wo H L) tv (trD t) ∧ Ret K H L (trD (madeT (atW t p) (t.ties ++ [(p, t.n)]))) Q
end Y
namespace Y
open PySem PySem.Spec PyProof.Rows L2
/-- as lcw, told besides that the list is new: for elements that stand already -/
theorem lcwF {K : PySem.W.Frag} {J : It} {n : Nat} {G : Hp → Prop} {Yt : Nat → Hp → V → Hp → Prop} (w : Walk J n G Yt) {g : TG} {tt : TT} {te : TE} {vs : List Nat} {σ : L2.St} {H1 : Hp} {Q : Addr → Hp → Prop} (L : List Addr) (f : Nat → Option PyData)
    (hn : n ≤ 100000) (hT : Trk H1 L) (hG : ∀ H', Same H1 H' → G H')
    (hs : ∀ D i x H H' (R : VK) (R0 : Hp → Prop), i < n → H1 D = none → Same H1 H → Trk H (D :: L) → Yt i H x H' → (∀ y H4 d, f i = some d → Same H H4 → Dp K (wo H4 (D :: L)) y d → R y H4) → (∀ H4, f i = none → Same H H4 → R0 H4) →
      g x (wipe σ vs) H' fun σ2 H2 => wipe σ2 vs = wipe σ vs ∧ tt σ2 H2 fun b H3 => if b = true then te σ2 H3 R else R0 H3)
    (hd : ∀ D H' ys, H1 D = none → Same H1 H' → H' D = some (.lst ys) → DpAll K (wo H' (D :: L)) ys ((List.range n).filterMap f) → Q D H') :
    ∀ D, H1 D = none → ∃ W : Nat → Nat → Hp → Prop, (∃ m, W 0 m (upd H1 D (.lst []))) ∧ ∀ i m H, W i m H →
      (J.stop i H ∧ Q D H) ∨ (J.go i H ∧ ∃ Nx : Hp → Prop, (∀ H', Nx H' → ∃ m', m' < m ∧ W (i + 1) m' H') ∧ ∀ x H', J.yld i H x H' → g x (wipe σ vs) H' fun σ2 H2 => wipe σ2 vs = wipe σ vs ∧ tt σ2 H2 fun b H3 =>
        if b = true then te σ2 H3 fun y H4 => ∃ acc, H4 D = some (.lst acc) ∧ acc.length < sizeLine ∧ Nx (upd H4 D (.lst (acc ++ [y]))) else Nx H3) := by
  intro D hD
  refine lc_it w (fun i H => Same H1 H ∧ ∃ ys, H D = some (.lst ys) ∧ DpAll K (wo H (D :: L)) ys ((List.range i).filterMap f)) ⟨same_new hD _, [], upd_same, .nil⟩ (fun i H hi p => hG H p.1) ?_ ?_
  · rintro i x H H' hi ⟨s1, ys, hy, ha⟩ y
    have hT' : Trk H (D :: L) := (hT.mono s1).cons (by rw [hy]; simp)
    refine hs D i x H H' _ _ hi hD s1 hT' y ?_ ?_
    · intro y H4 d hf s2 hd
      refine ⟨ys, s2 D _ hy, ?_, same_mut (s1.trans s2) hD, ys ++ [y], upd_same, ?_⟩
      · have h1 := L2.DpAll.length ha
        have h2 := List.length_filterMap_le f (List.range i)
        rw [List.length_range] at h2
        have h3 : (100000 : Nat) < sizeLine := by decide
        omega
      · rw [List.range_succ, List.filterMap_append, List.filterMap_cons, hf, List.filterMap_nil, wo_upd_in (by simp)]
        exact (dpAll_mono (wo_mono s2) ha).snoc hd
    · intro H4 hf s2
      refine ⟨s1.trans s2, ys, s2 D _ hy, ?_⟩
      rw [List.range_succ, List.filterMap_append, List.filterMap_cons, hf, List.filterMap_nil, List.append_nil]
      exact dpAll_mono (wo_mono s2) ha
  · rintro H ⟨s1, ys, hy, ha⟩
    exact hd D H ys hD s1 hy ha
theorem eqv_pr (p q : Nat × Nat) : PyData.eqv (pr p) (pr q) = decide (p = q) := by
  obtain ⟨a, b⟩ := p
  obtain ⟨c, d⟩ := q
  unfold pr
  simp only [PyData.eqv, PyData.eqvAll, Bool.and_true]
  by_cases h1 : a = c <;> by_cases h2 : b = d <;> simp [h1, h2] <;> omega
theorem shaped_pr (p : Nat × Nat) : SeqAt.shaped (pr p) = true := by
  have := shaped_iT [(p.1 : Int), (p.2 : Int)]
  exact this
def onW (t : Tr) (i j : Nat) : List Int := ((List.range t.n).map fun k => MT.wt t k - (if inl [i, j] k then 1 else 0)) ++ [-1]
def sp_law_on (K : PySem.W.Frag) : Sp := fun vs H Q _ => ∃ L tv ev t, ∃ i j : Nat, vs = [tv, ev] ∧ Trk H L ∧ Tree t ∧ (i, j) ∈ t.ties ∧ Dp K (wo H L) tv (trD t) ∧ Dp K (wo H L) ev (pr (i, j)) ∧ Ret K H L (trD (madeT (onW t i j) ((t.ties.filter fun p => decide (p ≠ (i, j))) ++ [(i, t.n), (j, t.n)]))) Q
end Y
namespace Y
open PySem PySem.Spec PyProof.Rows L2
/-- the law's drawing out of a tuple -/
def sp_law_ofT (K : PySem.W.Frag) : Sp := fun vs H Q _ => ∃ L m c cs b sv ds, vs = [.ref m, sv] ∧ m ∈ L ∧ MAt H m c cs b ∧ b < 1000000 ∧ Dp K (wo H L) sv (.tuple ds) ∧ 0 < ds.length ∧ ds.length < 1000 ∧
  ∀ d v H', d ∈ ds → Dp K (wo H' L) v d → SameM m H H' → MAt H' m c cs (b + 1) → Q v H'
end Y
namespace Y
open PySem PySem.Spec PyProof.Rows L2
/-- a tree whose weights are not below -60 -/
structure B60 (t : Tr) : Prop extends Tree t where
  w60 : ∀ x ∈ t.ws, -60 ≤ x ∧ x ≤ 1000
def sp_law_blown (K : PySem.W.Frag) : Sp := fun vs H Q _ => ∃ L m c cs b tv t, ∃ count : Nat, vs = [.ref m, tv, .int count] ∧ m ∈ L ∧ Trk H L ∧ MAt H m c cs b ∧ B60 t ∧ t.n + count ≤ 16 ∧ 1 ≤ t.n + count ∧ b + 100 < 1000000 ∧ Dp K (wo H L) tv (trD t) ∧
  ∀ t' v H', B60 t' → SameM m H H' → MAt H' m c cs (b + 100) → Dp K (wo H' L) v (trD t') → Q v H'
end Y
/-! trees below zero, also blown up -/
namespace MT
open Y
theorem way_kid {n : Nat} {adj : Nat → Nat → Prop} {r : Nat} {par dep : Nat → Nat} (R : TM.Rooted n adj r par dep) {v : Nat} : ∀ d u, u < n → dep u = d → v ∈ TM.way par dep u → u ≠ v → ∃ c, c < n ∧ c ≠ r ∧ par c = v ∧ c ∈ TM.way par dep u
  | 0, u, hu, hd, m, ne => by
    have e : u = r := Classical.byContradiction fun z => by have := (R.up u hu z).2; omega
    subst e
    rw [way_root R] at m
    simp at m
    exact absurd m.symm ne
  | d + 1, u, hu, hd, m, ne => by
    have e : u ≠ r := fun e => by rw [e, R.dep0] at hd; omega
    obtain ⟨h1, h2⟩ := R.up u hu e
    rw [way_cons R hu e] at m ⊢
    rcases List.mem_cons.mp m with z | z
    · exact absurd z.symm ne
    · by_cases ep : par u = v
      · exact ⟨u, hu, e, ep, by simp⟩
      · obtain ⟨c, c1, c2, c3, c4⟩ := way_kid R d (par u) h1 (by omega) z ep
        exact ⟨c, c1, c2, c3, List.mem_cons_of_mem _ c4⟩
theorem way_top {n : Nat} {adj : Nat → Nat → Prop} {r : Nat} {par dep : Nat → Nat} (R : TM.Rooted n adj r par dep) : ∀ d u, u < n → dep u = d → r ∈ TM.way par dep u
  | 0, u, hu, hd => by
    have e : u = r := Classical.byContradiction fun z => by have := (R.up u hu z).2; omega
    subst e
    exact way_self R u
  | d + 1, u, hu, hd => by
    have e : u ≠ r := fun e => by rw [e, R.dep0] at hd; omega
    obtain ⟨h1, h2⟩ := R.up u hu e
    rw [way_cons R hu e]
    exact List.mem_cons_of_mem _ (way_top R d (par u) h1 (by omega))
theorem no_ties {t : Tr} (O : Okt t) (h : t.n = 0) : t.ties = [] := by
  cases e : t.ties with
  | nil => rfl
  | cons x r => have := O.inb x (by rw [e]; simp); omega
theorem pos_nil {t : Tr} (O : Okt t) (h : t.n = 0) : Pos t := fun g => by
  unfold LW
  rw [no_ties O h, h]
  show 0 < pd _ (List.range 0)
  simp [pd]
section
variable {t : Tr} {r : Nat} {par dep : Nat → Nat} {D N : Nat → Int}
theorem pos_of (T : Tree t) (R : TM.Rooted t.n (adjT t.ties) r par dep) (h : DN t.n (fun v => -wt t v) (kids t.ties r par) D N) (hp : ∀ v, v < t.n → 0 < D v) : Pos t := fun g => by
  have hk : ∀ v, v < t.n → ∀ c ∈ kids t.ties r par v, c < t.n ∧ c ≠ r ∧ par c = v := fun v hv c hc => (kids_mem R hv c).mp hc
  obtain ⟨D', N', h'⟩ := dg_made R (fun v => -wt t v) (kids t.ties r par) g hk
  obtain ⟨S, G, hS⟩ := grow_all R
  rw [← dg_is T R h' G hS]
  have := TM.dep_lt R R.root
  exact (pos_all R hk (dn_dg h) h' hp t.n r R.root (by omega)).1
theorem big_fold {l : List Nat} (a : Int) (h : ∀ c ∈ l, 0 < N c ∧ N c ≤ D c) : 0 < (fk D N a l).2 ∧ (a - l.length) * (fk D N a l).2 ≤ (fk D N a l).1 := by
  unfold fk
  have : ∀ (l : List Nat), (∀ c ∈ l, 0 < N c ∧ N c ≤ D c) → ∀ (s : Int × Int) (b : Int), 0 < s.2 → b * s.2 ≤ s.1 → 0 < (l.foldl (kf D N) s).2 ∧ (b - l.length) * (l.foldl (kf D N) s).2 ≤ (l.foldl (kf D N) s).1 := by
    intro l
    induction l with
    | nil => intro _ s b h1 h2; exact ⟨h1, by simpa using h2⟩
    | cons c l ih =>
      intro h s b h1 h2
      obtain ⟨c1, c2⟩ := h c (by simp)
      have c3 : 0 < D c := Int.lt_of_lt_of_le c1 c2
      rw [List.foldl_cons]
      have := ih (fun d m => h d (by simp [m])) (kf D N s c) (b - 1) (Int.mul_pos h1 c3) (by
        unfold kf
        simp only
        have m1 := Int.mul_le_mul_of_nonneg_right h2 (Int.le_of_lt c3)
        have m2 := Int.mul_le_mul_of_nonneg_left c2 (Int.le_of_lt h1)
        have e : (b - 1) * (s.2 * D c) = b * s.2 * D c - s.2 * D c := by grind
        omega)
      refine ⟨this.1, ?_⟩
      rw [show b - ((c :: l).length : Nat) = b - 1 - (l.length : Nat) by rw [List.length_cons]; omega]
      exact this.2
  exact this l h _ _ (by simp) (by simp)
theorem big_all (T : Tree t) (R : TM.Rooted t.n (adjT t.ties) r par dep) (h : DN t.n (fun v => -wt t v) (kids t.ties r par) D N) (hw : ∀ v, v < t.n → wt t v ≤ -17) : ∀ k v, v < t.n → t.n ≤ dep v + k → 0 < N v ∧ N v ≤ D v
  | 0, v, hv, hd => by have := TM.dep_lt R hv; omega
  | k + 1, v, hv, hd => by
    have kid : ∀ c ∈ kids t.ties r par v, 0 < N c ∧ N c ≤ D c := fun c hc => by
      obtain ⟨h1, h2, h3⟩ := (kids_mem R hv c).mp hc
      have := (R.up c h1 h2).2
      rw [h3] at this
      exact big_all T R h hw k c h1 (by omega)
    obtain ⟨q1, q2⟩ := big_fold (-wt t v) kid
    have e := h v hv
    rw [← e] at q1 q2
    simp only at q1 q2
    have lk : (kids t.ties r par v).length ≤ 16 := Nat.le_trans (List.length_filter_le _ _) (nb_le T.toOkt v)
    have := hw v hv
    refine ⟨q1, Int.le_trans ?_ q2⟩
    have := Int.mul_le_mul_of_nonneg_right (show (1 : Int) ≤ -wt t v - (kids t.ties r par v).length by omega) (Int.le_of_lt q1)
    omega
end
theorem pos_big {t : Tr} (T : Tree t) (hw : ∀ x ∈ t.ws, x ≤ -17) : Pos t := by
  by_cases hn : 0 < t.n
  · obtain ⟨par, dep, R⟩ := T.tree 0 hn
    obtain ⟨D, N, h⟩ := dn_made R (fun v => -wt t v) (kids t.ties 0 par) fun v hv c hc => (kids_mem R hv c).mp hc
    refine pos_of T R h fun v hv => ?_
    have := big_all T R h (fun v hv => hw _ (List.mem_of_getElem? (w_at hv))) t.n v hv (by omega)
    omega
  · exact pos_nil T.toOkt (by omega)
/-! ### blown up -/
theorem M_WV {V : List Nat} {W W' B : Nat → Int} (h : ∀ x ∈ V, W x = W' x) : ∀ (E : List (Nat × Nat)) (g : Nat → Bool), M V W B E g = M V W' B E g
  | [], g => pd_congr fun x m => by simp only [h x m]
  | p :: E, g => by rw [M_cons, M_cons, M_WV h E, M_WV h E]
theorem M_inc {V : List Nat} {W : Nat → Int} {p : Nat} (nd : V.Nodup) (hp : p ∈ V) (E : List (Nat × Nat)) (g : Nat → Bool) : M V (up W p (W p + 1)) one E g = M V W one E g + (bif g p then 0 else M V W one E (ins g p)) := by
  have := M_lin (W := W) (B := one) (c := 1) (d := -1) (E := E) (g := g) nd hp
  have e1 : up one p (one p * 1) = one := by
    funext y; unfold up; split <;> simp
  have e2 : W p * 1 - -1 * one p = W p + 1 := by show W p * 1 - -1 * 1 = _; omega
  rw [e1, e2] at this
  rw [this]
  cases g p <;> simp <;> omega
theorem made_LW {ws : List Int} {ties : List (Nat × Nat)} (g : Nat → Bool) : LW (madeT ws ties) g = M (List.range ws.length) (fun v => -ws.getD v 0) one ties g := by
  unfold LW
  have e : (madeT ws ties).ties = sortP (ties.map fun p => mk2 p.1 p.2) := rfl
  rw [e, M_perm (sortP_perm _), M_turn (fun p : Nat × Nat => mk2 p.1 p.2) fun p => mk2_or p.1 p.2]
  rfl
theorem off_new {t : Tr} (O : Okt t) : Off t.n t.ties := fun p hp => by
  have := O.inb p hp
  omega
theorem at_LW {t : Tr} (T : Tree t) {p : Nat} (hp : p < t.n) (g : Nat → Bool) : LW (madeT (atW t p) (t.ties ++ [(p, t.n)])) g = LW t g + (if g t.n && !g p then LW t (ins g p) else 0) := by
  have O := T.toOkt
  have lw : (atW t p).length = t.n + 1 := by unfold atW; simp
  have w1 : ∀ v, v < t.n → (atW t p).getD v 0 = wt t v - (if v = p then 1 else 0) := fun v hv => by
    unfold atW
    rw [List.getD_eq_getElem?_getD, List.getElem?_append_left (by simpa using hv)]
    simp [hv]
  have w2 : (atW t p).getD t.n 0 = -1 := by
    unfold atW
    rw [List.getD_eq_getElem?_getD, List.getElem?_append_right (by simp)]
    simp
  have nV : t.n ∉ List.range t.n := by simp
  rw [made_LW, lw, M_perm (List.perm_append_comm (l₁ := t.ties) (l₂ := [(p, t.n)])), List.range_succ]
  show M _ _ _ ((p, t.n) :: t.ties) g = _
  have eW : ∀ (g : Nat → Bool), M (List.range t.n) (fun v => -(atW t p).getD v 0) one t.ties g = LW t g + (bif g p then 0 else LW t (ins g p)) := fun g => by
    rw [show LW t g = M (List.range t.n) (fun v => -wt t v) one t.ties g from rfl, show LW t (ins g p) = M (List.range t.n) (fun v => -wt t v) one t.ties (ins g p) from rfl, ← M_inc List.nodup_range (List.mem_range.mpr hp)]
    refine M_WV (fun x hx => ?_) _ _
    rw [w1 x (List.mem_range.mp hx)]
    unfold up
    by_cases e : x = p
    · subst e; simp; omega
    · simp [e]
  rw [M_cons, M_snoc (off_new O), M_snoc (off_new O), M_off nV (off_new O), eW, eW, w2]
  have i1 : ins g p p = true := by simp [ins_at]
  have hne : decide (t.n = p) = false := decide_eq_false (by omega)
  cases a : g p <;> cases b : g t.n <;> simp [a, b, i1, ins_at, hne] <;> omega
theorem at_pos {t : Tr} (T : Tree t) {p : Nat} (hp : p < t.n) (P : Pos t) : Pos (madeT (atW t p) (t.ties ++ [(p, t.n)])) := fun g => by
  rw [at_LW T hp]
  have := P g
  have := P (ins g p)
  split <;> omega
theorem on_LW {t : Tr} (T : Tree t) {i j : Nat} (hij : (i, j) ∈ t.ties) (g : Nat → Bool) : ∃ A : (Nat → Bool) → Int, (∀ g, LW t g = A g - (bif g i || g j then 0 else A (ins (ins g i) j))) ∧
    LW (madeT (onW t i j) ((t.ties.filter fun p => decide (p ≠ (i, j))) ++ [(i, t.n), (j, t.n)])) g = if g t.n then A g + (bif g i then 0 else A (ins g i)) + (bif g j then 0 else A (ins g j)) + (bif g i || g j then 0 else A (ins (ins g i) j)) else LW t g := by
  have O := T.toOkt
  have lij := O.inb _ hij
  simp only at lij
  obtain ⟨E0, hE0⟩ : ∃ E0, E0 = t.ties.filter fun p => decide (p ≠ (i, j)) := ⟨_, rfl⟩
  have pm : t.ties.Perm ((i, j) :: E0) := by
    have nt : t.ties.Nodup := ties_nd O
    refine (List.perm_ext_iff_of_nodup nt (List.nodup_cons.mpr ⟨by rw [hE0]; simp, by rw [hE0]; exact nt.filter _⟩)).mpr fun q => ?_
    rw [hE0, List.mem_cons, List.mem_filter, decide_eq_true_eq]
    constructor
    · intro h
      by_cases e : q = (i, j)
      · exact .inl e
      · exact .inr ⟨h, e⟩
    · rintro (h | h)
      · rw [h]; exact hij
      · exact h.1
  have off0 : Off t.n E0 := fun q hq => off_new O q (by rw [hE0] at hq; exact (List.mem_filter.mp hq).1)
  refine ⟨fun g => M (List.range t.n) (fun v => -wt t v) one E0 g, fun g => ?_, ?_⟩
  · unfold LW
    rw [M_perm pm, M_cons]
  · have lw : (onW t i j).length = t.n + 1 := by unfold onW; simp
    have w1 : ∀ v, v < t.n → (onW t i j).getD v 0 = wt t v - (if v = i ∨ v = j then 1 else 0) := fun v hv => by
      unfold onW
      rw [List.getD_eq_getElem?_getD, List.getElem?_append_left (by simpa using hv)]
      simp [hv, inl]
    have w2 : (onW t i j).getD t.n 0 = -1 := by
      unfold onW
      rw [List.getD_eq_getElem?_getD, List.getElem?_append_right (by simp)]
      simp
    have nV : t.n ∉ List.range t.n := by simp
    have eW : ∀ (g : Nat → Bool), M (List.range t.n) (fun v => -(onW t i j).getD v 0) one E0 g = M (List.range t.n) (fun v => -wt t v) one E0 g + (bif g i then 0 else M (List.range t.n) (fun v => -wt t v) one E0 (ins g i)) + (bif g j then 0 else M (List.range t.n) (fun v => -wt t v) one E0 (ins g j)) + (bif g i || g j then 0 else M (List.range t.n) (fun v => -wt t v) one E0 (ins (ins g i) j)) := fun g => by
      have nd := List.nodup_range (n := t.n)
      have mi : i ∈ List.range t.n := List.mem_range.mpr (by omega)
      have mj : j ∈ List.range t.n := List.mem_range.mpr lij.2
      have e1 : M (List.range t.n) (fun v => -(onW t i j).getD v 0) one E0 g = M (List.range t.n) (up (up (fun v => -wt t v) j (-wt t j + 1)) i ((up (fun v => -wt t v) j (-wt t j + 1)) i + 1)) one E0 g := by
        refine M_WV (fun x hx => ?_) _ _
        rw [w1 x (List.mem_range.mp hx)]
        unfold up
        by_cases ei : x = i
        · subst ei
          simp [show x ≠ j by omega]; omega
        · by_cases ej : x = j
          · subst ej; simp [ei]; omega
          · simp [ei, ej]
      rw [e1, M_inc nd mi, M_inc nd mj, M_inc nd mj]
      have hji : decide (j = i) = false := decide_eq_false (by omega)
      cases a : g i <;> cases b : g j <;> simp [a, b, ins_at, hji] <;> omega
    rw [made_LW, lw, M_perm (List.perm_append_comm (l₁ := t.ties.filter fun p => decide (p ≠ (i, j))) (l₂ := [(i, t.n), (j, t.n)])), List.range_succ, ← hE0]
    show M _ _ _ ((i, t.n) :: (j, t.n) :: E0) g = _
    rw [M_cons, M_cons, M_cons, M_snoc off0, M_snoc off0, M_snoc off0, M_off nV off0, M_off nV off0, eW, eW, eW, w2]
    have hni : decide (t.n = i) = false := decide_eq_false (by omega)
    have hnj : decide (t.n = j) = false := decide_eq_false (by omega)
    have hji : decide (j = i) = false := decide_eq_false (by omega)
    have hij' : decide (i = j) = false := decide_eq_false (by omega)
    have ec : ins (ins g j) i = ins (ins g i) j := ins_comm g j i
    have eL : LW t g = M (List.range t.n) (fun v => -wt t v) one E0 g - (bif g i || g j then 0 else M (List.range t.n) (fun v => -wt t v) one E0 (ins (ins g i) j)) := by
      unfold LW
      rw [M_perm pm, M_cons]
    rw [eL, ec]
    cases a : g i <;> cases b : g j <;> cases c : g t.n <;> simp [a, b, c, ins_at, hni, hnj, hji, hij'] <;> omega
theorem on_pos {t : Tr} (T : Tree t) {i j : Nat} (hij : (i, j) ∈ t.ties) (P : Pos t) : Pos (madeT (onW t i j) ((t.ties.filter fun p => decide (p ≠ (i, j))) ++ [(i, t.n), (j, t.n)])) := fun g => by
  obtain ⟨A, hA, e⟩ := on_LW T hij g
  rw [e]
  have p0 := P g
  have p1 := P (ins g i)
  have p2 := P (ins g j)
  have p3 := P (ins (ins g i) j)
  rw [hA] at p0 p1 p2 p3
  have lij := T.inb _ hij
  simp only at lij
  split
  · cases a : g i <;> cases b : g j <;> simp [a, b, ins_at] at p0 p1 p2 p3 ⊢ <;> omega
  · exact P g
end MT
/-! what is left without the way from the root -/
namespace MT
open Y
section
variable {t : Tr} {r : Nat} {par dep : Nat → Nat} {D N : Nat → Int}
/-- what hangs beside the way -/
def bsd (t : Tr) (r : Nat) (par : Nat → Nat) (D : Nat → Int) : Nat → Nat → Int
  | 0, _ => 1
  | d + 1, v => bsd t r par D d (par v) * pd D ((kids t.ties r par (par v)).filter fun c => decide (c ≠ v))
def bs (t : Tr) (r : Nat) (par dep : Nat → Nat) (D : Nat → Int) (v : Nat) : Int := bsd t r par D (dep v) v
theorem bs_root (R : TM.Rooted t.n (adjT t.ties) r par dep) : bs t r par dep D r = 1 := by
  unfold bs; rw [R.dep0]; rfl
theorem bs_up (R : TM.Rooted t.n (adjT t.ties) r par dep) {v : Nat} (hv : v < t.n) (ne : v ≠ r) : bs t r par dep D v = bs t r par dep D (par v) * pd D ((kids t.ties r par (par v)).filter fun c => decide (c ≠ v)) := by
  unfold bs; rw [(R.up v hv ne).2]; rfl
theorem way_par (R : TM.Rooted t.n (adjT t.ties) r par dep) {u : Nat} : ∀ d v, v < t.n → dep v = d → u ∈ TM.way par dep v → u ≠ r → par u ∈ TM.way par dep v
  | 0, v, hv, hd, m, ne => by
    have e : v = r := Classical.byContradiction fun z => by have := (R.up v hv z).2; omega
    subst e
    rw [way_root R] at m
    simp at m
    exact absurd m ne
  | d + 1, v, hv, hd, m, ne => by
    have e : v ≠ r := fun e => by rw [e, R.dep0] at hd; omega
    obtain ⟨h1, h2⟩ := R.up v hv e
    rw [way_cons R hv e] at m ⊢
    rcases List.mem_cons.mp m with z | z
    · rw [z]; exact List.mem_cons_of_mem _ (way_self R _)
    · exact List.mem_cons_of_mem _ (way_par R d (par v) h1 (by omega) z ne)
theorem way_dep (R : TM.Rooted t.n (adjT t.ties) r par dep) : ∀ d v, v < t.n → dep v = d → ∀ a ∈ TM.way par dep v, ∀ b ∈ TM.way par dep v, dep a = dep b → a = b
  | 0, v, hv, hd, a, ha, b, hb, _ => by
    have e : v = r := Classical.byContradiction fun z => by have := (R.up v hv z).2; omega
    subst e
    rw [way_root R] at ha hb
    simp at ha hb
    rw [ha, hb]
  | d + 1, v, hv, hd, a, ha, b, hb, e0 => by
    have e : v ≠ r := fun e => by rw [e, R.dep0] at hd; omega
    obtain ⟨h1, h2⟩ := R.up v hv e
    have lt := TM.upto_lt R (dep (par v)) (par v) h1 rfl
    rw [way_cons R hv e] at ha hb
    rcases List.mem_cons.mp ha with za | za
    · rcases List.mem_cons.mp hb with zb | zb
      · rw [za, zb]
      · have := (lt b zb).2
        rw [za] at e0
        omega
    · rcases List.mem_cons.mp hb with zb | zb
      · have := (lt a za).2
        rw [zb] at e0
        omega
      · exact way_dep R d (par v) h1 (by omega) a za b zb e0
theorem pd_split {f : Nat → Int} {c : Nat} : ∀ {l : List Nat}, l.Nodup → c ∈ l → pd f l = f c * pd f (l.filter fun x => decide (x ≠ c))
  | [], _, m => by simp at m
  | x :: l, nd, m => by
    have nd' := List.nodup_cons.mp nd
    rw [pd_cons, List.filter_cons]
    by_cases e : x = c
    · subst e
      have : (l.filter fun y => decide (y ≠ x)) = l := List.filter_eq_self.mpr fun y hy => decide_eq_true fun z => nd'.1 (by rw [← z]; exact hy)
      simp only [ne_eq, not_true_eq_false, decide_false, Bool.false_eq_true, if_false]
      rw [show (l.filter fun y => decide (¬ y = x)) = l from this]
    · have m' : c ∈ l := by
        rcases List.mem_cons.mp m with z | z
        · exact absurd z.symm e
        · exact z
      rw [pd_split nd'.2 m']
      simp only [ne_eq, e, not_false_eq_true, decide_true, if_true]
      rw [pd_cons]; grind
theorem left_on (T : Tree t) (R : TM.Rooted t.n (adjT t.ties) r par dep) (h : DN t.n (fun v => -wt t v) (kids t.ties r par) D N) {v : Nat} (hv : v < t.n) : LW t (on par dep v) = bs t r par dep D v * pd D (kids t.ties r par v) := by
  have hk : ∀ v, v < t.n → ∀ c ∈ kids t.ties r par v, c < t.n ∧ c ≠ r ∧ par c = v := fun v hv c hc => (kids_mem R hv c).mp hc
  obtain ⟨D', N', h'⟩ := dg_made R (fun v => -wt t v) (kids t.ties r par) (on par dep v) hk
  obtain ⟨S, G, hS⟩ := grow_all R
  have onW : ∀ {x}, on par dep v x = true ↔ x ∈ TM.way par dep v := decide_eq_true_iff
  have offW : ∀ {x}, on par dep v x = false ↔ x ∉ TM.way par dep v := decide_eq_false_iff_not
  have off : ∀ k u, u < t.n → t.n ≤ dep u + k → u ∉ TM.way par dep v → D' u = D u ∧ N' u = N u := by
    intro k
    induction k with
    | zero => intro u hu hd; have := TM.dep_lt R hu; omega
    | succ k ih =>
      intro u hu hd nm
      have kid : ∀ c ∈ kids t.ties r par u, D' c = D c ∧ N' c = N c := fun c hc => by
        obtain ⟨h1, h2, h3⟩ := hk u hu c hc
        have := (R.up c h1 h2).2
        rw [h3] at this
        refine ih c h1 (by omega) fun m => nm ?_
        rw [← h3]
        exact way_par R _ v hv rfl m h2
      have e1 := h'.d u hu
      have e2 := h'.n u hu
      rw [offW.mpr nm] at e1 e2
      have f := h u hu
      rw [e1, e2]
      unfold xw
      simp only [Bool.false_eq_true, if_false]
      rw [fk_congr _ kid, ← f, pd_congr fun c hc => (kid c hc).1]
      refine ⟨rfl, ?_⟩
      rw [← fk_two D N (-wt t u), ← f]
  have offK : ∀ u, u < t.n → ∀ c ∈ kids t.ties r par u, c ∉ TM.way par dep v → D' c = D c := fun u hu c hc nm => (off t.n c (hk u hu c hc).1 (by omega) nm).1
  have key : ∀ d u, u < t.n → dep u = d → u ∈ TM.way par dep v → bs t r par dep D u * D' u = LW t (on par dep v) := by
    intro d
    induction d with
    | zero =>
      intro u hu hd m
      have e : u = r := Classical.byContradiction fun z => by have := (R.up u hu z).2; omega
      subst e
      rw [bs_root R, dg_is T R h' G hS]
      omega
    | succ d ih =>
      intro u hu hd m
      have ne : u ≠ r := fun e => by rw [e, R.dep0] at hd; omega
      obtain ⟨h1, h2⟩ := R.up u hu ne
      have mp := way_par R _ v hv rfl m ne
      have q := ih (par u) h1 (by omega) mp
      have e1 := h'.d (par u) h1
      rw [onW.mpr mp] at e1
      unfold xw at e1
      simp only [if_true] at e1
      have hin : u ∈ kids t.ties r par (par u) := (kids_mem R h1 u).mpr ⟨hu, ne, rfl⟩
      rw [pd_split (kids_nodup T.toOkt r par (par u)) hin] at e1
      have e2 : pd D' ((kids t.ties r par (par u)).filter fun c => decide (c ≠ u)) = pd D ((kids t.ties r par (par u)).filter fun c => decide (c ≠ u)) := pd_congr fun c hc => by
        obtain ⟨c1, c2⟩ := List.mem_filter.mp hc
        have c2 := of_decide_eq_true c2
        refine offK _ h1 c c1 fun mc => c2 ?_
        obtain ⟨k1, k2, k3⟩ := hk _ h1 c c1
        refine way_dep R _ v hv rfl c mc u m ?_
        rw [(R.up c k1 k2).2, k3, h2]
      rw [bs_up R hu ne, ← q, e1, e2]
      grind
  have fin := key _ v hv rfl (way_self R v)
  have e1 := h'.d v hv
  rw [onW.mpr (way_self R v)] at e1
  unfold xw at e1
  simp only [if_true] at e1
  have e2 : pd D' (kids t.ties r par v) = pd D (kids t.ties r par v) := pd_congr fun c hc => offK v hv c hc fun mc => by
    obtain ⟨k1, k2, k3⟩ := hk v hv c hc
    have d1 := (R.up c k1 k2).2
    have := (TM.upto_lt R _ v hv rfl c mc).2
    rw [k3] at d1
    omega
  rw [← fin, e1, e2]
theorem pd_le {f : Nat → Int} {c : Nat} : ∀ {l : List Nat}, (∀ x ∈ l, (f x).natAbs ≤ 2 ^ c) → (pd f l).natAbs ≤ 2 ^ (c * l.length)
  | [], _ => by simp [pd]
  | x :: l, h => by
    rw [pd_cons]
    have := mul_le (h x (by simp)) (pd_le (l := l) fun y m => h y (by simp [m]))
    rw [List.length_cons, Nat.mul_add, Nat.mul_one, Nat.add_comm]
    exact this
theorem bs_le (B : Bt t) (R : TM.Rooted t.n (adjT t.ties) r par dep) (bd : ∀ u, u < t.n → (D u).natAbs ≤ 2 ^ 200) : ∀ d v, v < t.n → dep v = d → (bs t r par dep D v).natAbs ≤ 2 ^ (3200 * d)
  | 0, v, hv, hd => by
    have e : v = r := Classical.byContradiction fun z => by have := (R.up v hv z).2; omega
    subst e
    rw [bs_root R]
    exact Nat.one_le_two_pow
  | d + 1, v, hv, hd => by
    have e : v ≠ r := fun e => by rw [e, R.dep0] at hd; omega
    obtain ⟨h1, h2⟩ := R.up v hv e
    rw [bs_up R hv e, Nat.mul_add]
    refine mul_le (bs_le B R bd d (par v) h1 (by omega)) (Nat.le_trans (pd_le (c := 200) fun x hx => bd x ((kids_mem R h1 x).mp (List.mem_filter.mp hx).1).1) (Nat.pow_le_pow_right (by omega) ?_))
    have l1 := List.length_filter_le (fun c => decide (c ≠ v)) (kids t.ties r par (par v))
    have l2 : (kids t.ties r par (par v)).length ≤ 16 := Nat.le_trans (List.length_filter_le _ _) (nb_le B.toOkt (par v))
    have := Nat.mul_le_mul_left 200 (Nat.le_trans l1 l2)
    omega
end
end MT
/-! a part found by growing -/
namespace MT
open Y
section
variable {t : Tr} {g : Nat → Bool}
/-- the places that are left -/
def lft (t : Tr) (g : Nat → Bool) : List Nat := (List.range t.n).filter fun k => !g k
theorem lft_mem {v : Nat} : v ∈ lft t g ↔ v < t.n ∧ g v = false := by
  unfold lft
  rw [List.mem_filter, List.mem_range, Bool.not_eq_true']
theorem lft_asc : (lft t g).Pairwise (· < ·) := List.pairwise_lt_range.filter _
def gro (t : Tr) (g : Nat → Bool) (P : List Nat) : List Nat := (lft t g).filter fun k => inl P k || !((nb t.ties k).filter (inl P)).isEmpty
def groN (t : Tr) (g : Nat → Bool) (x : Nat) : Nat → List Nat
  | 0 => [x]
  | k + 1 => gro t g (groN t g x k)
theorem gro_mem {P : List Nat} {v : Nat} : v ∈ gro t g P ↔ v ∈ lft t g ∧ (v ∈ P ∨ ∃ u ∈ P, adjT t.ties v u) := by
  unfold gro
  rw [List.mem_filter, Bool.or_eq_true, inl_mem, Bool.not_eq_true', List.isEmpty_eq_false_iff_exists_mem]
  refine and_congr_right fun _ => or_congr_right ?_
  constructor
  · rintro ⟨u, hu⟩
    obtain ⟨h1, h2⟩ := List.mem_filter.mp hu
    exact ⟨u, inl_mem.mp h2, nb_mem.mp h1⟩
  · rintro ⟨u, h1, h2⟩
    exact ⟨u, List.mem_filter.mpr ⟨nb_mem.mpr h2, inl_mem.mpr h1⟩⟩
theorem adj_sym {ties : List (Nat × Nat)} {u v : Nat} (h : adjT ties u v) : adjT ties v u := h.symm
structure Gr (t : Tr) (g : Nat → Bool) (x : Nat) (P : List Nat) : Prop where
  asc : P.Pairwise (· < ·)
  sub : ∀ v ∈ P, v ∈ lft t g
  x : x ∈ P
  conn : ∀ Q : Nat → Prop, (∃ x ∈ P, Q x) → (∃ y ∈ P, ¬Q y) → ∃ x ∈ P, ∃ y ∈ P, Q x ∧ ¬Q y ∧ adjT t.ties x y
theorem gr_zero {x : Nat} (hx : x ∈ lft t g) : Gr t g x [x] := ⟨by simp, fun v m => by simp at m; rw [m]; exact hx, by simp, fun Q ⟨a, ha, qa⟩ ⟨b, hb, qb⟩ => by
  simp at ha hb
  rw [ha] at qa
  rw [hb] at qb
  exact absurd qa qb⟩
theorem gr_gro {x : Nat} {P : List Nat} (G : Gr t g x P) : Gr t g x (gro t g P) := by
  have up : ∀ v ∈ P, v ∈ gro t g P := fun v m => gro_mem.mpr ⟨G.sub v m, .inl m⟩
  refine ⟨lft_asc.filter _, fun v m => (gro_mem.mp m).1, up _ G.x, fun Q ⟨a, ha, qa⟩ ⟨b, hb, qb⟩ => ?_⟩
  by_cases h1 : ∃ y ∈ P, ¬Q y
  · by_cases h2 : ∃ y ∈ P, Q y
    · obtain ⟨c, hc, d, hd, q1, q2, q3⟩ := G.conn Q h2 h1
      exact ⟨c, up c hc, d, up d hd, q1, q2, q3⟩
    · rcases (gro_mem.mp ha).2 with m | ⟨u, hu, adj⟩
      · exact absurd ⟨a, m, qa⟩ h2
      · exact ⟨a, ha, u, up u hu, qa, fun z => h2 ⟨u, hu, z⟩, adj⟩
  · rcases (gro_mem.mp hb).2 with m | ⟨u, hu, adj⟩
    · exact absurd ⟨b, m, qb⟩ h1
    · exact ⟨u, up u hu, b, hb, Classical.byContradiction fun z => h1 ⟨u, hu, z⟩, qb, adj_sym adj⟩
theorem gr_N {x : Nat} (hx : x ∈ lft t g) : ∀ k, Gr t g x (groN t g x k)
  | 0 => gr_zero hx
  | k + 1 => gr_gro (gr_N hx k)
theorem sub_len {P Q : List Nat} (nd : P.Nodup) (h : ∀ v ∈ P, v ∈ Q) : P.length ≤ Q.length := by
  induction P generalizing Q with
  | nil => simp
  | cons x P ih =>
    have nd' := List.nodup_cons.mp nd
    have hx := h x (by simp)
    have := ih (Q := Q.erase x) nd'.2 fun v m => by
      have ne : v ≠ x := fun e => nd'.1 (by rw [← e]; exact m)
      exact (List.mem_erase_of_ne ne).mpr (h v (by simp [m]))
    rw [List.length_erase_of_mem hx] at this
    have : 0 < Q.length := List.length_pos_of_mem hx
    rw [List.length_cons]
    omega
def Stable (t : Tr) (g : Nat → Bool) (P : List Nat) : Prop := ∀ v ∈ gro t g P, v ∈ P
theorem stable_gro {x : Nat} {P : List Nat} (G : Gr t g x P) (s : Stable t g P) : Stable t g (gro t g P) := fun v m => by
  obtain ⟨h1, h2⟩ := gro_mem.mp m
  refine gro_mem.mpr ⟨h1, .inl ?_⟩
  rcases h2 with z | ⟨u, hu, adj⟩
  · exact s v z
  · exact s v (gro_mem.mpr ⟨h1, .inr ⟨u, s u hu, adj⟩⟩)
theorem gro_grows {x : Nat} (hx : x ∈ lft t g) : ∀ k, Stable t g (groN t g x k) ∨ k + 1 ≤ (groN t g x k).length
  | 0 => .inr (by show 1 ≤ [x].length; simp)
  | k + 1 => by
    have G := gr_N hx k
    rcases gro_grows hx k with s | l
    · exact .inl (stable_gro G s)
    · by_cases s : Stable t g (groN t g x k)
      · exact .inl (stable_gro G s)
      · right
        have : ∃ v ∈ gro t g (groN t g x k), v ∉ groN t g x k := Classical.byContradiction fun z => s fun v m => Classical.byContradiction fun y => z ⟨v, m, y⟩
        obtain ⟨v, h1, h2⟩ := this
        have nd : (v :: groN t g x k).Nodup := List.nodup_cons.mpr ⟨h2, G.asc.imp fun h => Nat.ne_of_lt h⟩
        have := sub_len (Q := gro t g (groN t g x k)) nd fun u m => by
          rcases List.mem_cons.mp m with e | m
          · rw [e]; exact h1
          · exact gro_mem.mpr ⟨G.sub u m, .inl m⟩
        rw [List.length_cons] at this
        show k + 1 + 1 ≤ (gro t g (groN t g x k)).length
        omega
/-- grown long enough it is a part -/
theorem gro_part (O : Okt t) {x : Nat} (hx : x ∈ lft t g) : Part t g (groN t g x (lft t g).length) := by
  have G := gr_N hx (lft t g).length
  have s : Stable t g (groN t g x (lft t g).length) := by
    rcases gro_grows hx (lft t g).length with s | l
    · exact s
    · have := sub_len (G.asc.imp fun h => Nat.ne_of_lt h) G.sub
      omega
  refine ⟨G.asc, fun v m => lft_mem.mp (G.sub v m), fun u hu v adj gv => ?_, G.conn⟩
  refine s v (gro_mem.mpr ⟨lft_mem.mpr ⟨?_, gv⟩, .inr ⟨u, hu, adj_sym adj⟩⟩)
  rcases adj with h | h
  · exact (O.inb _ h).2
  · have := O.inb _ h
    simp only at this
    omega
/-- one part more -/
theorem parts_more (O : Okt t) {ps : List (List Nat)} (P : Parts t g ps) {x : Nat} (hx : x ∈ lft t g) (no : ∀ p ∈ ps, x ∉ p) : Parts t g (ps ++ [groN t g x (lft t g).length]) := by
  have hp := gro_part O hx
  have G := gr_N hx (lft t g).length
  refine ⟨fun p m => ?_, ?_⟩
  · rcases List.mem_append.mp m with m | m
    · exact P.each p m
    · simp at m
      rw [m]; exact hp
  · refine List.pairwise_append.mpr ⟨P.dis, by simp, fun p hq q hq' y hy my => ?_⟩
    simp at hq'
    subst hq'
    obtain ⟨a, ha, b, hb, q1, q2, adj⟩ := hp.conn (fun v => v ∈ p) ⟨y, my, hy⟩ ⟨x, G.x, no p hq⟩
    exact q2 ((P.each p hq).closed a q1 b adj (hp.lt b hb).2)
end
end MT
/-! the law's own way to lowest terms -/
namespace MT
/-- one step of it -/
def eu (s : Nat × Nat) : Nat × Nat := if s.2 = 0 then s else (s.2, s.1 % s.2)
def eun : Nat → Nat × Nat → Nat × Nat
  | 0, s => s
  | k + 1, s => eu (eun k s)
theorem eu_gcd (s : Nat × Nat) : Nat.gcd (eu s).1 (eu s).2 = Nat.gcd s.1 s.2 := by
  unfold eu
  split
  · rfl
  · show Nat.gcd s.2 (s.1 % s.2) = _
    rw [Nat.gcd_comm s.1 s.2, Nat.gcd_rec s.2 s.1]
    exact Nat.gcd_comm _ _
theorem eun_gcd (s : Nat × Nat) : ∀ k, Nat.gcd (eun k s).1 (eun k s).2 = Nat.gcd s.1 s.2
  | 0 => rfl
  | k + 1 => by show Nat.gcd (eu (eun k s)).1 (eu (eun k s)).2 = _; rw [eu_gcd, eun_gcd s k]
theorem eun_less {a b : Nat} (h : b ≤ a) : ∀ k, (eun k (a, b)).2 ≤ (eun k (a, b)).1 ∧ (eun k (a, b)).1 * (eun k (a, b)).2 * 2 ^ k ≤ a * b
  | 0 => ⟨h, by simp [eun]⟩
  | k + 1 => by
    obtain ⟨h1, h2⟩ := eun_less h k
    obtain ⟨⟨x, y⟩, e⟩ : ∃ s, eun k (a, b) = s := ⟨_, rfl⟩
    have e2 : eun (k + 1) (a, b) = eu (x, y) := by show eu (eun k (a, b)) = _; rw [e]
    rw [e2]
    rw [e] at h1 h2
    simp only at h1 h2
    unfold eu
    split
    · rename_i z
      simp only at z
      subst z
      simp
    · rename_i z
      simp only at z ⊢
      have m1 := Nat.mod_lt x (Nat.pos_of_ne_zero z)
      have m2 : x % y + y ≤ x := by
        have d := Nat.div_add_mod x y
        have q : 1 ≤ x / y := (Nat.one_le_div_iff (Nat.pos_of_ne_zero z)).mpr h1
        have := Nat.mul_le_mul_left y q
        omega
      refine ⟨by omega, Nat.le_trans ?_ h2⟩
      have m3 : 2 * (x % y) ≤ x := by omega
      rw [Nat.pow_succ]
      have : y * (x % y) * (2 ^ k * 2) = 2 * (x % y) * (y * 2 ^ k) := by
        rw [Nat.mul_comm (2 ^ k) 2, ← Nat.mul_assoc, Nat.mul_comm (y * (x % y)) 2, Nat.mul_comm y (x % y), ← Nat.mul_assoc, Nat.mul_assoc (2 * (x % y))]
      rw [this, Nat.mul_assoc x y]
      exact Nat.mul_le_mul_right _ m3
/-- few steps are enough -/
theorem eun_end {a b L : Nat} (ha : a ≤ 2 ^ L) (hb : b ≤ 2 ^ L) {k : Nat} (hk : 2 * L + 2 ≤ k) : eun k (a, b) = (Nat.gcd a b, 0) := by
  have zero : ∀ {x y : Nat}, y ≤ x → x ≤ 2 ^ L → y ≤ 2 ^ L → ∀ m, 2 * L + 1 ≤ m → (eun m (x, y)).2 = 0 := by
    intro x y h hx hy m hm
    obtain ⟨h1, h2⟩ := eun_less h m
    have h3 : x * y ≤ 2 ^ L * 2 ^ L := Nat.mul_le_mul hx hy
    rw [← Nat.pow_add] at h3
    have h4 : (2 : Nat) ^ (L + L) * 2 ≤ 2 ^ m := by rw [← Nat.pow_succ]; exact Nat.pow_le_pow_right (by omega) (by omega)
    refine Classical.byContradiction fun z => ?_
    have z1 : 1 ≤ (eun m (x, y)).2 := Nat.pos_of_ne_zero z
    have z2 : 1 ≤ (eun m (x, y)).1 * (eun m (x, y)).2 := Nat.mul_pos (by omega) z1
    have z3 := Nat.mul_le_mul_right (2 ^ m) z2
    have z4 : 0 < (2 : Nat) ^ (L + L) := Nat.pow_pos (by omega)
    omega
  have shift : ∀ s m, eun (m + 1) s = eun m (eu s) := by
    intro s m
    induction m with
    | zero => rfl
    | succ m ih => show eu (eun (m + 1) s) = eu (eun m (eu s)); rw [ih]
  have fin : (eun k (a, b)).2 = 0 := by
    by_cases h : b ≤ a
    · exact zero h ha hb k (by omega)
    · obtain ⟨m, rfl⟩ : ∃ m, k = m + 1 := ⟨k - 1, by omega⟩
      rw [shift]
      unfold eu
      rw [if_neg (by simp only; omega)]
      simp only
      rw [Nat.mod_eq_of_lt (by omega)]
      exact zero (by omega) hb ha m (by omega)
  have g := eun_gcd (a, b) k
  rw [fin, Nat.gcd_zero_right] at g
  exact Prod.ext g fin
end MT
namespace Y
open PySem PySem.Spec PyProof.Rows L2
/-- the law's own lowest terms -/
def lr (top bottom : Int) : Int × Int := if 0 < bottom then (top.fdiv (Nat.gcd top.natAbs bottom.natAbs : Nat), bottom.fdiv (Nat.gcd top.natAbs bottom.natAbs : Nat)) else ((-top).fdiv (Nat.gcd top.natAbs bottom.natAbs : Nat), (-bottom).fdiv (Nat.gcd top.natAbs bottom.natAbs : Nat))
def sp_law_ratio (K : PySem.W.Frag) : Sp := fun vs H Q _ => ∃ L, ∃ top bottom : Int, vs = [.int top, .int bottom] ∧ Trk H L ∧ bottom ≠ 0 ∧ top.natAbs ≤ 2 ^ 199 ∧ bottom.natAbs ≤ 2 ^ 199 ∧ Ret K H L (.tuple [.int (lr top bottom).1, .int (lr top bottom).2]) Q
end Y
namespace Y
open PySem PySem.Spec PyProof.Rows L2
/-- min of a tuple of numbers -/
def rMinT (K : PySem.W.Frag) : List V → Hp → VK → Prop := fun vs H Q => ∃ (a : Addr) (ns : List Int), vs = [V.ref a] ∧ SqT K H a (iV ns) ∧ 0 < ns.length ∧ ∀ m, m ∈ ns → (∀ y, y ∈ ns → m ≤ y) → Q (.int m) H
theorem foldl_min : ∀ (ns : List Int) (n : Int), (ns.foldl min n = n ∨ ns.foldl min n ∈ ns) ∧ ns.foldl min n ≤ n ∧ ∀ y ∈ ns, ns.foldl min n ≤ y
  | [], n => ⟨.inl rfl, Int.le_refl _, fun y h => nomatch h⟩
  | x :: ns, n => by
    obtain ⟨h1, h2, h3⟩ := foldl_min ns (min n x)
    rw [List.foldl_cons]
    refine ⟨?_, by omega, fun y hy => ?_⟩
    · rcases h1 with h1 | h1
      · rw [h1]
        by_cases h : n ≤ x
        · exact .inl (by omega)
        · exact .inr (by rw [show min n x = x by omega]; simp)
      · exact .inr (by simp [h1])
    · rcases List.mem_cons.mp hy with e | m
      · rw [e]; omega
      · exact h3 y m
theorem alike_ints (ns : List Int) : PySem.W.AlikeAll (iD ns) := by
  constructor
  · intro x hx y hy
    obtain ⟨i, _, rfl⟩ := List.mem_map.mp hx
    obtain ⟨j, _, rfl⟩ := List.mem_map.mp hy
    rfl
  · intro x hx
    obtain ⟨i, _, rfl⟩ := List.mem_map.mp hx
    intro z; cases z
theorem depth_ints0 (ns : List Int) : PyData.depthAll (iD ns) = 0 := by
  induction ns with
  | nil => rfl
  | cons x ns ih =>
    show max (PyData.depth (.int x)) (PyData.depthAll (iD ns)) = 0
    rw [ih]; rfl
theorem cr_minT {X : Cx} (K : PySem.W.Frag) (hK : X.K = K) (hc : X.calm = true) (hu : X.A.units + 64 < cLine) : CallR X (.builtin "min") (rMinT K) := by
  subst hK
  intro pins s σ H vs us Q I r h
  obtain ⟨a, ns, rfl, hs, hne, q⟩ := h
  obtain ⟨its, rv, hl, _⟩ := I.tuple hs
  rw [Vals.ref1 r]
  have ia := Vals.ints (ns := ns) rv
  cases ns with
  | nil => simp at hne
  | cons n ns =>
    have rd := ia.reads s.heap
    refine PySem.W.min_tuple_data (x := .int n) (xs := iD ns) (I.ok.hd hc) (show s.heap.IsTuple a its.toArray from hl) rd (alike_ints (n :: ns)) (by
      have := depth_ints0 (n :: ns)
      show _ + 1 + PyData.depthAll (iD (n :: ns)) < _
      omega) fun i v h' tk bs hi r hk => ?_
    have e : PySem.W.minD (.int n) (iD ns) = .int (ns.foldl min n) := PySem.W.minD_ints n ns
    rw [e] at r
    obtain ⟨t, rfl⟩ : ∃ t, v = Value.int (ns.foldl min n) t := by cases r; exact ⟨_, rfl⟩
    obtain ⟨h1, h2, h3⟩ := foldl_min ns n
    refine ⟨.int _, H, I.kept (t' := tk) hk, ⟨_, rfl⟩, q _ ?_ fun y hy => ?_⟩
    · rcases h1 with h1 | h1
      · rw [h1]; simp
      · simp [h1]
    · rcases List.mem_cons.mp hy with e | m
      · rw [e]; exact h2
      · exact h3 y m
end Y
namespace MT
open Y
/-- numbers of few bits: what hangs on each place -/
theorem dg_bd {n C : Nat} {r : Nat} {par : Nat → Nat} {S : List Nat} {D N : Nat → Int} {g : Nat → Bool} {ks : Nat → List Nat} {a : Nat → Int} (hDG : DG n a ks g D N) (hk : ∀ v, v < n → ∀ c, c ∈ ks v ↔ c < n ∧ c ≠ r ∧ par c = v) (nd : ∀ v, v < n → (ks v).Nodup) (G : Grow r par S) : (∀ v ∈ S, v < n) →
    ∀ s : WB, Bd C S s → (∀ v ∈ S, Has S a ks g D N s v) → ∀ v ∈ S, (D v).natAbs ≤ 2 ^ C ∧ (pd D (ks v)).natAbs ≤ 2 ^ C := by
  induction G with
  | one =>
    intro lt s b h v hv
    have hr := lt r (by simp)
    simp at hv
    subst hv
    have o := (h v (by simp)).own hDG hr (by
      rw [List.filter_eq_nil_iff]
      intro c hc
      have := ((hk v hr c).mp hc).2.1
      simp [this])
    have := b.at (v := v) (by simp)
    rw [o.1, o.2] at this
    exact this
  | @more S v G hv ne hp ih =>
    intro lt s b h u hu
    have hvn := lt v (by simp)
    have own : s.1 v = D v ∧ s.2 v = pd D (ks v) := by
      refine (h v (by simp)).own hDG hvn ?_
      rw [List.filter_eq_nil_iff]
      intro c hc z
      have z := of_decide_eq_true z
      obtain ⟨_, h2, h3⟩ := (hk v hvn c).mp hc
      rcases List.mem_append.mp z with m | m
      · have := (G.par c m h2).1
        rw [h3] at this
        exact hv this
      · simp at m
        subst m
        rw [h3] at hp
        exact hv hp
    rcases List.mem_append.mp hu with m | m
    · exact ih (fun w hw => lt w (by simp [hw])) _ (b.step G.nd hp hv ne) (fun w hw => dg_keep hDG hk nd (lt w (by simp [hw])) hvn hv ne own (h w (by simp [hw]))) u m
    · simp at m
      subst m
      have := b.at (v := u) (by simp)
      rw [own.1, own.2] at this
      exact this
theorem bd_start {t : Tr} (B : Bt t) {S : List Nat} (hS : ∀ v, v ∈ S ↔ v < t.n) (l : S.length = t.n) (g : Nat → Bool) : Bd 200 S (s0 t g) := by
  have few := B.few
  refine ⟨fun _ => 10, fun v hv => ⟨?_, Nat.one_le_two_pow⟩, ?_⟩
  · show (if g v = true then (1 : Int) else -wt t v).natAbs ≤ 2 ^ 10
    split
    · decide
    · have := B.wt v
      rw [Int.natAbs_neg]
      exact this
  · rw [List.map_const', List.sum_replicate_nat]
    omega
theorem dg_le {t : Tr} (B : Bt t) {r : Nat} {par dep : Nat → Nat} (R : TM.Rooted t.n (adjT t.ties) r par dep) {g : Nat → Bool} {D N : Nat → Int} (h : DG t.n (fun v => -wt t v) (kids t.ties r par) g D N) : ∀ u, u < t.n → (D u).natAbs ≤ 2 ^ 200 ∧ (pd D (kids t.ties r par u)).natAbs ≤ 2 ^ 200 := fun u hu => by
  obtain ⟨S, G, hS⟩ := grow_all R
  have lS : S.length = t.n := by rw [(S_perm G hS).length_eq, List.length_range]
  exact dg_bd h (fun v hv c => kids_mem R hv c) (fun v hv => kids_nodup B.toOkt r par v) G (fun v m => (hS v).mp m) _ (bd_start B hS lS g) (fun v m => ⟨[], by
      unfold s0 xw fk pd
      cases h : g v <;> simp [h], rfl, by
      rw [List.nil_append]
      exact List.Perm.of_eq (List.filter_eq_self.mpr fun c hc => decide_eq_true ((hS c).mpr ((kids_mem R ((hS v).mp m) c).mp hc).1))⟩) u ((hS u).mpr hu)
theorem LW_le {t : Tr} (B : Bt t) (g : Nat → Bool) : (LW t g).natAbs ≤ 2 ^ 199 := by
  have h := M_bd (V := List.range t.n) (W := fun v => -wt t v) (B := fun _ => 1) (c := 10) (fun x _ => ⟨by rw [Int.natAbs_neg]; exact B.wt x, Nat.one_le_two_pow⟩) t.ties g
  refine Nat.le_trans h (Nat.pow_le_pow_right (by omega) ?_)
  rw [List.length_range]
  have := tree_ties B.toTree
  have := B.few
  omega
end MT
namespace Y
open PySem PySem.Spec PyProof.Rows L2
def prl (xs : List Int) : Int := xs.foldr (· * ·) 1
theorem prl_snoc (xs : List Int) (x : Int) : prl (xs ++ [x]) = prl xs * x := by
  unfold prl
  induction xs with
  | nil => simp
  | cons y xs ih => rw [List.cons_append, List.foldr_cons, List.foldr_cons, ih]; grind
theorem prl_pd (f : Nat → Int) (l : List Nat) : prl (l.map f) = MT.pd f l := rfl
theorem prl_le : ∀ {xs : List Int}, (∀ x ∈ xs, x.natAbs ≤ 2 ^ 200) → (prl xs).natAbs ≤ 2 ^ (200 * xs.length)
  | [], _ => by simp [prl]
  | x :: xs, h => by
    have := MT.mul_le (h x (by simp)) (prl_le (xs := xs) fun y m => h y (by simp [m]))
    rw [List.length_cons, Nat.mul_add, Nat.mul_one, Nat.add_comm]
    exact this
/-! ### the program -/
def sp_folded (K : PySem.W.Frag) : Sp := fun vs H Q _ => ∃ L tv gv t l, ∃ r : Nat, vs = [tv, .int (r : Int), gv] ∧ Trk H L ∧ Bt t ∧ Dp K (wo H L) tv (trD t) ∧ Dp K (wo H L) gv (.tuple (nD l)) ∧ l.length ≤ 1000 ∧ r < t.n ∧
  ∀ par dep D N, TM.Rooted t.n (adjT t.ties) r par dep → MT.DG t.n (fun v => -MT.wt t v) (kids t.ties r par) (inl l) D N → Ret K H L (.tuple [.list (iD ((List.range t.n).map D)), .list (iD ((List.range t.n).map fun v => MT.pd D (kids t.ties r par v)))]) Q
def sp_multiplied (K : PySem.W.Frag) : Sp := fun vs H Q _ => ∃ L v xs, vs = [v] ∧ Dp K (wo H L) v (.list (iD xs)) ∧ (∀ x ∈ xs, x.natAbs ≤ 2 ^ 200) ∧ xs.length ≤ 100 ∧ Q (.int (prl xs)) H
def sp_left_row (K : PySem.W.Frag) : Sp := fun vs H Q _ => ∃ L tv t, ∃ r : Nat, vs = [tv, .int (r : Int)] ∧ Trk H L ∧ Bt t ∧ Dp K (wo H L) tv (trD t) ∧ r < t.n ∧
  ∀ par dep, TM.Rooted t.n (adjT t.ties) r par dep → Ret K H L (.list (iD ((List.range t.n).map fun v => MT.LW t (MT.on par dep v)))) Q
def sp_left_table (K : PySem.W.Frag) : Sp := fun vs H Q _ => ∃ L tv t, vs = [tv] ∧ Trk H L ∧ Bt t ∧ Dp K (wo H L) tv (trD t) ∧ ∀ g, Gp t g → Ret K H L (.list ((List.range t.n).map fun i => .list (iD ((List.range t.n).map (g i))))) Q
abbrev sp_determinant := sp_law_determinant
def sp_checked_determinant (K : PySem.W.Frag) : Sp := fun vs H Q _ => ∃ L tv t, vs = [tv] ∧ Trk H L ∧ Bt t ∧ MT.Dt t ≠ 0 ∧ Dp K (wo H L) tv (trD t) ∧ ∀ H', Same H H' → (MT.Dt t).natAbs ≤ 2 ^ 200 → Q (.int (MT.Dt t)) H'
abbrev sp_left_determinant := sp_left_product
theorem gp_ex {t : Tr} (T : Tree t) : ∃ g, Gp t g := by
  have ch : ∀ j, ∃ pd : (Nat → Nat) × (Nat → Nat), j < t.n → TM.Rooted t.n (adjT t.ties) j pd.1 pd.2 := fun j => by
    by_cases h : j < t.n
    · obtain ⟨par, dep, R⟩ := T.tree j h
      exact ⟨(par, dep), fun _ => R⟩
    · exact ⟨(fun _ => 0, fun _ => 0), fun z => absurd z h⟩
  refine ⟨fun i j => MT.LW t (inl (TM.way (Classical.choose (ch j)).1 (Classical.choose (ch j)).2 i)), fun i j hi par dep R => ?_⟩
  have R2 := Classical.choose_spec (ch j) R.root
  show MT.LW t _ = _
  rw [TM.way_uniq R2 R hi]
/-! ### the law's own -/
def sp_above (k : Nat) (K : PySem.W.Frag) : Sp := fun vs H Q _ => ∃ L tv nv t r par dep D N, ∃ v : Nat, ∃ last : Int, vs = [tv, nv, .int v, .int last] ∧ Trk H L ∧ Bt t ∧ Dp K (wo H L) tv (trD t) ∧ Dp K (wo H L) nv (llD (nbs t)) ∧ TM.Rooted t.n (adjT t.ties) r par dep ∧ last = lastOf r par v ∧
  v < t.n ∧ t.n ≤ dep v + k ∧ MT.DN t.n (fun v => -MT.wt t v) (kids t.ties r par) D N ∧ ∀ b H', Same H H' → (b = true → ∀ u, u < t.n → v ∈ TM.way par dep u → 0 < D u) → Q (.bl b) H'
def sp_below (K : PySem.W.Frag) : Sp := fun vs H Q _ => ∃ L tv t, vs = [tv] ∧ Trk H L ∧ Bt t ∧ Dp K (wo H L) tv (trD t) ∧ ∀ b H', Same H H' → (t.n = 0 → b = true) → (b = true → MT.Pos t) → Q (.bl b) H'
def sp_drawn_below (K : PySem.W.Frag) : Sp := fun vs H Q _ => ∃ L m c cs b, ∃ most : Nat, vs = [.ref m, .int most] ∧ m ∈ L ∧ Trk H L ∧ MAt H m c cs b ∧ most ≤ 16 ∧ b + 1000 < 1000000 ∧
  ∀ t v H', B60 t → MT.Pos t → t.n ≤ most → SameM m H H' → MAt H' m c cs (b + 1000) → Dp K (wo H' L) v (trD t) → Q v H'
def sp_law_part (K : PySem.W.Frag) : Sp := fun vs H Q _ => ∃ L tv pv t g p, vs = [tv, pv] ∧ Trk H L ∧ Tree t ∧ MT.Part t g p ∧ Dp K (wo H L) tv (trD t) ∧ Dp K (wo H L) pv (.list (nD p)) ∧ Ret K H L (trD (MT.partT t p)) Q
def sp_law_without (K : PySem.W.Frag) : Sp := fun vs H Q _ => ∃ L tv pv t l, vs = [tv, pv] ∧ Trk H L ∧ Tree t ∧ Dp K (wo H L) tv (trD t) ∧ Dp K (wo H L) pv (.list (nD l)) ∧ l.length ≤ 1000 ∧
  ∀ ps, MT.Parts t (inl l) ps → (∀ v, v < t.n → inl l v = false → ∃ p ∈ ps, v ∈ p) → ps.length ≤ 16 → Ret K H L (.list (ps.map fun p => trD (MT.partT t p))) Q
def sp_law_left (K : PySem.W.Frag) : Sp := fun vs H Q _ => ∃ L tv pv t l, vs = [tv, pv] ∧ Trk H L ∧ Bt t ∧ Dp K (wo H L) tv (trD t) ∧ Dp K (wo H L) pv (.list (nD l)) ∧ l.length ≤ 1000 ∧ ∀ H', Same H H' → Q (.int (MT.LW t (inl l))) H'
def sp_blown (K : PySem.W.Frag) : Sp := fun vs H Q _ => ∃ L m c cs b tv t, ∃ count : Nat, vs = [.ref m, tv, .int count] ∧ m ∈ L ∧ Trk H L ∧ MAt H m c cs b ∧ B60 t ∧ MT.Pos t ∧ t.n + count ≤ 16 ∧ b + 100 < 1000000 ∧ Dp K (wo H L) tv (trD t) ∧
  ∀ t' v H', B60 t' → MT.Pos t' → t'.n ≤ t.n + count → SameM m H H' → MAt H' m c cs (b + 100) → Dp K (wo H' L) v (trD t') → Q v H'
def sp_law_is_left (K : PySem.W.Frag) : Sp := fun vs H Q _ => ∃ L tv pv t l, vs = [tv, pv] ∧ Trk H L ∧ Bt t ∧ Dp K (wo H L) tv (trD t) ∧ Dp K (wo H L) pv (.list (nD l)) ∧ l.length ≤ 1000 ∧ ∀ H', Same H H' → Q (.bl true) H'
def sp_law_are_entries (K : PySem.W.Frag) : Sp := fun vs H Q _ => ∃ L tv t, vs = [tv] ∧ Trk H L ∧ Bt t ∧ MT.Pos t ∧ Dp K (wo H L) tv (trD t) ∧ ∀ H', Same H H' → Q (.bl true) H'
end Y
/-! own errors raised, caught and looked at -/
namespace Y
open PySem PySem.Spec PyProof.Rows L2
/-- isinstance(e, c) in the suite that holds e, whatever its class -/
def rIsX (K : PySem.W.Frag) (cls : Value) (d : Option Addr) (a : Addr) : List V → Hp → VK → Prop := fun xs H Q => ∃ D, cls = .ref D ∧ d = none ∧ ExcC K D ∧ rIsE K D a xs H Q
theorem call_isX {X : Cx} {a : Addr} {oe : Obj} {cls : Value} {d : Option Addr} {pn : List (Addr × Obj)} (K : PySem.W.Frag) (hK : X.K = K) (hz : Zc cls d oe) (hf : ∃ vs, oe.data = .fields vs) : CallR (X.suite a ((a, oe) :: pn)) (.builtin "isinstance") (rIsX K cls d a) := by
  subst hK
  intro ps0 s0 σ0 H0 zs ws Q0 J r z
  obtain ⟨D, rfl, rfl, C, z⟩ := z
  exact call_isE C hz hf ps0 s0 σ0 H0 zs ws Q0 J r z
theorem exm_own {K : PySem.W.Frag} {S : Addr} (h1 : PySem.W.subIn K (.ref S) (.type "BaseException") = some true) (h2 : PySem.W.isClsIn K S = true) (h3 : PySem.W.typeIn K (.ref S) = some (.type "type")) (h4 : PySem.W.subIn K (.ref S) (.ref S) = some true) : PySem.W.exmOne K (.ref S) (.ref S) = some true := by
  have e2 : (PySem.W.clsIn K S).isSome = true := h2
  unfold PySem.W.exmOne PySem.W.kitCls; simp [h1, h3, h4, e2]
end Y
namespace Y
open PySem PySem.Spec PyProof.Rows L2
theorem kit_ref {K : PySem.W.Frag} {S C : Addr} {b : Bool} (self : PySem.W.subIn K (.ref S) (.ref S) = some true) (h : PySem.W.subIn K (.ref S) (.ref C) = some b) (hc : PySem.W.isClsIn K C = true) (ht : PySem.W.typeIn K (.ref C) = some (.type "type")) : PySem.W.kitOne K (.ref S) (.ref C) = some b := by
  have hc : (PySem.W.clsIn K C).isSome = true := hc
  unfold PySem.W.kitOne
  split
  · rename_i z
    have z := eq_of_beq z
    cases z
    rw [self] at h
    exact h
  · unfold PySem.W.kitCls
    simp [hc, ht, h]
theorem kit_typ {K : PySem.W.Frag} {S : Addr} {T : String} {b : Bool} (h : PySem.W.subIn K (.ref S) (.type T) = some b) (m : PySem.W.kitMeta T = true) : PySem.W.kitOne K (.ref S) (.type T) = some b := by
  unfold PySem.W.kitOne
  rw [if_neg (by simp)]
  unfold PySem.W.kitCls
  simp [m, h]
end Y
namespace MT
open Y
theorem par_uniq {n : Nat} {adj : Nat → Nat → Prop} {r : Nat} {par dep par2 dep2 : Nat → Nat} (R : TM.Rooted n adj r par dep) (R2 : TM.Rooted n adj r par2 dep2) {v : Nat} (hv : v < n) (ne : v ≠ r) : par v = par2 v := by
  have h := TM.way_uniq R R2 hv
  rw [way_cons R hv ne, way_cons R2 hv ne] at h
  have h := congrArg List.head? (List.cons.inj h).2
  unfold TM.way at h
  rw [TM.upto_head, TM.upto_head] at h
  exact Option.some.inj h
theorem kids_eq {t : Tr} {r : Nat} {par dep par2 dep2 : Nat → Nat} (R : TM.Rooted t.n (adjT t.ties) r par dep) (R2 : TM.Rooted t.n (adjT t.ties) r par2 dep2) {v : Nat} (hv : v < t.n) : kids t.ties r par v = kids t.ties r par2 v := by
  unfold kids
  by_cases e : v = r
  · simp [e]
  · rw [par_uniq R R2 hv e]
theorem dg_eq {t : Tr} {r : Nat} {par dep par2 dep2 : Nat → Nat} {a : Nat → Int} {g : Nat → Bool} {D N : Nat → Int} (R : TM.Rooted t.n (adjT t.ties) r par dep) (R2 : TM.Rooted t.n (adjT t.ties) r par2 dep2) (h : DG t.n a (kids t.ties r par) g D N) : DG t.n a (kids t.ties r par2) g D N :=
  ⟨fun v hv => by rw [← kids_eq R R2 hv]; exact h.d v hv, fun v hv => by rw [← kids_eq R R2 hv]; exact h.n v hv⟩
end MT
namespace Y
open PySem PySem.Spec PyProof.Rows L2
/-- what the dict of parents tells -/
structure PH (S : List Nat) (kvs : List (Key × V)) (r : Nat) (par : Nat → Nat) : Prop where
  n : kvs.length = S.length
  val : ∀ v : Nat, valV kvs (Sum.inl (v : Int)) = if v ∈ S then some (.int (lastOf r par v)) else none
theorem PH.put {S : List Nat} {kvs : List (Key × V)} {r w : Nat} {par : Nat → Nat} (A : PH S kvs r par) (h : w ∉ S) : PH (S ++ [w]) (putK kvs (Sum.inl (w : Int)) (.int (lastOf r par w))) r par := by
  have e0 : valV kvs (Sum.inl (w : Int)) = none := by rw [A.val w, if_neg h]
  refine ⟨by rw [putK_new _ e0, List.length_append, List.length_append, A.n]; rfl, fun v => ?_⟩
  rw [valV_put, A.val v]
  by_cases e : v = w
  · subst e
    simp
  · have : ¬ ((Sum.inl (v : Int) : Key) = Sum.inl (w : Int)) := fun z => e (by have := Sum.inl.inj z; omega)
    rw [if_neg this]
    simp [e]
theorem inV_two (a b c : Int) : inV (.int a) [.int b, .int c] = (decide (a = b) || decide (a = c)) := by
  unfold inV
  rw [Bool.eq_iff_iff]
  simp [eqV]
  omega
theorem arr_congr {n : Nat} {f f' : Nat → Int} (h : ∀ v, v < n → f v = f' v) : arr n f = arr n f' := by
  unfold arr
  congr 1
  exact List.map_congr_left fun v hv => h v (List.mem_range.mp hv)
theorem ones_arr {n : Nat} {f : Nat → Int} : (List.replicate (((arr n f).length : Nat) : Int).toNat [V.int 1]).flatten = arr n fun _ => 1 := by
  rw [arr_len]
  unfold arr iV
  refine List.ext_getElem (by simp) fun i h1 h2 => ?_
  simp
end Y
namespace Y
theorem fm_congr2 {α β : Type} {f g : α → Option β} : ∀ (l : List α), (∀ x ∈ l, f x = g x) → l.filterMap f = l.filterMap g
  | [], _ => rfl
  | x :: l, h => by rw [List.filterMap_cons, List.filterMap_cons, h x (by simp), fm_congr2 l fun y m => h y (by simp [m])]
end Y
namespace Y
open PySem PySem.Spec PyProof.Rows L2
theorem in_natsL {K : PySem.W.Frag} {H : Hp} {g : Addr} {l : List Nat} {x : Nat} {neg : Bool} {Q : VK} (h : SqL K H g (nV l)) (q : Q (.bl (if neg then !inl l x else inl l x)) H) : rIn K neg (.int (x : Int)) (.ref g) H Q :=
  ⟨g, nV l, rfl, .inl h, rfl, flat_nats l, by rw [inV_nats]; exact q⟩
theorem index_nats {K : PySem.W.Frag} {H : Hp} {g : Addr} {l : List Nat} {x : Nat} {Q : VK} (h : SqL K H g (nV l)) (nd : l.Nodup) (hx : x ∈ l) (q : Q (.int (l.idxOf x : Nat)) H) : rIndex K (.ref g) [.int (x : Int)] H Q := by
  have hi := List.idxOf_lt_length_iff.mpr hx
  refine ⟨g, nV l, .int (x : Int), l.idxOf x, .int (x : Int), rfl, rfl, h, rfl, flat_nats l, ?_, by simp [eqV], fun m z hm hz => ?_, q⟩
  · refine nV_at ?_
    rw [List.getElem?_eq_getElem hi]
    simp
  · obtain ⟨y, hy, rfl⟩ := nV_get hz
    have hml := (List.getElem?_eq_some_iff.mp hy).1
    have e : l.idxOf y = m := by
      have := nd.idxOf_getElem m hml
      rw [(List.getElem?_eq_some_iff.mp hy).2] at this
      exact this
    have : y ≠ x := fun e2 => by rw [e2] at e; omega
    simp [eqV]
    omega
end Y
namespace Y
open PySem PySem.Spec PyProof.Rows L2
theorem mt_indexLK {X : Cx} (K : PySem.W.Frag) (hK : X.K = K) : MtR X "list.index" (rIndex K) := by subst hK; exact mt_index
end Y
namespace MT
open Y
theorem one_tree : Tree ⟨[-1], []⟩ := ⟨⟨by decide, by decide, (fun p h => nomatch h), List.Pairwise.nil⟩, TM.isTree_one fun u v a => by unfold adjT at a; simp at a⟩
theorem one_pos : Pos ⟨[-1], []⟩ := fun g => by
  unfold LW
  show 0 < pd (fun x => if g x = true then (1 : Int) else -wt ⟨[-1], []⟩ x) (List.range 1)
  have : List.range 1 = [0] := rfl
  rw [this, pd_cons, pd_nil]
  split
  · decide
  · decide
end MT

namespace Y
open PySem PySem.Spec PyProof.Rows L2
theorem shaped_prs (ps : List (Nat × Nat)) : SeqAt.shaped (.tuple (ps.map pr)) = true := by
  have h := depth_prs ps
  refine Bool.and_eq_true_iff.mpr ⟨canLay_prs ps, decide_eq_true ?_⟩
  show PyData.depthAll _ + 1 ≤ 64
  omega
end Y
namespace Y
open PySem PySem.Spec PyProof.Rows L2
/-- a part of a list of places -/
def pick (l : List Nat) (lo hi : Option Int) : List Nat := (l.drop (HT.sIx l.length 0 lo)).take (HT.sIx l.length l.length hi - HT.sIx l.length 0 lo)
theorem cut_nV (l : List Nat) (lo hi : Option Int) : cutV (nV l) lo hi = nV (pick l lo hi) := by
  unfold cutV nV pick
  rw [List.length_map, List.map_take, List.map_drop]
theorem pick_le (l : List Nat) (lo hi : Option Int) : (pick l lo hi).length ≤ l.length := by
  unfold pick
  rw [List.length_take, List.length_drop]
  omega
theorem ite_tC {b : Bool} {σ : L2.St} {H : Hp} {Q : VK} {x y : V} (h : ∀ z, (b = true → z = x) → (b = false → z = y) → Q z H) : if b = true then tC x σ H Q else tC y σ H Q := by
  cases b
  · exact h y (fun z => by cases z) fun _ => rfl
  · exact h x (fun _ => rfl) fun z => by cases z
theorem nV_rev (l : List Nat) : (nV l).reverse = nV l.reverse := by unfold nV; rw [List.map_reverse]
theorem nV_app (l m : List Nat) : nV l ++ nV m = nV (l ++ m) := by unfold nV; rw [List.map_append]
theorem shaped_nL (ns : List Nat) : SeqAt.shaped (.list (nD ns)) = true := by rw [nD_eq]; exact shaped_iL _
end Y
/-! zip of two, each a list or a tuple -/
namespace Y
open PySem
open PySem.Sem (wp)
def It2 (b : Bool) (h : Heap) (it l : Addr) (k : Nat) : Prop := match b with | true => h.IsListIter it l k | false => h.IsTupleIter it l k
def Sq2 (b : Bool) (h : Heap) (l : Addr) (zs : Array Value) : Prop := match b with | true => h.IsList l zs | false => h.IsTuple l zs
def itN (b : Bool) : String := match b with | true => "list_iterator" | false => "tuple_iterator"
theorem It2.extBut {b : Bool} {h h' : Heap} {a c l : Addr} {i : Nat} (x : It2 b h a l i) (hs : Heap.ExtBut c h h') (n : a ≠ c) : It2 b h' a l i := by
  cases b
  · exact Heap.IsTupleIter.extBut x hs n
  · exact Heap.IsListIter.extBut x hs n
theorem It2.at {b : Bool} {h h' : Heap} {a l : Addr} {i : Nat} (x : It2 b h a l i) (e : ∀ o, h.get? a = some o → h'.get? a = some o) : It2 b h' a l i := by
  cases b
  · exact Heap.IsTupleIter.at x e
  · exact Heap.IsListIter.at x e
theorem Sq2.extBut {b : Bool} {h h' : Heap} {a c : Addr} {zs : Array Value} (x : Sq2 b h a zs) (hs : Heap.ExtBut c h h') (n : a ≠ c) : Sq2 b h' a zs := by
  cases b
  · exact Heap.IsTuple.extBut x hs n
  · exact Heap.IsList.extBut x hs n
theorem It2.obj {b : Bool} {h : Heap} {a l : Addr} {i : Nat} (x : It2 b h a l i) : ∃ o, h.get? a = some o ∧ ∀ v, o.data ≠ .cell v := by
  cases b
  · obtain ⟨o, e, _, d⟩ := (show h.IsTupleIter a l i from x)
    exact ⟨o, e, fun v z => by rw [d] at z; cases z⟩
  · obtain ⟨o, e, _, d⟩ := (show h.IsListIter a l i from x)
    exact ⟨o, e, fun v z => by rw [d] at z; cases z⟩
theorem It2.lt {b : Bool} {h : Heap} {a l : Addr} {i : Nat} (x : It2 b h a l i) : a < h.objs.size := by
  obtain ⟨o, e, _⟩ := x.obj; exact Heap.lt_size e
theorem It2.mk {b : Bool} {h : Heap} {a l : Addr} (e : h.get? a = some { cls := .type (itN b), data := .fields #[.ref l, .int 0 0] }) : It2 b h a l 0 := by
  cases b
  · exact ⟨_, e, rfl, rfl⟩
  · exact ⟨_, e, rfl, rfl⟩
section
variable {prog : Program} {w : World} {A : Around} {E : Value → Shared → Prop} {s : Shared}
theorem nextOf2_item {b : Bool} {it l : Addr} {i : Nat} {zs : Array Value} {x : Value} {Q : Value → Shared → Prop} (g : It2 b s.heap it l i) (gl : Sq2 b s.heap l zs) (hx : zs[i]? = some x) (k : ∀ h', It2 b h' it l (i + 1) → Heap.SameBut it s.heap h' → Q x { s with heap := h' }) : wpAny (model prog w) A (Builtin.SmallTypes.nextOf (.ref it)) Q E s := by
  cases b
  · exact RZ.nextOf_tuple_item g gl hx k
  · exact wpAny_nextOf_list_item g gl hx k
theorem nextOf2_end {b : Bool} {it l : Addr} {i : Nat} {zs : Array Value} {Q : Value → Shared → Prop} (hh : A.handled = none) (g : It2 b s.heap it l i) (gl : Sq2 b s.heap l zs) (hx : zs[i]? = none) (k : ∀ h' e, Heap.ExtBut it s.heap h' → (∃ o, h'.get? e = some o ∧ o.cls = .type "StopIteration") → E (.ref e) { s with heap := h' }) : wpAny (model prog w) A (Builtin.SmallTypes.nextOf (.ref it)) Q E s := by
  cases b
  · exact RZ.nextOf_tuple_end hh g gl hx k
  · exact wpAny_nextOf_list_end hh g gl hx k
theorem zipQ_next_item {b1 b2 : Bool} {z TI TO i1 i2 l1 l2 : Addr} {k1 k2 : Nat} {xs ys : Array Value} {x y a b : Value} {Q : Value → Shared → Prop} (D : ZipApart z TI TO i1 i2 l1 l2) (hZ : IsZip s.heap z TI TO .none) (tI : IsPair s.heap TI (.ref i1) (.ref i2)) (tO : IsPair s.heap TO a b) (w1 : It2 b1 s.heap i1 l1 k1) (w2 : It2 b2 s.heap i2 l2 k2) (gl1 : Sq2 b1 s.heap l1 xs) (gl2 : Sq2 b2 s.heap l2 ys) (hx : xs[k1]? = some x) (hy : ys[k2]? = some y) (kQ : ∀ h', IsZip h' z TI TO (rawInt s.heap.objs.size) → IsPair h' TO x y → It2 b1 h' i1 l1 (k1 + 1) → It2 b2 h' i2 l2 (k2 + 1) → IsPair h' s.heap.objs.size x y → h'.objs.size = s.heap.objs.size + 1 → (∀ c o, c ≠ z → c ≠ TO → c ≠ i1 → c ≠ i2 → s.heap.get? c = some o → h'.get? c = some o) → Q (.ref s.heap.objs.size) { s with heap := h' }) : wpAny (model prog w) A (Builtin.«zip.__next__» ⟨[.ref z], []⟩) (fun fin s' => ∃ v, fin = .done (.ret v) ∧ Q v s') E s := by
  show wpAny _ _ (field (.ref z) 2 >>= _) _ _ _; refine wpAny_bind (wpAny_field hZ rfl (x := .bool false) rfl ?_); show wpAny _ _ (field (.ref z) 3 >>= _) _ _ _; refine wpAny_bind (wpAny_field hZ rfl (x := .ref TI) rfl ?_); refine wpAny_bind (wpAny_seqItems tI rfl ?_); show wpAny _ _ (Builtin.SmallTypes.ownedTupleIsFree (.ref z) >>= _) _ _ _; refine wpAny_bind ?_; unfold Builtin.SmallTypes.ownedTupleIsFree; refine wpAny_bind (wpAny_field hZ rfl (x := .none) rfl (wpAny_pure ?_)); simp only [if_true]; refine wpAny_bind (wpAny_rule ?_); refine wpAny_bind (wpAny_field hZ rfl (x := .ref TO) rfl ?_)
  refine wpAny_bind (wpAny_setField_rec hZ (by simp) fun h₁ z₁ u₁ => ?_); replace z₁ : IsZip h₁ z TI TO .ellipsis := z₁; refine wpAny_bind ?_; simp only [List.zipIdx_cons, List.zipIdx_nil, List.forIn_cons, List.forIn_nil]

  refine wpAny_bind (wpAny_bind (wpAny_onRaise ?_)); show wpAny _ _ (Builtin.SmallTypes.nextOf (.ref i1) >>= _) _ _ _; refine wpAny_bind (nextOf2_item (w1.extBut u₁.extBut D.i1z) (gl1.extBut u₁.extBut D.l1z) hx fun h₂ w1₂ u₂ => wpAny_pure ?_); have o₂ : IsPair h₂ TO a b := u₂.extBut _ _ D.TOi1 (u₁.extBut _ _ D.TOz tO); refine wpAny_bind (wpAny_seqItems o₂ rfl ?_); refine wpAny_bind (wpAny_updateSeq_pair o₂ fun h₃ o₃ u₃ => ?_); replace o₃ : IsPair h₃ TO x b := o₃; refine wpAny_bind (wpAny_letGo (wpAny_pure ?_))

  refine wpAny_bind (wpAny_bind (wpAny_onRaise ?_)); show wpAny _ _ (Builtin.SmallTypes.nextOf (.ref i2) >>= _) _ _ _
  refine wpAny_bind (nextOf2_item (((w2.extBut u₁.extBut D.i2z).extBut u₂.extBut D.i12.symm).extBut u₃.extBut D.TOi2.symm)
    (((gl2.extBut u₁.extBut D.l2z).extBut u₂.extBut D.l2i1).extBut u₃.extBut D.l2TO) hy fun h₄ w2₄ u₄ => wpAny_pure ?_)
  have o₄ : IsPair h₄ TO x b := u₄.extBut _ _ D.TOi2 o₃; refine wpAny_bind (wpAny_seqItems o₄ rfl ?_); refine wpAny_bind (wpAny_updateSeq_pair o₄ fun h₅ o₅ u₅ => ?_); replace o₅ : IsPair h₅ TO x y := o₅; refine wpAny_bind (wpAny_letGo (wpAny_pure (wpAny_pure ?_)))

  refine wpAny_bind (wpAny_seqItems o₅ rfl ?_); refine wpAny_bind (wpAny_newTuple ?_)
  have sZ : h₅.objs.size = s.heap.objs.size := by rw [u₅.1, u₄.1, u₃.1, u₂.1, u₁.1]
  have z₅ : IsZip h₅ z TI TO .ellipsis := u₅.extBut _ _ D.TOz.symm (u₄.extBut _ _ D.i2z.symm (u₃.extBut _ _ D.TOz.symm (u₂.extBut _ _ D.i1z.symm z₁)))
  have kp₅ : ∀ c o, c ≠ z → c ≠ TO → c ≠ i1 → c ≠ i2 → s.heap.get? c = some o → h₅.get? c = some o := fun c o c1 c2 c3 c4 e =>
    u₅.extBut _ _ c2 (u₄.extBut _ _ c4 (u₃.extBut _ _ c2 (u₂.extBut _ _ c3 (u₁.extBut _ _ c1 e))))
  have w1₅ : It2 b1 h₅ i1 l1 (k1 + 1) := ((w1₂.extBut u₃.extBut D.TOi1.symm).extBut u₄.extBut D.i12).extBut u₅.extBut D.TOi1.symm; have w2₅ : It2 b2 h₅ i2 l2 (k2 + 1) := w2₄.extBut u₅.extBut D.TOi2.symm; have zlt : z < h₅.objs.size := Heap.lt_size z₅; have olt : TO < h₅.objs.size := Heap.lt_size o₅; have lt1 : i1 < h₅.objs.size := It2.lt w1₅; have lt2 : i2 < h₅.objs.size := It2.lt w2₅; show wpAny _ _ (Builtin.SmallTypes.ownedTupleHandOut (.ref z) (.ref h₅.objs.size) >>= _) _ _ _; refine wpAny_bind ?_; unfold Builtin.SmallTypes.ownedTupleHandOut; have z₆ : IsZip (h₅.push { cls := .type "tuple", data := .seq #[x, y] }) z TI TO .ellipsis := Heap.get?_push_of_some _ z₅
  refine wpAny_bind (wpAny_setField_rec z₆ (by simp) fun h₇ z₇ u₇ => ?_); replace z₇ : IsZip h₇ z TI TO (rawInt h₅.objs.size) := z₇; refine wpAny_setField_rec z₇ (by simp) fun h₈ z₈ u₈ => ?_; replace z₈ : IsZip h₈ z TI TO (rawInt h₅.objs.size) := z₈; have up : ∀ c o, c ≠ z → h₅.get? c = some o → h₈.get? c = some o := fun c o c1 e => u₈.extBut _ _ c1 (u₇.extBut _ _ c1 (Heap.get?_push_of_some _ e)); have hT8 : IsPair h₈ h₅.objs.size x y := u₈.extBut _ _ (Nat.ne_of_gt zlt) (u₇.extBut _ _ (Nat.ne_of_gt zlt) (Heap.get?_push_size _ rfl))
  have zz8 : h₈.objs.size = h₅.objs.size + 1 := by rw [u₈.1, u₇.1, Heap.size_push]
  rw [sZ] at z₈ hT8 zz8; refine wpAny_pure ⟨_, rfl, ?_⟩; show Q (.ref h₅.objs.size) _; rw [sZ]; exact kQ h₈ z₈ (up _ _ D.TOz o₅) (w1₅.at fun o e => up _ o D.i1z e) (w2₅.at fun o e => up _ o D.i2z e) hT8 zz8 fun c o c1 c2 c3 c4 e => up c o c1 (kp₅ c o c1 c2 c3 c4 e)

theorem zipQ_next_end {b1 b2 : Bool} {z TI TO i1 i2 l1 l2 : Addr} {k1 k2 : Nat} {xs ys : Array Value} {a b : Value} {Q : Fin → Shared → Prop} (hh : A.handled = none) (D : ZipApart z TI TO i1 i2 l1 l2) (hZ : IsZip s.heap z TI TO .none) (tI : IsPair s.heap TI (.ref i1) (.ref i2)) (tO : IsPair s.heap TO a b) (w1 : It2 b1 s.heap i1 l1 k1) (w2 : It2 b2 s.heap i2 l2 k2) (gl1 : Sq2 b1 s.heap l1 xs) (gl2 : Sq2 b2 s.heap l2 ys) (hen : xs[k1]? = none ∨ ys[k2]? = none) (kE : ∀ h' e, (∀ c o, c ≠ z → c ≠ TO → c ≠ i1 → c ≠ i2 → s.heap.get? c = some o → h'.get? c = some o) → (∃ o, h'.get? e = some o ∧ o.cls = .type "StopIteration") → E (.ref e) { s with heap := h' }) : wpAny (model prog w) A (Builtin.«zip.__next__» ⟨[.ref z], []⟩) Q E s := by
  show wpAny _ _ (field (.ref z) 2 >>= _) _ _ _; refine wpAny_bind (wpAny_field hZ rfl (x := .bool false) rfl ?_); show wpAny _ _ (field (.ref z) 3 >>= _) _ _ _; refine wpAny_bind (wpAny_field hZ rfl (x := .ref TI) rfl ?_); refine wpAny_bind (wpAny_seqItems tI rfl ?_); show wpAny _ _ (Builtin.SmallTypes.ownedTupleIsFree (.ref z) >>= _) _ _ _; refine wpAny_bind ?_; unfold Builtin.SmallTypes.ownedTupleIsFree; refine wpAny_bind (wpAny_field hZ rfl (x := .none) rfl (wpAny_pure ?_)); simp only [if_true]; refine wpAny_bind (wpAny_rule ?_); refine wpAny_bind (wpAny_field hZ rfl (x := .ref TO) rfl ?_)
  refine wpAny_bind (wpAny_setField_rec hZ (by simp) fun h₁ z₁ u₁ => ?_); replace z₁ : IsZip h₁ z TI TO .ellipsis := z₁; refine wpAny_bind ?_; simp only [List.zipIdx_cons, List.zipIdx_nil, List.forIn_cons, List.forIn_nil]; refine wpAny_bind (wpAny_bind (wpAny_onRaise ?_)); show wpAny _ _ (Builtin.SmallTypes.nextOf (.ref i1) >>= _) _ _ _
  cases hx : xs[k1]? with
  | none =>
    refine wpAny_bind (nextOf2_end hh (w1.extBut u₁.extBut D.i1z) (gl1.extBut u₁.extBut D.l1z) hx fun h₂ e u₂ he => ?_); obtain ⟨oe, hoe, hce⟩ := he; have z₂ : IsZip h₂ z TI TO .ellipsis := u₂ _ _ D.i1z.symm z₁
    have hez : e ≠ z := fun x => by subst x; rw [z₂] at hoe; cases hoe; simp at hce
    refine wpAny_setField_rec z₂ (by simp) fun h₃ _ u₃ => kE h₃ e (fun c o c1 _ c3 _ x => u₃.extBut _ _ c1 (u₂ _ _ c3 (u₁.extBut _ _ c1 x))) ⟨oe, u₃.extBut _ _ hez hoe, hce⟩
  | some x =>
    have hy : ys[k2]? = none := by rcases hen with h | h; rw [hx] at h; cases h; exact h
    refine wpAny_bind (nextOf2_item (w1.extBut u₁.extBut D.i1z) (gl1.extBut u₁.extBut D.l1z) hx fun h₂ w1₂ u₂ => wpAny_pure ?_); have o₂ : IsPair h₂ TO a b := u₂.extBut _ _ D.TOi1 (u₁.extBut _ _ D.TOz tO); refine wpAny_bind (wpAny_seqItems o₂ rfl ?_); refine wpAny_bind (wpAny_updateSeq_pair o₂ fun h₃ o₃ u₃ => ?_); refine wpAny_bind (wpAny_letGo (wpAny_pure ?_)); refine wpAny_bind (wpAny_bind (wpAny_onRaise ?_)); show wpAny _ _ (Builtin.SmallTypes.nextOf (.ref i2) >>= _) _ _ _
    refine wpAny_bind (nextOf2_end hh (((w2.extBut u₁.extBut D.i2z).extBut u₂.extBut D.i12.symm).extBut u₃.extBut D.TOi2.symm)
      (((gl2.extBut u₁.extBut D.l2z).extBut u₂.extBut D.l2i1).extBut u₃.extBut D.l2TO) hy fun h₄ e u₄ he => ?_)
    obtain ⟨oe, hoe, hce⟩ := he; have z₄ : IsZip h₄ z TI TO .ellipsis := u₄ _ _ D.i2z.symm (u₃.extBut _ _ D.TOz.symm (u₂.extBut _ _ D.i1z.symm z₁))
    have hez : e ≠ z := fun x => by subst x; rw [z₄] at hoe; cases hoe; simp at hce
    refine wpAny_setField_rec z₄ (by simp) fun h₅ _ u₅ => kE h₅ e (fun c o c1 c2 c3 c4 x => u₅.extBut _ _ c1 (u₄ _ _ c4 (u₃.extBut _ _ c2 (u₂.extBut _ _ c3 (u₁.extBut _ _ c1 x))))) ⟨oe, u₅.extBut _ _ hez hoe, hce⟩

theorem pyNext_zipQ_item {b1 b2 : Bool} {z TI TO i1 i2 l1 l2 : Addr} {k1 k2 : Nat} {xs ys : Array Value} {x y a b : Value} {Q : Option Value → Shared → Prop} (D : ZipApart z TI TO i1 i2 l1 l2) (hZ : IsZip s.heap z TI TO .none) (tI : IsPair s.heap TI (.ref i1) (.ref i2)) (tO : IsPair s.heap TO a b) (w1 : It2 b1 s.heap i1 l1 k1) (w2 : It2 b2 s.heap i2 l2 k2) (gl1 : Sq2 b1 s.heap l1 xs) (gl2 : Sq2 b2 s.heap l2 ys) (hx : xs[k1]? = some x) (hy : ys[k2]? = some y) (kQ : ∀ h', IsZip h' z TI TO (rawInt s.heap.objs.size) → IsPair h' TO x y → It2 b1 h' i1 l1 (k1 + 1) → It2 b2 h' i2 l2 (k2 + 1) → IsPair h' s.heap.objs.size x y → h'.objs.size = s.heap.objs.size + 1 → (∀ c o, c ≠ z → c ≠ TO → c ≠ i1 → c ≠ i2 → s.heap.get? c = some o → h'.get? c = some o) → Q (some (.ref s.heap.objs.size)) { s with heap := h' }) : wpAny (model prog w) A (pyNext (.ref z)) Q E s := by
  have tT : s.TypeIs (.ref z) "zip" := ⟨_, hZ, rfl⟩; unfold pyNext
  exact wpAny_bind (wpAny_attempt (wpAny_callSpecial?_slot (name := Str.ofString "__next__") tT F.slot_zip_next
    (wpAny_call_entry F.slot_zip_next tT F.entry_zip_next
      (zipQ_next_item D hZ tI tO w1 w2 gl1 gl2 hx hy fun h' a1 a2 a3 a4 a5 a6 a7 => wpAny_pure (kQ h' a1 a2 a3 a4 a5 a6 a7)) (F.args_zip_next_1 _))))

theorem pyNext_zipQ_end {b1 b2 : Bool} {z TI TO i1 i2 l1 l2 : Addr} {k1 k2 : Nat} {xs ys : Array Value} {a b : Value} {Q : Option Value → Shared → Prop} (hh : A.handled = none) (D : ZipApart z TI TO i1 i2 l1 l2) (hZ : IsZip s.heap z TI TO .none) (tI : IsPair s.heap TI (.ref i1) (.ref i2)) (tO : IsPair s.heap TO a b) (w1 : It2 b1 s.heap i1 l1 k1) (w2 : It2 b2 s.heap i2 l2 k2) (gl1 : Sq2 b1 s.heap l1 xs) (gl2 : Sq2 b2 s.heap l2 ys) (hen : xs[k1]? = none ∨ ys[k2]? = none) (kQ : ∀ h', (∀ c o, c ≠ z → c ≠ TO → c ≠ i1 → c ≠ i2 → s.heap.get? c = some o → h'.get? c = some o) → Q none { s with heap := h' }) : wpAny (model prog w) A (pyNext (.ref z)) Q E s := by
  have tT : s.TypeIs (.ref z) "zip" := ⟨_, hZ, rfl⟩; unfold pyNext
  refine wpAny_bind (wpAny_attempt (wpAny_callSpecial?_slot (name := Str.ofString "__next__") tT F.slot_zip_next
    (wpAny_call_entry F.slot_zip_next tT F.entry_zip_next (zipQ_next_end hh D hZ tI tO w1 w2 gl1 gl2 hen fun h' e hk he => ?_) (F.args_zip_next_1 _))))
  obtain ⟨o, ho, hc⟩ := he; refine wpAny_bind (wpAny_isInstance (T := "StopIteration") (b := true) ⟨o, ho, hc⟩ isSubtype_stop ?_); exact wpAny_pure (kQ _ hk)
end
abbrev zipQH1 (b1 b2 : Bool) (h : Heap) (l1 : Addr) : Heap := h.push { cls := .type (itN b1), data := .fields #[.ref l1, .int 0 0] }
abbrev zipQH2 (b1 b2 : Bool) (h : Heap) (l1 l2 : Addr) : Heap := (zipQH1 b1 b2 h l1).push { cls := .type (itN b2), data := .fields #[.ref l2, .int 0 0] }
abbrev zipQH3 (b1 b2 : Bool) (h : Heap) (l1 l2 : Addr) : Heap := (zipQH2 b1 b2 h l1 l2).push { cls := .type "tuple", data := .seq #[.ref h.objs.size, .ref (zipQH1 b1 b2 h l1).objs.size] }
abbrev zipQH4 (b1 b2 : Bool) (h : Heap) (l1 l2 : Addr) : Heap := (zipQH3 b1 b2 h l1 l2).push { cls := .type "tuple", data := .seq #[.none, .none] }
abbrev zipQH5 (b1 b2 : Bool) (h : Heap) (l1 l2 : Addr) : Heap := (zipQH4 b1 b2 h l1 l2).push { cls := .type "zip", data := .fields #[.none, .bool false, .bool false, .ref (zipQH2 b1 b2 h l1 l2).objs.size, .ref (zipQH3 b1 b2 h l1 l2).objs.size] }

theorem meets_zipQ_new {b1 b2 : Bool} (l1 l2 : Addr) (xs ys : Array Value) : Meets (Builtin.«zip.__new__» ⟨[.type "zip", .ref l1, .ref l2], []⟩) (fun _ R s => Sq2 b1 s.heap l1 xs ∧ Sq2 b2 s.heap l2 ys ∧ R (.ok (.ret (.ref (zipQH4 b1 b2 s.heap l1 l2).objs.size))) { s with heap := zipQH5 b1 b2 s.heap l1 l2 }) :=
  .of_wp fun prog w A R s h => by
    obtain ⟨hp, g, d, tk, os⟩ := s; obtain ⟨q1, q2, h⟩ := h; have sbz := sub_zip; cases b1 <;> cases b2
    · have L1 : Heap.IsTuple (Shared.heap ⟨hp, g, d, tk, os⟩) l1 xs := q1
      have L2 : Heap.IsTuple (Shared.heap ⟨hp.push { cls := .type "tuple_iterator", data := .fields #[.ref l1, .int 0 0] }, g, d, tk, os⟩) l2 ys := Heap.IsTuple.push q2 _
      wp_walk using wpAny_pyIter_tuple L1, wpAny_pyIter_tuple L2
      exact ⟨_, rfl, h⟩
    · have L1 : Heap.IsTuple (Shared.heap ⟨hp, g, d, tk, os⟩) l1 xs := q1
      have L2 : Heap.IsList (Shared.heap ⟨hp.push { cls := .type "tuple_iterator", data := .fields #[.ref l1, .int 0 0] }, g, d, tk, os⟩) l2 ys := Heap.IsList.push q2 _
      wp_walk using wpAny_pyIter_tuple L1, wpAny_pyIter_list L2
      exact ⟨_, rfl, h⟩
    · have L1 : Heap.IsList (Shared.heap ⟨hp, g, d, tk, os⟩) l1 xs := q1
      have L2 : Heap.IsTuple (Shared.heap ⟨hp.push { cls := .type "list_iterator", data := .fields #[.ref l1, .int 0 0] }, g, d, tk, os⟩) l2 ys := Heap.IsTuple.push q2 _
      wp_walk using wpAny_pyIter_list L1, wpAny_pyIter_tuple L2
      exact ⟨_, rfl, h⟩
    · have L1 : Heap.IsList (Shared.heap ⟨hp, g, d, tk, os⟩) l1 xs := q1
      have L2 : Heap.IsList (Shared.heap ⟨hp.push { cls := .type "list_iterator", data := .fields #[.ref l1, .int 0 0] }, g, d, tk, os⟩) l2 ys := Heap.IsList.push q2 _
      wp_walk using wpAny_pyIter_list L1, wpAny_pyIter_list L2
      exact ⟨_, rfl, h⟩

section
variable {prog : Program} {w : World} {A : Around} {E : Value → Shared → Prop} {s : Shared}

theorem call_zipQ {b1 b2 : Bool} {l1 l2 : Addr} {xs ys : Array Value} {Q : Value → Shared → Prop} (gl1 : Sq2 b1 s.heap l1 xs) (gl2 : Sq2 b2 s.heap l2 ys) (h : ∀ h', IsZip h' (s.heap.objs.size + 4) (s.heap.objs.size + 2) (s.heap.objs.size + 3) .none → IsPair h' (s.heap.objs.size + 2) (.ref s.heap.objs.size) (.ref (s.heap.objs.size + 1)) → IsPair h' (s.heap.objs.size + 3) .none .none → It2 b1 h' s.heap.objs.size l1 0 → It2 b2 h' (s.heap.objs.size + 1) l2 0 → h'.objs.size = s.heap.objs.size + 5 → (∀ c o, s.heap.get? c = some o → h'.get? c = some o) → Q (.ref (s.heap.objs.size + 4)) { s with heap := h' }) : wpAny (model prog w) A (call (.type "zip") [.ref l1, .ref l2]) Q E s := by
  refine callType_new F.called_zip (by decide) (F.typeCall_zip_2 _ _) (F.newCall_zip_2 _ _) (fun obj => F.args_object_init_3 obj _ _) F.entry_zip_new (meets_zipQ_new l1 l2 xs ys) ⟨gl1, gl2, ?_⟩
  have z1 : (zipQH1 b1 b2 s.heap l1).objs.size = s.heap.objs.size + 1 := Heap.size_push ..
  have z2 : (zipQH2 b1 b2 s.heap l1 l2).objs.size = s.heap.objs.size + 2 := by rw [Heap.size_push, z1]
  have z3 : (zipQH3 b1 b2 s.heap l1 l2).objs.size = s.heap.objs.size + 3 := by rw [Heap.size_push, z2]
  have z4 : (zipQH4 b1 b2 s.heap l1 l2).objs.size = s.heap.objs.size + 4 := by rw [Heap.size_push, z3]
  have z5 : (zipQH5 b1 b2 s.heap l1 l2).objs.size = s.heap.objs.size + 5 := by rw [Heap.size_push, z4]
  have g5 : (zipQH5 b1 b2 s.heap l1 l2).get? (zipQH4 b1 b2 s.heap l1 l2).objs.size = some _ := Heap.get?_push_size _ rfl; have g4 : (zipQH5 b1 b2 s.heap l1 l2).get? (zipQH3 b1 b2 s.heap l1 l2).objs.size = some _ := Heap.get?_push_of_some _ (Heap.get?_push_size _ rfl); have g3 : (zipQH5 b1 b2 s.heap l1 l2).get? (zipQH2 b1 b2 s.heap l1 l2).objs.size = some _ := Heap.get?_push_of_some _ (Heap.get?_push_of_some _ (Heap.get?_push_size _ rfl)); have g2 : (zipQH5 b1 b2 s.heap l1 l2).get? (zipQH1 b1 b2 s.heap l1).objs.size = some _ := Heap.get?_push_of_some _ (Heap.get?_push_of_some _ (Heap.get?_push_of_some _ (Heap.get?_push_size _ rfl)))
  have g1 : (zipQH5 b1 b2 s.heap l1 l2).get? s.heap.objs.size = some _ := Heap.get?_push_of_some _ (Heap.get?_push_of_some _ (Heap.get?_push_of_some _ (Heap.get?_push_of_some _ (Heap.get?_push_size _ rfl)))); show _ ∧ _; rw [z2, z3, z4] at g5; rw [z1, z2] at g3; rw [z3] at g4; rw [z1] at g2; rw [z4]
  exact ⟨⟨_, g5, rfl⟩, h _ g5 g3 g4 (It2.mk g1) (It2.mk g2) z5 fun c o x => Heap.get?_push_of_some _ (Heap.get?_push_of_some _ (Heap.get?_push_of_some _ (Heap.get?_push_of_some _ (Heap.get?_push_of_some _ x))))⟩
end

end Y
namespace Y
open PySem PySem.Spec PyProof.Rows L2
def SqQ (K : PySem.W.Frag) (b : Bool) (H : Hp) (a : Addr) (xs : List V) : Prop := match b with | true => SqL K H a xs | false => SqT K H a xs
theorem inv_sq {X : Cx} {pins : List (Addr × Obj)} {σ : L2.St} {H : Hp} {s : Shared} {b : Bool} {a : Addr} {xs : List V} (I : Inv X pins σ H s) (h : SqQ X.K b H a xs) : ∃ it1, Vals xs it1 ∧ Sq2 b s.heap a it1.toArray := by
  cases b
  · obtain ⟨it1, rv1, p, _⟩ := I.tuple h
    exact ⟨it1, rv1, p⟩
  · obtain ⟨it1, rv1, p, _⟩ := I.list h
    exact ⟨it1, rv1, p.isList⟩
theorem sq_inj {X : Cx} {pins : List (Addr × Obj)} {σ : L2.St} {H : Hp} {s : Shared} {b : Bool} {a : Addr} {xs ys : List V} (I : Inv X pins σ H s) (h : SqQ X.K b H a xs) (w2 : SqQ X.K b H a ys) : xs = ys := by
  cases b
  · exact I.tuple_inj h w2
  · exact I.list_inj h w2
theorem sq_lt {X : Cx} {pins : List (Addr × Obj)} {σ : L2.St} {H : Hp} {s : Shared} {b : Bool} {a : Addr} {zs : Array Value} (p : Sq2 b s.heap a zs) : a < s.heap.objs.size := by
  cases b
  · obtain ⟨o, e, _⟩ := (show s.heap.IsTuple a zs from p)
    exact Heap.lt_size e
  · obtain ⟨o, e, _⟩ := (show s.heap.IsList a zs from p)
    exact Heap.lt_size e
/-- both as they stand at each turn, their items in new pairs -/
def ItzQ (K : PySem.W.Frag) (b1 b2 : Bool) (a b : Addr) : It :=
  ⟨fun i H => ∃ (xs ys : List V) (x y : V), SqQ K b1 H a xs ∧ SqQ K b2 H b ys ∧ xs[i]? = some x ∧ ys[i]? = some y,
    fun i H v H' => ∃ T x y, v = .ref T ∧ H T = none ∧ H' = upd H T (.tup [x, y]) ∧ (∀ xs, SqQ K b1 H a xs → xs[i]? = some x) ∧ ∀ ys, SqQ K b2 H b ys → ys[i]? = some y,
    fun i H => ∃ xs ys : List V, SqQ K b1 H a xs ∧ SqQ K b2 H b ys ∧ (xs.length ≤ i ∨ ys.length ≤ i)⟩
theorem turn_zipQ {b1 b2 : Bool} {P : Program} {w : World} {K : PySem.W.Frag} {elts : List Expr} {kk : Nat} {tpos : Pos} {a b z TI TO i1 i2 : Addr} (D : ZipApart z TI TO i1 i2 a b) : Turn P w K (.Tuple elts kk tpos) (ItzQ K b1 b2 a b) [z, TI, TO, i1, i2] z (fun i h => IsZip h z TI TO .none ∧ IsPair h TI (.ref i1) (.ref i2) ∧ (∃ x y, IsPair h TO x y) ∧ It2 b1 h i1 a i ∧ It2 b2 h i2 b i) where
  mem := by simp
  obj := fun i h st c hc => by
    obtain ⟨hZ, tI, ⟨x, y, tO⟩, g1, g2⟩ := st; obtain ⟨o1, e1, d1⟩ := g1.obj; obtain ⟨o2, e2, d2⟩ := g2.obj
    have m5 : c = z ∨ c = TI ∨ c = TO ∨ c = i1 ∨ c = i2 := by simpa using hc
    rcases m5 with m | m | m | m | m
    · rw [m]; exact ⟨_, hZ, fun v q => nomatch q⟩
    · rw [m]; exact ⟨_, tI, fun v q => nomatch q⟩
    · rw [m]; exact ⟨_, tO, fun v q => nomatch q⟩
    · rw [m]; exact ⟨o1, e1, d1⟩
    · rw [m]; exact ⟨o2, e2, d2⟩
  keep := fun i h h' st k => by
    obtain ⟨hZ, tI, ⟨x, y, tO⟩, w1, w2⟩ := st; exact ⟨k z (by simp) _ hZ, k TI (by simp) _ tI, ⟨x, y, k TO (by simp) _ tO⟩, w1.at fun o q => k i1 (by simp) o q, w2.at fun o q => k i2 (by simp) o q⟩
  item := by
    intro X hP hw hK hc i pins s σ H E I hf st hg; subst hP hw hK; obtain ⟨hZ, tI, ⟨xo, yo, tO⟩, w1, w2⟩ := st; obtain ⟨xs, ys, x, y, qx, qy, hx, hy⟩ := hg; obtain ⟨it1, rv1, p⟩ := inv_sq I qx; obtain ⟨it2, rv2, p2⟩ := inv_sq I qy; obtain ⟨u, hu, ru⟩ := rv1.get hx; obtain ⟨u2, hu2, ru2⟩ := rv2.get hy; have hzl : z < s.heap.objs.size := Heap.lt_size hZ; refine pyNext_zipQ_item D hZ tI tO w1 w2 p p2 (x := u) (y := u2) (by simpa using hu) (by simpa using hu2) fun h' z' TO' h1' h2' tT sZ hk => ?_; refine ⟨_, rfl, wpAny_letOwnedTupleGo_zip (s := { s with heap := h' }) z' fun h'' z'' sbt => ?_⟩; have hT2 : h''.get? s.heap.objs.size = some { cls := .type "tuple", data := .seq #[u, u2] } := (sbt.2 _ (Nat.ne_of_gt hzl)).trans tT
    have nw : ObjOk X.prog X.w (upd H s.heap.objs.size (.tup [x, y])) h'' s.heap.objs.size (.tup [x, y]) := ⟨by show 2 ≤ sizeLine; decide, [u, u2], .cons ru (.cons ru2 .nil), ⟨_, hT2, rfl, _, rfl⟩⟩
    have I1 : Inv X pins σ (upd H s.heap.objs.size (.tup [x, y])) { s with heap := h'' } := I.turnedNew (t' := s.toks) (ch := [z, TI, TO, i1, i2]) (fun c o hb q => (sbt.2 c (fun q' => hb (by simp [q']))).trans (hk c o (fun q' => hb (by simp [q'])) (fun q' => hb (by simp [q'])) (fun q' => hb (by simp [q'])) (fun q' => hb (by simp [q'])) q)) hf (Nat.le_refl _) nw
    refine ⟨.ref s.heap.objs.size, _, I1, rfl, ⟨_, x, y, rfl, I.hok.fresh (Nat.le_refl _), rfl, fun l hl => by rw [sq_inj I hl qx]; exact hx, fun l hl => by rw [sq_inj I hl qy]; exact hy⟩, ⟨z'', ?_, ⟨u, u2, ?_⟩, ?_, ?_⟩, fun c hcm => ?_⟩
    · exact (sbt.2 _ D.TIz).trans (hk _ _ D.TIz D.TITO D.TIi1 D.TIi2 tI)
    · exact (sbt.2 _ D.TOz).trans TO'
    · exact h1'.at fun o q => (sbt.2 _ D.i1z).trans q
    · exact h2'.at fun o q => (sbt.2 _ D.i2z).trans q
    · have clt : c < s.heap.objs.size := by
        have m5 : c = z ∨ c = TI ∨ c = TO ∨ c = i1 ∨ c = i2 := by simpa using hcm
        rcases m5 with m | m | m | m | m
        · rw [m]; exact hzl
        · rw [m]; exact Heap.lt_size tI
        · rw [m]; exact Heap.lt_size tO
        · rw [m]; exact It2.lt w1
        · rw [m]; exact It2.lt w2
      rw [upd_ne (Nat.ne_of_lt clt)]; exact (hf c hcm).1
  done := by
    intro X hP hw hK hc i pins s σ H E I hf st hg; subst hP hw hK; obtain ⟨hZ, tI, ⟨xo, yo, tO⟩, w1, w2⟩ := st; obtain ⟨xs, ys, qx, qy, hen⟩ := hg; obtain ⟨it1, rv1, p⟩ := inv_sq I qx; obtain ⟨it2, rv2, p2⟩ := inv_sq I qy; have l1 := rv1.length; have l2 := rv2.length
    have he : it1.toArray[i]? = none ∨ it2.toArray[i]? = none := by
      rcases hen with q | q
      · exact .inl (by simp; omega)
      · exact .inr (by simp; omega)
    exact pyNext_zipQ_end (I.ok.hd hc) D hZ tI tO w1 w2 p p2 he fun h' hk => ⟨rfl, I.turnedL (t' := s.toks) (ch := [z, TI, TO, i1, i2]) (fun c o hb q => hk c o (fun q' => hb (by simp [q'])) (fun q' => hb (by simp [q'])) (fun q' => hb (by simp [q'])) (fun q' => hb (by simp [q'])) q) hf⟩
  self := fun _ _ _ _ _ z0 q0 => wpAny_pyIter_zip z0.1 q0


def iZipQ (K : PySem.W.Frag) (ta : TA) : TI := fun σ H R => ta σ H fun vs H1 => ∃ a b xs ys b1 b2, vs = [.ref a, .ref b] ∧ SqQ K b1 H1 a xs ∧ SqQ K b2 H1 b ys ∧ R (ItzQ K b1 b2 a b) H1
theorem pi_zipQ {X : Cx} {e e2 : Expr} {ta : TA} {p pos tpos : Pos} {elts : List Expr} {kk : Nat} (K : PySem.W.Frag) (hK : X.K = K) (hg : Gl X "zip") (hm : X.mg "zip" = none) (ha : PA X [e, e2] ta) (hs : starEach [e, e2] X.env = (false, eval e X.env) :: starEach [e2] X.env := by rfl) (hpl : (backTo pos (starEach [e2] X.env)).any (·.1) = false := by rfl) : PI X (.Tuple elts kk tpos) (.Call (.Name "zip" p) [e, e2] [] pos) (iZipQ K ta) := by
  subst hK; refine ⟨fun ps s σ H R I h => Call_ (ld_blt I hg hm PyProof.Rows.boot_zip (PyProof.Rows.callWith_type1 (thn (ha.run pos ps s σ H _ I h) fun us s1 ⟨vs, H1, J, r1, z⟩ => ?_) hs hpl))⟩; obtain ⟨a, b, xs, ys, b1, b2, rfl, sx, sy, q⟩ := z
  cases r1 with
  | cons r rr =>
    cases rr with
    | cons r' rr =>
      cases rr; cases r; cases r'; obtain ⟨z1, v1, p1⟩ := inv_sq J sx; obtain ⟨z2, v2, p2⟩ := inv_sq J sy
      have new : ∀ c, c ∈ [s1.heap.objs.size + 4, s1.heap.objs.size + 2, s1.heap.objs.size + 3, s1.heap.objs.size, s1.heap.objs.size + 1] → FpOk X ps H1 c := fun c m => by
        have le : s1.heap.objs.size ≤ c := by simp at m; omega
        exact J.fpOk le (J.hok.fresh le)
      refine call_zipQ p1 p2 fun h' g1 g2 g3 g4 g5 _ kp => wpAny_pyIter_zip g1 ?_
      exact ⟨s1.heap.objs.size + 4, [s1.heap.objs.size + 4, s1.heap.objs.size + 2, s1.heap.objs.size + 3, s1.heap.objs.size, s1.heap.objs.size + 1], _, _, H1, rfl, J.kept (t' := s1.toks) kp,
        turn_zipQ (PySem.W.ktu_apart s1.heap.objs.size a b (sq_lt (X := X) (pins := ps) (σ := σ) (H := H1) p1) (sq_lt (X := X) (pins := ps) (σ := σ) (H := H1) p2)), ⟨g1, g2, ⟨_, _, g3⟩, g4, g5⟩, new, q⟩
theorem walk_zipQ {K : PySem.W.Frag} {b1 b2 : Bool} {a b : Addr} {xs ys : List V} {n : Nat} (hn : n = min xs.length ys.length) : Walk (ItzQ K b1 b2 a b) n (fun H => SqQ K b1 H a xs ∧ SqQ K b2 H b ys) (YPair (fun i => xs[i]?) (fun i => ys[i]?)) := by
  subst hn
  constructor
  · exact fun i H hi z => ⟨xs, ys, xs[i]'(by omega), ys[i]'(by omega), z.1, z.2, List.getElem?_eq_getElem _, List.getElem?_eq_getElem _⟩
  · exact fun H z => ⟨xs, ys, z.1, z.2, by omega⟩
  · rintro i H v H' _ z ⟨U, x, y, e1, e2, e3, e4, e5⟩; exact ⟨U, x, y, e1, e2, e3, e4 xs z.1, e5 ys z.2⟩
end Y
/-! a tuple taken once or not at all; is not, of truths -/
namespace Y
open PySem PySem.Spec PyProof.Rows L2
theorem mul_one' (l : Addr) (items : Array Value) (n : Nat) (dd : Option Addr) (sl : Array (Option Value)) (u : Tok) :
    Meets (Builtin.«tuple.__mul__» ⟨[.ref l, .int 1 u], []⟩) (fun _ R s => s.heap.get? l = some { cls := .type "tuple", dict := dd, data := .seq items n, slots := sl } ∧ R (.ok (.ret (Value.ref l))) s) := .of_wp fun prog w A R s h => by
  obtain ⟨hp, g, d, tk, os⟩ := s; obtain ⟨hl, h⟩ := h; have f1 := AutoSeq1.idx_int
  (wp_walk using wpAny_loadPart' hl); exact ⟨_, rfl, h⟩
theorem mul_no (l : Addr) (v : Value) (n : Nat) (dd : Option Addr) (sl : Array (Option Value)) (u : Tok) :
    Meets (Builtin.«tuple.__mul__» ⟨[.ref l, .int 0 u], []⟩) (fun _ R s => s.heap.get? l = some { cls := .type "tuple", dict := dd, data := .seq #[v] n, slots := sl } ∧ R (.ok (.ret (Value.ref s.heap.objs.size))) { s with heap := s.heap.push { cls := Value.type "tuple", data := Data.seq #[] }, toks := s.toks }) := .of_wp fun prog w A R s h => by
  obtain ⟨hp, g, d, tk, os⟩ := s; obtain ⟨hl, h⟩ := h; have f1 := AutoSeq1.idx_int
  (wp_walk using wpAny_loadPart' hl); exact ⟨_, rfl, h⟩
/-- (0,) * k -/
def rRepZ (K : PySem.W.Frag) : R2 := fun x y H Q => ∃ (l : Addr) (k : Nat), x = .ref l ∧ y = .int (k : Int) ∧ SqT K H l [.int 0] ∧ k ≤ 1000 ∧ (k = 1 → Q (.ref l) H) ∧ (k ≠ 1 → ∀ p, H p = none → Q (.ref p) (upd H p (.tup (List.replicate k (V.int 0)))))
section
variable {X : Cx}
theorem op_repZ (K : PySem.W.Frag) (hK : X.K = K) : OpR X (binaryOp .Mult) (rRepZ K) := by
  subst hK
  intro pins s σ H x y v u Q I rx ry h
  obtain ⟨l, k, rfl, rfl, hT, h2, q1, q2⟩ := h
  by_cases k2 : 2 ≤ k
  · refine op_repT pins s σ H (.ref l) (.int k) v u Q I rx ry ⟨l, k, [.int 0], rfl, rfl, hT, (by simp), by omega, by omega, (by simp), fun p hp => ?_⟩
    have e : (List.replicate (k : Int).toNat [V.int 0]).flatten = List.replicate k (V.int 0) := by
      rw [show (k : Int).toNat = k by omega]
      refine List.ext_getElem (by simp) fun i h1 h2 => by simp
    rw [e]; exact q2 (by omega) p hp
  · cases rx; obtain ⟨t, rfl⟩ := ry
    obtain ⟨its, r, ⟨⟨cls, dd, data, sl⟩, ho, hc, n, hd⟩, hs⟩ := I.tuple hT
    simp only at hc hd; subst hc hd
    obtain ⟨w0, rfl, rw0⟩ := vals1 r
    by_cases k1 : k = 1
    · subst k1
      exact wpAny_binaryOp_repeat_ref (T := "tuple") (U := "int") (by decide) ⟨_, ho, rfl⟩ (fun s' => typeIs_int s' _ t) noFill_tuple_mul F.fills_int_mul F.slot_int_rmul repeat_tuple F.slot_int_index.lookup (call_meets F.slot_int_rmul (typeIs_int s _ t) F.entry_int_rmul (F.args_int_rmul_2 _ _) (int_rmul_tuple _ t l _ n dd sl) ⟨ho, rfl, ⟨_, ho, rfl⟩, call_meets F.slot_tuple_mul ⟨_, ho, rfl⟩ F.entry_tuple_mul (F.args_tuple_mul_2 _ _) (mul_one' l _ n dd sl t) ⟨ho, .ref l, H, I, rfl, q1 rfl⟩⟩)
    · obtain rfl : k = 0 := by omega
      refine wpAny_binaryOp_repeat_ref (T := "tuple") (U := "int") (by decide) ⟨_, ho, rfl⟩ (fun s' => typeIs_int s' _ t) noFill_tuple_mul F.fills_int_mul F.slot_int_rmul repeat_tuple F.slot_int_index.lookup (call_meets F.slot_int_rmul (typeIs_int s _ t) F.entry_int_rmul (F.args_int_rmul_2 _ _) (int_rmul_tuple _ t l _ n dd sl) ⟨ho, rfl, ⟨_, ho, rfl⟩, call_meets F.slot_tuple_mul ⟨_, ho, rfl⟩ F.entry_tuple_mul (F.args_tuple_mul_2 _ _) (mul_no l w0 n dd sl t) ⟨ho, ?_⟩⟩)
      exact ⟨.ref s.heap.objs.size, _, I.laid (t' := s.toks) (o := .tup []) (fun b ob q => Heap.get?_push_of_some _ q) (Nat.le_refl _) ⟨(by show 0 ≤ sizeLine; decide), [], .nil, IsTup.new _ _⟩, rfl, q2 (by omega) _ (I.hok.fresh (Nat.le_refl _))⟩
/-- is not, of truths -/
theorem op_notB : OpR X (compareOp .IsNot) (fun x y H Q => ∃ a b, x = .bl a ∧ y = .bl b ∧ Q (.bl (!decide (a = b))) H) := by
  intro pins s σ H x y v u Q I rx ry h
  obtain ⟨a, b, rfl, rfl, q⟩ := h
  cases (show v = Value.bool a from rx); cases (show u = Value.bool b from ry)
  exact wpAny_isNot_plain rfl (fin_bl I q (by cases a <;> cases b <;> rfl))
end
end Y
/-! defs that show data: no showing is under way where they are called -/
namespace Y
open PySem PySem.Spec PyProof.Rows L2
structure FnOkG (P : Program) (w : World) (K : PySem.W.Frag) (mg : Str → Option Value) (base : Heap) (CX : CXT) (k : Nat) (f : Addr) (fd : FuncData) (ps : List Str) (sp : Sp) : Prop where
  len : ∀ vs H Q E, sp vs H Q E → vs.length = ps.length
  run : ∀ (A : Around) (outer : List Env) (s : Shared) (H : Hp) (args : Args) (us : List Value) (vs : List V) (Q : VK) (E : XK), Room k A → A.guards = some [] → Env0 P w K mg base A outer s H → BindsTo s fd args (ps.zip us) → Vals vs us → sp vs H Q E →
    codeAny (model P w) A (.call (.ref f) args) (CR CX outer P w H s Q E) s
section
variable {P : Program} {w : World} {K : PySem.W.Frag} {mg : Str → Option Value} {base : Heap}
theorem FnOkG.mono {CX : CXT} {j k : Nat} {f : Addr} {fd : FuncData} {ps : List Str} {sp : Sp} (F : FnOkG P w K mg base CX j f fd ps sp) (h : j ≤ k) : FnOkG P w K mg base CX k f fd ps sp := ⟨F.len, fun A outer s H args us vs Q E r => F.run A outer s H args us vs Q E (r.mono h)⟩
theorem okG {x qual : Str} {st : Stmt} {f : Addr} {fd : FuncData} {N ps : List Str} {k : Nat} {sp : Sp} (F : Fun K x qual st f fd) (S : FnScope N ps (defScope st)) (len : ∀ vs H Q E, sp vs H Q E → vs.length = ps.length)
    (body : ∀ (cdv : Value) (A : Around) (outer : List Env) (s : Shared) (H : Hp) (vs : List V) (Q : VK) (E : XK), A.guards = some [] → Room k (A.deeper (envOfC qual (defScope st) s.heap.objs.size f cdv)) → sp vs H Q E →
      ∃ t, PSs (cxOf CX0 P w K mg base N qual (defScope st) f cdv A outer s H E).nox (defBody st) t ∧ t { nx := fun _ H' => Q .non H', rt := Q } (L2.start N vs) H) : FnOkG P w K mg base CX0 (k + 1) f fd ps sp := by
  obtain ⟨oc, od, kV, doc, pm, an, cdv, ct, osl, rfl, lk, hcd⟩ := F.ex
  refine ⟨len, fun A outer s H args us vs Q E hr hg e0 hb r hsp => LamX.run_ofS lk hcd S hr e0 hb r (len vs H Q E hsp) fun hr2 => ?_⟩
  obtain ⟨t, h, q⟩ := body cdv A outer s H vs Q E hg hr2 hsp
  exact ⟨t, h.nox, q⟩
end
section
variable {X : Cx} {CX : CXT} {k : Nat} {f : Addr} {fd : FuncData} {ps : List Str} {sp : Sp} {dvs : List V} {ds : List Value} {E : XK} {x : Str} {p pos : Pos} {e : Expr} {es : List Expr} {t : TA}
/-- f(..), f a def that shows data -/
theorem pe_callG (F : FnOkG X.prog X.w X.K X.mg X.base CX k f fd ps sp) (gd : X.A.guards = some []) (hr : Room k X.A) (hg : Gl X x) (hm : X.mg x = some (.ref f)) (hk : PySem.W.keepIn X.K (.ref f) = true) (hb : Binds X.K fd ps ds) (hd : Vals dvs ds) (hx : Passes CX X E) (ha : PA X (e :: es) t)
    (hdb : (x == ("__debug__" : Str)) = false := by decide) (he : starEach (e :: es) X.env = (false, eval e X.env) :: starEach es X.env := by rfl) (hpl : (backTo pos (starEach es X.env)).any (·.1) = false := by rfl) : PE X (.Call (.Name x p) (e :: es) [] pos) (tCall sp dvs E t) := by
  refine ⟨fun pins s σ H Q I h => wpAny_Call_Name_kw (ld_glob I hg hm (PySem.W.callWith_K (h₀ := X.base) I.ok.mod.kin hk (thn (ha.run pos pins s σ H _ I h) fun us s1 ⟨vs, H1, I1, r, q⟩ => ⟨I1.kIn, ?_⟩) he hpl) hdb)⟩
  have r2 := r.append hd; have hl : (us ++ ds).length = ps.length := by rw [← r2.length]; exact F.len _ _ _ _ q
  refine wpAny_call (codeAny_mono (F.run X.A X.stack s1 H1 ⟨us, []⟩ (us ++ ds) (vs ++ dvs) Q E hr gd I1.env0 (hb s1 us I1.kIn hl) r2 q) fun r s' hq => ?_)
  match r, hq with
  | .error er, hq => exact hx pins σ H1 s1 er s' I1 hq
  | .ok (.ret u), hq => exact I1.after hq
  | .ok .next, hq | .ok .brk, hq | .ok .cont, hq => exact False.elim hq
/-- f(), f a def that shows data -/
theorem pe_callG0 (F : FnOkG X.prog X.w X.K X.mg X.base CX k f fd ps sp) (gd : X.A.guards = some []) (hr : Room k X.A) (hg : Gl X x) (hm : X.mg x = some (.ref f)) (hk : PySem.W.keepIn X.K (.ref f) = true) (hb : Binds X.K fd ps ds) (hd : Vals dvs ds) (hx : Passes CX X E)
    (hdb : (x == ("__debug__" : Str)) = false := by decide) : PE X (.Call (.Name x p) [] [] pos) (tCall sp dvs E tNil) := by
  refine ⟨fun pins s σ H Q I h => wpAny_Call_Name_kw (ld_glob I hg hm (PySem.W.callWith_K0 I.kIn hk ?_) hdb)⟩
  have r2 : Vals ([] ++ dvs) ([] ++ ds) := Vals.append .nil hd; have hl : ([] ++ ds).length = ps.length := by rw [← r2.length]; exact F.len _ _ _ _ h
  refine wpAny_call (codeAny_mono (F.run X.A X.stack s H ⟨[], []⟩ ([] ++ ds) ([] ++ dvs) Q E hr gd I.env0 (hb s [] I.kIn hl) r2 h) fun r s' hq => ?_)
  match r, hq with
  | .error er, hq => exact hx pins σ H s er s' I hq
  | .ok (.ret u), hq => exact I.after hq
  | .ok .next, hq | .ok .brk, hq | .ok .cont, hq => exact False.elim hq
/-- repr(x) of data -/
def rRepr (K : PySem.W.Frag) : List V → Hp → VK → Prop := fun xs H Q => ∃ v d, xs = [v] ∧ Dp K H v d ∧ SeqAt.shaped d = true ∧ d.showable = true ∧ d.shown.length ≤ sizeLine ∧ ((∃ i, d = .int i) ∨ ∃ a, v = .ref a) ∧ Q (.str d.shown) H
theorem cr_repr (K : PySem.W.Frag) (hK : X.K = K) (gd : X.A.guards = some []) (hu : X.A.units + 66 < cLine) : CallR X (.builtin "repr") (rRepr K) := by
  subst hK
  intro pins s σ H vs us Q I r h
  obtain ⟨v, d, rfl, dd, sh, sw, sz, or, q⟩ := h
  obtain ⟨u, rfl, ru⟩ := vals1 r
  rcases or with ⟨i, rfl⟩ | ⟨a, rfl⟩
  · rw [dp_int dd] at ru
    obtain ⟨t, rfl⟩ := ru
    have lg : i.natAbs.log2 < 1920 := by
      have : decide (i.natAbs.log2 < 1920) = true := by simpa only [PyData.showable] using sw
      exact of_decide_eq_true this
    exact PySem.P.repr_of_int lg ⟨.str _, H, I.tok _, ⟨_, rfl⟩, by simpa only [PyData.shown] using q⟩
  · obtain rfl : u = Value.ref a := ru
    obtain ⟨as, rd⟩ := Dp.reads I d (V.ref a) (Value.ref a) dd rfl
    have hc := (Bool.and_eq_true_iff.mp sh).1
    have hd := of_decide_eq_true (Bool.and_eq_true_iff.mp sh).2
    refine repr_of_reads' rd sw (PyData.noDict_hsm (PyData.hasDict_of_canLay d hc)) gd (by omega) (fun _ _ e => e) (fun h' u tk hk => ?_) sz
    exact ⟨.str _, H, I.kept (t' := tk) hk, ⟨_, rfl⟩, q⟩
end
end Y
namespace Y
open PySem PySem.Spec PyProof.Rows L2
/-- the law called by the claim's caller, above whom nothing is shown -/
theorem callG {P : Program} {w : World} {K : PySem.W.Frag} {mg mb : Str → Option Value} {k : Nat} {fa a : Addr} {fd : FuncData} {x : Str} {sp : Sp} {s : Shared} {vs : List Value} {ns : List Int} (KX : K.In s.heap) (hns : s.heap.Ns mainGlobals mg) (hb : s.heap.Ns builtinsNs mb) (hbb : ∀ x : Str, x ≠ "__name__" → mb x = bootBuiltins x)
    (hlim : s.heap.NoLimit) (hg : s.gens = #[]) (ha : s.heap.get? a = some { cls := .type "list", data := .seq vs.toArray }) (hi : IntsAre vs ns) (hl : ns.length ≤ sizeLine) (hr : Room k callerA) (F : ∀ base : Heap, K.In base → base.Ns mainGlobals mg → FnOkG P w K mg base CX0 k fa fd [x] sp)
    (hbind : ∀ (s : Shared) (u : Value), BindsTo s fd ⟨[u], []⟩ [(x, u)]) (hsp : ∀ H : Hp, SqL K H a (ns.map V.int) → sp [.ref a] H (fun v _ => v = .bl true) fun _ _ _ => False) (hCX : ∀ H e s', CX0 [] H s (fun _ _ _ => False) e s' → False) :
    codeAny (model P w) callerA (.call (.ref fa) ⟨[.ref a], []⟩) (fun r s' => r = .ok (.ret (.bool true)) ∧ OldK s.heap s'.heap ∧ s'.os = s.os ∧ AllBare s'.gens) s := by
  have rv := vals_ints hi
  have go : ∀ H : Hp, (∀ b, H b = none ∨ ∃ o xs, H b = some (.frz o (.lst xs))) → SqL K H a (ns.map V.int) → HOk P w H s.heap → (∀ b, H b ≠ none → b = a ∧ K.lookup a = none) → codeAny (model P w) callerA (.call (.ref fa) ⟨[.ref a], []⟩) (fun r s' => r = .ok (.ret (.bool true)) ∧ OldK s.heap s'.heap ∧ s'.os = s.os ∧ AllBare s'.gens) s := by
    intro H hO hS hok hA
    have far : ∀ {b : Addr} {o : Obj}, s.heap.get? b = some o → (b = a → K.lookup a = none → False) → (hidT s.heap H).get? b = some o := fun {b o} e ne => hidT_get e (Classical.byContradiction fun z => ne (hA b z).1 (hA b z).2)
    have farD : ∀ {b : Addr} {m : Str → Option Value}, s.heap.Ns b m → (hidT s.heap H).Ns b m := fun {b m} ⟨o, es, ep, e, d, r⟩ => ⟨o, es, ep, far e fun z _ => by
      rw [z, ha] at e; cases e; exact absurd (show Data.seq vs.toArray _ = Data.dict es ep from d) (by intro z; cases z), d, r⟩
    have hKb : K.In (hidT s.heap H) := fun b o e => far (KX b o e) fun z1 z2 => by rw [z1, z2] at e; cases e
    obtain ⟨mc, hm1, hm2⟩ := hlim
    have e0 : Env0 P w K mg (hidT s.heap H) callerA [] s H := ⟨rfl, ⟨hKb, farD hns, ⟨mb, farD hb, hbb⟩, ⟨mc, farD hm1, hm2⟩⟩, fun b o e => of_hidT e, Nat.le_of_eq (hidT_size _ _), trivial, (fun b hb => nomatch hb), hok, .of_eq hg⟩
    refine codeAny_mono ((F _ hKb (farD hns)).run callerA [] s H ⟨[.ref a], []⟩ [.ref a] [.ref a] _ _ hr rfl e0 (hbind s (.ref a)) (.cons rfl .nil) (hsp H hS)) fun r s' h => ?_
    match r, h with
    | .error e, h => exact (hCX H e s' h).elim
    | .ok .next, h | .ok .brk, h | .ok .cont, h => exact False.elim h
    | .ok (.ret u), ⟨v, H', os, bare, un, hok', r', q⟩ =>
      obtain rfl : v = V.bl true := q; obtain rfl : u = Value.bool true := r'
      refine ⟨rfl, OldK.of_keep fun b o e => ?_, os, bare⟩
      rcases hO b with q | ⟨ob, xs, q⟩
      · exact un.keep b o e q (fun z => nomatch z) (fun z => nomatch z)
      · have e1 := (hok b _ q).1; have e2 := (hok' b _ (un.frzs b ob _ q)).1
        rw [e] at e1; cases e1; exact e2
  cases hk : K.lookup a with
  | some o =>
    have e := KX a o hk; rw [ha] at e; cases e
    refine go (fun _ => none) (fun _ => .inl rfl) (.inr ⟨_, vs.toArray, _, hk, rfl, rfl, rfl, ?_, by simpa using rv⟩) (fun b u z => nomatch z) fun b z => absurd rfl z
    rw [List.size_toArray, hi.length]; exact hl
  | none =>
    let ob : Obj := { cls := .type "list", data := .seq vs.toArray }
    have at' : ∀ {b : Addr} {u : HO}, (if b = a then some (HO.frz ob (.lst (ns.map V.int))) else none) = some u → b = a ∧ u = .frz ob (.lst (ns.map V.int)) := fun {b u} z => by
      by_cases e : b = a
      · rw [if_pos e] at z; exact ⟨e, (Option.some.inj z).symm⟩
      · rw [if_neg e] at z; cases z
    refine go (fun b => if b = a then some (.frz ob (.lst (ns.map V.int))) else none) (fun b => ?_) (.inl (.inr ⟨ob, if_pos rfl⟩)) (fun b u z => ?_) fun b z => ?_
    · by_cases e : b = a
      · exact .inr ⟨_, _, if_pos e⟩
      · exact .inl (if_neg e)
    · obtain ⟨rfl, rfl⟩ := at' z
      exact ⟨ha, by rw [List.length_map]; exact hl, vs, _, rv, ha⟩
    · exact ⟨Classical.byContradiction fun e => z (if_neg e), hk⟩
/-- the goal behind the head, from the promise of a law that shows data -/
theorem walk_ofG {l : PySem.W.OpenLaw} {n k : Nat} {q : Program} {loose : List Str} {XP : (Str → Option Value) → Heap → Prop} {YP : World → Heap → Prop} {d : DefRec} {K : Params → PySem.W.Frag} {sp : World → Sp} {x : Str} (hn : l.most = some n) (hn2 : n ≤ sizeLine) (hdf : d.params.defaults = []) (hr : Room k callerA) (hY : ∀ (w : World) (h : Heap), YP w h → (K w.params).In h)
    (F : ∀ (w : World) (mg : Str → Option Value) (fa : Addr) (h : Heap), (K w.params).In h → h.Ns mainGlobals mg → mg d.name = some (.ref fa) → ∃ fd : FuncData, (∀ (s : Shared) (u : Value), BindsTo s fd ⟨[u], []⟩ [(x, u)]) ∧ ∀ base : Heap, (K w.params).In base → base.Ns mainGlobals mg → FnOkG l.prog w (K w.params) mg base CX0 k fa fd [x] (sp w))
    (hsp : ∀ (w : World) (H : Hp) (a : Addr) (ns : List Int), ns.length ≤ n → SqL (K w.params) H a (ns.map V.int) → sp w [.ref a] H (fun v _ => v = .bl true) fun _ _ _ => False) (hCX : ∀ (H : Hp) (s : Shared) (e : Value) (s' : Shared), CX0 [] H s (fun _ _ _ => False) e s' → False) :
    PySem.W.WalkO q loose XP YP l.row.toRowW d [] (fun f vs => PySem.call f vs) := by
  refine Att.attach_call hn hdf fun w s0 s1 mg mb fa o pm cd doc a vs ns G Y ho hd hcd hmg hobj hints hlen hg => ?_
  obtain ⟨fd, hb, hF⟩ := F w mg fa _ (hY w _ Y) G.T.g hmg
  exact callG (hY w _ Y) G.T.g G.T.b G.T.builtins G.T.nolimit hg hobj hints (Nat.le_trans hlen hn2) hr hF hb (fun H hS => hsp w H a ns hlen hS) fun H e s' => hCX H s1 e s'
end Y
namespace Y
open PySem PySem.Spec PyProof.Rows L2
theorem ru_of {A : Around} {k : Nat} (hr : Room k A) : A.units + 66 < cLine := by have := hr.un; omega
theorem cr_allK {X : Cx} (K : PySem.W.Frag) (hK : X.K = K) (hc : X.calm = true) : CallR X (.builtin "all") (rAll K) := by subst hK; exact cr_all hc
end Y
/-! data that can be shown in few signs -/
namespace Y
open PySem PySem.Spec PyProof.Rows L2
structure Shw (k c : Nat) (d : PyData) : Prop where
  lay : d.canLay0 = true
  dep : d.depth ≤ k
  sw : d.showable = true
  ln : d.shown.length ≤ c
structure ShwA (k c : Nat) (ds : List PyData) : Prop where
  lay : PyData.canLayAll0 ds = true
  dep : PyData.depthAll ds ≤ k
  sw : PyData.showableAll ds = true
  ln : ∀ t ∈ PyData.shownAll ds, t.length ≤ c
theorem shw_int {i : Int} (h : i.natAbs.log2 < 1920) : Shw 0 1921 (.int i) := by
  refine ⟨by simp only [PyData.canLay0], by simp only [PyData.depth]; omega, by simp only [PyData.showable]; exact decide_eq_true h, ?_⟩
  have e := int_text_length_le (k := 1920) (by decide) h
  show (Str.ofString (toString i)).length ≤ 1921
  rw [PySem.ofString_length]; exact e
theorem shw_bits {i : Int} {c : Nat} (h : i.natAbs ≤ 2 ^ c) (hc : c < 1920) : Shw 0 1921 (.int i) := shw_int (Nat.lt_of_le_of_lt (lg_le h) hc)
theorem Shw.up {k k' c c' : Nat} {d : PyData} (h : Shw k c d) (hk : k ≤ k') (hc : c ≤ c') : Shw k' c' d := ⟨h.lay, Nat.le_trans h.dep hk, h.sw, Nat.le_trans h.ln hc⟩
theorem shwA {k c : Nat} : ∀ {ds : List PyData}, (∀ d ∈ ds, Shw k c d) → ShwA k c ds
  | [], _ => ⟨rfl, by simp only [PyData.depthAll]; omega, rfl, fun t h => by simp only [PyData.shownAll] at h; cases h⟩
  | d :: ds, h => by
    have h1 := h d (by simp)
    have h2 := shwA fun e m => h e (List.mem_cons_of_mem _ m)
    refine ⟨by simp only [PyData.canLayAll0, h1.lay, h2.lay, Bool.and_self], ?_, by simp only [PyData.showableAll, h1.sw, h2.sw, Bool.and_self], fun t m => ?_⟩
    · have := h1.dep; have := h2.dep
      simp only [PyData.depthAll]; omega
    · simp only [PyData.shownAll] at m
      rcases List.mem_cons.mp m with e | m
      · rw [e]; exact h1.ln
      · exact h2.ln t m
theorem sum_len {c : Nat} : ∀ {ts : List Str}, (∀ t ∈ ts, t.length ≤ c) → (ts.map (·.length)).sum ≤ ts.length * c
  | [], _ => by simp
  | t :: ts, h => by
    have := h t (by simp)
    have := sum_len fun e m => h e (List.mem_cons_of_mem _ m)
    rw [List.map_cons, List.sum_cons, List.length_cons, Nat.add_mul]; omega
theorem shownAll_len : ∀ ds : List PyData, (PyData.shownAll ds).length = ds.length
  | [] => by simp only [PyData.shownAll]; rfl
  | d :: ds => by simp only [PyData.shownAll, List.length_cons, shownAll_len ds]
theorem shw_list {k c n : Nat} {ds : List PyData} (h : ∀ d ∈ ds, Shw k c d) (hn : ds.length ≤ n) : Shw (k + 1) (n * (c + 2) + 3) (.list ds) := by
  have q := shwA h
  refine ⟨by simp only [PyData.canLay0]; exact q.lay, by simp only [PyData.depth]; have := q.dep; omega, by simp only [PyData.showable]; exact q.sw, ?_⟩
  simp only [PyData.shown]
  have h1 := listText_len_le (PyData.shownAll ds)
  have h2 := sum_len q.ln
  rw [shownAll_len] at h1 h2
  have h3 := Nat.mul_le_mul_right (c + 2) hn
  rw [Nat.mul_add] at h3
  omega
theorem shw_tup {k c n : Nat} {ds : List PyData} (h : ∀ d ∈ ds, Shw k c d) (hn : ds.length ≤ n) : Shw (k + 1) (n * (c + 2) + 3) (.tuple ds) := by
  have q := shwA h
  refine ⟨by simp only [PyData.canLay0]; exact q.lay, by simp only [PyData.depth]; have := q.dep; omega, by simp only [PyData.showable]; exact q.sw, ?_⟩
  simp only [PyData.shown]
  have h1 := tupleText_len_le (PyData.shownAll ds)
  have h2 := sum_len q.ln
  rw [shownAll_len] at h1 h2
  have h3 := Nat.mul_le_mul_right (c + 2) hn
  rw [Nat.mul_add] at h3
  omega
theorem shw_ints {n : Nat} {ns : List Int} (h : ∀ i ∈ ns, i.natAbs.log2 < 1920) (hn : ns.length ≤ n) : Shw 1 (n * 1923 + 3) (.tuple (iD ns)) := by
  refine shw_tup (fun d hd => ?_) (by rw [iD_len]; exact hn)
  obtain ⟨i, hi, rfl⟩ := List.mem_map.mp hd
  exact shw_int (h i hi)
theorem shw_intsL {n : Nat} {ns : List Int} (h : ∀ i ∈ ns, i.natAbs.log2 < 1920) (hn : ns.length ≤ n) : Shw 1 (n * 1923 + 3) (.list (iD ns)) := by
  refine shw_list (fun d hd => ?_) (by rw [iD_len]; exact hn)
  obtain ⟨i, hi, rfl⟩ := List.mem_map.mp hd
  exact shw_int (h i hi)
/-- data shown -/
theorem rr_of {K : PySem.W.Frag} {H : Hp} {v : V} {d : PyData} {k c : Nat} {Q : VK} (h : Dp K H v d) (s : Shw k c d) (hk : k ≤ 64) (hc : c ≤ 16777216) (or : (∃ i, d = .int i) ∨ ∃ a, v = .ref a) (q : Q (.str d.shown) H) : rRepr K [v] H Q :=
  ⟨v, d, rfl, h, Bool.and_eq_true_iff.mpr ⟨s.lay, decide_eq_true (Nat.le_trans s.dep hk)⟩, s.sw, by rw [sizeLine_eq]; exact Nat.le_trans s.ln hc, or, q⟩
end Y
/-! a list walked in the suite that holds a caught error -/
namespace Y
open PySem PySem.Spec PyProof.Rows L2
open HotX
section
variable {prog : Program} {w : World} {A : Around} {E : Value → Shared → Prop} {s : Shared}
theorem listEndHot {it l x1 : Addr} {i : Nat} {items : Array Value} {Q : Option Value → Shared → Prop} (ht : HotAt A x1 s.heap) (ne : x1 ≠ it)
    (hI : s.heap.IsListIter it l i) (hL : s.heap.IsList l items) (hX : items[i]? = none)
    (kQ : ∀ h', (∀ b o, b ≠ it → s.heap.get? b = some o → h'.get? b = some o) → Q none { s with heap := h' }) : wpAny (model prog w) A (pyNext (.ref it)) Q E s := by
  obtain ⟨o, oI, cI, dI⟩ := id hI; obtain ⟨oL0, oL, _, nL, dL⟩ := hL; obtain ⟨h0, ob1, w1, g1, dd1, cc1⟩ := ht; unfold pyNext; refine wpAny_bind (wpAny_attempt (wpAny_callSpecial?_slot (name := Str.ofString "__next__") hI.typeIs slot_listiter_next (wpAny_call_entry slot_listiter_next hI.typeIs entry_listiter_next ?_ (args_listiter_next _))))
  show wpAny _ _ (field (.ref it) 0 >>= _) _ _ s; refine wpAny_bind (wpAny_field oI dI (x := .ref l) rfl ?_); show wpAny _ _ (if (Value.ref l == Value.none) = true then _ else _) _ _ s; rw [if_neg (show ¬ ((Value.ref l == Value.none) = true) from Bool.false_ne_true)]; show wpAny _ _ (field (.ref it) 1 >>= _) _ _ s; refine wpAny_bind (wpAny_field oI dI (x := .int i 0) rfl ?_); show wpAny _ _ (seqItems? (.ref l) >>= _) _ _ s; refine wpAny_bind (wpAny_seqItems oL dL ?_); simp only [Int.toNat_natCast, hX]; refine wpAny_bind (wpAny_rule (wpAny_bind (wpAny_setField oI dI (by simp) ?_))); show wpAny _ _ (newExc (.type "StopIteration") [] >>= _) _ _ _; refine wpAny_bind ?_; simp only [newExc, newTuple]
  refine wpAny_bind (wpAny_newObj_type ?_ (by size_fits)); refine wpAny_bind (m := firstArgMember _ _) (wpAny_of_eq (a := Value.none) (by first | rfl | (simp only [firstArgMember]; rfl)) ?_); refine wpAny_newObj_type ?_ (by size_fits); have g0 : ∀ b o, b ≠ it → s.heap.get? b = some o → (s.heap.update it (Obj.mapFields (·.setIfInBounds 0 .none))).get? b = some o := fun b o n e => by
    rw [Heap.get?_update_other _ _ (fun z => n z.symm)]; exact e
  have h1' := g0 _ _ ne g1; refine raiseNew_hot ⟨h0, ob1, w1, Heap.get?_push_of_some _ (Heap.get?_push_of_some _ h1'), dd1, cc1⟩ (Nat.ne_of_lt (Heap.lt_size (Heap.get?_push_of_some _ h1'))) (Heap.get?_push_size _ rfl) rfl (by first | (simp; done) | (simp; omega) | (simp only [Array.size_append]; simp; omega)) ?_; refine wpAny_bind (wpAny_isInstance (T := "StopIteration") (b := true) ⟨_, Heap.get?_update_self _ (Heap.get?_push_size _ rfl) rfl, rfl⟩ isSubtype_stop ?_); refine wpAny_pure (kQ _ fun b o n e => ?_); have e := g0 b o n e; rw [Heap.get?_update_other _ _ (Nat.ne_of_gt (Heap.lt_size (Heap.get?_push_of_some _ e)))]; exact Heap.get?_push_of_some _ (Heap.get?_push_of_some _ e)
end
theorem turn_listH {P : Program} {w : World} {K : PySem.W.Frag} {tg : Expr} (a it : Addr) : L2H.TurnH P w K tg (Itl K a) [it] it (fun i h => h.IsListIter it a i) where
  mem := by simp
  obj := fun i h st b hb => by
    have e : b = it := (by simpa using hb); subst e; obtain ⟨o, e, c, d⟩ := st; exact ⟨o, e, fun v z => by rw [d] at z; cases z⟩
  keep := fun _ _ _ st kp => st.at fun o e => kp it (by simp) o e
  item := by
    intro X eP eW eK hc i ps s σ H E I fr st hq0; subst eP eW eK; obtain ⟨xs, x, sq, hx⟩ := hq0; obtain ⟨zs, rz, p, zz⟩ := I.list sq; obtain ⟨u, hu, ru⟩ := rz.get hx; obtain ⟨k0, k1, k2, k3, k4, k5⟩ := fr it (by simp); refine wpAny_pyNext_list_item st p.isList (x := u) (by simpa using hu) fun h' st' sb => ?_; have J1 : Inv X ps σ H { s with heap := h' } := I.turned (t' := s.toks) (fun b o hb e => (sb.2 b hb).trans e) k0 k1 k3 k4 k5; obtain ⟨o, e, c, d⟩ := id st'; exact ⟨u, rfl, go_of (s := { s with heap := h' }) e c d (by decide) ⟨x, H, J1, ru, ⟨rfl, fun ys hy => by rw [I.list_inj hy sq]; exact hx⟩, st', fun b hb => (fr b hb).1⟩⟩
  done := by
    intro X eP eW eK hc i ps s σ H E I fr st hq0; subst eP eW eK; obtain ⟨xs, sq, hx⟩ := hq0; obtain ⟨zs, rz, p, zz⟩ := I.list sq; obtain ⟨k0, k1, k2, k3, k4, k5⟩ := fr it (by simp); have hl := rz.length; obtain ⟨q, ⟨hh, v1, e1, c1⟩, sq⟩ := hc; have P1 := (I.pin q (List.mem_append_left _ sq)).1; exact listEndHot (x1 := q.1) ⟨hh, q.2, v1, P1, e1, c1⟩ (k5 q (List.mem_append_left _ sq)) st p.isList (by simp; omega) fun h' eb => ⟨rfl, I.turned (t' := s.toks) (fun b o hb e => eb b o hb e) k0 k1 k3 k4 k5⟩
  self := fun _ _ _ _ _ z hq => wpAny_pyIter_listiter z hq
theorem pi_listH {X : Cx} {tg l : Expr} {tl : TE} (K : PySem.W.Frag) (eK : X.K = K) (hl : PE X l tl) : L2H.PIH X tg l (iList K tl) := by
  subst eK; refine ⟨fun ps s σ H R I h => ?_⟩; refine thn (hl.run ps s σ H _ I h) fun v s1 ⟨x, H1, J1, r1, q1⟩ => ?_; obtain ⟨a, e, ⟨xs, sq⟩, q⟩ := q1; subst e; cases r1; obtain ⟨zs, rz, p, zz⟩ := J1.list sq; refine wpAny_pyIter_list p.isList ?_; refine ⟨s1.heap.objs.size, [s1.heap.objs.size], _, _, H1, rfl, J1.kept (t' := s1.toks) fun b o e => Heap.get?_push_of_some _ e, turn_listH a _, ⟨_, Heap.get?_push_size _ rfl, rfl, rfl⟩, fun b hb => ?_, q⟩; have e : b = s1.heap.objs.size := (by simpa using hb); subst e; exact J1.fpOk (Nat.le_refl _) (J1.hok.fresh (Nat.le_refl _))
theorem hot_suite {X : Cx} {a : Addr} {oe : Obj} {cls : Value} {d : Option Addr} {pn : List (Addr × Obj)} (zz : L2N.Zn cls d oe) (fr : ∃ vs, oe.data = .fields vs) : L2H.HotC (X.suite a ((a, oe) :: pn)) := by
  obtain ⟨vs, e⟩ := fr; exact ⟨(a, oe), ⟨rfl, vs, e, zz.2.2 vs e⟩, List.mem_cons_self⟩
theorem takes0N {X : Cx} : L2N.Takes X (fun _ _ _ _ => False) := fun _ _ x => by
  obtain ⟨_, _, _, _, _, _, _, _, _, _, _, _, _, _, _, _, z⟩ := x; exact z.elim
theorem passN {X : Cx} : Passes (L2N.CX X.prog X.w) X E0 := fun _ _ _ _ _ _ _ h => by
  obtain ⟨_, _, _, _, _, _, _, _, _, _, _, _, z⟩ := h; exact z.elim
section
variable {P : Program} {w : World} {K : PySem.W.Frag} {mg : Str → Option Value} {base : Heap}
theorem okN {x qual : Str} {st : Stmt} {f : Addr} {fd : FuncData} {N ps : List Str} {k : Nat} {sp : Sp} (F : Fun K x qual st f fd) (S : FnScope N ps (defScope st)) (len : ∀ vs H Q E, sp vs H Q E → vs.length = ps.length)
    (bd : ∀ (q6 : Value) (A : Around) (outer : List Env) (s : Shared) (H : Hp) (vs : List V) (Q : VK) (E : XK), Room k (A.deeper (envOfC qual (defScope st) s.heap.objs.size f q6)) → sp vs H Q E →
      ∃ t, PSs (cxOf (L2N.CX P w) P w K mg base N qual (defScope st) f q6 A outer s H E) (defBody st) t ∧ t { nx := fun _ H' => Q .non H', rt := Q } (start N vs) H) : FnOk P w K mg base (L2N.CX P w) (k + 1) f fd ps sp := by
  obtain ⟨q0, q1o, q2, q3, q4, q5, q6, ct, q8, rfl, lq, cq⟩ := F.ex; exact fn_of lq cq S len fun A outer s H vs Q E hr hsp => bd q6 A outer s H vs Q E hr hsp
end
end Y
namespace Y
open PySem PySem.Spec PyProof.Rows L2
def sp_chk (C : Addr) (K : PySem.W.Frag) : Sp := fun vs H Q E => ∃ L tv t, vs = [tv] ∧ Trk H L ∧ Bt t ∧ Dp K (wo H L) tv (trD t) ∧ (MT.Dt t ≠ 0 → ∀ H', Same H H' → (MT.Dt t).natAbs ≤ 2 ^ 200 → Q (.int (MT.Dt t)) H') ∧ (MT.Dt t = 0 → ∀ H', Same H H' → E (.ref C) none H')
def sp_inv (C : Addr) (K : PySem.W.Frag) : Sp := fun vs H Q E => ∃ L tv t, vs = [tv] ∧ Trk H L ∧ Bt t ∧ Dp K (wo H L) tv (trD t) ∧ (MT.Dt t ≠ 0 → ∀ g, Gp t g → Ret K H L (invD t fun i j => rt (-g i j) (MT.Dt t)) Q) ∧ (MT.Dt t = 0 → ∀ H', Same H H' → E (.ref C) none H')
def sp_law_is_ratio (K : PySem.W.Frag) : Sp := fun vs H Q _ => ∃ L xv, ∃ a b : Int, vs = [xv] ∧ Trk H L ∧ Dp K (wo H L) xv (.tuple [.int a, .int b]) ∧ 1 ≤ b ∧ a.natAbs ≤ 2 ^ 199 ∧ b.natAbs ≤ 2 ^ 199 ∧ lr a b = (a, b) ∧ ∀ H', Same H H' → Q (.bl true) H'
def sp_law_is_refused (K : PySem.W.Frag) : Sp := fun vs H Q _ => ∃ L tv t, vs = [tv] ∧ Trk H L ∧ Bt t ∧ MT.Dt t = 0 ∧ Dp K (wo H L) tv (trD t) ∧ ∀ H', Same H H' → Q (.bl true) H'
def sp_law_is_undone (K : PySem.W.Frag) : Sp := fun vs H Q _ => ∃ L tv t, vs = [tv, .int ((MT.Dt t).natAbs : Int)] ∧ Trk H L ∧ Bt t ∧ MT.Dt t ≠ 0 ∧ Dp K (wo H L) tv (trD t) ∧ ∀ H', Same H H' → Q (.bl true) H'
def sp_blownF (K : PySem.W.Frag) : Sp := fun vs H Q _ => ∃ L m c cs b tv t, ∃ count : Nat, vs = [.ref m, tv, .int count] ∧ m ∈ L ∧ Trk H L ∧ MAt H m c cs b ∧ B60 t ∧ t.n + count ≤ 16 ∧ b + 100 < 1000000 ∧ Dp K (wo H L) tv (trD t) ∧
  ∀ t' v H', B60 t' → (MT.Pos t → MT.Pos t') → t'.n ≤ t.n + count → SameM m H H' → MAt H' m c cs (b + 100) → Dp K (wo H' L) v (trD t') → Q v H'
/-- lowest terms stay -/
theorem lr_rt {a b : Int} (hb : b ≠ 0) : lr (rt a b).1 (rt a b).2 = rt a b := by
  have h := rt_ok (a := a) hb
  have hp := h.pos
  have g1 : Nat.gcd (rt a b).1.natAbs (rt a b).2.natAbs = 1 := by
    have gp : 0 < Nat.gcd a.natAbs b.natAbs := Nat.gcd_pos_of_pos_right _ (by omega)
    have cn : (cm a b).natAbs = Nat.gcd a.natAbs b.natAbs := by unfold cm; split <;> omega
    have da : (cm a b) ∣ a := Int.natAbs_dvd_natAbs.mp (by rw [cn]; exact Nat.gcd_dvd_left _ _)
    have db : (cm a b) ∣ b := Int.natAbs_dvd_natAbs.mp (by rw [cn]; exact Nat.gcd_dvd_right _ _)
    have ea : (rt a b).1.natAbs * Nat.gcd a.natAbs b.natAbs = a.natAbs := by
      show (a.fdiv (cm a b)).natAbs * _ = _
      rw [← cn, ← Int.natAbs_mul, Int.fdiv_mul_cancel_of_dvd da]
    have eb : (rt a b).2.natAbs * Nat.gcd a.natAbs b.natAbs = b.natAbs := by
      show (b.fdiv (cm a b)).natAbs * _ = _
      rw [← cn, ← Int.natAbs_mul, Int.fdiv_mul_cancel_of_dvd db]
    have q := Nat.gcd_mul_right (rt a b).1.natAbs (Nat.gcd a.natAbs b.natAbs) (rt a b).2.natAbs
    rw [ea, eb] at q
    exact Nat.eq_of_mul_eq_mul_right gp (by omega)
  unfold lr
  rw [g1, if_pos (by omega)]
  simp
theorem rt_le {a b : Int} (hb : b ≠ 0) {c : Nat} (h1 : a.natAbs ≤ 2 ^ c) (h2 : b.natAbs ≤ 2 ^ c) : (rt a b).1.natAbs ≤ 2 ^ c ∧ (rt a b).2.natAbs ≤ 2 ^ c := by
  have u := rat_use (rt_ok (a := a) hb) hb
  exact ⟨Nat.le_trans u.b1 h1, Nat.le_trans u.b2 h2⟩
/-- the told inverse put over one bottom -/
def tpE (t : Tr) (g : Nat → Nat → Int) (i j : Nat) : Int := -g i j * sg (MT.Dt t)
theorem gp_sym {t : Tr} (T : Tree t) {g : Nat → Nat → Int} (hg : Gp t g) {i j : Nat} (hi : i < t.n) (hj : j < t.n) : g j i = g i j := by
  obtain ⟨par, dep, R⟩ := T.tree i hi
  obtain ⟨par', dep', R'⟩ := T.tree j hj
  rw [hg j i hj par dep R, hg i j hi par' dep' R', TM.way_back R' R]
  congr 1
  funext x
  unfold inl
  simp
theorem sm_list (f : Nat → Int) (l : List Nat) : (l.map f).sum = MT.sm f l := by
  unfold MT.sm
  induction l with
  | nil => rfl
  | cons x l ih =>
    rw [List.map_cons, List.sum_cons, ih]
    rfl
theorem undo_at {t : Tr} (B : Bt t) {g : Nat → Nat → Int} (hg : Gp t g) {i j : Nat} (hi : i < t.n) (hj : j < t.n) : MT.wt t i * tpE t g i j + MT.sm (fun k => tpE t g k j) (nb t.ties i) = if i = j then ((MT.Dt t).natAbs : Int) else 0 := by
  obtain ⟨par, dep, R⟩ := B.tree j hj
  have e := MT.inv_at B.toTree R hi
  have at' : ∀ k, k < t.n → g k j = MT.LW t (MT.on par dep k) := fun k hk => by
    rw [hg k j hk par dep R]
    congr 1
  have e1 : MT.sm (fun k => tpE t g k j) (nb t.ties i) = MT.sm (fun k => (-sg (MT.Dt t)) * MT.LW t (MT.on par dep k)) (nb t.ties i) := MT.sm_congr fun k hk => by
    unfold tpE
    rw [at' k (nb_lt B.toOkt hk).1]
    grind
  rw [e1, MT.sm_mul]
  unfold tpE
  rw [at' i hi]
  have e2 : MT.wt t i * (-MT.LW t (MT.on par dep i) * sg (MT.Dt t)) + -sg (MT.Dt t) * MT.sm (fun j => MT.LW t (MT.on par dep j)) (nb t.ties i) = -sg (MT.Dt t) * (MT.wt t i * MT.LW t (MT.on par dep i) + MT.sm (fun j => MT.LW t (MT.on par dep j)) (nb t.ties i)) := by grind
  rw [e2, e]
  by_cases h : i = j
  · rw [if_pos h, if_pos h, ← sg_abs]; grind
  · rw [if_neg h, if_neg h]; simp
theorem undo_at' {t : Tr} (B : Bt t) {g : Nat → Nat → Int} (hg : Gp t g) {i j : Nat} (hi : i < t.n) (hj : j < t.n) : MT.wt t i * tpE t g j i + MT.sm (fun k => tpE t g j k) (nb t.ties i) = if i = j then ((MT.Dt t).natAbs : Int) else 0 := by
  rw [← undo_at B hg hi hj]
  have e : ∀ k, k < t.n → tpE t g j k = tpE t g k j := fun k hk => by unfold tpE; rw [gp_sym B.toTree hg hk hj]
  rw [e i hi, MT.sm_congr fun k hk => e k (nb_lt B.toOkt hk).1]
end Y
namespace MT
open Y
theorem take_last {r : Nat} {par : Nat → Nat} {S : List Nat} (G : Grow r par S) {i v : Nat} (hi : i < S.length) (hv : S[S.length - 1 - i]? = some v) : S.take (S.length - i) = S.take (S.length - (i + 1)) ++ [v] ∧ v ∉ S.take (S.length - (i + 1)) ∧ (i + 1 < S.length → v ≠ r ∧ par v ∈ S.take (S.length - (i + 1))) ∧ (i + 1 = S.length → v = r) := by
  have e : S.take (S.length - i) = S.take (S.length - (i + 1)) ++ [v] := by
    have e2 : S.length - i = S.length - (i + 1) + 1 := by omega
    rw [e2, List.take_add_one, show S.length - (i + 1) = S.length - 1 - i by omega, hv]
    rfl
  have g1 := grow_take G i hi
  have l1 : (S.take (S.length - i)).length = S.length - i := by rw [List.length_take]; omega
  rw [e] at g1 l1
  refine ⟨e, ?_⟩
  have key : ∀ {T : List Nat}, Grow r par T → ∀ {A : List Nat}, T = A ++ [v] → v ∉ A ∧ (A ≠ [] → v ≠ r ∧ par v ∈ A) ∧ (A = [] → v = r) := by
    intro T g A e
    cases g with
    | one =>
      cases A with
      | nil => simp at e; exact ⟨by simp, fun z => absurd rfl z, fun _ => e.symm⟩
      | cons a A => simp at e
    | @more S' v' g' h1 h2 h3 =>
      obtain ⟨e1, e2⟩ := List.append_inj' e rfl
      simp at e2
      subst e1 e2
      exact ⟨h1, fun _ => ⟨h2, h3⟩, fun z => by rw [z] at h3; cases h3⟩
  obtain ⟨k1, k2, k3⟩ := key g1 rfl
  refine ⟨k1, fun h => k2 fun z => ?_, fun h => k3 (List.eq_nil_of_length_eq_zero (by rw [List.length_take]; omega))⟩
  rw [z] at l1
  simp at l1
  omega
theorem sti_has {n : Nat} {r : Nat} {par : Nat → Nat} {S : List Nat} {g : Nat → Bool} {D N : Nat → Int} {ks : Nat → List Nat} {a : Nat → Int} (hDG : DG n a ks g D N) (hk : ∀ v, v < n → ∀ c, c ∈ ks v ↔ c < n ∧ c ≠ r ∧ par c = v) (nd : ∀ v, v < n → (ks v).Nodup) (G : Grow r par S) (lt : ∀ v ∈ S, v < n)
    {s : WB} (h0 : ∀ u, u < n → Has S a ks g D N s u) : ∀ i, i < S.length → (∀ u, u < n → Has (S.take (S.length - i)) a ks g D N (sti g r par S s i) u) ∧ ∀ v, S[S.length - 1 - i]? = some v → (sti g r par S s i).1 v = D v ∧ (sti g r par S s i).2 v = pd D (ks v) := by
  have own : ∀ i, i < S.length → (∀ u, u < n → Has (S.take (S.length - i)) a ks g D N (sti g r par S s i) u) → ∀ v, S[S.length - 1 - i]? = some v → (sti g r par S s i).1 v = D v ∧ (sti g r par S s i).2 v = pd D (ks v) := by
    intro i hi h v hv
    obtain ⟨e, ni, nr, er⟩ := take_last G hi hv
    have hvn := lt v (List.mem_of_getElem? hv)
    refine (h v hvn).own hDG hvn (List.filter_eq_nil_iff.mpr fun c hc z => ?_)
    have z := of_decide_eq_true z
    obtain ⟨c1, c2, c3⟩ := (hk v hvn c).mp hc
    rw [e] at z
    have g1 := grow_take G i hi
    rw [e] at g1
    have pc := g1.par c z c2
    rw [c3] at pc
    rcases List.mem_append.mp z with m | m
    · by_cases hl : i + 1 < S.length
      · have g2 := grow_take G (i + 1) hl
        have := (g2.par c m c2).1
        rw [c3] at this
        exact ni this
      · rw [show S.length - (i + 1) = 0 by omega] at m
        simp at m
    · simp at m
      exact pc.2 m.symm
  intro i
  induction i with
  | zero =>
    intro hi
    have h : ∀ u, u < n → Has (S.take (S.length - 0)) a ks g D N (sti g r par S s 0) u := fun u hu => by rw [sti_zero, Nat.sub_zero, List.take_length]; exact h0 u hu
    exact ⟨h, own 0 hi h⟩
  | succ i ih =>
    intro hi
    obtain ⟨h1, h2⟩ := ih (by omega)
    obtain ⟨v, hv⟩ : ∃ v, S[S.length - 1 - i]? = some v := ⟨_, List.getElem?_eq_getElem (by omega)⟩
    obtain ⟨e, ni, nr, er⟩ := take_last G (by omega) hv
    have h : ∀ u, u < n → Has (S.take (S.length - (i + 1))) a ks g D N (sti g r par S s (i + 1)) u := fun u hu => by
      rw [sti_succ hv (by omega)]
      have := h1 u hu
      rw [e] at this
      exact dg_keep hDG hk nd hu (lt v (List.mem_of_getElem? hv)) ni (nr hi).1 (h2 v hv) this
    exact ⟨h, own (i + 1) hi h⟩
theorem pd_pos {D : Nat → Int} : ∀ {l : List Nat}, (∀ c ∈ l, 0 < D c) → 0 < pd D l
  | [], _ => by rw [pd_nil]; decide
  | c :: l, h => by
    rw [pd_cons]
    exact Int.mul_pos (h c (by simp)) (pd_pos fun d m => h d (by simp [m]))
theorem pd_ones {f : Nat → Int} : ∀ {l : List Nat}, (∀ c ∈ l, f c = 1) → pd f l = 1
  | [], _ => pd_nil f
  | c :: l, h => by
    rw [pd_cons, h c (by simp), pd_ones fun d m => h d (by simp [m])]
    rfl
/-- a tree below zero: the determinants of all that hangs on a place are above 0 -/
theorem pos_D {t : Tr} (T : Tree t) {r : Nat} {par dep : Nat → Nat} {D N : Nat → Int} (R : TM.Rooted t.n (adjT t.ties) r par dep) (h : DN t.n (fun v => -wt t v) (kids t.ties r par) D N) (P : Pos t) : ∀ c, c < t.n → 0 < D c := fun c hc => by
  have h0 := dn_dg h
  obtain ⟨g, hg⟩ : ∃ g : Nat → Bool, g = fun u => !decide (c ∈ TM.way par dep u) := ⟨_, rfl⟩
  have gin : ∀ u, c ∈ TM.way par dep u → g u = false := fun u m => by rw [hg]; simp [m]
  have gout : ∀ u, c ∉ TM.way par dep u → g u = true := fun u m => by rw [hg]; simp [m]
  have hk : ∀ v, v < t.n → ∀ w, w ∈ kids t.ties r par v ↔ w < t.n ∧ w ≠ r ∧ par w = v := fun v hv w => kids_mem R hv w
  obtain ⟨D', N', h'⟩ := dg_made R (fun v => -wt t v) (kids t.ties r par) g fun v hv w hw => (hk v hv w).mp hw
  have one : ∀ k u, u < t.n → t.n ≤ dep u + k → c ∈ TM.way par dep u → D' u = D u ∧ N' u = N u := by
    intro k
    induction k with
    | zero => intro u hu hd; have := TM.dep_lt R hu; omega
    | succ k ih =>
      intro u hu hd m
      have kd : ∀ w ∈ kids t.ties r par u, D' w = D w ∧ N' w = N w := fun w hw => by
        obtain ⟨w1, w2, w3⟩ := (hk u hu w).mp hw
        have := (R.up w w1 w2).2
        rw [w3] at this
        exact ih w w1 (by omega) (by rw [way_cons R w1 w2, w3]; exact List.mem_cons_of_mem _ m)
      rw [h'.d u hu, h'.n u hu, h0.d u hu, h0.n u hu, gin u m]
      exact ⟨xw_congr _ kd, pd_congr fun w hw => (kd w hw).1⟩
  have two : ∀ k u, u < t.n → t.n ≤ dep u + k → c ∉ TM.way par dep u → D' u = if u ∈ TM.way par dep c then D c else 1 := by
    intro k
    induction k with
    | zero => intro u hu hd; have := TM.dep_lt R hu; omega
    | succ k ih =>
      intro u hu hd m
      have kd : ∀ w ∈ kids t.ties r par u, D' w = if w ∈ TM.way par dep c then D c else 1 := fun w hw => by
        obtain ⟨w1, w2, w3⟩ := (hk u hu w).mp hw
        have := (R.up w w1 w2).2
        rw [w3] at this
        by_cases e : w = c
        · subst e
          rw [if_pos (way_self R w)]
          exact (one _ w w1 (Nat.le_add_left _ _) (way_self R w)).1
        · refine ih w w1 (by omega) fun z => ?_
          rw [way_cons R w1 w2, w3] at z
          rcases List.mem_cons.mp z with z | z
          · exact e z.symm
          · exact m z
      rw [h'.d u hu, gout u m]
      show pd D' (kids t.ties r par u) = _
      rw [pd_congr kd]
      by_cases uc : u ∈ TM.way par dep c
      · rw [if_pos uc]
        have ne : c ≠ u := fun z => m (by rw [z]; exact way_self R u)
        obtain ⟨w, w1, w2, w3, w4⟩ := way_kid R _ c hc rfl uc ne
        have wk := (hk u hu w).mpr ⟨w1, w2, w3⟩
        rw [pd_split (kids_nodup T.toOkt r par u) wk, if_pos w4, pd_ones, Int.mul_one]
        intro x hx
        obtain ⟨x1, x2⟩ := List.mem_filter.mp hx
        obtain ⟨y1, y2, y3⟩ := (hk u hu x).mp x1
        refine if_neg fun z => of_decide_eq_true x2 ?_
        refine way_dep R _ c hc rfl x z w w4 ?_
        have a1 := (R.up x y1 y2).2
        have a2 := (R.up w w1 w2).2
        rw [y3] at a1
        rw [w3] at a2
        omega
      · rw [if_neg uc]
        refine pd_ones fun w hw => if_neg fun z => uc ?_
        obtain ⟨w1, w2, w3⟩ := (hk u hu w).mp hw
        rw [← w3]
        exact way_par R _ c hc rfl z w2
  obtain ⟨S, G, hS⟩ := grow_all R
  have e := dg_is T R h' G hS
  have p := P g
  rw [← e] at p
  by_cases cr : c = r
  · subst cr
    rw [← (one _ c hc (Nat.le_add_left _ _) (way_self R c)).1]
    exact p
  · rw [two _ r R.root (Nat.le_add_left _ _) (by rw [way_root R]; simp [cr]), if_pos (way_top R _ c hc rfl)] at p
    exact p
end MT
namespace Y
open PySem PySem.Spec PyProof.Rows L2
theorem rt_cop {a b : Int} (hb : b ≠ 0) : Nat.gcd (rt a b).1.natAbs (rt a b).2.natAbs = 1 := by
  have hp := (rt_ok (a := a) hb).pos
  have gp : 0 < Nat.gcd a.natAbs b.natAbs := Nat.gcd_pos_of_pos_right _ (by omega)
  have cn : (cm a b).natAbs = Nat.gcd a.natAbs b.natAbs := by unfold cm; split <;> omega
  have da : (cm a b) ∣ a := Int.natAbs_dvd_natAbs.mp (by rw [cn]; exact Nat.gcd_dvd_left _ _)
  have db : (cm a b) ∣ b := Int.natAbs_dvd_natAbs.mp (by rw [cn]; exact Nat.gcd_dvd_right _ _)
  have ea : (rt a b).1.natAbs * Nat.gcd a.natAbs b.natAbs = a.natAbs := by
    show (a.fdiv (cm a b)).natAbs * _ = _
    rw [← cn, ← Int.natAbs_mul, Int.fdiv_mul_cancel_of_dvd da]
  have eb : (rt a b).2.natAbs * Nat.gcd a.natAbs b.natAbs = b.natAbs := by
    show (b.fdiv (cm a b)).natAbs * _ = _
    rw [← cn, ← Int.natAbs_mul, Int.fdiv_mul_cancel_of_dvd db]
  have q := Nat.gcd_mul_right (rt a b).1.natAbs (Nat.gcd a.natAbs b.natAbs) (rt a b).2.natAbs
  rw [ea, eb] at q
  exact Nat.eq_of_mul_eq_mul_right gp (by omega)
/-- equal fractions have one ratio in lowest terms -/
theorem rt_eq {a b c d : Int} (hb : b ≠ 0) (hd : d ≠ 0) (h : a * d = c * b) : rt a b = rt c d := by
  obtain ⟨⟨k, ea, eb⟩, hp⟩ := rt_ok (a := a) hb
  obtain ⟨⟨l, ec, ed⟩, hq⟩ := rt_ok (a := c) hd
  have k0 : k ≠ 0 := fun z => hb (by rw [eb, z, Int.mul_zero])
  have l0 : l ≠ 0 := fun z => hd (by rw [ed, z, Int.mul_zero])
  have g1 := rt_cop (a := a) hb
  have g2 := rt_cop (a := c) hd
  obtain ⟨p, hpp⟩ : ∃ p, p = (rt a b).1 := ⟨_, rfl⟩
  obtain ⟨q, hqq⟩ : ∃ q, q = (rt a b).2 := ⟨_, rfl⟩
  obtain ⟨p', hpp'⟩ : ∃ p, p = (rt c d).1 := ⟨_, rfl⟩
  obtain ⟨q', hqq'⟩ : ∃ q, q = (rt c d).2 := ⟨_, rfl⟩
  rw [← hpp, ← hqq] at g1
  rw [← hpp', ← hqq'] at g2
  rw [← hpp] at ea
  rw [← hqq] at eb hp
  rw [← hpp'] at ec
  rw [← hqq'] at ed hq
  have e : p * q' = p' * q := by
    have : p * q' * (k * l) = p' * q * (k * l) := by
      have h := h
      rw [ea, eb, ec, ed] at h
      grind
    exact Int.eq_of_mul_eq_mul_right (Int.mul_ne_zero k0 l0) this
  have en : p.natAbs * q'.natAbs = p'.natAbs * q.natAbs := by rw [← Int.natAbs_mul, ← Int.natAbs_mul, e]
  have d1 : q.natAbs ∣ q'.natAbs := by
    have : q.natAbs ∣ p.natAbs * q'.natAbs := ⟨p'.natAbs, by rw [en, Nat.mul_comm]⟩
    exact Nat.Coprime.dvd_of_dvd_mul_left (Nat.Coprime.symm g1) this
  have d2 : q'.natAbs ∣ q.natAbs := by
    have : q'.natAbs ∣ p'.natAbs * q.natAbs := ⟨p.natAbs, by rw [← en, Nat.mul_comm]⟩
    exact Nat.Coprime.dvd_of_dvd_mul_left (Nat.Coprime.symm g2) this
  have eq := Nat.dvd_antisymm d1 d2
  have eqi : q = q' := by omega
  have epi : p = p' := by
    rw [eqi] at e
    exact Int.eq_of_mul_eq_mul_right (by omega) e
  exact Prod.ext (by rw [← hpp, ← hpp', epi]) (by rw [← hqq, ← hqq', eqi])
theorem rt_one (a : Int) : rt a 1 = (a, 1) := by
  unfold rt cm
  simp
theorem rt_neg {a b : Int} (ha : 0 < a) (hb : 0 < b) : (rt (-a) b).1 < 0 := by
  obtain ⟨⟨k, ea, eb⟩, hp⟩ := rt_ok (a := -a) (b := b) (by omega)
  have hk : 0 < k := by
    refine Int.pos_of_mul_pos_right (a := (rt (-a) b).2) ?_ (by omega)
    rw [← eb]; exact hb
  refine Int.lt_of_not_ge fun z => ?_
  have : 0 ≤ (rt (-a) b).1 * k := Int.mul_nonneg z (by omega)
  omega
end Y
namespace Y
open PySem PySem.Spec PyProof.Rows L2
def sqD (b : Bool) (xs : List Int) : PyData := if b then .list (iD xs) else .tuple (iD xs)
theorem dp_sq {K : PySem.W.Frag} {H : Hp} {v : V} {b : Bool} {xs : List Int} (h : Dp K H v (sqD b xs)) : ∃ a, v = .ref a ∧ SqQ K b H a (iV xs) := by
  cases b
  · exact dp_ints.mp h
  · exact dp_intsL.mp h
theorem sq_mono {K : PySem.W.Frag} {H H' : Hp} {b : Bool} {a : Addr} {xs : List V} (s : Same H H') (h : SqQ K b H a xs) : SqQ K b H' a xs := by
  cases b
  · exact s.tup h
  · exact s.seq h
def dt2 (xs ys : List Int) (n : Nat) : Int := MT.sm (fun i => en xs i * en ys i) (List.range n)
def sp_dotted (K : PySem.W.Frag) : Sp := fun vs H Q _ => ∃ L v1 v2 b1 b2 xs ys, ∃ n : Nat, vs = [v1, v2] ∧ Trk H L ∧ Dp K (wo H L) v1 (sqD b1 xs) ∧ Dp K (wo H L) v2 (sqD b2 ys) ∧ xs.length = n ∧ ys.length = n ∧ n ≤ 1000 ∧ (∀ i, (en xs i).natAbs ≤ 2 ^ 10000) ∧ (∀ i, (en ys i).natAbs ≤ 2 ^ 10000) ∧
  ∀ H', Same H H' → Q (.int (dt2 xs ys n)) H'
def timesL (n : Nat) (G : Nat → Nat → Int) (xs : List Int) : List Int := (List.range n).map fun i => MT.sm (fun j => G i j * en xs j) (List.range n)
def sp_left_times (K : PySem.W.Frag) : Sp := fun vs H Q _ => ∃ L lv rv G xs, ∃ n : Nat, vs = [lv, rv] ∧ Trk H L ∧ Dp K (wo H L) lv (.list ((List.range n).map fun i => .list (iD ((List.range n).map (G i))))) ∧ Dp K (wo H L) rv (.tuple (iD xs)) ∧ xs.length = n ∧ n ≤ 16 ∧ (∀ i j, i < n → j < n → (G i j).natAbs ≤ 2 ^ 1000) ∧ (∀ i, (en xs i).natAbs ≤ 2 ^ 1100) ∧
  Ret K H L (.list (iD (timesL n G xs))) Q
def ratD (p : Int × Int) : PyData := .tuple [.int p.1, .int p.2]
def sp_less_inverse (K : PySem.W.Frag) : Sp := fun vs H Q _ => ∃ L pv qv, ∃ p q : Int × Int, vs = [pv, qv] ∧ Trk H L ∧ Dp K (wo H L) pv (ratD p) ∧ Dp K (wo H L) qv (ratD q) ∧ p.2 * q.1 ≠ 0 ∧ p.1.natAbs ≤ 2 ^ 900 ∧ p.2.natAbs ≤ 2 ^ 900 ∧ q.1.natAbs ≤ 2 ^ 900 ∧ q.2.natAbs ≤ 2 ^ 900 ∧
  Ret K H L (ratD (rt (p.1 * q.1 - p.2 * q.2) (p.2 * q.1))) Q
def sp_signs (K : PySem.W.Frag) : Sp := fun vs H Q _ => ∃ L tv t, vs = [tv] ∧ Trk H L ∧ Bt t ∧ MT.Pos t ∧ Dp K (wo H L) tv (trD t) ∧ Ret K H L (.tuple [.int 0, .int 0, .int (t.n : Int)]) Q
def sp_pos (x : V) (K : PySem.W.Frag) : Sp := fun vs H Q _ => ∃ L tv t, vs = [tv] ∧ Trk H L ∧ Bt t ∧ MT.Pos t ∧ Dp K (wo H L) tv (trD t) ∧ ∀ H', Same H H' → Q x H'
abbrev sp_is_below := sp_pos (.bl true)
abbrev sp_check_below := sp_pos .non
def Mk (t : Tr) (xs : List Int) : Prop := ∀ i, i < t.n → (en xs i - MT.wt t i).fmod 2 = 0
def sp_is_marked (K : PySem.W.Frag) : Sp := fun vs H Q _ => ∃ L tv rv t xs, vs = [tv, rv] ∧ Trk H L ∧ Bt t ∧ MT.Pos t ∧ Cy t xs ∧ Mk t xs ∧ Dp K (wo H L) tv (trD t) ∧ Dp K (wo H L) rv (.tuple (iD xs)) ∧ ∀ H', Same H H' → Q (.bl true) H'
/-- the row's weighed sum: its square is minus this over the determinant -/
def wsum (n : Nat) (g : Nat → Nat → Int) (xs : List Int) : Int := MT.sm (fun i => en xs i * MT.sm (fun j => g i j * en xs j) (List.range n)) (List.range n)
def sp_square (K : PySem.W.Frag) : Sp := fun vs H Q _ => ∃ L tv rv t xs, vs = [tv, rv] ∧ Trk H L ∧ Bt t ∧ MT.Pos t ∧ Cy t xs ∧ (∀ i, (en xs i).natAbs ≤ 2 ^ 500) ∧ Dp K (wo H L) tv (trD t) ∧ Dp K (wo H L) rv (.tuple (iD xs)) ∧ ∀ g, Gp t g → Ret K H L (ratD (rt (-wsum t.n g xs) (MT.Dt t))) Q
def htE (t : Tr) (ks xs : List Int) : Int := (-(dt2 ks xs t.n + prE t xs xs)).fdiv 2
def sp_height (K : PySem.W.Frag) : Sp := fun vs H Q _ => ∃ L tv kv xv t ks xs, vs = [tv, kv, xv] ∧ Trk H L ∧ Bt t ∧ MT.Pos t ∧ Cy t ks ∧ Cy t xs ∧ Dp K (wo H L) tv (trD t) ∧ Dp K (wo H L) kv (.tuple (iD ks)) ∧ Dp K (wo H L) xv (.tuple (iD xs)) ∧ ∀ H', Same H H' → Q (.int (htE t ks xs)) H'
def carL (t : Tr) (ks xs : List Int) : List Int := (List.range t.n).map fun i => en ks i + 2 * MT.rowE t (en xs) i
def sp_carried (K : PySem.W.Frag) : Sp := fun vs H Q _ => ∃ L tv kv xv t ks xs, vs = [tv, kv, xv] ∧ Trk H L ∧ Bt t ∧ MT.Pos t ∧ Cy t ks ∧ Cy t xs ∧ Dp K (wo H L) tv (trD t) ∧ Dp K (wo H L) kv (.tuple (iD ks)) ∧ Dp K (wo H L) xv (.tuple (iD xs)) ∧ Ret K H L (.tuple (iD (carL t ks xs))) Q
theorem en_range {n : Nat} (f : Nat → Int) (i : Nat) : en ((List.range n).map f) i = if i < n then f i else 0 := by
  unfold en
  by_cases h : i < n
  · rw [if_pos h]; simp [h]
  · rw [if_neg h]; simp [h]
theorem en_out {xs : List Int} {i : Nat} (h : xs.length ≤ i) : en xs i = 0 := by
  unfold en
  rw [List.getD_eq_getElem?_getD, List.getElem?_eq_none h]
  rfl
theorem dt2_times (n : Nat) (g : Nat → Nat → Int) (xs : List Int) : dt2 xs (timesL n g xs) n = wsum n g xs := by
  unfold dt2 wsum timesL
  exact MT.sm_congr fun i hi => by rw [en_range, if_pos (List.mem_range.mp hi)]
theorem pow_times {a c d e : Nat} (n : Nat) (hn : n ≤ 16) (h : a ≤ 2 ^ c) (he : c + 4 ≤ e) : n * a ≤ 2 ^ e := by
  have h1 : n * a ≤ 2 ^ 4 * 2 ^ c := Nat.mul_le_mul (by omega) h
  rw [← Nat.pow_add] at h1
  exact Nat.le_trans h1 (Nat.pow_le_pow_right (by omega) (by omega))
theorem times_bd {n : Nat} {g : Nat → Nat → Int} {xs : List Int} {c d : Nat} (hn : n ≤ 16) (lx : xs.length = n) (hg : ∀ i j, i < n → j < n → (g i j).natAbs ≤ 2 ^ c) (hx : ∀ i, (en xs i).natAbs ≤ 2 ^ d) {i : Nat} (hi : i < n) : (MT.sm (fun j => g i j * en xs j) (List.range n)).natAbs ≤ 2 ^ (c + d + 4) := by
  have h := sm_bd (f := fun j => g i j * en xs j) (b := 2 ^ (c + d)) (fun j => ?_) (List.range n)
  · rw [List.length_range] at h
    exact Nat.le_trans h (pow_times (d := 0) n hn (Nat.le_refl _) (by omega))
  · by_cases hj : j < n
    · exact MT.mul_le (hg i j hi hj) (hx j)
    · show (g i j * en xs j).natAbs ≤ _
      rw [en_out (by omega)]
      simp
theorem wsum_bd {n : Nat} {g : Nat → Nat → Int} {xs : List Int} {c d : Nat} (hn : n ≤ 16) (lx : xs.length = n) (hg : ∀ i j, i < n → j < n → (g i j).natAbs ≤ 2 ^ c) (hx : ∀ i, (en xs i).natAbs ≤ 2 ^ d) : (wsum n g xs).natAbs ≤ 2 ^ (c + 2 * d + 8) := by
  have h := sm_bd (f := fun i => en xs i * MT.sm (fun j => g i j * en xs j) (List.range n)) (b := 2 ^ (d + (c + d + 4))) (fun i => ?_) (List.range n)
  · rw [List.length_range] at h
    exact Nat.le_trans h (pow_times (d := 0) n hn (Nat.le_refl _) (by omega))
  · by_cases hi : i < n
    · exact MT.mul_le (hx i) (times_bd hn lx hg hx hi)
    · show (en xs i * _).natAbs ≤ _
      rw [en_out (by omega)]
      simp
/-! ### the law's own -/
def sp_law_row (K : PySem.W.Frag) : Sp := fun vs H Q _ => ∃ L tv xv t xs, vs = [tv, xv] ∧ Trk H L ∧ Bt t ∧ Cy t xs ∧ Dp K (wo H L) tv (trD t) ∧ Dp K (wo H L) xv (.tuple (iD xs)) ∧ Ret K H L (.tuple (iD (rowL t xs))) Q
abbrev sp_law_product := sp_product
abbrev sp_law_tops := sp_left_table
abbrev sp_law_height := sp_height
abbrev sp_law_carried := sp_carried
def canL (t : Tr) : List Int := t.ws.map fun w => -2 - w
def sp_law_canonical (K : PySem.W.Frag) : Sp := fun vs H Q _ => ∃ L tv t, vs = [tv] ∧ Trk H L ∧ Bt t ∧ Dp K (wo H L) tv (trD t) ∧ Ret K H L (.tuple (iD (canL t))) Q
def sp_law_drawn (lim : Tr → List Int → Prop) (K : PySem.W.Frag) : Sp := fun vs H Q _ => ∃ L m c cs b tv t, ∃ wd : Nat, vs = [.ref m, tv, .int wd] ∧ m ∈ L ∧ Trk H L ∧ MAt H m c cs b ∧ Bt t ∧ wd ≤ 10 ∧ b + 20 < 1000000 ∧ Dp K (wo H L) tv (trD t) ∧
  ∀ xs v H', lim t xs → SameM m H H' → MAt H' m c cs (b + 20) → Dp K (wo H' L) v (.tuple (iD xs)) → Q v H'
/-- entries of few bits -/
def Few (xs : List Int) : Prop := ∀ i, (en xs i).natAbs ≤ 2 ^ 12
abbrev sp_law_marked := sp_law_drawn fun t xs => xs.length = t.n ∧ Mk t xs ∧ Few xs
abbrev sp_law_cycle43 := sp_law_drawn fun t xs => xs.length = t.n ∧ Few xs
def sumL (n : Nat) (xs ys : List Int) : List Int := (List.range n).map fun j => en xs j + en ys j
def sp_law_sum (K : PySem.W.Frag) : Sp := fun vs H Q _ => ∃ L xv yv xs ys, ∃ n : Nat, vs = [xv, yv] ∧ Trk H L ∧ xs.length = n ∧ ys.length = n ∧ n ≤ 16 ∧ Dp K (wo H L) xv (.tuple (iD xs)) ∧ Dp K (wo H L) yv (.tuple (iD ys)) ∧ Ret K H L (.tuple (iD (sumL n xs ys))) Q
def sp_law_square (K : PySem.W.Frag) : Sp := fun vs H Q _ => ∃ L tv rv t xs, vs = [tv, rv] ∧ Trk H L ∧ Bt t ∧ MT.Pos t ∧ t.n ≤ 6 ∧ xs.length = t.n ∧ (∀ i, (en xs i).natAbs ≤ 2 ^ 40) ∧ Dp K (wo H L) tv (trD t) ∧ Dp K (wo H L) rv (.tuple (iD xs)) ∧ ∀ g, Gp t g → Ret K H L (ratD (rt (-wsum t.n g xs) (MT.Dt t))) Q
theorem LW_six {t : Tr} (B : Bt t) (h : t.n ≤ 6) (g : Nat → Bool) : (MT.LW t g).natAbs ≤ 2 ^ 76 := by
  have h := M_bd (V := List.range t.n) (W := fun v => -MT.wt t v) (B := fun _ => 1) (c := 10) (fun x _ => ⟨by rw [Int.natAbs_neg]; exact B.wt x, Nat.one_le_two_pow⟩) t.ties g
  refine Nat.le_trans h (Nat.pow_le_pow_right (by omega) ?_)
  rw [List.length_range]
  have := tree_ties B.toTree
  omega
theorem lr_of {a b : Int} (h : 0 < b) : lr a b = rt a b := by
  unfold lr rt cm
  rw [if_pos h, if_neg (by omega)]

/-- a value that can be shown: an integer, or data of lists and tuples -/
def Or1 (d : PyData) (v : V) : Prop := (∃ i, d = .int i) ∨ ∃ a, v = .ref a
def sp_law_like (K : PySem.W.Frag) : Sp := fun vs H Q _ => ∃ x y d, vs = [x, y] ∧ Dp K H x d ∧ Dp K H y d ∧ ∃ k c, Shw k c d ∧ k ≤ 64 ∧ c ≤ 16777216 ∧ Or1 d x ∧ Or1 d y ∧ Q (.bl true) H
/-! ### heights -/
theorem en_sum {n : Nat} {xs ys : List Int} {i : Nat} (h : i < n) : en (sumL n xs ys) i = en xs i + en ys i := by
  unfold sumL
  rw [en_range, if_pos h]
theorem en_car {t : Tr} {ks xs : List Int} {i : Nat} (h : i < t.n) : en (carL t ks xs) i = en ks i + 2 * MT.rowE t (en xs) i := by
  unfold carL
  rw [en_range, if_pos h]
theorem sm_two {f g h : Nat → Int} {l : List Nat} (e : ∀ i ∈ l, f i = g i + h i) : MT.sm f l = MT.sm g l + MT.sm h l := by
  induction l with
  | nil => rfl
  | cons x l ih => rw [MT.sm_cons, MT.sm_cons, MT.sm_cons, e x (by simp), ih fun i hi => e i (by simp [hi])]; omega
theorem rowE_add {t : Tr} {x y z : Nat → Int} {k : Nat} (O : Okt t) (hk : k < t.n) (e : ∀ i, i < t.n → z i = x i + y i) : MT.rowE t z k = MT.rowE t x k + MT.rowE t y k := by
  unfold MT.rowE
  rw [e k hk, sm_two (g := x) (h := y) fun i hi => e i (nb_lt O hi).1]
  grind
/-- twice what stands over the ties -/
theorem sT_self (f : Nat → Int) : ∀ l : List (Nat × Nat), ∃ c, MT.sT f f l = 2 * c
  | [] => ⟨0, rfl⟩
  | p :: l => by
    obtain ⟨c, e⟩ := sT_self f l
    refine ⟨f p.1 * f p.2 + c, ?_⟩
    show f p.1 * f p.2 + f p.2 * f p.1 + MT.sT f f l = _
    rw [e]
    grind
theorem sm_even {f : Nat → Int} : ∀ {l : List Nat}, (∀ i ∈ l, ∃ c, f i = 2 * c) → ∃ c, MT.sm f l = 2 * c
  | [], _ => ⟨0, rfl⟩
  | i :: l, h => by
    obtain ⟨a, ea⟩ := h i (by simp)
    obtain ⟨b, eb⟩ := sm_even (l := l) fun j m => h j (List.mem_cons_of_mem _ m)
    exact ⟨a + b, by rw [MT.sm_cons, ea, eb]; omega⟩
theorem dt2_sm (ks xs : List Int) (n : Nat) : dt2 ks xs n = MT.sm (fun i => en ks i * en xs i) (List.range n) := rfl
/-- a marked row: what is halved is even -/
theorem ht_even {t : Tr} (O : Okt t) {ks xs : List Int} (M : Mk t ks) : dt2 ks xs t.n + prE t xs xs = -(2 * htE t ks xs) := by
  have key : ∃ c, dt2 ks xs t.n + prE t xs xs = 2 * c := by
    have e : prE t xs xs = MT.sm (fun k => MT.wt t k * en xs k * en xs k) (List.range t.n) + MT.sT (en xs) (en xs) t.ties := MT.sm_row O (en xs) (en xs)
    obtain ⟨c, ec⟩ := sT_self (en xs) t.ties
    obtain ⟨d, ed⟩ := sm_even (f := fun k => en ks k * en xs k + MT.wt t k * en xs k * en xs k) (l := List.range t.n) fun k hk => by
      have m := M k (List.mem_range.mp hk)
      rw [Int.fmod_eq_emod_of_nonneg _ (by omega)] at m
      obtain ⟨u, hu⟩ := Int.dvd_of_emod_eq_zero m
      have p : ∃ v, en xs k + en xs k * en xs k = 2 * v := by
        rcases Int.emod_two_eq (en xs k) with z | z
        · obtain ⟨v, hv⟩ := Int.dvd_of_emod_eq_zero z
          exact ⟨v + v * en xs k, by
            have : en xs k * en xs k = 2 * (v * en xs k) := by rw [← Int.mul_assoc, ← hv]
            omega⟩
        · have z2 : (en xs k + 1) % 2 = 0 := by omega
          obtain ⟨v, hv⟩ := Int.dvd_of_emod_eq_zero z2
          exact ⟨en xs k * v, by
            have : en xs k * (en xs k + 1) = en xs k * (2 * v) := by rw [hv]
            grind⟩
      obtain ⟨v, hv⟩ := p
      exact ⟨u * en xs k + MT.wt t k * v, by
        have e1 : en ks k = MT.wt t k + 2 * u := by omega
        rw [e1]
        have : MT.wt t k * (en xs k + en xs k * en xs k) = MT.wt t k * (2 * v) := by rw [hv]
        grind⟩
    refine ⟨d + c, ?_⟩
    rw [e, ec, dt2_sm]
    rw [MT.sm_add] at ed
    omega
  obtain ⟨c, e⟩ := key
  have e2 : htE t ks xs = -c := by
    unfold htE
    rw [e, show -(2 * c) = 2 * -c by omega, Int.fdiv_eq_ediv_of_nonneg _ (by omega)]
    omega
  rw [e, e2]
  omega
theorem prE_comm {t : Tr} (O : Okt t) (xs ys : List Int) : prE t xs ys = prE t ys xs := by
  unfold prE
  rw [MT.sm_row O, MT.sm_row O, MT.sT_comm]
  congr 1
  exact MT.sm_congr fun k _ => by grind
theorem dt2_add {n : Nat} {ks xs ys : List Int} : dt2 ks (sumL n xs ys) n = dt2 ks xs n + dt2 ks ys n := by
  unfold dt2
  rw [← MT.sm_add]
  exact MT.sm_congr fun i hi => by rw [en_sum (List.mem_range.mp hi)]; grind
theorem prE_sum {t : Tr} (O : Okt t) {xs ys : List Int} (zs : List Int) : prE t zs (sumL t.n xs ys) = prE t zs xs + prE t zs ys := prE_add O fun k hk => en_sum hk
/-- heights of a sum -/
theorem ht_sum {t : Tr} (O : Okt t) {ks xs ys : List Int} (M : Mk t ks) : htE t ks (sumL t.n xs ys) = htE t ks xs + htE t ks ys - prE t xs ys := by
  have a := ht_even O (xs := xs) M
  have b := ht_even O (xs := ys) M
  have c := ht_even O (xs := sumL t.n xs ys) M
  rw [dt2_add, prE_sum O, prE_comm O (sumL t.n xs ys) xs, prE_comm O (sumL t.n xs ys) ys, prE_sum O, prE_sum O, prE_comm O ys xs] at c
  omega
theorem mk_car {t : Tr} {ks xs : List Int} (M : Mk t ks) : Mk t (carL t ks xs) := fun i hi => by
  have m := M i hi
  rw [Int.fmod_eq_emod_of_nonneg _ (by omega)] at m ⊢
  rw [en_car hi]
  omega
theorem car_two {t : Tr} (O : Okt t) {ks xs ys : List Int} : carL t (carL t ks xs) ys = carL t ks (sumL t.n xs ys) := by
  show (List.range t.n).map _ = (List.range t.n).map _
  refine List.map_congr_left fun i hi => ?_
  have hi := List.mem_range.mp hi
  rw [en_car hi, rowE_add (x := en xs) (y := en ys) O hi fun j hj => en_sum hj]
  omega
theorem dt2_car {t : Tr} {ks xs ys : List Int} : dt2 (carL t ks xs) ys t.n = dt2 ks ys t.n + 2 * prE t ys xs := by
  unfold dt2 prE
  rw [← MT.sm_mul, ← MT.sm_add]
  exact MT.sm_congr fun i hi => by rw [en_car (List.mem_range.mp hi)]; grind
/-- the height over a carried row -/
theorem ht_car {t : Tr} (O : Okt t) {ks xs ys : List Int} (M : Mk t ks) : htE t (carL t ks xs) ys = htE t ks (sumL t.n xs ys) - htE t ks xs := by
  have a := ht_even O (xs := ys) (mk_car (xs := xs) M)
  have b := ht_even O (xs := ys) M
  rw [dt2_car, prE_comm O ys xs] at a
  rw [ht_sum O M]
  omega
/-- the inverse's line over the row of x -/
theorem back_g {t : Tr} (B : Bt t) {g : Nat → Nat → Int} (hg : Gp t g) {i : Nat} (hi : i < t.n) (x : Nat → Int) : MT.sm (fun j => g i j * MT.rowE t x j) (List.range t.n) = -(MT.Dt t * x i) := by
  obtain ⟨par, dep, R⟩ := B.tree i hi
  have e : MT.sm (fun j => g i j * MT.rowE t x j) (List.range t.n) = MT.sm (fun j => MT.LW t (MT.on par dep j) * MT.rowE t x j) (List.range t.n) := by
    refine MT.sm_congr fun j hj => ?_
    obtain ⟨par', dep', R'⟩ := B.tree j (List.mem_range.mp hj)
    rw [way_on hg R R']
  rw [e, MT.back_at B.toTree R]
  grind
def bil (n : Nat) (g : Nat → Nat → Int) (x y : Nat → Int) : Int := MT.sm (fun i => x i * MT.sm (fun j => g i j * y j) (List.range n)) (List.range n)
theorem bil_row {t : Tr} (B : Bt t) {g : Nat → Nat → Int} (hg : Gp t g) (x y : Nat → Int) : bil t.n g x (MT.rowE t y) = -(MT.Dt t * MT.sm (fun i => x i * y i) (List.range t.n)) := by
  unfold bil
  rw [← Int.neg_mul, ← MT.sm_mul]
  exact MT.sm_congr fun i hi => by rw [back_g B hg (List.mem_range.mp hi)]; grind
theorem sm_swap (f : Nat → Nat → Int) (l : List Nat) : ∀ m : List Nat, MT.sm (fun i => MT.sm (fun j => f i j) m) l = MT.sm (fun j => MT.sm (fun i => f i j) l) m
  | [] => by
    have := MT.sm_mul 0 (fun _ => 0) l
    simp at this
    simp [MT.sm_nil, this]
  | j :: m => by
    rw [MT.sm_cons, ← sm_swap f l m, ← MT.sm_add]
    exact MT.sm_congr fun i _ => by rw [MT.sm_cons]
theorem bil_sym {t : Tr} (B : Bt t) {g : Nat → Nat → Int} (hg : Gp t g) (x y : Nat → Int) : bil t.n g x y = bil t.n g y x := by
  unfold bil
  have e : ∀ (x y : Nat → Int), MT.sm (fun i => x i * MT.sm (fun j => g i j * y j) (List.range t.n)) (List.range t.n) = MT.sm (fun i => MT.sm (fun j => x i * (g i j * y j)) (List.range t.n)) (List.range t.n) := fun x y => MT.sm_congr fun i _ => by rw [MT.sm_mul]
  rw [e, e, sm_swap]
  refine MT.sm_congr fun j hj => MT.sm_congr fun i hi => ?_
  rw [gp_sym B.toTree hg (List.mem_range.mp hj) (List.mem_range.mp hi)]
  grind
/-- the weighed sum of a carried row -/
theorem wsum_car {t : Tr} (B : Bt t) {g : Nat → Nat → Int} (hg : Gp t g) {ks xs : List Int} (M : Mk t ks) : wsum t.n g (carL t ks xs) = wsum t.n g ks + 8 * (MT.Dt t * htE t ks xs) := by
  have h := ht_even B.toOkt (xs := xs) M
  have lin : ∀ x a b : Nat → Int, bil t.n g x (fun i => a i + 2 * b i) = bil t.n g x a + 2 * bil t.n g x b := fun x a b => by
    unfold bil
    rw [← MT.sm_mul, ← MT.sm_add]
    refine MT.sm_congr fun i _ => ?_
    have : MT.sm (fun j => g i j * (a j + 2 * b j)) (List.range t.n) = MT.sm (fun j => g i j * a j) (List.range t.n) + 2 * MT.sm (fun j => g i j * b j) (List.range t.n) := by
      rw [← MT.sm_mul, ← MT.sm_add]
      exact MT.sm_congr fun j _ => by grind
    rw [this]
    grind
  have e0 : wsum t.n g (carL t ks xs) = bil t.n g (fun i => en ks i + 2 * MT.rowE t (en xs) i) (fun i => en ks i + 2 * MT.rowE t (en xs) i) := by
    unfold wsum bil
    refine MT.sm_congr fun i hi => ?_
    rw [en_car (List.mem_range.mp hi)]
    congr 1
    exact MT.sm_congr fun j hj => by rw [en_car (List.mem_range.mp hj)]
  have k1 := bil_row B hg (en ks) (en xs)
  have k2 := bil_row B hg (fun i => en ks i + 2 * MT.rowE t (en xs) i) (en xs)
  rw [e0, lin, k2, bil_sym B hg (fun i => en ks i + 2 * MT.rowE t (en xs) i), lin, k1]
  have e1 : MT.sm (fun i => (en ks i + 2 * MT.rowE t (en xs) i) * en xs i) (List.range t.n) = dt2 ks xs t.n + 2 * prE t xs xs := by
    unfold dt2 prE
    rw [← MT.sm_mul, ← MT.sm_add]
    exact MT.sm_congr fun i _ => by grind
  have e2 : MT.sm (fun i => en ks i * en xs i) (List.range t.n) = dt2 ks xs t.n := rfl
  have e3 : bil t.n g (en ks) (en ks) = wsum t.n g ks := rfl
  rw [e1, e2, e3]
  have : MT.Dt t * (dt2 ks xs t.n + prE t xs xs) = MT.Dt t * -(2 * htE t ks xs) := by rw [h]
  grind
/-! ### bounds -/
def En (c : Nat) (xs : List Int) : Prop := ∀ i, (en xs i).natAbs ≤ 2 ^ c
theorem En.up {c d : Nat} {xs : List Int} (h : En c xs) (le : c ≤ d) : En d xs := fun i => Nat.le_trans (h i) (Nat.pow_le_pow_right (by omega) le)
theorem En.cy {t : Tr} {c : Nat} {xs : List Int} (h : En c xs) (l : xs.length = t.n) (le : c ≤ 1000) : Cy t xs := ⟨l, fun x hx => by
  obtain ⟨i, hi⟩ := List.getElem?_of_mem hx
  have := (h.up le) i
  rw [en_at hi] at this
  exact this⟩
theorem two_pow (c : Nat) : (2 : Nat) ^ (c + 1) = 2 * 2 ^ c := by rw [Nat.pow_succ, Nat.mul_comm]
theorem En.sum {n c : Nat} {xs ys : List Int} (h : En c xs) (k : En c ys) : En (c + 1) (sumL n xs ys) := fun i => by
  unfold sumL
  rw [en_range]
  have a := h i
  have b := k i
  have e := two_pow c
  have := Int.natAbs_add_le (en xs i) (en ys i)
  split
  · omega
  · exact Nat.zero_le _
theorem rowE_bd {t : Tr} (B : Bt t) {c : Nat} {xs : List Int} (h : En c xs) (k : Nat) : (MT.rowE t (en xs) k).natAbs ≤ 2 ^ (c + 11) := by
  unfold MT.rowE
  have m := MT.mul_le (B.wt k) (h k)
  have s := sm_bd (f := en xs) h (nb t.ties k)
  have l := nb_le B.toOkt k
  have few := B.few
  have s2 : (nb t.ties k).length * 2 ^ c ≤ 2 ^ (4 + c) := by
    rw [Nat.pow_add]
    exact Nat.mul_le_mul_right _ (by omega)
  have e : (2 : Nat) ^ (10 + c) + 2 ^ (4 + c) ≤ 2 ^ (c + 11) := by
    have e1 : (2 : Nat) ^ (4 + c) ≤ 2 ^ (10 + c) := Nat.pow_le_pow_right (by omega) (by omega)
    have e2 := two_pow (10 + c)
    rw [show c + 11 = 10 + c + 1 by omega]
    omega
  have := Int.natAbs_add_le (MT.wt t k * en xs k) (MT.sm (en xs) (nb t.ties k))
  omega
theorem En.car {t : Tr} (B : Bt t) {c : Nat} {ks xs : List Int} (h : En c ks) (k : En c xs) : En (c + 13) (carL t ks xs) := fun i => by
  unfold carL
  rw [en_range]
  split
  · have a := h i
    have b := rowE_bd B k i
    have e1 : (2 : Nat) ^ c ≤ 2 ^ (c + 12) := Nat.pow_le_pow_right (by omega) (by omega)
    have e2 := two_pow (c + 12)
    have e3 := two_pow (c + 11)
    have := Int.natAbs_add_le (en ks i) (2 * MT.rowE t (en xs) i)
    have e4 : (2 * MT.rowE t (en xs) i).natAbs = 2 * (MT.rowE t (en xs) i).natAbs := Int.natAbs_mul _ _
    rw [show c + 11 + 1 = c + 12 by omega] at e3
    rw [show c + 13 = c + 12 + 1 by omega]
    omega
  · exact Nat.zero_le _
theorem sm_n {n c : Nat} {f : Nat → Int} (hn : n ≤ 16) (h : ∀ i, (f i).natAbs ≤ 2 ^ c) : (MT.sm f (List.range n)).natAbs ≤ 2 ^ (c + 4) := by
  have := sm_bd h (List.range n)
  rw [List.length_range] at this
  exact Nat.le_trans this (pow_times (d := 0) n hn (Nat.le_refl _) (by omega))
theorem ht_bd {t : Tr} (B : Bt t) {c : Nat} {ks xs : List Int} (h : En c ks) (k : En c xs) : (htE t ks xs).natAbs ≤ 2 ^ (2 * c + 17) := by
  have d1 : (dt2 ks xs t.n).natAbs ≤ 2 ^ (c + c + 4) := sm_n B.few fun i => MT.mul_le (h i) (k i)
  have d2 : (prE t xs xs).natAbs ≤ 2 ^ (c + (c + 11) + 4) := sm_n B.few fun i => MT.mul_le (k i) (rowE_bd B k i)
  have e1 : (2 : Nat) ^ (c + c + 4) ≤ 2 ^ (2 * c + 15) := Nat.pow_le_pow_right (by omega) (by omega)
  have e2 := two_pow (2 * c + 15)
  have e3 := two_pow (2 * c + 16)
  have e4 : c + (c + 11) + 4 = 2 * c + 15 := by omega
  rw [e4] at d2
  have p := Nat.one_le_two_pow (n := 2 * c + 15)
  unfold htE
  rw [Int.fdiv_eq_ediv_of_nonneg _ (by omega)]
  rw [show 2 * c + 15 + 1 = 2 * c + 16 by omega] at e2
  rw [show 2 * c + 16 + 1 = 2 * c + 17 by omega] at e3
  omega
theorem shw_lt {i : Int} {c : Nat} (h : i.natAbs ≤ 2 ^ c) (hc : c < 1920) : i.natAbs.log2 < 1920 := Nat.lt_of_le_of_lt (lg_le h) hc
theorem shw_row {n c : Nat} {xs : List Int} (l : xs.length ≤ n) (h : En c xs) (hc : c < 1920) : Shw 1 (n * 1923 + 3) (.tuple (iD xs)) := shw_ints (fun x hx => by
  obtain ⟨i, hi⟩ := List.getElem?_of_mem hx
  have := h i
  rw [en_at hi] at this
  exact shw_lt this hc) l
def sp_law_pair_right (K : PySem.W.Frag) : Sp := fun vs H Q _ => ∃ tv kv xv yv t ks xs ys, vs = [tv, kv, xv, yv] ∧ Bt t ∧ MT.Pos t ∧ t.n ≤ 6 ∧ Mk t ks ∧ ks.length = t.n ∧ xs.length = t.n ∧ ys.length = t.n ∧ En 12 ks ∧ En 12 xs ∧ En 12 ys ∧
  Dp K (wo H []) tv (trD t) ∧ Dp K (wo H []) kv (.tuple (iD ks)) ∧ Dp K (wo H []) xv (.tuple (iD xs)) ∧ Dp K (wo H []) yv (.tuple (iD ys)) ∧ ∀ H', Same H H' → Q (.bl true) H'
theorem gp_eq {t : Tr} (T : Tree t) {g g' : Nat → Nat → Int} (h : Gp t g) (h' : Gp t g') {i j : Nat} (hi : i < t.n) (hj : j < t.n) : g i j = g' i j := by
  obtain ⟨par, dep, R⟩ := T.tree j hj
  rw [h i j hi par dep R, h' i j hi par dep R]
theorem wsum_eq {t : Tr} (T : Tree t) {g g' : Nat → Nat → Int} (h : Gp t g) (h' : Gp t g') (xs : List Int) : wsum t.n g xs = wsum t.n g' xs := by
  unfold wsum
  refine MT.sm_congr fun i hi => ?_
  congr 1
  exact MT.sm_congr fun j hj => by rw [gp_eq T h h' (List.mem_range.mp hi) (List.mem_range.mp hj)]
/-- squares of a row and of the carried one -/
theorem rt_car {A A' D h : Int} (hD : 0 < D) (e : A' = A - 8 * (D * h)) : (rt A' D).1 * (rt A D).2 - (rt A D).1 * (rt A' D).2 = -8 * h * (rt A D).2 * (rt A' D).2 := by
  obtain ⟨⟨k, k1, k2⟩, hp⟩ := rt_ok (a := A) (b := D) (by omega)
  obtain ⟨⟨l, l1, l2⟩, hq⟩ := rt_ok (a := A') (b := D) (by omega)
  have k0 : k ≠ 0 := fun z => by rw [z] at k2; omega
  have l0 : l ≠ 0 := fun z => by rw [z] at l2; omega
  refine Int.eq_of_mul_eq_mul_right (Int.mul_ne_zero k0 l0) ?_
  obtain ⟨p, hp1⟩ : ∃ p, p = (rt A D).1 := ⟨_, rfl⟩
  obtain ⟨q, hq1⟩ : ∃ p, p = (rt A D).2 := ⟨_, rfl⟩
  obtain ⟨p', hp2⟩ : ∃ p, p = (rt A' D).1 := ⟨_, rfl⟩
  obtain ⟨q', hq2⟩ : ∃ p, p = (rt A' D).2 := ⟨_, rfl⟩
  rw [← hp1, ← hq1, ← hp2, ← hq2]
  rw [← hp1] at k1
  rw [← hq1] at k2
  rw [← hp2] at l1
  rw [← hq2] at l2
  have e1 : (p' * q - p * q') * (k * l) = (p' * l) * (q * k) - (p * k) * (q' * l) := by grind
  have e2 : -8 * h * q * q' * (k * l) = -8 * h * (q * k) * (q' * l) := by grind
  rw [e1, e2, ← l1, ← l2, ← k1, ← k2, e]
  grind
theorem rat_bd {A D : Int} (hD : D ≠ 0) (h1 : A.natAbs ≤ 2 ^ 200) (h2 : D.natAbs ≤ 2 ^ 200) : ∀ d ∈ [PyData.int (rt A D).1, PyData.int (rt A D).2], Shw 0 1921 d := fun d m => by
  obtain ⟨a, b⟩ := rt_le (a := A) hD h1 h2
  simp at m
  rcases m with m | m <;> subst m
  · exact shw_bits a (by omega)
  · exact shw_bits b (by omega)
theorem shw_rat {A D : Int} (hD : D ≠ 0) (h1 : A.natAbs ≤ 2 ^ 200) (h2 : D.natAbs ≤ 2 ^ 200) : Shw 1 (2 * 1923 + 3) (ratD (rt A D)) := shw_tup (rat_bd hD h1 h2) (by simp)
/-! ### a place alone -/
def rRepU (K : PySem.W.Frag) : R2 := fun x y H Q => ∃ (l : Addr) (k : Nat), x = .ref l ∧ y = .int (k : Int) ∧ SqT K H l [.int 0] ∧ k ≤ 1000 ∧ ∀ v H', Same H H' → Dp K H' v (.tuple (iD (List.replicate k 0))) → Q v H'
theorem op_repU {X : Cx} (K : PySem.W.Frag) (hK : X.K = K) : OpR X (binaryOp .Mult) (rRepU K) := fun pins s σ H x y v u Q I rx ry h => by
  obtain ⟨l, k, e1, e2, hT, hk, q⟩ := h
  have er : ∀ n : Nat, List.replicate n (V.int 0) = iV (List.replicate n 0) := fun n => by unfold iV; rw [List.map_replicate]
  refine op_repZ K hK pins s σ H x y v u Q I rx ry ⟨l, k, e1, e2, hT, hk, fun k1 => q _ _ (Same.refl _) ?_, fun _ p hp => q _ _ (same_new hp _) ?_⟩
  · subst k1
    exact .tup hT (dpAll_ints.mpr rfl)
  · rw [er]
    exact .tup (.inl (.inl upd_same)) (dpAll_ints.mpr rfl)
theorem en_rep (n i : Nat) : en (List.replicate n 0) i = 0 := by
  unfold en
  rw [List.getD_eq_getElem?_getD, List.getElem?_replicate]
  split <;> rfl
theorem en_self {n : Nat} {xs : List Int} (l : xs.length = n) : (List.range n).map (en xs) = xs := by
  refine List.ext_getElem (by simp [l]) fun i h1 h2 => ?_
  rw [List.getElem_map, List.getElem_range]
  exact en_at (List.getElem?_eq_getElem h2)
theorem sm_zero {f : Nat → Int} {l : List Nat} (h : ∀ i ∈ l, f i = 0) : MT.sm f l = 0 := by
  induction l with
  | nil => rfl
  | cons i l ih => rw [MT.sm_cons, h i (by simp), ih fun j m => h j (by simp [m])]; rfl
theorem rowE_rep (t : Tr) (n k : Nat) : MT.rowE t (en (List.replicate n 0)) k = 0 := by
  unfold MT.rowE
  rw [en_rep, sm_zero fun i _ => en_rep n i]
  simp
theorem ht_rep (t : Tr) (ks : List Int) : htE t ks (List.replicate t.n 0) = 0 := by
  unfold htE dt2 prE
  rw [sm_zero fun i _ => by rw [en_rep]; simp, sm_zero fun i _ => by rw [en_rep]; simp]
  rfl
theorem car_rep {t : Tr} {ks : List Int} (l : ks.length = t.n) : carL t ks (List.replicate t.n 0) = ks := by
  unfold carL
  have : ((List.range t.n).map fun i => en ks i + 2 * MT.rowE t (en (List.replicate t.n 0)) i) = (List.range t.n).map (en ks) := List.map_congr_left fun i _ => by rw [rowE_rep]; omega
  rw [this, en_self l]
def unitL (n p : Nat) (s : Int) : List Int := (List.range n).map fun j => if j = p then s else 0
theorem en_unit {n p : Nat} {s : Int} (hp : p < n) (i : Nat) : en (unitL n p s) i = if i = p then s else 0 := by
  unfold unitL
  rw [en_range]
  by_cases h : i < n
  · rw [if_pos h]
  · rw [if_neg h, if_neg (by omega)]
theorem sm_pick {f : Nat → Int} {p : Nat} : ∀ {l : List Nat}, l.Nodup → p ∈ l → (∀ i ∈ l, i ≠ p → f i = 0) → MT.sm f l = f p
  | [], _, m, _ => by simp at m
  | i :: l, nd, m, h => by
    obtain ⟨n1, n2⟩ := List.nodup_cons.mp nd
    rw [MT.sm_cons]
    by_cases e : i = p
    · subst e
      rw [sm_zero fun j hj => h j (by simp [hj]) fun z => n1 (by rw [← z]; exact hj)]
      omega
    · rw [h i (by simp) e, sm_pick n2 (by simp at m; rcases m with z | z; exact absurd z.symm e; exact z) fun j hj => h j (by simp [hj])]
      omega
theorem ht_unit {t : Tr} (O : Okt t) {ks : List Int} {p : Nat} {s : Int} (hp : p < t.n) (hs : s * s = 1) : htE t ks (unitL t.n p s) = (-(s * en ks p + MT.wt t p)).fdiv 2 := by
  have e1 : dt2 ks (unitL t.n p s) t.n = s * en ks p := by
    unfold dt2
    rw [sm_pick (p := p) List.nodup_range (List.mem_range.mpr hp) fun i _ ne => by rw [en_unit hp, if_neg ne]; simp]
    rw [en_unit hp, if_pos rfl, Int.mul_comm]
  have e2 : MT.rowE t (en (unitL t.n p s)) p = MT.wt t p * s := by
    unfold MT.rowE
    rw [en_unit hp, if_pos rfl, sm_zero fun i hi => by
      rw [en_unit hp, if_neg]
      intro z
      subst z
      exact (nb_lt O hi).2.2 rfl]
    omega
  have e3 : prE t (unitL t.n p s) (unitL t.n p s) = MT.wt t p := by
    unfold prE
    rw [sm_pick (p := p) List.nodup_range (List.mem_range.mpr hp) fun i _ ne => by rw [en_unit hp, if_neg ne]; simp]
    rw [en_unit hp, if_pos rfl, e2, ← Int.mul_assoc, Int.mul_comm s, Int.mul_assoc, hs, Int.mul_one]
  unfold htE
  rw [e1, e3]
theorem en_can {t : Tr} {p : Nat} (hp : p < t.n) : en (canL t) p = -2 - MT.wt t p := by
  unfold canL
  exact en_at (by rw [List.getElem?_map, w_at hp]; rfl)
theorem ht_can {t : Tr} (O : Okt t) {p : Nat} (hp : p < t.n) : htE t (canL t) (unitL t.n p 1) = 1 := by
  rw [ht_unit O hp rfl, en_can hp, show -(1 * (-2 - MT.wt t p) + MT.wt t p) = 2 by omega]
  rfl
theorem len_can (t : Tr) : (canL t).length = t.n := List.length_map _
theorem En.can {t : Tr} (B : Bt t) : En 12 (canL t) := fun i => by
  by_cases h : i < t.n
  · rw [en_can h]
    have := B.wb _ (List.mem_of_getElem? (w_at h))
    have e : (2 : Nat) ^ 12 = 4096 := by decide
    omega
  · rw [en_out (by rw [len_can]; omega)]
    exact Nat.zero_le _
def sp_law_places_right (K : PySem.W.Frag) : Sp := fun vs H Q _ => ∃ tv kv t ks, vs = [tv, kv] ∧ Bt t ∧ MT.Pos t ∧ t.n ≤ 6 ∧ Mk t ks ∧ ks.length = t.n ∧ En 12 ks ∧ Dp K (wo H []) tv (trD t) ∧ Dp K (wo H []) kv (.tuple (iD ks)) ∧ ∀ H', Same H H' → Q (.bl true) H'
def sp_law_hand_right (K : PySem.W.Frag) : Sp := fun vs H Q _ => vs = [] ∧ ∀ H', Same H H' → Q (.bl true) H'
/-! ### by hand -/
theorem cy_small {t : Tr} {xs : List Int} (l : xs.length = t.n) (h : (xs.all fun x => decide (x.natAbs ≤ 100)) = true) : Cy t xs := ⟨l, fun x hx => Nat.le_trans (of_decide_eq_true (List.all_eq_true.mp h x hx)) (Nat.le_trans (by decide : 100 ≤ 2 ^ 7) (Nat.pow_le_pow_right (by omega) (by omega)))⟩
def tA : Tr := ⟨[-2], []⟩
def tS : Tr := ⟨[-1, -2, -3, -7], [(0, 1), (0, 2), (0, 3)]⟩
theorem rooted_A : TM.Rooted tA.n (adjT tA.ties) 0 (fun _ => 0) fun _ => 0 := by
  have n1 : tA.n = 1 := rfl
  refine ⟨by decide, rfl, fun v hv ne => by omega, fun u v => ?_⟩
  rw [n1]
  unfold adjT tA
  simp
  omega
theorem bt_A : Bt tA := by
  refine ⟨⟨⟨by decide, by decide, (fun p h => nomatch h), List.Pairwise.nil⟩, fun r hr => ?_⟩, fun x hx => ?_⟩
  · have : r = 0 := by have : r < 1 := hr; omega
    subst this
    exact ⟨_, _, rooted_A⟩
  · have hx : x ∈ [(-2 : Int)] := hx
    simp at hx
    omega
theorem pos_A : MT.Pos tA := by
  obtain ⟨D, N, h, _⟩ := dn_all bt_A rooted_A
  refine MT.pos_of bt_A.toTree rooted_A h fun v hv => ?_
  have : v = 0 := by have : v < 1 := hv; omega
  subst this
  have e := congrArg Prod.fst (h 0 hv)
  have k : kids tA.ties 0 (fun _ => 0) 0 = [] := by decide
  rw [k] at e
  have e : D 0 = -MT.wt tA 0 := e
  rw [e]
  decide
theorem rooted_S : TM.Rooted tS.n (adjT tS.ties) 0 (fun _ => 0) fun v => if v = 0 then 0 else 1 := by
  refine ⟨by decide, rfl, fun v hv ne => ⟨by decide, by simp [ne]⟩, fun u v => ?_⟩
  have n4 : tS.n = 4 := rfl
  rw [n4]
  unfold adjT tS
  simp
  omega
theorem bt_S : Bt tS := by
  have sh : Shape 4 [(0, 1), (0, 2), (0, 3)] := by
    refine ⟨rfl, fun k p hk => ?_⟩
    match k, hk with
    | 0, hk => cases hk; decide
    | 1, hk => cases hk; decide
    | 2, hk => cases hk; decide
  have T := made_tree (ws := [-1, -2, -3, -7]) sh rfl (by omega)
  have so : [(0, 1), (0, 2), (0, 3)] = sortP (([(0, 1), (0, 2), (0, 3)] : List (Nat × Nat)).map fun p => mk2 p.1 p.2) := sortP_uniq (by decide) (by decide)
  have e : madeT [-1, -2, -3, -7] [(0, 1), (0, 2), (0, 3)] = tS := by
    unfold madeT tS
    rw [← so]
  rw [e] at T
  refine ⟨T, fun x hx => ?_⟩
  have hx : x ∈ [(-1 : Int), -2, -3, -7] := hx
  simp at hx
  omega
theorem pos_S : MT.Pos tS := by
  obtain ⟨D, N, h, _⟩ := dn_all bt_S rooted_S
  have leaf : ∀ v, 0 < v → v < 4 → D v = -MT.wt tS v ∧ N v = 1 := fun v h0 h4 => by
    have k : kids tS.ties 0 (fun _ => 0) v = [] := by
      match v, h0, h4 with
      | 1, _, _ => decide
      | 2, _, _ => decide
      | 3, _, _ => decide
    have e := h v h4
    rw [k] at e
    exact ⟨congrArg Prod.fst e, congrArg Prod.snd e⟩
  have l1 := leaf 1 (by omega) (by omega)
  have l2 := leaf 2 (by omega) (by omega)
  have l3 := leaf 3 (by omega) (by omega)
  have w0 : MT.wt tS 0 = -1 := rfl
  have w1 : MT.wt tS 1 = -2 := rfl
  have w2 : MT.wt tS 2 = -3 := rfl
  have w3 : MT.wt tS 3 = -7 := rfl
  refine MT.pos_of bt_S.toTree rooted_S h fun v hv => ?_
  have hv : v < 4 := hv
  match v, hv with
  | 0, hv =>
    have e := congrArg Prod.fst (h 0 hv)
    have k : kids tS.ties 0 (fun _ => 0) 0 = [1, 2, 3] := by decide
    rw [k] at e
    have e : D 0 = (((-MT.wt tS 0) * D 1 - 1 * N 1) * D 2 - (1 * D 1) * N 2) * D 3 - (1 * D 1 * D 2) * N 3 := e
    rw [e, l1.1, l1.2, l2.1, l2.2, l3.1, l3.2, w0, w1, w2, w3]
    decide
  | 1, _ => rw [l1.1, w1]; decide
  | 2, _ => rw [l2.1, w2]; decide
  | 3, _ => rw [l3.1, w3]; decide
theorem hS1 : htE tS [-1, 0, 1, 5] [1, 1, 1, 1] = 1 := by decide
theorem hS2 : htE tS [-1, 0, 1, 5] [2, 1, 1, 1] = 0 := by decide
theorem hS3 : htE tS [-1, 0, 1, 5] [6, 3, 2, 1] = 0 := by decide
theorem cS : carL tS [-1, 0, 1, 5] [2, 1, 1, 1] = [1, 0, -1, -5] := by decide
theorem hA1 : htE tA [0] [3] = 9 := by decide
theorem cA : carL tA [4] [-2] = [12] := by decide
theorem hE : htE ⟨[], []⟩ [] [] = 0 := by decide
theorem cE : carL ⟨[], []⟩ [] [] = [] := by decide
theorem mk_tr {K : PySem.W.Frag} {H : Hp} {a b c : Addr} (ws : List Int) (ha : H a = none) (hb : (upd H a (.tup (iV ws))) b = none) (hc : (upd (upd H a (.tup (iV ws))) b (.tup [])) c = none) : Same H (upd (upd (upd H a (.tup (iV ws))) b (.tup [])) c (.tup [.ref a, .ref b])) ∧ Dp K (wo (upd (upd (upd H a (.tup (iV ws))) b (.tup [])) c (.tup [.ref a, .ref b])) []) (.ref c) (trD ⟨ws, []⟩) := by
  have s1 := same_new ha (.tup (iV ws))
  have s2 := same_new hb (.tup [])
  have s3 := same_new hc (.tup [.ref a, .ref b])
  refine ⟨s1.trans (s2.trans s3), ?_⟩
  exact tup_new (K := K) (L := []) (Trk.nil _) hc (ys := [.ref a, .ref b]) (ds := [.tuple (iD ws), .tuple []]) (.cons (dp_mono (wo_mono s2) (tup_new (Trk.nil _) ha (dpAll_ints.mpr rfl))) (.cons (tup_new (Trk.nil _) hb .nil) .nil))
theorem mk_is {K : PySem.W.Frag} {H : Hp} {p : Addr} (xs : List Int) (h : H p = none) : Same H (upd H p (.tup (iV xs))) ∧ Dp K (wo (upd H p (.tup (iV xs))) []) (.ref p) (.tuple (iD xs)) := ⟨same_new h _, tup_new (Trk.nil _) h (dpAll_ints.mpr rfl)⟩
def tE : Tr := ⟨[], []⟩
theorem bt_E : Bt tE := bt_nil
theorem pos_E : MT.Pos tE := MT.pos_nil bt_E.toOkt rfl
end Y
/-! trees below zero: squares of cycles and of rows -/
namespace MT
open Y
theorem sm_perm {f : Nat → Int} {l m : List Nat} (p : l.Perm m) : sm f l = sm f m := by
  induction p with
  | nil => rfl
  | cons x _ ih => rw [sm_cons, sm_cons, ih]
  | swap x y l => rw [sm_cons, sm_cons, sm_cons, sm_cons]; omega
  | trans _ _ h1 h2 => rw [h1, h2]
theorem sm_filter (f : Nat → Int) (q : Nat → Bool) : ∀ l : List Nat, sm f (l.filter q) = sm (fun x => if q x = true then f x else 0) l
  | [] => rfl
  | x :: l => by
    rw [sm_cons, ← sm_filter f q l]
    cases h : q x
    · rw [List.filter_cons_of_neg (by simp [h])]; simp
    · rw [List.filter_cons_of_pos h, sm_cons]; simp
theorem sm_map (f : Nat → Int) (h : Nat → Nat) (l : List Nat) : sm f (l.map h) = sm (fun x => f (h x)) l := by
  unfold sm
  rw [List.map_map]
  rfl
theorem sm_nonneg {f : Nat → Int} : ∀ {l : List Nat}, (∀ i ∈ l, 0 ≤ f i) → 0 ≤ sm f l ∧ (sm f l = 0 → ∀ i ∈ l, f i = 0)
  | [], _ => ⟨Int.le_refl _, fun _ i m => by simp at m⟩
  | x :: l, h => by
    obtain ⟨h1, h2⟩ := sm_nonneg (l := l) fun i m => h i (List.mem_cons_of_mem _ m)
    have h0 := h x (by simp)
    rw [sm_cons]
    refine ⟨by omega, fun z i m => ?_⟩
    rcases List.mem_cons.mp m with e | m
    · rw [e]; omega
    · exact h2 (by omega) i m
/-- a sum over all ties does not ask for their sequence -/
theorem sT_perm {f h : Nat → Int} {l m : List (Nat × Nat)} (p : l.Perm m) : sT f h l = sT f h m := by
  induction p with
  | nil => rfl
  | cons x _ ih => show _ + sT f h _ = _ + sT f h _; rw [ih]
  | swap x y l => show _ + (_ + sT f h l) = _ + (_ + sT f h l); omega
  | trans _ _ h1 h2 => rw [h1, h2]
theorem sT_cons (f h : Nat → Int) (p : Nat × Nat) (l : List (Nat × Nat)) : sT f h (p :: l) = f p.1 * h p.2 + f p.2 * h p.1 + sT f h l := rfl
theorem sT_app (f h : Nat → Int) (m : List (Nat × Nat)) : ∀ l : List (Nat × Nat), sT f h (l ++ m) = sT f h l + sT f h m
  | [] => by show sT f h m = 0 + sT f h m; omega
  | p :: l => by rw [List.cons_append, sT_cons, sT_cons, sT_app f h m l]; omega
theorem sT_mk2 (f h : Nat → Int) : ∀ l : List (Nat × Nat), sT f h (l.map fun p => mk2 p.1 p.2) = sT f h l
  | [] => rfl
  | p :: l => by
    rw [List.map_cons, sT_cons, sT_cons, sT_mk2 f h l]
    rcases mk2_or p.1 p.2 with e | e
    · rw [e]
    · rw [e]; simp only; omega
theorem sT_up (f h : Nat → Int) (par : Nat → Nat) : ∀ l : List Nat, sT f h (l.map fun v => (par v, v)) = sm (fun v => f (par v) * h v + f v * h (par v)) l
  | [] => rfl
  | v :: l => by rw [List.map_cons, sT_cons, sm_cons, sT_up f h par l]
section
variable {t : Tr} {r : Nat} {par dep : Nat → Nat}
/-- over the ties: place by place with the one ahead -/
theorem sT_rooted (T : Tree t) (R : TM.Rooted t.n (adjT t.ties) r par dep) (f h : Nat → Int) : sT f h t.ties = sm (fun v => if v = r then 0 else f (par v) * h v + f v * h (par v)) (List.range t.n) := by
  obtain ⟨S, G, hS⟩ := grow_all R
  rw [← sT_perm (edg_perm T R G hS), sT_mk2]
  unfold edg
  rw [sT_up, sm_perm (List.reverse_perm _), sm_filter, sm_perm (S_perm G hS)]
  exact sm_congr fun v _ => by by_cases e : v = r <;> simp [e]
/-- over all that hangs: place by place with the one ahead -/
theorem kid_sum (T : Tree t) (R : TM.Rooted t.n (adjT t.ties) r par dep) (F : Nat → Nat → Int) : sm (fun v => sm (fun c => F c v) (kids t.ties r par v)) (List.range t.n) = sm (fun c => if c = r then 0 else F c (par c)) (List.range t.n) := by
  have e1 : sm (fun v => sm (fun c => F c v) (kids t.ties r par v)) (List.range t.n) = sm (fun v => sm (fun c => if c ≠ r ∧ par c = v then F c v else 0) (List.range t.n)) (List.range t.n) := by
    refine sm_congr fun v hv => ?_
    have hv := List.mem_range.mp hv
    have p : (kids t.ties r par v).Perm ((List.range t.n).filter fun c => decide (c ≠ r ∧ par c = v)) := by
      refine (List.perm_ext_iff_of_nodup (kids_nodup T.toOkt r par v) (List.nodup_range.filter _)).mpr fun c => ?_
      rw [kids_mem R hv c, List.mem_filter, List.mem_range, decide_eq_true_eq]
    rw [sm_perm p, sm_filter]
    exact sm_congr fun c _ => by simp only [decide_eq_true_eq]
  rw [e1, sm_swap]
  refine sm_congr fun c hc => ?_
  have hc := List.mem_range.mp hc
  by_cases e : c = r
  · rw [if_pos e]
    exact sm_zero fun v _ => if_neg fun z => z.1 e
  · rw [if_neg e, sm_pick (p := par c) List.nodup_range (List.mem_range.mpr (R.up c hc e).1) fun v _ ne => if_neg fun z => ne z.2.symm]
    exact if_pos ⟨e, rfl⟩
theorem fold_num {PP : Int} {D N P : Nat → Int} : ∀ {l : List Nat}, (∀ c ∈ l, PP = D c * N c * P c) → ∀ (s : Int × Int) (b : Int), PP * s.1 = s.2 * b → PP * (l.foldl (kf D N) s).1 = (l.foldl (kf D N) s).2 * (b - sm (fun c => P c * (N c * N c)) l)
  | [], _, s, b, h => by rw [List.foldl_nil, sm_nil, h]; simp
  | c :: l, hl, s, b, h => by
    have hc := hl c (by simp)
    rw [List.foldl_cons, sm_cons, fold_num (fun d m => hl d (List.mem_cons_of_mem _ m)) (kf D N s c) (b - P c * (N c * N c)) ?_]
    · congr 1
      omega
    · unfold kf
      simp only
      have e1 : PP * (s.1 * D c - s.2 * N c) = D c * (PP * s.1) - s.2 * N c * PP := by grind
      rw [e1, h]
      have e2 : s.2 * N c * PP = s.2 * N c * (D c * N c * P c) := by rw [← hc]
      rw [e2]
      grind
theorem sq_nonneg (a : Int) : 0 ≤ a * a := by
  rcases Int.le_total 0 a with h | h
  · exact Int.mul_nonneg h h
  · exact Int.mul_nonneg_of_nonpos_of_nonpos h h
/-- below zero: a cycle's product with itself is below 0, but for zeros -/
theorem pos_form (B : Bt t) (P0 : Pos t) (x : Nat → Int) : sm (fun k => x k * rowE t x k) (List.range t.n) ≤ 0 ∧ (sm (fun k => x k * rowE t x k) (List.range t.n) = 0 → ∀ i, i < t.n → x i = 0) := by
  by_cases hn : 0 < t.n
  · obtain ⟨par, dep, R⟩ := B.tree 0 hn
    obtain ⟨D, N, h, _, _⟩ := dn_all B R
    have Dp := pos_D B.toTree R h P0
    have dg := dn_dg h
    have Np : ∀ v, v < t.n → 0 < N v := fun v hv => by
      have e := dg.n v hv
      rw [e]
      exact pd_pos fun c hc => Dp c ((kids_mem R hv c).mp hc).1
    obtain ⟨P, hP⟩ : ∃ P : Nat → Int, P = fun c => pd (fun u => D u * N u) ((List.range t.n).filter fun u => decide (u ≠ c)) := ⟨_, rfl⟩
    obtain ⟨PP, hPP⟩ : ∃ PP, PP = pd (fun u => D u * N u) (List.range t.n) := ⟨_, rfl⟩
    have ePP : ∀ c, c < t.n → PP = D c * N c * P c := fun c hc => by
      rw [hPP, hP, pd_split (f := fun u => D u * N u) List.nodup_range (List.mem_range.mpr hc)]
    have Pp : ∀ c, 0 < P c := fun c => by
      rw [hP]
      refine pd_pos fun u hu => ?_
      have := List.mem_range.mp (List.mem_filter.mp hu).1
      exact Int.mul_pos (Dp u this) (Np u this)
    have PPp : 0 < PP := by
      rw [hPP]
      refine pd_pos fun u hu => ?_
      have := List.mem_range.mp hu
      exact Int.mul_pos (Dp u this) (Np u this)
    have own : ∀ v, v < t.n → PP * -wt t v = P v * (D v * D v) + sm (fun c => P c * (N c * N c)) (kids t.ties 0 par v) := fun v hv => by
      have e := fold_num (PP := PP) (D := D) (N := N) (P := P) (l := kids t.ties 0 par v) (fun c hc => ePP c ((kids_mem R hv c).mp hc).1) (-wt t v, 1) (PP * -wt t v) (by simp)
      have e0 := h v hv
      unfold fk at e0
      rw [← e0] at e
      simp only at e
      have e1 := ePP v hv
      have : N v * (PP * -wt t v - sm (fun c => P c * (N c * N c)) (kids t.ties 0 par v)) = N v * (P v * (D v * D v)) := by
        rw [← e]
        have : PP * D v = D v * N v * P v * D v := by rw [← e1]
        rw [this]
        grind
      have := Int.eq_of_mul_eq_mul_left (by have := Np v hv; omega) this
      omega
    obtain ⟨sq, hsq⟩ : ∃ sq : Nat → Int, sq = fun v => if v = 0 then P v * ((D v * x v) * (D v * x v)) else P v * ((D v * x v - N v * x (par v)) * (D v * x v - N v * x (par v))) := ⟨_, rfl⟩
    have tot : PP * -sm (fun k => x k * rowE t x k) (List.range t.n) = sm sq (List.range t.n) := by
      rw [sm_row B.toOkt, sT_rooted B.toTree R]
      have e1 : PP * -(sm (fun k => wt t k * x k * x k) (List.range t.n) + sm (fun v => if v = 0 then 0 else x (par v) * x v + x v * x (par v)) (List.range t.n)) = sm (fun v => PP * -wt t v * (x v * x v) + -PP * (if v = 0 then 0 else x (par v) * x v + x v * x (par v))) (List.range t.n) := by
        rw [sm_add, sm_mul]
        have : sm (fun v => PP * -wt t v * (x v * x v)) (List.range t.n) = -PP * sm (fun k => wt t k * x k * x k) (List.range t.n) := by
          rw [← sm_mul]
          exact sm_congr fun v _ => by grind
        rw [this]
        grind
      rw [e1]
      have e2 : sm (fun v => PP * -wt t v * (x v * x v) + -PP * (if v = 0 then 0 else x (par v) * x v + x v * x (par v))) (List.range t.n) = sm (fun v => (P v * (D v * D v) * (x v * x v) + -PP * (if v = 0 then 0 else x (par v) * x v + x v * x (par v))) + sm (fun c => P c * (N c * N c) * (x v * x v)) (kids t.ties 0 par v)) (List.range t.n) := by
        refine sm_congr fun v hv => ?_
        have hv := List.mem_range.mp hv
        rw [own v hv]
        have : sm (fun c => P c * (N c * N c) * (x v * x v)) (kids t.ties 0 par v) = (x v * x v) * sm (fun c => P c * (N c * N c)) (kids t.ties 0 par v) := by
          rw [← sm_mul]
          exact sm_congr fun c _ => by grind
        rw [this]
        grind
      rw [e2, sm_add, kid_sum B.toTree R fun c v => P c * (N c * N c) * (x v * x v), ← sm_add]
      refine sm_congr fun v hv => ?_
      have hv := List.mem_range.mp hv
      rw [hsq]
      simp only
      by_cases e : v = 0
      · rw [if_pos e, if_pos e, if_pos e]; grind
      · rw [if_neg e, if_neg e, if_neg e]
        have e1 := ePP v hv
        have : PP * (x (par v) * x v + x v * x (par v)) = D v * N v * P v * (x (par v) * x v + x v * x (par v)) := by rw [← e1]
        rw [Int.neg_mul, this]
        grind
    have sqn : ∀ v ∈ List.range t.n, 0 ≤ sq v := fun v _ => by
      rw [hsq]
      simp only
      split
      · exact Int.mul_nonneg (Int.le_of_lt (Pp v)) (sq_nonneg _)
      · exact Int.mul_nonneg (Int.le_of_lt (Pp v)) (sq_nonneg _)
    obtain ⟨h1, h2⟩ := sm_nonneg sqn
    rw [← tot] at h1 h2
    refine ⟨?_, fun z => ?_⟩
    · refine Int.not_lt.mp fun z => ?_
      have := Int.mul_pos PPp z
      have e : PP * -sm (fun k => x k * rowE t x k) (List.range t.n) = -(PP * sm (fun k => x k * rowE t x k) (List.range t.n)) := Int.mul_neg _ _
      omega
    · have h3 := h2 (by rw [z]; simp)
      have zero : ∀ {a b : Int}, 0 < a → a * (b * b) = 0 → b = 0 := fun ha hb => by
        rcases Int.mul_eq_zero.mp hb with z | z
        · omega
        · rcases Int.mul_eq_zero.mp z with z | z <;> exact z
      have go : ∀ k v, v < t.n → dep v = k → x v = 0 := by
        intro k
        induction k with
        | zero =>
          intro v hv hd
          have e : v = 0 := Classical.byContradiction fun z => by have := (R.up v hv z).2; omega
          have q := h3 v (List.mem_range.mpr hv)
          rw [hsq] at q
          simp only at q
          rw [if_pos e] at q
          rcases Int.mul_eq_zero.mp (zero (Pp v) q) with z | z
          · have := Dp v hv; omega
          · exact z
        | succ k ih =>
          intro v hv hd
          have e : v ≠ 0 := fun e => by rw [e, R.dep0] at hd; omega
          obtain ⟨u1, u2⟩ := R.up v hv e
          have q := h3 v (List.mem_range.mpr hv)
          rw [hsq] at q
          simp only at q
          rw [if_neg e, ih (par v) u1 (by omega)] at q
          have q := zero (Pp v) q
          rw [Int.mul_zero, Int.sub_zero] at q
          rcases Int.mul_eq_zero.mp q with z | z
          · have := Dp v hv; omega
          · exact z
      exact fun i hi => go (dep i) i hi rfl
  · have : t.n = 0 := by omega
    rw [this]
    exact ⟨Int.le_refl _, fun _ i hi => by omega⟩
end
end MT
namespace Y
/-- what the inverse makes of a row, all signs exchanged and times the determinant -/
def solG (t : Tr) (g : Nat → Nat → Int) (x : Nat → Int) (i : Nat) : Int := MT.sm (fun j => g i j * x j) (List.range t.n)
theorem sol_row {t : Tr} (B : Bt t) (P0 : MT.Pos t) {g : Nat → Nat → Int} (hg : Gp t g) (x : Nat → Int) {i : Nat} (hi : i < t.n) : MT.rowE t (solG t g x) i = -(MT.Dt t * x i) := by
  have Dp : 0 < MT.Dt t := P0 _
  have es : sg (MT.Dt t) = 1 := by unfold sg; rw [if_neg (by omega)]
  have ea : ((MT.Dt t).natAbs : Int) = MT.Dt t := by omega
  have e1 : MT.rowE t (solG t g x) i = MT.sm (fun j => (MT.wt t i * g i j + MT.sm (fun k => g k j) (nb t.ties i)) * x j) (List.range t.n) := by
    unfold MT.rowE solG
    rw [← MT.sm_mul, sm_swap, ← MT.sm_add]
    refine MT.sm_congr fun j _ => ?_
    have : MT.sm (fun k => g k j * x j) (nb t.ties i) = x j * MT.sm (fun k => g k j) (nb t.ties i) := by
      rw [← MT.sm_mul]
      exact MT.sm_congr fun k _ => Int.mul_comm _ _
    rw [this]
    grind
  rw [e1, sm_pick (p := i) List.nodup_range (List.mem_range.mpr hi) fun j hj ne => ?_]
  · have u := undo_at B hg hi hi
    rw [if_pos rfl, ea] at u
    unfold tpE at u
    rw [es] at u
    have e2 : MT.sm (fun k => -g k i * 1) (nb t.ties i) = -1 * MT.sm (fun k => g k i) (nb t.ties i) := by
      rw [← MT.sm_mul]
      exact MT.sm_congr fun k _ => by omega
    rw [e2] at u
    have : MT.wt t i * g i i + MT.sm (fun k => g k i) (nb t.ties i) = -MT.Dt t := by grind
    rw [this]
    grind
  · have u := undo_at B hg hi (List.mem_range.mp hj)
    rw [if_neg (Ne.symm ne)] at u
    unfold tpE at u
    rw [es] at u
    have e2 : MT.sm (fun k => -g k j * 1) (nb t.ties i) = -1 * MT.sm (fun k => g k j) (nb t.ties i) := by
      rw [← MT.sm_mul]
      exact MT.sm_congr fun k _ => by omega
    rw [e2] at u
    have : MT.wt t i * g i j + MT.sm (fun k => g k j) (nb t.ties i) = 0 := by grind
    rw [this]
    simp
theorem rowE_congr {t : Tr} (O : Okt t) {x y : Nat → Int} (h : ∀ i, i < t.n → x i = y i) {k : Nat} (hk : k < t.n) : MT.rowE t x k = MT.rowE t y k := by
  unfold MT.rowE
  rw [h k hk, MT.sm_congr fun i hi => h i (nb_lt O hi).1]
/-- below zero: the weighed sum of a row is above 0, but for zeros -/
theorem wsum_pos {t : Tr} (B : Bt t) (P0 : MT.Pos t) {g : Nat → Nat → Int} (hg : Gp t g) (x : Nat → Int) : 0 ≤ bil t.n g x x ∧ (bil t.n g x x = 0 → ∀ i, i < t.n → x i = 0) := by
  have Dp : 0 < MT.Dt t := P0 _
  obtain ⟨h1, h2⟩ := MT.pos_form B P0 (solG t g x)
  have e : MT.sm (fun k => solG t g x k * MT.rowE t (solG t g x) k) (List.range t.n) = -(MT.Dt t * bil t.n g x x) := by
    unfold bil
    rw [← Int.neg_mul, ← MT.sm_mul]
    refine MT.sm_congr fun i hi => ?_
    rw [sol_row B P0 hg x (List.mem_range.mp hi)]
    show solG t g x i * _ = -MT.Dt t * (x i * solG t g x i)
    grind
  rw [e] at h1 h2
  refine ⟨?_, fun z i hi => ?_⟩
  · refine Int.not_lt.mp fun z => ?_
    have := Int.mul_pos Dp (show 0 < -bil t.n g x x by omega)
    have e : MT.Dt t * -bil t.n g x x = -(MT.Dt t * bil t.n g x x) := Int.mul_neg _ _
    omega
  · have h3 := h2 (by rw [z]; simp)
    have r := sol_row B P0 hg x hi
    rw [rowE_congr (y := fun _ => 0) B.toOkt h3 hi] at r
    have : MT.rowE t (fun _ => 0) i = 0 := by
      unfold MT.rowE
      rw [sm_zero fun _ _ => rfl]
      simp
    rw [this] at r
    have : MT.Dt t * x i = 0 := by omega
    rcases Int.mul_eq_zero.mp this with z | z
    · omega
    · exact z
/-- the row of a cycle, k times the told one: its weighed sum -/
theorem wsum_row {t : Tr} (B : Bt t) {g : Nat → Nat → Int} (hg : Gp t g) {c x : Nat → Int} {k : Int} (h : ∀ i, i < t.n → k * c i = MT.rowE t x i) : k * bil t.n g c c = -(MT.Dt t * MT.sm (fun i => c i * x i) (List.range t.n)) := by
  rw [← bil_row B hg c x]
  unfold bil
  rw [← MT.sm_mul]
  refine MT.sm_congr fun i _ => ?_
  have : MT.sm (fun j => g i j * MT.rowE t x j) (List.range t.n) = k * MT.sm (fun j => g i j * c j) (List.range t.n) := by
    rw [← MT.sm_mul]
    exact MT.sm_congr fun j hj => by rw [← h j (List.mem_range.mp hj)]; grind
  rw [this]
  grind
/-- squares of sums -/
theorem bil_par {n : Nat} (g : Nat → Nat → Int) {x y u v : Nat → Int} (hu : ∀ i, i < n → u i = x i + y i) (hv : ∀ i, i < n → v i = x i - y i) : bil n g u u + bil n g v v = 2 * (bil n g x x + bil n g y y) := by
  have e : ∀ w : Nat → Int, bil n g w w = MT.sm (fun i => MT.sm (fun j => g i j * (w i * w j)) (List.range n)) (List.range n) := fun w => by
    unfold bil
    refine MT.sm_congr fun i _ => ?_
    rw [← MT.sm_mul]
    exact MT.sm_congr fun j _ => by grind
  rw [e, e, e, e, ← MT.sm_add, ← MT.sm_add, ← MT.sm_mul]
  refine MT.sm_congr fun i hi => ?_
  rw [← MT.sm_add, ← MT.sm_add, ← MT.sm_mul]
  refine MT.sm_congr fun j hj => ?_
  rw [hu i (List.mem_range.mp hi), hu j (List.mem_range.mp hj), hv i (List.mem_range.mp hi), hv j (List.mem_range.mp hj)]
  grind
theorem bil_wsum {t : Tr} (g : Nat → Nat → Int) (xs : List Int) : wsum t.n g xs = bil t.n g (en xs) (en xs) := rfl
end Y
namespace MT
open Y
/-- a cycle's product with another one -/
def frm (t : Tr) (f x : Nat → Int) : Int := sm (fun k => f k * rowE t x k) (List.range t.n)
theorem frm_made {t : Tr} (O : Okt t) (f x : Nat → Int) : frm t f x = sm (fun k => wt t k * f k * x k) (List.range t.n) + sT f x t.ties := sm_row O f x
theorem made_ties (f x : Nat → Int) (ws : List Int) (ties : List (Nat × Nat)) : sT f x (madeT ws ties).ties = sT f x ties := by
  have e : (madeT ws ties).ties = sortP (ties.map fun p => mk2 p.1 p.2) := rfl
  rw [e, sT_perm (sortP_perm _), sT_mk2]
section
variable {t : Tr}
theorem at_wt {p : Nat} {ties : List (Nat × Nat)} : (∀ v, v < t.n → wt (madeT (atW t p) ties) v = wt t v - (if v = p then 1 else 0)) ∧ wt (madeT (atW t p) ties) t.n = -1 := by
  refine ⟨fun v hv => ?_, ?_⟩
  · show (atW t p).getD v 0 = _
    unfold atW
    rw [List.getD_eq_getElem?_getD, List.getElem?_append_left (by simpa using hv)]
    simp [hv]
  · show (atW t p).getD t.n 0 = _
    unfold atW
    rw [List.getD_eq_getElem?_getD, List.getElem?_append_right (by simp)]
    simp
theorem on_wt {i j : Nat} {ties : List (Nat × Nat)} : (∀ v, v < t.n → wt (madeT (onW t i j) ties) v = wt t v - (if v = i then 1 else if v = j then 1 else 0)) ∧ wt (madeT (onW t i j) ties) t.n = -1 := by
  refine ⟨fun v hv => ?_, ?_⟩
  · show (onW t i j).getD v 0 = _
    unfold onW
    rw [List.getD_eq_getElem?_getD, List.getElem?_append_left (by simpa using hv)]
    by_cases h1 : v = i
    · simp [hv, inl, h1]
      subst h1
      simp [hv]
    · by_cases h2 : v = j
      · subst h2
        simp [hv, inl, h1]
      · simp [hv, inl, h1, h2]
  · show (onW t i j).getD t.n 0 = _
    unfold onW
    rw [List.getD_eq_getElem?_getD, List.getElem?_append_right (by simp)]
    simp
theorem at_frm (T : Tree t) (h16 : t.n + 1 ≤ 16) {p : Nat} (hp : p < t.n) (f x : Nat → Int) : frm (madeT (atW t p) (t.ties ++ [(p, t.n)])) f x = frm t f x - (f p - f t.n) * (x p - x t.n) := by
  obtain ⟨T2, n2⟩ := at_tree T h16 hp (ws := atW t p) (by unfold atW; simp)
  obtain ⟨w1, w2⟩ := at_wt (t := t) (p := p) (ties := t.ties ++ [(p, t.n)])
  rw [frm_made T2.toOkt, frm_made T.toOkt, n2, made_ties, sT_app, List.range_succ, sm_app, sm_cons, sm_nil, w2, sT_cons]
  have e : sm (fun k => wt (madeT (atW t p) (t.ties ++ [(p, t.n)])) k * f k * x k) (List.range t.n) = sm (fun k => wt t k * f k * x k) (List.range t.n) - f p * x p := by
    have e1 : sm (fun k => wt (madeT (atW t p) (t.ties ++ [(p, t.n)])) k * f k * x k) (List.range t.n) = sm (fun k => wt t k * f k * x k - (if k = p then f p * x p else 0)) (List.range t.n) := by
      refine sm_congr fun k hk => ?_
      rw [w1 k (List.mem_range.mp hk)]
      by_cases z : k = p
      · subst z; rw [if_pos rfl, if_pos rfl]; grind
      · rw [if_neg z, if_neg z]; grind
    rw [e1, sm_sub, sm_pick (f := fun k => if k = p then f p * x p else 0) (p := p) List.nodup_range (List.mem_range.mpr hp) fun i _ ne => if_neg ne, if_pos rfl]
  rw [e]
  have ee : sT f x [] = 0 := rfl
  rw [ee]
  simp only
  grind
theorem on_frm (T : Tree t) (h16 : t.n + 1 ≤ 16) {i j : Nat} (hij : (i, j) ∈ t.ties) (f x : Nat → Int) : frm (madeT (onW t i j) ((t.ties.filter fun p => decide (p ≠ (i, j))) ++ [(i, t.n), (j, t.n)])) f x = frm t f x - (f i + f j - f t.n) * (x i + x j - x t.n) := by
  obtain ⟨T2, n2⟩ := on_tree T h16 hij (ws := onW t i j) (by unfold onW; simp)
  have lij := T.inb _ hij
  simp only at lij
  obtain ⟨w1, w2⟩ := on_wt (t := t) (i := i) (j := j) (ties := (t.ties.filter fun p => decide (p ≠ (i, j))) ++ [(i, t.n), (j, t.n)])
  have pm : t.ties.Perm ((i, j) :: t.ties.filter fun p => decide (p ≠ (i, j))) := by
    have nt : t.ties.Nodup := ties_nd T.toOkt
    refine (List.perm_ext_iff_of_nodup nt (List.nodup_cons.mpr ⟨by simp, nt.filter _⟩)).mpr fun q => ?_
    rw [List.mem_cons, List.mem_filter, decide_eq_true_eq]
    constructor
    · intro h
      by_cases e : q = (i, j)
      · exact .inl e
      · exact .inr ⟨h, e⟩
    · rintro (h | h)
      · rw [h]; exact hij
      · exact h.1
  have eT := sT_perm (f := f) (h := x) pm
  rw [sT_cons] at eT
  rw [frm_made T2.toOkt, frm_made T.toOkt, n2, made_ties, sT_app, List.range_succ, sm_app, sm_cons, sm_nil, w2, sT_cons, sT_cons, eT]
  have e : sm (fun k => wt (madeT (onW t i j) ((t.ties.filter fun p => decide (p ≠ (i, j))) ++ [(i, t.n), (j, t.n)])) k * f k * x k) (List.range t.n) = sm (fun k => wt t k * f k * x k) (List.range t.n) - (f i * x i + f j * x j) := by
    have e1 : sm (fun k => wt (madeT (onW t i j) ((t.ties.filter fun p => decide (p ≠ (i, j))) ++ [(i, t.n), (j, t.n)])) k * f k * x k) (List.range t.n) = sm (fun k => wt t k * f k * x k - (if k = i then f i * x i else if k = j then f j * x j else 0)) (List.range t.n) := by
      refine sm_congr fun k hk => ?_
      rw [w1 k (List.mem_range.mp hk)]
      by_cases z : k = i
      · subst z; rw [if_pos rfl, if_pos rfl]; grind
      · rw [if_neg z, if_neg z]
        by_cases z2 : k = j
        · subst z2; rw [if_pos rfl, if_pos rfl]; grind
        · rw [if_neg z2, if_neg z2]; grind
    rw [e1, sm_sub, MT.sm_two (f := fun k => if k = i then f i * x i else if k = j then f j * x j else 0) (u := i) (w := j) (by omega) lij.2 (by omega) fun k => rfl]
  rw [e]
  have ee : sT f x [] = 0 := rfl
  rw [ee]
  simp only
  grind
end
end MT
namespace Y
/-- the canonical row's entries -/
def cN (t : Tr) (i : Nat) : Int := -2 - MT.wt t i
theorem wsum_can (t : Tr) (g : Nat → Nat → Int) : wsum t.n g (canL t) = bil t.n g (cN t) (cN t) := by
  unfold wsum bil
  refine MT.sm_congr fun i hi => ?_
  rw [en_can (List.mem_range.mp hi)]
  congr 1
  exact MT.sm_congr fun j hj => by rw [en_can (List.mem_range.mp hj)]; rfl
theorem frm_congr {t : Tr} (O : Okt t) {f h x y : Nat → Int} (e1 : ∀ i, i < t.n → f i = h i) (e2 : ∀ i, i < t.n → x i = y i) : MT.frm t f x = MT.frm t h y := MT.sm_congr fun k hk => by rw [e1 k (List.mem_range.mp hk), rowE_congr O e2 (List.mem_range.mp hk)]
/-- one place more: the weighed sum of the canonical row -/
theorem blow_wsum {t t' : Tr} (B : Bt t) (B' : Bt t') (P0 : MT.Pos t) (hn : t'.n = t.n + 1) (hD : MT.Dt t' = MT.Dt t) {g g' : Nat → Nat → Int} (hg : Gp t g) (hg' : Gp t' g') (l : (Nat → Int) → Int) (hl : ∀ f h : Nat → Int, (∀ i, i < t.n → f i = h i) → l f = l h)
    (hF : ∀ f x, MT.frm t' f x = MT.frm t f x - (l f - f t.n) * (l x - x t.n)) (hc : ∀ f : Nat → Int, MT.sm (fun i => cN t' i * f i) (List.range t'.n) = MT.sm (fun i => cN t i * f i) (List.range t.n) + (l f - f t.n)) : wsum t'.n g' (canL t') = wsum t.n g (canL t) + MT.Dt t := by
  have Dp : 0 < MT.Dt t := P0 _
  obtain ⟨y, hy⟩ : ∃ y : Nat → Int, y = fun i => if i < t.n then solG t g (cN t) i else l (solG t g (cN t)) - MT.Dt t := ⟨_, rfl⟩
  have y1 : ∀ i, i < t.n → y i = solG t g (cN t) i := fun i hi => by rw [hy]; exact if_pos hi
  have yn : y t.n = l (solG t g (cN t)) - MT.Dt t := by rw [hy]; exact if_neg (by omega)
  have ly : l y = l (solG t g (cN t)) := hl _ _ y1
  have key : ∀ f, MT.frm t' f y = -(MT.Dt t * MT.sm (fun i => cN t' i * f i) (List.range t'.n)) := fun f => by
    rw [hF, hc, ly, yn, frm_congr B.toOkt (fun _ _ => rfl) y1]
    have e : MT.frm t f (solG t g (cN t)) = -MT.Dt t * MT.sm (fun i => cN t i * f i) (List.range t.n) := by
      unfold MT.frm
      rw [← MT.sm_mul]
      refine MT.sm_congr fun k hk => ?_
      rw [sol_row B P0 hg _ (List.mem_range.mp hk)]
      grind
    rw [e]
    grind
  have row : ∀ i, i < t'.n → MT.rowE t' y i = -(MT.Dt t * cN t' i) := fun i hi => by
    have k := key fun j => if j = i then 1 else 0
    unfold MT.frm at k
    rw [sm_pick (p := i) List.nodup_range (List.mem_range.mpr hi) fun j _ ne => by simp [ne], sm_pick (p := i) List.nodup_range (List.mem_range.mpr hi) fun j _ ne => by simp [ne]] at k
    simp only [if_true, Int.one_mul, Int.mul_one] at k
    exact k
  have b := bil_row B' hg' (cN t') y
  have e : bil t'.n g' (cN t') (MT.rowE t' y) = -MT.Dt t * bil t'.n g' (cN t') (cN t') := by
    unfold bil
    rw [← MT.sm_mul]
    refine MT.sm_congr fun i _ => ?_
    have : MT.sm (fun j => g' i j * MT.rowE t' y j) (List.range t'.n) = -MT.Dt t * MT.sm (fun j => g' i j * cN t' j) (List.range t'.n) := by
      rw [← MT.sm_mul]
      exact MT.sm_congr fun j hj => by rw [row j (List.mem_range.mp hj)]; grind
    rw [this]
    grind
  rw [e, hD, hc, ly, yn] at b
  have e2 : MT.sm (fun i => cN t i * y i) (List.range t.n) = bil t.n g (cN t) (cN t) := by
    unfold bil
    exact MT.sm_congr fun i hi => by rw [y1 i (List.mem_range.mp hi)]; rfl
  rw [e2] at b
  rw [wsum_can, wsum_can]
  refine Int.eq_of_mul_eq_mul_left (show MT.Dt t ≠ 0 by omega) ?_
  have : -MT.Dt t * bil t'.n g' (cN t') (cN t') = -(MT.Dt t * bil t'.n g' (cN t') (cN t')) := Int.neg_mul _ _
  rw [this] at b
  have : MT.Dt t * bil t'.n g' (cN t') (cN t') = MT.Dt t * (bil t.n g (cN t) (cN t) + (l (solG t g (cN t)) - (l (solG t g (cN t)) - MT.Dt t))) := by omega
  rw [this]
  congr 1
  omega
/-- a tree below zero with its standing, times its determinant -/
structure Std (s D : Int) (t : Tr) : Prop where
  pos : MT.Pos t
  dt : MT.Dt t = D
  st : ∀ g, Gp t g → (t.n : Int) * D - wsum t.n g (canL t) = s
theorem B60.bt {t : Tr} (B : B60 t) : Bt t := ⟨B.toTree, fun x m => by have := B.w60 x m; omega⟩
theorem std_next {s D : Int} {t t' : Tr} (B : Bt t) (B' : Bt t') (S : Std s D t) (P' : MT.Pos t') (hn : t'.n = t.n + 1) (hD : MT.Dt t' = MT.Dt t) (h : ∀ g g', Gp t g → Gp t' g' → wsum t'.n g' (canL t') = wsum t.n g (canL t) + MT.Dt t) : Std s D t' := by
  refine ⟨P', hD.trans S.dt, fun g' hg' => ?_⟩
  obtain ⟨g, hg⟩ := gp_ex B.toTree
  rw [h g g' hg hg', ← S.st g hg, hn, S.dt]
  rw [show ((t.n + 1 : Nat) : Int) = (t.n : Int) + 1 by omega]
  grind
theorem std_at {s D : Int} {t : Tr} (B : B60 t) (h16 : t.n + 1 ≤ 16) {p : Nat} (hp : p < t.n) (S : Std s D t) : Std s D (madeT (atW t p) (t.ties ++ [(p, t.n)])) := by
  obtain ⟨T2, n2⟩ := at_tree B.toTree h16 hp (ws := atW t p) (by unfold atW; simp)
  have B2 : Bt (madeT (atW t p) (t.ties ++ [(p, t.n)])) := ⟨T2, fun x hx => by
    have hx : x ∈ atW t p := hx
    unfold atW at hx
    rcases List.mem_append.mp hx with hx | hx
    · obtain ⟨k, hk, rfl⟩ := List.mem_map.mp hx
      have := B.w60 _ (List.mem_of_getElem? (w_at (List.mem_range.mp hk)))
      split <;> omega
    · simp at hx; omega⟩
  refine std_next B.bt B2 S (MT.at_pos B.toTree hp S.pos) n2 ?_ fun g g' hg hg' => ?_
  · unfold MT.Dt
    rw [MT.at_LW B.toTree hp]
    show _ + (if (false && !false) = true then _ else 0) = _
    simp
  · obtain ⟨w1, w2⟩ := MT.at_wt (t := t) (p := p) (ties := t.ties ++ [(p, t.n)])
    refine blow_wsum B.bt B2 S.pos n2 ?_ hg hg' (fun f => f p) (fun f h e => e p hp) (fun f x => MT.at_frm B.toTree h16 hp f x) fun f => ?_
    · unfold MT.Dt
      rw [MT.at_LW B.toTree hp]
      show _ + (if (false && !false) = true then _ else 0) = _
      simp
    · rw [n2, List.range_succ, MT.sm_app, MT.sm_cons, MT.sm_nil]
      unfold cN
      rw [w2]
      have e1 : MT.sm (fun k => (-2 - MT.wt (madeT (atW t p) (t.ties ++ [(p, t.n)])) k) * f k) (List.range t.n) = MT.sm (fun k => (-2 - MT.wt t k) * f k + (if k = p then f p else 0)) (List.range t.n) := by
        refine MT.sm_congr fun k hk => ?_
        rw [w1 k (List.mem_range.mp hk)]
        by_cases z : k = p
        · subst z; rw [if_pos rfl, if_pos rfl]; grind
        · rw [if_neg z, if_neg z]; grind
      rw [e1, MT.sm_add, sm_pick (f := fun k => if k = p then f p else 0) (p := p) List.nodup_range (List.mem_range.mpr hp) fun i _ ne => if_neg ne, if_pos rfl]
      omega
theorem std_on {s D : Int} {t : Tr} (B : B60 t) (h16 : t.n + 1 ≤ 16) {i j : Nat} (hij : (i, j) ∈ t.ties) (S : Std s D t) : Std s D (madeT (onW t i j) ((t.ties.filter fun p => decide (p ≠ (i, j))) ++ [(i, t.n), (j, t.n)])) := by
  obtain ⟨T2, n2⟩ := on_tree B.toTree h16 hij (ws := onW t i j) (by unfold onW; simp)
  have lij := B.inb _ hij
  simp only at lij
  have B2 : Bt (madeT (onW t i j) ((t.ties.filter fun p => decide (p ≠ (i, j))) ++ [(i, t.n), (j, t.n)])) := ⟨T2, fun x hx => by
    have hx : x ∈ onW t i j := hx
    unfold onW at hx
    rcases List.mem_append.mp hx with hx | hx
    · obtain ⟨k, hk, rfl⟩ := List.mem_map.mp hx
      have := B.w60 _ (List.mem_of_getElem? (w_at (List.mem_range.mp hk)))
      split <;> omega
    · simp at hx; omega⟩
  have eD : MT.Dt (madeT (onW t i j) ((t.ties.filter fun p => decide (p ≠ (i, j))) ++ [(i, t.n), (j, t.n)])) = MT.Dt t := by
    unfold MT.Dt
    obtain ⟨A, hA, e⟩ := MT.on_LW B.toTree hij MT.none'
    rw [e]
    exact if_neg (by show ¬ false = true; simp)
  refine std_next B.bt B2 S (MT.on_pos B.toTree hij S.pos) n2 eD fun g g' hg hg' => ?_
  obtain ⟨w1, w2⟩ := MT.on_wt (t := t) (i := i) (j := j) (ties := (t.ties.filter fun p => decide (p ≠ (i, j))) ++ [(i, t.n), (j, t.n)])
  refine blow_wsum B.bt B2 S.pos n2 eD hg hg' (fun f => f i + f j) (fun f h e => by simp only [e i (show i < t.n by omega), e j lij.2]) (fun f x => MT.on_frm B.toTree h16 hij f x) fun f => ?_
  rw [n2, List.range_succ, MT.sm_app, MT.sm_cons, MT.sm_nil]
  unfold cN
  rw [w2]
  have e1 : MT.sm (fun k => (-2 - MT.wt (madeT (onW t i j) ((t.ties.filter fun p => decide (p ≠ (i, j))) ++ [(i, t.n), (j, t.n)])) k) * f k) (List.range t.n) = MT.sm (fun k => (-2 - MT.wt t k) * f k + (if k = i then f i else if k = j then f j else 0)) (List.range t.n) := by
    refine MT.sm_congr fun k hk => ?_
    rw [w1 k (List.mem_range.mp hk)]
    by_cases z : k = i
    · subst z; rw [if_pos rfl, if_pos rfl]; grind
    · rw [if_neg z, if_neg z]
      by_cases z2 : k = j
      · subst z2; rw [if_pos rfl, if_pos rfl]; grind
      · rw [if_neg z2, if_neg z2]; grind
  rw [e1, MT.sm_add, MT.sm_two (f := fun k => if k = i then f i else if k = j then f j else 0) (u := i) (w := j) (by omega) lij.2 (by omega) fun k => rfl]
  omega
theorem bt_B : Bt ⟨[-1], []⟩ := ⟨MT.one_tree, fun x hx => by
  have hx : x ∈ [(-1 : Int)] := hx
  simp at hx
  omega⟩
theorem std_one {s D : Int} {t : Tr} (hz : t.n = 0) (B : B60 t) (S : Std s D t) : Std s D ⟨[-1], []⟩ := by
  have e0 : MT.Dt t = 1 := by
    unfold MT.Dt MT.LW
    rw [MT.no_ties B.toOkt hz, hz]
    rfl
  have e1 : MT.Dt ⟨[-1], []⟩ = 1 := rfl
  have eD : D = 1 := by rw [← S.dt, e0]
  obtain ⟨g0, hg0⟩ := gp_ex B.toTree
  have es := S.st g0 hg0
  have ew : wsum t.n g0 (canL t) = 0 := by unfold wsum; rw [hz]; rfl
  rw [ew, hz] at es
  refine ⟨MT.one_pos, by rw [e1, eD], fun g hg => ?_⟩
  have r := wsum_row bt_B hg (c := cN ⟨[-1], []⟩) (x := fun _ => 1) (k := 1) fun i hi => by
    have n1 : (⟨[-1], []⟩ : Tr).n = 1 := rfl
    rw [n1] at hi
    have : i = 0 := by omega
    subst this
    rfl
  rw [wsum_can, ← Int.one_mul (bil _ _ _ _), r, e1]
  have : MT.sm (fun i => cN ⟨[-1], []⟩ i * 1) (List.range (⟨[-1], []⟩ : Tr).n) = -1 := rfl
  rw [this, ← es, eD]
  rfl
end Y
namespace Y
open PySem PySem.Spec PyProof.Rows L2
/-! ### ratios -/
theorem rt_cop_eq {p q : Int} (hq : 0 < q) (h : Nat.gcd p.natAbs q.natAbs = 1) : rt p q = (p, q) := by
  unfold rt cm
  rw [if_neg (by omega), h]
  simp
theorem rt_shift {A D : Int} (hD : 0 < D) (n : Int) : rt (A + n * D) D = ((rt A D).1 + (rt A D).2 * n, (rt A D).2) := by
  obtain ⟨⟨k, e1, e2⟩, hp⟩ := rt_ok (a := A) (b := D) (by omega)
  have g := rt_cop (a := A) (b := D) (by omega)
  obtain ⟨p, hp1⟩ : ∃ p, p = (rt A D).1 := ⟨_, rfl⟩
  obtain ⟨q, hq1⟩ : ∃ q, q = (rt A D).2 := ⟨_, rfl⟩
  rw [← hp1, ← hq1] at g ⊢
  rw [← hp1] at e1
  rw [← hq1] at e2 hp
  have c : Nat.gcd (p + q * n).natAbs q.natAbs = 1 := by
    have := Int.gcd_add_mul_left_left q p n
    unfold Int.gcd at this
    rw [this, g]
  rw [← rt_cop_eq (by omega) c]
  refine rt_eq (by omega) (by omega) ?_
  rw [e1, e2]
  grind
theorem rt_int {n D : Int} (hD : 0 < D) : rt (n * D) D = (n, 1) := by
  have := rt_eq (a := n * D) (b := D) (c := n) (d := 1) (by omega) (by omega) (by omega)
  rw [this, rt_one]
theorem rt_sum {A B D : Int} (hD : 0 < D) : rt ((rt A D).1 * (rt B D).2 + (rt B D).1 * (rt A D).2) ((rt A D).2 * (rt B D).2) = rt (A + B) D := by
  obtain ⟨⟨k, k1, k2⟩, hp⟩ := rt_ok (a := A) (b := D) (by omega)
  obtain ⟨⟨l, l1, l2⟩, hq⟩ := rt_ok (a := B) (b := D) (by omega)
  obtain ⟨p, hp1⟩ : ∃ p, p = (rt A D).1 := ⟨_, rfl⟩
  obtain ⟨q, hq1⟩ : ∃ p, p = (rt A D).2 := ⟨_, rfl⟩
  obtain ⟨p', hp2⟩ : ∃ p, p = (rt B D).1 := ⟨_, rfl⟩
  obtain ⟨q', hq2⟩ : ∃ p, p = (rt B D).2 := ⟨_, rfl⟩
  rw [← hp1, ← hq1, ← hp2, ← hq2]
  rw [← hp1] at k1
  rw [← hq1] at k2 hp
  rw [← hp2] at l1
  rw [← hq2] at l2 hq
  have pos : 0 < q * q' := Int.mul_pos (by omega) (by omega)
  refine rt_eq (by omega) (by omega) ?_
  have e1 : (p * q' + p' * q) * D = (p * q') * D + (p' * q) * D := Int.add_mul _ _ _
  have e2 : (p * q') * D = A * (q * q') := by rw [k1]; conv => lhs; rw [k2]
                                              grind
  have e3 : (p' * q) * D = B * (q * q') := by rw [l1]; conv => lhs; rw [l2]
                                              grind
  rw [e1, e2, e3]
  grind
theorem rt_neg0 {a b : Int} (ha : 0 ≤ a) (hb : 0 < b) : ((rt (-a) b).1 < 0 ↔ a ≠ 0) := by
  constructor
  · intro h z
    subst z
    have : rt (-0) b = (0, 1) := by have := rt_int (n := 0) hb; simpa using this
    rw [this] at h
    simp at h
  · intro h
    exact rt_neg (by omega) hb
/-! ### what the program and the law promise -/
def mkB (t : Tr) (xs : List Int) : Bool := (List.range t.n).all fun i => decide ((en xs i - MT.wt t i).fmod 2 = 0)
theorem mkB_iff {t : Tr} {xs : List Int} : mkB t xs = true ↔ Mk t xs := by
  unfold mkB Mk
  rw [List.all_eq_true]
  constructor
  · intro h i hi
    exact of_decide_eq_true (h i (List.mem_range.mpr hi))
  · intro h i hi
    exact decide_eq_true (h i (List.mem_range.mp hi))
def sp_is_markedB (K : PySem.W.Frag) : Sp := fun vs H Q _ => ∃ L tv rv t xs, vs = [tv, rv] ∧ Trk H L ∧ Bt t ∧ MT.Pos t ∧ Cy t xs ∧ Dp K (wo H L) tv (trD t) ∧ Dp K (wo H L) rv (.tuple (iD xs)) ∧ ∀ H', Same H H' → Q (.bl (mkB t xs)) H'
def sp_canonical_row (K : PySem.W.Frag) : Sp := fun vs H Q _ => ∃ L tv t, vs = [tv] ∧ Trk H L ∧ Bt t ∧ MT.Pos t ∧ Dp K (wo H L) tv (trD t) ∧ Ret K H L (.tuple (iD (canL t))) Q
def sp_standing (K : PySem.W.Frag) : Sp := fun vs H Q _ => ∃ L tv t, vs = [tv] ∧ Trk H L ∧ Bt t ∧ MT.Pos t ∧ Dp K (wo H L) tv (trD t) ∧ ∀ g, Gp t g → Ret K H L (ratD (rt ((t.n : Int) * MT.Dt t - wsum t.n g (canL t)) (MT.Dt t))) Q
def sp_law_ratioW (K : PySem.W.Frag) : Sp := fun vs H Q _ => ∃ L, ∃ top bottom : Int, vs = [.int top, .int bottom] ∧ Trk H L ∧ bottom ≠ 0 ∧ top.natAbs ≤ 2 ^ 1000 ∧ bottom.natAbs ≤ 2 ^ 198 ∧ Ret K H L (.tuple [.int (lr top bottom).1, .int (lr top bottom).2]) Q
def sp_law_squareW (K : PySem.W.Frag) : Sp := fun vs H Q _ => ∃ L tv rv t xs, vs = [tv, rv] ∧ Trk H L ∧ Bt t ∧ MT.Pos t ∧ t.n ≤ 6 ∧ xs.length = t.n ∧ En 110 xs ∧ Dp K (wo H L) tv (trD t) ∧ Dp K (wo H L) rv (.tuple (iD xs)) ∧ ∀ g, Gp t g → Ret K H L (ratD (rt (-wsum t.n g xs) (MT.Dt t))) Q
def sp_law_plus (K : PySem.W.Frag) : Sp := fun vs H Q _ => ∃ L xv yv, ∃ A B D : Int, vs = [xv, yv] ∧ Trk H L ∧ 0 < D ∧ D.natAbs ≤ 2 ^ 99 ∧ A.natAbs ≤ 2 ^ 500 ∧ B.natAbs ≤ 2 ^ 500 ∧ Dp K (wo H L) xv (ratD (rt A D)) ∧ Dp K (wo H L) yv (ratD (rt B D)) ∧ Ret K H L (ratD (rt (A + B) D)) Q
def sp_law_any_row (K : PySem.W.Frag) : Sp := fun vs H Q _ => ∃ L m c cs b tv t, vs = [.ref m, tv] ∧ m ∈ L ∧ Trk H L ∧ MAt H m c cs b ∧ Bt t ∧ b + 40 < 1000000 ∧ Dp K (wo H L) tv (trD t) ∧
  ∀ xs v H', xs.length = t.n → En 4 xs → SameM m H H' → MAt H' m c cs (b + 40) → Dp K (wo H' L) v (.tuple (iD xs)) → Q v H'
def sp_law_likeB (K : PySem.W.Frag) : Sp := fun vs H Q _ => ∃ x y, vs = [x, y] ∧ ((∃ b, x = .bl b ∧ y = .bl b) ∨ ∃ d, Dp K H x d ∧ Dp K H y d ∧ ∃ k c, Shw k c d ∧ k ≤ 64 ∧ c ≤ 16777216 ∧ Or1 d x ∧ Or1 d y) ∧ Q (.bl true) H
def sp_blownS (s D : Int) (K : PySem.W.Frag) : Sp := fun vs H Q _ => ∃ L m c cs b tv t, ∃ count : Nat, vs = [.ref m, tv, .int count] ∧ m ∈ L ∧ Trk H L ∧ MAt H m c cs b ∧ B60 t ∧ Std s D t ∧ t.n + count ≤ 16 ∧ b + 100 < 1000000 ∧ Dp K (wo H L) tv (trD t) ∧
  ∀ t' v H', B60 t' → Std s D t' → t'.n ≤ t.n + count → SameM m H H' → MAt H' m c cs (b + 100) → Dp K (wo H' L) v (trD t') → Q v H'
def sp_law_rows_right (K : PySem.W.Frag) : Sp := fun vs H Q _ => ∃ m c cs b tv t, vs = [.ref m, tv] ∧ Trk H [m] ∧ MAt H m c cs b ∧ Bt t ∧ MT.Pos t ∧ t.n ≤ 6 ∧ b + 200 < 1000000 ∧ Dp K (wo H [m]) tv (trD t) ∧ ∀ H', SameM m H H' → MAt H' m c cs (b + 200) → Q (.bl true) H'
def sp_law_stands (K : PySem.W.Frag) : Sp := fun vs H Q _ => ∃ m c cs b tv t, vs = [.ref m, tv] ∧ Trk H [m] ∧ MAt H m c cs b ∧ B60 t ∧ MT.Pos t ∧ t.n ≤ 6 ∧ b + 200 < 1000000 ∧ Dp K (wo H [m]) tv (trD t) ∧ ∀ H', SameM m H H' → MAt H' m c cs (b + 200) → Q (.bl true) H'
/-- is, of truths -/
theorem op_isB {X : Cx} : OpR X (compareOp .Is) (fun x y H Q => ∃ a b, x = .bl a ∧ y = .bl b ∧ Q (.bl (decide (a = b))) H) := by
  intro pins s σ H x y v u Q I rx ry h
  obtain ⟨a, b, rfl, rfl, q⟩ := h
  cases (show v = Value.bool a from rx); cases (show u = Value.bool b from ry)
  exact wpAny_is_plain rfl (fin_bl I q (by cases a <;> cases b <;> rfl))
/-- repr(x) of data and of truths -/
def rReprB (K : PySem.W.Frag) : List V → Hp → VK → Prop := fun xs H Q => (∃ b, xs = [.bl b] ∧ Q (.str (if b = true then Str.ofString "True" else Str.ofString "False")) H) ∨ rRepr K xs H Q
theorem cr_reprB {X : Cx} (K : PySem.W.Frag) (hK : X.K = K) (gd : X.A.guards = some []) (hu : X.A.units + 66 < cLine) : CallR X (.builtin "repr") (rReprB K) := by
  intro pins s σ H vs us Q I r h
  rcases h with ⟨b, rfl, q⟩ | h
  · obtain ⟨u, rfl, ru⟩ := vals1 r
    cases (show u = Value.bool b from ru)
    exact PySem.P.repr_of_bool ⟨.str _, H, I.tok _, ⟨_, rfl⟩, q⟩
  · exact cr_repr K hK gd hu pins s σ H vs us Q I r h
theorem eun_endL {a b L : Nat} (hb : b ≤ 2 ^ L) {k : Nat} (hk : 2 * L + 4 ≤ k) : MT.eun k (a, b) = (Nat.gcd a b, 0) := by
  have shift : ∀ s m, MT.eun (m + 1) s = MT.eun m (MT.eu s) := by
    intro s m
    induction m with
    | zero => rfl
    | succ m ih => show MT.eu (MT.eun (m + 1) s) = MT.eu (MT.eun m (MT.eu s)); rw [ih]
  by_cases hb0 : b = 0
  · subst hb0
    have : ∀ m, MT.eun m (a, 0) = (a, 0) := by
      intro m
      induction m with
      | zero => rfl
      | succ m ih => show MT.eu (MT.eun m (a, 0)) = _; rw [ih]; rfl
    rw [this, Nat.gcd_zero_right]
  · obtain ⟨m, rfl⟩ : ∃ m, k = m + 1 := ⟨k - 1, by omega⟩
    have e : MT.eu (a, b) = (b, a % b) := if_neg hb0
    have lt := Nat.mod_lt a (Nat.pos_of_ne_zero hb0)
    rw [shift, e, MT.eun_end (L := L) hb (by omega) (by omega), Nat.gcd_comm, ← Nat.gcd_rec, Nat.gcd_comm]
end Y
namespace Y
open PySem PySem.Spec PyProof.Rows L2
/-- two statements: what holds between them -/
theorem seq_join {a b : TS} {D : Ends} {σ : L2.St} {H : Hp} (J : L2.St → Hp → Prop) (h1 : ∀ N : L2.St → Hp → Prop, (∀ σ' H', J σ' H' → N σ' H') → a { D with nx := N } σ H) (h2 : ∀ σ' H', J σ' H' → b D σ' H') : tSeq a b D σ H := h1 (b D) h2
end Y
namespace Y
open PySem PySem.Spec PyProof.Rows L2
theorem if_join {c : TT} {t u b : TS} {D : Ends} {σ : L2.St} {H : Hp} (J : L2.St → Hp → Prop) (h1 : ∀ N : L2.St → Hp → Prop, (∀ σ' H', J σ' H' → N σ' H') → tIfS c t u { D with nx := N } σ H) (h2 : ∀ σ' H', J σ' H' → b D σ' H') : tSeq (tIfS c t u) b D σ H := h1 (b D) h2
end Y
namespace Y
open PySem PySem.Spec PyProof.Rows L2
theorem range_get_fm {α β : Type} (f : α → Option β) (xs : List α) : (List.range xs.length).filterMap (fun i => (xs[i]?).bind f) = xs.filterMap f := by
  have h := range_get_all (fun x : α => x) xs
  rw [List.map_id'] at h
  have h2 : (List.range xs.length).filterMap (fun i => xs[i]?) = xs := (fm_congr2 _ fun (i : Nat) _ => by show xs[i]? = (xs[i]?).map fun x => x; cases xs[i]? <;> rfl).trans h
  conv => rhs; rw [← h2]
  rw [List.filterMap_filterMap]
def nzL (us : List Int) : List Int := us.filter fun x => decide (x ≠ 0)
theorem nz_fm (us : List Int) : (List.range us.length).filterMap (fun i => (us[i]?).bind fun x => if x = 0 then none else some (PyData.int x)) = iD (nzL us) := by
  rw [range_get_fm]
  unfold nzL iD
  induction us with
  | nil => rfl
  | cons x us ih =>
    by_cases h : x = 0
    · subst h
      rw [List.filterMap_cons, if_pos rfl, ih]
      rfl
    · rw [List.filterMap_cons, if_neg h, ih, List.filter_cons_of_pos (by simpa using h)]
      rfl
theorem nz_empty {us : List Int} : (nzL us).isEmpty = true ↔ ∀ i, i < us.length → en us i = 0 := by
  unfold nzL
  rw [List.isEmpty_iff, List.filter_eq_nil_iff]
  constructor
  · intro h i hi
    have e := List.getElem?_eq_getElem hi
    rw [en_at e]
    have := h _ (List.mem_of_getElem? e)
    simpa using this
  · intro h x hx z
    obtain ⟨i, hi⟩ := List.getElem?_of_mem hx
    have := h i (List.getElem?_eq_some_iff.mp hi).1
    rw [en_at hi] at this
    simp [this] at z
/-- the sign of a square tells whether the row is all zeros -/
theorem sq_sign {t : Tr} (B : Bt t) (P0 : MT.Pos t) {g : Nat → Nat → Int} (hg : Gp t g) {us : List Int} (l : us.length = t.n) : decide ((rt (-wsum t.n g us) (MT.Dt t)).1 < 0) = !(nzL us).isEmpty := by
  obtain ⟨w0, w1⟩ := wsum_pos B P0 hg (en us)
  have D0 : 0 < MT.Dt t := P0 _
  have h := rt_neg0 (a := wsum t.n g us) (b := MT.Dt t) w0 D0
  cases z : (nzL us).isEmpty
  · refine decide_eq_true (h.mpr fun e => ?_)
    have := nz_empty.mpr fun i hi => w1 e i (by omega)
    rw [this] at z
    cases z
  · refine decide_eq_false fun e => h.mp e ?_
    have zz := nz_empty.mp z
    unfold wsum
    exact sm_zero fun i hi => by rw [zz i (by have := List.mem_range.mp hi; omega)]; simp
def negL (us : List Int) : List Int := us.map fun x => -x
theorem en_neg (us : List Int) (i : Nat) : en (negL us) i = -en us i := by
  unfold en negL
  rw [List.getD_eq_getElem?_getD, List.getD_eq_getElem?_getD, List.getElem?_map]
  cases us[i]? <;> simp
theorem wsum_neg (n : Nat) (g : Nat → Nat → Int) (us : List Int) : wsum n g (negL us) = wsum n g us := by
  unfold wsum
  refine MT.sm_congr fun i _ => ?_
  have : MT.sm (fun j => g i j * en (negL us) j) (List.range n) = -1 * MT.sm (fun j => g i j * en us j) (List.range n) := by
    rw [← MT.sm_mul]
    exact MT.sm_congr fun j _ => by rw [en_neg]; grind
  rw [this, en_neg]
  grind
theorem En.neg {c : Nat} {us : List Int} (h : En c us) : En c (negL us) := fun i => by rw [en_neg, Int.natAbs_neg]; exact h i
def oddF (t : Tr) (us : List Int) (k : Nat) : Option PyData := if (en us k - MT.wt t k).fmod 2 = 0 then none else some (.int (k : Int))
theorem odd_empty (t : Tr) (us : List Int) : ((List.range t.n).filterMap (oddF t us)).isEmpty = mkB t us := by
  rw [Bool.eq_iff_iff, List.isEmpty_iff, List.filterMap_eq_nil_iff, mkB_iff]
  unfold Mk oddF
  constructor
  · intro h i hi
    have := h i (List.mem_range.mpr hi)
    by_cases z : (en us i - MT.wt t i).fmod 2 = 0
    · exact z
    · rw [if_neg z] at this; cases this
  · intro h i hi
    exact if_pos (h i (List.mem_range.mp hi))
theorem shaped_nats (ns : List Nat) : SeqAt.shaped (.list (nD ns)) = true := shaped_nL ns
theorem odd_nD (t : Tr) (us : List Int) : (List.range t.n).filterMap (oddF t us) = nD ((List.range t.n).filter fun k => !decide ((en us k - MT.wt t k).fmod 2 = 0)) := by
  unfold nD
  induction List.range t.n with
  | nil => rfl
  | cons k l ih =>
    rw [List.filterMap_cons]
    unfold oddF
    by_cases z : (en us k - MT.wt t k).fmod 2 = 0
    · rw [if_pos z, List.filter_cons_of_neg (by simp [z])]
      exact ih
    · rw [if_neg z, List.filter_cons_of_pos (by simp [z]), List.map_cons]
      exact congrArg _ ih
end Y
namespace Y
open PySem PySem.Spec PyProof.Rows L2
def cutI (xs : List Int) (lo hi : Option Int) : List Int := (xs.drop (HT.sIx xs.length 0 lo)).take (HT.sIx xs.length xs.length hi - HT.sIx xs.length 0 lo)
theorem cut_iV (xs : List Int) (lo hi : Option Int) : cutV (iV xs) lo hi = iV (cutI xs lo hi) := by
  unfold cutV iV cutI
  rw [List.length_map, List.map_take, List.map_drop]
theorem sl_use {K : PySem.W.Frag} {H : Hp} {a : Addr} {xs : List Int} {lo hi : Option Int} {Q : VK} (h : SqT K H a (iV xs)) (q : ∀ v H', Same H H' → Dp K H' v (.tuple (iD (cutI xs lo hi))) → Q v H') : rSlA K (.ref a) lo hi H Q := by
  refine ⟨a, iV xs, rfl, h, fun z => q _ _ (Same.refl _) ?_, fun _ p hp => ?_⟩
  · rw [iV_len] at z
    have : cutI xs lo hi = xs := by
      unfold cutI
      rw [z.1, z.2, List.drop_zero, Nat.sub_zero, List.take_length]
    rw [this]
    exact .tup h (dpAll_ints.mpr rfl)
  · rw [cut_iV]
    exact q _ _ (same_new hp _) (.tup (.inl (.inl upd_same)) (dpAll_ints.mpr rfl))
theorem cat_use {K : PySem.W.Frag} {H : Hp} {a b : Addr} {xs ys : List Int} {Q : VK} (h1 : SqT K H a (iV xs)) (h2 : SqT K H b (iV ys)) (hl : xs.length + ys.length ≤ 100000) (q : ∀ v H', Same H H' → Dp K H' v (.tuple (iD (xs ++ ys))) → Q v H') : rCatA K (.ref a) (.ref b) H Q := by
  refine ⟨a, b, iV xs, iV ys, rfl, rfl, h1, h2, by rw [iV_len, iV_len]; exact sz hl, fun z => q _ _ (Same.refl _) ?_, fun _ z => q _ _ (Same.refl _) ?_, fun _ _ p hp => ?_⟩
  · have : xs = [] := by unfold iV at z; exact List.map_eq_nil_iff.mp z
    rw [this]
    exact .tup h2 (dpAll_ints.mpr rfl)
  · have : ys = [] := by unfold iV at z; exact List.map_eq_nil_iff.mp z
    rw [this, List.append_nil]
    exact .tup h1 (dpAll_ints.mpr rfl)
  · have e : iV xs ++ iV ys = iV (xs ++ ys) := by unfold iV; rw [List.map_append]
    rw [e]
    exact q _ _ (same_new hp _) (.tup (.inl (.inl upd_same)) (dpAll_ints.mpr rfl))
theorem cut_lo (xs : List Int) {p : Nat} (h : p ≤ xs.length) : cutI xs none (some (p : Int)) = xs.take p := by
  unfold cutI
  rw [HT.sIx_none, HT.sIx_nat, List.drop_zero, Nat.sub_zero, Nat.min_eq_left h]
theorem cut_hi (xs : List Int) {p : Nat} (h : p ≤ xs.length) : cutI xs (some (p : Int)) none = xs.drop p := by
  unfold cutI
  rw [HT.sIx_none, HT.sIx_nat, Nat.min_eq_left h]
  exact List.take_of_length_le (by rw [List.length_drop]; omega)
theorem bent_set (xs : List Int) {p : Nat} (h : p < xs.length) (v : Int) : xs.take p ++ [v] ++ xs.drop (p + 1) = xs.set p v := by
  rw [List.set_eq_take_append_cons_drop, if_pos h]
  simp
theorem en_set (xs : List Int) {p : Nat} (h : p < xs.length) (v : Int) (i : Nat) : en (xs.set p v) i = if i = p then v else en xs i := by
  unfold en
  rw [List.getD_eq_getElem?_getD, List.getElem?_set]
  by_cases e : p = i
  · subst e
    rw [if_pos rfl, if_pos h, if_pos rfl]
    rfl
  · rw [if_neg e, if_neg (Ne.symm e), List.getD_eq_getElem?_getD]
theorem mk_bent {t : Tr} {xs : List Int} (l : xs.length = t.n) (M : Mk t xs) {p : Nat} (hp : p < t.n) : mkB t (xs.set p (en xs p + 1)) = false := by
  cases h : mkB t (xs.set p (en xs p + 1))
  · rfl
  · have := mkB_iff.mp h p hp
    rw [en_set xs (by omega), if_pos rfl] at this
    have m := M p hp
    rw [Int.fmod_eq_emod_of_nonneg _ (by omega)] at this m
    omega
def difL (n : Nat) (xs ys : List Int) : List Int := (List.range n).map fun j => en xs j - en ys j
theorem En.dif {n c : Nat} {xs ys : List Int} (h : En c xs) (k : En c ys) : En (c + 1) (difL n xs ys) := fun i => by
  unfold difL
  rw [en_range]
  have a := h i
  have b := k i
  have e := two_pow c
  have := Int.natAbs_sub_le (en xs i) (en ys i)
  split
  · omega
  · exact Nat.zero_le _
theorem wsum_par {n : Nat} (g : Nat → Nat → Int) (xs ys : List Int) : -wsum n g (sumL n xs ys) + -wsum n g (difL n xs ys) = (-wsum n g xs + -wsum n g ys) + (-wsum n g xs + -wsum n g ys) := by
  have h := bil_par (n := n) g (x := en xs) (y := en ys) (u := en (sumL n xs ys)) (v := en (difL n xs ys)) (fun i hi => en_sum hi) fun i hi => by unfold difL; rw [en_range, if_pos hi]
  have h : wsum n g (sumL n xs ys) + wsum n g (difL n xs ys) = 2 * (wsum n g xs + wsum n g ys) := h
  omega
theorem eqv_rat (p : Int × Int) : PyData.eqv (ratD p) (ratD p) = true := by
  unfold ratD
  simp [PyData.eqv, PyData.eqvAll]
theorem shaped_rat (p : Int × Int) : SeqAt.shaped (ratD p) = true := shaped_iT [p.1, p.2]
end Y
/-! signs do not hang on the place that is begun with -/
namespace MT
open Y
/-- what a fold takes off the next one; none: a zero was folded in -/
def iv : Option Rat → Rat
  | none => 0
  | some x => x⁻¹
def rs (f : Nat → Rat) (l : List Nat) : Rat := (l.map f).foldr (· + ·) 0
theorem rs_nil (f : Nat → Rat) : rs f [] = 0 := rfl
theorem rs_cons (f : Nat → Rat) (x : Nat) (l : List Nat) : rs f (x :: l) = f x + rs f l := rfl
theorem rs_congr {f g : Nat → Rat} : ∀ {l : List Nat}, (∀ x ∈ l, f x = g x) → rs f l = rs g l
  | [], _ => rfl
  | x :: l, h => by rw [rs_cons, rs_cons, h x (by simp), rs_congr fun y m => h y (by simp [m])]
theorem rs_perm (f : Nat → Rat) {l m : List Nat} (p : l.Perm m) : rs f l = rs f m := by
  induction p with
  | nil => rfl
  | cons x _ ih => rw [rs_cons, rs_cons, ih]
  | swap x y l => rw [rs_cons, rs_cons, rs_cons, rs_cons]; grind
  | trans _ _ h1 h2 => rw [h1, h2]
open Classical in
/-- the fold of a place -/
noncomputable def sv (w : Rat) (X : Nat → Option Rat) (l : List Nat) : Option Rat := if ∃ c ∈ l, X c = some 0 then none else some (w - rs (fun c => iv (X c)) l)
theorem sv_none {w : Rat} {X : Nat → Option Rat} {l : List Nat} (h : ∃ c ∈ l, X c = some 0) : sv w X l = none := if_pos h
theorem sv_some {w : Rat} {X : Nat → Option Rat} {l : List Nat} (h : ∀ c ∈ l, X c ≠ some 0) : sv w X l = some (w - rs (fun c => iv (X c)) l) := if_neg fun ⟨c, m, z⟩ => h c m z
theorem sv_congr {w : Rat} {X Y : Nat → Option Rat} {l : List Nat} (h : ∀ c ∈ l, X c = Y c) : sv w X l = sv w Y l := by
  by_cases z : ∃ c ∈ l, X c = some 0
  · rw [sv_none z, sv_none (by obtain ⟨c, m, e⟩ := z; exact ⟨c, m, by rw [← h c m]; exact e⟩)]
  · have z1 : ∀ c ∈ l, X c ≠ some 0 := fun c m e => z ⟨c, m, e⟩
    rw [sv_some z1, sv_some fun c m e => z1 c m (by rw [h c m]; exact e), rs_congr fun c m => by rw [h c m]]
theorem sv_perm {w : Rat} {X : Nat → Option Rat} {l m : List Nat} (p : l.Perm m) : sv w X l = sv w X m := by
  by_cases z : ∃ c ∈ l, X c = some 0
  · rw [sv_none z, sv_none (by obtain ⟨c, m, e⟩ := z; exact ⟨c, p.mem_iff.mp m, e⟩)]
  · have z1 : ∀ c ∈ l, X c ≠ some 0 := fun c m e => z ⟨c, m, e⟩
    rw [sv_some z1, sv_some fun c m e => z1 c (p.mem_iff.mpr m) e, rs_perm _ p]
/-- one more is folded in -/
noncomputable def sv1 (a b : Option Rat) : Option Rat := if b = some 0 then none else a.map fun x => x - iv b
theorem sv_cons (w : Rat) (X : Nat → Option Rat) (c : Nat) (l : List Nat) : sv w X (c :: l) = sv1 (sv w X l) (X c) := by
  unfold sv1
  by_cases h : X c = some 0
  · rw [if_pos h, sv_none ⟨c, by simp, h⟩]
  · rw [if_neg h]
    by_cases z : ∃ c ∈ l, X c = some 0
    · rw [sv_none z, sv_none (by obtain ⟨d, m, e⟩ := z; exact ⟨d, by simp [m], e⟩)]
      rfl
    · have z1 : ∀ c ∈ l, X c ≠ some 0 := fun c m e => z ⟨c, m, e⟩
      rw [sv_some z1, sv_some (fun d m => by
        rcases List.mem_cons.mp m with m | m
        · rw [m]; exact h
        · exact z1 d m), rs_cons]
      show some _ = some _
      congr 1
      grind
/-- what a place counts for -/
def cA : Option Rat → Int
  | none => 1
  | some x => if 0 < x then 1 else 0
def cB : Option Rat → Int
  | none => 1
  | some x => if x < 0 then 1 else 0
def cL : Option Rat → Int
  | none => -1
  | some x => if x = 0 then 1 else 0
theorem r_tri (a : Rat) : a < 0 ∨ a = 0 ∨ 0 < a := by grind
theorem r_sub0 : (0 : Rat) - 0 = 0 := by grind
theorem r_sign {a u : Rat} (h : a * u = 1) : (0 < a ∧ 0 < u) ∨ (a < 0 ∧ u < 0) := by
  rcases r_tri a with h1 | h1 | h1
  · right
    refine ⟨h1, ?_⟩
    rcases r_tri u with h2 | h2 | h2
    · exact h2
    · rw [h2] at h; grind
    · have := Rat.mul_pos (a := -a) (b := u) (by grind) h2
      grind
  · rw [h1] at h; grind
  · left
    refine ⟨h1, ?_⟩
    rcases r_tri u with h2 | h2 | h2
    · have := Rat.mul_pos (a := a) (b := -u) h1 (by grind)
      grind
    · rw [h2] at h; grind
    · exact h2
theorem r_mul (p u : Rat) : (0 < u → (0 < p * u ↔ 0 < p) ∧ (p * u < 0 ↔ p < 0) ∧ (p * u = 0 ↔ p = 0)) ∧ (u < 0 → (0 < p * u ↔ p < 0) ∧ (p * u < 0 ↔ 0 < p) ∧ (p * u = 0 ↔ p = 0)) := by
  refine ⟨fun h => ?_, fun h => ?_⟩
  · rcases r_tri p with h1 | h1 | h1
    · have := Rat.mul_pos (a := -p) (b := u) (by grind) h
      refine ⟨?_, ?_, ?_⟩ <;> constructor <;> intro z <;> grind
    · subst h1
      refine ⟨?_, ?_, ?_⟩ <;> constructor <;> intro z <;> grind
    · have := Rat.mul_pos (a := p) (b := u) h1 h
      refine ⟨?_, ?_, ?_⟩ <;> constructor <;> intro z <;> grind
  · rcases r_tri p with h1 | h1 | h1
    · have := Rat.mul_pos (a := -p) (b := -u) (by grind) (by grind)
      refine ⟨?_, ?_, ?_⟩ <;> constructor <;> intro z <;> grind
    · subst h1
      refine ⟨?_, ?_, ?_⟩ <;> constructor <;> intro z <;> grind
    · have := Rat.mul_pos (a := p) (b := -u) h1 (by grind)
      refine ⟨?_, ?_, ?_⟩ <;> constructor <;> intro z <;> grind
theorem c_turn (a n : Option Rat) : cA n + cA (sv1 a n) = cA a + cA (sv1 n a) ∧ cB n + cB (sv1 a n) = cB a + cB (sv1 n a) ∧ cL n + cL (sv1 a n) = cL a + cL (sv1 n a) := by
  unfold sv1
  cases a with
  | none =>
    cases n with
    | none => simp
    | some n =>
      by_cases h : n = 0
      · subst h; simp [iv, cA, cB, cL, r_sub0]
      · have : n - 0 = n := by grind
        simp [h, iv, this]
        omega
  | some a =>
    cases n with
    | none =>
      by_cases h : a = 0
      · subst h; simp [iv, cA, cB, cL, r_sub0]
      · have : a - 0 = a := by grind
        simp [h, iv, this]
        omega
    | some n =>
      by_cases h : n = 0
      · subst h
        by_cases h2 : a = 0
        · subst h2; simp
        · have i2 := Rat.mul_inv_cancel a h2
          obtain ⟨u, hu⟩ : ∃ u, u = a⁻¹ := ⟨_, rfl⟩
          rw [← hu] at i2
          have := r_sign i2
          simp [h2, iv, cA, cB, cL, ← hu]
          grind
      · by_cases h2 : a = 0
        · subst h2
          have i2 := Rat.mul_inv_cancel n h
          obtain ⟨u, hu⟩ : ∃ u, u = n⁻¹ := ⟨_, rfl⟩
          rw [← hu] at i2
          have := r_sign i2
          simp [h, iv, cA, cB, cL, ← hu]
          grind
        · have i1 := Rat.mul_inv_cancel n h
          have i2 := Rat.mul_inv_cancel a h2
          obtain ⟨u, hu⟩ : ∃ u, u = n⁻¹ := ⟨_, rfl⟩
          obtain ⟨v, hv⟩ : ∃ v, v = a⁻¹ := ⟨_, rfl⟩
          rw [← hu] at i1
          rw [← hv] at i2
          obtain ⟨p, hp⟩ : ∃ p, p = a * n - 1 := ⟨_, rfl⟩
          have e1 : a - u = p * u := by rw [hp]; grind
          have e2 : n - v = p * v := by rw [hp]; grind
          have s1 := r_sign i1
          have s2 := r_sign i2
          have m1 := r_mul p u
          have m2 := r_mul p v
          have op : (0 < a ∧ n < 0 ∨ a < 0 ∧ 0 < n) → p < 0 := by
            rintro (⟨k1, k2⟩ | ⟨k1, k2⟩)
            · have := Rat.mul_pos (a := a) (b := -n) k1 (by grind)
              grind
            · have := Rat.mul_pos (a := -a) (b := n) (by grind) k2
              grind
          simp [h, h2, iv, cA, cB, cL, ← hu, ← hv, e1, e2]
          rcases s1 with ⟨k1, k2⟩ | ⟨k1, k2⟩ <;> rcases s2 with ⟨k3, k4⟩ | ⟨k3, k4⟩
          · obtain ⟨x1, x2, x3⟩ := m1.1 k2
            obtain ⟨y1, y2, y3⟩ := m2.1 k4
            simp only [← e1, ← e2] at x1 x2 x3 y1 y2 y3
            refine ⟨?_, ?_, ?_⟩ <;> grind
          · have := op (.inr ⟨k3, k1⟩)
            obtain ⟨x1, x2, x3⟩ := m1.1 k2
            obtain ⟨y1, y2, y3⟩ := m2.2 k4
            refine ⟨?_, ?_, ?_⟩ <;> grind
          · have := op (.inl ⟨k3, k1⟩)
            obtain ⟨x1, x2, x3⟩ := m1.2 k2
            obtain ⟨y1, y2, y3⟩ := m2.1 k4
            refine ⟨?_, ?_, ?_⟩ <;> grind
          · obtain ⟨x1, x2, x3⟩ := m1.2 k2
            obtain ⟨y1, y2, y3⟩ := m2.2 k4
            refine ⟨?_, ?_, ?_⟩ <;> grind
end MT
namespace TM
/-- the next place is begun with -/
theorem rooted_turn {n : Nat} {adj : Nat → Nat → Prop} {r s : Nat} {par dep : Nat → Nat} (R : Rooted n adj r par dep) (hs : s < n) (ne : s ≠ r) (hp : par s = r) :
    Rooted n adj s (fun v => if v = r then s else par v) (fun v => if s ∈ way par dep v then dep v - 1 else dep v + 1) := by
  have ds := (R.up s hs ne).2
  rw [hp, R.dep0] at ds
  have ws : s ∈ way par dep s := by rw [way_cons R hs ne]; simp
  have wr : s ∉ way par dep r := by rw [way_root R]; simp [ne]
  have pr : ∀ v, v < n → v ≠ r → v ≠ s → par v ≠ v := fun v hv h1 _ z => by
    have := (R.up v hv h1).2
    rw [z] at this
    omega
  refine ⟨hs, ?_, fun v hv h => ?_, fun u v => ?_⟩
  · show (if s ∈ way par dep s then dep s - 1 else dep s + 1) = 0
    rw [if_pos ws, ds]
  · by_cases e : v = r
    · subst e
      show (if v = v then s else par v) < n ∧ (if s ∈ way par dep v then dep v - 1 else dep v + 1) = (if s ∈ way par dep (if v = v then s else par v) then dep (if v = v then s else par v) - 1 else dep (if v = v then s else par v) + 1) + 1
      rw [if_pos rfl, if_neg wr, if_pos ws, ds, R.dep0]
      exact ⟨hs, rfl⟩
    · obtain ⟨k1, k2⟩ := R.up v hv e
      show (if v = r then s else par v) < n ∧ (if s ∈ way par dep v then dep v - 1 else dep v + 1) = (if s ∈ way par dep (if v = r then s else par v) then dep (if v = r then s else par v) - 1 else dep (if v = r then s else par v) + 1) + 1
      rw [if_neg e]
      refine ⟨k1, ?_⟩
      have ew : (s ∈ way par dep v) ↔ s ∈ way par dep (par v) := by
        rw [way_cons R hv e, List.mem_cons]
        exact ⟨fun z => z.resolve_left (Ne.symm h), .inr⟩
      by_cases m : s ∈ way par dep (par v)
      · rw [if_pos m, if_pos (ew.mpr m)]
        have : dep s ≤ dep (par v) := (upto_lt R _ (par v) k1 rfl s m).2
        omega
      · rw [if_neg m, if_neg fun z => m (ew.mp z)]
        omega
  · rw [R.edge u v]
    constructor
    · rintro ⟨h1, h2, h3⟩
      refine ⟨h1, h2, ?_⟩
      rcases h3 with ⟨k1, k2⟩ | ⟨k1, k2⟩
      · by_cases e : u = s
        · rw [e, hp] at k2
          right
          exact ⟨by rw [← k2]; exact Ne.symm ne, by rw [if_pos k2.symm, e]⟩
        · exact .inl ⟨e, by rw [if_neg k1]; exact k2⟩
      · by_cases e : v = s
        · rw [e, hp] at k2
          left
          exact ⟨by rw [← k2]; exact Ne.symm ne, by rw [if_pos k2.symm, e]⟩
        · exact .inr ⟨e, by rw [if_neg k1]; exact k2⟩
    · rintro ⟨h1, h2, h3⟩
      refine ⟨h1, h2, ?_⟩
      rcases h3 with ⟨k1, k2⟩ | ⟨k1, k2⟩
      · by_cases e : u = r
        · rw [if_pos e] at k2
          right
          exact ⟨by rw [← k2]; exact ne, by rw [← k2, hp, e]⟩
        · rw [if_neg e] at k2
          exact .inl ⟨e, k2⟩
      · by_cases e : v = r
        · rw [if_pos e] at k2
          left
          exact ⟨by rw [← k2]; exact ne, by rw [← k2, hp, e]⟩
        · rw [if_neg e] at k2
          exact .inr ⟨e, k2⟩
end TM
namespace MT
open Y
/-- the folds of all places -/
def SV (t : Tr) (r : Nat) (par : Nat → Nat) (X : Nat → Option Rat) : Prop := ∀ v, v < t.n → X v = sv (wt t v : Rat) X (kids t.ties r par v)
section
variable {t : Tr} {r : Nat} {par dep : Nat → Nat} {X : Nat → Option Rat}
theorem sv_made (R : TM.Rooted t.n (adjT t.ties) r par dep) : ∃ X, SV t r par X := by
  let F : Nat → Nat → Option Rat := fun k => Nat.rec (fun _ => none) (fun _ f v => sv (wt t v : Rat) f (kids t.ties r par v)) k
  refine ⟨fun v => F (t.n - dep v) v, fun v hv => ?_⟩
  have hd := TM.dep_lt R hv
  obtain ⟨k, e⟩ : ∃ k, t.n - dep v = k + 1 := ⟨t.n - dep v - 1, by omega⟩
  show F (t.n - dep v) v = _
  rw [e]
  show sv (wt t v : Rat) (F k) (kids t.ties r par v) = _
  refine sv_congr fun c hc => ?_
  obtain ⟨h1, h2, h3⟩ := (kids_mem R hv c).mp hc
  have := (R.up c h1 h2).2
  rw [h3] at this
  show F k c = F (t.n - dep c) c
  rw [show t.n - dep c = k by omega]
theorem sv_uniq {X2 : Nat → Option Rat} (R : TM.Rooted t.n (adjT t.ties) r par dep) (h : SV t r par X) (h2 : SV t r par X2) : ∀ k v, v < t.n → t.n ≤ dep v + k → X v = X2 v
  | 0, v, hv, hd => by have := TM.dep_lt R hv; omega
  | k + 1, v, hv, hd => by
    rw [h v hv, h2 v hv]
    refine sv_congr fun c hc => ?_
    obtain ⟨h1, h3, h4⟩ := (kids_mem R hv c).mp hc
    have := (R.up c h1 h3).2
    rw [h4] at this
    exact sv_uniq R h h2 k c h1 (by omega)
theorem sv_two {par2 dep2 : Nat → Nat} {X2 : Nat → Option Rat} (R : TM.Rooted t.n (adjT t.ties) r par dep) (R2 : TM.Rooted t.n (adjT t.ties) r par2 dep2) (h : SV t r par X) (h2 : SV t r par2 X2) {v : Nat} (hv : v < t.n) : X v = X2 v := by
  refine sv_uniq R h (fun u hu => ?_) _ v hv (Nat.le_add_left _ _)
  rw [h2 u hu, kids_eq R2 R hu]
theorem sm_pair {f g : Nat → Int} {n a b : Nat} (ha : a < n) (hb : b < n) (ne : a ≠ b) (h : ∀ v, v < n → v ≠ a → v ≠ b → f v = g v) (e : f a + f b = g a + g b) : sm f (List.range n) = sm g (List.range n) := by
  have e1 : sm (fun j => f j - g j) (List.range n) = (f a - g a) + (f b - g b) := by
    rw [sm_congr (f' := fun j => if j = a then f a - g a else if j = b then f b - g b else 0) fun j hj => ?_]
    · exact sm_two ha hb ne fun j => rfl
    · have hj := List.mem_range.mp hj
      by_cases j1 : j = a
      · subst j1; rw [if_pos rfl]
      · rw [if_neg j1]
        by_cases j2 : j = b
        · subst j2; rw [if_pos rfl]
        · rw [if_neg j2, h j hj j1 j2]; omega
  rw [sm_sub] at e1
  omega
/-- a neighbour is begun with: the counts stay -/
theorem sv_turn (O : Okt t) (R : TM.Rooted t.n (adjT t.ties) r par dep) (h : SV t r par X) {s : Nat} (hs : s < t.n) (ne : s ≠ r) (hp : par s = r) : ∃ par2 dep2 X2, TM.Rooted t.n (adjT t.ties) s par2 dep2 ∧ SV t s par2 X2 ∧
    sm (fun v => cA (X2 v)) (List.range t.n) = sm (fun v => cA (X v)) (List.range t.n) ∧ sm (fun v => cB (X2 v)) (List.range t.n) = sm (fun v => cB (X v)) (List.range t.n) ∧ sm (fun v => cL (X2 v)) (List.range t.n) = sm (fun v => cL (X v)) (List.range t.n) := by
  have R2 := TM.rooted_turn R hs ne hp
  obtain ⟨par2, hpar2⟩ : ∃ f, f = fun v => if v = r then s else par v := ⟨_, rfl⟩
  rw [← hpar2] at R2
  have p2r : par2 r = s := by rw [hpar2]; exact if_pos rfl
  have p2 : ∀ v, v ≠ r → par2 v = par v := fun v hv => by rw [hpar2]; exact if_neg hv
  obtain ⟨A, hA⟩ : ∃ A, A = sv (wt t r : Rat) X (kids t.ties s par2 r) := ⟨_, rfl⟩
  obtain ⟨X2, hX2⟩ : ∃ X2 : Nat → Option Rat, X2 = fun v => if v = r then A else if v = s then sv1 (X s) A else X v := ⟨_, rfl⟩
  have x2r : X2 r = A := by rw [hX2]; exact if_pos rfl
  have x2s : X2 s = sv1 (X s) A := by rw [hX2]; exact (if_neg ne).trans (if_pos rfl)
  have x2 : ∀ v, v ≠ r → v ≠ s → X2 v = X v := fun v h1 h2 => by rw [hX2]; exact (if_neg h1).trans (if_neg h2)
  have nd : ∀ v, (kids t.ties r par v).Nodup := fun v => kids_nodup O r par v
  have nd2 : ∀ v, (kids t.ties s par2 v).Nodup := fun v => kids_nodup O s par2 v
  -- what hangs on the old root: the neighbour, and the rest
  have kr : (kids t.ties r par r).Perm (s :: kids t.ties s par2 r) := by
    refine (List.perm_ext_iff_of_nodup (nd r) (List.nodup_cons.mpr ⟨fun m => ((kids_mem R2 R.root s).mp m).2.1 rfl, nd2 r⟩)).mpr fun c => ?_
    rw [kids_mem R R.root c, List.mem_cons, kids_mem R2 R.root c]
    constructor
    · rintro ⟨h1, h2, h3⟩
      by_cases e : c = s
      · exact .inl e
      · exact .inr ⟨h1, e, by rw [p2 c h2]; exact h3⟩
    · rintro (e | ⟨h1, h2, h3⟩)
      · rw [e]; exact ⟨hs, ne, hp⟩
      · have e : c ≠ r := fun z => by rw [z, p2r] at h3; exact ne h3
        exact ⟨h1, e, by rw [← p2 c e]; exact h3⟩
  have ks : (kids t.ties s par2 s).Perm (r :: kids t.ties r par s) := by
    refine (List.perm_ext_iff_of_nodup (nd2 s) (List.nodup_cons.mpr ⟨fun m => ((kids_mem R hs r).mp m).2.1 rfl, nd s⟩)).mpr fun c => ?_
    rw [kids_mem R2 hs c, List.mem_cons, kids_mem R hs c]
    constructor
    · rintro ⟨h1, h2, h3⟩
      by_cases e : c = r
      · exact .inl e
      · exact .inr ⟨h1, e, by rw [← p2 c e]; exact h3⟩
    · rintro (e | ⟨h1, h2, h3⟩)
      · rw [e]; exact ⟨R.root, Ne.symm ne, p2r⟩
      · have e : c ≠ s := fun z => by rw [z, hp] at h3; exact ne h3.symm
        exact ⟨h1, e, by rw [p2 c h2]; exact h3⟩
  have ko : ∀ v, v < t.n → v ≠ r → v ≠ s → (kids t.ties s par2 v).Perm (kids t.ties r par v) := fun v hv h1 h2 => by
    refine (List.perm_ext_iff_of_nodup (nd2 v) (nd v)).mpr fun c => ?_
    rw [kids_mem R2 hv c, kids_mem R hv c]
    constructor
    · rintro ⟨k1, k2, k3⟩
      have e : c ≠ r := fun z => by rw [z, p2r] at k3; exact h2 k3.symm
      exact ⟨k1, e, by rw [← p2 c e]; exact k3⟩
    · rintro ⟨k1, k2, k3⟩
      have e : c ≠ s := fun z => by rw [z, hp] at k3; exact h1 k3.symm
      exact ⟨k1, e, by rw [p2 c k2]; exact k3⟩
  have xr : X r = sv1 A (X s) := by rw [h r R.root, sv_perm kr, sv_cons, hA]
  refine ⟨par2, _, X2, R2, fun v hv => ?_, ?_⟩
  · by_cases e1 : v = r
    · subst e1
      rw [x2r, hA]
      refine sv_congr fun c hc => (x2 c ?_ ?_).symm
      · intro z; rw [z] at hc; exact (fun q : _ ∧ _ ∧ _ => by rw [p2r] at q; exact ne q.2.2) ((kids_mem R2 hv v).mp hc)
      · intro z; rw [z] at hc; exact ((kids_mem R2 hv s).mp hc).2.1 rfl
    · by_cases e2 : v = s
      · subst e2
        rw [x2s, sv_perm ks, sv_cons, x2r, h v hv]
        congr 1
        refine sv_congr fun c hc => (x2 c ?_ ?_).symm
        · exact ((kids_mem R hv c).mp hc).2.1
        · intro z
          rw [z] at hc
          have := ((kids_mem R hv v).mp hc).2.2
          rw [hp] at this
          exact ne this.symm
      · rw [x2 v e1 e2, h v hv, sv_perm (ko v hv e1 e2)]
        refine sv_congr fun c hc => (x2 c ?_ ?_).symm
        · exact ((kids_mem R hv c).mp hc).2.1
        · intro z
          rw [z] at hc
          have := ((kids_mem R hv s).mp hc).2.2
          rw [hp] at this
          exact e1 this.symm
  · obtain ⟨c1, c2, c3⟩ := c_turn A (X s)
    rw [← xr, ← x2s] at c1 c2 c3
    refine ⟨sm_pair R.root hs (Ne.symm ne) (fun v _ h1 h2 => by show cA _ = cA _; rw [x2 v h1 h2]) ?_, sm_pair R.root hs (Ne.symm ne) (fun v _ h1 h2 => by show cB _ = cB _; rw [x2 v h1 h2]) ?_, sm_pair R.root hs (Ne.symm ne) (fun v _ h1 h2 => by show cL _ = cL _; rw [x2 v h1 h2]) ?_⟩
    · show cA (X2 r) + cA (X2 s) = cA (X r) + cA (X s)
      rw [x2r]; omega
    · show cB (X2 r) + cB (X2 s) = cB (X r) + cB (X s)
      rw [x2r]; omega
    · show cL (X2 r) + cL (X2 s) = cL (X r) + cL (X s)
      rw [x2r]; omega
/-- the counts, from whatever place -/
theorem sv_any (T : Tree t) (R : TM.Rooted t.n (adjT t.ties) r par dep) (h : SV t r par X) {q : Nat} {par2 dep2 : Nat → Nat} {X2 : Nat → Option Rat} (R2 : TM.Rooted t.n (adjT t.ties) q par2 dep2) (h2 : SV t q par2 X2) :
    sm (fun v => cA (X2 v)) (List.range t.n) = sm (fun v => cA (X v)) (List.range t.n) ∧ sm (fun v => cB (X2 v)) (List.range t.n) = sm (fun v => cB (X v)) (List.range t.n) ∧ sm (fun v => cL (X2 v)) (List.range t.n) = sm (fun v => cL (X v)) (List.range t.n) := by
  have key : ∀ k q, dep q = k → q < t.n → ∃ par2 dep2 X2, TM.Rooted t.n (adjT t.ties) q par2 dep2 ∧ SV t q par2 X2 ∧
    sm (fun v => cA (X2 v)) (List.range t.n) = sm (fun v => cA (X v)) (List.range t.n) ∧ sm (fun v => cB (X2 v)) (List.range t.n) = sm (fun v => cB (X v)) (List.range t.n) ∧ sm (fun v => cL (X2 v)) (List.range t.n) = sm (fun v => cL (X v)) (List.range t.n) := by
    intro k
    induction k with
    | zero =>
      intro q hd hq
      by_cases e : q = r
      · subst e; exact ⟨par, dep, X, R, h, rfl, rfl, rfl⟩
      · have := (R.up q hq e).2; omega
    | succ k ih =>
      intro q hd hq
      by_cases e : q = r
      · subst e; exact ⟨par, dep, X, R, h, rfl, rfl, rfl⟩
      · obtain ⟨k1, k2⟩ := R.up q hq e
        obtain ⟨pa, da, Xa, Ra, ha, e1, e2, e3⟩ := ih (par q) (by omega) k1
        have hne : q ≠ par q := fun z => by rw [← z] at k2; omega
        have ed := (R.edge q (par q)).mpr ⟨hq, k1, .inl ⟨e, rfl⟩⟩
        have hpa : pa q = par q := by
          rcases ((Ra.edge q (par q)).mp ed).2.2 with z | z
          · exact z.2
          · exact absurd rfl z.1
        obtain ⟨pb, db, Xb, Rb, hb, f1, f2, f3⟩ := sv_turn T.toOkt Ra ha hq hne hpa
        exact ⟨pb, db, Xb, Rb, hb, f1.trans e1, f2.trans e2, f3.trans e3⟩
  obtain ⟨pb, db, Xb, Rb, hb, e1, e2, e3⟩ := key _ q rfl R2.root
  have ex : ∀ v ∈ List.range t.n, X2 v = Xb v := fun v hv => sv_two R2 Rb h2 hb (List.mem_range.mp hv)
  rw [← e1, ← e2, ← e3]
  exact ⟨sm_congr fun v hv => by rw [ex v hv], sm_congr fun v hv => by rw [ex v hv], sm_congr fun v hv => by rw [ex v hv]⟩
end
end MT
namespace MT
open Y
section
variable {t : Tr} {r : Nat} {par dep : Nat → Nat} {D N : Nat → Int}
/-- without the root: the product of what hangs on it -/
theorem left_root (T : Tree t) (R : TM.Rooted t.n (adjT t.ties) r par dep) (h : DN t.n (fun v => -wt t v) (kids t.ties r par) D N) : LW t (inl [r]) = pd D (kids t.ties r par r) := by
  have e := left_on T R h R.root
  rw [bs_root R, Int.one_mul] at e
  rw [← e]
  congr 1
  funext x
  unfold inl on
  rw [way_root R]
/-- without the root and a place that hangs on it -/
theorem left_two (T : Tree t) (R : TM.Rooted t.n (adjT t.ties) r par dep) (h : DN t.n (fun v => -wt t v) (kids t.ties r par) D N) {q : Nat} (hq : q ∈ kids t.ties r par r) {l : List Nat} (hl : ∀ x, x ∈ l ↔ x = r ∨ x = q) : LW t (inl l) = N q * pd D ((kids t.ties r par r).filter fun c => decide (c ≠ q)) := by
  obtain ⟨h1, h2, h3⟩ := (kids_mem R R.root q).mp hq
  have e := left_on T R h h1
  have eN : N q = pd D (kids t.ties r par q) := by
    have z := (dn_dg h).n q h1
    simpa [none'] using z
  rw [bs_up R h1 h2, h3, bs_root R, Int.one_mul, ← eN] at e
  rw [Int.mul_comm, ← e]
  congr 1
  funext x
  unfold inl on
  rw [way_cons R h1 h2, h3, way_root R]
  have : (x ∈ l) = (x ∈ [q, r]) := by
    rw [hl]
    simp
    exact Or.comm
  simp only [this]
end
end MT
namespace Y
open PySem PySem.Spec PyProof.Rows L2
def sp_folded_in (K : PySem.W.Frag) : Sp := fun vs H Q _ => ∃ L tv t, ∃ r : Nat, vs = [tv, .int (r : Int)] ∧ Trk H L ∧ Bt t ∧ Dp K (wo H L) tv (trD t) ∧ r < t.n ∧
  ∀ par dep D N, TM.Rooted t.n (adjT t.ties) r par dep → MT.DN t.n (fun v => -MT.wt t v) (kids t.ties r par) D N → Ret K H L (.list (iD ((List.range t.n).map D))) Q
def sp_side_numbers (K : PySem.W.Frag) : Sp := fun vs H Q _ => ∃ L tv t, ∃ r : Nat, vs = [tv, .int (r : Int)] ∧ Trk H L ∧ Bt t ∧ Dp K (wo H L) tv (trD t) ∧ r < t.n ∧
  ∀ par dep D N, TM.Rooted t.n (adjT t.ties) r par dep → MT.DN t.n (fun v => -MT.wt t v) (kids t.ties r par) D N → Ret K H L (.tuple (iD ((nb t.ties r).map D))) Q
def sp_folds (K : PySem.W.Frag) : Sp := fun vs H Q _ => ∃ L tv t, ∃ r : Nat, vs = [tv, .int (r : Int)] ∧ Trk H L ∧ Bt t ∧ Dp K (wo H L) tv (trD t) ∧ r < t.n ∧
  ∀ par dep D N, TM.Rooted t.n (adjT t.ties) r par dep → MT.DN t.n (fun v => -MT.wt t v) (kids t.ties r par) D N → ∀ v H' ds, Same H H' → Dp K (wo H' L) v (.tuple ds) → ds.length = t.n → (ds[r]? = some .none ∨ (MT.pd D (kids t.ties r par r) ≠ 0 ∧ ds[r]? = some (ratD (rt (-D r) (MT.pd D (kids t.ties r par r)))))) → Q v H'
def sp_law_some_treeN (K : PySem.W.Frag) : Sp := fun vs H Q _ => ∃ L m c cs b, ∃ most : Nat, vs = [.ref m, .int most] ∧ m ∈ L ∧ Trk H L ∧ MAt H m c cs b ∧ 1 ≤ most ∧ most ≤ 16 ∧ b + 200 < 1000000 ∧
  ∀ t v H', Bt t → 0 < t.n → t.n ≤ most → SameM m H H' → MAt H' m c cs (b + 200) → Dp K (wo H' L) v (trD t) → Q v H'
def sp_law_place_right (K : PySem.W.Frag) : Sp := fun vs H Q _ => ∃ tv nv t, ∃ r : Nat, vs = [tv, nv, .int (r : Int)] ∧ Bt t ∧ r < t.n ∧ Dp K (wo H []) tv (trD t) ∧ Dp K (wo H []) nv (llD (nbs t)) ∧ ∀ H', Same H H' → Q (.bl true) H'
theorem kids_root {t : Tr} (r : Nat) (par : Nat → Nat) : kids t.ties r par r = nb t.ties r := by
  unfold kids
  rw [if_pos rfl]
  exact List.filter_eq_self.mpr fun c _ => decide_eq_true (by omega)
theorem lr_all {a b : Int} (hb : b ≠ 0) : lr a b = rt a b := by
  by_cases h : 0 < b
  · exact lr_of h
  · rw [rt_eq (c := -a) (d := -b) hb (by omega) (by grind)]
    unfold lr rt cm
    rw [if_neg h, if_neg (by omega), Int.natAbs_neg, Int.natAbs_neg]
theorem shw_ratN {A D : Int} (hD : D ≠ 0) {c : Nat} (hc : c < 1920) (h1 : A.natAbs ≤ 2 ^ c) (h2 : D.natAbs ≤ 2 ^ c) : Shw 1 (2 * 1923 + 3) (ratD (rt A D)) := by
  obtain ⟨a, b⟩ := rt_le (a := A) hD h1 h2
  refine shw_tup (fun d m => ?_) (by simp)
  simp at m
  rcases m with m | m <;> subst m
  · exact shw_bits a hc
  · exact shw_bits b hc
end Y
namespace MT
open Y
theorem dn_uniq {t : Tr} {r : Nat} {par dep : Nat → Nat} {D N D2 N2 : Nat → Int} (R : TM.Rooted t.n (adjT t.ties) r par dep) (h : DN t.n (fun v => -wt t v) (kids t.ties r par) D N) (h2 : DN t.n (fun v => -wt t v) (kids t.ties r par) D2 N2) : ∀ k v, v < t.n → t.n ≤ dep v + k → D v = D2 v ∧ N v = N2 v
  | 0, v, hv, hd => by have := TM.dep_lt R hv; omega
  | k + 1, v, hv, hd => by
    have kid : ∀ c ∈ kids t.ties r par v, D c = D2 c ∧ N c = N2 c := fun c hc => by
      obtain ⟨h1, h3, h4⟩ := (kids_mem R hv c).mp hc
      have := (R.up c h1 h3).2
      rw [h4] at this
      exact dn_uniq R h h2 k c h1 (by omega)
    have e1 := h v hv
    have e2 := h2 v hv
    rw [fk_congr _ kid, ← e2] at e1
    exact ⟨congrArg Prod.fst e1, congrArg Prod.snd e1⟩
theorem dn_two {t : Tr} {r : Nat} {par dep par2 dep2 : Nat → Nat} {D N D2 N2 : Nat → Int} (R : TM.Rooted t.n (adjT t.ties) r par dep) (R2 : TM.Rooted t.n (adjT t.ties) r par2 dep2) (h : DN t.n (fun v => -wt t v) (kids t.ties r par) D N) (h2 : DN t.n (fun v => -wt t v) (kids t.ties r par2) D2 N2) {v : Nat} (hv : v < t.n) : D v = D2 v ∧ N v = N2 v := by
  have h3 := dg_dn (dg_eq R2 R (dn_dg h2))
  exact dn_uniq R h h3 _ v hv (Nat.le_add_left _ _)
end MT
namespace Y
open PySem PySem.Spec PyProof.Rows L2
def sp_side_numbersC (K : PySem.W.Frag) : Sp := fun vs H Q _ => ∃ L tv t par dep D N, ∃ r : Nat, vs = [tv, .int (r : Int)] ∧ Trk H L ∧ Bt t ∧ Dp K (wo H L) tv (trD t) ∧ r < t.n ∧
  TM.Rooted t.n (adjT t.ties) r par dep ∧ MT.DN t.n (fun v => -MT.wt t v) (kids t.ties r par) D N ∧ Ret K H L (.tuple (iD ((nb t.ties r).map D))) Q
def sp_foldsC (K : PySem.W.Frag) : Sp := fun vs H Q _ => ∃ L tv t par dep D N, ∃ r : Nat, vs = [tv, .int (r : Int)] ∧ Trk H L ∧ Bt t ∧ Dp K (wo H L) tv (trD t) ∧ r < t.n ∧
  TM.Rooted t.n (adjT t.ties) r par dep ∧ MT.DN t.n (fun v => -MT.wt t v) (kids t.ties r par) D N ∧ ∀ v H' ds, Same H H' → Dp K (wo H' L) v (.tuple ds) → ds.length = t.n → (ds[r]? = some .none ∨ (MT.pd D (nb t.ties r) ≠ 0 ∧ ds[r]? = some (ratD (rt (-D r) (MT.pd D (nb t.ties r)))))) → Q v H'
end Y
namespace MT
open Y
theorem pd_filter (f : Nat → Int) (q : Nat → Bool) : ∀ l : List Nat, pd f (l.filter q) = pd (fun x => if q x = true then f x else 1) l
  | [] => rfl
  | x :: l => by
    rw [pd_cons, ← pd_filter f q l]
    cases h : q x
    · rw [List.filter_cons_of_neg (by simp [h])]; simp
    · rw [List.filter_cons_of_pos h, pd_cons]; simp
theorem pd_map (f : Nat → Int) (h : Nat → Nat) (l : List Nat) : pd f (l.map h) = pd (fun x => f (h x)) l := by
  unfold pd
  rw [List.map_map]
  rfl
/-- all but one: told by spots -/
theorem pd_spot {D : Nat → Int} {ks : List Nat} (nd : ks.Nodup) {k : Nat} (hk : k < ks.length) : pd (fun j => if j = k then 1 else D (ks.getD j 0)) (List.range ks.length) = pd D (ks.filter fun c => decide (c ≠ ks.getD k 0)) := by
  have e : ks = (List.range ks.length).map fun j => ks.getD j 0 := by
    refine List.ext_getElem (by simp) fun i h1 h2 => ?_
    simp at h1 h2
    simp [h1]
  have e2 : pd D (ks.filter fun c => decide (c ≠ ks.getD k 0)) = pd (fun j => if decide (ks.getD j 0 ≠ ks.getD k 0) = true then D (ks.getD j 0) else 1) (List.range ks.length) := by
    rw [pd_filter]
    conv => lhs; arg 2; rw [e]
    rw [pd_map]
  rw [e2]
  refine pd_congr fun j hj => ?_
  have hj := List.mem_range.mp hj
  by_cases z : j = k
  · subst z; simp
  · rw [if_neg z, if_pos]
    refine decide_eq_true fun y => z ?_
    have e1 := at_ix nd hj
    rw [y, at_ix nd hk] at e1
    exact e1.symm
end MT
namespace Y
/-! ### by hand -/
theorem leaf_S {D N : Nat → Int} {r : Nat} {par : Nat → Nat} (h : MT.DN tS.n (fun v => -MT.wt tS v) (kids tS.ties r par) D N) {v : Nat} (hv : v < tS.n) (k : kids tS.ties r par v = []) : D v = -MT.wt tS v ∧ N v = 1 := by
  have e := h v hv
  rw [k] at e
  exact ⟨congrArg Prod.fst e, congrArg Prod.snd e⟩
theorem sides_S0 : ∃ D N, MT.DN tS.n (fun v => -MT.wt tS v) (kids tS.ties 0 fun _ => 0) D N ∧ (nb tS.ties 0).map D = [2, 3, 7] ∧ MT.Dt tS = 1 := by
  obtain ⟨D, N, h, _, hd⟩ := dn_all bt_S rooted_S
  have l1 := leaf_S h (v := 1) (by decide) (by decide)
  have l2 := leaf_S h (v := 2) (by decide) (by decide)
  have l3 := leaf_S h (v := 3) (by decide) (by decide)
  have w1 : -MT.wt tS 1 = 2 := rfl
  have w2 : -MT.wt tS 2 = 3 := rfl
  have w3 : -MT.wt tS 3 = 7 := rfl
  rw [w1] at l1
  rw [w2] at l2
  rw [w3] at l3
  refine ⟨D, N, h, ?_, ?_⟩
  · have n0 : nb tS.ties 0 = [1, 2, 3] := by decide
    rw [n0]
    show [D 1, D 2, D 3] = _
    rw [l1.1, l2.1, l3.1]
  · have e := congrArg Prod.fst (h 0 (by decide))
    have k : kids tS.ties 0 (fun _ => 0) 0 = [1, 2, 3] := by decide
    rw [k] at e
    have e : D 0 = (((-MT.wt tS 0) * D 1 - 1 * N 1) * D 2 - (1 * D 1) * N 2) * D 3 - (1 * D 1 * D 2) * N 3 := e
    have w0 : MT.wt tS 0 = -1 := rfl
    rw [← hd, e, l1.1, l1.2, l2.1, l2.2, l3.1, l3.2, w0]
    decide
def par2 (v : Nat) : Nat := if v = 0 then 2 else 0
def dep2 (v : Nat) : Nat := if v = 2 then 0 else if v = 0 then 1 else 2
theorem rooted_S2 : TM.Rooted tS.n (adjT tS.ties) 2 par2 dep2 := by
  have n4 : tS.n = 4 := rfl
  refine ⟨by decide, rfl, ?_, fun u v => ?_⟩
  · rw [n4]; decide
  · rw [n4]
    have all : ((List.range 4).all fun u => (List.range 4).all fun v => decide ((u, v) ∈ tS.ties ∨ (v, u) ∈ tS.ties) == decide (u ≠ 2 ∧ par2 u = v ∨ v ≠ 2 ∧ par2 v = u)) = true := by decide
    have key : ∀ u, u < 4 → ∀ v, v < 4 → (((u, v) ∈ tS.ties ∨ (v, u) ∈ tS.ties) ↔ (u ≠ 2 ∧ par2 u = v ∨ v ≠ 2 ∧ par2 v = u)) := fun u hu v hv => by
      have h1 := List.all_eq_true.mp (List.all_eq_true.mp all u (List.mem_range.mpr hu)) v (List.mem_range.mpr hv)
      have h2 := of_decide_eq_true (p := decide ((u, v) ∈ tS.ties ∨ (v, u) ∈ tS.ties) = decide (u ≠ 2 ∧ par2 u = v ∨ v ≠ 2 ∧ par2 v = u)) (by simpa using h1)
      exact decide_eq_decide.mp h2
    constructor
    · intro h
      have lt : u < 4 ∧ v < 4 := by
        rcases h with h | h
        · have := bt_S.inb _ h
          rw [n4] at this
          simp only at this
          omega
        · have := bt_S.inb _ h
          rw [n4] at this
          simp only at this
          omega
      exact ⟨lt.1, lt.2, (key u lt.1 v lt.2).mp h⟩
    · rintro ⟨h1, h2, h3⟩
      exact (key u h1 v h2).mpr h3
theorem sides_S2 : ∃ D N, MT.DN tS.n (fun v => -MT.wt tS v) (kids tS.ties 2 par2) D N ∧ (nb tS.ties 2).map D = [5] := by
  obtain ⟨D, N, h, _⟩ := dn_all bt_S rooted_S2
  have l1 := leaf_S h (v := 1) (by decide) (by decide)
  have l3 := leaf_S h (v := 3) (by decide) (by decide)
  have w1 : -MT.wt tS 1 = 2 := rfl
  have w3 : -MT.wt tS 3 = 7 := rfl
  rw [w1] at l1
  rw [w3] at l3
  refine ⟨D, N, h, ?_⟩
  have n2 : nb tS.ties 2 = [0] := by decide
  rw [n2]
  show [D 0] = _
  have e := congrArg Prod.fst (h 0 (by decide))
  have k : kids tS.ties 2 par2 0 = [1, 3] := by decide
  rw [k] at e
  have e : D 0 = ((-MT.wt tS 0) * D 1 - 1 * N 1) * D 3 - (1 * D 1) * N 3 := e
  have w0 : MT.wt tS 0 = -1 := rfl
  rw [e, l1.1, l1.2, l3.1, l3.2, w0]
  decide
def t4 : Tr := ⟨[-4], []⟩
theorem bt_4 : Bt t4 := by
  refine ⟨⟨⟨by decide, by decide, (fun p h => nomatch h), List.Pairwise.nil⟩, TM.isTree_one fun u v a => by unfold adjT t4 at a; simp at a⟩, fun x hx => ?_⟩
  have hx : x ∈ [(-4 : Int)] := hx
  simp at hx
  omega
theorem sides_4 : ∃ par dep D N, TM.Rooted t4.n (adjT t4.ties) 0 par dep ∧ MT.DN t4.n (fun v => -MT.wt t4 v) (kids t4.ties 0 par) D N ∧ (nb t4.ties 0).map D = [] := by
  obtain ⟨par, dep, R⟩ := bt_4.tree 0 (by decide)
  obtain ⟨D, N, h, _⟩ := dn_all bt_4 R
  exact ⟨par, dep, D, N, R, h, rfl⟩
/-- a place with leaves around it -/
theorem star_shape (n : Nat) : Shape (n + 1) ((List.range n).map fun k => (0, k + 1)) := by
  refine ⟨by simp, fun k p hk => ?_⟩
  rw [List.getElem?_map] at hk
  obtain ⟨j, hj, e⟩ := Option.map_eq_some_iff.mp hk
  have : j = k := by
    rw [List.getElem?_eq_some_iff] at hj
    obtain ⟨h1, h2⟩ := hj
    rw [List.getElem_range] at h2
    exact h2.symm
  subst this
  rw [← e]
  exact ⟨rfl, by show 0 < j + 1; omega⟩
end Y
namespace MT
open Y
/-! ### what is done so far -/
section
variable {T : List Nat} {v : Nat}
theorem rs_done (f : Nat → Rat) (hv : v ∉ T) : ∀ {l : List Nat}, l.Nodup → rs (fun c => if c ∈ T then 0 else f c) l = rs (fun c => if c ∈ T ++ [v] then 0 else f c) l + (if v ∈ l then f v else 0)
  | [], _ => by rw [rs_nil, rs_nil, if_neg (by simp)]; grind
  | x :: l, nd => by
    have nd' := List.nodup_cons.mp nd
    rw [rs_cons, rs_cons, rs_done f hv nd'.2]
    by_cases e : x = v
    · subst e
      rw [if_neg nd'.1, if_neg hv, if_pos (show x ∈ T ++ [x] by simp), if_pos (show x ∈ x :: l by simp)]
      grind
    · have e2 : (x ∈ T ++ [v]) = (x ∈ T) := by simp [e]
      have e3 : (v ∈ x :: l) = (v ∈ l) := by simp [Ne.symm e]
      simp only [e2, e3]
      grind
theorem sm_done (f : Nat → Int) (hv : v ∉ T) : ∀ {l : List Nat}, l.Nodup → sm (fun c => if c ∈ T then 0 else f c) l = sm (fun c => if c ∈ T ++ [v] then 0 else f c) l + (if v ∈ l then f v else 0)
  | [], _ => by rw [sm_nil, sm_nil, if_neg (by simp)]; omega
  | x :: l, nd => by
    have nd' := List.nodup_cons.mp nd
    rw [sm_cons, sm_cons, sm_done f hv nd'.2]
    by_cases e : x = v
    · subst e
      rw [if_neg nd'.1, if_neg hv, if_pos (show x ∈ T ++ [x] by simp), if_pos (show x ∈ x :: l by simp)]
      omega
    · have e2 : (x ∈ T ++ [v]) = (x ∈ T) := by simp [e]
      have e3 : (v ∈ x :: l) = (v ∈ l) := by simp [Ne.symm e]
      simp only [e2, e3]
      omega
end
theorem Bd.drop {C : Nat} {S : List Nat} {s : WB} {v : Nat} (b : Bd C (S ++ [v]) s) : Bd C S s := by
  obtain ⟨K, h1, h2⟩ := b
  refine ⟨K, fun u hu => h1 u (by simp [hu]), ?_⟩
  rw [List.map_append, List.sum_append] at h2
  omega
/-- the states of the loop: some places are left out -/
def sq (sk : Nat → Bool) (r : Nat) (par : Nat → Nat) (S : List Nat) (s : WB) : Nat → WB
  | 0 => s
  | i + 1 => match S[S.length - 1 - i]? with
    | some v => if sk v then sq sk r par S s i else step none' r par v (sq sk r par S s i)
    | none => sq sk r par S s i
section
variable {sk : Nat → Bool} {r : Nat} {par : Nat → Nat} {S : List Nat} {s : WB}
theorem sq_succ {i v : Nat} (h : S[S.length - 1 - i]? = some v) : sq sk r par S s (i + 1) = if sk v then sq sk r par S s i else step none' r par v (sq sk r par S s i) := by
  rw [sq, h]
theorem sq_bd {C : Nat} (G : Grow r par S) (b : Bd C S s) : ∀ i, i < S.length → Bd C (S.take (S.length - i)) (sq sk r par S s i)
  | 0, _ => by rw [sq]; simpa using b
  | i + 1, hi => by
    have q := sq_bd G b i (by omega)
    obtain ⟨v, hv⟩ : ∃ v, S[S.length - 1 - i]? = some v := ⟨_, List.getElem?_eq_getElem (by omega)⟩
    obtain ⟨e, ni, nr, er⟩ := take_last G (by omega) hv
    obtain ⟨k1, k2⟩ := nr hi
    rw [sq_succ hv]
    rw [e] at q
    have g1 := grow_take G (i + 1) hi
    split
    · exact q.drop
    · exact q.step g1.nd k2 ni k1
end
/-- the value of a state at a place -/
def vl (s : WB) (u : Nat) : Rat := (-(s.1 u) : Int) / (s.2 u : Int)
section
variable {t : Tr} {r : Nat} {par dep : Nat → Nat} {S : List Nat} {X : Nat → Option Rat}
/-- left out: what is zero, and what had a zero folded in -/
noncomputable def skp (X : Nat → Option Rat) (v : Nat) : Bool := decide (X v = none ∨ X v = some 0)
theorem skp_iv {v : Nat} (h : skp X v = true) : iv (X v) = 0 := by
  rcases of_decide_eq_true h with h | h
  · rw [h]; rfl
  · rw [h]; show (0 : Rat)⁻¹ = 0; grind
noncomputable def st (t : Tr) (r : Nat) (par : Nat → Nat) (S : List Nat) (X : Nat → Option Rat) (i : Nat) : WB := sq (skp X) r par S (s0 t none') i
theorem kids_done (O : Okt t) (R : TM.Rooted t.n (adjT t.ties) r par dep) (G : Grow r par S) (hS : ∀ v, v ∈ S ↔ v < t.n) {i v : Nat} (hi : i < S.length) (hv : S[S.length - 1 - i]? = some v) : ∀ c ∈ kids t.ties r par v, c ∉ S.take (S.length - i) := by
  intro c hc z
  have hvn := (hS v).mp (List.mem_of_getElem? hv)
  obtain ⟨e, ni, nr, er⟩ := take_last G hi hv
  obtain ⟨c1, c2, c3⟩ := (kids_mem R hvn c).mp hc
  have g1 := grow_take G i hi
  rw [e] at g1 z
  have pc := g1.par c z c2
  rw [c3] at pc
  rcases List.mem_append.mp z with m | m
  · by_cases hl : i + 1 < S.length
    · have g2 := grow_take G (i + 1) hl
      have := (g2.par c m c2).1
      rw [c3] at this
      exact ni this
    · rw [show S.length - (i + 1) = 0 by omega] at m
      simp at m
  · simp at m
    exact pc.2 m.symm
theorem st_val (O : Okt t) (R : TM.Rooted t.n (adjT t.ties) r par dep) (G : Grow r par S) (hS : ∀ v, v ∈ S ↔ v < t.n) (h : SV t r par X) : ∀ i, i ≤ S.length → ∀ u, u < t.n →
    (st t r par S X i).2 u ≠ 0 ∧ vl (st t r par S X i) u = wt t u - rs (fun c => if c ∈ S.take (S.length - i) then 0 else iv (X c)) (kids t.ties r par u)
  | 0, _, u, hu => by
    refine ⟨by show (1 : Int) ≠ 0; decide, ?_⟩
    have e1 : vl (st t r par S X 0) u = wt t u := by
      show ((-(if none' u = true then 1 else -wt t u) : Int) : Rat) / ((1 : Int) : Rat) = _
      rw [if_neg (by simp [none']), Int.neg_neg]
      grind
    have e2 : rs (fun c => if c ∈ S.take (S.length - 0) then 0 else iv (X c)) (kids t.ties r par u) = 0 := by
      rw [rs_congr (g := fun _ => 0) fun c hc => ?_]
      · have : ∀ l : List Nat, rs (fun _ => 0) l = 0 := fun l => by
          induction l with
          | nil => rfl
          | cons x l ih => rw [rs_cons, ih]; grind
        exact this _
      · rw [Nat.sub_zero, List.take_length, if_pos ((hS c).mpr ((kids_mem R hu c).mp hc).1)]
    rw [e1, e2]
    grind
  | i + 1, hi, u, hu => by
    have ih := st_val O R G hS h i (by omega)
    obtain ⟨v, hv⟩ : ∃ v, S[S.length - 1 - i]? = some v := ⟨_, List.getElem?_eq_getElem (by omega)⟩
    obtain ⟨e, ni, nr, er⟩ := take_last G (by omega) hv
    have hvn := (hS v).mp (List.mem_of_getElem? hv)
    have es : st t r par S X (i + 1) = if skp X v then st t r par S X i else step none' r par v (st t r par S X i) := sq_succ hv
    obtain ⟨f, hf⟩ : ∃ f : Nat → Rat, f = fun c => iv (X c) := ⟨_, rfl⟩
    have go := rs_done f ni (kids_nodup O r par u)
    rw [← e, hf] at go
    obtain ⟨d0, d1⟩ := ih u hu
    have km : (v ∈ kids t.ties r par u) ↔ (v ≠ r ∧ par v = u) := by
      rw [kids_mem R hu v]
      exact ⟨fun z => z.2, fun z => ⟨hvn, z⟩⟩
    by_cases sk : skp X v = true
    · rw [es, if_pos sk]
      refine ⟨d0, ?_⟩
      rw [d1, go]
      have : (if v ∈ kids t.ties r par u then iv (X v) else 0) = 0 := by rw [skp_iv sk]; split <;> rfl
      rw [this]
      grind
    · rw [es, if_neg sk]
      by_cases ev : v = r
      · have e1 : step none' r par v (st t r par S X i) = st t r par S X i := by unfold step; rw [if_pos ev]
        rw [e1]
        refine ⟨d0, ?_⟩
        rw [d1, go, if_neg fun z => (km.mp z).1 ev]
        grind
      · obtain ⟨v0, v1⟩ := ih v hvn
        have eX : X v = some (vl (st t r par S X i) v) := by
          rw [h v hvn]
          have nz : ¬ X v = none := fun z => sk (decide_eq_true (.inl z))
          have z1 : ∀ c ∈ kids t.ties r par v, X c ≠ some 0 := fun c m z => nz (by rw [h v hvn, sv_none ⟨c, m, z⟩])
          rw [sv_some z1, v1, rs_congr (f := fun c => if c ∈ S.take (S.length - i) then 0 else iv (X c)) (g := fun c => iv (X c)) fun c hc => if_neg (kids_done O R G hS (by omega) hv c hc)]
        have nz : vl (st t r par S X i) v ≠ 0 := fun z => sk (decide_eq_true (.inr (by rw [eX, z])))
        have w0 : (st t r par S X i).1 v ≠ 0 := fun z => nz (by unfold vl; rw [z]; grind)
        have e1 : step none' r par v (st t r par S X i) = (up (st t r par S X i).1 (par v) ((st t r par S X i).1 (par v) * (st t r par S X i).1 v - (st t r par S X i).2 (par v) * (st t r par S X i).2 v), up (st t r par S X i).2 (par v) ((st t r par S X i).2 (par v) * (st t r par S X i).1 v)) := by
          unfold step; rw [if_neg ev]; simp [none']
        rw [e1]
        by_cases eu : u = par v
        · subst eu
          rw [go, if_pos (km.mpr ⟨ev, rfl⟩)]
          unfold vl at d1 ⊢
          simp only [up, if_true]
          refine ⟨Int.mul_ne_zero d0 w0, ?_⟩
          have ei : iv (X v) = -((st t r par S X i).2 v : Rat) / ((st t r par S X i).1 v : Rat) := by
            rw [eX]
            show (vl _ v)⁻¹ = _
            unfold vl
            have q1 : ((st t r par S X i).1 v : Rat) ≠ 0 := by exact_mod_cast w0
            have q2 : ((st t r par S X i).2 v : Rat) ≠ 0 := by exact_mod_cast v0
            rw [Rat.intCast_neg]
            grind
          have d2 : rs (fun c => if c ∈ S.take (S.length - (i + 1)) then 0 else iv (X c)) (kids t.ties r par (par v)) = rs (fun c => if c ∈ S.take (S.length - i) then 0 else iv (X c)) (kids t.ties r par (par v)) + iv (X v) := by
            rw [go, if_pos (km.mpr ⟨ev, rfl⟩)]
          have q1 : ((st t r par S X i).1 v : Rat) ≠ 0 := by exact_mod_cast w0
          have q3 : ((st t r par S X i).2 (par v) : Rat) ≠ 0 := by exact_mod_cast d0
          rw [ei]
          have : (wt t (par v) : Rat) - (rs (fun c => if c ∈ S.take (S.length - i) then 0 else iv (X c)) (kids t.ties r par (par v)) + -((st t r par S X i).2 v : Rat) / ((st t r par S X i).1 v : Rat)) = ((-(st t r par S X i).1 (par v) : Int) : Rat) / ((st t r par S X i).2 (par v) : Rat) + ((st t r par S X i).2 v : Rat) / ((st t r par S X i).1 v : Rat) := by
            rw [d1]; grind
          rw [this]
          simp only [Rat.intCast_neg, Rat.intCast_sub, Rat.intCast_mul]
          grind
        · rw [go, if_neg fun z => eu (km.mp z).2.symm]
          have : vl (up (st t r par S X i).1 (par v) ((st t r par S X i).1 (par v) * (st t r par S X i).1 v - (st t r par S X i).2 (par v) * (st t r par S X i).2 v), up (st t r par S X i).2 (par v) ((st t r par S X i).2 (par v) * (st t r par S X i).1 v)) u = vl (st t r par S X i) u := by
            unfold vl
            simp only [up, if_neg eu]
          refine ⟨by simp only [up, if_neg eu]; exact d0, ?_⟩
          rw [this, d1]
          grind
end
end MT
namespace MT
open Y
section
variable {t : Tr} {r : Nat} {par dep : Nat → Nat} {S : List Nat} {X : Nat → Option Rat}
def zc (X : Nat → Option Rat) (c : Nat) : Int := if X c = some 0 then 1 else 0
theorem zc_nn (X : Nat → Option Rat) (c : Nat) : 0 ≤ zc X c := by unfold zc; split <;> omega
def nz (t : Tr) (r : Nat) (par : Nat → Nat) (X : Nat → Option Rat) (v : Nat) : Int := sm (zc X) (kids t.ties r par v)
def lev (t : Tr) (r : Nat) (par : Nat → Nat) (X : Nat → Option Rat) (v : Nat) : Int := if X v = none then nz t r par X v - 1 else if X v = some 0 ∧ v = r then 1 else 0
theorem nz_none (h : SV t r par X) {v : Nat} (hv : v < t.n) : 0 ≤ nz t r par X v ∧ (0 < nz t r par X v ↔ X v = none) := by
  have a := sm_nonneg (f := zc X) (l := kids t.ties r par v) fun i _ => zc_nn X i
  refine ⟨a.1, fun hp => ?_, fun hn => ?_⟩
  · rw [h v hv]
    refine sv_none ?_
    by_cases z : ∃ c ∈ kids t.ties r par v, X c = some 0
    · exact z
    · have : nz t r par X v = 0 := sm_zero fun c hc => if_neg fun e => z ⟨c, hc, e⟩
      omega
  · have : nz t r par X v ≠ 0 := fun z => by
      have b := a.2 z
      rw [h v hv] at hn
      by_cases y : ∃ c ∈ kids t.ties r par v, X c = some 0
      · obtain ⟨c, m, e⟩ := y
        have := b c m
        unfold zc at this
        rw [if_pos e] at this
        omega
      · rw [sv_some fun c m e => y ⟨c, m, e⟩] at hn
        cases hn
    have := a.1
    unfold nz at *
    omega
theorem lev_sum (T : Tree t) (R : TM.Rooted t.n (adjT t.ties) r par dep) (h : SV t r par X) : sm (lev t r par X) (List.range t.n) = sm (fun v => cL (X v)) (List.range t.n) := by
  have ks := kid_sum T R (fun c _ => zc X c)
  have e1 : sm (lev t r par X) (List.range t.n) = sm (fun v => (sm (fun c => zc X c) (kids t.ties r par v) + (if v = r then zc X v else 0)) + (if X v = none then -1 else 0)) (List.range t.n) := by
    refine sm_congr fun v hv => ?_
    have hv := List.mem_range.mp hv
    obtain ⟨a, b⟩ := nz_none h hv
    have en : sm (fun c => zc X c) (kids t.ties r par v) = nz t r par X v := rfl
    rw [en]
    unfold lev zc
    by_cases x : X v = none
    · rw [if_pos x, if_pos x, x]
      simp
      omega
    · have : nz t r par X v = 0 := by
        have : ¬ 0 < nz t r par X v := fun z => x (b.mp z)
        omega
      rw [if_neg x, if_neg x, this]
      by_cases y : v = r
      · rw [if_pos y]
        by_cases z : X v = some 0
        · rw [if_pos ⟨z, y⟩, if_pos z]; rfl
        · rw [if_neg fun q => z q.1, if_neg z]; rfl
      · rw [if_neg fun q => y q.2, if_neg y]; rfl
  rw [e1, sm_add, sm_add, ks, ← sm_add, ← sm_add]
  refine sm_congr fun v hv => ?_
  unfold zc
  cases x : X v with
  | none => simp [cL]
  | some q =>
    by_cases z : q = 0
    · subst z
      by_cases y : v = r <;> simp [cL, y]
    · by_cases y : v = r <;> simp [cL, z]
/-! ### counts on the way -/
def acc (n : Nat) (S : List Nat) (f : Nat → Int) (i : Nat) : Int := sm (fun v => if v ∈ S.take (S.length - i) then 0 else f v) (List.range n)
theorem acc_zero {n : Nat} (hS : ∀ v, v ∈ S ↔ v < n) (f : Nat → Int) : acc n S f 0 = 0 := sm_zero fun v hv => by rw [Nat.sub_zero, List.take_length, if_pos ((hS v).mpr (List.mem_range.mp hv))]
theorem acc_end (n : Nat) (S : List Nat) (f : Nat → Int) : acc n S f S.length = sm f (List.range n) := sm_congr fun v _ => by simp
theorem acc_succ {n : Nat} (G : Grow r par S) (hS : ∀ v, v ∈ S ↔ v < n) (f : Nat → Int) {i v : Nat} (hi : i < S.length) (hv : S[S.length - 1 - i]? = some v) : acc n S f (i + 1) = acc n S f i + f v := by
  obtain ⟨e, ni, nr, er⟩ := take_last G hi hv
  have := sm_done f ni (l := List.range n) List.nodup_range
  unfold acc
  rw [this, ← e, if_pos (List.mem_range.mpr ((hS v).mp (List.mem_of_getElem? hv)))]
def nzd (t : Tr) (r : Nat) (par : Nat → Nat) (S : List Nat) (X : Nat → Option Rat) (i u : Nat) : Int := sm (fun c => if c ∈ S.take (S.length - i) then 0 else zc X c) (kids t.ties r par u)
theorem nzd_zero (R : TM.Rooted t.n (adjT t.ties) r par dep) (hS : ∀ v, v ∈ S ↔ v < t.n) {u : Nat} (hu : u < t.n) : nzd t r par S X 0 u = 0 := sm_zero fun c hc => by rw [Nat.sub_zero, List.take_length, if_pos ((hS c).mpr ((kids_mem R hu c).mp hc).1)]
theorem nzd_own (O : Okt t) (R : TM.Rooted t.n (adjT t.ties) r par dep) (G : Grow r par S) (hS : ∀ v, v ∈ S ↔ v < t.n) {i v : Nat} (hi : i < S.length) (hv : S[S.length - 1 - i]? = some v) : nzd t r par S X i v = nz t r par X v := sm_congr fun c hc => if_neg (kids_done O R G hS hi hv c hc)
theorem nzd_succ (O : Okt t) (R : TM.Rooted t.n (adjT t.ties) r par dep) (G : Grow r par S) (hS : ∀ v, v ∈ S ↔ v < t.n) {i v u : Nat} (hi : i < S.length) (hv : S[S.length - 1 - i]? = some v) (hu : u < t.n) : nzd t r par S X (i + 1) u = nzd t r par S X i u + if v ≠ r ∧ par v = u then zc X v else 0 := by
  obtain ⟨e, ni, nr, er⟩ := take_last G hi hv
  have := sm_done (zc X) ni (l := kids t.ties r par u) (kids_nodup O r par u)
  have hvn := (hS v).mp (List.mem_of_getElem? hv)
  have km : (v ∈ kids t.ties r par u) = (v ≠ r ∧ par v = u) := propext ⟨fun m => ((kids_mem R hu v).mp m).2, fun m => (kids_mem R hu v).mpr ⟨hvn, m⟩⟩
  unfold nzd
  rw [this, ← e]
  simp only [km]
theorem st_own (O : Okt t) (R : TM.Rooted t.n (adjT t.ties) r par dep) (G : Grow r par S) (hS : ∀ v, v ∈ S ↔ v < t.n) (h : SV t r par X) {i v : Nat} (hi : i < S.length) (hv : S[S.length - 1 - i]? = some v) (ne : X v ≠ none) : X v = some (vl (st t r par S X i) v) := by
  have hvn := (hS v).mp (List.mem_of_getElem? hv)
  obtain ⟨v0, v1⟩ := st_val O R G hS h i (by omega) v hvn
  rw [h v hvn]
  have z1 : ∀ c ∈ kids t.ties r par v, X c ≠ some 0 := fun c m z => ne (by rw [h v hvn, sv_none ⟨c, m, z⟩])
  rw [sv_some z1, v1, rs_congr (f := fun c => if c ∈ S.take (S.length - i) then 0 else iv (X c)) (g := fun c => iv (X c)) fun c hc => if_neg (kids_done O R G hS hi hv c hc)]
/-- the sign of lowest terms -/
theorem rt_sg {a b : Int} (hb : b ≠ 0) : ((rt a b).1 < 0 ↔ (a : Rat) / b < 0) ∧ (0 < (rt a b).1 ↔ (0 : Rat) < (a : Rat) / b) ∧ ((rt a b).1 = 0 ↔ (a : Rat) / b = 0) := by
  have k := rt_ok (a := a) hb
  obtain ⟨l, ea, eb⟩ := k.ex
  have q := k.pos
  obtain ⟨x, hx⟩ : ∃ x, x = (rt a b).1 := ⟨_, rfl⟩
  obtain ⟨y, hy⟩ : ∃ y, y = (rt a b).2 := ⟨_, rfl⟩
  rw [← hx] at ea ⊢
  rw [← hy] at eb q
  have l0 : (l : Rat) ≠ 0 := by
    have : l ≠ 0 := fun z => hb (by rw [eb, z, Int.mul_zero])
    exact_mod_cast this
  have y0 : (0 : Rat) < (y : Rat) := by exact_mod_cast q
  have e : (a : Rat) / b = x * (y : Rat)⁻¹ := by
    rw [ea, eb]
    simp only [Rat.intCast_mul]
    have : (y : Rat) ≠ 0 := by grind
    grind
  rw [e]
  obtain ⟨z1, z2, z3⟩ := (r_mul (x : Rat) (y : Rat)⁻¹).1 (Rat.inv_pos.mpr y0)
  rw [z1, z2, z3]
  refine ⟨?_, ?_, ?_⟩
  · exact_mod_cast Iff.rfl
  · exact_mod_cast Iff.rfl
  · exact_mod_cast Iff.rfl
/-! ### folds that stop -/
def FOK (n : Nat) (ks : Nat → List Nat) (D : Nat → Int) (ok : Nat → Bool) : Prop := ∀ v, v < n → (ok v = true ↔ ∀ c ∈ ks v, ok c = true ∧ D c ≠ 0)
theorem fok_made (R : TM.Rooted t.n (adjT t.ties) r par dep) (D : Nat → Int) : ∃ ok, FOK t.n (kids t.ties r par) D ok := by
  let F : Nat → Nat → Bool := fun k => Nat.rec (fun _ => true) (fun _ f v => (kids t.ties r par v).all fun c => f c && decide (D c ≠ 0)) k
  refine ⟨fun v => F (t.n - dep v) v, fun v hv => ?_⟩
  have hd := TM.dep_lt R hv
  obtain ⟨k, e⟩ : ∃ k, t.n - dep v = k + 1 := ⟨t.n - dep v - 1, by omega⟩
  show F (t.n - dep v) v = true ↔ ∀ c ∈ kids t.ties r par v, F (t.n - dep c) c = true ∧ D c ≠ 0
  rw [e]
  show ((kids t.ties r par v).all fun c => F k c && decide (D c ≠ 0)) = true ↔ _
  rw [List.all_eq_true]
  refine forall_congr' fun c => forall_congr' fun hc => ?_
  obtain ⟨h1, h2, h3⟩ := (kids_mem R hv c).mp hc
  have := (R.up c h1 h2).2
  rw [h3] at this
  rw [show t.n - dep c = k by omega]
  simp
theorem fk_val {D N : Nat → Int} : ∀ (l : List Nat) (s : Int × Int), (∀ c ∈ l, D c ≠ 0) → s.2 ≠ 0 → (l.foldl (kf D N) s).2 ≠ 0 ∧ ((l.foldl (kf D N) s).1 : Rat) / ((l.foldl (kf D N) s).2 : Rat) = (s.1 : Rat) / (s.2 : Rat) - rs (fun c => (N c : Rat) / (D c : Rat)) l
  | [], s, _, h => ⟨h, by rw [rs_nil]; show (s.1 : Rat) / (s.2 : Rat) = _; grind⟩
  | c :: l, s, hl, h => by
    have hc := hl c (by simp)
    obtain ⟨a, b⟩ := fk_val l (kf D N s c) (fun d m => hl d (by simp [m])) (Int.mul_ne_zero h hc)
    rw [List.foldl_cons]
    refine ⟨a, ?_⟩
    rw [b, rs_cons]
    have q1 : (D c : Rat) ≠ 0 := by exact_mod_cast hc
    have q2 : (s.2 : Rat) ≠ 0 := by exact_mod_cast h
    have : ((kf D N s c).1 : Rat) / ((kf D N s c).2 : Rat) = (s.1 : Rat) / (s.2 : Rat) - (N c : Rat) / (D c : Rat) := by
      show ((s.1 * D c - s.2 * N c : Int) : Rat) / ((s.2 * D c : Int) : Rat) = _
      simp only [Rat.intCast_sub, Rat.intCast_mul]
      grind
    rw [this]
    grind
variable {D N : Nat → Int} {ok : Nat → Bool}
theorem ok_val (R : TM.Rooted t.n (adjT t.ties) r par dep) (hDN : DN t.n (fun v => -wt t v) (kids t.ties r par) D N) (h : SV t r par X) (ho : FOK t.n (kids t.ties r par) D ok) : ∀ k v, v < t.n → t.n ≤ dep v + k → ok v = true → X v = some (((-D v : Int) : Rat) / (N v : Rat)) ∧ N v ≠ 0
  | 0, v, hv, hd, _ => by have := TM.dep_lt R hv; omega
  | k + 1, v, hv, hd, o => by
    have kid : ∀ c ∈ kids t.ties r par v, X c = some (((-D c : Int) : Rat) / (N c : Rat)) ∧ N c ≠ 0 ∧ D c ≠ 0 := fun c hc => by
      obtain ⟨h1, h3, h4⟩ := (kids_mem R hv c).mp hc
      have := (R.up c h1 h3).2
      rw [h4] at this
      obtain ⟨o1, o2⟩ := (ho v hv).mp o c hc
      obtain ⟨a, b⟩ := ok_val R hDN h ho k c h1 (by omega) o1
      exact ⟨a, b, o2⟩
    have e := hDN v hv
    obtain ⟨a, b⟩ := fk_val (D := D) (N := N) (kids t.ties r par v) (-wt t v, 1) (fun c m => (kid c m).2.2) (by simp)
    unfold fk at e
    rw [← e] at a b
    refine ⟨?_, a⟩
    rw [h v hv, sv_some fun c m => ?_]
    · congr 1
      have e2 : rs (fun c => iv (X c)) (kids t.ties r par v) = rs (fun c => -((N c : Rat) / (D c : Rat))) (kids t.ties r par v) := rs_congr fun c m => by
        obtain ⟨k1, k2, k3⟩ := kid c m
        rw [k1]
        show (((-D c : Int) : Rat) / (N c : Rat))⁻¹ = _
        have q1 : (D c : Rat) ≠ 0 := by exact_mod_cast k3
        have q2 : (N c : Rat) ≠ 0 := by exact_mod_cast k2
        rw [Rat.intCast_neg]
        grind
      have e3 : ∀ l : List Nat, rs (fun c => -((N c : Rat) / (D c : Rat))) l = -rs (fun c => (N c : Rat) / (D c : Rat)) l := fun l => by
        induction l with
        | nil => rw [rs_nil, rs_nil]; grind
        | cons x l ih => rw [rs_cons, rs_cons, ih]; grind
      rw [e2, e3]
      have q : (N v : Rat) ≠ 0 := by exact_mod_cast a
      simp only [Rat.intCast_neg] at b ⊢
      grind
    · obtain ⟨k1, k2, k3⟩ := kid c m
      rw [k1]
      intro z
      have z := Option.some.inj z
      have q1 : (D c : Rat) ≠ 0 := by exact_mod_cast k3
      have q2 : (N c : Rat) ≠ 0 := by exact_mod_cast k2
      rw [Rat.intCast_neg] at z
      grind
theorem ok_all (R : TM.Rooted t.n (adjT t.ties) r par dep) (hDN : DN t.n (fun v => -wt t v) (kids t.ties r par) D N) (h : SV t r par X) (ho : FOK t.n (kids t.ties r par) D ok) (neg : ∀ v, v < t.n → ∃ x, X v = some x ∧ x < 0) : ∀ k v, v < t.n → t.n ≤ dep v + k → ok v = true
  | 0, v, hv, hd => by have := TM.dep_lt R hv; omega
  | k + 1, v, hv, hd => by
    refine (ho v hv).mpr fun c hc => ?_
    obtain ⟨h1, h3, h4⟩ := (kids_mem R hv c).mp hc
    have := (R.up c h1 h3).2
    rw [h4] at this
    have o := ok_all R hDN h ho neg k c h1 (by omega)
    refine ⟨o, fun z => ?_⟩
    obtain ⟨a, b⟩ := ok_val R hDN h ho _ c h1 (Nat.le_add_left _ _) o
    obtain ⟨x, e, lt⟩ := neg c h1
    rw [e] at a
    have a := Option.some.inj a
    rw [z] at a
    have : ((-0 : Int) : Rat) / (N c : Rat) = 0 := by
      show ((0 : Int) : Rat) / (N c : Rat) = 0
      have : ((0 : Int) : Rat) = 0 := rfl
      rw [this]; grind
    rw [this] at a
    rw [a] at lt
    grind
theorem neg_iff (X : Nat → Option Rat) (n : Nat) : (sm (fun v => cA (X v)) (List.range n) = 0 ∧ sm (fun v => cL (X v)) (List.range n) = 0) ↔ ∀ v, v < n → ∃ x, X v = some x ∧ x < 0 := by
  constructor
  · rintro ⟨h1, h2⟩
    have a := (sm_nonneg (f := fun v => cA (X v)) (l := List.range n) fun i _ => by show 0 ≤ cA (X i); unfold cA; split; omega; split <;> omega).2 h1
    have nn : ∀ v, v < n → ∃ x, X v = some x ∧ ¬ 0 < x := fun v hv => by
      have := a v (List.mem_range.mpr hv)
      cases x : X v with
      | none => rw [x] at this; cases this
      | some q =>
        rw [x] at this
        refine ⟨q, rfl, fun z => ?_⟩
        have e : cA (some q) = 1 := if_pos z
        simp only [e] at this
        cases this
    have b := (sm_nonneg (f := fun v => cL (X v)) (l := List.range n) fun i hi => by
      obtain ⟨x, e, _⟩ := nn i (List.mem_range.mp hi)
      show 0 ≤ cL (X i)
      rw [e]
      unfold cL
      simp only
      split <;> omega).2 h2
    intro v hv
    obtain ⟨x, e, l⟩ := nn v hv
    refine ⟨x, e, ?_⟩
    have := b v (List.mem_range.mpr hv)
    rcases r_tri x with z | z | z
    · exact z
    · simp only [e] at this
      have e2 : cL (some x) = 1 := if_pos z
      rw [e2] at this
      cases this
    · exact absurd z l
  · intro h
    refine ⟨sm_zero fun v hv => ?_, sm_zero fun v hv => ?_⟩
    · obtain ⟨x, e, l⟩ := h v (List.mem_range.mp hv)
      show cA (X v) = 0
      rw [e]
      exact if_neg (by grind)
    · obtain ⟨x, e, l⟩ := h v (List.mem_range.mp hv)
      show cL (X v) = 0
      rw [e]
      exact if_neg (by grind)
end
end MT
namespace MT
open Y
/-! ### which folds have not stopped -/
def JP (ks : Nat → List Nat) (S : List Nat) (ok : Nat → Bool) (D : Nat → Int) (i u : Nat) : Prop := ∀ c ∈ ks u, c ∉ S.take (S.length - i) → ok c = true ∧ D c ≠ 0
section
variable {t : Tr} {r : Nat} {par dep : Nat → Nat} {S : List Nat} {ok : Nat → Bool} {D : Nat → Int}
theorem jp_zero (R : TM.Rooted t.n (adjT t.ties) r par dep) (hS : ∀ v, v ∈ S ↔ v < t.n) {u : Nat} (hu : u < t.n) : JP (kids t.ties r par) S ok D 0 u := fun c hc n => absurd (by rw [Nat.sub_zero, List.take_length]; exact (hS c).mpr ((kids_mem R hu c).mp hc).1) n
theorem jp_end (h : FOK t.n (kids t.ties r par) D ok) {u : Nat} (hu : u < t.n) : JP (kids t.ties r par) S ok D S.length u ↔ ok u = true := by
  rw [h u hu]
  unfold JP
  simp
theorem jp_own (O : Okt t) (R : TM.Rooted t.n (adjT t.ties) r par dep) (G : Grow r par S) (hS : ∀ v, v ∈ S ↔ v < t.n) (h : FOK t.n (kids t.ties r par) D ok) {i v : Nat} (hi : i < S.length) (hv : S[S.length - 1 - i]? = some v) : JP (kids t.ties r par) S ok D i v ↔ ok v = true := by
  rw [h v ((hS v).mp (List.mem_of_getElem? hv))]
  exact ⟨fun j c hc => j c hc (kids_done O R G hS hi hv c hc), fun j c hc _ => j c hc⟩
theorem jp_succ (R : TM.Rooted t.n (adjT t.ties) r par dep) (G : Grow r par S) (hS : ∀ v, v ∈ S ↔ v < t.n) {i v u : Nat} (hi : i < S.length) (hv : S[S.length - 1 - i]? = some v) (hu : u < t.n) : JP (kids t.ties r par) S ok D (i + 1) u ↔ JP (kids t.ties r par) S ok D i u ∧ (v ≠ r ∧ par v = u → ok v = true ∧ D v ≠ 0) := by
  obtain ⟨e, ni, nr, er⟩ := take_last G hi hv
  have hvn := (hS v).mp (List.mem_of_getElem? hv)
  unfold JP
  rw [e]
  constructor
  · intro j
    refine ⟨fun c hc n => j c hc fun m => n (List.mem_append_left _ m), fun z => j v ((kids_mem R hu v).mpr ⟨hvn, z⟩) ni⟩
  · rintro ⟨j1, j2⟩ c hc n
    by_cases ec : c = v
    · subst ec
      exact j2 ((kids_mem R hu c).mp hc).2
    · exact j1 c hc fun m => by
        rcases List.mem_append.mp m with m | m
        · exact n m
        · simp at m; exact ec m
end
end MT
namespace MT
open Y
theorem sv_eq {t : Tr} {r : Nat} {par dep par2 dep2 : Nat → Nat} {X : Nat → Option Rat} (R : TM.Rooted t.n (adjT t.ties) r par dep) (R2 : TM.Rooted t.n (adjT t.ties) r par2 dep2) (h : SV t r par X) : SV t r par2 X := fun v hv => by
  rw [h v hv, kids_eq R R2 hv]
theorem fok_eq {t : Tr} {r : Nat} {par dep par2 dep2 : Nat → Nat} {D : Nat → Int} {ok : Nat → Bool} (R : TM.Rooted t.n (adjT t.ties) r par dep) (R2 : TM.Rooted t.n (adjT t.ties) r par2 dep2) (h : FOK t.n (kids t.ties r par) D ok) : FOK t.n (kids t.ties r par2) D ok := fun v hv => by
  rw [h v hv, kids_eq R R2 hv]
end MT
namespace Y
open PySem PySem.Spec PyProof.Rows L2
def sgA (t : Tr) (X : Nat → Option Rat) : Int := MT.sm (fun v => MT.cA (X v)) (List.range t.n)
def sgB (t : Tr) (X : Nat → Option Rat) : Int := MT.sm (fun v => MT.cB (X v)) (List.range t.n)
def sgL (t : Tr) (X : Nat → Option Rat) : Int := MT.sm (fun v => MT.cL (X v)) (List.range t.n)
def sp_signsX (K : PySem.W.Frag) : Sp := fun vs H Q _ => ∃ L tv t par dep X, vs = [tv] ∧ Trk H L ∧ Bt t ∧ 0 < t.n ∧ Dp K (wo H L) tv (trD t) ∧ TM.Rooted t.n (adjT t.ties) 0 par dep ∧ MT.SV t 0 par X ∧ Ret K H L (.tuple [.int (sgA t X), .int (sgL t X), .int (sgB t X)]) Q
def sp_is_belowX (K : PySem.W.Frag) : Sp := fun vs H Q _ => ∃ L tv t par dep X, vs = [tv] ∧ Trk H L ∧ Bt t ∧ 0 < t.n ∧ Dp K (wo H L) tv (trD t) ∧ TM.Rooted t.n (adjT t.ties) 0 par dep ∧ MT.SV t 0 par X ∧ ∀ b H', Same H H' → (b = true ↔ sgA t X = 0 ∧ sgL t X = 0) → Q (.bl b) H'
/-- what is told at a place -/
def foX (ok : Nat → Bool) (D N : Nat → Int) (v : Nat) : PyData := if ok v = true then ratD (rt (-D v) (N v)) else .none
def sp_foldsX (K : PySem.W.Frag) : Sp := fun vs H Q _ => ∃ L tv t par dep D N ok, ∃ r : Nat, vs = [tv, .int (r : Int)] ∧ Trk H L ∧ Bt t ∧ Dp K (wo H L) tv (trD t) ∧ r < t.n ∧
  TM.Rooted t.n (adjT t.ties) r par dep ∧ MT.DN t.n (fun v => -MT.wt t v) (kids t.ties r par) D N ∧ MT.FOK t.n (kids t.ties r par) D ok ∧ Ret K H L (.tuple ((List.range t.n).map (foX ok D N))) Q
end Y
namespace Y
open PySem PySem.Spec PyProof.Rows L2
def sp_law_numbers (k : Nat) (K : PySem.W.Frag) : Sp := fun vs H Q _ => ∃ L tv nv t r par dep D N ok f rs fs, ∃ v : Nat, ∃ last : Int, vs = [tv, nv, .int v, .int last, .ref f] ∧ f ∈ L ∧ Trk H L ∧ Bt t ∧ Dp K (wo H L) tv (trD t) ∧ Dp K (wo H L) nv (llD (nbs t)) ∧ TM.Rooted t.n (adjT t.ties) r par dep ∧ last = lastOf r par v ∧
  v < t.n ∧ t.n ≤ dep v + k ∧ MT.DN t.n (fun v => -MT.wt t v) (kids t.ties r par) D N ∧ (∀ u, u < t.n → (D u).natAbs ≤ 2 ^ 199 ∧ (N u).natAbs ≤ 2 ^ 199) ∧ MT.FOK t.n (kids t.ties r par) D ok ∧ H f = some (.lst rs) ∧ DpAll K (wo H L) rs ((List.range t.n).map fs) ∧
  ∀ rs' H', SameM f H H' → H' f = some (.lst rs') → DpAll K (wo H' L) rs' ((List.range t.n).map fun u => if v ∈ TM.way par dep u then foX ok D N u else fs u) → Q (.ref f) H'
theorem ok_N {t : Tr} {r : Nat} {par : Nat → Nat} {D N : Nat → Int} {ok : Nat → Bool} (hDN : MT.DN t.n (fun v => -MT.wt t v) (kids t.ties r par) D N) (ho : MT.FOK t.n (kids t.ties r par) D ok) {v : Nat} (hv : v < t.n) (o : ok v = true) : N v ≠ 0 := by
  have e := congrArg Prod.snd (hDN v hv)
  rw [MT.fk_two] at e
  have e : N v = MT.pd D (kids t.ties r par v) := e
  rw [e]
  have k := (ho v hv).mp o
  have key : ∀ l : List Nat, (∀ c ∈ l, D c ≠ 0) → MT.pd D l ≠ 0 := fun l => by
    induction l with
    | nil => intro _; rw [MT.pd_nil]; decide
    | cons x l ih => intro h; rw [MT.pd_cons]; exact Int.mul_ne_zero (h x (by simp)) (ih fun c m => h c (by simp [m]))
  exact key _ fun c m => (k c m).2
theorem DpAll.set {K : PySem.W.Frag} {H : Hp} {rs : List V} {n p : Nat} {f g : Nat → PyData} {x : V} (h : DpAll K H rs ((List.range n).map f)) (hx : Dp K H x (g p)) (e : ∀ u, u < n → u ≠ p → g u = f u) : DpAll K H (rs.set p x) ((List.range n).map g) := by
  have l : rs.length = n := by rw [h.length]; simp
  refine DpAll.of_get (by rw [List.length_set, l]; simp) fun i y d hy hd => ?_
  have hi : i < n := by
    have := (List.getElem?_eq_some_iff.mp hy).1
    rw [List.length_set, l] at this
    exact this
  rw [List.getElem?_map, List.getElem?_range hi] at hd
  cases hd
  by_cases ex : i = p
  · subst ex
    rw [List.getElem?_set, if_pos rfl, if_pos (by omega)] at hy
    cases hy
    exact hx
  · rw [List.getElem?_set, if_neg (Ne.symm ex)] at hy
    rw [e i hi ex]
    obtain ⟨d, hd, hyd⟩ := h.getV hy
    rw [List.getElem?_map, List.getElem?_range hi] at hd
    cases hd
    exact hyd
end Y
namespace Y
open PySem PySem.Spec PyProof.Rows L2
def sp_law_is_number (K : PySem.W.Frag) : Sp := fun vs H Q _ => ∃ x, vs = [x] ∧ (Dp K (wo H []) x .none ∨ ∃ a b : Int, Dp K (wo H []) x (.tuple [.int a, .int b])) ∧ ∀ H', Same H H' → Q (.bl true) H'
def sp_law_is_folded (K : PySem.W.Frag) : Sp := fun vs H Q _ => ∃ L tv nv t, ∃ r : Nat, vs = [tv, .int (r : Int), nv] ∧ Trk H L ∧ Bt t ∧ Dp K (wo H L) tv (trD t) ∧ Dp K (wo H L) nv (llD (nbs t)) ∧ r < t.n ∧ ∀ H', Same H H' → Q (.bl true) H'
end Y
namespace Y
open PySem PySem.Spec PyProof.Rows L2
def ngX (D N : Nat → Int) (u : Nat) : Bool := decide ((rt (-D u) (N u)).1 < 0)
def psX (D N : Nat → Int) (u : Nat) : Bool := decide (0 < (rt (-D u) (N u)).1)
theorem cnt_len (p : Nat → Bool) : ∀ l : List Nat, MT.sm (fun v => if p v = true then 1 else 0) l = ((l.filter p).length : Int)
  | [] => rfl
  | x :: l => by
    rw [MT.sm_cons, cnt_len p l]
    by_cases h : p x = true
    · rw [if_pos h, List.filter_cons_of_pos h, List.length_cons]; omega
    · rw [if_neg h, List.filter_cons_of_neg h]; omega
section
variable {t : Tr} {r : Nat} {par dep : Nat → Nat} {X : Nat → Option Rat} {D N : Nat → Int} {ok : Nat → Bool}
theorem ok_sg (R : TM.Rooted t.n (adjT t.ties) r par dep) (hDN : MT.DN t.n (fun v => -MT.wt t v) (kids t.ties r par) D N) (h : MT.SV t r par X) (ho : MT.FOK t.n (kids t.ties r par) D ok) {v : Nat} (hv : v < t.n) (o : ok v = true) : ∃ x, X v = some x ∧ (ngX D N v = true ↔ x < 0) ∧ (psX D N v = true ↔ 0 < x) := by
  obtain ⟨a, b⟩ := MT.ok_val R hDN h ho _ v hv (Nat.le_add_left _ _) o
  obtain ⟨s1, s2, s3⟩ := MT.rt_sg (a := -D v) b
  refine ⟨_, a, ?_, ?_⟩
  · unfold ngX; rw [decide_eq_true_eq]; exact s1
  · unfold psX; rw [decide_eq_true_eq]; exact s2
theorem fil_all {p : Nat → Bool} {l : List Nat} : (l.filter p).length = l.length ↔ ∀ v ∈ l, p v = true := List.length_filter_eq_length_iff
theorem below_len (R : TM.Rooted t.n (adjT t.ties) r par dep) (hDN : MT.DN t.n (fun v => -MT.wt t v) (kids t.ties r par) D N) (h : MT.SV t r par X) (ho : MT.FOK t.n (kids t.ties r par) D ok) : (∀ v, v < t.n → ∃ x, X v = some x ∧ x < 0) ↔ (((List.range t.n).filter ok).filter (ngX D N)).length = t.n := by
  rw [List.filter_filter]
  have l : (List.range t.n).length = t.n := List.length_range
  conv => rhs; rhs; rw [← l]
  rw [fil_all]
  constructor
  · intro neg v hv
    have hv := List.mem_range.mp hv
    have o := MT.ok_all R hDN h ho neg _ v hv (Nat.le_add_left _ _)
    obtain ⟨x, e, k1, k2⟩ := ok_sg R hDN h ho hv o
    obtain ⟨y, e2, lt⟩ := neg v hv
    rw [e] at e2
    cases e2
    rw [o, k1.mpr lt]; rfl
  · intro all v hv
    have := all v (List.mem_range.mpr hv)
    rw [Bool.and_eq_true] at this
    obtain ⟨x, e, k1, k2⟩ := ok_sg R hDN h ho hv this.2
    exact ⟨x, e, k1.mp this.1⟩
theorem sg_len (R : TM.Rooted t.n (adjT t.ties) r par dep) (hDN : MT.DN t.n (fun v => -MT.wt t v) (kids t.ties r par) D N) (h : MT.SV t r par X) (ho : MT.FOK t.n (kids t.ties r par) D ok) (all : ((List.range t.n).filter ok).length = t.n) :
    sgA t X = ((((List.range t.n).filter ok).filter (psX D N)).length : Int) ∧ sgB t X = ((((List.range t.n).filter ok).filter (ngX D N)).length : Int) ∧ sgL t X = (t.n : Int) - sgA t X - sgB t X := by
  have l : (List.range t.n).length = t.n := List.length_range
  have al : ∀ v ∈ List.range t.n, ok v = true := fil_all.mp (by rw [l]; exact all)
  have e0 : (List.range t.n).filter ok = List.range t.n := List.filter_eq_self.mpr al
  rw [e0, ← cnt_len, ← cnt_len]
  have key := fun v (hv : v ∈ List.range t.n) => ok_sg R hDN h ho (List.mem_range.mp hv) (al v hv)
  refine ⟨MT.sm_congr fun v hv => ?_, MT.sm_congr fun v hv => ?_, ?_⟩
  · obtain ⟨x, e, k1, k2⟩ := key v hv
    rw [e]
    show (if 0 < x then (1 : Int) else 0) = _
    by_cases z : 0 < x
    · rw [if_pos z, if_pos (k2.mpr z)]
    · rw [if_neg z, if_neg fun y => z (k2.mp y)]
  · obtain ⟨x, e, k1, k2⟩ := key v hv
    rw [e]
    show (if x < 0 then (1 : Int) else 0) = _
    by_cases z : x < 0
    · rw [if_pos z, if_pos (k1.mpr z)]
    · rw [if_neg z, if_neg fun y => z (k1.mp y)]
  · have e1 : (t.n : Int) = MT.sm (fun _ => 1) (List.range t.n) := by
      have : ∀ l : List Nat, MT.sm (fun _ => 1) l = (l.length : Int) := fun l => by
        induction l with
        | nil => rfl
        | cons x l ih => rw [MT.sm_cons, ih, List.length_cons]; omega
      rw [this, l]
    rw [e1]
    unfold sgA sgB sgL
    rw [← MT.sm_sub, ← MT.sm_sub]
    refine MT.sm_congr fun v hv => ?_
    obtain ⟨x, e, k1, k2⟩ := key v hv
    rw [e]
    show (if x = 0 then (1 : Int) else 0) = 1 - (if 0 < x then (1 : Int) else 0) - (if x < 0 then (1 : Int) else 0)
    rcases MT.r_tri x with z | z | z
    · rw [if_neg (by grind), if_neg (by grind), if_pos z]; rfl
    · rw [if_pos z, if_neg (by grind), if_neg (by grind)]; rfl
    · rw [if_neg (by grind), if_pos z, if_neg (by grind)]; rfl
end
theorem dn_all199 {t : Tr} (B : Bt t) {r : Nat} {par dep : Nat → Nat} (R : TM.Rooted t.n (adjT t.ties) r par dep) : ∃ D N, MT.DN t.n (fun v => -MT.wt t v) (kids t.ties r par) D N ∧ (∀ u, u < t.n → (D u).natAbs ≤ 2 ^ 199 ∧ (N u).natAbs ≤ 2 ^ 199) := by
  obtain ⟨S, G, hS⟩ := grow_all R
  obtain ⟨D, N, h⟩ := MT.dn_made R (fun v => -MT.wt t v) (kids t.ties r par) fun v hv c hc => (kids_mem R hv c).mp hc
  have lS : S.length = t.n := by rw [(MT.S_perm G hS).length_eq, List.length_range]
  have few := B.few
  refine ⟨D, N, h, fun u hu => ?_⟩
  refine MT.dn_bd h (fun v hv c => kids_mem R hv c) (fun v hv => kids_nodup B.toOkt r par v) G (fun v m => (hS v).mp m) (fun v => -MT.wt t v, fun _ => 1) ⟨fun _ => 10, fun v _ => ⟨by rw [Int.natAbs_neg]; exact B.wt v, Nat.one_le_two_pow⟩, ?_⟩ (fun v m => ⟨[], rfl, ?_⟩) u ((hS u).mpr hu)
  · rw [List.map_const', List.sum_replicate_nat]
    omega
  · rw [List.nil_append]
    exact List.Perm.of_eq (List.filter_eq_self.mpr fun c hc => decide_eq_true ((hS c).mpr ((kids_mem R ((hS v).mp m) c).mp hc).1))
end Y
namespace MT
open Y
section
variable {t : Tr} {r : Nat} {par dep : Nat → Nat} {X : Nat → Option Rat} {D N : Nat → Int} {ok : Nat → Bool}
theorem dn_N (h : DN t.n (fun v => -wt t v) (kids t.ties r par) D N) {v : Nat} (hv : v < t.n) : N v = pd D (kids t.ties r par v) := by
  have e := congrArg Prod.snd (h v hv)
  rw [fk_two] at e
  exact e
/-- all determinants above 0: all folds below 0 -/
theorem allD_neg (R : TM.Rooted t.n (adjT t.ties) r par dep) (hDN : DN t.n (fun v => -wt t v) (kids t.ties r par) D N) (h : SV t r par X) (ho : FOK t.n (kids t.ties r par) D ok) : (∀ v, v < t.n → 0 < D v) ↔ ∀ v, v < t.n → ∃ x, X v = some x ∧ x < 0 := by
  constructor
  · intro pos
    have kp : ∀ v, v < t.n → ∀ c ∈ kids t.ties r par v, c < t.n := fun v hv c hc => ((kids_mem R hv c).mp hc).1
    have oks : ∀ k v, v < t.n → t.n ≤ dep v + k → ok v = true := fun k => by
      induction k with
      | zero => intro v hv hd; have := TM.dep_lt R hv; omega
      | succ k ih =>
        intro v hv hd
        refine (ho v hv).mpr fun c hc => ?_
        obtain ⟨h1, h3, h4⟩ := (kids_mem R hv c).mp hc
        have := (R.up c h1 h3).2
        rw [h4] at this
        exact ⟨ih c h1 (by omega), by have := pos c h1; omega⟩
    intro v hv
    obtain ⟨a, b⟩ := ok_val R hDN h ho _ v hv (Nat.le_add_left _ _) (oks _ v hv (Nat.le_add_left _ _))
    have np : 0 < N v := by rw [dn_N hDN hv]; exact pd_pos fun c hc => pos c (kp v hv c hc)
    refine ⟨_, a, ?_⟩
    exact (rt_sg b).1.mp (rt_neg (pos v hv) np)
  · intro neg
    have oks := ok_all R hDN h ho neg
    have key : ∀ k v, v < t.n → t.n ≤ dep v + k → 0 < D v := fun k => by
      induction k with
      | zero => intro v hv hd; have := TM.dep_lt R hv; omega
      | succ k ih =>
        intro v hv hd
        have np : 0 < N v := by
          rw [dn_N hDN hv]
          refine pd_pos fun c hc => ?_
          obtain ⟨h1, h3, h4⟩ := (kids_mem R hv c).mp hc
          have := (R.up c h1 h3).2
          rw [h4] at this
          exact ih c h1 (by omega)
        obtain ⟨a, b⟩ := ok_val R hDN h ho _ v hv (Nat.le_add_left _ _) (oks _ v hv (Nat.le_add_left _ _))
        obtain ⟨x, e, lt⟩ := neg v hv
        rw [e] at a
        have a := Option.some.inj a
        rw [a] at lt
        have n0 : (0 : Rat) < (N v : Rat) := by exact_mod_cast np
        have d0 : ((-D v : Int) : Rat) = x * (N v : Rat) := by
          rw [a]
          have : (N v : Rat) ≠ 0 := by grind
          grind
        have : ((-D v : Int) : Rat) < 0 := by
          rw [d0]
          exact ((r_mul x (N v : Rat)).1 n0).2.1.mpr (by rw [a]; exact lt)
        have : (-D v : Int) < 0 := by exact_mod_cast this
        omega
    exact fun v hv => key _ v hv (Nat.le_add_left _ _)
/-- all folds below 0: all weights are -/
theorem neg_wt (h : SV t r par X) (R : TM.Rooted t.n (adjT t.ties) r par dep) (neg : ∀ v, v < t.n → ∃ x, X v = some x ∧ x < 0) {v : Nat} (hv : v < t.n) : wt t v < 0 := by
  obtain ⟨x, e, lt⟩ := neg v hv
  rw [h v hv, sv_some fun c hc z => ?_] at e
  · have e := Option.some.inj e
    have le : ∀ l : List Nat, (∀ c ∈ l, c < t.n) → rs (fun c => iv (X c)) l ≤ 0 := fun l => by
      induction l with
      | nil => intro _; rw [rs_nil]; grind
      | cons c l ih =>
        intro hl
        have i := ih fun d m => hl d (by simp [m])
        rw [rs_cons]
        obtain ⟨y, ey, ly⟩ := neg c (hl c (by simp))
        rw [ey]
        have : iv (some y) < 0 := by
          show y⁻¹ < 0
          have y0 : y ≠ 0 := by grind
          have := r_sign (Rat.mul_inv_cancel y y0)
          grind
        grind
    have := le (kids t.ties r par v) fun c hc => ((kids_mem R hv c).mp hc).1
    have w : (wt t v : Rat) < 0 := by grind
    exact_mod_cast w
  · obtain ⟨y, ey, ly⟩ := neg c ((kids_mem R hv c).mp hc).1
    rw [ey] at z
    have z := Option.some.inj z
    rw [z] at ly
    grind
/-- no fold is told that is not below 0: none has stopped -/
theorem ok_run (R : TM.Rooted t.n (adjT t.ties) r par dep) (hDN : DN t.n (fun v => -wt t v) (kids t.ties r par) D N) (ho : FOK t.n (kids t.ties r par) D ok) (hn : ∀ v, v < t.n → ok v = true → (rt (-D v) (N v)).1 < 0) : ∀ k v, v < t.n → t.n ≤ dep v + k → ok v = true
  | 0, v, hv, hd => by have := TM.dep_lt R hv; omega
  | k + 1, v, hv, hd => by
    refine (ho v hv).mpr fun c hc => ?_
    obtain ⟨h1, h3, h4⟩ := (kids_mem R hv c).mp hc
    have := (R.up c h1 h3).2
    rw [h4] at this
    have o := ok_run R hDN ho hn k c h1 (by omega)
    refine ⟨o, fun z => ?_⟩
    have lt := hn c h1 o
    rw [z] at lt
    have nz := ok_N hDN ho h1 o
    have := (rt_sg (a := -0) nz).1.mp lt
    have e : ((-0 : Int) : Rat) / (N c : Rat) = 0 := by
      show ((0 : Int) : Rat) / (N c : Rat) = 0
      have : ((0 : Int) : Rat) = 0 := rfl
      rw [this]; grind
    rw [e] at this
    grind
/-! ### the form of a row that follows the folds -/
theorem rs_add (f g : Nat → Rat) : ∀ l : List Nat, rs (fun x => f x + g x) l = rs f l + rs g l
  | [] => by rw [rs_nil, rs_nil, rs_nil]; grind
  | x :: l => by rw [rs_cons, rs_cons, rs_cons, rs_add f g l]; grind
theorem rs_mul (c : Rat) (f : Nat → Rat) : ∀ l : List Nat, rs (fun x => c * f x) l = c * rs f l
  | [] => by rw [rs_nil, rs_nil]; grind
  | x :: l => by rw [rs_cons, rs_cons, rs_mul c f l]; grind
theorem rs_zero {f : Nat → Rat} : ∀ {l : List Nat}, (∀ x ∈ l, f x = 0) → rs f l = 0
  | [], _ => rfl
  | x :: l, h => by rw [rs_cons, h x (by simp), rs_zero fun y m => h y (by simp [m])]; grind
theorem rs_swap (f : Nat → Nat → Rat) (l : List Nat) : ∀ m : List Nat, rs (fun i => rs (fun j => f i j) m) l = rs (fun j => rs (fun i => f i j) l) m
  | [] => by rw [rs_nil, rs_zero fun i _ => rs_nil _]
  | x :: m => by
    rw [rs_cons, ← rs_swap f l m, ← rs_add]
    exact rs_congr fun i _ => rs_cons _ _ _
theorem rs_filter (f : Nat → Rat) (q : Nat → Bool) : ∀ l : List Nat, rs f (l.filter q) = rs (fun x => if q x = true then f x else 0) l
  | [] => rfl
  | x :: l => by
    rw [rs_cons, ← rs_filter f q l]
    cases h : q x
    · rw [List.filter_cons_of_neg (by simp [h])]; simp; grind
    · rw [List.filter_cons_of_pos h, rs_cons]; simp
theorem rs_pick {f : Nat → Rat} {p : Nat} : ∀ {l : List Nat}, l.Nodup → p ∈ l → (∀ i ∈ l, i ≠ p → f i = 0) → rs f l = f p
  | [], _, m, _ => by simp at m
  | x :: l, nd, m, h => by
    have nd' := List.nodup_cons.mp nd
    rw [rs_cons]
    by_cases e : x = p
    · subst e
      rw [rs_zero fun y hy => h y (by simp [hy]) fun z => nd'.1 (by rw [← z]; exact hy)]
      grind
    · have m' : p ∈ l := by
        rcases List.mem_cons.mp m with z | z
        · exact absurd z.symm e
        · exact z
      rw [h x (by simp) e, rs_pick nd'.2 m' fun i hi => h i (by simp [hi])]
      grind
theorem kid_rs (O : Okt t) (R : TM.Rooted t.n (adjT t.ties) r par dep) (F : Nat → Nat → Rat) : rs (fun v => rs (fun c => F c v) (kids t.ties r par v)) (List.range t.n) = rs (fun c => if c = r then 0 else F c (par c)) (List.range t.n) := by
  have e1 : rs (fun v => rs (fun c => F c v) (kids t.ties r par v)) (List.range t.n) = rs (fun v => rs (fun c => if c ≠ r ∧ par c = v then F c v else 0) (List.range t.n)) (List.range t.n) := by
    refine rs_congr fun v hv => ?_
    have hv := List.mem_range.mp hv
    have p : (kids t.ties r par v).Perm ((List.range t.n).filter fun c => decide (c ≠ r ∧ par c = v)) := by
      refine (List.perm_ext_iff_of_nodup (kids_nodup O r par v) (List.nodup_range.filter _)).mpr fun c => ?_
      rw [kids_mem R hv c, List.mem_filter, List.mem_range, decide_eq_true_eq]
    rw [rs_perm _ p, rs_filter]
    exact rs_congr fun c _ => by simp only [decide_eq_true_eq]
  rw [e1, rs_swap]
  refine rs_congr fun c hc => ?_
  have hc := List.mem_range.mp hc
  by_cases e : c = r
  · rw [if_pos e]
    exact rs_zero fun v _ => if_neg fun z => z.1 e
  · rw [if_neg e, rs_pick (p := par c) List.nodup_range (List.mem_range.mpr (R.up c hc e).1) fun v _ ne => if_neg fun z => ne z.2.symm]
    exact if_pos ⟨e, rfl⟩
/-- the form of a row on what hangs on top, each entry minus the one ahead over the fold -/
theorem form_top (O : Okt t) (R : TM.Rooted t.n (adjT t.ties) r par dep) (h : SV t r par X) {top : Nat} (ht : top < t.n) {f x : Nat → Rat}
    (hf : ∀ v, v < t.n → top ∈ TM.way par dep v → X v = some (f v) ∧ (v ≠ top → f v ≠ 0 ∧ x v = -(x (par v)) * (f v)⁻¹)) (hz : ∀ v, v < t.n → top ∉ TM.way par dep v → x v = 0) :
    rs (fun v => (wt t v : Rat) * (x v * x v)) (List.range t.n) + rs (fun v => if v = r then 0 else 2 * (x v * x (par v))) (List.range t.n) = f top * (x top * x top) := by
  obtain ⟨G, hG⟩ : ∃ G : Nat → Rat, G = fun v => if top ∈ TM.way par dep v then f v * (x v * x v) else 0 := ⟨_, rfl⟩
  have Gin : ∀ v, top ∈ TM.way par dep v → G v = f v * (x v * x v) := fun v m => by rw [hG]; exact if_pos m
  have Gout : ∀ v, top ∉ TM.way par dep v → G v = 0 := fun v m => by rw [hG]; exact if_neg m
  have e1 := kid_rs O R fun c v => 2 * (x c * x v)
  have e2 := kid_rs O R fun c _ => G c
  have wt' : top ∈ TM.way par dep top := way_self R top
  -- at each place
  have at' : ∀ v, v < t.n → (wt t v : Rat) * (x v * x v) + rs (fun c => 2 * (x c * x v)) (kids t.ties r par v) = G v - rs (fun c => G c) (kids t.ties r par v) + if top ≠ r ∧ par top = v then G top else 0 := fun v hv => by
    have kw : ∀ c ∈ kids t.ties r par v, (top ∈ TM.way par dep c ↔ c = top ∨ top ∈ TM.way par dep v) := fun c hc => by
      obtain ⟨h1, h2, h3⟩ := (kids_mem R hv c).mp hc
      rw [way_cons R h1 h2, h3, List.mem_cons]
      exact ⟨fun z => z.imp Eq.symm id, fun z => z.imp Eq.symm id⟩
    by_cases m : top ∈ TM.way par dep v
    · have np : ¬(top ≠ r ∧ par top = v) := fun z => by
        have u := (R.up top ht z.1).2
        rw [z.2] at u
        have := (TM.upto_lt R _ v hv rfl top m).2
        omega
      rw [if_neg np, Gin v m]
      have ne : ∀ c ∈ kids t.ties r par v, c ≠ top := fun c hc z => by
        obtain ⟨h1, h2, h3⟩ := (kids_mem R hv c).mp hc
        rw [z] at h2 h3
        exact np ⟨h2, h3⟩
      have kc : ∀ c ∈ kids t.ties r par v, 2 * (x c * x v) = (x v * x v) * (-2 * iv (X c)) ∧ G c = (x v * x v) * iv (X c) := fun c hc => by
        obtain ⟨h1, h2, h3⟩ := (kids_mem R hv c).mp hc
        have mc := (kw c hc).mpr (.inr m)
        obtain ⟨k1, k2⟩ := hf c h1 mc
        obtain ⟨k3, k4⟩ := k2 (ne c hc)
        rw [h3] at k4
        rw [Gin c mc, k1]
        show 2 * (x c * x v) = (x v * x v) * (-2 * (f c)⁻¹) ∧ f c * (x c * x c) = (x v * x v) * (f c)⁻¹
        rw [k4]
        constructor
        · grind
        · grind
      rw [rs_congr fun c hc => (kc c hc).1, rs_congr fun c hc => (kc c hc).2, rs_mul, rs_mul, rs_mul]
      have ev := (hf v hv m).1
      rw [h v hv, sv_some fun c hc z => ?_] at ev
      · have ev := Option.some.inj ev
        rw [← ev]
        grind
      · obtain ⟨h1, h2, h3⟩ := (kids_mem R hv c).mp hc
        obtain ⟨k1, k2⟩ := hf c h1 ((kw c hc).mpr (.inr m))
        rw [k1] at z
        exact (k2 (ne c hc)).1 (Option.some.inj z)
    · have xv := hz v hv m
      have l1 : rs (fun c => 2 * (x c * x v)) (kids t.ties r par v) = 0 := rs_zero fun c _ => by rw [xv]; grind
      rw [l1, Gout v m, xv]
      by_cases pt : top ≠ r ∧ par top = v
      · rw [if_pos pt, rs_pick (p := top) (kids_nodup O r par v) ((kids_mem R hv top).mpr ⟨ht, pt⟩) fun c hc ne => Gout c fun y => ?_]
        · grind
        · rcases (kw c hc).mp y with y | y
          · exact ne y
          · exact m y
      · rw [if_neg pt, rs_zero fun c hc => Gout c fun y => ?_]
        · grind
        · rcases (kw c hc).mp y with y | y
          · obtain ⟨h1, h2, h3⟩ := (kids_mem R hv c).mp hc
            rw [y] at h2 h3
            exact pt ⟨h2, h3⟩
          · exact m y
  have s1 := rs_congr (l := List.range t.n) fun v hv => at' v (List.mem_range.mp hv)
  rw [rs_add, e1, rs_add] at s1
  have s2 : rs (fun v => G v - rs (fun c => G c) (kids t.ties r par v)) (List.range t.n) = rs G (List.range t.n) - rs (fun c => if c = r then 0 else G c) (List.range t.n) := by
    rw [← e2]
    have := rs_add (fun v => G v - rs (fun c => G c) (kids t.ties r par v)) (fun v => rs (fun c => G c) (kids t.ties r par v)) (List.range t.n)
    have e3 : rs (fun v => (G v - rs (fun c => G c) (kids t.ties r par v)) + rs (fun c => G c) (kids t.ties r par v)) (List.range t.n) = rs G (List.range t.n) := rs_congr fun v _ => by grind
    rw [e3] at this
    grind
  have s3 : rs G (List.range t.n) - rs (fun c => if c = r then 0 else G c) (List.range t.n) = G r := by
    have := rs_add (fun c => if c = r then 0 else G c) (fun c => if c = r then G r else 0) (List.range t.n)
    have e3 : rs (fun c => (if c = r then 0 else G c) + (if c = r then G r else 0)) (List.range t.n) = rs G (List.range t.n) := rs_congr fun c _ => by
      by_cases e : c = r
      · rw [if_pos e, if_pos e, e]; grind
      · rw [if_neg e, if_neg e]; grind
    rw [e3, rs_pick (f := fun c => if c = r then G r else 0) (p := r) List.nodup_range (List.mem_range.mpr R.root) fun i _ ne => if_neg ne] at this
    simp only [if_true] at this
    grind
  have s4 : rs (fun v => if top ≠ r ∧ par top = v then G top else 0) (List.range t.n) = if top = r then 0 else G top := by
    by_cases e : top = r
    · rw [if_pos e]
      exact rs_zero fun v _ => if_neg fun z => z.1 e
    · rw [if_neg e, rs_pick (p := par top) List.nodup_range (List.mem_range.mpr (R.up top ht e).1) fun v _ ne => if_neg fun z => ne z.2.symm]
      exact if_pos ⟨e, rfl⟩
  rw [s2, s3, s4] at s1
  rw [s1, ← Gin top wt']
  by_cases e : top = r
  · rw [if_pos e, e]; grind
  · rw [if_neg e, Gout r fun z => ?_]
    · grind
    · rw [way_root R] at z
      simp at z
      exact e z
end
end MT
/-! math.lcm of wide integers -/
namespace Y
open PySem PySem.Spec PyProof.Rows L2
def rLcm : List V → Hp → VK → Prop := fun vs H Q => ∃ a b : Int, vs = [.int a, .int b] ∧ a.natAbs ≤ 2 ^ 9000 ∧ b.natAbs ≤ 2 ^ 9000 ∧ Q (.int ((Nat.lcm a.natAbs b.natAbs : Nat) : Int)) H
theorem cr_lcm {X : Cx} : CallR X (.builtin "math.lcm") rLcm := by
  intro pins s σ H vs us Q I r h
  obtain ⟨a, b, rfl, ha, hb, q⟩ := h
  obtain ⟨t, u, rfl⟩ := Vals.int2 r
  have one : (1 : Nat) ≤ 2 ^ 9000 := Nat.one_le_two_pow
  have up : (2 : Nat) ^ 9000 < 2 ^ 9001 := Nat.pow_lt_pow_right (by omega) (by omega)
  have h1 : (max 1 a.natAbs).log2 ≤ 9000 := PySem.W.mg_log (Nat.lt_of_le_of_lt (Nat.max_le.mpr ⟨one, ha⟩) up)
  have h2 : (max a.natAbs b.natAbs).log2 ≤ 9000 := PySem.W.mg_log (Nat.lt_of_le_of_lt (Nat.max_le.mpr ⟨ha, hb⟩) up)
  have hm : a.natAbs.lcm b.natAbs ≤ 2 ^ 18000 := Nat.le_trans (PySem.W.mc_lcm_le _ _) (by rw [show 18000 = 9000 + 9000 from rfl, Nat.pow_add]; exact Nat.mul_le_mul ha hb)
  have hsz : ((((Nat.lcm 1 a.natAbs).lcm b.natAbs : Nat) : Int)).natAbs.log2 < bitsLine := by
    rw [PySem.W.mc_lcm_one, Int.natAbs_natCast]
    have : (a.natAbs.lcm b.natAbs).log2 ≤ 18000 := PySem.W.mg_log (Nat.lt_of_le_of_lt hm (Nat.pow_lt_pow_right (by omega) (by omega)))
    have : (18000 : Nat) < bitsLine := by decide
    omega
  have g := (PySem.W.mg_run_lcm a t b u (by omega) (by omega) hsz)
  rw [PySem.W.mc_lcm_one] at g
  exact PySem.call_function_meets PySem.W.MGF.kind_lcm PySem.W.MGF.plain_lcm PySem.W.MGF.entry_lcm (PySem.W.MGF.args_lcm _ _) g.meets ⟨.int _, H, I.tok _, ⟨_, rfl⟩, q⟩
end Y
namespace MT
open Y
theorem pos_neg {t : Tr} (T : Tree t) {r : Nat} {par dep : Nat → Nat} {X : Nat → Option Rat} {D N : Nat → Int} (R : TM.Rooted t.n (adjT t.ties) r par dep) (hDN : DN t.n (fun v => -wt t v) (kids t.ties r par) D N) (h : SV t r par X) : Pos t ↔ ∀ v, v < t.n → ∃ x, X v = some x ∧ x < 0 := by
  obtain ⟨ok, ho⟩ := fok_made R D
  rw [← allD_neg R hDN h ho]
  exact ⟨fun P v hv => pos_D T R hDN P v hv, fun a => pos_of T R hDN a⟩
theorem pos_wt {t : Tr} (T : Tree t) (P : Pos t) {v : Nat} (hv : v < t.n) : wt t v < 0 := by
  obtain ⟨par, dep, R⟩ := T.tree v hv
  obtain ⟨D, N, hDN⟩ := dn_made R (fun v => -wt t v) (kids t.ties v par) fun u hu c hc => (kids_mem R hu c).mp hc
  obtain ⟨X, hX⟩ := sv_made R
  exact neg_wt hX R ((pos_neg T R hDN hX).mp P) hv
end MT
namespace Y
open PySem PySem.Spec PyProof.Rows L2
def sp_aboveX (k : Nat) (K : PySem.W.Frag) : Sp := fun vs H Q _ => ∃ L tv nv t r par dep D N, ∃ v : Nat, ∃ last : Int, vs = [tv, nv, .int v, .int last] ∧ Trk H L ∧ Bt t ∧ Dp K (wo H L) tv (trD t) ∧ Dp K (wo H L) nv (llD (nbs t)) ∧ TM.Rooted t.n (adjT t.ties) r par dep ∧ last = lastOf r par v ∧
  v < t.n ∧ t.n ≤ dep v + k ∧ MT.DN t.n (fun v => -MT.wt t v) (kids t.ties r par) D N ∧ ∀ b H', Same H H' → (b = true ↔ ∀ u, u < t.n → v ∈ TM.way par dep u → 0 < D u) → Q (.bl b) H'
def sp_belowX (K : PySem.W.Frag) : Sp := fun vs H Q _ => ∃ L tv t, vs = [tv] ∧ Trk H L ∧ Bt t ∧ Dp K (wo H L) tv (trD t) ∧ ∀ b H', Same H H' → (b = true ↔ MT.Pos t) → Q (.bl b) H'
end Y
namespace Y
open PySem PySem.Spec PyProof.Rows L2
def sp_law_raised (K : PySem.W.Frag) : Sp := fun vs H Q _ => ∃ L tv t, ∃ s : Nat, vs = [tv, .int (s : Int)] ∧ Trk H L ∧ Tree t ∧ s < t.n ∧ Dp K (wo H L) tv (trD t) ∧ Ret K H L (trD ⟨t.ws.set s (MT.wt t s + 1), t.ties⟩) Q
end Y
/-! sizes of what hangs on a place -/
namespace MT
open Y
def sn (f : Nat → Nat) (l : List Nat) : Nat := (l.map f).foldr (· + ·) 0
theorem sn_cons (f : Nat → Nat) (x : Nat) (l : List Nat) : sn f (x :: l) = f x + sn f l := rfl
theorem sz_made {t : Tr} {r : Nat} {par dep : Nat → Nat} (R : TM.Rooted t.n (adjT t.ties) r par dep) : ∃ z : Nat → Nat, ∀ v, v < t.n → z v = 1 + sn z (kids t.ties r par v) := by
  let F : Nat → Nat → Nat := fun k => Nat.rec (fun _ => 0) (fun _ f v => 1 + sn f (kids t.ties r par v)) k
  refine ⟨fun v => F (t.n - dep v) v, fun v hv => ?_⟩
  have hd := TM.dep_lt R hv
  obtain ⟨k, e⟩ : ∃ k, t.n - dep v = k + 1 := ⟨t.n - dep v - 1, by omega⟩
  show F (t.n - dep v) v = _
  rw [e]
  show 1 + sn (F k) (kids t.ties r par v) = 1 + sn (fun v => F (t.n - dep v) v) (kids t.ties r par v)
  congr 1
  have : ∀ l : List Nat, (∀ c ∈ l, c ∈ kids t.ties r par v) → sn (F k) l = sn (fun v => F (t.n - dep v) v) l := fun l => by
    induction l with
    | nil => intro _; rfl
    | cons c l ih =>
      intro hl
      obtain ⟨h1, h2, h3⟩ := (kids_mem R hv c).mp (hl c (by simp))
      have := (R.up c h1 h2).2
      rw [h3] at this
      rw [sn_cons, sn_cons, ih fun d m => hl d (by simp [m])]
      show F k c + _ = F (t.n - dep c) c + _
      rw [show t.n - dep c = k by omega]
  exact this _ fun c m => m
theorem fold_sz {D N : Nat → Int} {z : Nat → Nat} : ∀ (l : List Nat) (s : Int × Int) (e m : Nat), (∀ c ∈ l, (D c).natAbs ≤ 2 ^ (11 * z c) ∧ (N c).natAbs ≤ 2 ^ (11 * z c)) → s.1.natAbs ≤ m * 2 ^ e → s.2.natAbs ≤ 2 ^ e →
    (l.foldl (kf D N) s).1.natAbs ≤ (m + l.length) * 2 ^ (e + 11 * sn z l) ∧ (l.foldl (kf D N) s).2.natAbs ≤ 2 ^ (e + 11 * sn z l)
  | [], s, e, m, _, h1, h2 => ⟨by simpa [sn] using h1, by simpa [sn] using h2⟩
  | c :: l, s, e, m, hl, h1, h2 => by
    obtain ⟨d1, d2⟩ := hl c (by simp)
    have k2 : (kf D N s c).2.natAbs ≤ 2 ^ (e + 11 * z c) := mul_le h2 d1
    have k1 : (kf D N s c).1.natAbs ≤ (m + 1) * 2 ^ (e + 11 * z c) := by
      show (s.1 * D c - s.2 * N c).natAbs ≤ _
      have a : (s.1 * D c).natAbs ≤ m * 2 ^ (e + 11 * z c) := by
        rw [Int.natAbs_mul, Nat.pow_add, ← Nat.mul_assoc]
        exact Nat.mul_le_mul h1 d1
      have b : (s.2 * N c).natAbs ≤ 2 ^ (e + 11 * z c) := mul_le h2 d2
      have : (s.1 * D c - s.2 * N c).natAbs ≤ (s.1 * D c).natAbs + (s.2 * N c).natAbs := by omega
      rw [Nat.add_mul, Nat.one_mul]
      omega
    obtain ⟨a, b⟩ := fold_sz l (kf D N s c) (e + 11 * z c) (m + 1) (fun d m => hl d (by simp [m])) k1 k2
    rw [List.foldl_cons, sn_cons]
    have ee : e + 11 * (z c + sn z l) = e + 11 * z c + 11 * sn z l := by omega
    rw [ee]
    exact ⟨by rw [List.length_cons]; rw [show m + (l.length + 1) = m + 1 + l.length by omega]; exact a, b⟩
theorem dn_sz {t : Tr} {r : Nat} {par dep : Nat → Nat} {D N : Nat → Int} {z : Nat → Nat} (B : Bt t) (R : TM.Rooted t.n (adjT t.ties) r par dep) (h : DN t.n (fun v => -wt t v) (kids t.ties r par) D N) (hz : ∀ v, v < t.n → z v = 1 + sn z (kids t.ties r par v)) : ∀ k v, v < t.n → t.n ≤ dep v + k → (D v).natAbs ≤ 2 ^ (11 * z v) ∧ (N v).natAbs ≤ 2 ^ (11 * (z v - 1))
  | 0, v, hv, hd => by have := TM.dep_lt R hv; omega
  | k + 1, v, hv, hd => by
    have kid : ∀ c ∈ kids t.ties r par v, (D c).natAbs ≤ 2 ^ (11 * z c) ∧ (N c).natAbs ≤ 2 ^ (11 * z c) := fun c hc => by
      obtain ⟨h1, h3, h4⟩ := (kids_mem R hv c).mp hc
      have := (R.up c h1 h3).2
      rw [h4] at this
      obtain ⟨a, b⟩ := dn_sz B R h hz k c h1 (by omega)
      exact ⟨a, Nat.le_trans b (Nat.pow_le_pow_right (by omega) (by omega))⟩
    have e := h v hv
    unfold fk at e
    obtain ⟨a, b⟩ := fold_sz (kids t.ties r par v) (-wt t v, 1) 0 (2 ^ 10) kid (by show (-wt t v).natAbs ≤ _; rw [Int.natAbs_neg]; have := B.wt v; simpa using this) (by simp)
    rw [← e] at a b
    have zv := hz v hv
    have few := B.few
    have ll : (kids t.ties r par v).length ≤ 16 := by
      have := TM.nodup_le t.n (kids t.ties r par v) (kids_nodup B.toOkt r par v) fun c hc => ((kids_mem R hv c).mp hc).1
      omega
    have e1 : 0 + 11 * sn z (kids t.ties r par v) = 11 * (z v - 1) := by omega
    rw [e1] at a b
    refine ⟨Nat.le_trans a ?_, b⟩
    have e2 : 11 * z v = 11 + 11 * (z v - 1) := by omega
    rw [e2, Nat.pow_add]
    refine Nat.mul_le_mul ?_ (Nat.le_refl _)
    have : (2 : Nat) ^ 10 = 1024 := by decide
    have : (2 : Nat) ^ 11 = 2048 := by decide
    omega
end MT
namespace MT
open Y
theorem sn_sm (z : Nat → Nat) : ∀ l : List Nat, ((sn z l : Nat) : Int) = sm (fun c => (z c : Int)) l
  | [] => rfl
  | c :: l => by rw [sn_cons, sm_cons, ← sn_sm z l]; omega
theorem sn_mem {z : Nat → Nat} {c : Nat} : ∀ {l : List Nat}, c ∈ l → z c ≤ sn z l
  | [], m => by simp at m
  | x :: l, m => by
    rw [sn_cons]
    rcases List.mem_cons.mp m with e | m
    · rw [e]; omega
    · have := sn_mem (z := z) m; omega
/-- all that hangs on a place: as many places as there are, at most -/
theorem sz_le {t : Tr} {r : Nat} {par dep : Nat → Nat} {z : Nat → Nat} (T : Tree t) (R : TM.Rooted t.n (adjT t.ties) r par dep) (hz : ∀ v, v < t.n → z v = 1 + sn z (kids t.ties r par v)) : ∀ k v, v < t.n → dep v = k → z v ≤ t.n
  | 0, v, hv, hd => by
    have e : v = r := Classical.byContradiction fun h => by have := (R.up v hv h).2; omega
    subst e
    have ks := kid_sum T R (fun c _ => (z c : Int))
    have e1 : sm (fun u => (z u : Int)) (List.range t.n) = sm (fun u => 1 + sm (fun c => (z c : Int)) (kids t.ties v par u)) (List.range t.n) := by
      refine sm_congr fun u hu => ?_
      rw [hz u (List.mem_range.mp hu), ← sn_sm]
      omega
    rw [sm_add, ks] at e1
    have e2 : sm (fun v => (z v : Int)) (List.range t.n) = sm (fun c => if c = v then 0 else (z c : Int)) (List.range t.n) + (z v : Int) := by
      have := sm_one (f := fun c => (z c : Int)) (f' := fun c => if c = v then 0 else (z c : Int)) List.nodup_range (List.mem_range.mpr hv) fun x _ ne => (if_neg ne).symm
      rw [this]
      simp
    have e3 : sm (fun _ => (1 : Int)) (List.range t.n) = (t.n : Int) := by
      have : ∀ l : List Nat, sm (fun _ => 1) l = (l.length : Int) := fun l => by
        induction l with
        | nil => rfl
        | cons x l ih => rw [sm_cons, ih, List.length_cons]; omega
      rw [this, List.length_range]
    omega
  | k + 1, v, hv, hd => by
    have ne : v ≠ r := fun h => by rw [h, R.dep0] at hd; omega
    obtain ⟨h1, h2⟩ := R.up v hv ne
    have := sz_le T R hz k (par v) h1 (by omega)
    have e := hz (par v) h1
    have := sn_mem (z := z) ((kids_mem R h1 v).mpr ⟨hv, ne, rfl⟩)
    omega
/-- the determinants of all that hangs on a place but one -/
theorem pd_sz {t : Tr} {D : Nat → Int} {z : Nat → Nat} : ∀ {l : List Nat}, (∀ c ∈ l, (D c).natAbs ≤ 2 ^ (11 * z c)) → (pd D l).natAbs ≤ 2 ^ (11 * sn z l)
  | [], _ => by rw [pd_nil]; exact Nat.one_le_two_pow
  | c :: l, h => by
    rw [pd_cons, sn_cons, Nat.mul_add]
    exact mul_le (h c (by simp)) (pd_sz (t := t) fun d m => h d (by simp [m]))
theorem sn_out {z : Nat → Nat} {c : Nat} : ∀ {l : List Nat}, l.Nodup → c ∈ l → sn z (l.filter fun d => decide (d ≠ c)) + z c = sn z l
  | [], _, m => by simp at m
  | x :: l, nd, m => by
    have nd' := List.nodup_cons.mp nd
    by_cases e : x = c
    · subst e
      have : (x :: l).filter (fun d => decide (d ≠ x)) = l := by
        rw [List.filter_cons_of_neg (by simp)]
        exact List.filter_eq_self.mpr fun d hd => decide_eq_true fun z => nd'.1 (by rw [← z]; exact hd)
      rw [this, sn_cons]; omega
    · have m' : c ∈ l := by
        rcases List.mem_cons.mp m with y | y
        · exact absurd y.symm e
        · exact y
      rw [List.filter_cons_of_pos (by simp [e]), sn_cons, sn_cons]
      have := sn_out (z := z) nd'.2 m'
      omega
end MT
namespace MT
open Y
/-- off the way from top: the product of the determinants -/
theorem off_made {t : Tr} {r : Nat} {par dep : Nat → Nat} {D N : Nat → Int} {z : Nat → Nat} (B : Bt t) (R : TM.Rooted t.n (adjT t.ties) r par dep) (h : DN t.n (fun v => -wt t v) (kids t.ties r par) D N) (hz : ∀ v, v < t.n → z v = 1 + sn z (kids t.ties r par v)) {top : Nat} (ht : top < t.n) :
    ∃ O : Nat → Int, O top = 1 ∧ (∀ c, c < t.n → top ∈ TM.way par dep c → c ≠ top → c ≠ r ∧ top ∈ TM.way par dep (par c) ∧ O c = O (par c) * pd D ((kids t.ties r par (par c)).filter fun d => decide (d ≠ c))) ∧
    ∀ k v, v < t.n → dep v = k → top ∈ TM.way par dep v → z v ≤ z top ∧ (O v).natAbs ≤ 2 ^ (11 * (z top - z v)) := by
  let F : Nat → Nat → Int := fun k => Nat.rec (fun _ => 1) (fun _ f v => if v = top then 1 else f (par v) * pd D ((kids t.ties r par (par v)).filter fun d => decide (d ≠ v))) k
  have one : F (dep top) top = 1 := by
    cases e : dep top with
    | zero => rfl
    | succ k => exact if_pos rfl
  have next : ∀ c, c < t.n → top ∈ TM.way par dep c → c ≠ top → c ≠ r ∧ top ∈ TM.way par dep (par c) ∧ F (dep c) c = F (dep (par c)) (par c) * pd D ((kids t.ties r par (par c)).filter fun d => decide (d ≠ c)) := fun c hc m ne => by
    have nr : c ≠ r := fun e => by
      rw [e, way_root R] at m
      simp at m
      rw [← e] at m
      exact ne m.symm
    refine ⟨nr, ?_, ?_⟩
    · rw [way_cons R hc nr, List.mem_cons] at m
      exact m.resolve_left (Ne.symm ne)
    · rw [(R.up c hc nr).2]
      exact if_neg ne
  refine ⟨fun v => F (dep v) v, one, next, fun k => ?_⟩
  have dz := dn_sz B R h hz
  induction k with
  | zero =>
    intro v hv hd m
    have e : v = r := Classical.byContradiction fun y => by have := (R.up v hv y).2; omega
    subst e
    rw [way_root R] at m
    simp at m
    subst m
    show z top ≤ z top ∧ (F (dep top) top).natAbs ≤ _
    rw [one]
    exact ⟨Nat.le_refl _, Nat.one_le_two_pow⟩
  | succ k ih =>
    intro v hv hd m
    show z v ≤ z top ∧ (F (dep v) v).natAbs ≤ _
    by_cases e : v = top
    · subst e
      rw [one]
      exact ⟨Nat.le_refl _, Nat.one_le_two_pow⟩
    · obtain ⟨nr, m2, e2⟩ := next v hv m e
      obtain ⟨h1, h2⟩ := R.up v hv nr
      obtain ⟨i1, i2⟩ := ih (par v) h1 (by omega) m2
      have i2 : (F (dep (par v)) (par v)).natAbs ≤ 2 ^ (11 * (z top - z (par v))) := i2
      have km := (kids_mem R h1 v).mpr ⟨hv, nr, rfl⟩
      have so := sn_out (z := z) (kids_nodup B.toOkt r par (par v)) km
      have zp := hz (par v) h1
      have pb := pd_sz (t := t) (D := D) (z := z) (l := (kids t.ties r par (par v)).filter fun d => decide (d ≠ v)) fun c hc => (dz _ c ((kids_mem R h1 c).mp (List.mem_filter.mp hc).1).1 (Nat.le_add_left _ _)).1
      rw [e2]
      refine ⟨by omega, Nat.le_trans (mul_le i2 pb) (Nat.pow_le_pow_right (by omega) (by omega))⟩
end MT
namespace MT
open Y
theorem rs_cast (f : Nat → Int) : ∀ l : List Nat, ((sm f l : Int) : Rat) = rs (fun v => (f v : Rat)) l
  | [] => rfl
  | x :: l => by rw [sm_cons, rs_cons, ← rs_cast f l, Rat.intCast_add]
/-- the form of a whole row that is a multiple of another -/
theorem form_int {t : Tr} {r : Nat} {par dep : Nat → Nat} (T : Tree t) (R : TM.Rooted t.n (adjT t.ties) r par dep) {y : Nat → Int} {x : Nat → Rat} {cm : Rat} (hy : ∀ v, v < t.n → (y v : Rat) = cm * x v) :
    ((sm (fun k => y k * rowE t y k) (List.range t.n) : Int) : Rat) = (cm * cm) * (rs (fun v => (wt t v : Rat) * (x v * x v)) (List.range t.n) + rs (fun v => if v = r then 0 else 2 * (x v * x (par v))) (List.range t.n)) := by
  rw [sm_row T.toOkt, sT_rooted T R, Rat.intCast_add, rs_cast, rs_cast]
  have e1 : rs (fun v => ((wt t v * y v * y v : Int) : Rat)) (List.range t.n) = (cm * cm) * rs (fun v => (wt t v : Rat) * (x v * x v)) (List.range t.n) := by
    rw [← rs_mul]
    refine rs_congr fun v hv => ?_
    have := hy v (List.mem_range.mp hv)
    simp only [Rat.intCast_mul]
    rw [this]
    grind
  have e2 : rs (fun v => ((if v = r then 0 else y (par v) * y v + y v * y (par v) : Int) : Rat)) (List.range t.n) = (cm * cm) * rs (fun v => if v = r then 0 else 2 * (x v * x (par v))) (List.range t.n) := by
    rw [← rs_mul]
    refine rs_congr fun v hv => ?_
    have hv := List.mem_range.mp hv
    by_cases e : v = r
    · rw [if_pos e, if_pos e]
      have : ((0 : Int) : Rat) = 0 := rfl
      rw [this]; grind
    · rw [if_neg e, if_neg e]
      have a := hy v hv
      have b := hy (par v) (R.up v hv e).1
      simp only [Rat.intCast_mul, Rat.intCast_add]
      rw [a, b]
      grind
  rw [e1, e2]
  grind
end MT
/-! a dict of places with data, and the shown cycle -/
namespace Y
open PySem PySem.Spec PyProof.Rows L2
def zK (E : List Nat) (vs : List V) : List (Key × V) := (E.map fun (v : Nat) => (Sum.inl (v : Int) : Key)).zip vs
theorem zK_len {E : List Nat} {vs : List V} (h : vs.length = E.length) : (zK E vs).length = E.length := by
  unfold zK
  rw [List.length_zip, List.length_map, h, Nat.min_self]
theorem zK_snoc {E : List Nat} {vs : List V} (h : vs.length = E.length) (v : Nat) (x : V) : zK (E ++ [v]) (vs ++ [x]) = zK E vs ++ [(Sum.inl (v : Int), x)] := by
  unfold zK
  rw [List.map_append, List.zip_append (by rw [List.length_map, h])]
  rfl
theorem zK_none {E : List Nat} {vs : List V} {v : Nat} (h : v ∉ E) : valV (zK E vs) (Sum.inl (v : Int)) = none := by
  unfold valV
  rw [List.find?_eq_none.mpr]
  · rfl
  · intro kv hkv
    unfold zK at hkv
    have := (List.of_mem_zip hkv).1
    obtain ⟨u, hu, e⟩ := List.mem_map.mp this
    simp only [decide_eq_true_eq]
    intro y
    rw [← e] at y
    have y := Sum.inl.inj y
    have : u = v := by omega
    exact h (by rw [← this]; exact hu)
theorem zK_get {E : List Nat} {vs : List V} {i v : Nat} {x : V} (h : E[i]? = some v) (hx : vs[i]? = some x) : (zK E vs)[i]? = some (Sum.inl (v : Int), x) := by
  unfold zK
  rw [List.getElem?_zip_eq_some]
  exact ⟨by rw [List.getElem?_map, h]; rfl, hx⟩
theorem zK_at : ∀ {E : List Nat} {vs : List V} {j v : Nat} {x : V}, E.Nodup → E[j]? = some v → vs[j]? = some x → valV (zK E vs) (Sum.inl (v : Int)) = some x
  | [], _, _, _, _, _, h, _ => by simp at h
  | _ :: _, [], _, _, _, _, _, h => by simp at h
  | u :: E, y :: vs, 0, v, x, nd, h, hx => by
    simp at h hx
    subst h hx
    exact valV_pos rfl
  | u :: E, y :: vs, j + 1, v, x, nd, h, hx => by
    simp at h hx
    have nd' := List.nodup_cons.mp nd
    have ne : ¬ ((Sum.inl (u : Int) : Key) = Sum.inl (v : Int)) := fun e => by
      have e := Sum.inl.inj e
      have : u = v := by omega
      exact nd'.1 (by rw [this]; exact List.mem_of_getElem? h)
    have := zK_at (j := j) nd'.2 h hx
    unfold zK at this ⊢
    rw [List.map_cons, List.zip_cons_cons, valV_neg ne]
    exact this
theorem rt_lin {a b : Int} (hb : b ≠ 0) : (rt a b).1 * b = a * (rt a b).2 := by
  obtain ⟨c, e1, e2⟩ := (rt_ok (a := a) hb).ex
  generalize (rt a b).1 = x at *
  generalize (rt a b).2 = y at *
  rw [e1, e2]; grind
theorem rt_pos {a b : Int} (hb : b ≠ 0) : 1 ≤ (rt a b).2 := (rt_ok (a := a) hb).pos
end Y
namespace MT
open Y
theorem grow_up {r : Nat} {par : Nat → Nat} {S : List Nat} (G : Grow r par S) : ∀ i v, S[i]? = some v → v ≠ r → par v ∈ S.take i := by
  induction G with
  | one =>
    intro i v hv ne
    cases i with
    | zero => cases hv; exact absurd rfl ne
    | succ i => cases hv
  | @more S w G hw nr hp ih =>
    intro i v hv ne
    by_cases hi : i < S.length
    · rw [List.getElem?_append_left hi] at hv
      rw [List.take_append_of_le_length (by omega)]
      exact ih i v hv ne
    · rw [List.getElem?_append_right (by omega)] at hv
      have e0 : i - S.length = 0 := by
        have := (List.getElem?_eq_some_iff.mp hv).1
        simp at this
        omega
      rw [e0] at hv
      cases hv
      have : i = S.length := by omega
      rw [this, List.take_left']
      · exact hp
      · rfl
section
variable {t : Tr} {r : Nat} {par dep : Nat → Nat} {D N : Nat → Int} {ok : Nat → Bool}
theorem cyc_made (B : Bt t) (R : TM.Rooted t.n (adjT t.ties) r par dep) (h : DN t.n (fun v => -wt t v) (kids t.ties r par) D N) (ho : FOK t.n (kids t.ties r par) D ok) {top : Nat} (ht : top < t.n) (o : ok top = true) :
    ∃ M : Nat → Int, M top = N top ∧ ∀ k v, v < t.n → dep v = k → top ∈ TM.way par dep v → ok v = true ∧ N v ≠ 0 ∧ (M v).natAbs ≤ 2 ^ 352 ∧ ((N v).natAbs ≤ 2 ^ 176 ∧ (D v).natAbs ≤ 2 ^ 176) ∧ (v ≠ top → v ≠ r ∧ top ∈ TM.way par dep (par v) ∧ D v ≠ 0 ∧ M v * D v = M (par v) * N v) := by
  obtain ⟨z, hz⟩ := sz_made R
  obtain ⟨O, o1, o2, o3⟩ := off_made B R h hz ht
  have few := B.few
  have ds := dn_sz B R h hz
  refine ⟨fun v => O v * N v, by show O top * N top = _; rw [o1]; omega, fun k => ?_⟩
  have bd : ∀ v, v < t.n → top ∈ TM.way par dep v → (O v * N v).natAbs ≤ 2 ^ 352 ∧ (N v).natAbs ≤ 2 ^ 176 ∧ (D v).natAbs ≤ 2 ^ 176 := fun v hv m => by
    have a := (o3 _ v hv rfl m).2
    have b := (ds _ v hv (Nat.le_add_left _ _)).2
    have b2 := (ds _ v hv (Nat.le_add_left _ _)).1
    have z1 := sz_le B.toTree R hz _ v hv rfl
    have z2 := sz_le B.toTree R hz _ top ht rfl
    have b' : (N v).natAbs ≤ 2 ^ 176 := Nat.le_trans b (Nat.pow_le_pow_right (by omega) (by omega))
    have a' : (O v).natAbs ≤ 2 ^ 176 := Nat.le_trans a (Nat.pow_le_pow_right (by omega) (by omega))
    exact ⟨mul_le (i := 176) (j := 176) a' b', b', Nat.le_trans b2 (Nat.pow_le_pow_right (by omega) (by omega))⟩
  induction k with
  | zero =>
    intro v hv hd m
    have e : v = r := Classical.byContradiction fun y => by have := (R.up v hv y).2; omega
    have et : v = top := by
      rw [e, way_root R] at m
      simp at m
      rw [e, m]
    subst et
    exact ⟨o, ok_N h ho hv o, (bd v hv m).1, (bd v hv m).2, fun ne => absurd rfl ne⟩
  | succ k ih =>
    intro v hv hd m
    by_cases et : v = top
    · subst et
      exact ⟨o, ok_N h ho hv o, (bd v hv m).1, (bd v hv m).2, fun ne => absurd rfl ne⟩
    · obtain ⟨nr, m2, e2⟩ := o2 v hv m et
      obtain ⟨h1, h2⟩ := R.up v hv nr
      obtain ⟨i1, i2, i3, i4, i5⟩ := ih (par v) h1 (by omega) m2
      have km := (kids_mem R h1 v).mpr ⟨hv, nr, rfl⟩
      obtain ⟨ov, dv⟩ := (ho (par v) h1).mp i1 v km
      refine ⟨ov, ok_N h ho hv ov, (bd v hv m).1, (bd v hv m).2, fun _ => ⟨nr, m2, dv, ?_⟩⟩
      have ep := dn_N h h1
      rw [pd_split (kids_nodup B.toOkt r par (par v)) km] at ep
      show O v * N v * D v = O (par v) * N (par v) * N v
      rw [e2, ep]
      grind
theorem cyc_form (T : Tree t) (R : TM.Rooted t.n (adjT t.ties) r par dep) (h : DN t.n (fun v => -wt t v) (kids t.ties r par) D N) (ho : FOK t.n (kids t.ties r par) D ok) {top : Nat} (ht : top < t.n) {M : Nat → Int} (hM : M top = N top)
    (hm : ∀ v, v < t.n → top ∈ TM.way par dep v → ok v = true ∧ N v ≠ 0 ∧ (v ≠ top → top ∈ TM.way par dep (par v) ∧ v ≠ r ∧ D v ≠ 0 ∧ M v * D v = M (par v) * N v)) (sg : 0 ≤ (rt (-D top) (N top)).1)
    {y : Nat → Int} {cm : Int} (hy : ∀ v, v < t.n → y v * N top = cm * if top ∈ TM.way par dep v then M v else 0) : 0 ≤ sm (fun k => y k * rowE t y k) (List.range t.n) := by
  obtain ⟨X, hX⟩ := sv_made R
  have wt' : top ∈ TM.way par dep top := way_self R top
  have n0 := (hm top ht wt').2.1
  have n0' : (N top : Rat) ≠ 0 := by
    intro e
    have : N top = 0 := by exact_mod_cast e
    exact n0 this
  let x : Nat → Rat := fun v => if top ∈ TM.way par dep v then (M v : Rat) / (N top : Rat) else 0
  let f : Nat → Rat := fun v => ((-D v : Int) : Rat) / (N v : Rat)
  have xin : ∀ v, top ∈ TM.way par dep v → x v = (M v : Rat) / (N top : Rat) := fun v m => if_pos m
  have xout : ∀ v, top ∉ TM.way par dep v → x v = 0 := fun v m => if_neg m
  have key := form_int T R (y := y) (x := x) (cm := (cm : Rat)) fun v hv => by
    have e := hy v hv
    have e : ((y v * N top : Int) : Rat) = ((cm * if top ∈ TM.way par dep v then M v else 0 : Int) : Rat) := by rw [e]
    rw [Rat.intCast_mul, Rat.intCast_mul] at e
    by_cases m : top ∈ TM.way par dep v
    · rw [xin v m]
      rw [if_pos m] at e
      grind
    · rw [xout v m]
      rw [if_neg m] at e
      have z : ((0 : Int) : Rat) = 0 := rfl
      rw [z] at e
      grind
  have ft := form_top T.toOkt R hX ht (f := f) (x := x) (fun v hv m => by
    obtain ⟨k1, k2, k3⟩ := hm v hv m
    obtain ⟨a, b⟩ := ok_val R h hX ho _ v hv (Nat.le_add_left _ _) k1
    refine ⟨a, fun ne => ?_⟩
    obtain ⟨c1, c2, c3, c4⟩ := k3 ne
    have nv : (N v : Rat) ≠ 0 := by
      intro e
      have : N v = 0 := by exact_mod_cast e
      exact k2 this
    have dv : (D v : Rat) ≠ 0 := by
      intro e
      have : D v = 0 := by exact_mod_cast e
      exact c3 this
    have ef : f v = -(D v : Rat) / (N v : Rat) := by
      show ((-D v : Int) : Rat) / (N v : Rat) = _
      rw [Rat.intCast_neg]
    have c4 : ((M v * D v : Int) : Rat) = ((M (par v) * N v : Int) : Rat) := by rw [c4]
    rw [Rat.intCast_mul, Rat.intCast_mul] at c4
    have f0 : f v ≠ 0 := by rw [ef]; grind
    refine ⟨f0, ?_⟩
    rw [xin v m, xin (par v) c1]
    have inv : (f v)⁻¹ = -(N v : Rat) / (D v : Rat) := by
      have : f v * (-(N v : Rat) / (D v : Rat)) = 1 := by rw [ef]; grind
      have i := Rat.mul_inv_cancel (f v) f0
      grind
    rw [inv]
    grind) fun v hv m => xout v m
  rw [ft, xin top wt', hM] at key
  have e1 : (N top : Rat) / (N top : Rat) = 1 := by grind
  rw [e1] at key
  have f0 : 0 ≤ f top := by
    obtain ⟨s1, s2, s3⟩ := rt_sg (a := -D top) n0
    have : ¬ (f top < 0) := fun z => by have := s1.mpr z; omega
    grind
  have sq : (0 : Rat) ≤ (cm : Rat) * (cm : Rat) := by
    rcases r_tri (cm : Rat) with z | z | z
    · have := Rat.mul_pos (a := -(cm : Rat)) (b := -(cm : Rat)) (by grind) (by grind)
      grind
    · rw [z]; grind
    · have := Rat.mul_pos (a := (cm : Rat)) (b := (cm : Rat)) z z
      grind
  have : (0 : Rat) ≤ ((sm (fun k => y k * rowE t y k) (List.range t.n) : Int) : Rat) := by
    rw [key]
    have := Rat.mul_nonneg sq f0
    grind
  exact_mod_cast this
end
end MT
namespace Y
open PySem PySem.Spec PyProof.Rows L2
def sp_cycle_behind (K : PySem.W.Frag) : Sp := fun vs H Q _ => ∃ L tv nv t par dep D N ok, ∃ top : Nat, vs = [tv, .int (top : Int), nv] ∧ Trk H L ∧ Bt t ∧ Dp K (wo H L) tv (trD t) ∧ TM.Rooted t.n (adjT t.ties) 0 par dep ∧
  MT.DN t.n (fun v => -MT.wt t v) (kids t.ties 0 par) D N ∧ MT.FOK t.n (kids t.ties 0 par) D ok ∧ Dp K (wo H L) nv (.tuple ((List.range t.n).map (foX ok D N))) ∧ top < t.n ∧ ok top = true ∧ 0 ≤ (rt (-D top) (N top)).1 ∧
  ∀ ys, Cy t ys → 0 ≤ prE t ys ys → (∃ v, v < t.n ∧ en ys v ≠ 0) → Ret K H L (.tuple (iD ys)) Q
/-- none below zero, else a cycle that shows it -/
def sp_not_below (K : PySem.W.Frag) : Sp := fun vs H Q _ => ∃ L tv t, vs = [tv] ∧ Trk H L ∧ Bt t ∧ Dp K (wo H L) tv (trD t) ∧ (MT.Pos t → ∀ H', Same H H' → Q .non H') ∧
  (¬ MT.Pos t → ∀ ys, Cy t ys → 0 ≤ prE t ys ys → (∃ v, v < t.n ∧ en ys v ≠ 0) → Ret K H L (.tuple (iD ys)) Q)
def sp_law_is_shown (K : PySem.W.Frag) : Sp := fun vs H Q _ => ∃ m c cs b tv t, vs = [.ref m, tv] ∧ Trk H [m] ∧ MAt H m c cs b ∧ Bt t ∧ b + 200 < 1000000 ∧ Dp K (wo H [m]) tv (trD t) ∧ ∀ H', SameM m H H' → MAt H' m c cs (b + 200) → Q (.bl true) H'
end Y
namespace Y
open PySem PySem.Spec PyProof.Rows L2
theorem zK_out {E : List Nat} {vs : List V} {k : Int} (h : ∀ u ∈ E, (u : Int) ≠ k) : valV (zK E vs) (Sum.inl k) = none := by
  unfold valV
  rw [List.find?_eq_none.mpr]
  · rfl
  · intro kv hkv
    unfold zK at hkv
    obtain ⟨u, hu, e⟩ := List.mem_map.mp (List.of_mem_zip hkv).1
    simp only [decide_eq_true_eq]
    intro y
    rw [← e] at y
    exact h u hu (Sum.inl.inj y)
theorem rt_self {a : Int} (h : a ≠ 0) : rt a a = (1, 1) := by rw [rt_eq (c := 1) (d := 1) h (by decide) (by omega), rt_one]
theorem upd_back {H : Hp} {a : Addr} {o u : HO} (h : H a = some u) : upd (upd H a o) a u = H := by
  funext b
  by_cases e : b = a
  · rw [e, upd_same, h]
  · rw [upd_ne e, upd_ne e]
end Y
namespace Y
open PySem PySem.Spec PyProof.Rows L2
theorem zK_getV {E : List Nat} {vs : List V} {i : Nat} {k : Key} {x : V} (h : (zK E vs)[i]? = some (k, x)) : ∃ v, E[i]? = some v ∧ vs[i]? = some x ∧ k = Sum.inl (v : Int) := by
  unfold zK at h
  rw [List.getElem?_zip_eq_some] at h
  obtain ⟨h1, h2⟩ := h
  rw [List.getElem?_map] at h1
  cases e : E[i]? with
  | none => rw [e] at h1; cases h1
  | some v => rw [e] at h1; exact ⟨v, rfl, h2, (Option.some.inj h1).symm⟩
theorem en_map {n : Nat} {f : Nat → Int} {v : Nat} (h : v < n) : en ((List.range n).map f) v = f v := by
  unfold en
  simp [List.getD_eq_getElem?_getD, h]
theorem rt_dvd {a b : Int} (hb : b ≠ 0) : (rt a b).2.natAbs ∣ b.natAbs := by
  obtain ⟨c, e1, e2⟩ := (rt_ok (a := a) hb).ex
  exact ⟨c.natAbs, by rw [← Int.natAbs_mul, ← e2]⟩
end Y
namespace Y
theorem divC (i : Int) {j : Int} {c : Nat} (h : j ≠ 0) (hb : j.natAbs ≤ 2 ^ c) (hc : c ≤ 8000) : CDivB i j :=
  ⟨h, Nat.lt_of_le_of_lt (PySem.W.mg_log (Nat.lt_of_le_of_lt hb (Nat.pow_lt_pow_right (by omega) (Nat.lt_succ_self c)))) (by omega)⟩
end Y
namespace Y
open PySem PySem.Spec PyProof.Rows L2
def sp_signsE (K : PySem.W.Frag) : Sp := fun vs H Q _ => ∃ L tv t, vs = [tv] ∧ Trk H L ∧ Bt t ∧ Dp K (wo H L) tv (trD t) ∧ (t.n = 0 → Ret K H L (.tuple [.int 0, .int 0, .int 0]) Q) ∧
  (0 < t.n → ∃ par dep X, TM.Rooted t.n (adjT t.ties) 0 par dep ∧ MT.SV t 0 par X ∧ Ret K H L (.tuple [.int (sgA t X), .int (sgL t X), .int (sgB t X)]) Q)
def sp_is_belowE (K : PySem.W.Frag) : Sp := fun vs H Q _ => ∃ L tv t, vs = [tv] ∧ Trk H L ∧ Bt t ∧ Dp K (wo H L) tv (trD t) ∧ ∀ b H', Same H H' → (b = true ↔ MT.Pos t) → Q (.bl b) H'
end Y
namespace Y
open PySem PySem.Spec PyProof.Rows L2
theorem isi_bl {K : PySem.W.Frag} {H : Hp} {b : Bool} {Q : VK} (q : Q (.bl true) H) : rIsi K [.bl b, .ty "bool"] H Q := ⟨_, _, _, _, true, rfl, .ty _, .base (.bl b), by first | rfl | kernel_rfl, q⟩
theorem nz_nil {xs : List Int} : (xs.filter fun x => decide (x ≠ 0)) = [] ↔ ∀ x ∈ xs, x = 0 := by
  rw [List.filter_eq_nil_iff]
  simp
theorem pr_neg {t : Tr} (B : Bt t) (P : MT.Pos t) {xs : List Int} (hl : xs.length = t.n) : prE t xs xs < 0 ↔ ¬ (xs.filter fun x => decide (x ≠ 0)) = [] := by
  obtain ⟨h1, h2⟩ := MT.pos_form B P (en xs)
  rw [nz_nil]
  have ex : ∀ i (h : i < t.n), en xs i = xs[i]'(by omega) := fun i h => by unfold en; rw [List.getD_eq_getElem?_getD, List.getElem?_eq_getElem (by omega)]; rfl
  constructor
  · intro lt all
    have z : prE t xs xs = 0 := by
      unfold prE
      have : ∀ l : List Nat, (∀ k ∈ l, en xs k = 0) → MT.sm (fun k => en xs k * MT.rowE t (en xs) k) l = 0 := fun l => by
        induction l with
        | nil => intro _; rfl
        | cons x l ih => intro h; rw [MT.sm_cons, ih fun k m => h k (by simp [m]), h x (by simp)]; omega
      refine this _ fun k hk => ?_
      have hk := List.mem_range.mp hk
      rw [ex k hk]
      exact all _ (List.getElem_mem _)
    omega
  · intro ne
    have le : prE t xs xs ≤ 0 := h1
    by_cases z : prE t xs xs = 0
    · refine absurd (fun x hx => ?_) ne
      obtain ⟨i, hi, e⟩ := List.mem_iff_getElem.mp hx
      rw [← e, ← ex i (by omega)]
      exact h2 z i (by omega)
    · omega
end Y
/-! steps where the row is above 0, and where they end -/
namespace MT
open Y
theorem sm_le {f g : Nat → Int} : ∀ {l : List Nat}, (∀ x ∈ l, f x ≤ g x) → sm f l ≤ sm g l
  | [], _ => by rw [sm_nil, sm_nil]; omega
  | x :: l, h => by
    rw [sm_cons, sm_cons]
    have := h x (by simp)
    have := sm_le (l := l) fun y m => h y (by simp [m])
    omega
theorem sm_const (c : Int) : ∀ l : List Nat, sm (fun _ => c) l = c * (l.length : Int)
  | [] => by rw [sm_nil]; simp
  | x :: l => by rw [sm_cons, sm_const c l, List.length_cons]; grind
theorem sm_ge {f : Nat → Int} {p : Nat} : ∀ {l : List Nat}, (∀ x ∈ l, 0 ≤ f x) → p ∈ l → f p ≤ sm f l
  | [], _, m => by simp at m
  | x :: l, h, m => by
    rw [sm_cons]
    have h0 := h x (by simp)
    have hl : 0 ≤ sm f l := by
      have := sm_le (f := fun _ => 0) (g := f) (l := l) fun y m => h y (by simp [m])
      rw [sm_const] at this
      omega
    rcases List.mem_cons.mp m with e | m
    · rw [e]; omega
    · have := sm_ge (f := f) (l := l) (fun y m => h y (by simp [m])) m
      omega
theorem sm_ind {p : Nat} : ∀ {l : List Nat}, l.Nodup → sm (fun u => if u = p then 1 else 0) l = if p ∈ l then 1 else 0
  | [], _ => by simp [sm_nil]
  | x :: l, nd => by
    have nd' := List.nodup_cons.mp nd
    rw [sm_cons, sm_ind nd'.2]
    by_cases e : x = p
    · subst e
      simp [nd'.1]
    · have : p ≠ x := fun z => e z.symm
      simp [e, this]
theorem sm_up {x : Nat → Int} {p n : Nat} (h : p < n) : sm (up x p (x p + 1)) (List.range n) = sm x (List.range n) + 1 := by
  have e : sm (up x p (x p + 1)) (List.range n) = sm (fun u => x u + if u = p then 1 else 0) (List.range n) := sm_congr fun u _ => by
    unfold up
    by_cases z : u = p
    · rw [if_pos z, if_pos z, z]
    · rw [if_neg z, if_neg z]; omega
  rw [e, sm_add, sm_ind List.nodup_range, if_pos (List.mem_range.mpr h)]
def Ge (n : Nat) (x y : Nat → Int) : Prop := ∀ v, v < n → x v ≤ y v
/-- below 0 but where it is free -/
def Bel (t : Tr) (fr : Nat → Bool) (y : Nat → Int) : Prop := ∀ v, v < t.n → fr v = false → rowE t y v ≤ 0
abbrev no : Nat → Bool := fun _ => false
theorem row_le {t : Tr} (O : Okt t) {x y : Nat → Int} (h : Ge t.n x y) {v : Nat} (e : x v = y v) : rowE t x v ≤ rowE t y v := by
  unfold rowE
  rw [e]
  have := sm_le (f := x) (g := y) (l := nb t.ties v) fun u m => h u (nb_lt O m).1
  omega
theorem step_lt {t : Tr} {fr : Nat → Bool} (O : Okt t) {x y : Nat → Int} (h : Ge t.n x y) (b : Bel t fr y) {v : Nat} (hv : v < t.n) (f : fr v = false) (p : 0 < rowE t x v) : x v < y v := by
  have := h v hv
  refine Classical.byContradiction fun z => ?_
  have := row_le O h (show x v = y v by omega)
  have := b v hv f
  omega
theorem step_ge {t : Tr} {fr : Nat → Bool} (O : Okt t) {x y : Nat → Int} (h : Ge t.n x y) (b : Bel t fr y) {v : Nat} (hv : v < t.n) (f : fr v = false) (p : 0 < rowE t x v) : Ge t.n (up x v (x v + 1)) y := fun u hu => by
  have := step_lt O h b hv f p
  unfold up
  by_cases e : u = v
  · rw [if_pos e, e]; omega
  · rw [if_neg e]; exact h u hu
theorem row_up {t : Tr} (O : Okt t) (x : Nat → Int) {p u : Nat} (hu : u < t.n) : rowE t (up x p (x p + 1)) u = rowE t x u + ((if u = p then wt t p else 0) + if p ∈ nb t.ties u then 1 else 0) := by
  rw [rowE_add (x := x) (y := fun u => if u = p then 1 else 0) O hu fun i _ => by
    unfold up
    by_cases z : i = p
    · rw [if_pos z, if_pos z, z]
    · rw [if_neg z, if_neg z]; omega]
  congr 1
  unfold rowE
  rw [sm_ind (nb_nodup O u)]
  show wt t u * (if u = p then 1 else 0) + _ = _
  by_cases z : u = p
  · rw [if_pos z, if_pos z, z]; omega
  · rw [if_neg z, if_neg z]; omega
/-- the least one above x that is below 0 everywhere but where it is free -/
structure Top (t : Tr) (fr : Nat → Bool) (x z : Nat → Int) : Prop where
  ge : Ge t.n x z
  bel : Bel t fr z
  least : ∀ y, Ge t.n x y → Bel t fr y → Ge t.n z y
section
variable {t : Tr} {fr : Nat → Bool}
theorem Top.uniq {x z z' : Nat → Int} (h : Top t fr x z) (h' : Top t fr x z') : ∀ v, v < t.n → z v = z' v := fun v hv => by
  have := h.least _ h'.ge h'.bel v hv
  have := h'.least _ h.ge h.bel v hv
  omega
theorem Top.self {z : Nat → Int} (b : Bel t fr z) : Top t fr z z := ⟨fun v _ => Int.le_refl _, b, fun y h _ => h⟩
theorem up_ge {x z : Nat → Int} {n p : Nat} (h : Ge n (up x p (x p + 1)) z) : Ge n x z := fun v hv => by
  have := h v hv
  unfold up at this
  by_cases e : v = p
  · rw [if_pos e] at this; rw [e] at this ⊢; omega
  · rw [if_neg e] at this; exact this
theorem Top.step (O : Okt t) {x z : Nat → Int} {p : Nat} (hp : p < t.n) (f : fr p = false) (pos : 0 < rowE t x p) (h : Top t fr (up x p (x p + 1)) z) : Top t fr x z :=
  ⟨up_ge h.ge, h.bel, fun y g b => h.least y (step_ge O g b hp f pos) b⟩
/-- steps, one after another -/
inductive Run (t : Tr) (sel : (Nat → Int) → Nat → Prop) (x : Nat → Int) : List Nat → List Int → (Nat → Int) → Prop
  | nil : Run t sel x [] [] x
  | snoc {ps : List Nat} {ms : List Int} {y : Nat → Int} {p : Nat} : Run t sel x ps ms y → p < t.n → sel y p → Run t sel x (ps ++ [p]) (ms ++ [rowE t y p]) (up y p (y p + 1))
/-- a place that is not free, with a row above 0 -/
def Leg (t : Tr) (fr : Nat → Bool) (y : Nat → Int) (p : Nat) : Prop := fr p = false ∧ 0 < rowE t y p
theorem Run.imp {s s' : (Nat → Int) → Nat → Prop} (h : ∀ y p, s y p → s' y p) {x y : Nat → Int} {ps : List Nat} {ms : List Int} (r : Run t s x ps ms y) : Run t s' x ps ms y := by
  induction r with
  | nil => exact .nil
  | snoc _ hp hs ih => exact .snoc ih hp (h _ _ hs)
theorem Run.top (O : Okt t) {x y : Nat → Int} {ps : List Nat} {ms : List Int} (r : Run t (Leg t fr) x ps ms y) : ∀ z, Top t fr y z → Top t fr x z := by
  induction r with
  | nil => exact fun z h => h
  | snoc _ hp hs ih => exact fun z h => ih z (h.step O hp hs.1 hs.2)
theorem Run.ge_of (O : Okt t) {x y z : Nat → Int} {ps : List Nat} {ms : List Int} (r : Run t (Leg t fr) x ps ms y) (g : Ge t.n x z) (b : Bel t fr z) : Ge t.n y z := by
  induction r with
  | nil => exact g
  | snoc _ hp hs ih => exact step_ge O ih b hp hs.1 hs.2
theorem Run.len {s : (Nat → Int) → Nat → Prop} {x y : Nat → Int} {ps : List Nat} {ms : List Int} (r : Run t s x ps ms y) : sm y (List.range t.n) = sm x (List.range t.n) + (ps.length : Int) ∧ ms.length = ps.length := by
  induction r with
  | nil => exact ⟨by simp, rfl⟩
  | snoc _ hp hs ih =>
    rw [sm_up hp, ih.1, List.length_append, List.length_append, ih.2]
    exact ⟨by simp; omega, rfl⟩
theorem Run.free {x y : Nat → Int} {ps : List Nat} {ms : List Int} (r : Run t (Leg t fr) x ps ms y) : ∀ v, fr v = true → y v = x v := by
  induction r with
  | nil => exact fun v _ => rfl
  | @snoc ps ms y p _ hp hs ih =>
    intro v hv
    unfold up
    by_cases e : v = p
    · rw [e] at hv; rw [hs.1] at hv; cases hv
    · rw [if_neg e]; exact ih v hv
theorem Run.ge {s : (Nat → Int) → Nat → Prop} {x y : Nat → Int} {ps : List Nat} {ms : List Int} (r : Run t s x ps ms y) : Ge t.n x y := by
  induction r with
  | nil => exact fun v _ => Int.le_refl _
  | @snoc ps ms y p _ hp hs ih =>
    intro v hv
    have := ih v hv
    unfold up
    split
    · rename_i e; rw [e] at this ⊢; omega
    · exact this
theorem sm_ge_le {n : Nat} {x y : Nat → Int} (h : Ge n x y) : sm x (List.range n) ≤ sm y (List.range n) := sm_le fun v m => h v (List.mem_range.mp m)
/-- the least of two -/
theorem bel_min (O : Okt t) {y z : Nat → Int} (hy : Bel t fr y) (hz : Bel t fr z) : Bel t fr fun v => min (y v) (z v) := fun v hv f => by
  by_cases c : y v ≤ z v
  · have := row_le O (x := fun v => min (y v) (z v)) (y := y) (fun u _ => by show min (y u) (z u) ≤ y u; omega) (v := v) (by show min (y v) (z v) = y v; omega)
    have := hy v hv f
    omega
  · have := row_le O (x := fun v => min (y v) (z v)) (y := z) (fun u _ => by show min (y u) (z u) ≤ z u; omega) (v := v) (by show min (y v) (z v) = z v; omega)
    have := hz v hv f
    omega
theorem bel_mul {y : Nat → Int} (hy : Bel t fr y) {c : Int} (hc : 0 ≤ c) : Bel t fr fun v => c * y v := fun v hv f => by
  have e : rowE t (fun v => c * y v) v = c * rowE t y v := by
    unfold rowE
    rw [sm_mul]
    grind
  rw [e]
  have := Int.mul_le_mul_of_nonneg_left (hy v hv f) hc
  omega
end
/-- a bound for all: 1 or more everywhere, below 0 everywhere, with so small a sum -/
def Zb (t : Tr) (S : Int) : Prop := ∃ z : Nat → Int, (∀ v, v < t.n → 1 ≤ z v) ∧ Bel t no z ∧ sm z (List.range t.n) ≤ S
theorem anti_one {t : Tr} (T : Tree t) {z : Nat → Int} (h0 : ∀ v, v < t.n → 0 ≤ z v) {r : Nat} (hr : r < t.n) (h1 : 1 ≤ z r) (b : Bel t no z) : ∀ v, v < t.n → 1 ≤ z v := by
  obtain ⟨par, dep, R⟩ := T.tree r hr
  have key : ∀ k v, v < t.n → dep v = k → 1 ≤ z v := fun k => by
    induction k with
    | zero =>
      intro v hv hd
      have e : v = r := Classical.byContradiction fun y => by have := (R.up v hv y).2; omega
      rw [e]; exact h1
    | succ k ih =>
      intro v hv hd
      have nr : v ≠ r := fun e => by rw [e, R.dep0] at hd; omega
      obtain ⟨u1, u2⟩ := R.up v hv nr
      have ip := ih (par v) u1 (by omega)
      refine Classical.byContradiction fun y => ?_
      have z0 : z v = 0 := by have := h0 v hv; omega
      have m : par v ∈ nb t.ties v := nb_mem.mpr ((R.edge v (par v)).mpr ⟨hv, u1, .inl ⟨nr, rfl⟩⟩)
      have := sm_ge (f := z) (l := nb t.ties v) (fun u m => h0 u (nb_lt T.toOkt m).1) m
      have bv := b v hv rfl
      unfold rowE at bv
      rw [z0] at bv
      omega
  exact fun v hv => key _ v hv rfl
theorem zb_ones {t : Tr} (O : Okt t) (h : ∀ v, v < t.n → wt t v + ((nb t.ties v).length : Int) ≤ 0) : Zb t 151 := by
  refine ⟨fun _ => 1, fun _ _ => Int.le_refl _, fun v hv _ => ?_, ?_⟩
  · show wt t v * 1 + sm (fun _ => 1) (nb t.ties v) ≤ 0
    rw [sm_const]
    have := h v hv
    omega
  · rw [sm_const, List.length_range]
    have := O.few
    omega
theorem zb_five {t : Tr} (T : Tree t) (h : ∀ v, v < t.n → wt t v = -5) : Zb t 151 := by
  obtain ⟨d, hd⟩ : ∃ d : Nat → Int, d = fun v => ((nb t.ties v).length : Int) := ⟨_, rfl⟩
  have few := T.few
  have d0 : ∀ v, 0 ≤ d v := fun v => by rw [hd]; show (0 : Int) ≤ ((nb t.ties v).length : Int); omega
  let z : Nat → Int := fun v => max 1 (min (d v) 5)
  have z5 : ∀ v, z v ≤ 5 := fun v => by show max 1 (min (d v) 5) ≤ 5; omega
  refine ⟨z, fun v _ => by show 1 ≤ max 1 (min (d v) 5); omega, fun v hv _ => ?_, ?_⟩
  · unfold rowE
    rw [h v hv]
    by_cases c : d v ≤ 5
    · have a := sm_le (f := z) (g := fun _ => 5) (l := nb t.ties v) fun u _ => z5 u
      rw [sm_const] at a
      have e : ((nb t.ties v).length : Int) = d v := by rw [hd]
      rw [e] at a
      have : z v = max 1 (min (d v) 5) := rfl
      have := d0 v
      by_cases c0 : d v = 0
      · omega
      · omega
    · have e5 : z v = 5 := by show max 1 (min (d v) 5) = 5; omega
      rw [e5]
      have hn : 0 < t.n := by omega
      obtain ⟨par, dep, R⟩ := T.tree v hv
      have a := sm_le (f := z) (g := d) (l := nb t.ties v) fun u m => by
        show max 1 (min (d u) 5) ≤ d u
        have : v ∈ nb t.ties u := nb_mem.mpr (R.sym (nb_mem.mp m))
        have : 1 ≤ d u := by
          rw [hd]
          have := List.length_pos_of_mem this
          show (1 : Int) ≤ ((nb t.ties u).length : Int)
          omega
        omega
      -- all degrees together
      have dk : ∀ u, u < t.n → d u ≤ ((kids t.ties v par u).length : Int) + 1 := fun u hu => by
        rw [hd]
        show ((nb t.ties u).length : Int) ≤ _
        have sub : ∀ x ∈ nb t.ties u, x ∈ par u :: kids t.ties v par u := fun x hx => by
          by_cases e : x ∈ kids t.ties v par u
          · exact List.mem_cons_of_mem _ e
          · obtain ⟨_, x2, x3⟩ := (R.edge u x).mp (nb_mem.mp hx)
            rcases x3 with ⟨_, y⟩ | ⟨y1, y2⟩
            · rw [y]; simp
            · exact absurd ((kids_mem R hu x).mpr ⟨x2, y1, y2⟩) e
        have := List.Nodup.length_le_of_subset (nb_nodup T.toOkt u) sub
        simp at this
        omega
      have ks := kid_sum T R (fun _ _ => 1)
      have s1 : sm (fun u => ((kids t.ties v par u).length : Int)) (List.range t.n) ≤ (t.n : Int) - 1 := by
        have e1 : sm (fun u => ((kids t.ties v par u).length : Int)) (List.range t.n) = sm (fun u => sm (fun _ => (1 : Int)) (kids t.ties v par u)) (List.range t.n) := sm_congr fun u _ => by rw [sm_const]; omega
        rw [e1, ks]
        have e2 : sm (fun c => (if c = v then (0 : Int) else 1) + if c = v then 1 else 0) (List.range t.n) = (t.n : Int) := by
          rw [sm_congr (f' := fun _ => 1) fun c _ => by split <;> omega, sm_const, List.length_range]
          omega
        rw [sm_add, sm_ind List.nodup_range, if_pos (List.mem_range.mpr hv)] at e2
        omega
      have s2 := sm_le (f := d) (g := fun u => ((kids t.ties v par u).length : Int) + 1) (l := List.range t.n) fun u hu => dk u (List.mem_range.mp hu)
      rw [sm_add, sm_const, List.length_range] at s2
      -- those of v's neighbours, and of v
      have s3 : sm d (nb t.ties v) + d v ≤ sm d (List.range t.n) := by
        have nd : (v :: nb t.ties v).Nodup := List.nodup_cons.mpr ⟨fun m => (nb_lt T.toOkt m).2.2 rfl, nb_nodup T.toOkt v⟩
        have e1 : sm d (List.range t.n) = sm (fun u => if u ∈ v :: nb t.ties v then d u else 0) (List.range t.n) + sm (fun u => if u ∈ v :: nb t.ties v then 0 else d u) (List.range t.n) := by
          rw [← sm_add]
          exact sm_congr fun u _ => by split <;> omega
        have e2 : sm (fun u => if u ∈ v :: nb t.ties v then d u else 0) (List.range t.n) = sm d (v :: nb t.ties v) := by
          have p : ((List.range t.n).filter fun u => decide (u ∈ v :: nb t.ties v)).Perm (v :: nb t.ties v) := by
            refine (List.perm_ext_iff_of_nodup (List.nodup_range.filter _) nd).mpr fun u => ?_
            rw [List.mem_filter, decide_eq_true_eq, List.mem_range]
            refine ⟨fun z => z.2, fun z => ⟨?_, z⟩⟩
            rcases List.mem_cons.mp z with z | z
            · rw [z]; exact hv
            · exact (nb_lt T.toOkt z).1
          have : ∀ l : List Nat, sm (fun u => if u ∈ v :: nb t.ties v then d u else 0) l = sm d (l.filter fun u => decide (u ∈ v :: nb t.ties v)) := fun l => by
            induction l with
            | nil => rfl
            | cons x l ih =>
              rw [sm_cons, ih]
              by_cases z : x ∈ v :: nb t.ties v
              · rw [if_pos z, List.filter_cons_of_pos (by simpa using z), sm_cons]
              · rw [if_neg z, List.filter_cons_of_neg (by simpa using z)]; omega
          rw [this, sm_perm p]
        have e3 : 0 ≤ sm (fun u => if u ∈ v :: nb t.ties v then 0 else d u) (List.range t.n) := by
          have := sm_le (f := fun _ => 0) (g := fun u => if u ∈ v :: nb t.ties v then 0 else d u) (l := List.range t.n) fun u _ => by
            have := d0 u
            split <;> omega
          rw [sm_const] at this
          omega
        rw [e1, e2, sm_cons]
        omega
      omega
  · have a := sm_le (f := z) (g := fun _ => 5) (l := List.range t.n) fun u _ => z5 u
    rw [sm_const, List.length_range] at a
    omega
end MT
/-! sequences of either kind, and a Climb as an object -/
namespace Y
open PySem PySem.Spec PyProof.Rows L2
theorem ix_seqK {X : Cx} (K : PySem.W.Frag) (hK : X.K = K) : IxR X (rIx K) := by subst hK; exact ix_seq
/-- a list or a tuple -/
def SeqQ (K : PySem.W.Frag) (H : Hp) (a : Addr) (xs : List V) : Prop := SqL K H a xs ∨ SqT K H a xs
theorem SeqQ.mono {K : PySem.W.Frag} {H H' : Hp} {a : Addr} {xs : List V} (h : SeqQ K H a xs) (s : Same H H') : SeqQ K H' a xs := h.imp s.seq s.tup
theorem ixq {K : PySem.W.Frag} {H : Hp} {a : Addr} {xs : List V} {i : Int} {v : V} {Q : VK} (h : SeqQ K H a xs) (e : atI xs i = some v) (q : Q v H) : rIx K (.ref a) (.int i) H Q := by
  rcases h with h | h
  · exact .inl ⟨a, xs, i, v, rfl, rfl, h, e, q⟩
  · exact .inr (.inl ⟨a, xs, i, v, rfl, rfl, h, e, q⟩)
def sp_law_rowQ (K : PySem.W.Frag) : Sp := fun vs H Q _ => ∃ L tv t xs, ∃ g : Addr, vs = [tv, .ref g] ∧ Trk H L ∧ Bt t ∧ Cy t xs ∧ Dp K (wo H L) tv (trD t) ∧ SeqQ K H g (iV xs) ∧ Ret K H L (.tuple (iD (rowL t xs))) Q
/-! ### the fields -/
def cFl (wv lv : V) (cy rw pl me : Addr) : List (Str × V) := putF "met" (.ref me) (putF "places" (.ref pl) (putF "row" (.ref rw) (putF "cycle" (.ref cy) (putF "lists" lv (putF "weights" wv [])))))
section
variable {wv lv : V} {cy rw pl me : Addr}
theorem lk_met : (cFl wv lv cy rw pl me).lookup ("met" : Str) = some (.ref me) := by
  unfold cFl; rw [lookup_putF, if_pos rfl]
theorem lk_places : (cFl wv lv cy rw pl me).lookup ("places" : Str) = some (.ref pl) := by
  unfold cFl; rw [lookup_putF, if_neg (by decide +kernel), lookup_putF, if_pos rfl]
theorem lk_row : (cFl wv lv cy rw pl me).lookup ("row" : Str) = some (.ref rw) := by
  unfold cFl; rw [lookup_putF, if_neg (by decide +kernel), lookup_putF, if_neg (by decide +kernel), lookup_putF, if_pos rfl]
theorem lk_cycle : (cFl wv lv cy rw pl me).lookup ("cycle" : Str) = some (.ref cy) := by
  unfold cFl; rw [lookup_putF, if_neg (by decide +kernel), lookup_putF, if_neg (by decide +kernel), lookup_putF, if_neg (by decide +kernel), lookup_putF, if_pos rfl]
theorem lk_lists : (cFl wv lv cy rw pl me).lookup ("lists" : Str) = some lv := by
  unfold cFl; rw [lookup_putF, if_neg (by decide +kernel), lookup_putF, if_neg (by decide +kernel), lookup_putF, if_neg (by decide +kernel), lookup_putF, if_neg (by decide +kernel), lookup_putF, if_pos rfl]
theorem lk_weights : (cFl wv lv cy rw pl me).lookup ("weights" : Str) = some wv := by
  unfold cFl; rw [lookup_putF, if_neg (by decide +kernel), lookup_putF, if_neg (by decide +kernel), lookup_putF, if_neg (by decide +kernel), lookup_putF, if_neg (by decide +kernel), lookup_putF, if_neg (by decide +kernel), lookup_putF, if_pos rfl]
theorem lk_no {m : Str} (h1 : ¬ m = "met") (h2 : ¬ m = "places") (h3 : ¬ m = "row") (h4 : ¬ m = "cycle") (h5 : ¬ m = "lists") (h6 : ¬ m = "weights") : (cFl wv lv cy rw pl me).lookup m = none := by
  unfold cFl; rw [lookup_putF, if_neg h1, lookup_putF, if_neg h2, lookup_putF, if_neg h3, lookup_putF, if_neg h4, lookup_putF, if_neg h5, lookup_putF, if_neg h6]; rfl
end
/-- a Climb stands at p: its four lists, the tree's weights and neighbours -/
structure Clm (C : Addr) (K : PySem.W.Frag) (H : Hp) (L : List Addr) (t : Tr) (p cy rw pl me wa : Addr) (lv : V) (x : Nat → Int) (ps : List Nat) (ms : List Int) : Prop where
  ob : ∃ dx, H p = some (.ins C dx (cFl (.ref wa) lv cy rw pl me))
  c : H cy = some (.lst (arr t.n x))
  r : H rw = some (.lst (arr t.n (MT.rowE t x)))
  l : H pl = some (.lst (nV ps))
  e : H me = some (.lst (iV ms))
  nd : [cy, rw, pl, me].Nodup
  w : SqT K (wo H ([cy, rw, pl, me] ++ L)) wa (iV t.ws)
  ls : Dp K (wo H ([cy, rw, pl, me] ++ L)) lv (llD (nbs t))
/-- all but the four lists as it was -/
abbrev SameC (cy rw pl me : Addr) (H H' : Hp) : Prop := Same (wo H [cy, rw, pl, me]) (wo H' [cy, rw, pl, me])
theorem Same4.at {M : List Addr} {H H' : Hp} (s : Same (wo H M) (wo H' M)) {a : Addr} {o : HO} (h : H a = some o) (ne : a ∉ M) : H' a = some o := (wo_some (s a o (by rw [wo_out ne]; exact h))).2
section
variable {C : Addr} {K : PySem.W.Frag} {H H' : Hp} {L : List Addr} {t : Tr} {p cy rw pl me wa : Addr} {lv : V} {x : Nat → Int} {ps : List Nat} {ms : List Int}
theorem Clm.same (h : Clm C K H L t p cy rw pl me wa lv x ps ms) (s : Same H H') : Clm C K H' L t p cy rw pl me wa lv x ps ms := by
  obtain ⟨dx, hd⟩ := h.ob
  exact ⟨⟨dx, s _ _ hd⟩, s _ _ h.c, s _ _ h.r, s _ _ h.l, s _ _ h.e, h.nd, (wo_mono s).tup h.w, dp_mono (wo_mono s) h.ls⟩
theorem Clm.np (h : Clm C K H L t p cy rw pl me wa lv x ps ms) : p ∉ [cy, rw, pl, me] := fun m => by
  obtain ⟨dx, hd⟩ := h.ob
  have no : ∀ q xs, H q = some (.lst xs) → p ≠ q := fun q xs hq e => by rw [← e, hd] at hq; cases hq
  simp only [List.mem_cons, List.not_mem_nil, or_false] at m
  rcases m with m | m | m | m
  · exact no _ _ h.c m
  · exact no _ _ h.r m
  · exact no _ _ h.l m
  · exact no _ _ h.e m
/-- with other lists -/
theorem Clm.other (h : Clm C K H L t p cy rw pl me wa lv x ps ms) (s : SameC cy rw pl me H H') {x' : Nat → Int} {ps' : List Nat} {ms' : List Int} (hc : H' cy = some (.lst (arr t.n x'))) (hr : H' rw = some (.lst (arr t.n (MT.rowE t x')))) (hl : H' pl = some (.lst (nV ps'))) (he : H' me = some (.lst (iV ms'))) : Clm C K H' L t p cy rw pl me wa lv x' ps' ms' := by
  obtain ⟨dx, hd⟩ := h.ob
  have w := wo_more s (L' := [cy, rw, pl, me] ++ L) fun a m => List.mem_append_left _ m
  exact ⟨⟨dx, Same4.at s hd h.np⟩, hc, hr, hl, he, h.nd, w.tup h.w, dp_mono w h.ls⟩
theorem Clm.ne (h : Clm C K H L t p cy rw pl me wa lv x ps ms) : cy ≠ rw ∧ cy ≠ pl ∧ cy ≠ me ∧ rw ≠ pl ∧ rw ≠ me ∧ pl ≠ me := by
  have := h.nd
  simp only [List.nodup_cons, List.mem_cons, List.not_mem_nil, or_false, not_or] at this
  obtain ⟨⟨a1, a2, a3⟩, ⟨b1, b2⟩, c1, _⟩ := this
  exact ⟨a1, a2, a3, b1, b2, c1⟩
end
theorem sameC_upd {M : List Addr} {H : Hp} {a : Addr} (o : HO) (h : a ∈ M) : Same (wo H M) (wo (upd H a o) M) := by
  rw [wo_upd_in h]; exact Same.refl _
/-! ### what the methods do -/
def sp_Climb___init (C : Addr) (K : PySem.W.Frag) : Sp := fun vs H Q _ => ∃ L p dx tv xv t xs, vs = [.ref p, tv, xv] ∧ H p = some (.ins C dx []) ∧ p ∉ L ∧ Trk H (p :: L) ∧ Bt t ∧ Cy t xs ∧ Dp K (wo H (p :: L)) tv (trD t) ∧ Dp K (wo H (p :: L)) xv (.tuple (iD xs)) ∧
  ∀ cy rw pl me wa lv H', Same (wo H [p]) (wo H' [p]) → H cy = none → H rw = none → H pl = none → H me = none → Clm C K H' L t p cy rw pl me wa lv (en xs) [] [] → Q .non H'
def sp_Climb_least_step (C : Addr) (K : PySem.W.Frag) : Sp := fun vs H Q _ => ∃ L t p cy rw pl me wa lv x ps ms, ∃ bar : Int, vs = [.ref p, .int bar] ∧ Bt t ∧ Clm C K H L t p cy rw pl me wa lv x ps ms ∧
  ∀ (r : Int) H', Same H H' → ((r = -1 ∧ ∀ v : Nat, v < t.n → (v : Int) ≠ bar → MT.rowE t x v ≤ 0) ∨ ∃ v : Nat, v < t.n ∧ r = v ∧ 0 < MT.rowE t x v ∧ (v : Int) ≠ bar ∧ ∀ u : Nat, u < v → (u : Int) ≠ bar → MT.rowE t x u ≤ 0) → Q (.int r) H'
def sp_Climb_raise_at (C : Addr) (K : PySem.W.Frag) : Sp := fun vs H Q _ => ∃ L t p cy rw pl me wa lv x ps ms, ∃ v : Nat, vs = [.ref p, .int (v : Int)] ∧ Bt t ∧ Clm C K H L t p cy rw pl me wa lv x ps ms ∧ v < t.n ∧
  ∀ H', SameC cy rw pl me H H' → Clm C K H' L t p cy rw pl me wa lv (MT.up x v (x v + 1)) ps ms → Q (.int (MT.rowE t x v)) H'
def sp_Climb_step_at (C : Addr) (K : PySem.W.Frag) : Sp := fun vs H Q _ => ∃ L t p cy rw pl me wa lv x ps ms, ∃ v : Nat, vs = [.ref p, .int (v : Int)] ∧ Bt t ∧ Clm C K H L t p cy rw pl me wa lv x ps ms ∧ v < t.n ∧ ps.length ≤ 50000 ∧ ms.length ≤ 50000 ∧
  ∀ H', SameC cy rw pl me H H' → Clm C K H' L t p cy rw pl me wa lv (MT.up x v (x v + 1)) (ps ++ [v]) (ms ++ [MT.rowE t x v]) → Q .non H'
/-- barred at a place -/
def barB (bar : Int) : Nat → Bool := fun v => decide ((v : Int) = bar)
/-- the least place of those that may be raised -/
def Fst (t : Tr) (fr : Nat → Bool) (y : Nat → Int) (p : Nat) : Prop := MT.Leg t fr y p ∧ ∀ u, u < p → fr u = false → MT.rowE t y u ≤ 0
def sp_Climb_step_on (C : Addr) (K : PySem.W.Frag) : Sp := fun vs H Q _ => ∃ L t p cy rw pl me wa lv x y ps ms, ∃ bar lim : Int, vs = [.ref p, .int bar, .int lim] ∧ Bt t ∧ Clm C K H L t p cy rw pl me wa lv x ps ms ∧ MT.Ge t.n x y ∧ MT.Bel t (barB bar) y ∧
  ms.length = ps.length ∧ (ps.length : Int) + (MT.sm y (List.range t.n) - MT.sm x (List.range t.n)) ≤ lim ∧ lim ≤ 40000 ∧
  ∀ x' qs ns H', SameC cy rw pl me H H' → MT.Run t (Fst t (barB bar)) x qs ns x' → MT.Bel t (barB bar) x' → Clm C K H' L t p cy rw pl me wa lv x' (ps ++ qs) (ms ++ ns) → Q .non H'
def sp_climbed (C : Addr) (K : PySem.W.Frag) : Sp := fun vs H Q _ => ∃ L tv xv t xs y, vs = [tv, xv] ∧ Trk H L ∧ Bt t ∧ MT.Pos t ∧ Cy t xs ∧ Dp K (wo H L) tv (trD t) ∧ Dp K (wo H L) xv (.tuple (iD xs)) ∧ MT.Ge t.n (en xs) y ∧ MT.Bel t MT.no y ∧ MT.sm y (List.range t.n) - MT.sm (en xs) (List.range t.n) ≤ 5000 ∧
  ∀ p cy rw pl me wa lv x qs ns H', Same H H' → MT.Run t (Fst t MT.no) (en xs) qs ns x → MT.Bel t MT.no x → MT.Top t MT.no (en xs) x → Clm C K H' L t p cy rw pl me wa lv x qs ns → Q (.ref p) H'
def sp_above50 (K : PySem.W.Frag) : Sp := fun vs H Q _ => ∃ L tv xv t xs y, vs = [tv, xv] ∧ Trk H L ∧ Bt t ∧ MT.Pos t ∧ Cy t xs ∧ Dp K (wo H L) tv (trD t) ∧ Dp K (wo H L) xv (.tuple (iD xs)) ∧ MT.Ge t.n (en xs) y ∧ MT.Bel t MT.no y ∧ MT.sm y (List.range t.n) - MT.sm (en xs) (List.range t.n) ≤ 5000 ∧
  ∀ zs, zs.length = t.n → MT.Top t MT.no (en xs) (en zs) → Ret K H L (.tuple (iD zs)) Q
end Y
namespace Y
open PySem PySem.Spec PyProof.Rows L2
def sp_longZ (K : PySem.W.Frag) : Sp := fun vs H Q _ => ∃ L tv t, vs = [tv] ∧ Trk H L ∧ Bt t ∧ Dp K (wo H L) tv (trD t) ∧ ∀ b H', Same H H' → (t.n = 0 → b = false) → (b = false → 0 < t.n → MT.Zb t 151) → Q (.bl b) H'
def sp_drawn_belowZ (K : PySem.W.Frag) : Sp := fun vs H Q _ => ∃ L m c cs b, ∃ most : Nat, vs = [.ref m, .int most] ∧ m ∈ L ∧ Trk H L ∧ MAt H m c cs b ∧ most ≤ 16 ∧ b + 1000 < 1000000 ∧
  ∀ t v H', B60 t → MT.Pos t → t.n ≤ most → (0 < t.n → MT.Zb t 151) → SameM m H H' → MAt H' m c cs (b + 1000) → Dp K (wo H' L) v (trD t) → Q v H'
theorem zb_all {t : Tr} (T : Tree t) {c : Int} (h : ∀ x ∈ t.ws, x = c) : (c = -5 ∨ c = -17) → MT.Zb t 151 := fun hc => by
  have e : ∀ v, v < t.n → MT.wt t v = c := fun v hv => h _ (by unfold MT.wt; rw [List.getD_eq_getElem?_getD, List.getElem?_eq_getElem hv]; exact List.getElem_mem _)
  rcases hc with hc | hc
  · exact MT.zb_five T fun v hv => by rw [e v hv, hc]
  · refine MT.zb_ones T.toOkt fun v hv => ?_
    rw [e v hv, hc]
    have := nb_le T.toOkt v
    omega
end Y
namespace MT
open Y
theorem Run.bd {t : Tr} {s : (Nat → Int) → Nat → Prop} {x y : Nat → Int} {ps : List Nat} {ms : List Int} (r : Run t s x ps ms y) : ∀ v, v < t.n → x v ≤ y v ∧ y v ≤ x v + (ps.length : Int) := fun v hv => by
  have g := r.ge
  have l := r.len.1
  have := sm_ge (f := fun u => y u - x u) (p := v) (l := List.range t.n) (fun u hu => by have := g u (List.mem_range.mp hu); omega) (List.mem_range.mpr hv)
  rw [sm_sub] at this
  have := g v hv
  omega
end MT
namespace Y
open PySem PySem.Spec PyProof.Rows L2
theorem rowL_map {t : Tr} (O : Okt t) (f : Nat → Int) : rowL t ((List.range t.n).map f) = (List.range t.n).map (MT.rowE t f) := by
  unfold rowL
  refine List.map_congr_left fun k hk => ?_
  exact rowE_congr O (fun i hi => en_map hi) (List.mem_range.mp hk)
/-- small entries -/
def Sm (xs : List Int) : Prop := ∀ x ∈ xs, x.natAbs ≤ 2 ^ 20
theorem Sm.en {xs : List Int} (h : Sm xs) (v : Nat) : (en xs v).natAbs ≤ 2 ^ 20 := by
  unfold Y.en
  rw [List.getD_eq_getElem?_getD]
  cases e : xs[v]? with
  | none => simp
  | some x => exact h x (List.mem_of_getElem? e)
theorem cy_run {t : Tr} {s : (Nat → Int) → Nat → Prop} {xs : List Int} {y : Nat → Int} {ps : List Nat} {ms : List Int} (h : Sm xs) (r : MT.Run t s (en xs) ps ms y) (l : ps.length ≤ 5000) : Cy t ((List.range t.n).map y) ∧ ∀ v, v < t.n → (y v).natAbs ≤ 2 ^ 21 := by
  have key : ∀ v, v < t.n → (y v).natAbs ≤ 2 ^ 21 := fun v hv => by
    have := r.bd v hv
    have := h.en v
    have : (2 : Nat) ^ 20 = 1048576 := by decide
    have : (2 : Nat) ^ 21 = 2097152 := by decide
    omega
  refine ⟨⟨by simp, fun x hx => ?_⟩, key⟩
  obtain ⟨v, hv, rfl⟩ := List.mem_map.mp hx
  exact Nat.le_trans (key v (List.mem_range.mp hv)) (Nat.pow_le_pow_right (by omega) (by omega))
theorem arr_en {t : Tr} {xs : List Int} (h : xs.length = t.n) : arr t.n (en xs) = iV xs := by
  unfold arr
  congr 1
  refine List.ext_getElem (by simp; exact h.symm) fun i h1 h2 => ?_
  simp
  unfold en
  rw [List.getD_eq_getElem?_getD, List.getElem?_eq_getElem h2]
  rfl
/-- the places that may be raised -/
def spo (t : Tr) (fr : Nat → Bool) (y : Nat → Int) : List Nat := (List.range t.n).filter fun k => decide (0 < MT.rowE t y k) && !fr k
theorem spo_mem {t : Tr} {fr : Nat → Bool} {y : Nat → Int} {k : Nat} : k ∈ spo t fr y ↔ k < t.n ∧ MT.Leg t fr y k := by
  unfold spo MT.Leg
  rw [List.mem_filter, List.mem_range, Bool.and_eq_true, decide_eq_true_eq, Bool.not_eq_true']
  exact ⟨fun z => ⟨z.1, z.2.2, z.2.1⟩, fun z => ⟨z.1, z.2.2, z.2.1⟩⟩
theorem spo_nil {t : Tr} {fr : Nat → Bool} {y : Nat → Int} (h : spo t fr y = []) : MT.Bel t fr y := fun v hv f => by
  refine Classical.byContradiction fun z => ?_
  have : v ∈ spo t fr y := spo_mem.mpr ⟨hv, f, by omega⟩
  rw [h] at this
  cases this
def sp_law_above50 (K : PySem.W.Frag) : Sp := fun vs H Q _ => ∃ L tv xv fv t xs fl y, vs = [tv, xv, fv] ∧ Trk H L ∧ Bt t ∧ xs.length = t.n ∧ Sm xs ∧ Dp K (wo H L) tv (trD t) ∧ Dp K (wo H L) xv (.tuple (iD xs)) ∧ Dp K (wo H L) fv (.tuple (nD fl)) ∧ fl.length ≤ 100 ∧
  MT.Ge t.n (en xs) y ∧ MT.Bel t (inl fl) y ∧ MT.sm y (List.range t.n) - MT.sm (en xs) (List.range t.n) ≤ 4999 ∧
  ∀ x' ps ms, MT.Run t (MT.Leg t (inl fl)) (en xs) ps ms x' → MT.Bel t (inl fl) x' → Ret K H L (.tuple [.tuple (iD ((List.range t.n).map x')), .list (iD ms)]) Q
def sp_law_any_steps (K : PySem.W.Frag) : Sp := fun vs H Q _ => ∃ L m c cs b tv xv fv t xs fl y, vs = [.ref m, tv, xv, fv] ∧ m ∈ L ∧ Trk H L ∧ MAt H m c cs b ∧ b + 6000 < 1000000 ∧ Bt t ∧ xs.length = t.n ∧ Sm xs ∧ Dp K (wo H L) tv (trD t) ∧ Dp K (wo H L) xv (.tuple (iD xs)) ∧ Dp K (wo H L) fv (.tuple (nD fl)) ∧ fl.length ≤ 100 ∧
  MT.Ge t.n (en xs) y ∧ MT.Bel t (inl fl) y ∧ MT.sm y (List.range t.n) - MT.sm (en xs) (List.range t.n) ≤ 4999 ∧
  ∀ x' ps ms v H', MT.Run t (MT.Leg t (inl fl)) (en xs) ps ms x' → MT.Bel t (inl fl) x' → SameM m H H' → MAt H' m c cs (b + 5000) → Dp K (wo H' L) v (.tuple [.tuple (iD ((List.range t.n).map x')), .tuple (nD ps), .tuple (iD ms)]) → Q v H'
def sp_law_filled (K : PySem.W.Frag) : Sp := fun vs H Q _ => ∃ L m c cs b, ∃ most : Nat, vs = [.ref m, .int most] ∧ m ∈ L ∧ Trk H L ∧ MAt H m c cs b ∧ most ≤ 8 ∧ b + 1100 < 1000000 ∧
  ∀ t v H', B60 t → MT.Pos t → 0 < t.n → t.n ≤ 8 → MT.Zb t 151 → SameM m H H' → MAt H' m c cs (b + 1100) → Dp K (wo H' L) v (trD t) → Q v H'
end Y
namespace Y
open PySem PySem.Spec PyProof.Rows L2
theorem wo_toM {H H' : Hp} {L M : List Addr} (s : Same (wo H L) (wo H' L)) (h : ∀ x ∈ M, H x = none) : Same (wo H L) (wo H' (M ++ L)) := fun b o q => by
  obtain ⟨m1, m2⟩ := wo_some q
  obtain ⟨_, h'⟩ := wo_some (s b o q)
  rw [wo_out]
  · exact h'
  · intro m
    rcases List.mem_append.mp m with m | m
    · rw [h b m] at m2; cases m2
    · exact m1 m
end Y
/-! data written out in the text -/
namespace Y
open PySem PySem.Spec PyProof.Rows L2
theorem op_repTK {X : Cx} (K : PySem.W.Frag) (hK : X.K = K) : OpR X (binaryOp .Mult) (rRepT K) := by subst hK; exact op_repT
section
variable {K : PySem.W.Frag} {L : List Addr} {σ : L2.St} {H0 : Hp}
/-- the reading of an expression that makes the data d -/
def Lit (K : PySem.W.Frag) (L : List Addr) (σ : L2.St) (H0 : Hp) (t : TE) (d : PyData) : Prop := ∀ (H : Hp) (Q : VK), Same H0 H → (∀ v H', Same H H' → Dp K (wo H' L) v d → Q v H') → t σ H Q
def LitA (K : PySem.W.Frag) (L : List Addr) (σ : L2.St) (H0 : Hp) (t : TA) (ds : List PyData) : Prop := ∀ (H : Hp) (Q : List V → Hp → Prop), Same H0 H → (∀ vs H', Same H H' → DpAll K (wo H' L) vs ds → Q vs H') → t σ H Q
theorem lit_int {i : Int} : Lit K L σ H0 (tC (.int i)) (.int i) := fun _ _ _ q => q _ _ (Same.refl _) (.int i)
theorem lit_neg {i : Int} : Lit K L σ H0 (tUn (rU fun i => .int (-i)) (tC (.int i))) (.int (-i)) := fun _ _ _ q => ⟨i, rfl, q _ _ (Same.refl _) (.int _)⟩
theorem lit_str {x : Str} : Lit K L σ H0 (tC (.str x)) (.str x) := fun _ _ _ q => q _ _ (Same.refl _) (.str x)
theorem lit_bl {b : Bool} : Lit K L σ H0 (tC (.bl b)) (.bool b) := fun _ _ _ q => q _ _ (Same.refl _) (.bl b)
theorem lit_non : Lit K L σ H0 (tC .non) .none := fun _ _ _ q => q _ _ (Same.refl _) .non
theorem lit_var {i : Nat} {v : V} {d : PyData} (h : σ[i]? = some (some v)) (hd : Dp K (wo H0 L) v d) : Lit K L σ H0 (tVar i) d := fun _ _ s q => ⟨v, h, q _ _ (Same.refl _) (dp_mono (wo_mono s) hd)⟩
theorem lit_nil : LitA K L σ H0 tNil [] := fun _ _ _ q => q _ _ (Same.refl _) .nil
theorem lit_cons {t : TE} {ta : TA} {d : PyData} {ds : List PyData} (h : Lit K L σ H0 t d) (ha : LitA K L σ H0 ta ds) : LitA K L σ H0 (tCons t ta) (d :: ds) := fun H Q s q =>
  h H _ s fun v H1 s1 d1 => ha H1 _ (s.trans s1) fun vs H2 s2 d2 => q _ _ (s1.trans s2) (.cons (dp_mono (wo_mono s2) d1) d2)
theorem lit_tup (hT : Trk H0 L) {ta : TA} {ds : List PyData} (h : LitA K L σ H0 ta ds) (l : ds.length ≤ 1000) : Lit K L σ H0 (tTup ta) (.tuple ds) := fun H Q s q =>
  h H _ s fun vs H1 s1 d1 => ⟨sz (by rw [d1.length]; omega), fun p hp => q _ _ (s1.trans (same_new hp _)) (tup_new (hT.mono (s.trans s1)) hp d1)⟩
theorem lit_lst (hT : Trk H0 L) {ta : TA} {ds : List PyData} (h : LitA K L σ H0 ta ds) (l : ds.length ≤ 1000) : Lit K L σ H0 (tLst ta) (.list ds) := fun H Q s q =>
  h H _ s fun vs H1 s1 d1 => ⟨sz (by rw [d1.length]; omega), fun p hp => q _ _ (s1.trans (same_new hp _)) (lst_new (hT.mono (s.trans s1)) hp d1)⟩
theorem lit_cat (hT : Trk H0 L) {ta tb : TE} {ds es : List PyData} (h : Lit K L σ H0 ta (.tuple ds)) (h2 : Lit K L σ H0 tb (.tuple es)) (l : ds.length + es.length ≤ 1000) : Lit K L σ H0 (tOp (rCatA K) ta tb) (.tuple (ds ++ es)) := fun H Q s q =>
  h H _ s fun v H1 s1 d1 => h2 H1 _ (s.trans s1) fun w H2 s2 d2 => by
    obtain ⟨a, xs, rfl, ha, hx⟩ := dp_tup (dp_mono (wo_mono s2) d1)
    obtain ⟨b, ys, rfl, hb, hy⟩ := dp_tup d2
    refine ⟨a, b, xs, ys, rfl, rfl, (wo_le _ _).tup ha, (wo_le _ _).tup hb, sz (by rw [hx.length, hy.length]; omega), fun e => ?_, fun _ e => ?_, fun _ _ p hp => ?_⟩
    · subst e
      cases hx
      exact q _ _ (s1.trans s2) d2
    · subst e
      cases hy
      have d1' := dp_mono (wo_mono s2) d1
      exact q _ _ (s1.trans s2) (by rw [List.append_nil]; exact d1')
    · exact q _ _ ((s1.trans s2).trans (same_new hp _)) (tup_new (hT.mono (s.trans (s1.trans s2))) hp (hx.append hy))
theorem dpAll_rep {H : Hp} {v : V} {d : PyData} (h : Dp K H v d) : ∀ n : Nat, DpAll K H (List.replicate n [v]).flatten (List.replicate n d)
  | 0 => .nil
  | n + 1 => .cons h (dpAll_rep h n)
theorem lit_rep (hT : Trk H0 L) {ta : TE} {d : PyData} {k : Int} (h : Lit K L σ H0 ta (.tuple [d])) (h1 : 2 ≤ k) (h2 : k ≤ 1000) : Lit K L σ H0 (tOp (rRepT K) ta (tC (.int k))) (.tuple (List.replicate k.toNat d)) := fun H Q s q =>
  h H _ s fun v H1 s1 d1 => by
    obtain ⟨a, xs, rfl, ha, hx⟩ := dp_tup d1
    cases hx with
    | cons z hx =>
      cases hx
      exact ⟨a, k, _, rfl, rfl, (wo_le _ _).tup ha, by simp, h1, h2, by simp, fun p hp => q _ _ (s1.trans (same_new hp _)) (tup_new (hT.mono (s.trans s1)) hp (dpAll_rep z _))⟩
theorem Lit.use {t : TE} {d : PyData} {Q : VK} (h : Lit K L σ H0 t d) (q : ∀ v H', Same H0 H' → Dp K (wo H' L) v d → Q v H') : t σ H0 Q := h H0 Q (Same.refl _) q
theorem LitA.use {t : TA} {ds : List PyData} {Q : List V → Hp → Prop} (h : LitA K L σ H0 t ds) (q : ∀ v H', Same H0 H' → DpAll K (wo H' L) v ds → Q v H') : t σ H0 Q := h H0 Q (Same.refl _) q
end
/-! ### trees written out -/
/-- a tree as its list of parents: place k + 1 hangs on the k-th -/
def tiesP (ps : List Nat) : List (Nat × Nat) := ps.zipIdx.map fun q => (q.1, q.2 + 1)
theorem rooted_dec {t : Tr} {r : Nat} {par dep : Nat → Nat} (h0 : r < t.n) (h1 : dep r = 0) (h2 : ∀ v, v < t.n → v ≠ r → par v < t.n ∧ dep v = dep (par v) + 1)
    (h3 : ∀ p ∈ t.ties, p.1 < t.n ∧ p.2 < t.n ∧ ((p.1 ≠ r ∧ p.2 = par p.1) ∨ (p.2 ≠ r ∧ par p.2 = p.1))) (h4 : ∀ v, v < t.n → v ≠ r → (v, par v) ∈ t.ties ∨ (par v, v) ∈ t.ties) : TM.Rooted t.n (adjT t.ties) r par dep := by
  refine ⟨h0, h1, h2, fun u v => ⟨fun h => ?_, fun h => ?_⟩⟩
  · rcases h with h | h
    · obtain ⟨a, b, c⟩ := h3 _ h
      refine ⟨a, b, ?_⟩
      rcases c with ⟨c1, c2⟩ | ⟨c1, c2⟩
      · exact .inl ⟨c1, c2.symm⟩
      · exact .inr ⟨c1, c2⟩
    · obtain ⟨a, b, c⟩ := h3 _ h
      refine ⟨b, a, ?_⟩
      rcases c with ⟨c1, c2⟩ | ⟨c1, c2⟩
      · exact .inr ⟨c1, c2.symm⟩
      · exact .inl ⟨c1, c2⟩
  · obtain ⟨hu, hv, c⟩ := h
    rcases c with ⟨c1, c2⟩ | ⟨c1, c2⟩
    · have := h4 u hu c1
      rw [c2] at this
      exact this
    · have := h4 v hv c1
      rw [c2] at this
      exact this.symm
theorem pos_dec {t : Tr} (T : Tree t) {r : Nat} {par dep : Nat → Nat} (R : TM.Rooted t.n (adjT t.ties) r par dep) (D N : Nat → Int) (h : ∀ v, v < t.n → (D v, N v) = MT.fk D N (-MT.wt t v) (kids t.ties r par v)) (p : ∀ v, v < t.n → 0 < D v) : MT.Pos t := MT.pos_of T R h p
theorem shape_P {ps : List Nat} (h : (ps.zipIdx.all fun q => decide (q.1 ≤ q.2)) = true) : Shape (ps.length + 1) (tiesP ps) := by
  unfold tiesP
  refine ⟨by simp, fun k p hk => ?_⟩
  rw [List.getElem?_map] at hk
  cases e : ps.zipIdx[k]? with
  | none => rw [e] at hk; cases hk
  | some q =>
    rw [e] at hk
    cases hk
    have le := of_decide_eq_true (List.all_eq_true.mp h q (List.mem_of_getElem? e))
    rw [List.getElem?_zipIdx] at e
    obtain ⟨x, hx, rfl⟩ := Option.map_eq_some_iff.mp e
    simp at le ⊢
    omega
theorem tree_dec {ws : List Int} {ties : List (Nat × Nat)} (ps : List Nat) (h1 : ws.length = ps.length + 1) (h2 : ws.length ≤ 16) (h3 : (ps.zipIdx.all fun q => decide (q.1 ≤ q.2)) = true) (h4 : madeT ws (tiesP ps) = ⟨ws, ties⟩) : Tree ⟨ws, ties⟩ := by
  rw [← h4]
  exact made_tree (shape_P h3) h1 (by omega)
/-- a written tree below 0, with all that is wanted of it -/
theorem hand_tree {ws : List Int} {ties : List (Nat × Nat)} (ps dp : List Nat) (D N Z : List Int) (T : Tree ⟨ws, ties⟩) (n8 : 0 < ws.length ∧ ws.length ≤ 8)
    (hd : dp.getD 0 0 = 0 ∧ ∀ v, v < ws.length → v ≠ 0 → (0 :: ps).getD v 0 < ws.length ∧ dp.getD v 0 = dp.getD ((0 :: ps).getD v 0) 0 + 1)
    (he : (ties.all fun p => decide (p.1 < ws.length ∧ p.2 < ws.length ∧ ((p.1 ≠ 0 ∧ p.2 = (0 :: ps).getD p.1 0) ∨ (p.2 ≠ 0 ∧ (0 :: ps).getD p.2 0 = p.1)))) = true) (he2 : ((List.range ws.length).all fun v => decide (v = 0) || ties.elem (v, (0 :: ps).getD v 0) || ties.elem ((0 :: ps).getD v 0, v)) = true)
    (hD : ∀ v, v < ws.length → (en D v, en N v) = MT.fk (en D) (en N) (-(ws.getD v 0)) (kids ties 0 (fun v => (0 :: ps).getD v 0) v) ∧ 0 < en D v)
    (hw : ∀ x ∈ ws, -60 ≤ x ∧ x ≤ 1000) (hZ : (∀ v, v < ws.length → 1 ≤ en Z v ∧ MT.rowE ⟨ws, ties⟩ (en Z) v ≤ 0) ∧ MT.sm (en Z) (List.range ws.length) ≤ 151) :
    B60 ⟨ws, ties⟩ ∧ MT.Pos ⟨ws, ties⟩ ∧ 0 < ws.length ∧ ws.length ≤ 8 ∧ MT.Zb ⟨ws, ties⟩ 151 := by
  have R : TM.Rooted (Tr.n ⟨ws, ties⟩) (adjT (Tr.ties ⟨ws, ties⟩)) 0 (fun v => (0 :: ps).getD v 0) (fun v => dp.getD v 0) := rooted_dec n8.1 hd.1 hd.2 (fun p hp => of_decide_eq_true (List.all_eq_true.mp he p hp)) fun v hv ne => by
    have := List.all_eq_true.mp he2 v (List.mem_range.mpr hv)
    simp only [Bool.or_eq_true, decide_eq_true_eq, List.elem_eq_mem] at this
    rcases this with (h | h) | h
    · exact absurd h ne
    · exact .inl h
    · exact .inr h
  exact ⟨⟨T, hw⟩, pos_dec T R (en D) (en N) (fun v hv => (hD v hv).1) (fun v hv => (hD v hv).2), n8.1, n8.2, en Z, fun v hv => (hZ.1 v hv).1, fun v hv _ => (hZ.1 v hv).2, hZ.2⟩
end Y
namespace Y
open PySem PySem.Spec PyProof.Rows L2
def wstar : List (Nat × Nat) := [(0, 1), (0, 2), (0, 3)]
def wfar : List (Nat × Nat) := [(0, 1), (0, 2), (0, 3), (3, 4)]
def we8 : List (Nat × Nat) := [(0, 1), (1, 2), (2, 3), (2, 7), (3, 4), (4, 5), (5, 6)]
def wtwo : List (Nat × Nat) := [(0, 1), (0, 2), (0, 3), (3, 4), (4, 5), (4, 6)]
def Fill (t : Tr) : Prop := B60 t ∧ MT.Pos t ∧ 0 < t.n ∧ t.n ≤ 8 ∧ MT.Zb t 151
theorem fill_0 : Fill ⟨[-1, -2, -3, -7], wstar⟩ := hand_tree [0, 0, 0] [0, 1, 1, 1] [1, 2, 3, 7] [42, 1, 1, 1] [6, 3, 2, 1] (tree_dec [0, 0, 0] (by decide) (by decide) (by decide) (by unfold madeT; rw [← sortP_uniq (l := wstar) (by decide) (by decide)])) (by decide) (by decide +kernel) (by decide +kernel) (by decide +kernel) (by decide +kernel) (by decide) (by decide +kernel)
theorem fill_1 : Fill ⟨[-1, -3, -3, -4], wstar⟩ := hand_tree [0, 0, 0] [0, 1, 1, 1] [3, 3, 3, 4] [36, 1, 1, 1] [3, 1, 1, 1] (tree_dec [0, 0, 0] (by decide) (by decide) (by decide) (by unfold madeT; rw [← sortP_uniq (l := wstar) (by decide) (by decide)])) (by decide) (by decide +kernel) (by decide +kernel) (by decide +kernel) (by decide +kernel) (by decide) (by decide +kernel)
theorem fill_2 : Fill ⟨[-1, -2, -3, -11], wstar⟩ := hand_tree [0, 0, 0] [0, 1, 1, 1] [5, 2, 3, 11] [66, 1, 1, 1] [6, 3, 2, 1] (tree_dec [0, 0, 0] (by decide) (by decide) (by decide) (by unfold madeT; rw [← sortP_uniq (l := wstar) (by decide) (by decide)])) (by decide) (by decide +kernel) (by decide +kernel) (by decide +kernel) (by decide +kernel) (by decide) (by decide +kernel)
theorem fill_3 : Fill ⟨[-1], []⟩ := hand_tree [] [0] [1] [1] [1] (tree_dec [] (by decide) (by decide) (by decide) (by unfold madeT; rw [← sortP_uniq (l := []) (by decide) (by decide)])) (by decide) (by decide +kernel) (by decide +kernel) (by decide +kernel) (by decide +kernel) (by decide) (by decide +kernel)
theorem fill_4 : Fill ⟨[-1, -2, -3, -7, -2], wfar⟩ := hand_tree [0, 0, 0, 3] [0, 1, 1, 1, 2] [1, 2, 3, 13, 2] [78, 1, 1, 2, 1] [6, 3, 2, 1, 1] (tree_dec [0, 0, 0, 3] (by decide) (by decide) (by decide) (by unfold madeT; rw [← sortP_uniq (l := wfar) (by decide) (by decide)])) (by decide) (by decide +kernel) (by decide +kernel) (by decide +kernel) (by decide +kernel) (by decide) (by decide +kernel)
theorem fill_5 : Fill ⟨[-1, -2, -5, -4, -2], wfar⟩ := hand_tree [0, 0, 0, 3] [0, 1, 1, 1, 2] [1, 2, 5, 7, 2] [70, 1, 1, 2, 1] [10, 5, 2, 3, 2] (tree_dec [0, 0, 0, 3] (by decide) (by decide) (by decide) (by unfold madeT; rw [← sortP_uniq (l := wfar) (by decide) (by decide)])) (by decide) (by decide +kernel) (by decide +kernel) (by decide +kernel) (by decide +kernel) (by decide) (by decide +kernel)
theorem fill_6 : Fill ⟨[-1, -3, -4, -3, -2], wfar⟩ := hand_tree [0, 0, 0, 3] [0, 1, 1, 1, 2] [1, 3, 4, 5, 2] [60, 1, 1, 2, 1] [12, 4, 3, 5, 3] (tree_dec [0, 0, 0, 3] (by decide) (by decide) (by decide) (by unfold madeT; rw [← sortP_uniq (l := wfar) (by decide) (by decide)])) (by decide) (by decide +kernel) (by decide +kernel) (by decide +kernel) (by decide +kernel) (by decide) (by decide +kernel)
theorem fill_7 : Fill ⟨[-2, -2, -2, -2, -2, -2, -2, -2], we8⟩ := hand_tree [0, 1, 2, 3, 4, 5, 2] [0, 1, 2, 3, 4, 5, 6, 3] [1, 4, 7, 5, 4, 3, 2, 2] [4, 7, 10, 4, 3, 2, 1, 1] [2, 4, 6, 5, 4, 3, 2, 3] (tree_dec [0, 1, 2, 3, 4, 5, 2] (by decide) (by decide) (by decide) (by unfold madeT; rw [← sortP_uniq (l := we8) (by decide) (by decide)])) (by decide) (by decide +kernel) (by decide +kernel) (by decide +kernel) (by decide +kernel) (by decide) (by decide +kernel)
theorem fill_8 : Fill ⟨[-1, -2, -3, -13, -1, -2, -3], wtwo⟩ := hand_tree [0, 0, 0, 3, 4, 4] [0, 1, 1, 1, 2, 3, 3] [1, 2, 3, 7, 1, 2, 3] [42, 1, 1, 1, 6, 1, 1] [6, 3, 2, 1, 6, 3, 2] (tree_dec [0, 0, 0, 3, 4, 4] (by decide) (by decide) (by decide) (by unfold madeT; rw [← sortP_uniq (l := wtwo) (by decide) (by decide)])) (by decide) (by decide +kernel) (by decide +kernel) (by decide +kernel) (by decide +kernel) (by decide) (by decide +kernel)
def fillL : List Tr := [⟨[-1, -2, -3, -7], wstar⟩, ⟨[-1, -3, -3, -4], wstar⟩, ⟨[-1, -2, -3, -11], wstar⟩, ⟨[-1], []⟩, ⟨[-1, -2, -3, -7, -2], wfar⟩, ⟨[-1, -2, -5, -4, -2], wfar⟩, ⟨[-1, -3, -4, -3, -2], wfar⟩, ⟨[-2, -2, -2, -2, -2, -2, -2, -2], we8⟩, ⟨[-1, -2, -3, -13, -1, -2, -3], wtwo⟩]
theorem fill_all : ∀ t ∈ fillL, Fill t := by
  intro t ht
  unfold fillL at ht
  simp only [List.mem_cons, List.not_mem_nil, or_false] at ht
  rcases ht with h | h | h | h | h | h | h | h | h <;> subst h
  · exact fill_0
  · exact fill_1
  · exact fill_2
  · exact fill_3
  · exact fill_4
  · exact fill_5
  · exact fill_6
  · exact fill_7
  · exact fill_8
def sp_law_ofL (K : PySem.W.Frag) : Sp := fun vs H Q _ => ∃ L m c cs b sv ds, vs = [.ref m, sv] ∧ m ∈ L ∧ MAt H m c cs b ∧ b < 1000000 ∧ Dp K (wo H L) sv (.list ds) ∧ 0 < ds.length ∧ ds.length < 1000 ∧
  ∀ d v H', d ∈ ds → Dp K (wo H' L) v d → SameM m H H' → MAt H' m c cs (b + 1) → Q v H'
end Y
namespace Y
open PySem PySem.Spec PyProof.Rows L2
theorem fill_one {w : Int} (h : w = -1 ∨ w = -2 ∨ w = -3 ∨ w = -4) : Fill ⟨[w], []⟩ := by
  rcases h with h | h | h | h <;> subst h
  · exact fill_3
  · exact hand_tree [] [0] [2] [1] [1] (tree_dec [] (by decide) (by decide) (by decide) (by unfold madeT; rw [← sortP_uniq (l := []) (by decide) (by decide)])) (by decide) (by decide +kernel) (by decide +kernel) (by decide +kernel) (by decide +kernel) (by decide) (by decide +kernel)
  · exact hand_tree [] [0] [3] [1] [1] (tree_dec [] (by decide) (by decide) (by decide) (by unfold madeT; rw [← sortP_uniq (l := []) (by decide) (by decide)])) (by decide) (by decide +kernel) (by decide +kernel) (by decide +kernel) (by decide +kernel) (by decide) (by decide +kernel)
  · exact hand_tree [] [0] [4] [1] [1] (tree_dec [] (by decide) (by decide) (by decide) (by unfold madeT; rw [← sortP_uniq (l := []) (by decide) (by decide)])) (by decide) (by decide +kernel) (by decide +kernel) (by decide +kernel) (by decide +kernel) (by decide) (by decide +kernel)
theorem LitA.lst {K : PySem.W.Frag} {L : List Addr} {σ : L2.St} {H0 : Hp} {t : TA} {ds : List PyData} {Q : VK} (h : LitA K L σ H0 t ds) (l : ds.length ≤ 1000) (q : ∀ vs H1 p, Same H0 H1 → H1 p = none → DpAll K (wo H1 L) vs ds → Q (.ref p) (upd H1 p (.lst vs))) : tLst t σ H0 Q :=
  h.use fun vs H1 s1 d1 => ⟨sz (by rw [d1.length]; omega), fun p hp => q vs H1 p s1 hp d1⟩
end Y
namespace Y
open PySem PySem.Spec PyProof.Rows L2
/-- max of a tuple of numbers -/
def rMaxT (K : PySem.W.Frag) : List V → Hp → VK → Prop := fun vs H Q => ∃ (a : Addr) (ns : List Int), vs = [V.ref a] ∧ SqT K H a (iV ns) ∧ 0 < ns.length ∧ ∀ m, m ∈ ns → (∀ y, y ∈ ns → y ≤ m) → Q (.int m) H
theorem foldl_max : ∀ (ns : List Int) (n : Int), (ns.foldl max n = n ∨ ns.foldl max n ∈ ns) ∧ n ≤ ns.foldl max n ∧ ∀ y ∈ ns, y ≤ ns.foldl max n
  | [], n => ⟨.inl rfl, Int.le_refl _, fun y h => nomatch h⟩
  | x :: ns, n => by
    obtain ⟨h1, h2, h3⟩ := foldl_max ns (max n x)
    rw [List.foldl_cons]
    refine ⟨?_, by omega, fun y hy => ?_⟩
    · rcases h1 with h1 | h1
      · rw [h1]
        by_cases h : x ≤ n
        · exact .inl (by omega)
        · exact .inr (by rw [show max n x = x by omega]; simp)
      · exact .inr (by simp [h1])
    · rcases List.mem_cons.mp hy with e | m
      · rw [e]; omega
      · exact h3 y m
theorem cr_maxT {X : Cx} (K : PySem.W.Frag) (hK : X.K = K) (hc : X.calm = true) (hu : X.A.units + 64 < cLine) : CallR X (.builtin "max") (rMaxT K) := by
  subst hK
  intro pins s σ H vs us Q I r h
  obtain ⟨a, ns, rfl, hs, hne, q⟩ := h
  obtain ⟨its, rv, hl, _⟩ := I.tuple hs
  rw [Vals.ref1 r]
  have ia := Vals.ints (ns := ns) rv
  cases ns with
  | nil => simp at hne
  | cons n ns =>
    have rd := ia.reads s.heap
    refine PySem.W.max_tuple_data (x := .int n) (xs := iD ns) (I.ok.hd hc) (show s.heap.IsTuple a its.toArray from hl) rd (alike_ints (n :: ns)) (by
      have := depth_ints0 (n :: ns)
      show _ + 1 + PyData.depthAll (iD (n :: ns)) < _
      omega) fun i v h' tk bs hi r hk => ?_
    have e : PySem.W.maxD (.int n) (iD ns) = .int (ns.foldl max n) := PySem.W.maxD_ints n ns
    rw [e] at r
    obtain ⟨t, rfl⟩ : ∃ t, v = Value.int (ns.foldl max n) t := by cases r; exact ⟨_, rfl⟩
    obtain ⟨h1, h2, h3⟩ := foldl_max ns n
    refine ⟨.int _, H, I.kept (t' := tk) hk, ⟨_, rfl⟩, q _ ?_ fun y hy => ?_⟩
    · rcases h1 with h1 | h1
      · rw [h1]; simp
      · simp [h1]
    · rcases List.mem_cons.mp hy with e | m
      · rw [e]; exact h2
      · exact h3 y m
end Y
namespace Y
open PySem PySem.Spec PyProof.Rows L2
/-- two rows that are alike -/
theorem ne_ints {K : PySem.W.Frag} {H : Hp} {x y : V} {xs ys : List Int} {Q : VK} (hx : Dp K H x (.tuple (iD xs))) (hy : Dp K H y (.tuple (iD ys))) (e : xs = ys) (q : Q (.bl false) H) : rNeD K x y H Q := by
  subst e
  have sh := shaped_iT xs
  refine ⟨.tuple (iD xs), .tuple (iD xs), hx, hy, sh, sh, ?_⟩
  rw [ne_same sh]
  exact q
/-- an empty list -/
theorem ne_nilL {K : PySem.W.Frag} {H : Hp} {x : V} {e : Addr} {Q : VK} (hx : Dp K H x (.list [])) (he : H e = some (.lst [])) (q : Q (.bl false) H) : rNeD K x (.ref e) H Q := by
  refine ⟨.list [], .list [], hx, .lst (.inl (.inl he)) .nil, shaped_iL [], shaped_iL [], ?_⟩
  exact q
theorem fm_none {α β : Type} {f : α → Option β} {l : List α} (h : ∀ x ∈ l, f x = none) : l.filterMap f = [] := by
  induction l with
  | nil => rfl
  | cons x l ih => rw [List.filterMap_cons, h x (by simp)]; exact ih fun y m => h y (by simp [m])
theorem map_en {n : Nat} {xs : List Int} (h : xs.length = n) : (List.range n).map (en xs) = xs := by
  refine List.ext_getElem (by simp [h]) fun i h1 h2 => ?_
  simp
  unfold en
  rw [List.getD_eq_getElem?_getD, List.getElem?_eq_getElem h2]
  rfl
theorem inl_nil : inl [] = MT.no := by funext v; rfl
/-- with a bound for all, whatever is small has one -/
theorem zb_use {t : Tr} {S c : Int} (z : MT.Zb t S) {xs : List Int} (hc : 0 ≤ c) (h : ∀ v, v < t.n → en xs v ≤ c ∧ -c ≤ en xs v) : ∃ y, MT.Ge t.n (en xs) y ∧ MT.Bel t MT.no y ∧ MT.sm y (List.range t.n) - MT.sm (en xs) (List.range t.n) ≤ c * S + c * (t.n : Int) ∧ ∀ v, v < t.n → y v ≤ c * S := by
  obtain ⟨z, z1, z2, z3⟩ := z
  refine ⟨fun v => c * z v, fun v hv => ?_, MT.bel_mul z2 hc, ?_, fun v hv => ?_⟩
  · have a := (h v hv).1
    have := Int.mul_le_mul_of_nonneg_left (z1 v hv) hc
    show en xs v ≤ c * z v
    omega
  · rw [MT.sm_mul]
    have a := Int.mul_le_mul_of_nonneg_left z3 hc
    have b := MT.sm_le (f := fun _ => -c) (g := en xs) (l := List.range t.n) fun v hv => (h v (List.mem_range.mp hv)).2
    rw [MT.sm_const, List.length_range] at b
    have : -c * (t.n : Int) = -(c * (t.n : Int)) := Int.neg_mul _ _
    omega
  · have := MT.sm_ge (f := z) (l := List.range t.n) (fun u hu => by have := z1 u (List.mem_range.mp hu); omega) (List.mem_range.mpr hv)
    exact Int.mul_le_mul_of_nonneg_left (by omega) hc
end Y
namespace Y
open PySem PySem.Spec PyProof.Rows L2
theorem seg_cy {t : Tr} {zs : List Int} {lo hi : Int} (hl : zs.length = t.n) (h : ∀ v, v < t.n → lo ≤ en zs v ∧ en zs v ≤ hi) (h1 : -1000000 ≤ lo) (h2 : hi ≤ 1000000) : Cy t zs ∧ Sm zs := by
  have key : ∀ x ∈ zs, x.natAbs ≤ 2 ^ 20 := fun x hx => by
    obtain ⟨i, hi', e⟩ := List.mem_iff_getElem.mp hx
    have e2 : en zs i = x := by unfold en; rw [List.getD_eq_getElem?_getD, List.getElem?_eq_getElem hi', e]; rfl
    have := h i (by omega)
    have : (2 : Nat) ^ 20 = 1048576 := by decide
    omega
  exact ⟨⟨hl, fun x hx => Nat.le_trans (key x hx) (Nat.pow_le_pow_right (by omega) (by omega))⟩, key⟩
theorem row_max {t : Tr} {zs : List Int} (b : MT.Bel t MT.no (en zs)) {m : Int} (h : m ∈ rowL t zs) : m ≤ 0 := by
  unfold rowL at h
  obtain ⟨k, hk, rfl⟩ := List.mem_map.mp h
  exact b k (List.mem_range.mp hk) rfl
end Y
namespace Y
open PySem PySem.Spec PyProof.Rows L2
def topS (i : Nat) : Stmt := PySem.Challenge.pw_blowntrees_k50_cycles_above.main.body.getD i (.Pass ⟨0, 0, 0, 0⟩)
abbrev s_neighbour_lists : Stmt := topS 6
theorem sc_neighbour_lists : FnScope ["tree", "lists", "i", "j", "_"] ["tree"] (defScope s_neighbour_lists) := ⟨rfl, rfl, rfl, by decide +kernel, rfl, by decide +kernel, by decide +kernel⟩
abbrev s_walk : Stmt := topS 7
theorem sc_walk : FnScope ["tree", "root", "lists", "steps", "at", "place", "parent", "other"] ["tree", "root"] (defScope s_walk) := ⟨rfl, rfl, rfl, by decide +kernel, rfl, by decide +kernel, by decide +kernel⟩
abbrev s_ratio : Stmt := topS 9
theorem sc_ratio : FnScope ["a", "b", "common"] ["a", "b"] (defScope s_ratio) := ⟨rfl, rfl, rfl, by decide +kernel, rfl, by decide +kernel, by decide +kernel⟩
abbrev s_less_inverse : Stmt := topS 10
theorem sc_less_inverse : FnScope ["one", "other", "a", "b", "c", "d"] ["one", "other"] (defScope s_less_inverse) := ⟨rfl, rfl, rfl, by decide +kernel, rfl, by decide +kernel, by decide +kernel⟩
abbrev s_signs : Stmt := topS 12
theorem sc_signs : FnScope ["tree", "numbers", "noughts", "above", "level", "below", "steps", "place", "parent", "worth", "weight"] ["tree"] (defScope s_signs) := ⟨rfl, rfl, rfl, by decide +kernel, rfl, by decide +kernel, by decide +kernel⟩
abbrev s_is_below : Stmt := topS 13
theorem sc_is_below : FnScope ["tree", "above", "level", "_"] ["tree"] (defScope s_is_below) := ⟨rfl, rfl, rfl, by decide +kernel, rfl, by decide +kernel, by decide +kernel⟩
abbrev s_row_of : Stmt := topS 14
theorem sc_row_of : FnScope ["tree", "cycle", "row", "i", "j", "weight", "entry"] ["tree", "cycle"] (defScope s_row_of) := ⟨rfl, rfl, rfl, by decide +kernel, rfl, by decide +kernel, by decide +kernel⟩
abbrev s_check_below : Stmt := topS 16
theorem sc_check_below : FnScope ["tree"] ["tree"] (defScope s_check_below) := ⟨rfl, rfl, rfl, by decide +kernel, rfl, by decide +kernel, by decide +kernel⟩
abbrev s_Climb___init : Stmt := inClass (topS 18) 0
theorem sc_Climb___init : FnScope ["self", "tree", "cycle"] ["self", "tree", "cycle"] (defScope s_Climb___init) := ⟨rfl, rfl, rfl, by decide +kernel, rfl, by decide +kernel, by decide +kernel⟩
abbrev s_Climb_least_step : Stmt := inClass (topS 18) 1
theorem sc_Climb_least_step : FnScope ["self", "barred", "place", "entry"] ["self", "barred"] (defScope s_Climb_least_step) := ⟨rfl, rfl, rfl, by decide +kernel, rfl, by decide +kernel, by decide +kernel⟩
abbrev s_Climb_raise_at : Stmt := inClass (topS 18) 2
theorem sc_Climb_raise_at : FnScope ["self", "place", "entry", "other"] ["self", "place"] (defScope s_Climb_raise_at) := ⟨rfl, rfl, rfl, by decide +kernel, rfl, by decide +kernel, by decide +kernel⟩
abbrev s_Climb_step_at : Stmt := inClass (topS 18) 3
theorem sc_Climb_step_at : FnScope ["self", "place"] ["self", "place"] (defScope s_Climb_step_at) := ⟨rfl, rfl, rfl, by decide +kernel, rfl, by decide +kernel, by decide +kernel⟩
abbrev s_Climb_step_on : Stmt := inClass (topS 18) 4
theorem sc_Climb_step_on : FnScope ["self", "barred", "limit", "place"] ["self", "barred", "limit"] (defScope s_Climb_step_on) := ⟨rfl, rfl, rfl, by decide +kernel, rfl, by decide +kernel, by decide +kernel⟩
abbrev s_above : Stmt := topS 22
theorem sc_above : FnScope ["tree", "x"] ["tree", "x"] (defScope s_above) := ⟨rfl, rfl, rfl, by decide +kernel, rfl, by decide +kernel, by decide +kernel⟩
abbrev s_climbed : Stmt := topS 23
theorem sc_climbed : FnScope ["tree", "x", "climb"] ["tree", "x"] (defScope s_climbed) := ⟨rfl, rfl, rfl, by decide +kernel, rfl, by decide +kernel, by decide +kernel⟩
abbrev s_law_begun : Stmt := topS 25
theorem sc_law_begun : FnScope ["script", "k", "cells", "great", "seed", "cell"] ["script", "k"] (defScope s_law_begun) := ⟨rfl, rfl, rfl, by decide +kernel, rfl, by decide +kernel, by decide +kernel⟩
abbrev s_law_draw : Stmt := topS 26
theorem sc_law_draw : FnScope ["m", "bound", "found", "spot", "cells", "extra", "cell", "blend"] ["m", "bound"] (defScope s_law_draw) := ⟨rfl, rfl, rfl, by decide +kernel, rfl, by decide +kernel, by decide +kernel⟩
abbrev s_law_of : Stmt := topS 27
theorem sc_law_of : FnScope ["m", "some"] ["m", "some"] (defScope s_law_of) := ⟨rfl, rfl, rfl, by decide +kernel, rfl, by decide +kernel, by decide +kernel⟩
abbrev s_law_near : Stmt := topS 28
theorem sc_law_near : FnScope ["tree", "found", "i", "j", "weight", "row"] ["tree"] (defScope s_law_near) := ⟨rfl, rfl, rfl, by decide +kernel, rfl, by decide +kernel, by decide +kernel⟩
abbrev s_law_made : Stmt := topS 29
theorem sc_law_made : FnScope ["weights", "ties", "i", "j"] ["weights", "ties"] (defScope s_law_made) := ⟨rfl, rfl, rfl, by decide +kernel, rfl, by decide +kernel, by decide +kernel⟩
abbrev s_law_shape : Stmt := topS 30
theorem sc_law_shape : FnScope ["m", "n", "word", "ties", "k"] ["m", "n"] (defScope s_law_shape) := ⟨rfl, rfl, rfl, by decide +kernel, rfl, by decide +kernel, by decide +kernel⟩
abbrev s_law_minors : Stmt := topS 31
theorem sc_law_minors : FnScope ["tree", "near", "place", "last", "whole", "parts", "other", "found", "k", "rest", "j"] ["tree", "near", "place", "last"] (defScope s_law_minors) := ⟨rfl, rfl, rfl, by decide +kernel, rfl, by decide +kernel, by decide +kernel⟩
abbrev s_law_is_below : Stmt := topS 32
theorem sc_law_is_below : FnScope ["tree", "near", "place"] ["tree"] (defScope s_law_is_below) := ⟨rfl, rfl, rfl, by decide +kernel, rfl, by decide +kernel, by decide +kernel⟩
abbrev s_law_all_above : Stmt := topS 33
theorem sc_law_all_above : FnScope ["tree", "near", "place", "last", "other"] ["tree", "near", "place", "last"] (defScope s_law_all_above) := ⟨rfl, rfl, rfl, by decide +kernel, rfl, by decide +kernel, by decide +kernel⟩
abbrev s_law_row : Stmt := topS 34
theorem sc_law_row : FnScope ["tree", "x", "near", "k", "j"] ["tree", "x"] (defScope s_law_row) := ⟨rfl, rfl, rfl, by decide +kernel, rfl, by decide +kernel, by decide +kernel⟩
abbrev s_law_is_long : Stmt := topS 35
theorem sc_law_is_long : FnScope ["tree", "near", "x", "step", "spots", "k", "j"] ["tree"] (defScope s_law_is_long) := ⟨rfl, rfl, rfl, by decide +kernel, rfl, by decide +kernel, by decide +kernel⟩
abbrev s_law_drawn_below : Stmt := topS 36
theorem sc_law_drawn_below : FnScope ["m", "most", "n", "ties", "low", "tree", "step", "spot", "weights", "k"] ["m", "most"] (defScope s_law_drawn_below) := ⟨rfl, rfl, rfl, by decide +kernel, rfl, by decide +kernel, by decide +kernel⟩
abbrev s_law_above : Stmt := topS 37
theorem sc_law_above : FnScope ["tree", "x", "free", "met", "turn", "row", "spots", "k"] ["tree", "x", "free"] (defScope s_law_above) := ⟨rfl, rfl, rfl, by decide +kernel, rfl, by decide +kernel, by decide +kernel⟩
abbrev s_law_any_steps : Stmt := topS 38
theorem sc_law_any_steps : FnScope ["m", "tree", "x", "free", "places", "met", "turn", "row", "spots", "spot", "k"] ["m", "tree", "x", "free"] (defScope s_law_any_steps) := ⟨rfl, rfl, rfl, by decide +kernel, rfl, by decide +kernel, by decide +kernel⟩
abbrev s_law_filled : Stmt := topS 39
theorem sc_law_filled : FnScope ["m", "most", "star", "far", "some", "tree"] ["m", "most"] (defScope s_law_filled) := ⟨rfl, rfl, rfl, by decide +kernel, rfl, by decide +kernel, by decide +kernel⟩
abbrev s_law : Stmt := topS 40
theorem sc_law : FnScope ["script", "k", "m", "tree", "n", "x", "told", "more", "far", "other", "low", "j", "entry"] ["script"] (defScope s_law) := ⟨rfl, rfl, rfl, by decide +kernel, rfl, by decide +kernel, by decide +kernel⟩
structure Txt (K : PySem.W.Frag) (mg : Str → Option Value) where
  e_Climb : Addr
  gc_Climb : mg "Climb" = some (.ref e_Climb)
  cl_Climb : L2.Cls K e_Climb
  nf_Climb_weights : L2.NoAttr K e_Climb "weights"
  nf_Climb_lists : L2.NoAttr K e_Climb "lists"
  nf_Climb_cycle : L2.NoAttr K e_Climb "cycle"
  nf_Climb_row : L2.NoAttr K e_Climb "row"
  nf_Climb_places : L2.NoAttr K e_Climb "places"
  nf_Climb_met : L2.NoAttr K e_Climb "met"
  t_MOST_STEPS : Tok
  c_MOST_STEPS : mg "MOST_STEPS" = some (.int 5000 t_MOST_STEPS)
  t_NOWHERE : Tok
  c_NOWHERE : mg "NOWHERE" = some (.int (-1) t_NOWHERE)
  a_neighbour_lists : Addr
  fd_neighbour_lists : FuncData
  F_neighbour_lists : Fun K "neighbour_lists" "neighbour_lists" s_neighbour_lists a_neighbour_lists fd_neighbour_lists
  b_neighbour_lists : Binds K fd_neighbour_lists ["tree"] []
  g_neighbour_lists : mg "neighbour_lists" = some (.ref a_neighbour_lists)
  a_walk : Addr
  fd_walk : FuncData
  F_walk : Fun K "walk" "walk" s_walk a_walk fd_walk
  b_walk : Binds K fd_walk ["tree", "root"] []
  g_walk : mg "walk" = some (.ref a_walk)
  a_ratio : Addr
  fd_ratio : FuncData
  F_ratio : Fun K "ratio" "ratio" s_ratio a_ratio fd_ratio
  b_ratio : Binds K fd_ratio ["a", "b"] []
  g_ratio : mg "ratio" = some (.ref a_ratio)
  a_less_inverse : Addr
  fd_less_inverse : FuncData
  F_less_inverse : Fun K "less_inverse" "less_inverse" s_less_inverse a_less_inverse fd_less_inverse
  b_less_inverse : Binds K fd_less_inverse ["one", "other"] []
  g_less_inverse : mg "less_inverse" = some (.ref a_less_inverse)
  a_signs : Addr
  fd_signs : FuncData
  F_signs : Fun K "signs" "signs" s_signs a_signs fd_signs
  b_signs : Binds K fd_signs ["tree"] []
  g_signs : mg "signs" = some (.ref a_signs)
  a_is_below : Addr
  fd_is_below : FuncData
  F_is_below : Fun K "is_below" "is_below" s_is_below a_is_below fd_is_below
  b_is_below : Binds K fd_is_below ["tree"] []
  g_is_below : mg "is_below" = some (.ref a_is_below)
  a_row_of : Addr
  fd_row_of : FuncData
  F_row_of : Fun K "row_of" "row_of" s_row_of a_row_of fd_row_of
  b_row_of : Binds K fd_row_of ["tree", "cycle"] []
  g_row_of : mg "row_of" = some (.ref a_row_of)
  a_check_below : Addr
  fd_check_below : FuncData
  F_check_below : Fun K "check_below" "check_below" s_check_below a_check_below fd_check_below
  b_check_below : Binds K fd_check_below ["tree"] []
  g_check_below : mg "check_below" = some (.ref a_check_below)
  a_Climb___init : Addr
  fd_Climb___init : FuncData
  F_Climb___init : Fun K "__init__" "Climb.__init__" s_Climb___init a_Climb___init fd_Climb___init
  b_Climb___init : Binds K fd_Climb___init ["self", "tree", "cycle"] []
  mk_Climb : L2.Mk K e_Climb a_Climb___init
  a_Climb_least_step : Addr
  fd_Climb_least_step : FuncData
  F_Climb_least_step : Fun K "least_step" "Climb.least_step" s_Climb_least_step a_Climb_least_step fd_Climb_least_step
  b_Climb_least_step : Binds K fd_Climb_least_step ["self", "barred"] []
  me_Climb_least_step : L2.Meth K e_Climb "least_step" a_Climb_least_step
  a_Climb_raise_at : Addr
  fd_Climb_raise_at : FuncData
  F_Climb_raise_at : Fun K "raise_at" "Climb.raise_at" s_Climb_raise_at a_Climb_raise_at fd_Climb_raise_at
  b_Climb_raise_at : Binds K fd_Climb_raise_at ["self", "place"] []
  me_Climb_raise_at : L2.Meth K e_Climb "raise_at" a_Climb_raise_at
  a_Climb_step_at : Addr
  fd_Climb_step_at : FuncData
  F_Climb_step_at : Fun K "step_at" "Climb.step_at" s_Climb_step_at a_Climb_step_at fd_Climb_step_at
  b_Climb_step_at : Binds K fd_Climb_step_at ["self", "place"] []
  me_Climb_step_at : L2.Meth K e_Climb "step_at" a_Climb_step_at
  a_Climb_step_on : Addr
  fd_Climb_step_on : FuncData
  F_Climb_step_on : Fun K "step_on" "Climb.step_on" s_Climb_step_on a_Climb_step_on fd_Climb_step_on
  b_Climb_step_on : Binds K fd_Climb_step_on ["self", "barred", "limit"] []
  me_Climb_step_on : L2.Meth K e_Climb "step_on" a_Climb_step_on
  a_above : Addr
  fd_above : FuncData
  F_above : Fun K "above" "above" s_above a_above fd_above
  b_above : Binds K fd_above ["tree", "x"] []
  g_above : mg "above" = some (.ref a_above)
  a_climbed : Addr
  fd_climbed : FuncData
  F_climbed : Fun K "_climbed" "_climbed" s_climbed a_climbed fd_climbed
  b_climbed : Binds K fd_climbed ["tree", "x"] []
  g_climbed : mg "_climbed" = some (.ref a_climbed)
  a_law_begun : Addr
  fd_law_begun : FuncData
  F_law_begun : Fun K "_law_begun" "_law_begun" s_law_begun a_law_begun fd_law_begun
  b_law_begun : Binds K fd_law_begun ["script", "k"] []
  g_law_begun : mg "_law_begun" = some (.ref a_law_begun)
  a_law_draw : Addr
  fd_law_draw : FuncData
  F_law_draw : Fun K "_law_draw" "_law_draw" s_law_draw a_law_draw fd_law_draw
  b_law_draw : Binds K fd_law_draw ["m", "bound"] []
  g_law_draw : mg "_law_draw" = some (.ref a_law_draw)
  a_law_of : Addr
  fd_law_of : FuncData
  F_law_of : Fun K "_law_of" "_law_of" s_law_of a_law_of fd_law_of
  b_law_of : Binds K fd_law_of ["m", "some"] []
  g_law_of : mg "_law_of" = some (.ref a_law_of)
  a_law_near : Addr
  fd_law_near : FuncData
  F_law_near : Fun K "_law_near" "_law_near" s_law_near a_law_near fd_law_near
  b_law_near : Binds K fd_law_near ["tree"] []
  g_law_near : mg "_law_near" = some (.ref a_law_near)
  a_law_made : Addr
  fd_law_made : FuncData
  F_law_made : Fun K "_law_made" "_law_made" s_law_made a_law_made fd_law_made
  b_law_made : Binds K fd_law_made ["weights", "ties"] []
  g_law_made : mg "_law_made" = some (.ref a_law_made)
  a_law_shape : Addr
  fd_law_shape : FuncData
  F_law_shape : Fun K "_law_shape" "_law_shape" s_law_shape a_law_shape fd_law_shape
  b_law_shape : Binds K fd_law_shape ["m", "n"] []
  g_law_shape : mg "_law_shape" = some (.ref a_law_shape)
  a_law_minors : Addr
  fd_law_minors : FuncData
  F_law_minors : Fun K "_law_minors" "_law_minors" s_law_minors a_law_minors fd_law_minors
  b_law_minors : Binds K fd_law_minors ["tree", "near", "place", "last"] []
  g_law_minors : mg "_law_minors" = some (.ref a_law_minors)
  a_law_is_below : Addr
  fd_law_is_below : FuncData
  F_law_is_below : Fun K "_law_is_below" "_law_is_below" s_law_is_below a_law_is_below fd_law_is_below
  b_law_is_below : Binds K fd_law_is_below ["tree"] []
  g_law_is_below : mg "_law_is_below" = some (.ref a_law_is_below)
  a_law_all_above : Addr
  fd_law_all_above : FuncData
  F_law_all_above : Fun K "_law_all_above" "_law_all_above" s_law_all_above a_law_all_above fd_law_all_above
  b_law_all_above : Binds K fd_law_all_above ["tree", "near", "place", "last"] []
  g_law_all_above : mg "_law_all_above" = some (.ref a_law_all_above)
  a_law_row : Addr
  fd_law_row : FuncData
  F_law_row : Fun K "_law_row" "_law_row" s_law_row a_law_row fd_law_row
  b_law_row : Binds K fd_law_row ["tree", "x"] []
  g_law_row : mg "_law_row" = some (.ref a_law_row)
  a_law_is_long : Addr
  fd_law_is_long : FuncData
  F_law_is_long : Fun K "_law_is_long" "_law_is_long" s_law_is_long a_law_is_long fd_law_is_long
  b_law_is_long : Binds K fd_law_is_long ["tree"] []
  g_law_is_long : mg "_law_is_long" = some (.ref a_law_is_long)
  a_law_drawn_below : Addr
  fd_law_drawn_below : FuncData
  F_law_drawn_below : Fun K "_law_drawn_below" "_law_drawn_below" s_law_drawn_below a_law_drawn_below fd_law_drawn_below
  b_law_drawn_below : Binds K fd_law_drawn_below ["m", "most"] []
  g_law_drawn_below : mg "_law_drawn_below" = some (.ref a_law_drawn_below)
  a_law_above : Addr
  fd_law_above : FuncData
  F_law_above : Fun K "_law_above" "_law_above" s_law_above a_law_above fd_law_above
  b_law_above : Binds K fd_law_above ["tree", "x", "free"] []
  g_law_above : mg "_law_above" = some (.ref a_law_above)
  a_law_any_steps : Addr
  fd_law_any_steps : FuncData
  F_law_any_steps : Fun K "_law_any_steps" "_law_any_steps" s_law_any_steps a_law_any_steps fd_law_any_steps
  b_law_any_steps : Binds K fd_law_any_steps ["m", "tree", "x", "free"] []
  g_law_any_steps : mg "_law_any_steps" = some (.ref a_law_any_steps)
  a_law_filled : Addr
  fd_law_filled : FuncData
  F_law_filled : Fun K "_law_filled" "_law_filled" s_law_filled a_law_filled fd_law_filled
  b_law_filled : Binds K fd_law_filled ["m", "most"] []
  g_law_filled : mg "_law_filled" = some (.ref a_law_filled)
  a_law : Addr
  fd_law : FuncData
  F_law : Fun K "law" "law" s_law a_law fd_law
  b_law : Binds K fd_law ["script"] []
  g_law : mg "law" = some (.ref a_law)
  z_enumerate : mg "enumerate" = none
  z_int : mg "int" = none
  z_isinstance : mg "isinstance" = none
  z_len : mg "len" = none
  z_list : mg "list" = none
  z_max : mg "max" = none
  z_min : mg "min" = none
  z_range : mg "range" = none
  z_reversed : mg "reversed" = none
  z_sorted : mg "sorted" = none
  z_sum : mg "sum" = none
  z_tuple : mg "tuple" = none
  z_zip : mg "zip" = none
  m_gcd : mg "gcd" = some (.builtin "math.gcd")
end Y
namespace Y
open PySem PySem.Spec PyProof.Rows L2
section
variable {P : Program} {w : World} {K : PySem.W.Frag} {mg : Str → Option Value} {base : Heap}
theorem ok_law_begun (T : Txt K mg) : FnOk P w K mg base CX0 1 T.a_law_begun T.fd_law_begun ["script", "k"] (sp_law_begun K) := by
  refine T.F_law_begun.ok sc_law_begun (fun vs H Q E h => ?_) (fun cdv A outer s H vs Q E hr h => ?_)
  · obtain ⟨a, ns, k, rfl, _⟩ := h
    rfl
  · obtain ⟨a, ns, k, rfl, hs, hl, hk, q⟩ := h
    refine ⟨_, (pss_cons (ps_set (i := 2) sc_law_begun.nd rfl (Or.inl rfl) (pe_op op_cat (pe_slice (sl_listK K rfl) (pv 0) (po_some (pv 1)) po_none) (pe_slice (sl_listK K rfl) (pv 0) po_none (po_some (pv 1)))))
      (pss_cons (ps_setLc (i := 3) (own := [("cell", 5)]) rfl sc_law_begun.nd rfl rfl (sw_true rfl rfl rfl (by decide +kernel)) (pi_list (pv 2)) (blkOk_by (own := [("cell", 5)]) (N := ["script", "k", "cells", "great", "seed", "cell"]) (sc := defScope s_law_begun) (by decide +kernel)) (fun _ _ _ _ _ => (pg_name (i := 5) sc_law_begun.nd rfl (Or.inl rfl))) (fun _ _ _ _ _ => pts_one (pt_cmpR op_ge (pv 5) (pe_op op_pow pe_int pe_int) (nomark _))) (fun _ _ _ _ _ => (pv 5)))
      (pss_cons (ps_set (i := 4) sc_law_begun.nd rfl (Or.inl rfl) (pe_op op_add pe_int (pv 1)))
      (pss_cons (ps_for PassesOwn.never rfl (pi_list (pv 2)) (pg_name (i := 5) sc_law_begun.nd rfl (Or.inl rfl))
        (pss_one (ps_set (i := 4) sc_law_begun.nd rfl (Or.inl rfl) (pe_op op_modN (pe_callTy call_int1 (by rfl) T.z_int (by decide +kernel) (pa_cons (pe_op op_add (pe_op op_mul (pv 4) pe_int) (pv 5)) pa_nil)) pe_int))))
      (pss_one (ps_ret (pe_disp (pps_cons pe_str (pe_ifExp (pt_cmpR (op_neDK K rfl hr.units) (pv 3) (pe_lst pa_nil) (nomark _)) (pe_ix (ix_listK K rfl) (pv 3) pe_int (fun _ _ => rfl)) pe_int) (pps_cons pe_str (pv 4) (pps_cons pe_str (pe_op op_cat (pv 2) (pe_lst (pa_cons (pe_op op_add (pe_op op_mul pe_int (pv 1)) pe_int) pa_nil))) (pps_cons pe_str pe_int pps_nil)))) (by rfl) (by rfl) (fun z => by cases z) (by decide)))))))), ?_⟩
    have cut : ∀ (xs : List Int) lo hi, cutV (iV xs) lo hi = iV (((xs.drop (HT.sIx xs.length 0 lo)).take (HT.sIx xs.length xs.length hi - HT.sIx xs.length 0 lo))) := fun xs lo hi => by
      unfold cutV iV
      rw [List.length_map, List.map_take, List.map_drop]
    refine ⟨_, rfl, _, rfl, _, rfl, a, _, rfl, hs, fun p1 hp1 => ?_⟩
    have s1 : Same H (upd H p1 (.lst (cutV (iV ns) (some (k : Int)) none))) := same_new hp1 _
    refine ⟨_, rfl, _, rfl, _, rfl, a, _, rfl, s1.seq hs, fun p2 hp2 => ?_⟩
    have n12 : p1 ≠ p2 := fun e => by rw [← e, upd_same] at hp2; cases hp2
    obtain ⟨xs, hxs⟩ : ∃ xs, xs = (((ns.drop (HT.sIx ns.length 0 (some (k : Int)))).take (HT.sIx ns.length ns.length none - HT.sIx ns.length 0 (some (k : Int))))) := ⟨_, rfl⟩
    obtain ⟨ys, hys⟩ : ∃ ys, ys = (((ns.drop (HT.sIx ns.length 0 none)).take (HT.sIx ns.length ns.length (some (k : Int)) - HT.sIx ns.length 0 none))) := ⟨_, rfl⟩
    rw [cut, ← hxs] at hp2 s1 ⊢
    rw [cut, ← hys]
    have lx : xs.length ≤ 63 := by
      rw [hxs, List.length_take, List.length_drop]
      omega
    have ly : ys.length ≤ 63 := by
      rw [hys, List.length_take, List.length_drop]
      omega
    have s2 : Same H (upd (upd H p1 (.lst (iV xs))) p2 (.lst (iV ys))) := s1.trans (same_new hp2 _)
    refine ⟨p1, p2, _, _, rfl, rfl, by rw [upd_ne n12, upd_same], upd_same, sz (by rw [iV_len, iV_len]; omega), fun p3 hp3 => ?_⟩
    have ecat : iV xs ++ iV ys = iV (xs ++ ys) := by unfold iV; rw [List.map_append]
    rw [ecat]
    have s3 := s2.trans (same_new hp3 (.lst (iV (xs ++ ys))))
    obtain ⟨H3, hH3⟩ : ∃ H3, H3 = upd (upd (upd H p1 (.lst (iV xs))) p2 (.lst (iV ys))) p3 (.lst (iV (xs ++ ys))) := ⟨_, rfl⟩
    have h3 : H3 p3 = some (.lst (iV (xs ++ ys))) := by rw [hH3]; exact upd_same
    rw [← hH3] at s3 ⊢
    have lz : (iV (xs ++ ys)).length ≤ 126 := by rw [iV_len, List.length_append]; omega
    obtain ⟨zs, hzs⟩ : ∃ zs, zs = xs ++ ys := ⟨_, rfl⟩
    rw [← hzs] at h3 lz
    clear hH3 hzs ecat
    -- great
    refine ⟨_, rfl, p3, rfl, ⟨_, .inl (.inl h3)⟩, ?_⟩
    refine lcw (K := K) walk_list [] (fun i => (zs[i]?).bind fun c => if decide ((10 : Int) ^ 18 ≤ c) = true then some (.int c) else none) (by omega) (Trk.nil _) (fun H' s => .inl (.inl (s _ _ h3))) ?_ ?_
    · rintro D i x H4 H5 R R0 hi s4 hT ⟨rfl, hx⟩ hR hR0
      obtain ⟨c, hc, rfl⟩ := iV_get hx
      refine ⟨rfl, _, rfl, _, _, rfl, rfl, ⟨by decide, by decide, by decide⟩, _, _, rfl, rfl, _, rfl, ?_⟩
      refine ite2 (fun z => ?_) (fun z => ?_)
      · refine ⟨_, rfl, hR _ _ (.int c) ?_ (Same.refl _) (.int _)⟩
        rw [hc]
        exact if_pos z
      · refine hR0 _ ?_ (Same.refl _)
        rw [hc]
        exact if_neg z
    · intro g H4 gs' hg s4 eg ag
      obtain ⟨gs, rfl, _⟩ := dpAll_someInts ag fun d hd => by
        obtain ⟨i, _, e⟩ := List.mem_filterMap.mp hd
        cases ez : zs[i]? with
        | none => rw [ez] at e; cases e
        | some c =>
          rw [ez] at e
          simp only [Option.bind_some] at e
          split at e
          · exact ⟨c, (Option.some.inj e).symm⟩
          · cases e
      -- seed
      refine ⟨_, rfl, _, _, rfl, rfl, ?_⟩
      have e43 : H4 p3 = some (.lst (iV zs)) := s4 _ _ h3
      refine ⟨_, rfl, p3, rfl, ⟨_, .inl (.inl e43)⟩, for_list (K := K) (a := p3) (xs := iV zs) (fun i σ H' => H' = H4 ∧ ∃ seed y, σ = [some (.ref a), some (.int k), some (.ref p3), some (.ref g), some (.int seed), y]) ⟨rfl, _, none, rfl⟩ (fun i σ H' _ ⟨e, _⟩ => by rw [e]; exact .inl (.inl e43)) ?_ ?_⟩
      · rintro i x σ H' hx ⟨rfl, seed, y, rfl⟩
        obtain ⟨c, hc, rfl⟩ := iV_get hx
        exact ⟨_, rfl, _, _, rfl, rfl, .inr ⟨by decide, by decide⟩, _, rfl, _, _, rfl, rfl, .inl ⟨_, rfl, _, _, rfl, rfl, (by show (2147483647 : Int) ≠ 0; decide), rfl, _, _, rfl⟩⟩
      · rintro σ H' ⟨rfl, seed, y, rfl⟩
        intro m hm
        refine ⟨_, rfl, Nat.zero_le _, fun e he => ?_⟩
        have nem : m ≠ e := fun z => by rw [← z, upd_same] at he; cases he
        have ngm : g ≠ m := ne_of_none eg hm
        have nge : g ≠ e := fun z => by rw [← z, upd_ne ngm, eg] at he; cases he
        have n3m : p3 ≠ m := ne_of_none e43 hm
        have n3e : p3 ≠ e := fun z => by rw [← z, upd_ne n3m, e43] at he; cases he
        have eg2 : (upd (upd H' m (.dK [])) e (.lst [])) g = some (.lst (iV gs)) := by rw [upd_ne nge, upd_ne ngm]; exact eg
        have e32 : (upd (upd H' m (.dK [])) e (.lst [])) p3 = some (.lst (iV zs)) := by rw [upd_ne n3e, upd_ne n3m]; exact e43
        have em2 : (upd (upd H' m (.dK [])) e (.lst [])) m = some (.dK []) := by rw [upd_ne nem, upd_same]
        refine ⟨.list (iD gs), .list [], .lst (.inl (.inl eg2)) (dpAll_ints.mpr rfl), .lst (.inl (.inl upd_same)) .nil, shaped_iL gs, shaped_iL [], ?_⟩
        rw [eqv_nilL]
        obtain ⟨Hx, hHx⟩ : ∃ Hx, Hx = upd (upd H' m (.dK [])) e (.lst []) := ⟨_, rfl⟩
        have sx : Same H' Hx := by rw [hHx]; exact (same_new hm _).trans (same_new he _)
        rw [← hHx] at eg2 e32 em2 ⊢
        have fin : ∀ (left : Int) (p4 p5 : Addr), Hx p4 = none → (upd Hx p4 (.lst [.int (53 * (k : Int) + 11)])) p5 = none →
            (upd (upd Hx p4 (.lst [.int (53 * (k : Int) + 11)])) p5 (.lst (iV zs ++ [.int (53 * (k : Int) + 11)]))) m = some (.dK []) ∧
            Q (.ref m) (upd (upd (upd Hx p4 (.lst [.int (53 * (k : Int) + 11)])) p5 (.lst (iV zs ++ [.int (53 * (k : Int) + 11)]))) m (mD left seed 0 p5)) := by
          intro left p4 p5 h4 h5
          have n4 : m ≠ p4 := ne_of_none em2 h4
          have em3 : (upd Hx p4 (.lst [.int (53 * (k : Int) + 11)])) m = some (.dK []) := by rw [upd_ne n4]; exact em2
          have n5 : m ≠ p5 := ne_of_none em3 h5
          have s5 := (sx.trans (same_new h4 (.lst [.int (53 * (k : Int) + 11)]))).trans (same_new h5 (.lst (iV zs ++ [.int (53 * (k : Int) + 11)])))
          refine ⟨by rw [upd_ne n5]; exact em3, q m p5 (zs ++ [53 * (k : Int) + 11]) _ (s3.trans (s4.trans (same_mut s5 hm))) (s3.free (s4.free hm)) ⟨⟨_, _, _, upd_same, by omega, by omega⟩, ?_, by simp, ?_, by omega⟩⟩
          · rw [upd_ne n5.symm, upd_same]
            unfold iV
            rw [List.map_append]
            rfl
          · rw [iV_len] at lz
            rw [List.length_append]
            show zs.length + 1 ≤ 200
            omega
        have szz : (iV zs).length + 1 ≤ sizeLine := sz (by omega)
        cases gs with
        | nil =>
          refine ⟨_, rfl, iteF ?_⟩
          exact ⟨_, rfl, _, rfl, _, rfl, _, _, rfl, rfl, .inl ⟨by decide, by decide⟩, _, _, rfl, rfl, (by show 1 ≤ sizeLine; decide), fun p4 h4 => ⟨p3, p4, _, _, rfl, rfl, (by rw [upd_ne (ne_of_none e32 h4)]; exact e32), upd_same, szz, fun p5 h5 => ⟨(fin 0 p4 p5 h4 h5).1, [(kL, .int 0), (kS, .int seed), (kC, .ref p5), (kP, .int 0)], rfl, (by show 4 ≤ 15; decide), (fin 0 p4 p5 h4 h5).2⟩⟩⟩
        | cons z gs =>
          refine ⟨_, rfl, iteT ?_⟩
          exact ⟨_, rfl, g, _, _, .int z, rfl, rfl, .inl (.inl eg2), atI_nat (j := 0) rfl, _, rfl, _, rfl, _, rfl, _, _, rfl, rfl, .inl ⟨by decide, by decide⟩, _, _, rfl, rfl, (by show 1 ≤ sizeLine; decide), fun p4 h4 => ⟨p3, p4, _, _, rfl, rfl, (by rw [upd_ne (ne_of_none e32 h4)]; exact e32), upd_same, szz, fun p5 h5 => ⟨(fin z p4 p5 h4 h5).1, [(kL, .int z), (kS, .int seed), (kC, .ref p5), (kP, .int 0)], rfl, (by show 4 ≤ 15; decide), (fin z p4 p5 h4 h5).2⟩⟩⟩

end
end Y
namespace Y
open PySem PySem.Spec PyProof.Rows L2
section
variable {P : Program} {w : World} {K : PySem.W.Frag} {mg : Str → Option Value} {base : Heap}
theorem ok_law_draw (T : Txt K mg) : FnOk P w K mg base CX0 1 T.a_law_draw T.fd_law_draw ["m", "bound"] (sp_law_draw K) := by
  refine T.F_law_draw.ok sc_law_draw (fun vs H Q E h => ?_) (fun cdv A outer s H vs Q E hr h => ?_)
  · obtain ⟨m, c, cs, b, n, rfl, _⟩ := h
    rfl
  · obtain ⟨m, c, cs, b, n, rfl, M, hb, h0, h1, q⟩ := h
    obtain ⟨left, seed, spot, em, p0, p1⟩ := M.d
    have nmc := M.nmc
    refine ⟨_, (pss_cons (ps_if (pt_cmpR op_gt (pe_dget (hu_of hr) (pv 0) pe_str (fun _ _ => rfl)) pe_int (nomark _))
        (pss_cons (ps_set (i := 2) sc_law_draw.nd rfl (Or.inl rfl) (pe_op op_modN (pe_callTy call_int1 (by rfl) T.z_int (by decide +kernel) (pa_cons (pe_dget (hu_of hr) (pv 0) pe_str (fun _ _ => rfl)) pa_nil)) (pv 1)))
        (pss_cons (ps_dput (hu_of hr) (pv 0) pe_str (pe_op op_fdivB (pe_dget (hu_of hr) (pv 0) pe_str (fun _ _ => rfl)) (pv 1)) rfl)
        (pss_one (ps_ret (pv 2)))))
        pss_nil)
      (pss_cons (ps_set (i := 3) sc_law_draw.nd rfl (Or.inl rfl) (pe_dget (hu_of hr) (pv 0) pe_str (fun _ _ => rfl)))
      (pss_cons (ps_dput (hu_of hr) (pv 0) pe_str (pe_op op_add (pv 3) pe_int) rfl)
      (pss_cons (ps_par (by rfl) sc_law_draw.nd (i := 4) (j := 5) rfl rfl (by decide) rfl rfl (pa_cons (pe_dget (hu_of hr) (pv 0) pe_str (fun _ _ => rfl)) (pa_cons (pe_op op_add (pe_dget (hu_of hr) (pv 0) pe_str (fun _ _ => rfl)) (pe_op op_mul (pe_op op_mul pe_int (pv 3)) (pv 3))) pa_nil)) (by rfl))
      (pss_cons (ps_set (i := 6) sc_law_draw.nd rfl (Or.inl rfl) (pe_ix (ix_listK K rfl) (pv 4) (pe_op op_modN (pe_callTy call_int1 (by rfl) T.z_int (by decide +kernel) (pa_cons (pv 3) pa_nil)) (pe_callB (call_lenK K rfl) (by rfl) T.z_len PySem.boot_len (pa_cons (pv 4) pa_nil))) (fun _ _ => rfl)))
      (pss_cons (ps_set (i := 7) sc_law_draw.nd rfl (Or.inl rfl) (pe_op op_modN (pe_callTy call_int1 (by rfl) T.z_int (by decide +kernel) (pa_cons (pe_op op_add (pe_op op_mul (pv 6) (pe_op op_add (pe_op op_mul pe_int (pv 3)) pe_int)) (pv 5)) pa_nil)) pe_int))
      (pss_cons (ps_set (i := 7) sc_law_draw.nd rfl (Or.inl rfl) (pe_op op_modN (pe_callTy call_int1 (by rfl) T.z_int (by decide +kernel) (pa_cons (pe_op op_add (pe_op op_add (pe_op op_mul (pv 7) (pv 7)) (pe_op op_mul pe_int (pv 3))) (pe_dget (hu_of hr) (pv 0) pe_str (fun _ _ => rfl))) pa_nil)) pe_int))
      (pss_one (ps_ret (pe_op op_modN (pe_op op_fdivB (pe_op op_modN (pe_callTy call_int1 (by rfl) T.z_int (by decide +kernel) (pa_cons (pe_op op_add (pe_op op_mul (pv 7) pe_int) (pv 3)) pa_nil)) pe_int) pe_int) (pv 1))))))))))), ?_⟩
    refine ⟨_, rfl, m, _, rfl, getL em, _, _, rfl, rfl, _, rfl, ?_⟩
    refine ite2 (fun _ => ?_) (fun _ => ?_)
    · refine ⟨_, rfl, m, _, rfl, getL em, .inl ⟨_, rfl, _, rfl, _, _, rfl, rfl, by omega, ?_⟩⟩
      refine ⟨_, rfl, m, _, rfl, getL em, _, rfl, _, _, rfl, rfl, divB (i := 0) (c := 200) (by omega) (by omega) (by omega), _, rfl, m, _, rfl, putL em _, ?_⟩
      obtain ⟨f0, f1⟩ := fmod_b (x := left) h0
      exact ⟨_, rfl, q _ _ f0 f1 (sameM_upd _) ⟨⟨_, _, _, upd_same, p0, by omega⟩, by rw [upd_ne nmc.symm]; exact M.c, M.ne, M.few, by omega⟩⟩
    · refine ⟨_, rfl, m, _, rfl, getP em, ?_⟩
      refine ⟨_, rfl, _, _, rfl, rfl, _, rfl, m, _, rfl, putP em _, ?_⟩
      have e2 : (upd H m (mD left seed (spot + 1) c)) m = some (mD left seed (spot + 1) c) := upd_same
      have c2 : (upd H m (mD left seed (spot + 1) c)) c = some (.lst (iV cs)) := by rw [upd_ne nmc.symm]; exact M.c
      have lim := M.lim
      have h64 : (2 : Int) ^ 64 = 18446744073709551616 := by decide
      have k1 : 0 ≤ 40503 * spot ∧ 40503 * spot < 18446744073709551616 := by omega
      have lc : (iV cs).length = cs.length := iV_len _
      have few := M.few
      have ne := M.ne
      refine ⟨_, rfl, m, _, rfl, getC e2, _, rfl, m, _, rfl, getS e2, _, rfl, _, _, rfl, rfl, .inl ⟨by decide, by decide⟩, _, rfl, _, _, rfl, rfl, .inl ⟨by omega, by omega⟩, _, _, rfl, rfl, _, _, rfl, ?_⟩
      obtain ⟨f0, f1⟩ := fmod_b (x := spot) (n := ((iV cs).length : Int)) (by omega)
      obtain ⟨x, hx⟩ : ∃ x, cs[(spot.fmod ((iV cs).length : Int)).toNat]? = some x := ⟨_, List.getElem?_eq_getElem (show (spot.fmod ((iV cs).length : Int)).toNat < cs.length by omega)⟩
      refine ⟨_, rfl, _, rfl, .inl ⟨_, rfl, _, rfl, c, _, rfl, .inl (.inl (.inl c2)), _, _, rfl, rfl, by omega, c, _, _, .int x, rfl, rfl, .inl (.inl c2), at_of (j := (spot.fmod ((iV cs).length : Int)).toNat) (by omega) (iV_at hx), ?_⟩⟩
      have k2 : -(2 ^ 64) < 2 * spot + 3 ∧ 2 * spot + 3 < 2 ^ 64 := by rw [h64]; omega
      refine ⟨_, rfl, _, rfl, _, _, rfl, rfl, .inl ⟨by decide, by decide⟩, _, _, rfl, rfl, _, _, rfl, rfl, .inr k2, _, rfl, _, _, rfl, rfl, .inl ⟨_, rfl, _, _, rfl, rfl, (by show (2147483647 : Int) ≠ 0; decide), ?_⟩⟩
      obtain ⟨g0, g1⟩ := fmod_b (x := x * (2 * spot + 3) + (seed + 40503 * spot * spot)) (n := 2147483647) (by decide)
      refine ⟨_, rfl, _, rfl, _, _, rfl, rfl, .inl ⟨by omega, by omega⟩, _, rfl, _, _, rfl, rfl, .inl ⟨by decide, by decide⟩, _, _, rfl, rfl, _, rfl, m, _, rfl, getS e2, _, _, rfl, rfl, .inl ⟨_, rfl, _, _, rfl, rfl, (by show (2147483629 : Int) ≠ 0; decide), ?_⟩⟩
      obtain ⟨l0, l1⟩ := fmod_b (x := (x * (2 * spot + 3) + (seed + 40503 * spot * spot)).fmod 2147483647 * (x * (2 * spot + 3) + (seed + 40503 * spot * spot)).fmod 2147483647 + 69621 * spot + seed) (n := 2147483629) (by decide)
      refine ⟨_, rfl, _, _, rfl, rfl, .inl ⟨by omega, by omega⟩, _, rfl, _, _, rfl, rfl, .inl ⟨_, rfl, _, _, rfl, rfl, (by show (2147483647 : Int) ≠ 0; decide), _, _, rfl, rfl, divB (i := 0) (j := 11) (c := 200) (by decide) (by decide) (by decide), _, rfl, _, _, rfl, rfl, by omega, ?_⟩⟩
      obtain ⟨r0, r1⟩ := fmod_b (x := ((((x * (2 * spot + 3) + (seed + 40503 * spot * spot)).fmod 2147483647 * (x * (2 * spot + 3) + (seed + 40503 * spot * spot)).fmod 2147483647 + 69621 * spot + seed).fmod 2147483629 * 48271 + spot).fmod 2147483647).fdiv 11) h0
      exact q _ _ r0 r1 (sameM_upd _) ⟨⟨_, _, _, e2, by omega, by omega⟩, c2, M.ne, M.few, by omega⟩

end
end Y
namespace Y
open PySem PySem.Spec PyProof.Rows L2
section
variable {P : Program} {w : World} {K : PySem.W.Frag} {mg : Str → Option Value} {base : Heap}
theorem ok_law_ofL (T : Txt K mg) : FnOk P w K mg base CX0 2 T.a_law_of T.fd_law_of ["m", "some"] (sp_law_ofL K) := by
  refine T.F_law_of.ok sc_law_of (fun vs H Q E h => ?_) (fun cdv A outer s H vs Q E hr h => ?_)
  · obtain ⟨L, m, c, cs, b, sv, ds, rfl, _⟩ := h
    rfl
  · obtain ⟨L, m, c, cs, b, sv, ds, rfl, hm, M, hb, dd, h0, h1, q⟩ := h
    obtain ⟨a, xs, rfl, ha, hx⟩ := dp_lst dd
    refine ⟨_, (pss_one (ps_ret (pe_ix (ix_listK K rfl) (pv 1) (pe_call (ok_law_draw T) (hr.mono (by decide)) rfl T.g_law_draw T.F_law_draw.kp T.b_law_draw .nil pass0 (pa_cons (pv 0) (pa_cons (pe_callB (call_lenK K rfl) (by rfl) T.z_len PySem.boot_len (pa_cons (pv 1) pa_nil)) pa_nil))) (fun _ _ => rfl)))), ?_⟩
    have lx : xs.length = ds.length := hx.length
    refine ⟨_, rfl, _, rfl, _, rfl, a, _, rfl, .inl ((wo_le _ _).seq ha), m, c, cs, b, _, rfl, M, hb, by omega, by omega, fun r H1 r0 r1 s1 M1 => ?_⟩
    have w1 := SameM.wo s1 hm
    obtain ⟨d, hd⟩ : ∃ d, ds[r.toNat]? = some d := ⟨_, List.getElem?_eq_getElem (show r.toNat < ds.length by omega)⟩
    obtain ⟨v, hv, dv⟩ := hx.get hd
    refine ⟨a, _, _, v, rfl, rfl, (wo_le _ _).seq (w1.seq ha), at_of (j := r.toNat) (by omega) hv, ?_⟩
    exact q d _ _ (List.mem_of_getElem? hd) (dp_mono w1 dv) s1 M1

end
end Y
namespace Y
open PySem PySem.Spec PyProof.Rows L2
section
variable {P : Program} {w : World} {K : PySem.W.Frag} {mg : Str → Option Value} {base : Heap}
theorem ok_law_of (T : Txt K mg) : FnOk P w K mg base CX0 2 T.a_law_of T.fd_law_of ["m", "some"] (sp_law_of K) := by
  refine T.F_law_of.ok sc_law_of (fun vs H Q E h => ?_) (fun cdv A outer s H vs Q E hr h => ?_)
  · obtain ⟨m, c, cs, b, sv, ns, rfl, _⟩ := h
    rfl
  · obtain ⟨m, c, cs, b, sv, ns, rfl, M, hb, ds, h0, h1, q⟩ := h
    obtain ⟨a, rfl, ha⟩ := dp_intsL.mp ds
    refine ⟨_, (pss_one (ps_ret (pe_ix (ix_listK K rfl) (pv 1) (pe_call (ok_law_draw T) (hr.mono (by decide)) rfl T.g_law_draw T.F_law_draw.kp T.b_law_draw .nil pass0 (pa_cons (pv 0) (pa_cons (pe_callB (call_lenK K rfl) (by rfl) T.z_len PySem.boot_len (pa_cons (pv 1) pa_nil)) pa_nil))) (fun _ _ => rfl)))), ?_⟩
    have la : (iV ns).length = ns.length := iV_len _
    refine ⟨_, rfl, _, rfl, _, rfl, a, _, rfl, .inl ((wo_le _ _).seq ha), m, c, cs, b, _, rfl, M, hb, by omega, by omega, fun r H1 r0 r1 s1 M1 => ?_⟩
    obtain ⟨x, hx⟩ : ∃ x, ns[r.toNat]? = some x := ⟨_, List.getElem?_eq_getElem (show r.toNat < ns.length by omega)⟩
    refine ⟨a, _, _, .int x, rfl, rfl, (wo_le _ _).seq (s1.seq ha), at_of (j := r.toNat) (by omega) (iV_at hx), ?_⟩
    exact q _ _ (List.mem_of_getElem? hx) s1 M1

end
end Y
namespace Y
open PySem PySem.Spec PyProof.Rows L2
section
variable {P : Program} {w : World} {K : PySem.W.Frag} {mg : Str → Option Value} {base : Heap}
theorem ok_law_shape (T : Txt K mg) : FnOk P w K mg base CX0 3 T.a_law_shape T.fd_law_shape ["m", "n"] (sp_law_shape K) := by
  refine T.F_law_shape.ok sc_law_shape (fun vs H Q E h => ?_) (fun cdv A outer s H vs Q E hr h => ?_)
  · obtain ⟨L, m, c, cs, b, n, rfl, _⟩ := h
    rfl
  · obtain ⟨L, m, c, cs, b, n, rfl, hm, hT, M, hn, hb, q⟩ := h
    refine ⟨_, (pss_cons (ps_par (by rfl) sc_law_shape.nd (i := 2) (j := 3) rfl rfl (by decide) rfl rfl (pa_cons (pe_call (ok_law_draw T) (hr.mono (by decide)) rfl T.g_law_draw T.F_law_draw.kp T.b_law_draw .nil pass0 (pa_cons (pv 0) (pa_cons pe_int pa_nil))) (pa_cons (pe_lst pa_nil) pa_nil)) (by rfl))
      (pss_cons (ps_for PassesOwn.never rfl (pi_range2 rfl T.z_range (pa_cons pe_int (pa_cons (pv 1) pa_nil))) (pg_name (i := 4) sc_law_shape.nd rfl (Or.inl rfl))
        (pss_one (ps_if (pt_cmpR op_eq (pv 2) pe_int (nomark _))
          (pss_one (ps_expr (pe_bmK K rfl PySem.F.plainAttrs_list PySem.F.slot_list_append PySem.F.type_list_append mt_append (pv 3) (pa_cons (pe_tup (pa_cons (pe_op op_sub (pv 4) pe_int) (pa_cons (pv 4) pa_nil))) pa_nil))))
          (pss_one (ps_if (pt_cmpR op_eq (pv 2) pe_int (nomark _))
            (pss_one (ps_expr (pe_bmK K rfl PySem.F.plainAttrs_list PySem.F.slot_list_append PySem.F.type_list_append mt_append (pv 3) (pa_cons (pe_tup (pa_cons (pe_call (ok_law_of T) (hr.mono (by decide)) rfl T.g_law_of T.F_law_of.kp T.b_law_of .nil pass0 (pa_cons (pv 0) (pa_cons (pe_lst (pa_cons pe_int (pa_cons (pe_op op_sub (pv 4) pe_int) (pa_cons (pe_op op_sub (pv 4) pe_int) pa_nil)))) pa_nil))) (pa_cons (pv 4) pa_nil))) pa_nil))))
            (pss_one (ps_expr (pe_bmK K rfl PySem.F.plainAttrs_list PySem.F.slot_list_append PySem.F.type_list_append mt_append (pv 3) (pa_cons (pe_tup (pa_cons (pe_call (ok_law_draw T) (hr.mono (by decide)) rfl T.g_law_draw T.F_law_draw.kp T.b_law_draw .nil pass0 (pa_cons (pv 0) (pa_cons (pv 4) pa_nil))) (pa_cons (pv 4) pa_nil))) pa_nil)))))))))
      (pss_one (ps_ret (pv 3))))), ?_⟩
    refine ⟨_, rfl, m, c, cs, b, 4, rfl, M, by omega, by decide, by decide, fun wd H1 w0 w1 s1 M1 => ⟨Nat.zero_le _, fun l hl => ⟨_, _, rfl, ?_⟩⟩⟩
    have l0 : H l = none := s1.free hl M.some M1.some
    have lm : l ≠ m := fun e => M1.some (by rw [← e]; exact hl)
    have lc : l ≠ c := fun e => by rw [e, M1.c] at hl; cases hl
    refine ⟨_, rfl, 1, (n : Int), rfl, ⟨by decide, by decide, by omega, by omega⟩, ?_⟩
    refine for_range (lo := 1) (n := ((n : Int) - 1).toNat) (fun i σ H' => (∃ y, σ = [some (.ref m), some (.int n), some (.int wd), some (.ref l), y]) ∧ ∃ ys ties, Shp K H L m c l cs (b + 1 + i) i H' ys ties)
      ⟨⟨_, rfl⟩, [], [], s1.mut l0 _, (M1.upd lm lc), l0, lc, upd_same, .nil, rfl, by simp⟩ ?_ ?_
    · rintro i σ H' hi ⟨⟨y, rfl⟩, ys, ties, S⟩
      have lys : ys.length ≤ 100 := by
        have := S.d.length
        rw [List.length_map, S.n] at this
        omega
      have el := S.el
      have lm' := S.ne hT hm
      have szy : ys.length < sizeLine := szl (by omega)
      have ek : (1 + (i : Int)) = ((i + 1 : Nat) : Int) := by omega
      -- the turn's end
      have fin : ∀ (r : Nat) (H2 : Hp) (p : Addr) (y2 : Option V), SameM m H' H2 → MAt H2 m c cs (b + 1 + (i + 1)) → H2 p = none → r < i + 1 → ∀ x : Int, x = (r : Int) →
          (∃ y, [some (V.ref m), some (.int n), some (.int wd), some (.ref l), y2] = [some (V.ref m), some (.int n), some (.int wd), some (.ref l), y]) ∧
          ∃ ys' ties', Shp K H L m c l cs (b + 1 + (i + 1)) (i + 1) (upd (upd H2 p (.tup [.int x, .int (1 + (i : Int))])) l (.lst (ys ++ [.ref p]))) ys' ties' := by
        intro r H2 p y2 s2 M2 hp hr x hx
        rw [hx, ek]
        exact ⟨⟨_, rfl⟩, _, _, S.turn hT hm s2 M2 hp hr⟩
      have app : ∀ (H2 : Hp) (p : Addr) (o : HO), SameM m H' H2 → H2 p = none → (upd H2 p o) l = some (.lst ys) := by
        intro H2 p o s2 hp
        have e2 := s2.at el lm'
        rw [upd_ne (ne_of_none e2 hp)]
        exact e2
      refine ⟨_, rfl, rfl, _, rfl, ite2 (fun _ => ?_) (fun _ => ?_)⟩
      · refine ⟨_, rfl, .inl ⟨rfl, _, .inl (.inl el)⟩, _, rfl, _, _, rfl, rfl, _, rfl, (by show 2 ≤ sizeLine; decide), fun p hp => ⟨l, _, _, rfl, rfl, app H' p _ (SameM.of (Same.refl _)) hp, szy, ?_⟩⟩
        exact fin i H' p _ (SameM.of (Same.refl _)) (S.M.mono (by omega) (by omega)) hp (by omega) _ (by omega)
      · refine ⟨_, rfl, rfl, _, rfl, ite2 (fun _ => ?_) (fun _ => ?_)⟩
        · refine ⟨_, rfl, .inl ⟨rfl, _, .inl (.inl el)⟩, _, rfl, _, rfl, _, _, rfl, rfl, _, rfl, _, _, rfl, rfl, (by show 3 ≤ sizeLine; decide), fun a ha => ?_⟩
          have sa := SameM.of (m := m) (same_new ha (.lst [.int 0, .int (1 + (i : Int) - 1), .int (1 + (i : Int) - 1)]))
          have Ma := S.M.same (same_new ha (.lst [.int 0, .int (1 + (i : Int) - 1), .int (1 + (i : Int) - 1)]))
          have nam : a ≠ m := fun e => S.M.some (by rw [← e]; exact ha)
          refine ⟨m, c, cs, b + 1 + i, _, [0, 1 + (i : Int) - 1, 1 + (i : Int) - 1], rfl, Ma, by omega, .lst (.inl (.inl ?_)) (dpAll_ints.mpr rfl), by simp, by simp, fun r H2 hr s2 M2 => ?_⟩
          · rw [wo_out (by simpa using nam), upd_same]
            rfl
          · have s3 : SameM m H' H2 := sa.trans s2
            have hr2 : 0 ≤ r ∧ r < (i : Int) + 1 := by
              simp only [List.mem_cons, List.not_mem_nil, or_false] at hr
              omega
            refine ⟨_, rfl, (by show 2 ≤ sizeLine; decide), fun p hp => ⟨l, _, _, rfl, rfl, app H2 p _ s3 hp, szy, ?_⟩⟩
            exact fin r.toNat H2 p _ s3 (M2.mono (by omega) (by omega)) hp (by omega) _ (by omega)
        · refine ⟨_, rfl, .inl ⟨rfl, _, .inl (.inl el)⟩, _, rfl, _, rfl, m, c, cs, b + 1 + i, _, rfl, S.M, by omega, by omega, by omega, fun r H2 r0 r1 s2 M2 => ?_⟩
          refine ⟨_, rfl, (by show 2 ≤ sizeLine; decide), fun p hp => ⟨l, _, _, rfl, rfl, app H2 p _ s2 hp, szy, ?_⟩⟩
          exact fin r.toNat H2 p _ s2 (M2.mono (by omega) (by omega)) hp (by omega) _ (by omega)
    · rintro σ H' ⟨⟨y, rfl⟩, ys, ties, S⟩
      refine ⟨_, rfl, q ties _ _ ⟨by have := S.n; omega, S.sh⟩ S.s (S.M.mono (by omega) (by omega)) (made_lst2 hT S)⟩

end
end Y
namespace Y
open PySem PySem.Spec PyProof.Rows L2
section
variable {P : Program} {w : World} {K : PySem.W.Frag} {mg : Str → Option Value} {base : Heap}
theorem ok_law_made (T : Txt K mg) : FnOk P w K mg base CX0 1 T.a_law_made T.fd_law_made ["weights", "ties"] (sp_law_made K) := by
  refine T.F_law_made.ok sc_law_made (fun vs H Q E h => ?_) (fun cdv A outer s H vs Q E hr h => ?_)
  · obtain ⟨L, wv, tv, ws, ties, rfl, _⟩ := h
    rfl
  · obtain ⟨L, wv, tv, ws, ties, rfl, hT, dw, dt, hn, q⟩ := h
    obtain ⟨a, rfl, ha⟩ := dp_intsL.mp dw
    obtain ⟨b, ps, rfl, hb, hp⟩ := dp_lst dt
    refine ⟨_, (pss_one (ps_ret (pe_tup (pa_cons (pe_callTy (call_tupK K rfl) (by rfl) T.z_tuple (by decide +kernel) (pa_cons (pv 0) pa_nil)) (pa_cons (pe_callTy (call_tupK K rfl) (by rfl) T.z_tuple (by decide +kernel) (pa_cons (pe_callB (cr_sortedDK K rfl) (by rfl) T.z_sorted (by decide +kernel) (pa_cons (pe_lc (own := [("i", 2), ("j", 3)]) rfl sc_law_made.nd (pi_list (pv 1)) (blkOk_by (own := [("i", 2), ("j", 3)]) (N := ["weights", "ties", "i", "j"]) (sc := defScope s_law_made) (by decide +kernel)) (fun _ _ _ _ _ => (pg_tupK K rfl (n := 2) rfl (pgs_cons (pg_name (i := 2) sc_law_made.nd rfl (Or.inl rfl)) (pgs_cons (pg_name (i := 3) sc_law_made.nd rfl (Or.inl rfl)) pgs_nil)))) (fun _ _ _ _ _ => pts_nil) (fun _ _ _ _ _ => (pe_tup (pa_cons (pe_callB (call_min2 rfl) (by rfl) T.z_min (by decide +kernel) (pa_cons (pv 2) (pa_cons (pv 3) pa_nil))) (pa_cons (pe_callB (call_max2 rfl) (by rfl) T.z_max (by decide +kernel) (pa_cons (pv 2) (pa_cons (pv 3) pa_nil))) pa_nil))))) pa_nil)) pa_nil)) pa_nil))))), ?_⟩
    refine ⟨_, rfl, a, _, rfl, .inl ⟨(wo_le _ _).seq ha, fun p hp1 => ?_⟩⟩
    have s1 : Same H (upd H p (.tup (iV ws))) := same_new hp1 _
    have d1 : Dp K (wo (upd H p (.tup (iV ws))) L) (.ref p) (.tuple (iD ws)) := tup_new hT hp1 (dpAll_ints.mpr rfl)
    refine ⟨_, rfl, b, rfl, ⟨ps, (s1.seq ((wo_le _ _).seq hb))⟩, ?_⟩
    have lp : ps.length = ties.length := by rw [hp.length, List.length_map]
    refine lcw (K := K) walk_list L (fun i => (ties[i]?).map fun p => pr (mk2 p.1 p.2)) (by rw [lp]; omega) (hT.mono s1) (fun H' s => s.seq (s1.seq ((wo_le _ _).seq hb))) ?_ ?_
    · rintro D i x H2 H3 R R0 hi s2 hT2 ⟨rfl, hx⟩ hR hR0
      obtain ⟨d, hd, hx2⟩ := hp.getV hx
      rw [List.getElem?_map] at hd
      cases ep : ties[i]? with
      | none => rw [ep] at hd; cases hd
      | some t =>
        rw [ep] at hd
        cases hd
        obtain ⟨e, rfl, he⟩ := dp_pr.mp hx2
        obtain ⟨u, v⟩ := t
        refine ⟨e, _, rfl, (s1.trans s2).tup ((wo_le _ _).tup he), rfl, _, _, rfl, _, _, rfl, rfl, rfl, ?_⟩
        refine ⟨_, rfl, _, rfl, _, _, rfl, _, rfl, _, rfl, _, _, rfl, (by show 2 ≤ sizeLine; decide), fun p3 hp3 => ?_⟩
        have e1 : (if (v : Int) < u then (v : Int) else u) = ((min u v : Nat) : Int) := by
          split <;> omega
        have e2 : (if (v : Int) > u then (v : Int) else u) = ((max u v : Nat) : Int) := by
          split <;> omega
        show R (.ref p3) (upd H3 p3 (.tup [.int (if (v : Int) < u then (v : Int) else u), .int (if (v : Int) > u then (v : Int) else u)]))
        rw [e1, e2]
        refine hR _ _ (pr (mk2 u v)) (by rw [ep]; rfl) (same_new hp3 _) (pr_new hT2 hp3 _ _)
    · intro D H2 ys hD s2 hy ha2
      have ef : (List.range ps.length).filterMap (fun i => (ties[i]?).map fun p => pr (mk2 p.1 p.2)) = (ties.map fun p => mk2 p.1 p.2).map pr := by
        rw [lp, List.map_map]
        exact range_get_all _ _
      rw [ef] at ha2
      refine ⟨D, ys, wo H2 L, _, rfl, .inl (.inl hy), wo_le _ _, dpAll_mono wo_cons_le ha2, fun zs p2 dz hp2 => ?_⟩
      have s3 := same_new hp2 (.lst zs)
      have hT2 := hT.mono (s1.trans s2)
      refine ⟨p2, zs, rfl, .inl ⟨.inl (.inl upd_same), fun p3 hp3 => ?_⟩⟩
      have s4 := same_new hp3 (.tup zs)
      refine ⟨(by show 2 ≤ sizeLine; decide), fun p4 hp4 => ?_⟩
      have d2 : Dp K (wo (upd (upd H2 p2 (.lst zs)) p3 (.tup zs)) L) (.ref p3) (.tuple ((sortP (ties.map fun p => mk2 p.1 p.2)).map pr)) := tup_new (hT2.mono s3) hp3 (dpAll_mono (wo_mono s3) dz)
      refine q _ _ ((((s1.trans s2).trans s3).trans s4).trans (same_new hp4 _)) (tup_new ((hT2.mono s3).mono s4) hp4 (.cons (dp_mono (wo_mono (s2.trans (s3.trans s4))) d1) (.cons d2 .nil)))

end
end Y
namespace Y
open PySem PySem.Spec PyProof.Rows L2
section
variable {P : Program} {w : World} {K : PySem.W.Frag} {mg : Str → Option Value} {base : Heap}
theorem ok_law_minors_k (T : Txt K mg) : ∀ k, FnOk P w K mg base CX0 (k + 1) T.a_law_minors T.fd_law_minors ["tree", "near", "place", "last"] (sp_law_minors k K)
  | 0 => by
    refine T.F_law_minors.ok sc_law_minors (fun vs H Q E h => ?_) (fun cdv A outer s H vs Q E hr h => ?_)
    · obtain ⟨L, tv, nv, t, r, par, dep, D, N, v, last, rfl, _⟩ := h
      rfl
    · obtain ⟨L, tv, nv, t, r, par, dep, D, N, v, last, rfl, hT, B, dt, dn, R, hl, hv, hk, _⟩ := h
      have := TM.dep_lt R hv
      exact absurd hk (by omega)
  | k + 1 => by
    have ok_law_minors : ∀ _ : Txt K mg, FnOk P w K mg base CX0 (k + 1) T.a_law_minors T.fd_law_minors ["tree", "near", "place", "last"] (sp_law_minors k K) := fun _ => ok_law_minors_k T k
    refine T.F_law_minors.ok sc_law_minors (fun vs H Q E h => ?_) (fun cdv A outer s H vs Q E hr h => ?_)
    · obtain ⟨L, tv, nv, t, r, par, dep, D, N, v, last, rfl, _⟩ := h
      rfl
    · obtain ⟨L, tv, nv, t, r, par, dep, D, N, v, last, rfl, hT, B, dt, dn, R, hl, hv, hk, hDN, bd, q⟩ := h
      obtain ⟨a, b, c, ps, rfl, ha, hb, hc, hp⟩ := dp_tr.mp dt
      obtain ⟨na, xs, rfl, hna, hnl, hnx⟩ := llD_get dn
      have few := B.few
      have ha' := (wo_le _ _).tup ha
      have hb' := (wo_le _ _).tup hb
      have hna' := (wo_le _ _).seq hna
      obtain ⟨qv, hqv, hqs⟩ := hnx v _ (nbs_get hv)
      have hqs' := (wo_le _ _).seq hqs
      obtain ⟨kp, hkp⟩ : ∃ kp : Nat → List Nat, kp = fun i => ((nb t.ties v).take i).filter fun (u : Nat) => decide ((u : Int) ≠ last) := ⟨_, rfl⟩
      have ekp : kp (nb t.ties v).length = kids t.ties r par v := by
        rw [hkp, hl]
        simp only [List.take_length]
        rfl
      have kpm : ∀ i, ∀ u ∈ kp i, u < t.n ∧ u ≠ r ∧ par u = v := fun i u hu => by
        rw [hkp, hl] at hu
        have hu := List.mem_filter.mp hu
        exact (kids_mem R hv u).mp (List.mem_filter.mpr ⟨List.mem_of_mem_take hu.1, hu.2⟩)
      have kpl : ∀ i, (kp i).length ≤ 16 := fun i => by
        rw [hkp]
        refine Nat.le_trans (List.length_filter_le _ _) ?_
        rw [List.length_take]
        have := nb_le B.toOkt v
        omega
      have bD : ∀ i, (MT.pd D (kp i)).natAbs ≤ 2 ^ 3200 := fun i => Nat.le_trans (pd_bd (c := 200) fun u hu => (bd u (kpm i u hu).1).1) (Nat.pow_le_pow_right (by omega) (by have := kpl i; omega))
      refine ⟨_, (pss_cons (ps_par (by rfl) sc_law_minors.nd (i := 4) (j := 5) rfl rfl (by decide) rfl rfl (pa_cons pe_int (pa_cons (pe_lst pa_nil) pa_nil)) (by rfl))
      (pss_cons (ps_for PassesOwn.never rfl (pi_list (pe_ix (ix_listK K rfl) (pv 1) (pv 2) (fun _ _ => rfl))) (pg_name (i := 6) sc_law_minors.nd rfl (Or.inl rfl))
        (pss_one (ps_if (pt_cmpR op_ne (pv 6) (pv 3) (nomark _))
          (pss_cons (ps_expr (pe_bmK K rfl PySem.F.plainAttrs_list PySem.F.slot_list_append PySem.F.type_list_append mt_append (pv 5) (pa_cons (pe_call (ok_law_minors T) (hr.mono (by omega)) rfl T.g_law_minors T.F_law_minors.kp T.b_law_minors .nil pass0 (pa_cons (pv 0) (pa_cons (pv 1) (pa_cons (pv 6) (pa_cons (pv 2) pa_nil))))) pa_nil)))
          (pss_one (ps_set (i := 4) sc_law_minors.nd rfl (Or.inl rfl) (pe_op op_mulB (pv 4) (pe_ix (ix_tupK K rfl) (pe_ix (ix_listK K rfl) (pv 5) (pe_un un_neg pe_int) (fun _ _ => rfl)) pe_int (fun _ _ => rfl))))))
          pss_nil)))
      (pss_cons (ps_set (i := 7) sc_law_minors.nd rfl (Or.inl rfl) (pe_op op_mulB (pe_un un_neg (pe_ix (ix_tupK K rfl) (pe_ix (ix_tupK K rfl) (pv 0) pe_int (fun _ _ => rfl)) (pv 2) (fun _ _ => rfl))) (pv 4)))
      (pss_cons (ps_for PassesOwn.never rfl (pi_range1 rfl T.z_range (pa_cons (pe_callB (call_lenK K rfl) (by rfl) T.z_len PySem.boot_len (pa_cons (pv 5) pa_nil)) pa_nil)) (pg_name (i := 8) sc_law_minors.nd rfl (Or.inl rfl))
        (pss_cons (ps_set (i := 9) sc_law_minors.nd rfl (Or.inl rfl) (pe_ix (ix_tupK K rfl) (pe_ix (ix_listK K rfl) (pv 5) (pv 8) (fun _ _ => rfl)) pe_int (fun _ _ => rfl)))
        (pss_cons (ps_for PassesOwn.never rfl (pi_range1 rfl T.z_range (pa_cons (pe_callB (call_lenK K rfl) (by rfl) T.z_len PySem.boot_len (pa_cons (pv 5) pa_nil)) pa_nil)) (pg_name (i := 10) sc_law_minors.nd rfl (Or.inl rfl))
          (pss_one (ps_set (i := 9) sc_law_minors.nd rfl (Or.inl rfl) (pe_op op_mulB (pv 9) (pe_ifExp (pt_cmpR op_ne (pv 10) (pv 8) (nomark _)) (pe_ix (ix_tupK K rfl) (pe_ix (ix_listK K rfl) (pv 5) (pv 10) (fun _ _ => rfl)) pe_int (fun _ _ => rfl)) pe_int)))))
        (pss_one (ps_set (i := 7) sc_law_minors.nd rfl (Or.inl rfl) (pe_op op_sub (pv 7) (pv 9)))))))
      (pss_one (ps_ret (pe_tup (pa_cons (pv 7) (pa_cons (pv 4) pa_nil))))))))), ?_⟩
      refine ⟨(by show 0 ≤ sizeLine; decide), fun PA hPA => ?_⟩
      refine ⟨_, _, rfl, ?_⟩
      have s1 := same_new hPA (.lst [])
      refine ⟨_, rfl, _, rfl, na, xs, _, .ref qv, rfl, rfl, (s1.seq hna'), atI_nat hqv, qv, rfl, ⟨_, s1.seq hqs'⟩, ?_⟩
      refine for_it walk_list (fun i σ H' => (∃ y6, σ = [some (.ref a), some (.ref na), some (.int (v : Int)), some (.int last), some (.int (MT.pd D (kp i))), some (.ref PA), y6, none, none, none, none]) ∧ Same H H' ∧ ∃ ys, H' PA = some (.lst ys) ∧ DpAll K (wo H' (PA :: L)) ys ((kp i).map fun u => .tuple [.int (D u), .int (N u)]))
        ⟨⟨none, by rw [hkp]; rfl⟩, s1, [], upd_same, by rw [hkp]; exact .nil⟩ (fun i σ H' _ z => z.2.1.seq hqs') ?_ ?_
      · rintro i x σ H2 H3 hi ⟨⟨y6, rfl⟩, s2, ys, ey, ad⟩ ⟨rfl, hx⟩
        obtain ⟨u, hu, rfl⟩ := nV_get hx
        have estep : kp (i + 1) = kp i ++ (if (u : Int) ≠ last then [u] else []) := by
          rw [hkp]
          simp only
          rw [List.take_add_one, hu, List.filter_append]
          congr 1
          by_cases h : (u : Int) = last <;> simp [h]
        refine ⟨_, rfl, _, rfl, rfl, _, rfl, ?_⟩
        by_cases ez : (u : Int) = last
        · refine iteF' (by simp [ez]) ?_
          rw [if_neg (by simp [ez]), List.append_nil] at estep
          exact ⟨⟨_, by rw [estep]; rfl⟩, s2, ys, ey, by rw [estep]; exact ad⟩
        · refine iteT' (by simp [ez]) ?_
          rw [if_pos ez] at estep
          have ukid : u ∈ kp (i + 1) := by rw [estep]; simp
          obtain ⟨h1, h2, h3⟩ := kpm _ u ukid
          have hT2 : Trk H3 (PA :: L) := (hT.mono s2).cons (by rw [ey]; simp)
          have toW := wo_to (L := L) (M := [PA]) s2 (by intro x hx; simp at hx; rw [hx]; exact hPA)
          have up := R.up u h1 h2
          rw [h3] at up
          refine ⟨_, rfl, .inl ⟨rfl, _, .inl (.inl ey)⟩, _, rfl, _, rfl, _, rfl, _, rfl, PA :: L, _, _, t, r, par, dep, D, N, u, v, rfl, hT2, B, dp_mono toW dt, dp_mono toW dn, R, ?_, h1, by omega, hDN, bd, fun w1 H4 s4 d4 => ?_⟩
          · unfold lastOf
            rw [if_neg h2, h3]
          · have ey4 := s4 _ _ ey
            have ly : ys.length = (kp i).length := by rw [ad.length, List.length_map]
            have := kpl i
            refine ⟨PA, _, _, rfl, rfl, ey4, szl (by omega), ?_⟩
            obtain ⟨pw, zs, rfl, hpw, hzs⟩ := dp_tup d4
            cases hzs with
            | cons z1 hzs =>
              cases hzs with
              | cons z2 hzs =>
                cases hzs
                rw [dp_int z1, dp_int z2] at hpw
                have s5 := same_mut (o := .lst (ys ++ [.ref pw])) (s2.trans s4) hPA
                have hpw5 : SqT K (upd H4 PA (.lst (ys ++ [.ref pw]))) pw [.int (D u), .int (N u)] := by
                  rw [← wo_upd_in (a := PA) (o := .lst (ys ++ [.ref pw])) (show PA ∈ PA :: L by simp)] at hpw
                  exact (wo_le _ _).tup hpw
                refine ⟨_, rfl, _, rfl, 1, rfl, PA, _, _, _, rfl, rfl, .inl (.inl upd_same), atI_last _ _, pw, _, _, _, rfl, rfl, hpw5, atI_nat (j := 0) rfl, _, _, rfl, rfl, mulB (bD i) (bd u h1).1 (by omega) (by omega), ?_⟩
                have epd : MT.pd D (kp (i + 1)) = MT.pd D (kp i) * D u := by
                  rw [estep, MT.pd_app]
                  simp [MT.pd]
                refine ⟨⟨_, by rw [epd]; rfl⟩, s5, _, upd_same, ?_⟩
                rw [wo_upd_in (by simp), estep, List.map_append]
                exact L2.DpAll.snoc (dpAll_mono (wo_mono s4) ad) d4
      · rintro σ H2 ⟨⟨y6, rfl⟩, s2, ys, ey, ad⟩
        rw [nV_len] at ad ⊢
        rw [ekp] at ad ⊢
        obtain ⟨ks, hks⟩ : ∃ ks, ks = kids t.ties r par v := ⟨_, rfl⟩
        have kl : ks.length ≤ 16 := by rw [hks, ← ekp]; exact kpl _
        have bDk : (MT.pd D ks).natAbs ≤ 2 ^ 3200 := by rw [hks, ← ekp]; exact bD _
        rw [← hks] at ad ⊢
        have ly : ys.length = ks.length := by rw [ad.length, List.length_map]
        have kb : ∀ j, j < ks.length → (D (ks.getD j 0)).natAbs ≤ 2 ^ 200 ∧ (N (ks.getD j 0)).natAbs ≤ 2 ^ 200 := fun j hj => by
          refine bd _ ?_
          have m : ks.getD j 0 ∈ ks := by simp [hj]
          have m2 : ks.getD j 0 ∈ kp (nb t.ties v).length := by rw [ekp, ← hks]; exact m
          exact (kpm _ _ m2).1
        have part : ∀ j, j < ks.length → ∃ p, ys[j]? = some (.ref p) ∧ SqT K H2 p [.int (D (ks.getD j 0)), .int (N (ks.getD j 0))] := fun j hj => by
          obtain ⟨x, hx, hd⟩ := ad.get (i := j) (d := .tuple [.int (D (ks.getD j 0)), .int (N (ks.getD j 0))]) (by rw [List.getElem?_map, List.getElem?_eq_getElem hj]; simp [hj])
          obtain ⟨pw, zs, rfl, hpw, hzs⟩ := dp_tup hd
          cases hzs with
          | cons z1 hzs =>
            cases hzs with
            | cons z2 hzs =>
              cases hzs
              rw [dp_int z1, dp_int z2] at hpw
              exact ⟨pw, hx, (wo_le _ _).tup hpw⟩
        have wn : (-MT.wt t v).natAbs ≤ 2 ^ 10 := by rw [Int.natAbs_neg]; exact B.wt v
        refine ⟨_, rfl, a, _, _, _, rfl, rfl, s2.tup ha', atI_nat (j := 0) rfl, _, rfl, b, _, _, _, rfl, rfl, s2.tup hb', atI_nat (j := v) (iV_at (w_at hv)), _, rfl, _, rfl, _, _, rfl, rfl, mulB wn bDk (by omega) (by omega), ?_⟩
        obtain ⟨pj, hpj⟩ : ∃ pj : Nat → Nat → Int, pj = fun k j => if j = k then 1 else D (ks.getD j 0) := ⟨_, rfl⟩
        have pjb : ∀ k j, j < ks.length → (pj k j).natAbs ≤ 2 ^ 200 := fun k j hj => by
          rw [hpj]
          simp only
          split
          · exact Nat.one_le_two_pow
          · exact (kb j hj).1
        have pjl : ∀ k j, j ≤ ks.length → (N (ks.getD k 0) * MT.pd (pj k) (List.range j)).natAbs ≤ 2 ^ 3400 ∨ ¬ k < ks.length := fun k j hj => by
          by_cases hk : k < ks.length
          · left
            have h1 := pd_bd (f := pj k) (c := 200) (V := List.range j) fun x hx => pjb k x (by have := List.mem_range.mp hx; omega)
            rw [List.length_range] at h1
            exact Nat.le_trans (MT.mul_le (kb k hk).2 h1) (Nat.pow_le_pow_right (by omega) (by omega))
          · exact .inr hk
        refine ⟨_, rfl, PA, _, rfl, .inl (.inl (.inl ey)), _, rfl, by omega, by omega, ?_⟩
        refine for_it (walk_rg (n := (ys.length : Int).toNat)) (fun i σ H' => (∃ y6 y8 y9 y10, σ = [some (.ref a), some (.ref na), some (.int (v : Int)), some (.int last), some (.int (MT.pd D ks)), some (.ref PA), y6, some (.int (-MT.wt t v * MT.pd D ks - MT.sm (fun k => N (ks.getD k 0) * MT.pd (pj k) (List.range ks.length)) (List.range i))), y8, y9, y10]) ∧ H' = H2)
          ⟨⟨_, none, none, none, by simp only [List.range_zero, MT.sm_nil, Int.sub_zero]; rfl⟩, rfl⟩ (fun _ _ _ _ _ => trivial) ?_ ?_
        · rintro k x σ H3 H4 hi ⟨⟨y6, y8, y9, y10, rfl⟩, rfl⟩ ⟨rfl, rfl⟩
          have hkk : k < ks.length := by omega
          obtain ⟨p1, hp1, hq1⟩ := part k hkk
          refine ⟨_, rfl, _, rfl, PA, _, _, _, rfl, rfl, .inl (.inl ey), atI_nat (j := k) hp1, p1, _, _, _, rfl, rfl, hq1, atI_nat (j := 1) rfl, ?_⟩
          refine ⟨_, rfl, PA, _, rfl, .inl (.inl (.inl ey)), _, rfl, by omega, by omega, ?_⟩
          refine for_it (walk_rg (n := (ys.length : Int).toNat)) (fun j σ H' => (∃ y10, σ = [some (.ref a), some (.ref na), some (.int (v : Int)), some (.int last), some (.int (MT.pd D ks)), some (.ref PA), y6, some (.int (-MT.wt t v * MT.pd D ks - MT.sm (fun k => N (ks.getD k 0) * MT.pd (pj k) (List.range ks.length)) (List.range k))), some (.int (k : Int)), some (.int (N (ks.getD k 0) * MT.pd (pj k) (List.range j))), y10]) ∧ H' = H4)
            ⟨⟨_, by simp only [List.range_zero, MT.pd_nil, Int.mul_one]; rfl⟩, rfl⟩ (fun _ _ _ _ _ => trivial) ?_ ?_
          · rintro j x σ H5 H6 hj ⟨⟨y10, rfl⟩, rfl⟩ ⟨rfl, rfl⟩
            have hjj : j < ks.length := by omega
            obtain ⟨p2, hp2, hq2⟩ := part j hjj
            have bj := (pjl k j (by omega)).resolve_right (by omega)
            have step : N (ks.getD k 0) * MT.pd (pj k) (List.range (j + 1)) = N (ks.getD k 0) * MT.pd (pj k) (List.range j) * pj k j := by
              rw [List.range_succ, MT.pd_app, ← Int.mul_assoc]
              congr 1
              simp [MT.pd]
            refine ⟨_, rfl, _, rfl, _, rfl, rfl, _, rfl, ?_⟩
            by_cases ez : j = k
            · refine iteF' (by simp [ez]) ⟨_, _, rfl, rfl, mulB bj (show (1 : Int).natAbs ≤ 2 ^ 200 from Nat.one_le_two_pow) (by omega) (by omega), ?_⟩
              exact ⟨⟨_, by rw [step, show pj k j = 1 by rw [hpj]; simp [ez]]; rfl⟩, rfl⟩
            · refine iteT' (by simp; omega) ⟨_, rfl, _, rfl, PA, _, _, _, rfl, rfl, .inl (.inl ey), atI_nat (j := j) hp2, p2, _, _, _, rfl, rfl, hq2, atI_nat (j := 0) rfl, _, _, rfl, rfl, mulB bj (kb j hjj).1 (by omega) (by omega), ?_⟩
              exact ⟨⟨_, by rw [step, show pj k j = D (ks.getD j 0) by rw [hpj]; simp [ez]]; rfl⟩, rfl⟩
          · rintro σ H5 ⟨⟨y10, rfl⟩, rfl⟩
            have e2 : (ys.length : Int).toNat = ks.length := by omega
            rw [e2]
            refine ⟨_, rfl, _, rfl, _, _, rfl, rfl, ?_⟩
            exact ⟨⟨_, _, _, _, by rw [List.range_succ, MT.sm_app, MT.sm_cons, MT.sm_nil, Int.add_zero, ← Int.sub_sub]; rfl⟩, rfl⟩
        · rintro σ H3 ⟨⟨y6, y8, y9, y10, rfl⟩, rfl⟩
          have e2 : (ys.length : Int).toNat = ks.length := by omega
          rw [e2]
          have fin := hDN v hv
          unfold MT.fk at fin
          rw [MT.fk_eq D N 0, ← hks] at fin
          have f1 : D v = -MT.wt t v * MT.pd D ks - MT.sm (fun k => N (ks.getD k 0) * MT.pd (pj k) (List.range ks.length)) (List.range ks.length) := by
            have := congrArg Prod.fst fin
            simp only [Int.one_mul] at this
            rw [this, hpj]
            rfl
          have f2 : N v = MT.pd D ks := by
            have := congrArg Prod.snd fin
            simp only [Int.one_mul] at this
            exact this
          refine ⟨_, rfl, _, rfl, (by show 2 ≤ sizeLine; decide), fun p hp => ?_⟩
          rw [← f1, ← f2]
          exact q _ _ (s2.trans (same_new hp _)) (tup_new (hT.mono s2) hp (.cons (.int _) (.cons (.int _) .nil)))
theorem ok_law_minors (T : Txt K mg) : FnOk P w K mg base CX0 17 T.a_law_minors T.fd_law_minors ["tree", "near", "place", "last"] (sp_law_minors 16 K) := ok_law_minors_k T 16

end
end Y
namespace Y
open PySem PySem.Spec PyProof.Rows L2
section
variable {P : Program} {w : World} {K : PySem.W.Frag} {mg : Str → Option Value} {base : Heap}
theorem ok_law_all_above_k (T : Txt K mg) : ∀ k, FnOk P w K mg base CX0 (k + 18) T.a_law_all_above T.fd_law_all_above ["tree", "near", "place", "last"] (sp_aboveX k K)
  | 0 => by
    refine T.F_law_all_above.ok sc_law_all_above (fun vs H Q E h => ?_) (fun cdv A outer s H vs Q E hr h => ?_)
    · obtain ⟨L, tv, nv, t, r, par, dep, D, N, v, last, rfl, _⟩ := h
      rfl
    · obtain ⟨L, tv, nv, t, r, par, dep, D, N, v, last, rfl, hT, B, dt, dn, R, hl, hv, hk, _⟩ := h
      have := TM.dep_lt R hv
      exact absurd hk (by omega)
  | k + 1 => by
    have ok_law_all_above : ∀ _ : Txt K mg, FnOk P w K mg base CX0 (k + 18) T.a_law_all_above T.fd_law_all_above ["tree", "near", "place", "last"] (sp_aboveX k K) := fun _ => ok_law_all_above_k T k
    refine T.F_law_all_above.ok sc_law_all_above (fun vs H Q E h => ?_) (fun cdv A outer s H vs Q E hr h => ?_)
    · obtain ⟨L, tv, nv, t, r, par, dep, D, N, v, last, rfl, _⟩ := h
      rfl
    · obtain ⟨L, tv, nv, t, r, par, dep, D, N, v, last, rfl, hT, B, dt, dn, R, hl, hv, hk, hDN, q⟩ := h
      obtain ⟨na, xs, rfl, hna, hnl, hnx⟩ := llD_get dn
      have few := B.few
      have hna' := (wo_le _ _).seq hna
      obtain ⟨qv, hqv, hqs⟩ := hnx v _ (nbs_get hv)
      have hqs' := (wo_le _ _).seq hqs
      have bd : ∀ u, u < t.n → (D u).natAbs ≤ 2 ^ 200 ∧ (N u).natAbs ≤ 2 ^ 200 := fun u hu => by
        have z := MT.dg_le B R (MT.dn_dg hDN) u hu
        have e := (MT.dn_dg hDN).n u hu
        refine ⟨z.1, ?_⟩
        rw [e]
        exact z.2
      refine ⟨_, (pss_cons (ps_for PassesOwn.never rfl (pi_list (pe_ix (ix_listK K rfl) (pv 1) (pv 2) (fun _ _ => rfl))) (pg_name (i := 4) sc_law_all_above.nd rfl (Or.inl rfl))
        (pss_one (ps_if (PW.pt (pw_and (pt_cmpR op_ne (pv 4) (pv 3) (nomark _)) (pw_and1 (pt_not (pt_val (pe_call (ok_law_all_above T) (hr.mono (by omega)) rfl T.g_law_all_above T.F_law_all_above.kp T.b_law_all_above .nil pass0 (pa_cons (pv 0) (pa_cons (pv 1) (pa_cons (pv 4) (pa_cons (pv 2) pa_nil))))))))))
          (pss_one (ps_ret pe_bl))
          pss_nil)))
      (pss_one (ps_ret (pe_cmpR op_gt (pe_ix (ix_tupK K rfl) (pe_call (ok_law_minors T) (hr.mono (by omega)) rfl T.g_law_minors T.F_law_minors.kp T.b_law_minors .nil pass0 (pa_cons (pv 0) (pa_cons (pv 1) (pa_cons (pv 2) (pa_cons (pv 3) pa_nil))))) pe_int (fun _ _ => rfl)) pe_int (nomark _))))), ?_⟩
      refine ⟨_, rfl, _, rfl, na, xs, _, .ref qv, rfl, rfl, hna', atI_nat hqv, qv, rfl, ⟨_, hqs'⟩, ?_⟩
      refine for_it walk_list (fun i σ H' => (∃ y, σ = [some tv, some (.ref na), some (.int (v : Int)), some (.int last), y]) ∧ Same H H' ∧ ∀ u ∈ (nb t.ties v).take i, (u : Int) ≠ last → ∀ w, w < t.n → u ∈ TM.way par dep w → 0 < D w) ⟨⟨none, rfl⟩, Same.refl _, by simp⟩ (fun i σ H' _ z => z.2.1.seq hqs') ?_ ?_
      · rintro i x σ H2 H3 hi ⟨⟨y6, rfl⟩, s2, inv⟩ ⟨rfl, hx⟩
        obtain ⟨u, hu, rfl⟩ := nV_get hx
        have et : (nb t.ties v).take (i + 1) = (nb t.ties v).take i ++ [u] := by rw [List.take_add_one, hu]; rfl
        refine ⟨_, rfl, _, rfl, rfl, _, rfl, ?_⟩
        by_cases ez : (u : Int) = last
        · refine iteF' (by simp [ez]) (iteF ⟨⟨_, rfl⟩, s2, fun x hx ne => ?_⟩)
          rw [et] at hx
          rcases List.mem_append.mp hx with hx | hx
          · exact inv x hx ne
          · simp at hx
            rw [hx] at ne
            exact absurd ez ne
        · refine iteT' (by simp [ez]) ?_
          obtain ⟨h1, h2, h3⟩ := (kids_mem R hv u).mp (List.mem_filter.mpr ⟨List.mem_of_getElem? hu, decide_eq_true (by rw [hl] at ez; exact ez)⟩)
          have up := R.up u h1 h2
          rw [h3] at up
          refine ⟨_, rfl, _, rfl, _, rfl, _, rfl, L, _, _, t, r, par, dep, D, N, u, v, rfl, hT.mono s2, B, dp_mono (wo_mono s2) dt, dp_mono (wo_mono s2) dn, R, ?_, h1, by omega, hDN, fun b H4 s4 hb => ?_⟩
          · unfold lastOf
            rw [if_neg h2, h3]
          · refine ⟨b, rfl, ?_⟩
            cases b
            · refine iteT (q _ _ (s2.trans s4) ⟨fun z => by (cases z), fun a => hb.mpr fun w hw m => a w hw ?_⟩)
              rw [← h3]
              exact MT.way_par R _ w hw rfl m h2
            · refine iteF ⟨⟨_, rfl⟩, s2.trans s4, fun x hx ne => ?_⟩
              rw [et] at hx
              rcases List.mem_append.mp hx with hx | hx
              · exact inv x hx ne
              · simp at hx
                rw [hx]
                exact hb.mp rfl
      · rintro σ H2 ⟨⟨y6, rfl⟩, s2, inv⟩
        refine ⟨_, rfl, _, rfl, _, rfl, _, rfl, L, _, _, t, r, par, dep, D, N, v, last, rfl, hT.mono s2, B, dp_mono (wo_mono s2) dt, dp_mono (wo_mono s2) dn, R, hl, hv, by omega, hDN, bd, fun w1 H4 s4 d4 => ?_⟩
        obtain ⟨pw, zs, rfl, hpw, hzs⟩ := dp_tup d4
        cases hzs with
        | cons z1 hzs =>
          cases hzs with
          | cons z2 hzs =>
            cases hzs
            rw [dp_int z1, dp_int z2] at hpw
            refine ⟨pw, _, _, _, rfl, rfl, (wo_le _ _).tup hpw, atI_nat (j := 0) rfl, _, _, rfl, rfl, q _ _ (s2.trans s4) ⟨fun z w hw m => ?_, fun a => decide_eq_true (a v hv (MT.way_self R v))⟩⟩
            have z := of_decide_eq_true z
            by_cases ew : w = v
            · rw [ew]; exact z
            · obtain ⟨c, c1, c2, c3, c4⟩ := MT.way_kid R _ w hw rfl m ew
              have hc := (kids_mem R hv c).mpr ⟨c1, c2, c3⟩
              unfold kids at hc
              obtain ⟨k1, k2⟩ := List.mem_filter.mp hc
              refine inv c (by rw [nV_len, List.take_length]; exact k1) ?_ w hw c4
              rw [hl]
              exact of_decide_eq_true k2
theorem ok_law_all_above (T : Txt K mg) : FnOk P w K mg base CX0 34 T.a_law_all_above T.fd_law_all_above ["tree", "near", "place", "last"] (sp_aboveX 16 K) := ok_law_all_above_k T 16

end
end Y
namespace Y
open PySem PySem.Spec PyProof.Rows L2
section
variable {P : Program} {w : World} {K : PySem.W.Frag} {mg : Str → Option Value} {base : Heap}
theorem ok_law_near (T : Txt K mg) : FnOk P w K mg base CX0 1 T.a_law_near T.fd_law_near ["tree"] (sp_law_near K) := by
  refine T.F_law_near.ok sc_law_near (fun vs H Q E h => ?_) (fun cdv A outer s H vs Q E hr h => ?_)
  · obtain ⟨L, tv, t, rfl, _⟩ := h
    rfl
  · obtain ⟨L, tv, t, rfl, hT, O, dt, q⟩ := h
    obtain ⟨a, b, c, ps, rfl, ha, hb, hc, hp⟩ := dp_tr.mp (dp_mono (wo_le _ _) dt)
    have hn := O.few
    have ew : (iV t.ws).length = t.n := iV_len _
    refine ⟨_, (pss_cons (ps_setLc (i := 1) (own := [("weight", 4)]) rfl sc_law_near.nd rfl rfl (sw_true rfl rfl rfl (by decide +kernel)) (pi_tup (pe_ix (ix_tupK K rfl) (pv 0) pe_int (fun _ _ => rfl))) (blkOk_by (own := [("weight", 4)]) (N := ["tree", "found", "i", "j", "weight", "row"]) (sc := defScope s_law_near) (by decide +kernel)) (fun _ _ _ _ _ => (pg_name (i := 4) sc_law_near.nd rfl (Or.inl rfl))) (fun _ _ _ _ _ => pts_nil) (fun _ _ _ _ _ => (pe_lst pa_nil)))
      (pss_cons (ps_for PassesOwn.never rfl (pi_tup (pe_ix (ix_tupK K rfl) (pv 0) pe_int (fun _ _ => rfl))) (pg_tupK K rfl (n := 2) rfl (pgs_cons (pg_name (i := 2) sc_law_near.nd rfl (Or.inl rfl)) (pgs_cons (pg_name (i := 3) sc_law_near.nd rfl (Or.inl rfl)) pgs_nil)))
        (pss_cons (ps_expr (pe_bmK K rfl PySem.F.plainAttrs_list PySem.F.slot_list_append PySem.F.type_list_append mt_append (pe_ix (ix_listK K rfl) (pv 1) (pv 2) (fun _ _ => rfl)) (pa_cons (pv 3) pa_nil)))
        (pss_one (ps_expr (pe_bmK K rfl PySem.F.plainAttrs_list PySem.F.slot_list_append PySem.F.type_list_append mt_append (pe_ix (ix_listK K rfl) (pv 1) (pv 3) (fun _ _ => rfl)) (pa_cons (pv 2) pa_nil))))))
      (pss_one (ps_ret (pe_lc (own := [("row", 5)]) rfl sc_law_near.nd (pi_list (pv 1)) (blkOk_by (own := [("row", 5)]) (N := ["tree", "found", "i", "j", "weight", "row"]) (sc := defScope s_law_near) (by decide +kernel)) (fun _ _ _ _ _ => (pg_name (i := 5) sc_law_near.nd rfl (Or.inl rfl))) (fun _ _ _ _ _ => pts_nil) (fun _ _ _ _ _ => (pe_callB (cr_sortedIK K rfl) (by rfl) T.z_sorted (by decide +kernel) (pa_cons (pv 5) pa_nil)))))))), ?_⟩
    refine ⟨.ref a, rfl, a, _, _, _, rfl, rfl, ha, atI_nat (j := 0) rfl, b, rfl, ⟨_, hb⟩, fun D hD => ?_⟩
    refine lc_it walk_tup (fun i H' => ∃ qs, LL H H' D qs (List.replicate i [])) ⟨[], same_new hD _, hD, upd_same, .nil, by simp, by simp, rfl, by simp⟩ (fun i H' _ ⟨_, l⟩ => l.s.tup hb) ?_ ?_
    · rintro i x H' H'' hi ⟨qs, l⟩ ⟨rfl, _⟩
      refine ⟨rfl, Nat.zero_le _, fun p np => ⟨qs.map V.ref, ?_, ?_, qs ++ [p], ?_⟩⟩
      · rw [upd_ne (ne_of_none l.d np)]
        exact l.d
      · rw [List.length_map, l.len, List.length_replicate]
        exact szl (by omega)
      · have := l.new np
        rw [show List.replicate i ([] : List Nat) ++ [[]] = List.replicate (i + 1) [] by rw [List.replicate_succ']] at this
        exact this
    · rintro H1 ⟨qs, l⟩
      rw [ew] at l
      refine ⟨.ref a, rfl, a, _, _, _, rfl, rfl, l.s.tup ha, atI_nat (j := 1) rfl, c, rfl, ⟨_, l.s.tup hc⟩, ?_⟩
      refine for_tup (xs := ps) (fun k σ H' => (∃ y2 y3, σ = [some (.ref a), some (.ref D), y2, y3, none, none]) ∧ ∃ qs, LL H H' D qs ((List.range t.n).map (nb (t.ties.take k)))) ⟨⟨none, none, rfl⟩, qs, ?_⟩ (fun i σ H' hi ⟨_, _, l'⟩ => l'.s.tup hc) ?_ ?_
      · have e : (List.range t.n).map (nb (t.ties.take 0)) = List.replicate t.n [] := by
          rw [List.take_zero, List.eq_replicate_iff]
          refine ⟨by simp, fun b hb => ?_⟩
          obtain ⟨v, _, rfl⟩ := List.mem_map.mp hb
          rfl
        rw [e]
        exact l
      · rintro k x σ H' hx ⟨⟨y2, y3, rfl⟩, qs, l⟩
        obtain ⟨d, hd, hx2⟩ := hp.getV hx
        rw [List.getElem?_map] at hd
        cases ep : t.ties[k]? with
        | none => rw [ep] at hd; cases hd
        | some p =>
          rw [ep] at hd
          cases hd
          obtain ⟨at1, rfl, hpr⟩ := dp_pr.mp (dp_mono l.s hx2)
          obtain ⟨i, j⟩ := p
          have hb := O.inb (i, j) (List.mem_of_getElem? ep)
          simp only at hb hpr
          have l1 : LL H H' D qs ((List.range t.n).map (nb (t.ties.take k))) := l
          have lq : qs.length = t.n := by rw [l1.len]; simp
          obtain ⟨qi, hqi⟩ : ∃ q, qs[i]? = some q := ⟨_, List.getElem?_eq_getElem (show i < qs.length by omega)⟩
          obtain ⟨qj, hqj⟩ : ∃ q, qs[j]? = some q := ⟨_, List.getElem?_eq_getElem (show j < qs.length by omega)⟩
          have ci : ((List.range t.n).map (nb (t.ties.take k)))[i]? = some (nb (t.ties.take k) i) := by simp [show i < t.n by omega]
          have l2 := l1.app hqi ci j
          have cj : (((List.range t.n).map (nb (t.ties.take k))).set i (nb (t.ties.take k) i ++ [j]))[j]? = some (nb (t.ties.take k) j) := by
            rw [List.getElem?_set_ne (by omega)]
            simp [show j < t.n by omega]
          have l3 := l2.app hqj cj i
          rw [cs_step _ (by omega) (by omega) (by omega)] at l3
          have et : t.ties.take k ++ [(i, j)] = t.ties.take (k + 1) := by rw [List.take_add_one, ep]; rfl
          rw [et] at l3
          have z1 : (nb (t.ties.take k) i).length < sizeLine := szl (Nat.lt_of_le_of_lt (List.length_filterMap_le _ _) (by rw [List.length_take]; have := O.fewT; omega))
          have z2 : (nb (t.ties.take k) j).length < sizeLine := szl (Nat.lt_of_le_of_lt (List.length_filterMap_le _ _) (by rw [List.length_take]; have := O.fewT; omega))
          refine ⟨at1, _, rfl, hpr, rfl, _, _, rfl, _, _, rfl, rfl, ?_⟩
          refine ⟨_, rfl, _, rfl, D, _, _, .ref qi, rfl, rfl, .inl (.inl l1.d), atI_nat (j := i) (by rw [List.getElem?_map, hqi]; rfl), .inl ⟨rfl, _, .inl (.inl (l1.cat i qi _ hqi ci))⟩, _, rfl, qi, _, _, rfl, rfl, l1.cat i qi _ hqi ci, by rw [nV_len]; exact z1, ?_⟩
          refine ⟨_, rfl, _, rfl, D, _, _, .ref qj, rfl, rfl, .inl (.inl l2.d), atI_nat (j := j) (by rw [List.getElem?_map, hqj]; rfl), .inl ⟨rfl, _, .inl (.inl (l2.cat j qj _ hqj cj))⟩, _, rfl, qj, _, _, rfl, rfl, l2.cat j qj _ hqj cj, by rw [nV_len]; exact z2, ?_⟩
          exact ⟨⟨_, _, rfl⟩, qs, l3⟩
      · rintro σ H' ⟨⟨y2, y3, rfl⟩, qs, l⟩
        have e := hp.length
        rw [List.length_map] at e
        rw [e, List.take_of_length_le (Nat.le_refl _)] at l
        have l : LL H H' D qs (nbs t) := l
        refine ⟨_, rfl, D, rfl, ⟨_, .inl (.inl l.d)⟩, ?_⟩
        have lq : qs.length = t.n := by rw [l.len, nbs_len]
        refine lcw (K := K) walk_list L (fun i => ((nbs t)[i]?).map fun ns => .list (nD ns)) (by rw [List.length_map, lq]; omega) (hT.mono l.s) (fun H2 s => .inl (.inl (s _ _ l.d))) ?_ ?_
        · rintro E i x H2 H3 R R0 hi s2 hT2 ⟨rfl, hx⟩ hR hR0
          rw [List.length_map, lq] at hi
          have hq : qs[i]? = some qs[i] := List.getElem?_eq_getElem (by omega)
          rw [List.getElem?_map, hq] at hx
          cases hx
          have hc := s2 _ _ (l.cat i _ _ hq (nbs_get hi))
          refine ⟨rfl, _, rfl, qs[i], (nb t.ties i).map (fun (n : Nat) => (n : Int)), rfl, .inl (.inl (by rw [hc, nV_eq]; rfl)), fun ns' p hpm hso hp2 => ?_⟩
          rw [sorted_nats hpm hso (nb_asc O i)]
          refine hR _ _ (.list (nD (nb t.ties i))) (by rw [nbs_get hi]; rfl) (same_new hp2 _) ?_
          exact lst_new hT2 hp2 (dpAll_nats.mpr (by rw [nV_eq]; rfl))
        · intro E H2 ys hE s2 hy ha2
          rw [List.length_map, lq, ← nbs_len (t := t), range_get_all] at ha2
          exact q _ _ (l.s.trans s2) (made_lst (hT.mono l.s) hE s2 hy ha2)

end
end Y
namespace Y
open PySem PySem.Spec PyProof.Rows L2
section
variable {P : Program} {w : World} {K : PySem.W.Frag} {mg : Str → Option Value} {base : Heap}
theorem ok_law_is_below (T : Txt K mg) : FnOk P w K mg base CX0 35 T.a_law_is_below T.fd_law_is_below ["tree"] (sp_belowX K) := by
  refine T.F_law_is_below.ok sc_law_is_below (fun vs H Q E h => ?_) (fun cdv A outer s H vs Q E hr h => ?_)
  · obtain ⟨L, tv, t, rfl, _⟩ := h
    rfl
  · obtain ⟨L, tv, t, rfl, hT, B, dt, q⟩ := h
    obtain ⟨a, b, c, ps, rfl, ha, hb, hc, hp⟩ := dp_tr.mp dt
    have few := B.few
    have ha' := (wo_le _ _).tup ha
    have hb' := (wo_le _ _).tup hb
    refine ⟨_, (pss_cons (ps_set (i := 1) sc_law_is_below.nd rfl (Or.inl rfl) (pe_call (ok_law_near T) (hr.mono (by decide)) rfl T.g_law_near T.F_law_near.kp T.b_law_near .nil pass0 (pa_cons (pv 0) pa_nil)))
      (pss_cons (ps_for PassesOwn.never rfl (pi_range1 rfl T.z_range (pa_cons (pe_callB (call_lenK K rfl) (by rfl) T.z_len PySem.boot_len (pa_cons (pv 1) pa_nil)) pa_nil)) (pg_name (i := 2) sc_law_is_below.nd rfl (Or.inl rfl))
        (pss_one (ps_if (pt_cmpR op_ge (pe_ix (ix_tupK K rfl) (pe_ix (ix_tupK K rfl) (pv 0) pe_int (fun _ _ => rfl)) (pv 2) (fun _ _ => rfl)) pe_int (nomark _))
          (pss_one (ps_ret pe_bl))
          pss_nil)))
      (pss_one (ps_ret (pe_ifExp (pt_cmpR (op_neDK K rfl hr.units) (pv 1) (pe_lst pa_nil) (nomark _)) (pe_call (ok_law_all_above T) (hr.mono (by decide)) rfl T.g_law_all_above T.F_law_all_above.kp T.b_law_all_above .nil pass0 (pa_cons (pv 0) (pa_cons (pv 1) (pa_cons pe_int (pa_cons (pe_un un_neg pe_int) pa_nil))))) pe_bl))))), ?_⟩
    refine ⟨_, rfl, L, _, t, rfl, hT, B.toOkt, dt, fun nv H1 s1 dn => ?_⟩
    obtain ⟨na, xs, rfl, hna, hnl, hnx⟩ := llD_get dn
    have hna' := (wo_le _ _).seq hna
    have lx : xs.length = t.n := by rw [hnl, nbs_len]
    refine ⟨_, rfl, na, _, rfl, .inl hna', _, rfl, by omega, by omega, ?_⟩
    refine for_it (walk_rg (n := (xs.length : Int).toNat)) (fun i σ H' => (∃ y, σ = [some (.ref a), some (.ref na), y]) ∧ H' = H1) ⟨⟨none, rfl⟩, rfl⟩ (fun _ _ _ _ _ => trivial) ?_ ?_
    · rintro k x σ H3 H4 hi ⟨⟨y6, rfl⟩, rfl⟩ ⟨rfl, rfl⟩
      have hkn : k < t.n := by omega
      refine ⟨_, rfl, a, _, _, _, rfl, rfl, s1.tup ha', atI_nat (j := 0) rfl, _, rfl, b, _, _, _, rfl, rfl, s1.tup hb', atI_nat (j := k) (iV_at (w_at hkn)), _, _, rfl, rfl, _, rfl, ?_⟩
      refine ite2 (fun z => q _ _ s1 ⟨fun z => by (cases z), fun P => ?_⟩) (fun _ => ⟨⟨_, rfl⟩, rfl⟩)
      have := MT.pos_wt B.toTree P hkn
      have z := of_decide_eq_true z
      omega
    · rintro σ H3 ⟨⟨y6, rfl⟩, rfl⟩
      refine ⟨_, rfl, (by show 0 ≤ sizeLine; decide), fun e he => ?_⟩
      have s2 := same_new he (.lst [])
      have s12 := s1.trans s2
      have dn2 : Dp K (wo (upd _ e (.lst [])) L) (.ref na) (llD (nbs t)) := dp_mono (wo_mono s2) dn
      refine ⟨llD (nbs t), .list [], dp_mono (wo_le _ _) dn2, .lst (.inl (.inl upd_same)) .nil, shaped_ll _, shaped_iL [], _, rfl, ?_⟩
      unfold llD
      rw [eqv_nilA]
      by_cases hn : 0 < t.n
      · obtain ⟨par, dep, R⟩ := B.tree 0 hn
        obtain ⟨D, N, hDN⟩ := MT.dn_made R (fun v => -MT.wt t v) (kids t.ties 0 par) fun v hv c hc => (kids_mem R hv c).mp hc
        refine iteT' ?_ ⟨_, rfl, _, rfl, 1, rfl, L, _, _, t, 0, par, dep, D, N, 0, -1, rfl, hT.mono s12, B, dp_mono (wo_mono s12) dt, dn2, R, by unfold lastOf; rw [if_pos rfl], hn, by omega, hDN, fun b H4 s4 hb => q _ _ (s12.trans s4) ⟨fun z => MT.pos_of B.toTree R hDN fun u hu => hb.mp z u hu (MT.way_top R _ u hu rfl), fun P => hb.mpr fun u hu _ => MT.pos_D B.toTree R hDN P u hu⟩⟩
        have l2 : (nbs t).length = t.n := nbs_len
        cases h : nbs t with
        | nil => rw [h] at l2; simp at l2; omega
        | cons x r => rfl
      · refine iteF' ?_ (q _ _ s12 ⟨fun _ => MT.pos_nil B.toOkt (by omega), fun _ => rfl⟩)
        have l2 : (nbs t).length = t.n := nbs_len
        cases h : nbs t with
        | nil => rfl
        | cons x r => rw [h] at l2; simp at l2; omega

end
end Y
namespace Y
open PySem PySem.Spec PyProof.Rows L2
section
variable {P : Program} {w : World} {K : PySem.W.Frag} {mg : Str → Option Value} {base : Heap}
theorem ok_law_is_long (T : Txt K mg) : FnOk P w K mg base CX0 2 T.a_law_is_long T.fd_law_is_long ["tree"] (sp_longZ K) := by
  refine T.F_law_is_long.ok sc_law_is_long (fun vs H Q E h => ?_) (fun cdv A outer s H vs Q E hr h => ?_)
  · obtain ⟨L, tv, t, rfl, _⟩ := h
    rfl
  · obtain ⟨L, tv, t, rfl, hT, B, dt, q⟩ := h
    obtain ⟨a, b, c, ps, rfl, ha, hb, hc, hp⟩ := dp_tr.mp dt
    have few := B.few
    have hwl : t.ws.length = t.n := rfl
    have ha' := (wo_le _ _).tup ha
    have hb' := (wo_le _ _).tup hb
    refine ⟨_, (pss_cons (ps_asg (pe_tup (pa_cons (pe_call (ok_law_near T) (hr.mono (by decide)) rfl T.g_law_near T.F_law_near.kp T.b_law_near .nil pass0 (pa_cons (pv 0) pa_nil)) (pa_cons (pe_lc (own := [("k", 5)]) rfl sc_law_is_long.nd (pi_range1 rfl T.z_range (pa_cons (pe_callB (call_lenK K rfl) (by rfl) T.z_len PySem.boot_len (pa_cons (pe_ix (ix_tupK K rfl) (pv 0) pe_int (fun _ _ => rfl)) pa_nil)) pa_nil)) (blkOk_by (own := [("k", 5)]) (N := ["tree", "near", "x", "step", "spots", "k", "j"]) (sc := defScope s_law_is_long) (by decide +kernel)) (fun _ _ _ _ _ => (pg_name (i := 5) sc_law_is_long.nd rfl (Or.inl rfl))) (fun _ _ _ _ _ => pts_nil) (fun _ _ _ _ _ => (pe_ifExp (pt_cmpR op_eq (pv 5) pe_int (nomark _)) pe_int pe_int))) pa_nil))) (pg_tupK K rfl (n := 2) rfl (pgs_cons (pg_name (i := 1) sc_law_is_long.nd rfl (Or.inr rfl)) (pgs_cons (pg_name (i := 2) sc_law_is_long.nd rfl (Or.inr rfl)) pgs_nil))))
      (pss_cons (ps_for PassesOwn.never rfl (pi_range1 rfl T.z_range (pa_cons pe_int pa_nil)) (pg_name (i := 3) sc_law_is_long.nd rfl (Or.inl rfl))
        (pss_cons (ps_setLc (i := 4) (own := [("k", 5)]) rfl sc_law_is_long.nd rfl rfl (sw_true rfl rfl rfl (by decide +kernel)) (pi_range1 rfl T.z_range (pa_cons (pe_callB (call_lenK K rfl) (by rfl) T.z_len PySem.boot_len (pa_cons (pv 2) pa_nil)) pa_nil)) (blkOk_by (own := [("k", 5)]) (N := ["tree", "near", "x", "step", "spots", "k", "j"]) (sc := defScope s_law_is_long) (by decide +kernel)) (fun _ _ _ _ _ => (pg_name (i := 5) sc_law_is_long.nd rfl (Or.inl rfl))) (fun _ _ _ _ _ => pts_one (pt_cmpR op_gt (pe_op op_add (pe_op op_mulB (pe_ix (ix_tupK K rfl) (pe_ix (ix_tupK K rfl) (pv 0) pe_int (fun _ _ => rfl)) (pv 5) (fun _ _ => rfl)) (pe_ix (ix_listK K rfl) (pv 2) (pv 5) (fun _ _ => rfl))) (pe_callB (cr_sumK K rfl rfl) (by rfl) T.z_sum (by decide +kernel) (pa_cons (pe_lc (own := [("j", 6)]) rfl sc_law_is_long.nd (pi_listK K rfl (pe_ix (ix_listK K rfl) (pv 1) (pv 5) (fun _ _ => rfl))) (blkOk_by (own := [("j", 6)]) (N := ["tree", "near", "x", "step", "spots", "k", "j"]) (by rfl)) (fun _ _ _ _ _ => (pg_name (i := 6) sc_law_is_long.nd rfl (Or.inl rfl))) (fun _ _ _ _ _ => pts_nil) (fun _ _ _ _ _ => (pe_ix (ix_listK K rfl) (pv 2) (pv 6) (fun _ _ => rfl)))) pa_nil))) pe_int (nomark _))) (fun _ _ _ _ _ => (pv 5)))
        (pss_cons (ps_if (pt_cmpR (op_eqDK K rfl hr.units) (pv 4) (pe_lst pa_nil) (nomark _))
          (pss_one (ps_ret pe_bl))
          pss_nil)
        (pss_one (ps_asg (pe_op op_add (pe_ix (ix_listK K rfl) (pv 2) (pe_ix (ix_listK K rfl) (pv 4) pe_int (fun _ _ => rfl)) (fun _ _ => rfl)) pe_int) (pg_sub (pv 2) (pe_ix (ix_listK K rfl) (pv 4) pe_int (fun _ _ => rfl)) set_list))))))
      (pss_one (ps_ret pe_bl)))), ?_⟩
    refine ⟨_, rfl, L, _, t, rfl, hT, B.toOkt, dt, fun nv H1 s1 dn => ?_⟩
    obtain ⟨na, xs, rfl, hna, hnl, hnx⟩ := llD_get dn
    have hna' := (wo_le _ _).seq hna
    have lx : xs.length = t.n := by rw [hnl, nbs_len]
    refine ⟨_, rfl, a, _, _, _, rfl, rfl, s1.tup ha', atI_nat (j := 0) rfl, b, _, rfl, .inr (s1.tup hb'), _, rfl, by rw [iV_len]; omega, by rw [iV_len]; omega, ?_⟩
    rw [iV_len]
    refine lcw (K := K) (walk_rg (n := (t.n : Int).toNat)) L (fun k => some (.int (if k = 0 then 1 else 0))) (by omega) (hT.mono s1) (fun _ _ => trivial) ?_ ?_
    · rintro D j x H2 H3 R R0 hj s2 hT2 ⟨rfl, rfl⟩ hR hR0
      refine ⟨rfl, _, rfl, rfl, _, rfl, ?_⟩
      by_cases ej : j = 0
      · refine iteT' (by simp [ej]) (hR _ _ (.int 1) (by simp [ej]) (Same.refl _) (.int 1))
      · refine iteF' (by simp [ej]) (hR _ _ (.int 0) (by simp [ej]) (Same.refl _) (.int 0))
    · intro D H2 ys hD s2 hy ad
      have ef : (List.range (t.n : Int).toNat).filterMap (fun k => some (PyData.int (if k = 0 then 1 else 0))) = iD ((List.range t.n).map fun k => if k = 0 then 1 else 0) := by
        unfold iD
        rw [List.map_map, show (t.n : Int).toNat = t.n by omega]
        exact fm_some fun j _ => rfl
      rw [ef] at ad
      have ey := dpAll_ints.mp ad
      subst ey
      have hD2 : H2 D = some (.lst (arr t.n fun k => if k = 0 then 1 else 0)) := hy
      refine ⟨(by show 2 ≤ sizeLine; decide), fun e he => ⟨e, _, rfl, .inl (.inl upd_same), rfl, _, _, rfl, _, _, rfl, rfl, ?_⟩⟩
      have s3 := same_new he (.tup [.ref na, .ref D])
      obtain ⟨H3, hH3⟩ : ∃ H3, H3 = upd H2 e (.tup [.ref na, .ref D]) := ⟨_, rfl⟩
      rw [← hH3] at s3 ⊢
      have s13 : Same H H3 := s1.trans (s2.trans s3)
      have hD0 : H D = none := s1.free hD
      have hDL : D ∉ L := hT.fresh hD0
      have dn3 : Dp K (wo H3 (D :: L)) (.ref na) (llD (nbs t)) := dp_mono (wo_to (L := L) (M := [D]) (s2.trans s3) (by intro x hx; simp at hx; rw [hx]; exact hD)) dn
      have sm0 : MT.sm (fun k => if k = 0 then (1 : Int) else 0) (List.range t.n) ≤ 1 + ((0 : Nat) : Int) := by
        rw [MT.sm_ind List.nodup_range]
        split <;> omega
      refine ⟨_, rfl, by omega, by omega, ?_⟩
      refine for_it (walk_rg (n := (151 : Int).toNat)) (fun i σ H' => (∃ y3 y4, σ = [some (.ref a), some (.ref na), some (.ref D), y3, y4, none, none]) ∧ Same H H' ∧ (∃ f : Nat → Int, H' D = some (.lst (arr t.n f)) ∧ (∀ u, (f u).natAbs ≤ 1 + i) ∧ (∀ u, 0 ≤ f u) ∧ 1 ≤ f 0 ∧ MT.sm f (List.range t.n) ≤ 1 + i) ∧ Dp K (wo H' (D :: L)) (.ref na) (llD (nbs t)) ∧ (0 < i → 0 < t.n)) ⟨⟨none, none, rfl⟩, s13, ⟨_, s3 _ _ hD2, fun u => by split <;> simp, fun u => by split <;> simp, by simp, sm0⟩, dn3, fun z => absurd z (by omega)⟩ (fun _ _ _ _ _ => trivial) ?_ ?_
      · rintro i x σ H4 H5 hi ⟨⟨y3, y4, rfl⟩, s4, ⟨f, hf, fb, f0, f1, fs⟩, dn4, _⟩ ⟨rfl, rfl⟩
        have hi2 : i < 151 := hi
        have e10 : (2 : Nat) ^ 10 = 1024 := by decide
        have fb' : ∀ u, (f u).natAbs ≤ 2 ^ 10 := fun u => by have := fb u; omega
        obtain ⟨na', xs', ena, hna4, hnl4, hnx4⟩ := llD_get dn4
        cases ena
        have hT4 : Trk H5 (D :: L) := (hT.mono s4).cons (by rw [hf]; simp)
        refine ⟨_, rfl, D, _, rfl, .inl (.inl (.inl hf)), _, rfl, by rw [arr_len]; omega, by rw [arr_len]; omega, ?_⟩
        rw [arr_len]
        refine lcw (K := K) (walk_rg (n := (t.n : Int).toNat)) (D :: L) (fun k => if 0 < MT.rowE t f k then some (.int (k : Int)) else none) (by omega) hT4 (fun _ _ => trivial) ?_ ?_
        · rintro D2 k x H6 H7 R R0 hk s6 hT6 ⟨rfl, rfl⟩ hR hR0
          have hkn : k < t.n := by omega
          have sA := s4.trans s6
          obtain ⟨qk, hqk, hqs⟩ := hnx4 k _ (nbs_get hkn)
          have hqs' := s6.seq ((wo_le _ _).seq hqs)
          have hf6 := s6 _ _ hf
          refine ⟨rfl, _, rfl, a, _, _, _, rfl, rfl, sA.tup ha', atI_nat (j := 0) rfl, _, rfl, b, _, _, _, rfl, rfl, sA.tup hb', atI_nat (j := k) (iV_at (w_at hkn)), _, rfl, _, rfl, D, _, _, _, rfl, rfl, .inl (.inl hf6), atI_nat (j := k) (arr_at hkn), _, _, rfl, rfl, mulB (B.wt k) (fb' k) (by omega) (by omega), ?_⟩
          refine ⟨_, rfl, _, rfl, na, xs', _, .ref qk, rfl, rfl, s6.seq ((wo_le _ _).seq hna4), atI_nat hqk, qk, rfl, ⟨_, hqs'⟩, ?_⟩
          refine lcw (K := K) walk_list (D2 :: D :: L) (fun j => ((nb t.ties k)[j]?).map fun u => .int (f u)) (by rw [nV_len]; have := nb_le B.toOkt k; omega) hT6 (fun H' s => s.seq hqs') ?_ ?_
          · rintro D3 j x H8 H9 R1 R2 hj s8 hT8 ⟨rfl, hx⟩ hR1 hR2
            obtain ⟨u, hu, rfl⟩ := nV_get hx
            have hun := (nb_lt B.toOkt (List.mem_of_getElem? hu)).1
            refine ⟨rfl, _, rfl, _, rfl, D, _, _, _, rfl, rfl, .inl (.inl (s8 _ _ hf6)), atI_nat (j := u) (arr_at hun), hR1 _ _ (.int (f u)) (by rw [hu]; rfl) (Same.refl _) (.int _)⟩
          · intro D3 H8 zs hD3 s8 hz az
            have ef3 : (List.range (nV (nb t.ties k)).length).filterMap (fun j => ((nb t.ties k)[j]?).map fun u => PyData.int (f u)) = iD ((nb t.ties k).map f) := by
              rw [nV_len]
              unfold iD
              rw [List.map_map]
              exact range_get_all _ _
            rw [ef3] at az
            have ez := dpAll_ints.mp az
            subst ez
            refine ⟨D3, _, rfl, .inl (.inl hz), _, _, rfl, rfl, _, _, rfl, rfl, _, rfl, ?_⟩
            rw [← sm_sum]
            have er : MT.wt t k * f k + MT.sm f (nb t.ties k) = MT.rowE t f k := rfl
            rw [er]
            by_cases pos : 0 < MT.rowE t f k
            · exact iteT' (decide_eq_true pos) ⟨_, rfl, hR _ _ _ (if_pos pos) s8 (.int _)⟩
            · exact iteF' (decide_eq_false pos) (hR0 _ (if_neg pos) s8)
        · intro D2 H6 zs hD2' s6 hz az
          obtain ⟨sp, hsp⟩ : ∃ sp, sp = (List.range t.n).filter fun k => decide (0 < MT.rowE t f k) := ⟨_, rfl⟩
          have ef4 : (List.range (t.n : Int).toNat).filterMap (fun k => if 0 < MT.rowE t f k then some (PyData.int (k : Int)) else none) = nD sp := by
            rw [show (t.n : Int).toNat = t.n by omega, hsp]
            unfold nD
            rw [← filterMap_if (fun k => decide (0 < MT.rowE t f k)) fun (k : Nat) => PyData.int (k : Int)]
            congr 1
            funext k
            by_cases h : 0 < MT.rowE t f k <;> simp [h]
          rw [ef4] at az
          have ez := dpAll_nats.mp az
          subst ez
          have hf6 := s6 _ _ hf
          refine ⟨_, rfl, (by show 0 ≤ sizeLine; decide), fun e2 he2 => ?_⟩
          have s7 := same_new he2 (.lst [])
          have hz7 := s7 _ _ hz
          have hf7 := s7 _ _ hf6
          have sA := (s4.trans s6).trans s7
          have ssp : SeqAt.shaped (.list (nD sp)) = true := by rw [nD_eq]; exact shaped_iL _
          refine ⟨.list (nD sp), .list [], .lst (.inl (.inl hz7)) (dpAll_nats.mpr rfl), .lst (.inl (.inl upd_same)) .nil, ssp, shaped_iL [], _, rfl, ?_⟩
          rw [eqv_nilA]
          refine ite2 (fun z => q _ _ sA (fun _ => rfl) fun _ hn => ?_) (fun z => ?_)
          · have spn : sp = [] := by
              cases h : sp with
              | nil => rfl
              | cons x r => rw [h] at z; cases z
            have bel : MT.Bel t MT.no f := fun v hv _ => by
              refine Classical.byContradiction fun y => ?_
              have : v ∈ sp := by rw [hsp]; exact List.mem_filter.mpr ⟨List.mem_range.mpr hv, decide_eq_true (by omega)⟩
              rw [spn] at this
              cases this
            exact ⟨f, MT.anti_one B.toTree (fun v _ => f0 v) hn f1 bel, bel, by omega⟩
          obtain ⟨k0, hk0⟩ : ∃ k0, sp[0]? = some k0 := by
            cases h : sp with
            | nil => rw [h] at z; exact absurd rfl z
            | cons x r => exact ⟨x, rfl⟩
          have hk0n : k0 < t.n := by
            have := List.mem_of_getElem? hk0
            rw [hsp] at this
            exact List.mem_range.mp (List.mem_filter.mp this).1
          refine ⟨_, rfl, _, rfl, D2, _, _, _, rfl, rfl, .inl (.inl hz7), atI_nat (j := 0) (nV_at hk0), D, _, _, _, rfl, rfl, .inl (.inl hf7), atI_nat (j := k0) (arr_at hk0n), _, _, rfl, rfl, _, rfl, _, rfl, D2, _, _, _, rfl, rfl, .inl (.inl hz7), atI_nat (j := 0) (nV_at hk0), D, _, _, k0, rfl, rfl, hf7, by rw [arr_len]; exact ixN_nat hk0n, ?_⟩
          rw [arr_set]
          refine ⟨⟨_, _, rfl⟩, same_mut sA hD0, ⟨_, upd_same, fun u => ?_, fun u => ?_, ?_, ?_⟩, ?_, fun _ => by omega⟩
          · unfold MT.up
            have := fb u
            have := fb k0
            split <;> omega
          · unfold MT.up
            have := f0 u
            have := f0 k0
            split <;> omega
          · unfold MT.up
            split
            · rename_i e; rw [← e]; omega
            · exact f1
          · rw [MT.sm_up hk0n]; omega
          · rw [wo_upd_in (by simp)]
            exact dp_mono (wo_mono (s6.trans s7)) dn4
      · rintro σ H4 ⟨⟨y3, y4, rfl⟩, s4, _, _, np⟩
        exact q _ _ s4 (fun z => absurd (np (by show 0 < 151; omega)) (by omega)) fun z => by cases z

end
end Y
namespace Y
open PySem PySem.Spec PyProof.Rows L2
section
variable {P : Program} {w : World} {K : PySem.W.Frag} {mg : Str → Option Value} {base : Heap}
theorem ok_law_drawn_below (T : Txt K mg) : FnOk P w K mg base CX0 36 T.a_law_drawn_below T.fd_law_drawn_below ["m", "most"] (sp_drawn_belowZ K) := by
  refine T.F_law_drawn_below.ok sc_law_drawn_below (fun vs H Q E h => ?_) (fun cdv A outer s H vs Q E hr h => ?_)
  · obtain ⟨L, m, c, cs, b, most, rfl, _⟩ := h
    rfl
  · obtain ⟨L, m, c, cs, b, most, rfl, hm, hT, M, h16, hb, q⟩ := h
    refine ⟨_, (pss_cons (ps_set (i := 2) sc_law_drawn_below.nd rfl (Or.inl rfl) (pe_call (ok_law_draw T) (hr.mono (by decide)) rfl T.g_law_draw T.F_law_draw.kp T.b_law_draw .nil pass0 (pa_cons (pv 0) (pa_cons (pe_op op_add (pv 1) pe_int) pa_nil))))
      (pss_cons (ps_asg (pe_tup (pa_cons (pe_call (ok_law_shape T) (hr.mono (by decide)) rfl T.g_law_shape T.F_law_shape.kp T.b_law_shape .nil pass0 (pa_cons (pv 0) (pa_cons (pv 2) pa_nil))) (pa_cons (pe_call (ok_law_of T) (hr.mono (by decide)) rfl T.g_law_of T.F_law_of.kp T.b_law_of .nil pass0 (pa_cons (pv 0) (pa_cons (pe_lst (pa_cons (pe_un un_neg pe_int) (pa_cons (pe_un un_neg pe_int) (pa_cons (pe_un un_neg pe_int) (pa_cons (pe_un un_neg pe_int) pa_nil))))) pa_nil))) pa_nil))) (pg_tupK K rfl (n := 2) rfl (pgs_cons (pg_name (i := 3) sc_law_drawn_below.nd rfl (Or.inl rfl)) (pgs_cons (pg_name (i := 4) sc_law_drawn_below.nd rfl (Or.inr rfl)) pgs_nil))))
      (pss_cons (ps_set (i := 5) sc_law_drawn_below.nd rfl (Or.inl rfl) (pe_call (ok_law_made T) (hr.mono (by decide)) rfl T.g_law_made T.F_law_made.kp T.b_law_made .nil pass0 (pa_cons (pe_lc (own := [("k", 9)]) rfl sc_law_drawn_below.nd (pi_range1 rfl T.z_range (pa_cons (pv 2) pa_nil)) (blkOk_by (own := [("k", 9)]) (N := ["m", "most", "n", "ties", "low", "tree", "step", "spot", "weights", "k"]) (sc := defScope s_law_drawn_below) (by decide +kernel)) (fun _ _ _ _ _ => (pg_name (i := 9) sc_law_drawn_below.nd rfl (Or.inl rfl))) (fun _ _ _ _ _ => pts_nil) (fun _ _ _ _ _ => (pe_op op_sub (pe_un un_neg pe_int) (pe_call (ok_law_draw T) (hr.mono (by decide)) rfl T.g_law_draw T.F_law_draw.kp T.b_law_draw .nil pass0 (pa_cons (pv 0) (pa_cons (pe_un un_neg (pv 4)) pa_nil)))))) (pa_cons (pv 3) pa_nil))))
      (pss_cons (ps_for PassesOwn.never rfl (pi_range1 rfl T.z_range (pa_cons pe_int pa_nil)) (pg_name (i := 6) sc_law_drawn_below.nd rfl (Or.inl rfl))
        (pss_one (ps_if (PW.pt (pw_or (pt_not (pt_val (pe_call (ok_law_is_below T) (hr.mono (by decide)) rfl T.g_law_is_below T.F_law_is_below.kp T.b_law_is_below .nil pass0 (pa_cons (pv 5) pa_nil)))) (pw_or1 (pt_val (pe_call (ok_law_is_long T) (hr.mono (by decide)) rfl T.g_law_is_long T.F_law_is_long.kp T.b_law_is_long .nil pass0 (pa_cons (pv 5) pa_nil))))))
          (pss_cons (ps_par (by rfl) sc_law_drawn_below.nd (i := 7) (j := 8) rfl rfl (by decide) rfl rfl (pa_cons (pe_call (ok_law_draw T) (hr.mono (by decide)) rfl T.g_law_draw T.F_law_draw.kp T.b_law_draw .nil pass0 (pa_cons (pv 0) (pa_cons (pv 2) pa_nil))) (pa_cons (pe_callTy call_list_of (by rfl) T.z_list (by decide +kernel) (pa_cons (pe_ix (ix_tupK K rfl) (pv 5) pe_int (fun _ _ => rfl)) pa_nil)) pa_nil)) (by rfl))
          (pss_cons (ps_asg (pe_op op_sub (pe_ix (ix_listK K rfl) (pv 8) (pv 7) (fun _ _ => rfl)) pe_int) (pg_sub (pv 8) (pv 7) set_list))
          (pss_one (ps_set (i := 5) sc_law_drawn_below.nd rfl (Or.inl rfl) (pe_tup (pa_cons (pe_callTy (call_tupK K rfl) (by rfl) T.z_tuple (by decide +kernel) (pa_cons (pv 8) pa_nil)) (pa_cons (pe_ix (ix_tupK K rfl) (pv 5) pe_int (fun _ _ => rfl)) pa_nil)))))))
          pss_nil)))
      (pss_cons (ps_if (PW.pt (pw_or (pt_not (pt_val (pe_call (ok_law_is_below T) (hr.mono (by decide)) rfl T.g_law_is_below T.F_law_is_below.kp T.b_law_is_below .nil pass0 (pa_cons (pv 5) pa_nil)))) (pw_or1 (pt_val (pe_call (ok_law_is_long T) (hr.mono (by decide)) rfl T.g_law_is_long T.F_law_is_long.kp T.b_law_is_long .nil pass0 (pa_cons (pv 5) pa_nil))))))
        (pss_cons (ps_set (i := 5) sc_law_drawn_below.nd rfl (Or.inl rfl) (pe_tup (pa_cons (pe_callTy (call_tupK K rfl) (by rfl) T.z_tuple (by decide +kernel) (pa_cons (pe_lc (own := [("k", 9)]) rfl sc_law_drawn_below.nd (pi_range1 rfl T.z_range (pa_cons (pv 2) pa_nil)) (blkOk_by (own := [("k", 9)]) (N := ["m", "most", "n", "ties", "low", "tree", "step", "spot", "weights", "k"]) (sc := defScope s_law_drawn_below) (by decide +kernel)) (fun _ _ _ _ _ => (pg_name (i := 9) sc_law_drawn_below.nd rfl (Or.inl rfl))) (fun _ _ _ _ _ => pts_nil) (fun _ _ _ _ _ => (pe_un un_neg pe_int))) pa_nil)) (pa_cons (pe_ix (ix_tupK K rfl) (pv 5) pe_int (fun _ _ => rfl)) pa_nil))))
        (pss_one (ps_set (i := 5) sc_law_drawn_below.nd rfl (Or.inl rfl) (pe_ifExp (pt_val (pe_call (ok_law_is_below T) (hr.mono (by decide)) rfl T.g_law_is_below T.F_law_is_below.kp T.b_law_is_below .nil pass0 (pa_cons (pv 5) pa_nil))) (pv 5) (pe_tup (pa_cons (pe_callTy (call_tupK K rfl) (by rfl) T.z_tuple (by decide +kernel) (pa_cons (pe_lc (own := [("k", 9)]) rfl sc_law_drawn_below.nd (pi_range1 rfl T.z_range (pa_cons (pv 2) pa_nil)) (blkOk_by (own := [("k", 9)]) (N := ["m", "most", "n", "ties", "low", "tree", "step", "spot", "weights", "k"]) (sc := defScope s_law_drawn_below) (by decide +kernel)) (fun _ _ _ _ _ => (pg_name (i := 9) sc_law_drawn_below.nd rfl (Or.inl rfl))) (fun _ _ _ _ _ => pts_nil) (fun _ _ _ _ _ => (pe_un un_neg pe_int))) pa_nil)) (pa_cons (pe_ix (ix_tupK K rfl) (pv 5) pe_int (fun _ _ => rfl)) pa_nil)))))))
        pss_nil)
      (pss_one (ps_ret (pv 5)))))))), ?_⟩
    refine ⟨_, rfl, _, rfl, _, _, rfl, rfl, m, c, cs, b, _, rfl, M, by omega, by omega, by omega, fun r H1 r0 r1 s1 M1 => ?_⟩
    obtain ⟨n, rfl⟩ : ∃ n : Nat, r = n := ⟨r.toNat, by omega⟩
    have b60 : ∀ {t : Tr}, Bt t → (∀ x ∈ t.ws, -60 ≤ x) → B60 t := fun B h => ⟨B.toTree, fun x m => ⟨h x m, (B.wb x m).2⟩⟩
    -- ties, low
    refine ⟨_, rfl, _, rfl, L, m, c, cs, _, n, rfl, hm, hT.mS s1 M1.some, M1, by omega, by omega, fun ties tv H2 S s2 M2 d2 => ?_⟩
    refine ⟨_, rfl, 2, rfl, 3, rfl, 3, rfl, 4, rfl, (by show 4 ≤ sizeLine; decide), fun e he => ?_⟩
    have s3 := same_new he (.lst (iV [-2, -3, -3, -4]))
    have M3 := M2.same s3
    have tm : Trk H2 [m] := (Trk.nil H2).cons M2.some
    refine ⟨m, c, cs, _, .ref e, [-2, -3, -3, -4], rfl, M3, by omega, lst_new tm he (dpAll_ints.mpr rfl), by decide, by decide, fun low H3 hlow s4 M4 => ?_⟩
    have hl : -4 ≤ low ∧ low ≤ -2 := by
      simp at hlow
      omega
    have s24 : SameM m H2 H3 := (SameM.of s3).trans s4
    have d3 : Dp K (wo H3 L) tv (.list (ties.map pr)) := dp_mono (SameM.wo s24 hm) d2
    have sA : SameM m H H3 := (s1.trans s2).trans s24
    refine ⟨(by show 2 ≤ sizeLine; decide), fun e2 he2 => ⟨e2, _, rfl, .inl (.inl upd_same), rfl, _, _, rfl, _, _, rfl, rfl, ?_⟩⟩
    have s5 := same_new he2 (.tup [tv, .int low])
    obtain ⟨H4, hH4⟩ : ∃ H4, H4 = upd H3 e2 (.tup [tv, .int low]) := ⟨_, rfl⟩
    rw [← hH4] at s5 ⊢
    have M5 := M4.same s5
    have sA4 : SameM m H H4 := sA.trans (SameM.of s5)
    have d4 : Dp K (wo H4 L) tv (.list (ties.map pr)) := dp_mono (wo_mono s5) d3
    refine ⟨_, rfl, _, rfl, by omega, by omega, fun D hD => ?_⟩
    have D0 : H D = none := sA4.free hD M.some M5.some
    have Dm : D ≠ m := fun e => M5.some (by rw [← e]; exact hD)
    have Dc : D ≠ c := fun e => by rw [e, M5.c] at hD; cases hD
    refine lc_range (lo := 0) (n := n) (fun i H' => SameM m H4 H' ∧ MAt H' m c cs (b + 102 + i) ∧ ∃ ws, H' D = some (.lst (iV ws)) ∧ ws.length = i ∧ ∀ x ∈ ws, -4 ≤ x ∧ x ≤ 1000)
      ⟨(SameM.of (Same.refl _)).mut hD _, (M5.same (same_new hD _)).mono (by omega) (by omega), [], upd_same, rfl, by simp⟩ ?_ ?_
    · rintro i H' hi ⟨s6, M6, ws, eD, hlen, hw⟩
      refine ⟨rfl, 1, rfl, _, rfl, _, rfl, _, rfl, m, c, cs, _, _, rfl, M6, by omega, by omega, by omega, fun x H7 x0 x1 s7 M7 => ?_⟩
      refine ⟨_, _, rfl, rfl, _, s7.at eD Dm, by rw [iV_len]; exact szl (by omega), SameM.mut (s6.trans s7) hD _, (M7.upd Dm Dc).mono (by omega) (by omega), ws ++ [-1 - x], ?_, by rw [List.length_append, hlen]; rfl, ?_⟩
      · rw [upd_same]
        unfold iV
        rw [List.map_append]
        rfl
      · intro y hy
        rcases List.mem_append.mp hy with hy | hy
        · exact hw y hy
        · simp at hy
          omega
    · rintro H5 ⟨s6, M6, ws0, eD, hlen, hw⟩
      have s7 : SameM m H H5 := sA4.trans s6
      have hT5 := hT.mS s7 M6.some
      refine ⟨_, rfl, L, _, tv, ws0, ties, rfl, hT5, .lst (.inl (.inl ?_)) (dpAll_ints.mpr rfl), dp_mono (SameM.wo s6 hm) d4, by have := S.1; omega, fun tr0 H6 s8 d6 => ?_⟩
      · rw [wo_out (hT.fresh D0)]
        exact eD
      have T0 : Tree (madeT ws0 ties) := made_tree S hlen (by omega)
      obtain ⟨T1, hT1⟩ : ∃ T1, T1 = madeT ws0 ties := ⟨_, rfl⟩
      have n1 : T1.n = n := by rw [hT1]; exact hlen
      have ew0 : trD (madeT ws0 ties) = trD ⟨ws0, T1.ties⟩ := by rw [hT1]; rfl
      rw [ew0] at d6
      rw [← hT1] at T0
      have mk : ∀ ws : List Int, ws.length = n → (∀ x ∈ ws, -1000 ≤ x ∧ x ≤ 1000) → Bt ⟨ws, T1.ties⟩ := fun ws h1 h2 => ⟨tree_ws T0 (by rw [n1]; exact h1), h2⟩
      have s9 : SameM m H H6 := s7.trans (SameM.of s8)
      refine ⟨_, rfl, by omega, by omega, ?_⟩
      refine for_it (walk_rg (n := (40 : Int).toNat)) (fun i σ H' => ∃ (tv' : V) (ws : List Int) (y6 y7 y8 : Option V), σ = [some (.ref m), some (.int (most : Int)), some (.int (n : Int)), some tv, some (.int low), some tv', y6, y7, y8, none] ∧ SameM m H H' ∧ MAt H' m c cs (b + 200 + i) ∧ Dp K (wo H' L) tv' (trD ⟨ws, T1.ties⟩) ∧ ws.length = n ∧ ∀ x ∈ ws, -4 - (i : Int) ≤ x ∧ x ≤ 1000)
        ⟨_, ws0, none, none, none, rfl, s9, (M6.same s8).mono (by omega) (by omega), d6, hlen, fun x hx => by have := hw x hx; omega⟩ (fun _ _ _ _ _ => trivial) ?_ ?_
      · rintro i x σ H7 H7' hi ⟨tv', ws, y6, y7, y8, rfl, s10, M10, d10, hwl, hwb⟩ ⟨rfl, rfl⟩
        have hi40 : i < 40 := hi
        have hB := mk ws hwl fun x hx => by have := hwb x hx; omega
        have hT7 := hT.mS s10 M10.some
        refine ⟨_, rfl, L, _, ⟨ws, T1.ties⟩, rfl, hT7, hB, d10, fun b1 H11 s11 x11 => have e11 : Tr.n ⟨ws, T1.ties⟩ = 0 → b1 = true := fun z => x11.mpr (MT.pos_nil hB.toOkt z); have p11 := x11.mp; ⟨b1, rfl, ?_⟩⟩
        have nn : (⟨ws, T1.ties⟩ : Tr).n = n := hwl
        cases b1
        · refine iteT ?_
          have hpos : 0 < n := Nat.pos_of_ne_zero fun z => by have := e11 (by rw [nn]; exact z); cases this
          refine ⟨_, rfl, _, rfl, m, c, cs, _, _, rfl, (M10.same s11), by omega, by omega, by omega, fun x H8 x0 x1 s8 M8 => ?_⟩
          obtain ⟨a', b', c', ps', rfl, ha', hb', hc', hp'⟩ := dp_tr.mp (dp_mono (SameM.wo s8 hm) (dp_mono (wo_mono s11) d10))
          have sB : SameM m H H8 := (s10.trans (SameM.of s11)).trans s8
          have hT8 : Trk H8 L := hT.mS sB M8.some
          refine ⟨_, rfl, a', _, _, _, rfl, rfl, (wo_le _ _).tup ha', atI_nat (j := 0) rfl, b', _, rfl, .inr ((wo_le _ _).tup hb'), fun W hW => ?_⟩
          obtain ⟨k, rfl⟩ : ∃ k : Nat, x = k := ⟨x.toNat, by omega⟩
          have hkw : k < ws.length := by omega
          refine ⟨_, _, rfl, _, rfl, _, rfl, W, _, _, _, rfl, rfl, .inl (.inl upd_same), atI_nat (j := k) (iV_at (List.getElem?_eq_getElem hkw)), _, _, rfl, rfl, _, rfl, _, rfl, W, _, _, k, rfl, rfl, upd_same, by rw [iV_len]; exact ixN_nat hkw, ?_⟩
          have eset : (iV ws).set k (.int (ws[k] - 1)) = iV (ws.set k (ws[k] - 1)) := by unfold iV; rw [List.map_set]
          rw [eset, upd_upd]
          have sW := same_new hW (.lst (iV (ws.set k (ws[k] - 1))))
          have hT9 := hT8.mono sW
          refine ⟨_, rfl, W, _, rfl, .inl ⟨.inl (.inl upd_same), fun l hl => ?_⟩⟩
          have sl := same_new hl (.tup (iV (ws.set k (ws[k] - 1))))
          refine ⟨_, rfl, a', _, _, _, rfl, rfl, (sW.trans sl).tup ((wo_le _ _).tup ha'), atI_nat (j := 1) rfl, (by show 2 ≤ sizeLine; decide), fun p hp => ?_⟩
          have sp := same_new hp (.tup [.ref l, .ref c'])
          have sZ := (sW.trans sl).trans sp
          refine ⟨_, ws.set k (ws[k] - 1), _, _, _, rfl, sB.trans (SameM.of sZ), (M8.same sZ).mono (by omega) (by omega), tr_new hT9 hl hp ((wo_mono sW).tup hc') (dpAll_mono (wo_mono sW) hp'), by rw [List.length_set]; exact hwl, fun y hy => ?_⟩
          rcases List.mem_or_eq_of_mem_set hy with z | z
          · have := hwb y z
            omega
          · have := hwb _ (List.getElem_mem hkw)
            omega

        · refine iteF ⟨_, rfl, L, _, ⟨ws, T1.ties⟩, rfl, hT7.mono s11, hB, dp_mono (wo_mono s11) d10, fun b2 H12 s12 e12 z12 => ⟨b2, rfl, ?_⟩⟩
          cases b2
          · refine iteF ?_
            exact ⟨_, ws, _, _, _, rfl, s10.trans (SameM.of (s11.trans s12)), (M10.same (s11.trans s12)).mono (by omega) (by omega), dp_mono (wo_mono (s11.trans s12)) d10, hwl, fun x hx => by have := hwb x hx; omega⟩
          · refine iteT ?_
            have hpos : 0 < n := Nat.pos_of_ne_zero fun z => by have := e12 (by rw [nn]; exact z); cases this
            refine ⟨_, rfl, _, rfl, m, c, cs, _, _, rfl, (M10.same (s11.trans s12)), by omega, by omega, by omega, fun x H8 x0 x1 s8 M8 => ?_⟩
            obtain ⟨a', b', c', ps', rfl, ha', hb', hc', hp'⟩ := dp_tr.mp (dp_mono (SameM.wo s8 hm) (dp_mono (wo_mono (s11.trans s12)) d10))
            have sB : SameM m H H8 := (s10.trans (SameM.of (s11.trans s12))).trans s8
            have hT8 : Trk H8 L := hT.mS sB M8.some
            refine ⟨_, rfl, a', _, _, _, rfl, rfl, (wo_le _ _).tup ha', atI_nat (j := 0) rfl, b', _, rfl, .inr ((wo_le _ _).tup hb'), fun W hW => ?_⟩
            obtain ⟨k, rfl⟩ : ∃ k : Nat, x = k := ⟨x.toNat, by omega⟩
            have hkw : k < ws.length := by omega
            refine ⟨_, _, rfl, _, rfl, _, rfl, W, _, _, _, rfl, rfl, .inl (.inl upd_same), atI_nat (j := k) (iV_at (List.getElem?_eq_getElem hkw)), _, _, rfl, rfl, _, rfl, _, rfl, W, _, _, k, rfl, rfl, upd_same, by rw [iV_len]; exact ixN_nat hkw, ?_⟩
            have eset : (iV ws).set k (.int (ws[k] - 1)) = iV (ws.set k (ws[k] - 1)) := by unfold iV; rw [List.map_set]
            rw [eset, upd_upd]
            have sW := same_new hW (.lst (iV (ws.set k (ws[k] - 1))))
            have hT9 := hT8.mono sW
            refine ⟨_, rfl, W, _, rfl, .inl ⟨.inl (.inl upd_same), fun l hl => ?_⟩⟩
            have sl := same_new hl (.tup (iV (ws.set k (ws[k] - 1))))
            refine ⟨_, rfl, a', _, _, _, rfl, rfl, (sW.trans sl).tup ((wo_le _ _).tup ha'), atI_nat (j := 1) rfl, (by show 2 ≤ sizeLine; decide), fun p hp => ?_⟩
            have sp := same_new hp (.tup [.ref l, .ref c'])
            have sZ := (sW.trans sl).trans sp
            refine ⟨_, ws.set k (ws[k] - 1), _, _, _, rfl, sB.trans (SameM.of sZ), (M8.same sZ).mono (by omega) (by omega), tr_new hT9 hl hp ((wo_mono sW).tup hc') (dpAll_mono (wo_mono sW) hp'), by rw [List.length_set]; exact hwl, fun y hy => ?_⟩
            rcases List.mem_or_eq_of_mem_set hy with z | z
            · have := hwb y z
              omega
            · have := hwb _ (List.getElem_mem hkw)
              omega

      · rintro σ H7 ⟨tv', ws, y6, y7, y8, rfl, s10, M10, d10, hwl, hwb⟩
        have hB := mk ws hwl fun x hx => by have := hwb x hx; omega
        have hT7 := hT.mS s10 M10.some
        have e40 : (40 : Int).toNat = 40 := rfl
        rw [e40] at M10
        refine ⟨_, rfl, L, _, ⟨ws, T1.ties⟩, rfl, hT7, hB, d10, fun b1 H11 s11 x11 => have e11 : Tr.n ⟨ws, T1.ties⟩ = 0 → b1 = true := fun z => x11.mpr (MT.pos_nil hB.toOkt z); have p11 := x11.mp; ⟨b1, rfl, ?_⟩⟩
        cases b1
        · refine iteT ?_
          obtain ⟨a5, b5, c5, p5, rfl, ha5, hb5, hc5, hp5⟩ := dp_tr.mp (dp_mono (wo_mono s11) d10)
          have hT5 := hT.mS (s10.trans (SameM.of s11)) (M10.same s11).some
          refine ⟨_, rfl, _, rfl, by omega, by omega, ?_⟩
          refine lcw (K := K) (walk_rg (n := (n : Int).toNat)) L (fun _ => some (.int (-5))) (by omega) hT5 (fun _ _ => trivial) ?_ ?_
          · rintro G j x K2 K3 R R0 hj s20 hT20 ⟨rfl, rfl⟩ hR hR0
            exact ⟨rfl, 5, rfl, hR _ _ (.int (-5)) rfl (Same.refl _) (.int _)⟩
          · intro G5 J5 zs hG s5 hz az
            have ez := (dpAll_ints (ns := (List.range n).map fun _ => (-5 : Int))).mp (by
              have e : (List.range (n : Int).toNat).filterMap (fun _ => some (PyData.int (-5))) = iD ((List.range n).map fun _ => (-5 : Int)) := by
                unfold iD
                rw [List.map_map, show (n : Int).toNat = n by omega]
                exact fm_some fun _ _ => rfl
              rw [e] at az
              exact az)
            subst ez
            refine ⟨_, _, rfl, .inl ⟨.inl (.inl hz), fun l5 hl5 => ?_⟩⟩
            have sl5 := same_new hl5 (.tup (iV ((List.range n).map fun _ => (-5 : Int))))
            refine ⟨_, rfl, a5, _, _, _, rfl, rfl, (s5.trans sl5).tup ((wo_le _ _).tup ha5), atI_nat (j := 1) rfl, (by show 2 ≤ sizeLine; decide), fun q5 hq5 => ?_⟩
            have sq5 := same_new hq5 (.tup [.ref l5, .ref c5])
            have dd5 := tr_new (hT5.mono s5) hl5 hq5 ((wo_mono s5).tup hc5) (dpAll_mono (wo_mono s5) hp5)
            have sZ5 := (s5.trans sl5).trans sq5
            have BZ5 := mk ((List.range n).map fun _ => (-5 : Int)) (by simp) (fun y hy => by simp at hy; omega)
            have sM5 : SameM m H _ := (s10.trans (SameM.of s11)).trans (SameM.of sZ5)
            have M5 := (M10.same s11).same sZ5
            refine ⟨_, rfl, L, _, ⟨(List.range n).map fun _ => (-5 : Int), T1.ties⟩, rfl, hT.mS sM5 M5.some, BZ5, dd5, fun b3 H30 s30 x30 => have e30 : Tr.n ⟨(List.range n).map fun _ => (-5 : Int), T1.ties⟩ = 0 → b3 = true := fun z => x30.mpr (MT.pos_nil BZ5.toOkt z); have p30 := x30.mp; ⟨b3, rfl, ?_⟩⟩
            cases b3
            · refine iteF ?_
              obtain ⟨a17, b17, c17, p17, ea17, ha17, hb17, hc17, hp17⟩ := dp_tr.mp (dp_mono (wo_mono s30) dd5)
              cases ea17
              have hT17 := hT.mS (sM5.trans (SameM.of s30)) (M5.same s30).some
              refine ⟨_, rfl, _, rfl, by omega, by omega, ?_⟩
              refine lcw (K := K) (walk_rg (n := (n : Int).toNat)) L (fun _ => some (.int (-17))) (by omega) hT17 (fun _ _ => trivial) ?_ ?_
              · rintro G j x K2 K3 R R0 hj s20 hT20 ⟨rfl, rfl⟩ hR hR0
                exact ⟨rfl, 17, rfl, hR _ _ (.int (-17)) rfl (Same.refl _) (.int _)⟩
              · intro G17 J17 zs hG s17 hz az
                have ez := (dpAll_ints (ns := (List.range n).map fun _ => (-17 : Int))).mp (by
                  have e : (List.range (n : Int).toNat).filterMap (fun _ => some (PyData.int (-17))) = iD ((List.range n).map fun _ => (-17 : Int)) := by
                    unfold iD
                    rw [List.map_map, show (n : Int).toNat = n by omega]
                    exact fm_some fun _ _ => rfl
                  rw [e] at az
                  exact az)
                subst ez
                refine ⟨_, _, rfl, .inl ⟨.inl (.inl hz), fun l17 hl17 => ?_⟩⟩
                have sl17 := same_new hl17 (.tup (iV ((List.range n).map fun _ => (-17 : Int))))
                refine ⟨_, rfl, _, _, _, _, rfl, rfl, (s17.trans sl17).tup ((wo_le _ _).tup ha17), atI_nat (j := 1) rfl, (by show 2 ≤ sizeLine; decide), fun q17 hq17 => ?_⟩
                have sq17 := same_new hq17 (.tup [.ref l17, .ref c17])
                have dd17 := tr_new (hT17.mono s17) hl17 hq17 ((wo_mono s17).tup hc17) (dpAll_mono (wo_mono s17) hp17)
                have sZ17 := (s17.trans sl17).trans sq17
                have BZ17 := mk ((List.range n).map fun _ => (-17 : Int)) (by simp) (fun y hy => by simp at hy; omega)
                have sM17 : SameM m H _ := (sM5.trans (SameM.of s30)).trans (SameM.of sZ17)
                have M17 := (M5.same s30).same sZ17
                exact ⟨_, rfl, q _ _ _ (b60 BZ17 (fun y hy => by simp at hy; omega)) (MT.pos_big BZ17.toTree fun y hy => by simp at hy; omega) (by show (List.map _ _).length ≤ most; simp; omega) (fun _ => zb_all BZ17.toTree (c := -17) (fun y hy => by simp at hy; omega) (.inr rfl)) sM17 (M17.mono (by omega) (by omega)) dd17⟩
            
            · exact iteT ⟨_, rfl, ⟨_, rfl, q _ _ _ (b60 BZ5 (fun y hy => by simp at hy; omega)) (p30 rfl) (by show (List.map _ _).length ≤ most; simp; omega) (fun _ => zb_all BZ5.toTree (c := -5) (fun y hy => by simp at hy; omega) (.inl rfl)) (sM5.trans (SameM.of s30)) ((M5.same s30).mono (by omega) (by omega)) (dp_mono (wo_mono s30) dd5)⟩⟩

        · refine iteF ⟨_, rfl, L, _, ⟨ws, T1.ties⟩, rfl, hT7.mono s11, hB, dp_mono (wo_mono s11) d10, fun b2 H12 s12 e12 z12 => ⟨b2, rfl, ?_⟩⟩
          cases b2
          · refine iteF ?_
            exact ⟨_, rfl, q _ _ _ (b60 hB fun x hx => by have := hwb x hx; simp at this; omega) (p11 rfl) (by show ws.length ≤ most; omega) (z12 rfl) (s10.trans (SameM.of (s11.trans s12))) ((M10.same (s11.trans s12)).mono (by omega) (by omega)) (dp_mono (wo_mono (s11.trans s12)) d10)⟩
          · refine iteT ?_
            obtain ⟨a5, b5, c5, p5, rfl, ha5, hb5, hc5, hp5⟩ := dp_tr.mp (dp_mono (wo_mono (s11.trans s12)) d10)
            have hT5 := hT.mS (s10.trans (SameM.of (s11.trans s12))) (M10.same (s11.trans s12)).some
            refine ⟨_, rfl, _, rfl, by omega, by omega, ?_⟩
            refine lcw (K := K) (walk_rg (n := (n : Int).toNat)) L (fun _ => some (.int (-5))) (by omega) hT5 (fun _ _ => trivial) ?_ ?_
            · rintro G j x K2 K3 R R0 hj s20 hT20 ⟨rfl, rfl⟩ hR hR0
              exact ⟨rfl, 5, rfl, hR _ _ (.int (-5)) rfl (Same.refl _) (.int _)⟩
            · intro G5 J5 zs hG s5 hz az
              have ez := (dpAll_ints (ns := (List.range n).map fun _ => (-5 : Int))).mp (by
                have e : (List.range (n : Int).toNat).filterMap (fun _ => some (PyData.int (-5))) = iD ((List.range n).map fun _ => (-5 : Int)) := by
                  unfold iD
                  rw [List.map_map, show (n : Int).toNat = n by omega]
                  exact fm_some fun _ _ => rfl
                rw [e] at az
                exact az)
              subst ez
              refine ⟨_, _, rfl, .inl ⟨.inl (.inl hz), fun l5 hl5 => ?_⟩⟩
              have sl5 := same_new hl5 (.tup (iV ((List.range n).map fun _ => (-5 : Int))))
              refine ⟨_, rfl, a5, _, _, _, rfl, rfl, (s5.trans sl5).tup ((wo_le _ _).tup ha5), atI_nat (j := 1) rfl, (by show 2 ≤ sizeLine; decide), fun q5 hq5 => ?_⟩
              have sq5 := same_new hq5 (.tup [.ref l5, .ref c5])
              have dd5 := tr_new (hT5.mono s5) hl5 hq5 ((wo_mono s5).tup hc5) (dpAll_mono (wo_mono s5) hp5)
              have sZ5 := (s5.trans sl5).trans sq5
              have BZ5 := mk ((List.range n).map fun _ => (-5 : Int)) (by simp) (fun y hy => by simp at hy; omega)
              have sM5 : SameM m H _ := (s10.trans (SameM.of (s11.trans s12))).trans (SameM.of sZ5)
              have M5 := (M10.same (s11.trans s12)).same sZ5
              refine ⟨_, rfl, L, _, ⟨(List.range n).map fun _ => (-5 : Int), T1.ties⟩, rfl, hT.mS sM5 M5.some, BZ5, dd5, fun b3 H30 s30 x30 => have e30 : Tr.n ⟨(List.range n).map fun _ => (-5 : Int), T1.ties⟩ = 0 → b3 = true := fun z => x30.mpr (MT.pos_nil BZ5.toOkt z); have p30 := x30.mp; ⟨b3, rfl, ?_⟩⟩
              cases b3
              · refine iteF ?_
                obtain ⟨a17, b17, c17, p17, ea17, ha17, hb17, hc17, hp17⟩ := dp_tr.mp (dp_mono (wo_mono s30) dd5)
                cases ea17
                have hT17 := hT.mS (sM5.trans (SameM.of s30)) (M5.same s30).some
                refine ⟨_, rfl, _, rfl, by omega, by omega, ?_⟩
                refine lcw (K := K) (walk_rg (n := (n : Int).toNat)) L (fun _ => some (.int (-17))) (by omega) hT17 (fun _ _ => trivial) ?_ ?_
                · rintro G j x K2 K3 R R0 hj s20 hT20 ⟨rfl, rfl⟩ hR hR0
                  exact ⟨rfl, 17, rfl, hR _ _ (.int (-17)) rfl (Same.refl _) (.int _)⟩
                · intro G17 J17 zs hG s17 hz az
                  have ez := (dpAll_ints (ns := (List.range n).map fun _ => (-17 : Int))).mp (by
                    have e : (List.range (n : Int).toNat).filterMap (fun _ => some (PyData.int (-17))) = iD ((List.range n).map fun _ => (-17 : Int)) := by
                      unfold iD
                      rw [List.map_map, show (n : Int).toNat = n by omega]
                      exact fm_some fun _ _ => rfl
                    rw [e] at az
                    exact az)
                  subst ez
                  refine ⟨_, _, rfl, .inl ⟨.inl (.inl hz), fun l17 hl17 => ?_⟩⟩
                  have sl17 := same_new hl17 (.tup (iV ((List.range n).map fun _ => (-17 : Int))))
                  refine ⟨_, rfl, _, _, _, _, rfl, rfl, (s17.trans sl17).tup ((wo_le _ _).tup ha17), atI_nat (j := 1) rfl, (by show 2 ≤ sizeLine; decide), fun q17 hq17 => ?_⟩
                  have sq17 := same_new hq17 (.tup [.ref l17, .ref c17])
                  have dd17 := tr_new (hT17.mono s17) hl17 hq17 ((wo_mono s17).tup hc17) (dpAll_mono (wo_mono s17) hp17)
                  have sZ17 := (s17.trans sl17).trans sq17
                  have BZ17 := mk ((List.range n).map fun _ => (-17 : Int)) (by simp) (fun y hy => by simp at hy; omega)
                  have sM17 : SameM m H _ := (sM5.trans (SameM.of s30)).trans (SameM.of sZ17)
                  have M17 := (M5.same s30).same sZ17
                  exact ⟨_, rfl, q _ _ _ (b60 BZ17 (fun y hy => by simp at hy; omega)) (MT.pos_big BZ17.toTree fun y hy => by simp at hy; omega) (by show (List.map _ _).length ≤ most; simp; omega) (fun _ => zb_all BZ17.toTree (c := -17) (fun y hy => by simp at hy; omega) (.inr rfl)) sM17 (M17.mono (by omega) (by omega)) dd17⟩
              
              · exact iteT ⟨_, rfl, ⟨_, rfl, q _ _ _ (b60 BZ5 (fun y hy => by simp at hy; omega)) (p30 rfl) (by show (List.map _ _).length ≤ most; simp; omega) (fun _ => zb_all BZ5.toTree (c := -5) (fun y hy => by simp at hy; omega) (.inl rfl)) (sM5.trans (SameM.of s30)) ((M5.same s30).mono (by omega) (by omega)) (dp_mono (wo_mono s30) dd5)⟩⟩


end
end Y
namespace Y
open PySem PySem.Spec PyProof.Rows L2
section
variable {P : Program} {w : World} {K : PySem.W.Frag} {mg : Str → Option Value} {base : Heap}
theorem ok_law_filled (T : Txt K mg) : FnOk P w K mg base CX0 37 T.a_law_filled T.fd_law_filled ["m", "most"] (sp_law_filled K) := by
  refine T.F_law_filled.ok sc_law_filled (fun vs H Q E h => ?_) (fun cdv A outer s H vs Q E hr h => ?_)
  · obtain ⟨L, m, c, cs, b, most, rfl, _⟩ := h
    rfl
  · obtain ⟨L, m, c, cs, b, most, rfl, hm, hT, M, h8, hb, q⟩ := h
    refine ⟨_, (pss_cons (ps_if (pt_cmpR op_eq (pe_call (ok_law_draw T) (hr.mono (by decide)) rfl T.g_law_draw T.F_law_draw.kp T.b_law_draw .nil pass0 (pa_cons (pv 0) (pa_cons pe_int pa_nil))) pe_int (nomark _))
        (pss_cons (ps_asg (pe_tup (pa_cons (pe_tup (pa_cons (pe_tup (pa_cons pe_int (pa_cons pe_int pa_nil))) (pa_cons (pe_tup (pa_cons pe_int (pa_cons pe_int pa_nil))) (pa_cons (pe_tup (pa_cons pe_int (pa_cons pe_int pa_nil))) pa_nil)))) (pa_cons (pe_tup (pa_cons (pe_tup (pa_cons pe_int (pa_cons pe_int pa_nil))) (pa_cons (pe_tup (pa_cons pe_int (pa_cons pe_int pa_nil))) (pa_cons (pe_tup (pa_cons pe_int (pa_cons pe_int pa_nil))) (pa_cons (pe_tup (pa_cons pe_int (pa_cons pe_int pa_nil))) pa_nil))))) pa_nil))) (pg_tupK K rfl (n := 2) rfl (pgs_cons (pg_name (i := 2) sc_law_filled.nd rfl (Or.inl rfl)) (pgs_cons (pg_name (i := 3) sc_law_filled.nd rfl (Or.inl rfl)) pgs_nil))))
        (pss_cons (ps_set (i := 4) sc_law_filled.nd rfl (Or.inl rfl) (pe_lst (pa_cons (pe_tup (pa_cons (pe_tup (pa_cons (pe_un un_neg pe_int) (pa_cons (pe_un un_neg pe_int) (pa_cons (pe_un un_neg pe_int) (pa_cons (pe_un un_neg pe_int) pa_nil))))) (pa_cons (pv 2) pa_nil))) (pa_cons (pe_tup (pa_cons (pe_tup (pa_cons (pe_un un_neg pe_int) (pa_cons (pe_un un_neg pe_int) (pa_cons (pe_un un_neg pe_int) (pa_cons (pe_un un_neg pe_int) pa_nil))))) (pa_cons (pv 2) pa_nil))) (pa_cons (pe_tup (pa_cons (pe_tup (pa_cons (pe_un un_neg pe_int) (pa_cons (pe_un un_neg pe_int) (pa_cons (pe_un un_neg pe_int) (pa_cons (pe_un un_neg pe_int) pa_nil))))) (pa_cons (pv 2) pa_nil))) (pa_cons (pe_tup (pa_cons (pe_tup (pa_cons (pe_un un_neg pe_int) pa_nil)) (pa_cons (pe_tup pa_nil) pa_nil))) pa_nil))))))
        (pss_cons (ps_expr (pe_bmK K rfl PySem.F.plainAttrs_list PySem.F.slot_list_extend PySem.F.type_list_extend mt_extend (pv 4) (pa_cons (pe_lst (pa_cons (pe_tup (pa_cons (pe_tup (pa_cons (pe_un un_neg pe_int) (pa_cons (pe_un un_neg pe_int) (pa_cons (pe_un un_neg pe_int) (pa_cons (pe_un un_neg pe_int) (pa_cons (pe_un un_neg pe_int) pa_nil)))))) (pa_cons (pv 3) pa_nil))) (pa_cons (pe_tup (pa_cons (pe_tup (pa_cons (pe_un un_neg pe_int) (pa_cons (pe_un un_neg pe_int) (pa_cons (pe_un un_neg pe_int) (pa_cons (pe_un un_neg pe_int) (pa_cons (pe_un un_neg pe_int) pa_nil)))))) (pa_cons (pv 3) pa_nil))) (pa_cons (pe_tup (pa_cons (pe_tup (pa_cons (pe_un un_neg pe_int) (pa_cons (pe_un un_neg pe_int) (pa_cons (pe_un un_neg pe_int) (pa_cons (pe_un un_neg pe_int) (pa_cons (pe_un un_neg pe_int) pa_nil)))))) (pa_cons (pv 3) pa_nil))) pa_nil)))) pa_nil)))
        (pss_cons (ps_expr (pe_bmK K rfl PySem.F.plainAttrs_list PySem.F.slot_list_append PySem.F.type_list_append mt_append (pv 4) (pa_cons (pe_tup (pa_cons (pe_op (op_repTK K rfl) (pe_tup (pa_cons (pe_un un_neg pe_int) pa_nil)) pe_int) (pa_cons (pe_tup (pa_cons (pe_tup (pa_cons pe_int (pa_cons pe_int pa_nil))) (pa_cons (pe_tup (pa_cons pe_int (pa_cons pe_int pa_nil))) (pa_cons (pe_tup (pa_cons pe_int (pa_cons pe_int pa_nil))) (pa_cons (pe_tup (pa_cons pe_int (pa_cons pe_int pa_nil))) (pa_cons (pe_tup (pa_cons pe_int (pa_cons pe_int pa_nil))) (pa_cons (pe_tup (pa_cons pe_int (pa_cons pe_int pa_nil))) (pa_cons (pe_tup (pa_cons pe_int (pa_cons pe_int pa_nil))) pa_nil)))))))) pa_nil))) pa_nil)))
        (pss_cons (ps_expr (pe_bmK K rfl PySem.F.plainAttrs_list PySem.F.slot_list_append PySem.F.type_list_append mt_append (pv 4) (pa_cons (pe_tup (pa_cons (pe_tup (pa_cons (pe_un un_neg pe_int) (pa_cons (pe_un un_neg pe_int) (pa_cons (pe_un un_neg pe_int) (pa_cons (pe_un un_neg pe_int) (pa_cons (pe_un un_neg pe_int) (pa_cons (pe_un un_neg pe_int) (pa_cons (pe_un un_neg pe_int) pa_nil)))))))) (pa_cons (pe_op (op_catAK K rfl) (pv 3) (pe_tup (pa_cons (pe_tup (pa_cons pe_int (pa_cons pe_int pa_nil))) (pa_cons (pe_tup (pa_cons pe_int (pa_cons pe_int pa_nil))) pa_nil)))) pa_nil))) pa_nil)))
        (pss_one (ps_ret (pe_call (ok_law_ofL T) (hr.mono (by decide)) rfl T.g_law_of T.F_law_of.kp T.b_law_of .nil pass0 (pa_cons (pv 0) (pa_cons (pv 4) pa_nil))))))))))
        pss_nil)
      (pss_cons (ps_set (i := 5) sc_law_filled.nd rfl (Or.inl rfl) (pe_call (ok_law_drawn_below T) (hr.mono (by decide)) rfl T.g_law_drawn_below T.F_law_drawn_below.kp T.b_law_drawn_below .nil pass0 (pa_cons (pv 0) (pa_cons (pv 1) pa_nil))))
      (pss_one (ps_ret (pe_ifExp (pt_cmpR (op_neDK K rfl hr.units) (pe_ix (ix_tupK K rfl) (pv 5) pe_int (fun _ _ => rfl)) (pe_tup pa_nil) (nomark _)) (pv 5) (pe_tup (pa_cons (pe_tup (pa_cons (pe_op op_sub (pe_un un_neg pe_int) (pe_call (ok_law_draw T) (hr.mono (by decide)) rfl T.g_law_draw T.F_law_draw.kp T.b_law_draw .nil pass0 (pa_cons (pv 0) (pa_cons pe_int pa_nil)))) pa_nil)) (pa_cons (pe_tup pa_nil) pa_nil)))))))), ?_⟩
    refine ⟨_, rfl, m, c, cs, b, _, rfl, M, by omega, by omega, by omega, fun r H1 r0 r1 s1 M1 => ⟨rfl, _, rfl, ite2 (fun z => ?_) (fun z => ?_)⟩⟩
    · have hT1 := hT.mS s1 M1.some
      dsimp only [tSeq, tAsg]
      refine Lit.use (K := K) (L := L) (d := .tuple [.tuple (wstar.map pr), .tuple (wfar.map pr)]) ?l1 fun v2 H2 s2 d2 => ?_
      case l1 => repeat' (first | exact lit_int | exact lit_neg | exact lit_nil | refine lit_cons ?_ ?_ | refine lit_tup hT1 ?_ (by decide))
      obtain ⟨U, us, rfl, hU, hus⟩ := dp_tup d2
      cases hus with
      | cons dst hus =>
        cases hus with
        | cons dfa hus =>
          cases hus
          rename_i vst vfa
          have hT2 := hT1.mono s2
          have M2 := M1.same s2
          refine ⟨U, _, rfl, (wo_le _ _).tup hU, rfl, _, _, rfl, _, _, rfl, rfl, ?_⟩
          dsimp only [tSeq, tAsg]
          refine LitA.lst (K := K) (L := L) (ds := (fillL.take 4).map trD) ?l2 (by decide) fun vs3 H3 so s3 hso d3 => ?_
          case l2 => repeat' (first | exact lit_int | exact lit_neg | exact lit_nil | exact lit_var rfl dst | exact lit_var rfl dfa | refine lit_cons ?_ ?_ | refine lit_tup hT2 ?_ (by decide))
          have s3' := same_new hso (.lst vs3)
          obtain ⟨H4, hH4⟩ : ∃ H4, H4 = upd H3 so (.lst vs3) := ⟨_, rfl⟩
          have e4 : H4 so = some (.lst vs3) := by rw [hH4]; exact upd_same
          rw [← hH4] at s3' ⊢
          have s24 := s3.trans s3'
          have hT4 : Trk H4 (so :: L) := (hT2.mono s24).cons (by rw [e4]; simp)
          have so2 : H2 so = none := s3.free hso
          have toS : Same (wo H2 L) (wo H4 (so :: L)) := by
            have := wo_mono (L := so :: L) s24
            rw [wo_fresh so2] at this
            exact this
          have d4 : DpAll K (wo H4 (so :: L)) vs3 ((fillL.take 4).map trD) := by
            rw [hH4, wo_upd_in (by simp), wo_fresh hso]
            exact d3
          have M4 := M2.same s24
          have dst := dp_mono toS dst
          have dfa := dp_mono toS dfa
          have l3 : vs3.length = 4 := by rw [d3.length]; rfl
          -- three more
          refine ⟨_, rfl, .inl ⟨rfl, _, .inl (.inl e4)⟩, ?_⟩
          dsimp only [tCons]
          refine LitA.lst (K := K) (L := so :: L) (ds := ((fillL.drop 4).take 3).map trD) ?l3 (by decide) fun vs5 H5 b5 s5 hb5 d5 => ?_
          case l3 => repeat' (first | exact lit_int | exact lit_neg | exact lit_nil | exact lit_var rfl dst | exact lit_var rfl dfa | refine lit_cons ?_ ?_ | refine lit_tup hT4 ?_ (by decide))
          have s5' := same_new hb5 (.lst vs5)
          have l5 : vs5.length = 3 := by rw [d5.length]; rfl
          refine ⟨so, b5, vs3, vs5, rfl, rfl, s5' _ _ (s5 _ _ e4), upd_same, sz (by omega), ?_⟩
          obtain ⟨H6, hH6⟩ : ∃ H6, H6 = upd (upd H5 b5 (.lst vs5)) so (.lst (vs3 ++ vs5)) := ⟨_, rfl⟩
          have e6 : H6 so = some (.lst (vs3 ++ vs5)) := by rw [hH6]; exact upd_same
          have w6 : Same (wo H5 (so :: L)) (wo H6 (so :: L)) := by rw [hH6, wo_upd_in (by simp)]; exact wo_mono s5'
          have d6 : DpAll K (wo H6 (so :: L)) (vs3 ++ vs5) ((fillL.take 7).map trD) := by
            have := (dpAll_mono ((wo_mono s5).trans w6) d4).append (dpAll_mono w6 d5)
            exact this
          have dfa := dp_mono ((wo_mono s5).trans w6) dfa
          have smo : so ≠ m := fun e => M2.some (by rw [← e]; exact so2)
          have sco : so ≠ c := fun e => by rw [e, M2.c] at so2; cases so2
          have M6 : MAt H6 m c cs (b + 1) := by rw [hH6]; exact ((M4.same s5).same s5').upd smo sco
          have hT6 : Trk H6 (so :: L) := by rw [hH6]; exact ((hT4.mono s5).mono s5').upd _ _
          have s46 : Same H4 H4 := Same.refl _
          rw [← hH6]
          -- one more
          refine ⟨_, rfl, .inl ⟨rfl, _, .inl (.inl e6)⟩, ?_⟩
          dsimp only [tCons]
          refine Lit.use (K := K) (L := so :: L) (d := trD ⟨[-2, -2, -2, -2, -2, -2, -2, -2], we8⟩) ?l4 fun v7 H7 s7 d7 => ?_
          case l4 => repeat' (first | exact lit_int | exact lit_neg | exact lit_nil | refine lit_cons ?_ ?_ | refine lit_tup hT6 ?_ (by decide) | refine lit_rep (k := 8) (d := .int (-2)) hT6 ?_ (by decide) (by decide))
          refine ⟨so, _, v7, rfl, rfl, s7 _ _ e6, szl (by rw [List.length_append]; omega), ?_⟩
          obtain ⟨H8, hH8⟩ : ∃ H8, H8 = upd H7 so (.lst (vs3 ++ vs5 ++ [v7])) := ⟨_, rfl⟩
          have e8 : H8 so = some (.lst (vs3 ++ vs5 ++ [v7])) := by rw [hH8]; exact upd_same
          have w8 : Same (wo H7 (so :: L)) (wo H8 (so :: L)) := by rw [hH8, wo_upd_in (by simp)]; exact Same.refl _
          have d8 : DpAll K (wo H8 (so :: L)) (vs3 ++ vs5 ++ [v7]) ((fillL.take 8).map trD) := (dpAll_mono ((wo_mono s7).trans w8) d6).append (.cons (dp_mono w8 d7) .nil)
          have dfa := dp_mono ((wo_mono s7).trans w8) dfa
          have M8 : MAt H8 m c cs (b + 1) := by rw [hH8]; exact (M6.same s7).upd smo sco
          have hT8 : Trk H8 (so :: L) := by rw [hH8]; exact (hT6.mono s7).upd _ _
          rw [← hH8]
          -- and the last
          refine ⟨_, rfl, .inl ⟨rfl, _, .inl (.inl e8)⟩, ?_⟩
          dsimp only [tCons]
          refine Lit.use (K := K) (L := so :: L) (d := trD ⟨[-1, -2, -3, -13, -1, -2, -3], wtwo⟩) ?l5 fun v9 H9 s9 d9 => ?_
          case l5 =>
            refine lit_tup hT8 (lit_cons ?_ (lit_cons (lit_cat (ds := wfar.map pr) (es := [pr (4, 5), pr (4, 6)]) hT8 (lit_var rfl dfa) ?_ (by decide)) lit_nil)) (by decide)
            all_goals repeat' (first | exact lit_int | exact lit_neg | exact lit_nil | refine lit_cons ?_ ?_ | refine lit_tup hT8 ?_ (by decide))
          refine ⟨so, _, v9, rfl, rfl, s9 _ _ e8, szl (by rw [List.length_append, List.length_append]; simp; omega), ?_⟩
          obtain ⟨H10, hH10⟩ : ∃ H10, H10 = upd H9 so (.lst (vs3 ++ vs5 ++ [v7] ++ [v9])) := ⟨_, rfl⟩
          have e10 : H10 so = some (.lst (vs3 ++ vs5 ++ [v7] ++ [v9])) := by rw [hH10]; exact upd_same
          have w10 : Same (wo H9 (so :: L)) (wo H10 (so :: L)) := by rw [hH10, wo_upd_in (by simp)]; exact Same.refl _
          have d10 : DpAll K (wo H10 (so :: L)) (vs3 ++ vs5 ++ [v7] ++ [v9]) (fillL.map trD) := (dpAll_mono ((wo_mono s9).trans w10) d8).append (.cons (dp_mono w10 d9) .nil)
          have M10 : MAt H10 m c cs (b + 1) := by rw [hH10]; exact (M8.same s9).upd smo sco
          have SM : SameM m H H10 := by
            have a1 : SameM m H H4 := s1.trans (SameM.of (s2.trans s24))
            have so0 : H so = none := s1.free (s2.free so2) M.some M1.some
            have a6 : SameM m H H6 := by rw [hH6]; exact SameM.mut (a1.trans (SameM.of (s5.trans s5'))) so0 _
            have a8 : SameM m H H8 := by rw [hH8]; exact SameM.mut (a6.trans (SameM.of s7)) so0 _
            rw [hH10]
            exact SameM.mut (a8.trans (SameM.of s9)) so0 _
          rw [← hH10]
          have soL : so ∉ L := fun h => hT2 so h so2
          have dso : Dp K (wo H10 L) (.ref so) (.list (fillL.map trD)) := .lst (.inl (.inl (by rw [wo_out soL]; exact e10))) (dpAll_mono wo_cons_le d10)
          refine ⟨_, rfl, _, rfl, L, m, c, cs, _, _, fillL.map trD, rfl, hm, M10, by omega, dso, by decide, by decide, fun d v11 H11 hd d11 s11 M11 => ?_⟩
          obtain ⟨t, ht, rfl⟩ := List.mem_map.mp hd
          obtain ⟨f1, f2, f3, f4, f5⟩ := fill_all t ht
          exact q t _ _ f1 f2 f3 f4 f5 (SM.trans s11) (M11.mono (by omega) (by omega)) d11
    · refine ⟨_, rfl, _, rfl, L, m, c, cs, _, most, rfl, hm, hT.mS s1 M1.some, M1, by omega, by omega, fun t v2 H2 B0 P0 n0 zb s2 M2 d2 => ?_⟩
      have hT2 := hT.mS (s1.trans s2) M2.some
      obtain ⟨a4, b4, c4, p4, rfl, ha4, hb4, hc4, hp4⟩ := dp_tr.mp d2
      refine ⟨_, rfl, a4, _, _, _, rfl, rfl, (wo_le _ _).tup ha4, atI_nat (j := 0) rfl, (by show 0 ≤ sizeLine; decide), fun e he => ?_⟩
      have s3 := same_new he (.tup [])
      refine ⟨.tuple (iD t.ws), .tuple [], .tup (s3.tup ((wo_le _ _).tup hb4)) (dpAll_ints.mpr rfl), .tup (.inl (.inl upd_same)) .nil, shaped_iT _, shaped_iT [], _, rfl, ?_⟩
      rw [eqv_nilT, show (iD t.ws).isEmpty = t.ws.isEmpty by unfold iD; cases t.ws <;> rfl]
      have M3 := M2.same s3
      refine ite2 (fun y => ?_) (fun y => ?_)
      · have hn : 0 < t.n := by
          show 0 < t.ws.length
          cases h : t.ws with
          | nil => rw [h] at y; cases y
          | cons x r => simp
        exact ⟨_, rfl, q t _ _ B0 P0 hn (by omega) (zb hn) ((s1.trans s2).trans (SameM.of s3)) (M3.mono (by omega) (by omega)) (dp_mono (wo_mono s3) d2)⟩
      · refine ⟨1, rfl, _, rfl, m, c, cs, _, _, rfl, M3, by omega, by omega, by omega, fun r2 H4 r20 r21 s4 M4 => ?_⟩
        refine ⟨_, _, rfl, rfl, (by show 1 ≤ sizeLine; decide), fun p1 hp1 => ⟨(by show 0 ≤ sizeLine; decide), fun p2 hp2 => ⟨(by show 2 ≤ sizeLine; decide), fun p3 hp3 => ?_⟩⟩⟩
        have hT4 := hT.mS (((s1.trans s2).trans (SameM.of s3)).trans s4) M4.some
        have t1 := same_new hp1 (.tup [.int (-1 - r2)])
        have t2 := same_new hp2 (.tup [])
        have t3 := same_new hp3 (.tup [.ref p1, .ref p2])
        have dd : Dp K (wo (upd (upd (upd H4 p1 (.tup [.int (-1 - r2)])) p2 (.tup [])) p3 (.tup [.ref p1, .ref p2])) L) (.ref p3) (trD ⟨[-1 - r2], []⟩) :=
          tup_new ((hT4.mono t1).mono t2) hp3 (ds := [.tuple (iD [-1 - r2]), .tuple []]) (.cons (dp_mono (wo_mono t2) (tup_new hT4 hp1 (dpAll_ints.mpr rfl))) (.cons (tup_new (hT4.mono t1) hp2 .nil) .nil))
        obtain ⟨f1, f2, f3, f4, f5⟩ := fill_one (w := -1 - r2) (by omega)
        exact q _ _ _ f1 f2 f3 f4 f5 ((((s1.trans s2).trans (SameM.of s3)).trans s4).trans (SameM.of ((t1.trans t2).trans t3))) ((M4.same ((t1.trans t2).trans t3)).mono (by omega) (by omega)) dd

end
end Y
namespace Y
open PySem PySem.Spec PyProof.Rows L2
section
variable {P : Program} {w : World} {K : PySem.W.Frag} {mg : Str → Option Value} {base : Heap}
theorem ok_neighbour_lists (T : Txt K mg) : FnOk P w K mg base CX0 1 T.a_neighbour_lists T.fd_neighbour_lists ["tree"] (sp_neighbour_lists K) := by
  refine T.F_neighbour_lists.ok sc_neighbour_lists (fun vs H Q E h => ?_) (fun cdv A outer s H vs Q E hr h => ?_)
  · obtain ⟨L, tv, t, rfl, _⟩ := h
    rfl
  · obtain ⟨L, tv, t, rfl, hT, O, dt, q⟩ := h
    obtain ⟨a, b, c, ps, rfl, ha, hb, hc, hp⟩ := dp_tr.mp (dp_mono (wo_le _ _) dt)
    have hn := O.few
    have ew : (iV t.ws).length = t.n := iV_len _
    refine ⟨_, (pss_cons (ps_setLc (i := 1) (own := [("_", 4)]) rfl sc_neighbour_lists.nd rfl rfl (sw_true rfl rfl rfl (by decide +kernel)) (pi_range1 rfl T.z_range (pa_cons (pe_callB (call_lenK K rfl) (by rfl) T.z_len PySem.boot_len (pa_cons (pe_ix (ix_tupK K rfl) (pv 0) pe_int (fun _ _ => rfl)) pa_nil)) pa_nil)) (blkOk_by (own := [("_", 4)]) (N := ["tree", "lists", "i", "j", "_"]) (sc := defScope s_neighbour_lists) (by decide +kernel)) (fun _ _ _ _ _ => (pg_name (i := 4) sc_neighbour_lists.nd rfl (Or.inl rfl))) (fun _ _ _ _ _ => pts_nil) (fun _ _ _ _ _ => (pe_lst pa_nil)))
      (pss_cons (ps_for PassesOwn.never rfl (pi_tup (pe_ix (ix_tupK K rfl) (pv 0) pe_int (fun _ _ => rfl))) (pg_tupK K rfl (n := 2) rfl (pgs_cons (pg_name (i := 2) sc_neighbour_lists.nd rfl (Or.inl rfl)) (pgs_cons (pg_name (i := 3) sc_neighbour_lists.nd rfl (Or.inl rfl)) pgs_nil)))
        (pss_cons (ps_expr (pe_bmK K rfl PySem.F.plainAttrs_list PySem.F.slot_list_append PySem.F.type_list_append mt_append (pe_ix (ix_listK K rfl) (pv 1) (pv 2) (fun _ _ => rfl)) (pa_cons (pv 3) pa_nil)))
        (pss_one (ps_expr (pe_bmK K rfl PySem.F.plainAttrs_list PySem.F.slot_list_append PySem.F.type_list_append mt_append (pe_ix (ix_listK K rfl) (pv 1) (pv 3) (fun _ _ => rfl)) (pa_cons (pv 2) pa_nil))))))
      (pss_one (ps_ret (pv 1))))), ?_⟩
    refine ⟨.ref a, rfl, a, _, _, _, rfl, rfl, ha, atI_nat (j := 0) rfl, b, _, rfl, .inr hb, _, rfl, by omega, by omega, fun D hD => ?_⟩
    refine lc_range (lo := 0) (n := (iV t.ws).length) (fun i H' => ∃ qs, LL H H' D qs (List.replicate i [])) ⟨[], same_new hD _, hD, upd_same, .nil, by simp, by simp, rfl, by simp⟩ ?_ ?_
    · rintro i H' hi ⟨qs, l⟩
      refine ⟨rfl, Nat.zero_le _, fun p np => ⟨qs.map V.ref, ?_, ?_, qs ++ [p], ?_⟩⟩
      · rw [upd_ne (ne_of_none l.d np)]
        exact l.d
      · rw [List.length_map, l.len, List.length_replicate]
        exact szl (by omega)
      · have := l.new np
        rw [show List.replicate i ([] : List Nat) ++ [[]] = List.replicate (i + 1) [] by rw [List.replicate_succ']] at this
        exact this
    · rintro H1 ⟨qs, l⟩
      rw [ew] at l
      refine ⟨.ref a, rfl, a, _, _, _, rfl, rfl, l.s.tup ha, atI_nat (j := 1) rfl, c, rfl, ⟨_, l.s.tup hc⟩, ?_⟩
      refine for_tup (xs := ps) (fun k σ H' => (∃ y2 y3, σ = [some (.ref a), some (.ref D), y2, y3, none]) ∧ ∃ qs, LL H H' D qs ((List.range t.n).map (nb (t.ties.take k)))) ⟨⟨none, none, rfl⟩, qs, ?_⟩ (fun i σ H' hi ⟨_, _, l'⟩ => l'.s.tup hc) ?_ ?_
      · have e : (List.range t.n).map (nb (t.ties.take 0)) = List.replicate t.n [] := by
          rw [List.take_zero, List.eq_replicate_iff]
          refine ⟨by simp, fun b hb => ?_⟩
          obtain ⟨v, _, rfl⟩ := List.mem_map.mp hb
          rfl
        rw [e]
        exact l
      · rintro k x σ H' hx ⟨⟨y2, y3, rfl⟩, qs, l⟩
        obtain ⟨d, hd, hx2⟩ := hp.getV hx
        rw [List.getElem?_map] at hd
        cases ep : t.ties[k]? with
        | none => rw [ep] at hd; cases hd
        | some p =>
          rw [ep] at hd
          cases hd
          obtain ⟨at1, rfl, hpr⟩ := dp_pr.mp (dp_mono l.s hx2)
          obtain ⟨i, j⟩ := p
          have hb := O.inb (i, j) (List.mem_of_getElem? ep)
          simp only at hb hpr
          have l1 : LL H H' D qs ((List.range t.n).map (nb (t.ties.take k))) := l
          have lq : qs.length = t.n := by rw [l1.len]; simp
          obtain ⟨qi, hqi⟩ : ∃ q, qs[i]? = some q := ⟨_, List.getElem?_eq_getElem (show i < qs.length by omega)⟩
          obtain ⟨qj, hqj⟩ : ∃ q, qs[j]? = some q := ⟨_, List.getElem?_eq_getElem (show j < qs.length by omega)⟩
          have ci : ((List.range t.n).map (nb (t.ties.take k)))[i]? = some (nb (t.ties.take k) i) := by simp [show i < t.n by omega]
          have l2 := l1.app hqi ci j
          have cj : (((List.range t.n).map (nb (t.ties.take k))).set i (nb (t.ties.take k) i ++ [j]))[j]? = some (nb (t.ties.take k) j) := by
            rw [List.getElem?_set_ne (by omega)]
            simp [show j < t.n by omega]
          have l3 := l2.app hqj cj i
          rw [cs_step _ (by omega) (by omega) (by omega)] at l3
          have et : t.ties.take k ++ [(i, j)] = t.ties.take (k + 1) := by rw [List.take_add_one, ep]; rfl
          rw [et] at l3
          have z1 : (nb (t.ties.take k) i).length < sizeLine := szl (Nat.lt_of_le_of_lt (List.length_filterMap_le _ _) (by rw [List.length_take]; have := O.fewT; omega))
          have z2 : (nb (t.ties.take k) j).length < sizeLine := szl (Nat.lt_of_le_of_lt (List.length_filterMap_le _ _) (by rw [List.length_take]; have := O.fewT; omega))
          refine ⟨at1, _, rfl, hpr, rfl, _, _, rfl, _, _, rfl, rfl, ?_⟩
          refine ⟨_, rfl, _, rfl, D, _, _, .ref qi, rfl, rfl, .inl (.inl l1.d), atI_nat (j := i) (by rw [List.getElem?_map, hqi]; rfl), .inl ⟨rfl, _, .inl (.inl (l1.cat i qi _ hqi ci))⟩, _, rfl, qi, _, _, rfl, rfl, l1.cat i qi _ hqi ci, by rw [nV_len]; exact z1, ?_⟩
          refine ⟨_, rfl, _, rfl, D, _, _, .ref qj, rfl, rfl, .inl (.inl l2.d), atI_nat (j := j) (by rw [List.getElem?_map, hqj]; rfl), .inl ⟨rfl, _, .inl (.inl (l2.cat j qj _ hqj cj))⟩, _, rfl, qj, _, _, rfl, rfl, l2.cat j qj _ hqj cj, by rw [nV_len]; exact z2, ?_⟩
          exact ⟨⟨_, _, rfl⟩, qs, l3⟩
      · rintro σ H' ⟨⟨y2, y3, rfl⟩, qs, l⟩
        refine ⟨.ref D, rfl, q _ _ l.s ?_⟩
        have e := hp.length
        rw [List.length_map] at e
        rw [e, List.take_of_length_le (Nat.le_refl _)] at l
        exact l.dp hT

end
end Y
namespace Y
open PySem PySem.Spec PyProof.Rows L2
section
variable {P : Program} {w : World} {K : PySem.W.Frag} {mg : Str → Option Value} {base : Heap}
theorem ok_walk (T : Txt K mg) : FnOk P w K mg base CX0 2 T.a_walk T.fd_walk ["tree", "root"] (sp_walk K) := by
  refine T.F_walk.ok sc_walk (fun vs H Q E h => ?_) (fun cdv A outer s H vs Q E hr h => ?_)
  · obtain ⟨L, tv, t, r, rfl, _⟩ := h
    rfl
  · obtain ⟨L, tv, t, r, rfl, hT, Tt, dt, hrn, q⟩ := h
    have O := Tt.toOkt
    have few := O.few
    obtain ⟨par, dep, R⟩ := Tt.tree r hrn
    refine ⟨_, (pss_cons (ps_set (i := 2) sc_walk.nd rfl (Or.inl rfl) (pe_call (ok_neighbour_lists T) (hr.mono (by decide)) rfl T.g_neighbour_lists T.F_neighbour_lists.kp T.b_neighbour_lists .nil pass0 (pa_cons (pv 0) pa_nil)))
      (pss_cons (ps_set (i := 3) sc_walk.nd rfl (Or.inl rfl) (pe_lst (pa_cons (pe_tup (pa_cons (pv 1) (pa_cons (pe_un un_neg pe_int) pa_nil))) pa_nil)))
      (pss_cons (ps_set (i := 4) sc_walk.nd rfl (Or.inl rfl) pe_int)
      (pss_cons (ps_while PassesOwn.never (pt_cmpR op_lt (pv 4) (pe_callB (call_lenK K rfl) (by rfl) T.z_len PySem.boot_len (pa_cons (pv 3) pa_nil)) (nomark _))
        (pss_cons (ps_asg (pe_ix (ix_listK K rfl) (pv 3) (pv 4) (fun _ _ => rfl)) (pg_tupK K rfl (n := 2) rfl (pgs_cons (pg_name (i := 5) sc_walk.nd rfl (Or.inr rfl)) (pgs_cons (pg_name (i := 6) sc_walk.nd rfl (Or.inr rfl)) pgs_nil))))
        (pss_cons (ps_expr (pe_bmK K rfl PySem.F.plainAttrs_list PySem.F.slot_list_extend PySem.F.type_list_extend mt_extend (pv 3) (pa_cons (pe_lc (own := [("other", 7)]) rfl sc_walk.nd (pi_list (pe_ix (ix_listK K rfl) (pv 2) (pv 5) (fun _ _ => rfl))) (blkOk_by (own := [("other", 7)]) (N := ["tree", "root", "lists", "steps", "at", "place", "parent", "other"]) (sc := defScope s_walk) (by decide +kernel)) (fun _ _ _ _ _ => (pg_name (i := 7) sc_walk.nd rfl (Or.inl rfl))) (fun _ _ _ _ _ => pts_one (pt_cmpR op_ne (pv 7) (pv 6) (nomark _))) (fun _ _ _ _ _ => (pe_tup (pa_cons (pv 7) (pa_cons (pv 5) pa_nil))))) pa_nil)))
        (pss_one (ps_aug (i := 4) sc_walk.nd rfl (Or.inl rfl) pe_int ip_add)))))
      (pss_one (ps_ret (pv 3))))))), ?_⟩
    refine ⟨_, rfl, L, _, t, rfl, hT, O, dt, fun v H1 s1 d1 => ?_⟩
    obtain ⟨a, xs, rfl, hs, hl, hx⟩ := llD_get d1
    have hT1 := hT.mono s1
    refine ⟨_, rfl, 1, rfl, (by show 2 ≤ sizeLine; decide), fun e he => ⟨(by show 1 ≤ sizeLine; decide), fun st hst => ?_⟩⟩
    have s2 := same_new he (.tup [.int (r : Int), .int (-1)])
    have s3 := same_new hst (.lst [.ref e])
    have st1 : H1 st = none := s2.free hst
    have hT2 := hT1.mono s2
    obtain ⟨H3, hH3⟩ : ∃ H3, H3 = upd (upd H1 e (.tup [.int (r : Int), .int (-1)])) st (.lst [.ref e]) := ⟨_, rfl⟩
    have e3 : H3 st = some (.lst [.ref e]) := by rw [hH3]; exact upd_same
    have s13 : Same H1 H3 := by rw [hH3]; exact s2.trans s3
    have d3 : Dp K (wo H3 (st :: L)) (.ref e) (stepD r par r) := by
      have hT3 : Trk (upd H1 e (.tup [.int (r : Int), .int (-1)])) L := hT2
      rw [hH3, wo_upd_in (by simp), wo_fresh hst]
      have := tup_new (K := K) hT1 he (ys := [.int (r : Int), .int (-1)]) (ds := [.int (r : Int), .int (-1)]) (.cons (.int _) (.cons (.int _) .nil))
      unfold stepD
      rw [if_pos rfl]
      exact this
    rw [← hH3]
    refine ⟨fun μ σ H' => ∃ c y5 y6 S ys, σ = [some tv, some (.int (r : Int)), some (.ref a), some (.ref st), some (.int ((c : Nat) : Int)), y5, y6, none] ∧ WInv t.n r par S c ∧ μ = S.length - c + (t.n - S.length) ∧ Same H1 H' ∧ H' st = some (.lst ys) ∧ DpAll K (wo H' (st :: L)) ys (S.map (stepD r par)),
      ⟨_, 0, none, none, [r], [.ref e], rfl, WInv.start hrn, rfl, s13, e3, .cons d3 .nil⟩, ?_⟩
    rintro μ σ H' ⟨c, y5, y6, S, ys, rfl, W, eμ, s4, ey, ad⟩
    have ly : ys.length = S.length := by rw [ad.length, List.length_map]
    refine ⟨_, rfl, _, rfl, st, _, rfl, .inl (.inl (.inl ey)), _, _, rfl, rfl, _, rfl, ?_⟩
    refine ite2 (fun cd => ?_) (fun cd => ?_)
    · have cd := of_decide_eq_true cd
      have hc : c < S.length := by omega
      refine ⟨_, fun _ _ n => n, ?_⟩
      have fewS := W.few
      obtain ⟨p, hp⟩ : ∃ p, S[c]? = some p := ⟨_, List.getElem?_eq_getElem hc⟩
      have hpn := W.lt p (List.mem_of_getElem? hp)
      obtain ⟨x, hxc, hdx⟩ := ad.get (i := c) (d := stepD r par p) (by rw [List.getElem?_map, hp]; rfl)
      obtain ⟨g, gs, rfl, hg, hga⟩ := dp_tup hdx
      cases hga with
      | cons h1 hga =>
        cases hga with
        | cons h2 hga =>
          cases hga
          rw [dp_int h1, dp_int h2] at hg
          have hg' := (wo_le _ _).tup hg
          refine ⟨_, rfl, _, rfl, st, ys, _, .ref g, rfl, rfl, .inl (.inl ey), atI_nat hxc, g, _, rfl, hg', rfl, _, _, rfl, _, _, rfl, rfl, ?_⟩
          obtain ⟨qp, hqp, hqs⟩ := hx p _ (nbs_get hpn)
          have hqs' := s4.seq ((wo_le _ _).seq hqs)
          refine ⟨_, rfl, .inl ⟨rfl, _, .inl (.inl ey)⟩, _, rfl, _, rfl, a, xs, _, .ref qp, rfl, rfl, s4.seq ((wo_le _ _).seq hs), atI_nat hqp, qp, rfl, ⟨_, hqs'⟩, ?_⟩
          have hst' : Trk H' (st :: L) := (hT1.mono s4).cons (by rw [ey]; simp)
          refine lcw (K := K) walk_list (st :: L) (fun i => ((nb t.ties p)[i]?).bind fun (w : Nat) => if decide ((w : Int) ≠ if p = r then -1 else (par p : Int)) = true then some (.tuple [.int (w : Int), .int (p : Int)]) else none) (by rw [nV_len]; have := nb_le O p; omega) hst' (fun H2 s => s.seq hqs') ?_ ?_
          · rintro D i x H2 H3' R1 R0 hi s5 hT5 ⟨rfl, hx5⟩ hR hR0
            obtain ⟨w1, hw1, rfl⟩ := nV_get hx5
            refine ⟨rfl, _, rfl, _, rfl, rfl, _, rfl, ?_⟩
            by_cases ez : (w1 : Int) = if p = r then -1 else (par p : Int)
            · have e1 : decide (V.int (w1 : Int) = V.int (if p = r then -1 else (par p : Int))) = true := decide_eq_true (by rw [ez])
              rw [e1]
              refine iteF (hR0 _ ?_ (Same.refl _))
              rw [hw1]
              simp [ez]
            · have e1 : decide (V.int (w1 : Int) = V.int (if p = r then -1 else (par p : Int))) = false := decide_eq_false (fun q => ez (V.int.inj q))
              rw [e1]
              refine iteT ⟨_, rfl, _, rfl, (by show 2 ≤ sizeLine; decide), fun p6 hp6 => hR _ _ (.tuple [.int (w1 : Int), .int (p : Int)]) ?_ (same_new hp6 _) (tup_new hT5 hp6 (.cons (.int _) (.cons (.int _) .nil)))⟩
              rw [hw1]
              simp [ez]
          · intro D H2 zs hD s5 hz az
            have ek : (List.range (nV (nb t.ties p)).length).filterMap (fun i => ((nb t.ties p)[i]?).bind fun (w : Nat) => if decide ((w : Int) ≠ if p = r then -1 else (par p : Int)) = true then some (PyData.tuple [.int (w : Int), .int (p : Int)]) else none) = (kids t.ties r par p).map (stepD r par) := by
              rw [nV_len, range_bind_all, filterMap_if]
              refine List.map_congr_left fun w hw => ?_
              obtain ⟨_, h2, h3⟩ := (kids_mem R hpn w).mp hw
              unfold stepD
              rw [if_neg h2, h3]
            rw [ek] at az
            have ey5 := s5 _ _ ey
            have Dst : D ≠ st := fun e => by rw [e, ey] at hD; cases hD
            refine ⟨st, D, ys, zs, rfl, rfl, ey5, hz, sz (by have h1 := az.length; rw [List.length_map] at h1; have h2 := TM.nodup_le t.n _ (kids_nodup O r par p) fun x hx => ((kids_mem R hpn x).mp hx).1; omega), ?_⟩
            have W2 := W.turn hp (kids_nodup O r par p) (kids_mem R hpn)
            have few2 := W2.few
            rw [List.length_append] at few2
            refine ⟨_, rfl, _, _, rfl, rfl, _, ?_, c + 1, _, _, S ++ kids t.ties r par p, ys ++ zs, rfl, W2, rfl, same_mut (s4.trans s5) st1, upd_same, ?_⟩
            · rw [List.length_append]
              omega
            · rw [wo_upd_in (by simp), List.map_append]
              refine L2.DpAll.append (dpAll_mono (wo_mono s5) ad) (dpAll_mono wo_cons_le az)
    · have cd := of_decide_eq_false (Bool.eq_false_iff.mpr cd)
      have le := W.le
      have hc : c = S.length := by omega
      subst hc
      refine ⟨_, rfl, q par dep S R W.gr W.nd (W.all R) _ _ (s1.trans s4) ?_⟩
      refine .lst (.inl (.inl ?_)) (dpAll_mono wo_cons_le ad)
      rw [wo_out (hT1.fresh st1)]
      exact ey

end
end Y
namespace Y
open PySem PySem.Spec PyProof.Rows L2
section
variable {P : Program} {w : World} {K : PySem.W.Frag} {mg : Str → Option Value} {base : Heap}
theorem ok_ratio (T : Txt K mg) : FnOk P w K mg base CX0 1 T.a_ratio T.fd_ratio ["a", "b"] (sp_ratio K) := by
  refine T.F_ratio.ok sc_ratio (fun vs H Q E h => ?_) (fun cdv A outer s H vs Q E hr h => ?_)
  · obtain ⟨L, a, b, rfl, _⟩ := h
    rfl
  · obtain ⟨L, a, b, rfl, hT, hb, ha1, hb1, q⟩ := h
    unfold rt cm at q
    refine ⟨_, (pss_cons (ps_set (i := 2) sc_ratio.nd rfl (Or.inl rfl) (pe_callBfun cr_gcd (by rfl) T.m_gcd (pa_cons (pv 0) (pa_cons (pv 1) pa_nil))))
      (pss_cons (ps_if (pt_cmpR op_lt (pv 1) pe_int (nomark _))
        (pss_one (ps_set (i := 2) sc_ratio.nd rfl (Or.inl rfl) (pe_un un_neg (pv 2))))
        pss_nil)
      (pss_one (ps_ret (pe_tup (pa_cons (pe_op op_fdivB (pv 0) (pv 2)) (pa_cons (pe_op op_fdivB (pv 1) (pv 2)) pa_nil))))))), ?_⟩
    obtain ⟨g, hg⟩ : ∃ g : Nat, g = Nat.gcd a.natAbs b.natAbs := ⟨_, rfl⟩
    have gp : 0 < g := by rw [hg]; exact Nat.gcd_pos_of_pos_right _ (by omega)
    have g1 : g ≤ 2 ^ 2000 := by rw [hg]; exact Nat.le_trans (Nat.gcd_le_right _ (by omega)) hb1
    rw [← hg] at q
    refine ⟨_, rfl, _, rfl, _, _, rfl, ?_⟩
    rw [← hg]
    refine ⟨_, rfl, _, _, rfl, rfl, _, rfl, ?_⟩
    refine ite2 (fun c => ?_) (fun c => ?_)
    · have c := of_decide_eq_true c
      refine ⟨_, rfl, _, rfl, ?_⟩
      have n0 : -(g : Int) ≠ 0 := by omega
      have n1 : (-(g : Int)).natAbs ≤ 2 ^ 2000 := by omega
      refine ⟨_, rfl, _, rfl, _, _, rfl, rfl, divB (i := 0) n0 n1 (by decide), _, rfl, _, rfl, _, _, rfl, rfl, divB (i := 0) n0 n1 (by decide), (by show 2 ≤ sizeLine; decide), ?_⟩
      intro p hp
      rw [if_pos c] at q
      exact q _ _ (same_new hp _) (tup_new hT hp (.cons (.int _) (.cons (.int _) .nil)))
    · have c := of_decide_eq_false (Bool.eq_false_iff.mpr c)
      have n0 : (g : Int) ≠ 0 := by omega
      have n1 : (g : Int).natAbs ≤ 2 ^ 2000 := by omega
      refine ⟨_, rfl, _, rfl, _, _, rfl, rfl, divB (i := 0) n0 n1 (by decide), _, rfl, _, rfl, _, _, rfl, rfl, divB (i := 0) n0 n1 (by decide), (by show 2 ≤ sizeLine; decide), ?_⟩
      intro p hp
      rw [if_neg c] at q
      exact q _ _ (same_new hp _) (tup_new hT hp (.cons (.int _) (.cons (.int _) .nil)))

end
end Y
namespace Y
open PySem PySem.Spec PyProof.Rows L2
section
variable {P : Program} {w : World} {K : PySem.W.Frag} {mg : Str → Option Value} {base : Heap}
theorem ok_less_inverse (T : Txt K mg) : FnOk P w K mg base CX0 2 T.a_less_inverse T.fd_less_inverse ["one", "other"] (sp_less_inverse K) := by
  refine T.F_less_inverse.ok sc_less_inverse (fun vs H Q E h => ?_) (fun cdv A outer s H vs Q E hr h => ?_)
  · obtain ⟨L, pv, qv, p, q, rfl, _⟩ := h
    rfl
  · obtain ⟨L, pv, qv, ⟨a, b⟩, ⟨c, d⟩, rfl, hT, dp, dq, n0, b1, b2, b3, b4, q⟩ := h
    obtain ⟨pa, rfl, hpa⟩ := dp_ints (ns := [a, b]).mp dp
    obtain ⟨qa, rfl, hqa⟩ := dp_ints (ns := [c, d]).mp dq
    have hpa' := (wo_le _ _).tup hpa
    have hqa' := (wo_le _ _).tup hqa
    simp only at n0 b1 b2 b3 b4
    refine ⟨_, (pss_cons (ps_asg (pv 0) (pg_tupK K rfl (n := 2) rfl (pgs_cons (pg_name (i := 2) sc_less_inverse.nd rfl (Or.inl rfl)) (pgs_cons (pg_name (i := 3) sc_less_inverse.nd rfl (Or.inl rfl)) pgs_nil))))
      (pss_cons (ps_asg (pv 1) (pg_tupK K rfl (n := 2) rfl (pgs_cons (pg_name (i := 4) sc_less_inverse.nd rfl (Or.inl rfl)) (pgs_cons (pg_name (i := 5) sc_less_inverse.nd rfl (Or.inl rfl)) pgs_nil))))
      (pss_one (ps_ret (pe_call (ok_ratio T) (hr.mono (by decide)) rfl T.g_ratio T.F_ratio.kp T.b_ratio .nil pass0 (pa_cons (pe_op op_sub (pe_op op_mulB (pv 2) (pv 4)) (pe_op op_mulB (pv 3) (pv 5))) (pa_cons (pe_op op_mulB (pv 3) (pv 4)) pa_nil))))))), ?_⟩
    refine ⟨_, rfl, pa, _, rfl, hpa', rfl, _, _, rfl, _, _, rfl, rfl, ?_⟩
    refine ⟨_, rfl, qa, _, rfl, hqa', rfl, _, _, rfl, _, _, rfl, rfl, ?_⟩
    have m1 : (a * c).natAbs ≤ 2 ^ 1800 := MT.mul_le b1 b3
    have m2 : (b * d).natAbs ≤ 2 ^ 1800 := MT.mul_le b2 b4
    have m3 : (b * c).natAbs ≤ 2 ^ 1800 := MT.mul_le b2 b3
    have m4 : (a * c - b * d).natAbs ≤ 2 ^ 2000 := by
      have h1 : (2 : Nat) ^ 1800 + 2 ^ 1800 ≤ 2 ^ 2000 := by
        have : (2 : Nat) ^ 1801 ≤ 2 ^ 2000 := Nat.pow_le_pow_right (by omega) (by omega)
        have e : (2 : Nat) ^ 1801 = 2 ^ 1800 * 2 := by rw [show 1801 = 1800 + 1 from rfl, Nat.pow_succ]
        omega
      have h2 := Int.natAbs_sub_le (a * c) (b * d)
      omega
    refine ⟨_, rfl, _, rfl, _, _, rfl, rfl, mulB b1 b3 (by decide) (by decide), _, rfl, _, rfl, _, _, rfl, rfl, mulB b2 b4 (by decide) (by decide), _, _, rfl, rfl, _, rfl, _, rfl, _, _, rfl, rfl, mulB b2 b3 (by decide) (by decide), L, a * c - b * d, b * c, rfl, hT, n0, m4, Nat.le_trans m3 (Nat.pow_le_pow_right (by omega) (by omega)), ?_⟩
    exact q

end
end Y
namespace Y
open PySem PySem.Spec PyProof.Rows L2
section
variable {P : Program} {w : World} {K : PySem.W.Frag} {mg : Str → Option Value} {base : Heap}
theorem ok_signs (T : Txt K mg) : FnOk P w K mg base CX0 3 T.a_signs T.fd_signs ["tree"] (sp_signsE K) := by
  refine T.F_signs.ok sc_signs (fun vs H Q E h => ?_) (fun cdv A outer s H vs Q E hr h => ?_)
  · obtain ⟨L, tv, t, rfl, _⟩ := h
    rfl
  · obtain ⟨L, tv, t, rfl, hT, B, dt, q0, q1⟩ := h
    obtain ⟨a, b, c, ps, rfl, ha, hb, hc, hp⟩ := dp_tr.mp dt
    have few := B.few
    have hwl : t.ws.length = t.n := rfl
    have ha' := (wo_le _ _).tup ha
    have hb' := (wo_le _ _).tup hb
    refine ⟨_, (pss_cons (ps_if (pt_not (pt_truth (pe_ix (ix_tupK K rfl) (pv 0) pe_int (fun _ _ => rfl)) (by intro _; rfl)))
        (pss_one (ps_ret (pe_tup (pa_cons pe_int (pa_cons pe_int (pa_cons pe_int pa_nil))))))
        pss_nil)
      (pss_cons (ps_setLc (i := 1) (own := [("weight", 10)]) rfl sc_signs.nd rfl rfl (sw_true rfl rfl rfl (by decide +kernel)) (pi_tup (pe_ix (ix_tupK K rfl) (pv 0) pe_int (fun _ _ => rfl))) (blkOk_by (own := [("weight", 10)]) (N := ["tree", "numbers", "noughts", "above", "level", "below", "steps", "place", "parent", "worth", "weight"]) (sc := defScope s_signs) (by decide +kernel)) (fun _ _ _ _ _ => (pg_name (i := 10) sc_signs.nd rfl (Or.inl rfl))) (fun _ _ _ _ _ => pts_nil) (fun _ _ _ _ _ => (pe_tup (pa_cons (pv 10) (pa_cons pe_int pa_nil)))))
      (pss_cons (ps_set (i := 2) sc_signs.nd rfl (Or.inl rfl) (pe_op op_rep (pe_lst (pa_cons pe_int pa_nil)) (pe_callB (call_lenK K rfl) (by rfl) T.z_len PySem.boot_len (pa_cons (pv 1) pa_nil))))
      (pss_cons (ps_asg3 pe_int (pg_name (i := 3) sc_signs.nd rfl (Or.inl rfl)) (pg_name (i := 4) sc_signs.nd rfl (Or.inl rfl)) (pg_name (i := 5) sc_signs.nd rfl (Or.inl rfl)))
      (pss_cons (ps_set (i := 6) sc_signs.nd rfl (Or.inl rfl) (pe_call (ok_walk T) (hr.mono (by decide)) rfl T.g_walk T.F_walk.kp T.b_walk .nil pass0 (pa_cons (pv 0) (pa_cons pe_int pa_nil))))
      (pss_cons (ps_for PassesOwn.never rfl (pi_reversed (by rfl) T.z_reversed (pa_cons (pv 6) pa_nil)) (pg_tupK K rfl (n := 2) rfl (pgs_cons (pg_name (i := 7) sc_signs.nd rfl (Or.inl rfl)) (pgs_cons (pg_name (i := 8) sc_signs.nd rfl (Or.inl rfl)) pgs_nil)))
        (pss_cons (ps_if (pt_cmpR op_gt (pe_ix (ix_listK K rfl) (pv 2) (pv 7) (fun _ _ => rfl)) pe_int (nomark _))
          (pss_cons (ps_aug (i := 3) sc_signs.nd rfl (Or.inl rfl) pe_int ip_add)
          (pss_cons (ps_aug (i := 5) sc_signs.nd rfl (Or.inl rfl) pe_int ip_add)
          (pss_cons (ps_aug (i := 4) sc_signs.nd rfl (Or.inl rfl) (pe_op op_sub (pe_ix (ix_listK K rfl) (pv 2) (pv 7) (fun _ _ => rfl)) pe_int) ip_add)
          (pss_one ps_continue))))
          pss_nil)
        (pss_cons (ps_set (i := 9) sc_signs.nd rfl (Or.inl rfl) (pe_ix (ix_tupK K rfl) (pe_ix (ix_listK K rfl) (pv 1) (pv 7) (fun _ _ => rfl)) pe_int (fun _ _ => rfl)))
        (pss_cons (ps_if (pt_cmpR op_gt (pv 9) pe_int (nomark _))
          (pss_one (ps_aug (i := 3) sc_signs.nd rfl (Or.inl rfl) pe_int ip_add))
          (pss_one (ps_if (pt_cmpR op_lt (pv 9) pe_int (nomark _))
            (pss_one (ps_aug (i := 5) sc_signs.nd rfl (Or.inl rfl) pe_int ip_add))
            (pss_one (ps_if (pt_cmpR op_lt (pv 8) pe_int (nomark _))
              (pss_one (ps_aug (i := 4) sc_signs.nd rfl (Or.inl rfl) pe_int ip_add))
              (pss_one (ps_augS (pv 2) (pv 8) (get_listK K rfl) pe_int ip_add set_list)))))))
        (pss_one (ps_if (PW.pt (pw_and (pt_cmpR op_ne (pv 9) pe_int (nomark _)) (pw_and1 (pt_cmpR op_ge (pv 8) pe_int (nomark _)))))
          (pss_one (ps_asg (pe_call (ok_less_inverse T) (hr.mono (by decide)) rfl T.g_less_inverse T.F_less_inverse.kp T.b_less_inverse .nil pass0 (pa_cons (pe_ix (ix_listK K rfl) (pv 1) (pv 8) (fun _ _ => rfl)) (pa_cons (pe_ix (ix_listK K rfl) (pv 1) (pv 7) (fun _ _ => rfl)) pa_nil))) (pg_sub (pv 1) (pv 8) set_list)))
          pss_nil))))))
      (pss_one (ps_ret (pe_tup (pa_cons (pv 3) (pa_cons (pv 4) (pa_cons (pv 5) pa_nil)))))))))))), ?_⟩
    refine ⟨_, rfl, a, _, _, _, rfl, rfl, ha', atI_nat (j := 0) rfl, ?_⟩
    refine ⟨!(iV t.ws).isEmpty, .inr (.inl ⟨iV t.ws, hb', rfl⟩), ?_⟩
    have ew : (iV t.ws).isEmpty = t.ws.isEmpty := by unfold iV; cases t.ws <;> rfl
    rw [ew]
    refine ite2 (fun z => ?_) (fun z => ?_)
    · have z0 : t.n = 0 := by
        show t.ws.length = 0
        cases h : t.ws with
        | nil => rfl
        | cons x r => rw [h] at z; cases z
      exact ⟨(by show 3 ≤ sizeLine; decide), fun p hp => q0 z0 _ _ (same_new hp _) (tup_new hT hp (.cons (.int _) (.cons (.int _) (.cons (.int _) .nil))))⟩
    have hn : 0 < t.n := by
      show 0 < t.ws.length
      cases h : t.ws with
      | nil => rw [h] at z; exact absurd rfl z
      | cons x r => simp
    obtain ⟨par0, dep0, X, R0, hX0, q⟩ := q1 hn
    refine ⟨_, rfl, a, _, _, _, rfl, rfl, ha', atI_nat (j := 0) rfl, b, rfl, ⟨_, hb'⟩, ?_⟩
    refine lcw (K := K) walk_tup L (fun i => (t.ws[i]?).map fun w => ratD (w, 1)) (by rw [iV_len]; omega) hT (fun H' s => s.tup hb') ?_ ?_
    · rintro D i x H2 H3 R R0 hi s2 hT2 ⟨rfl, hx⟩ hR hR0
      obtain ⟨w1, hw1, rfl⟩ := iV_get hx
      exact ⟨rfl, _, rfl, (by show 2 ≤ sizeLine; decide), fun p hp => hR _ _ (ratD (w1, 1)) (by rw [hw1]; rfl) (same_new hp _) (tup_new hT2 hp (.cons (.int _) (.cons (.int _) .nil)))⟩
    · intro D H1 ys hD s1 hy ad
      have s0def : ∀ v, (MT.s0 t MT.none').1 v = -MT.wt t v ∧ (MT.s0 t MT.none').2 v = 1 := fun v => ⟨rfl, rfl⟩
      have ef : (List.range (iV t.ws).length).filterMap (fun i => (t.ws[i]?).map fun w => ratD (w, 1)) = (List.range t.n).map fun v => ratD (rt (-(MT.s0 t MT.none').1 v) ((MT.s0 t MT.none').2 v)) := by
        rw [iV_len]
        refine fm_some fun i hi => ?_
        have hi := List.mem_range.mp hi
        rw [w_at hi, (s0def i).1, (s0def i).2, Int.neg_neg, rt_one]
        rfl
      rw [ef] at ad
      have lys : ys.length = t.n := by rw [ad.length]; simp
      refine ⟨(by show 1 ≤ sizeLine; decide), fun e0 he0 => ?_⟩
      have hDe : D ≠ e0 := ne_of_none hy he0
      have hD2 : (upd H1 e0 (.lst [.int 0])) D = some (.lst ys) := by rw [upd_ne hDe]; exact hy
      refine ⟨_, rfl, D, _, rfl, .inl (.inl (.inl hD2)), e0, _, _, rfl, rfl, upd_same, by omega, by omega, (by rw [lys]; show 1 * (t.n : Int).toNat ≤ sizeLine; exact sz (by omega)), fun e hE => ?_⟩
      have eone : (List.replicate ((ys.length : Nat) : Int).toNat [V.int 0]).flatten = arr t.n fun _ => 0 := by
        rw [lys]
        unfold arr iV
        refine List.ext_getElem (by simp) fun i h1 h2 => ?_
        simp
      rw [eone]
      have hE1 : H1 e = none := (same_new he0 _).free hE
      have hE0 : H e = none := s1.free hE1
      obtain ⟨H3, hH3⟩ : ∃ H3, H3 = upd (upd H1 e0 (.lst [.int 0])) e (.lst (arr t.n fun _ => 0)) := ⟨_, rfl⟩
      rw [← hH3]
      have hDE : D ≠ e := ne_of_none hD2 hE
      have s13 : Same H1 H3 := by rw [hH3]; exact (same_new he0 _).trans (same_new hE _)
      have s3 : Same H H3 := s1.trans s13
      have d3 : H3 D = some (.lst ys) := s13 _ _ hy
      have e3 : H3 e = some (.lst (arr t.n fun _ => 0)) := by rw [hH3]; exact upd_same
      have hT3 : Trk H3 ([D, e] ++ L) := (((hT.mono s3).cons (p := e) (by rw [e3]; simp)).cons (p := D) (by rw [d3]; simp))
      have toW := wo_to (L := L) (M := [D, e]) s3 (by intro x hx; simp at hx; rcases hx with z | z <;> rw [z] <;> assumption)
      have ad3 : DpAll K (wo H3 ([D, e] ++ L)) ys ((List.range t.n).map fun v => ratD (rt (-(MT.s0 t MT.none').1 v) ((MT.s0 t MT.none').2 v))) := by
        have h1 : Same (wo H1 (D :: L)) (wo H3 (e :: D :: L)) := wo_to (L := D :: L) (M := [e]) s13 (by intro x hx; simp at hx; rw [hx]; exact hE1)
        exact dpAll_mono (h1.trans (wo_sub (by intro x hx; simp at hx ⊢; rcases hx with z | z | z <;> simp [z]))) ad
      refine ⟨_, rfl, [D, e] ++ L, _, t, 0, rfl, hT3, B.toTree, dp_mono toW dt, hn, fun par dep S R G nd hS v H4 s4 d4 => ?_⟩
      obtain ⟨st, xs, rfl, hst, hxs⟩ := dp_lst d4
      have lS : S.length = t.n := by rw [(MT.S_perm G hS).length_eq, List.length_range]
      have lx : xs.length = S.length := by rw [hxs.length, List.length_map]
      have hst4 := (wo_le _ _).seq hst
      refine ⟨_, rfl, st, xs, rfl, hst4, ?_⟩
      have hX := MT.sv_eq R0 R hX0
      obtain ⟨Z, hZ⟩ : ∃ Z : Nat → MT.WB, Z = fun i => MT.st t 0 par S X i := ⟨_, rfl⟩
      have bd := MT.sq_bd (sk := MT.skp X) G (MT.bd_start B hS lS MT.none')
      have val := MT.st_val B.toOkt R G hS hX
      have cAz := MT.acc_zero hS fun v => MT.cA (X v)
      have cBz := MT.acc_zero hS fun v => MT.cB (X v)
      have cLz := MT.acc_zero hS (MT.lev t 0 par X)
      have nzz : (arr t.n fun _ => 0) = arr t.n (MT.nzd t 0 par S X 0) := arr_congr fun u hu => (MT.nzd_zero R hS hu).symm
      have Dst : D ∉ L := fun m => hT D m hD
      have Est : e ∉ L := fun m => hT e m hE0
      refine for_it (walk_rev (K := K)) (fun i σ H' => (∃ y7 y8 y9, σ = [some (.ref a), some (.ref D), some (.ref e), some (.int (MT.acc t.n S (fun v => MT.cA (X v)) i)), some (.int (MT.acc t.n S (MT.lev t 0 par X) i)), some (.int (MT.acc t.n S (fun v => MT.cB (X v)) i)), some (.ref st), y7, y8, y9, none]) ∧ Same H H' ∧ (∃ rs, H' D = some (.lst rs) ∧ DpAll K (wo H' ([D, e] ++ L)) rs ((List.range t.n).map fun v => ratD (rt (-(Z i).1 v) ((Z i).2 v)))) ∧ H' e = some (.lst (arr t.n (MT.nzd t 0 par S X i))) ∧
        SqL K (wo H' ([D, e] ++ L)) st xs ∧ DpAll K (wo H' ([D, e] ++ L)) xs (S.map (stepD 0 par))) ⟨⟨none, none, none, by rw [cAz, cBz, cLz]; rfl⟩, s3.trans s4, ⟨ys, s4 _ _ d3, ?_⟩, by rw [← nzz]; exact s4 _ _ e3, hst, hxs⟩ (fun i σ H' _ z => (wo_le _ _).seq z.2.2.2.2.1) ?_ ?_
      · rw [hZ]
        exact dpAll_mono (wo_mono s4) ad3
      · rintro i x σ H5 H6 hi ⟨⟨y7, y8, y9, rfl⟩, s5, ⟨rs, d5, r5⟩, e5, q5, a5⟩ ⟨rfl, hx⟩
        rw [lx] at hi hx
        obtain ⟨dd, hdd, hx2⟩ := a5.getV hx
        rw [List.getElem?_map] at hdd
        obtain ⟨v, hv⟩ : ∃ v, S[S.length - 1 - i]? = some v := ⟨_, List.getElem?_eq_getElem (by omega)⟩
        rw [hv] at hdd
        cases hdd
        obtain ⟨gq, gs, rfl, hgq, hga⟩ := dp_tup hx2
        have hvS := List.mem_of_getElem? hv
        have hvn := (hS v).mp hvS
        obtain ⟨elast, nlast, nroot, eroot⟩ := MT.take_last G hi hv
        have bdi := bd i hi
        have vin : v ∈ S.take (S.length - i) := by rw [elast]; simp
        obtain ⟨bv1, bv2⟩ := bdi.at vin
        have lrs : rs.length = t.n := by rw [r5.length]; simp
        have Zi : Z i = MT.st t 0 par S X i := by rw [hZ]
        have Zi' : Z i = MT.sq (MT.skp X) 0 par S (MT.s0 t MT.none') i := by rw [hZ]; rfl
        rw [← Zi'] at bv1 bv2
        have Zs : Z (i + 1) = if MT.skp X v then Z i else MT.step MT.none' 0 par v (Z i) := by rw [hZ]; exact MT.sq_succ hv
        have nz0 : ∀ u, u < t.n → (Z i).2 u ≠ 0 := fun u hu => by rw [Zi]; exact (val i (by omega) u hu).1
        have Bv := nz0 v hvn
        have own : X v ≠ none → X v = some (MT.vl (Z i) v) := fun ne => by rw [Zi]; exact MT.st_own B.toOkt R G hS hX hi hv ne
        have eA := MT.acc_succ G hS (fun v => MT.cA (X v)) hi hv
        have eB := MT.acc_succ G hS (fun v => MT.cB (X v)) hi hv
        have eL := MT.acc_succ G hS (MT.lev t 0 par X) hi hv
        have nown : MT.nzd t 0 par S X i v = MT.nz t 0 par X v := MT.nzd_own B.toOkt R G hS hi hv
        obtain ⟨nn, nnone⟩ := MT.nz_none hX hvn
        have nsucc : ∀ u, u < t.n → MT.nzd t 0 par S X (i + 1) u = MT.nzd t 0 par S X i u + if v ≠ 0 ∧ par v = u then MT.zc X v else 0 := fun u hu => MT.nzd_succ B.toOkt R G hS hi hv hu
        have at' : ∀ u, u < t.n → ∃ pu, rs[u]? = some (.ref pu) ∧ SqT K H6 pu [.int (rt (-(Z i).1 u) ((Z i).2 u)).1, .int (rt (-(Z i).1 u) ((Z i).2 u)).2] ∧ Dp K (wo H6 ([D, e] ++ L)) (.ref pu) (ratD (rt (-(Z i).1 u) ((Z i).2 u))) := fun u hu => by
          obtain ⟨x, hx, hd⟩ := r5.get (i := u) (d := ratD (rt (-(Z i).1 u) ((Z i).2 u))) (by rw [List.getElem?_map, List.getElem?_range hu]; rfl)
          obtain ⟨pu, rfl, hpu⟩ := (dp_ints (ns := [(rt (-(Z i).1 u) ((Z i).2 u)).1, (rt (-(Z i).1 u) ((Z i).2 u)).2])).mp hd
          exact ⟨pu, hx, (wo_le _ _).tup hpu, hd⟩
        obtain ⟨pv, hpv, hpq, hpd⟩ := at' v hvn
        cases hga with
        | cons h1 hga =>
          cases hga with
          | cons h2 hga =>
            cases hga
            rw [dp_int h1, dp_int h2] at hgq
            have hgq' := (wo_le _ _).tup hgq
            refine ⟨gq, _, rfl, hgq', rfl, _, _, rfl, _, _, rfl, rfl, ?_⟩
            have keepN : MT.zc X v = 0 → arr t.n (MT.nzd t 0 par S X (i + 1)) = arr t.n (MT.nzd t 0 par S X i) := fun z => arr_congr fun u hu => by rw [nsucc u hu, z]; split <;> omega
            refine ⟨_, rfl, _, rfl, e, _, _, _, rfl, rfl, .inl (.inl e5), atI_nat (j := v) (arr_at hvn), _, _, rfl, rfl, _, rfl, ?_⟩
            by_cases xn : X v = none
            · have np := nnone.mpr xn
              refine iteT' (by simp; omega) ?_
              have c1 : MT.cA (X v) = 1 := by rw [xn]; rfl
              have c2 : MT.cB (X v) = 1 := by rw [xn]; rfl
              have c3 : MT.lev t 0 par X v = MT.nzd t 0 par S X i v - 1 := by rw [nown]; exact if_pos xn
              have c4 : MT.zc X v = 0 := by unfold MT.zc; rw [if_neg (by rw [xn]; simp)]
              have sk : MT.skp X v = true := decide_eq_true (.inl xn)
              refine ⟨_, rfl, _, _, rfl, rfl, ?_⟩
              refine ⟨_, rfl, _, _, rfl, rfl, ?_⟩
              refine ⟨_, rfl, _, rfl, _, rfl, e, _, _, _, rfl, rfl, .inl (.inl e5), atI_nat (j := v) (arr_at hvn), _, _, rfl, rfl, _, _, rfl, rfl, ?_⟩
              refine ⟨⟨_, _, _, by rw [eA, eB, eL, c1, c2, c3]; rfl⟩, s5, ⟨rs, d5, ?_⟩, by rw [keepN c4]; exact e5, q5, a5⟩
              rw [Zs, if_pos sk]
              exact r5
            have np : MT.nzd t 0 par S X i v = 0 := by
              have : ¬ 0 < MT.nz t 0 par X v := fun z => xn (nnone.mp z)
              omega
            refine iteF' (by simp; omega) ?_
            have xv := own xn
            obtain ⟨sg1, sg2, sg3⟩ := MT.rt_sg (a := -(Z i).1 v) Bv
            have evl : (((-(Z i).1 v : Int) : Rat) / ((Z i).2 v : Rat)) = MT.vl (Z i) v := rfl
            rw [evl] at sg1 sg2 sg3
            have lv0 : MT.lev t 0 par X v = if X v = some 0 ∧ v = 0 then 1 else 0 := if_neg xn
            refine ⟨_, rfl, _, rfl, D, _, _, _, rfl, rfl, .inl (.inl d5), atI_nat (j := v) hpv, pv, _, _, _, rfl, rfl, hpq, atI_nat (j := 0) rfl, ?_⟩
            by_cases xz : MT.vl (Z i) v = 0
            · have w0 := sg3.mpr xz
              have x0 : X v = some 0 := by rw [xv, xz]
              have c1 : MT.cA (X v) = 0 := by rw [x0]; rfl
              have c2 : MT.cB (X v) = 0 := by rw [x0]; rfl
              have c4 : MT.zc X v = 1 := if_pos x0
              have sk : MT.skp X v = true := decide_eq_true (.inr x0)
              refine ⟨_, rfl, _, _, rfl, rfl, _, rfl, iteF' (by simp; omega) ?_⟩
              refine ⟨_, rfl, _, _, rfl, rfl, _, rfl, iteF' (by simp; omega) ?_⟩
              refine ⟨_, rfl, _, _, rfl, rfl, _, rfl, ?_⟩
              by_cases ev : v = 0
              · refine iteT' (by rw [if_pos ev]; rfl) ?_
                have c3 : MT.lev t 0 par X v = 1 := by rw [lv0, if_pos ⟨x0, ev⟩]
                refine ⟨_, rfl, _, _, rfl, rfl, ?_⟩
                refine ⟨_, rfl, rfl, _, rfl, iteF' (by simp; omega) ?_⟩
                refine ⟨⟨_, _, _, by rw [eA, eB, eL, c1, c2, c3, Int.add_zero, Int.add_zero]; rfl⟩, s5, ⟨rs, d5, ?_⟩, ?_, q5, a5⟩
                · rw [Zs, if_pos sk]
                  exact r5
                · have : arr t.n (MT.nzd t 0 par S X (i + 1)) = arr t.n (MT.nzd t 0 par S X i) := arr_congr fun u hu => by rw [nsucc u hu, if_neg fun z => z.1 ev]; omega
                  rw [this]
                  exact e5
              · have hl : i + 1 < S.length := Nat.lt_of_le_of_ne hi fun z => ev (eroot z)
                obtain ⟨_, pin0⟩ := nroot hl
                have hpn := (hS (par v)).mp (List.mem_of_mem_take pin0)
                have c3 : MT.lev t 0 par X v = 0 := by rw [lv0, if_neg fun z => ev z.2]
                refine iteF' (by rw [if_neg ev]; simp) ?_
                rw [if_neg ev]
                refine ⟨_, rfl, _, rfl, e, _, par v, _, rfl, rfl, .inl (.inl e5), arr_at hpn, _, _, rfl, rfl, e, _, _, par v, rfl, rfl, e5, by rw [arr_len]; exact ixN_nat hpn, ?_⟩
                refine ⟨_, rfl, rfl, _, rfl, iteF' (by simp; omega) ?_⟩
                have hDE' : D ≠ e := hDE
                refine ⟨⟨_, _, _, by rw [eA, eB, eL, c1, c2, c3, Int.add_zero, Int.add_zero, Int.add_zero]; rfl⟩, same_mut s5 hE0, ⟨rs, by rw [upd_ne hDE]; exact d5, ?_⟩, ?_, ?_, ?_⟩
                · rw [Zs, if_pos sk, wo_upd_in (by simp)]
                  exact r5
                · rw [upd_same, arr_set]
                  have : arr t.n (MT.up (MT.nzd t 0 par S X i) (par v) (MT.nzd t 0 par S X i (par v) + 1)) = arr t.n (MT.nzd t 0 par S X (i + 1)) := arr_congr fun u hu => by
                    rw [nsucc u hu, c4]
                    by_cases eu : u = par v
                    · subst eu
                      rw [up_at, if_pos ⟨ev, rfl⟩]
                    · rw [up_ne _ _ eu, if_neg fun z => eu z.2.symm]; omega
                  rw [this]
                · rw [wo_upd_in (by simp)]; exact q5
                · rw [wo_upd_in (by simp)]; exact a5
            have sk : ¬ MT.skp X v = true := fun z => by
              rcases of_decide_eq_true z with z | z
              · exact xn z
              · rw [xv] at z
                exact xz (Option.some.inj z)
            have c4 : MT.zc X v = 0 := by
              refine if_neg fun z => xz ?_
              rw [xv] at z
              exact Option.some.inj z
            have c3 : MT.lev t 0 par X v = 0 := by
              rw [lv0, if_neg fun z => xz ?_]
              rw [xv] at z
              exact Option.some.inj z.1
            rw [if_neg sk] at Zs
            have hcs : (0 < (rt (-(Z i).1 v) ((Z i).2 v)).1 ∧ MT.cA (X v) = 1 ∧ MT.cB (X v) = 0) ∨ ((rt (-(Z i).1 v) ((Z i).2 v)).1 < 0 ∧ MT.cA (X v) = 0 ∧ MT.cB (X v) = 1) := by
              rw [xv]
              rcases MT.r_tri (MT.vl (Z i) v) with z | z | z
              · exact .inr ⟨sg1.mpr z, if_neg (by grind), if_pos z⟩
              · exact absurd z xz
              · exact .inl ⟨sg2.mpr z, if_pos z, if_neg (by grind)⟩
            have wnz : (rt (-(Z i).1 v) ((Z i).2 v)).1 ≠ 0 := by omega
            have Wv : (Z i).1 v ≠ 0 := fun z => wnz (sg3.mpr (by unfold MT.vl; rw [z]; grind))
            rcases hcs with ⟨wsg, c1, c2⟩ | ⟨wsg, c1, c2⟩
            all_goals (
              first
              | refine ⟨_, rfl, _, _, rfl, rfl, _, rfl, iteT' (by simp; omega) ?_⟩
              | (refine ⟨_, rfl, _, _, rfl, rfl, _, rfl, iteF' (by simp; omega) ?_⟩
                 refine ⟨_, rfl, _, _, rfl, rfl, _, rfl, iteT' (by simp; omega) ?_⟩)
              refine ⟨_, rfl, _, _, rfl, rfl, ?_⟩
              refine ⟨_, rfl, rfl, _, rfl, iteT' (by simp; omega) ?_⟩
              refine ⟨_, rfl, _, _, rfl, rfl, _, rfl, ?_⟩
              by_cases ev : v = 0
              · refine iteF' (by rw [if_pos ev]; rfl) ?_
                refine ⟨⟨_, _, _, by rw [eA, eB, eL, c1, c2, c3, Int.add_zero, Int.add_zero]; rfl⟩, s5, ⟨rs, d5, ?_⟩, by rw [keepN c4]; exact e5, q5, a5⟩
                rw [Zs]
                unfold MT.step
                rw [if_pos ev]
                exact r5
              · refine iteT' (by rw [if_neg ev]; simp) ?_
                rw [if_neg ev]
                have hl : i + 1 < S.length := Nat.lt_of_le_of_ne hi fun z => ev (eroot z)
                obtain ⟨_, pin0⟩ := nroot hl
                have pin : par v ∈ S.take (S.length - i) := by rw [elast]; simp [pin0]
                have hpn := (hS (par v)).mp (List.mem_of_mem_take pin)
                obtain ⟨bp1, bp2⟩ := bdi.at pin
                rw [← Zi'] at bp1 bp2
                have Bp := nz0 (par v) hpn
                obtain ⟨pp, hpp, hppq, hppd⟩ := at' (par v) hpn
                have neg : ∀ x : Int, (-x).natAbs = x.natAbs := Int.natAbs_neg
                obtain ⟨b1, b2⟩ := rt_le (a := -(Z i).1 (par v)) (b := (Z i).2 (par v)) Bp (c := 200) (by rw [neg]; exact bp1) bp2
                obtain ⟨b3, b4⟩ := rt_le (a := -(Z i).1 v) (b := (Z i).2 v) Bv (c := 200) (by rw [neg]; exact bv1) bv2
                have r1 := rt_ok (a := -(Z i).1 (par v)) (b := (Z i).2 (par v)) Bp
                have r2 := rt_ok (a := -(Z i).1 v) (b := (Z i).2 v) Bv
                have up9 : ∀ {x : Nat}, x ≤ 2 ^ 200 → x ≤ 2 ^ 900 := fun h => Nat.le_trans h (Nat.pow_le_pow_right (by omega) (by omega))
                have hT6 : Trk H6 ([D, e] ++ L) := (((hT.mono s5).cons (p := e) (by rw [e5]; simp)).cons (p := D) (by rw [d5]; simp))
                obtain ⟨p, hp⟩ : ∃ p, p = rt (-(Z i).1 (par v)) ((Z i).2 (par v)) := ⟨_, rfl⟩
                obtain ⟨u, hu⟩ : ∃ u, u = rt (-(Z i).1 v) ((Z i).2 v) := ⟨_, rfl⟩
                rw [← hp] at b1 b2 r1 hppd
                rw [← hu] at b3 b4 r2 hpd wnz
                have rp1 := r1.pos
                refine ⟨_, rfl, _, rfl, D, _, _, _, rfl, rfl, .inl (.inl d5), atI_nat (j := par v) hpp, _, rfl, _, rfl, D, _, _, _, rfl, rfl, .inl (.inl d5), atI_nat (j := v) hpv, [D, e] ++ L, _, _, p, u, rfl, hT6, hppd, hpd, Int.mul_ne_zero (by omega) wnz, up9 b1, up9 b2, up9 b3, up9 b4, fun nv H7 s7 d7 => ?_⟩
                refine ⟨_, rfl, _, rfl, D, _, _, par v, rfl, rfl, s7 _ _ d5, by rw [lrs]; exact ixN_nat hpn, ?_⟩
                have wu : wo (upd H7 D (.lst (rs.set (par v) nv))) ([D, e] ++ L) = wo H7 ([D, e] ++ L) := wo_upd_in (by simp)
                have s57 := s5.trans s7
                have e1 : (Z (i + 1)).1 = MT.up (Z i).1 (par v) ((Z i).1 (par v) * (Z i).1 v - (Z i).2 (par v) * (Z i).2 v) := by
                  rw [Zs]
                  unfold MT.step
                  rw [if_neg ev]
                  rfl
                have e2 : (Z (i + 1)).2 = MT.up (Z i).2 (par v) ((Z i).2 (par v) * (Z i).1 v) := by
                  rw [Zs]
                  unfold MT.step
                  rw [if_neg ev]
                have er : rt (p.1 * u.1 - p.2 * u.2) (p.2 * u.1) = rt (-((Z i).1 (par v) * (Z i).1 v - (Z i).2 (par v) * (Z i).2 v)) ((Z i).2 (par v) * (Z i).1 v) := by
                  obtain ⟨k, k1, k2⟩ := r1.ex
                  obtain ⟨l, l1, l2⟩ := r2.ex
                  refine rt_eq (Int.mul_ne_zero (by omega) wnz) (Int.mul_ne_zero Bp Wv) ?_
                  have w1 : (Z i).1 (par v) = -(p.1 * k) := by omega
                  have w2 : (Z i).1 v = -(u.1 * l) := by omega
                  rw [w1, w2, k2, l2]
                  grind
                refine ⟨⟨_, _, _, by rw [eA, eB, eL, c1, c2, c3, Int.add_zero, Int.add_zero]; rfl⟩, same_mut s57 hD, ⟨_, upd_same, ?_⟩, by rw [upd_ne hDE.symm, keepN c4]; exact s7 _ _ e5, by rw [wu]; exact (wo_mono s7).seq q5, by rw [wu]; exact dpAll_mono (wo_mono s7) a5⟩
                rw [wu]
                refine DpAll.of_get (by rw [List.length_set, lrs]; simp) fun x y d hy hd => ?_
                have hx : x < t.n := by
                  have := (List.getElem?_eq_some_iff.mp hy).1
                  rw [List.length_set, lrs] at this
                  exact this
                rw [List.getElem?_map, List.getElem?_range hx] at hd
                cases hd
                rw [e1, e2]
                by_cases ex : x = par v
                · subst ex
                  rw [List.getElem?_set, if_pos rfl, if_pos (by omega)] at hy
                  cases hy
                  dsimp only
                  rw [up_at, up_at, ← er]
                  exact d7
                · rw [List.getElem?_set, if_neg (Ne.symm ex)] at hy
                  dsimp only
                  rw [up_ne _ _ ex, up_ne _ _ ex]
                  obtain ⟨d, hd, hyd⟩ := r5.getV hy
                  rw [List.getElem?_map, List.getElem?_range hx] at hd
                  cases hd
                  exact dp_mono (wo_mono s7) hyd)
      · rintro σ H5 ⟨⟨y7, y8, y9, rfl⟩, s5, ⟨rs, d5, r5⟩, e5, q5, a5⟩
        rw [lx, MT.acc_end, MT.acc_end, MT.acc_end, MT.lev_sum B.toTree R hX]
        refine ⟨_, rfl, _, rfl, _, rfl, (by show 3 ≤ sizeLine; decide), fun p hp => ?_⟩
        exact q _ _ (s5.trans (same_new hp _)) (tup_new (hT.mono s5) hp (.cons (.int _) (.cons (.int _) (.cons (.int _) .nil))))

end
end Y
namespace Y
open PySem PySem.Spec PyProof.Rows L2
section
variable {P : Program} {w : World} {K : PySem.W.Frag} {mg : Str → Option Value} {base : Heap}
theorem ok_is_below (T : Txt K mg) : FnOk P w K mg base CX0 4 T.a_is_below T.fd_is_below ["tree"] (sp_is_belowE K) := by
  refine T.F_is_below.ok sc_is_below (fun vs H Q E h => ?_) (fun cdv A outer s H vs Q E hr h => ?_)
  · obtain ⟨L, tv, t, rfl, _⟩ := h
    rfl
  · obtain ⟨L, tv, t, rfl, hT, B, dt, q⟩ := h
    refine ⟨_, (pss_cons (ps_asg (pe_call (ok_signs T) (hr.mono (by decide)) rfl T.g_signs T.F_signs.kp T.b_signs .nil pass0 (pa_cons (pv 0) pa_nil)) (pg_tupK K rfl (n := 3) rfl (pgs_cons (pg_name (i := 1) sc_is_below.nd rfl (Or.inl rfl)) (pgs_cons (pg_name (i := 2) sc_is_below.nd rfl (Or.inl rfl)) (pgs_cons (pg_name (i := 3) sc_is_below.nd rfl (Or.inl rfl)) pgs_nil)))))
      (pss_one (ps_ret (pe_and (pe_cmpR op_eq (pv 1) pe_int (nomark _)) (pe_one (pe_cmpR op_eq (pv 2) pe_int (nomark _))))))), ?_⟩
    refine ⟨_, rfl, L, _, t, rfl, hT, B, dt, fun n0 v H1 s1 d1 => ?_, fun n0 => ?_⟩
    · obtain ⟨pa, rfl, hpa⟩ := (dp_ints (ns := [0, 0, 0])).mp d1
      refine ⟨pa, _, rfl, (wo_le _ _).tup hpa, rfl, _, _, rfl, _, _, rfl, _, _, rfl, rfl, ?_⟩
      refine ⟨_, rfl, rfl, true, rfl, iteT ?_⟩
      refine ⟨_, rfl, rfl, ?_⟩
      exact q _ _ s1 ⟨fun _ => MT.pos_nil B.toOkt n0, fun _ => rfl⟩
    obtain ⟨par, dep, R⟩ := B.tree 0 n0
    obtain ⟨X, hX⟩ := MT.sv_made R
    obtain ⟨D, N, hDN⟩ := MT.dn_made R (fun v => -MT.wt t v) (kids t.ties 0 par) fun v hv c hc => (kids_mem R hv c).mp hc
    have pn := MT.pos_neg B.toTree R hDN hX
    rw [← MT.neg_iff] at pn
    refine ⟨par, dep, X, R, hX, fun v H1 s1 d1 => ?_⟩
    obtain ⟨pa, rfl, hpa⟩ := (dp_ints (ns := [sgA t X, sgL t X, sgB t X])).mp d1
    refine ⟨pa, _, rfl, (wo_le _ _).tup hpa, rfl, _, _, rfl, _, _, rfl, _, _, rfl, rfl, ?_⟩
    by_cases z : sgA t X = 0
    · refine ⟨_, rfl, rfl, true, by simp [z], iteT ?_⟩
      refine ⟨_, rfl, rfl, ?_⟩
      refine q _ _ s1 ?_
      rw [pn]
      show _ ↔ sgA t X = 0 ∧ sgL t X = 0
      simp [z]
    · refine ⟨_, rfl, rfl, false, by simp [z], iteF ?_⟩
      refine q _ _ s1 ?_
      rw [pn]
      show _ ↔ sgA t X = 0 ∧ sgL t X = 0
      simp [z]

end
end Y
namespace Y
open PySem PySem.Spec PyProof.Rows L2
section
variable {P : Program} {w : World} {K : PySem.W.Frag} {mg : Str → Option Value} {base : Heap}
theorem ok_check_below (T : Txt K mg) : FnOk P w K mg base CX0 5 T.a_check_below T.fd_check_below ["tree"] (sp_check_below K) := by
  refine T.F_check_below.ok sc_check_below (fun vs H Q E h => ?_) (fun cdv A outer s H vs Q E hr h => ?_)
  · obtain ⟨L, tv, t, rfl, _⟩ := h
    rfl
  · obtain ⟨L, tv, t, rfl, hT, B, P0, dt, q⟩ := h
    refine ⟨_, (pss_one (ps_if (pt_not (pt_val (pe_call (ok_is_below T) (hr.mono (by decide)) rfl T.g_is_below T.F_is_below.kp T.b_is_below .nil pass0 (pa_cons (pv 0) pa_nil))))
        (pss_one ps_dead)
        pss_nil)), ?_⟩
    refine ⟨_, rfl, L, _, t, rfl, hT, B, dt, fun b H1 s1 hb => ?_⟩
    obtain rfl : b = true := hb.mpr P0
    exact ⟨true, rfl, iteF (q _ s1)⟩

end
end Y
namespace Y
open PySem PySem.Spec PyProof.Rows L2
section
variable {P : Program} {w : World} {K : PySem.W.Frag} {mg : Str → Option Value} {base : Heap}
theorem ok_row_of (T : Txt K mg) : FnOk P w K mg base CX0 1 T.a_row_of T.fd_row_of ["tree", "cycle"] (sp_row_of K) := by
  refine T.F_row_of.ok sc_row_of (fun vs H Q E h => ?_) (fun cdv A outer s H vs Q E hr h => ?_)
  · obtain ⟨L, tv, cv, t, xs, rfl, _⟩ := h
    rfl
  · obtain ⟨L, tv, cv, t, xs, rfl, hT, B, C, dt, dc, q⟩ := h
    obtain ⟨a, b, c, ps, rfl, ha, hb, hc, hp⟩ := dp_tr.mp dt
    obtain ⟨g, rfl, hg⟩ := dp_ints.mp dc
    have few := B.few
    have hwl : t.ws.length = t.n := rfl
    have hxl := C.1
    have ha' := (wo_le _ _).tup ha
    have hb' := (wo_le _ _).tup hb
    have hc' := (wo_le _ _).tup hc
    have hg' := (wo_le _ _).tup hg
    have e10 : (2 : Nat) ^ 10 = 1024 := by decide
    refine ⟨_, (pss_cons (ps_setLc (i := 2) (own := [("weight", 5), ("entry", 6)]) rfl sc_row_of.nd rfl rfl (sw_true rfl rfl rfl (by decide +kernel)) (RZ.pi_zipA (by rfl) T.z_zip (pa_cons (pe_ix (ix_tupK K rfl) (pv 0) pe_int (fun _ _ => rfl)) (pa_cons (pv 1) pa_nil))) (blkOk_by (own := [("weight", 5), ("entry", 6)]) (N := ["tree", "cycle", "row", "i", "j", "weight", "entry"]) (sc := defScope s_row_of) (by decide +kernel)) (fun _ _ _ _ _ => (pg_tupK K rfl (n := 2) rfl (pgs_cons (pg_name (i := 5) sc_row_of.nd rfl (Or.inl rfl)) (pgs_cons (pg_name (i := 6) sc_row_of.nd rfl (Or.inl rfl)) pgs_nil)))) (fun _ _ _ _ _ => pts_nil) (fun _ _ _ _ _ => (pe_op op_mulB (pv 5) (pv 6))))
      (pss_cons (ps_for PassesOwn.never rfl (pi_tup (pe_ix (ix_tupK K rfl) (pv 0) pe_int (fun _ _ => rfl))) (pg_tupK K rfl (n := 2) rfl (pgs_cons (pg_name (i := 3) sc_row_of.nd rfl (Or.inl rfl)) (pgs_cons (pg_name (i := 4) sc_row_of.nd rfl (Or.inl rfl)) pgs_nil)))
        (pss_cons (ps_augS (pv 2) (pv 3) (get_listK K rfl) (pe_ix (ix_tupK K rfl) (pv 1) (pv 4) (fun _ _ => rfl)) ip_add set_list)
        (pss_one (ps_augS (pv 2) (pv 4) (get_listK K rfl) (pe_ix (ix_tupK K rfl) (pv 1) (pv 3) (fun _ _ => rfl)) ip_add set_list))))
      (pss_one (ps_ret (pe_callTy (call_tupK K rfl) (by rfl) T.z_tuple (by decide +kernel) (pa_cons (pv 2) pa_nil)))))), ?_⟩
    refine ⟨_, rfl, a, _, _, _, rfl, rfl, ha', atI_nat (j := 0) rfl, _, rfl, b, g, iV t.ws, iV xs, rfl, .inr ⟨hb', hg', ?_⟩⟩
    refine lcw (K := K) (walk_zipT (n := t.n) (by rw [iV_len, iV_len]; omega)) L (fun i => if i < t.n then some (.int (MT.wt t i * en xs i)) else none) (by omega) hT (fun H' s => ⟨s.tup hb', s.tup hg'⟩) ?_ ?_
    · rintro D i x H2 H3 R R0 hi s2 hT2 ⟨U, x1, x2, rfl, hU, rfl, e1, e2⟩ hR hR0
      obtain ⟨w1, hw1, rfl⟩ := iV_get e1
      obtain ⟨w2, hw2, rfl⟩ := iV_get e2
      refine ⟨U, _, rfl, .inl (.inl upd_same), rfl, _, _, rfl, _, _, rfl, rfl, rfl, ?_⟩
      rw [← wt_at hw1, ← en_at hw2]
      refine ⟨_, rfl, _, rfl, _, _, rfl, rfl, mulB (B.wt i) (C.en i) (by decide) (by decide), hR _ _ (.int (MT.wt t i * en xs i)) (if_pos hi) (same_new hU _) (.int _)⟩
    · intro D H1 ys hD s1 hy ad
      have ef : (List.range t.n).filterMap (fun i => if i < t.n then some (PyData.int (MT.wt t i * en xs i)) else none) = iD ((List.range t.n).map fun i => MT.wt t i * en xs i) := by
        unfold iD
        rw [List.map_map]
        exact fm_some fun i hi => by rw [if_pos (List.mem_range.mp hi)]; rfl
      rw [ef] at ad
      have ey := dpAll_ints.mp ad
      subst ey
      have hD1 : H1 D = some (.lst (arr t.n fun v => MT.wt t v * en xs v + MT.sm (en xs) (nb (t.ties.take 0) v))) := by
        rw [List.take_zero]
        have : (fun v => MT.wt t v * en xs v + MT.sm (en xs) (nb [] v)) = fun v => MT.wt t v * en xs v := by
          funext v
          show _ + 0 = _
          omega
        rw [this]
        exact hy
      refine ⟨_, rfl, a, _, _, _, rfl, rfl, s1.tup ha', atI_nat (j := 1) rfl, c, rfl, ⟨ps, s1.tup hc'⟩, ?_⟩
      refine for_tup (xs := ps) (fun k σ H' => (∃ y3 y4, σ = [some (.ref a), some (.ref g), some (.ref D), y3, y4, none, none]) ∧ Same H H' ∧ H' D = some (.lst (arr t.n fun v => MT.wt t v * en xs v + MT.sm (en xs) (nb (t.ties.take k) v)))) ⟨⟨none, none, rfl⟩, s1, hD1⟩ (fun i σ H' hi z => z.2.1.tup hc') ?_ ?_
      · rintro k x σ H' hx ⟨⟨y3, y4, rfl⟩, s3, d3⟩
        obtain ⟨d, hd, hx2⟩ := hp.getV hx
        rw [List.getElem?_map] at hd
        cases ep : t.ties[k]? with
        | none => rw [ep] at hd; cases hd
        | some p =>
          rw [ep] at hd
          cases hd
          obtain ⟨at1, rfl, hpr⟩ := dp_pr.mp hx2
          obtain ⟨i, j⟩ := p
          have ib := B.inb (i, j) (List.mem_of_getElem? ep)
          simp only at ib hpr
          have hin : i < t.n := by omega
          refine ⟨at1, _, rfl, s3.tup ((wo_le _ _).tup hpr), rfl, _, _, rfl, _, _, rfl, rfl, ?_⟩
          refine ⟨_, rfl, _, rfl, D, _, i, _, rfl, rfl, .inl (.inl d3), arr_at hin, _, rfl, _, rfl, g, _, _, _, rfl, rfl, s3.tup hg', atI_nat (j := j) (iV_at (C.at ib.2)), _, _, rfl, rfl, D, _, _, i, rfl, rfl, d3, by rw [arr_len]; exact ixN_nat hin, ?_⟩
          rw [arr_set]
          have s4 := same_mut (o := .lst (arr t.n (MT.up (fun v => MT.wt t v * en xs v + MT.sm (en xs) (nb (t.ties.take k) v)) i (MT.wt t i * en xs i + MT.sm (en xs) (nb (t.ties.take k) i) + en xs j)))) s3 hD
          refine ⟨_, rfl, _, rfl, D, _, j, _, rfl, rfl, .inl (.inl upd_same), arr_at ib.2, _, rfl, _, rfl, g, _, _, _, rfl, rfl, s4.tup hg', atI_nat (j := i) (iV_at (C.at hin)), _, _, rfl, rfl, D, _, _, j, rfl, rfl, upd_same, by rw [arr_len]; exact ixN_nat ib.2, ?_⟩
          rw [arr_set, upd_upd]
          refine ⟨⟨_, _, rfl⟩, same_mut s3 hD, ?_⟩
          rw [upd_same]
          have et : t.ties.take (k + 1) = t.ties.take k ++ [(i, j)] := by rw [List.take_add_one, ep]; rfl
          rw [et]
          congr 3
          funext v
          rw [nb_snoc, MT.sm_app]
          unfold MT.up other
          have hij : i ≠ j := by omega
          by_cases h1 : v = j
          · subst h1
            simp [hij, hij.symm, MT.sm]
            omega
          · by_cases h2 : v = i
            · subst h2
              simp [h1, MT.sm]
              omega
            · simp [h1, h2, Ne.symm h1, Ne.symm h2, MT.sm]
      · rintro σ H' ⟨⟨y3, y4, rfl⟩, s3, d3⟩
        refine ⟨_, rfl, D, _, rfl, .inl ⟨.inl (.inl d3), fun l hl => ?_⟩⟩
        have el : ps.length = t.ties.length := by rw [hp.length, List.length_map]
        rw [el, List.take_length]
        refine q _ _ (s3.trans (same_new hl _)) (tup_new (hT.mono s3) hl ?_)
        exact dpAll_ints.mpr rfl

end
end Y
namespace Y
open PySem PySem.Spec PyProof.Rows L2
section
variable {P : Program} {w : World} {K : PySem.W.Frag} {mg : Str → Option Value} {base : Heap}
theorem ok_Climb___init (T : Txt K mg) : FnOk P w K mg base CX0 2 T.a_Climb___init T.fd_Climb___init ["self", "tree", "cycle"] (sp_Climb___init T.e_Climb K) := by
  refine T.F_Climb___init.ok sc_Climb___init (fun vs H Q E h => ?_) (fun cdv A outer s H vs Q E hr h => ?_)
  · obtain ⟨L, p, dx, tv, xv, t, xs, rfl, _⟩ := h
    rfl
  · obtain ⟨L, p, dx, tv, xv, t, xs, rfl, hp0, hpL, hT, B, C, dt, dxs, q⟩ := h
    obtain ⟨a, b, c, ps, rfl, ha, hb, hc, hp⟩ := dp_tr.mp dt
    obtain ⟨g, rfl, hg⟩ := dp_ints.mp dxs
    have few := B.few
    have hwl : t.ws.length = t.n := rfl
    have ha' := (wo_le _ _).tup ha
    have hb' := (wo_le _ _).tup hb
    have hg' := (wo_le _ _).tup hg
    refine ⟨_, (pss_cons (ps_fld (pv 0) (pe_ix (ix_tupK K rfl) (pv 1) pe_int (fun _ _ => rfl)) rfl)
      (pss_cons (ps_fld (pv 0) (pe_call (ok_neighbour_lists T) (hr.mono (by decide)) rfl T.g_neighbour_lists T.F_neighbour_lists.kp T.b_neighbour_lists .nil pass0 (pa_cons (pv 1) pa_nil)) rfl)
      (pss_cons (ps_fld (pv 0) (pe_callTy call_list_of (by rfl) T.z_list (by decide +kernel) (pa_cons (pv 2) pa_nil)) rfl)
      (pss_cons (ps_fld (pv 0) (pe_callTy call_list_of (by rfl) T.z_list (by decide +kernel) (pa_cons (pe_call (ok_row_of T) (hr.mono (by decide)) rfl T.g_row_of T.F_row_of.kp T.b_row_of .nil pass0 (pa_cons (pv 1) (pa_cons (pv 2) pa_nil))) pa_nil)) rfl)
      (pss_cons (ps_fld (pv 0) (pe_lst pa_nil) rfl)
      (pss_one (ps_fld (pv 0) (pe_lst pa_nil) rfl))))))), ?_⟩
    -- the weights
    refine ⟨_, rfl, a, _, _, .ref b, rfl, rfl, ha', atI_nat (j := 0) rfl, _, rfl, p, _, dx, _, rfl, hp0, T.cl_Climb, T.nf_Climb_weights, (by show 0 < 1000; decide), ?_⟩
    obtain ⟨H1, hH1⟩ : ∃ H1, H1 = upd H p (.ins T.e_Climb dx (putF "weights" (.ref b) [])) := ⟨_, rfl⟩
    have p1 : H1 p = some (.ins T.e_Climb dx (putF "weights" (.ref b) [])) := by rw [hH1]; exact upd_same
    have w1 : Same (wo H (p :: L)) (wo H1 (p :: L)) := by rw [hH1, wo_upd_in (by simp)]; exact Same.refl _
    have v1 : Same (wo H [p]) (wo H1 [p]) := by rw [hH1, wo_upd_in (by simp)]; exact Same.refl _
    have hT1 : Trk H1 (p :: L) := by rw [hH1]; exact hT.upd _ _
    rw [← hH1]
    -- the lists
    refine ⟨_, rfl, p :: L, _, t, rfl, hT1, B.toOkt, dp_mono w1 dt, fun lv H2 s2 d2 => ⟨_, rfl, p, _, dx, _, rfl, s2 _ _ p1, T.cl_Climb, T.nf_Climb_lists, (by show 1 < 1000; decide), ?_⟩⟩
    obtain ⟨H3, hH3⟩ : ∃ H3, H3 = upd H2 p (.ins T.e_Climb dx (putF "lists" lv (putF "weights" (.ref b) []))) := ⟨_, rfl⟩
    have p3 : H3 p = some (.ins T.e_Climb dx (putF "lists" lv (putF "weights" (.ref b) []))) := by rw [hH3]; exact upd_same
    have w3 : Same (wo H2 (p :: L)) (wo H3 (p :: L)) := by rw [hH3, wo_upd_in (by simp)]; exact Same.refl _
    have v3 : Same (wo H [p]) (wo H3 [p]) := v1.trans (by rw [hH3, wo_upd_in (by simp)]; exact wo_mono s2)
    have hT3 : Trk H3 (p :: L) := by rw [hH3]; exact (hT1.mono s2).upd _ _
    rw [← hH3]
    have W3 := w1.trans ((wo_mono (L := p :: L) s2).trans w3)
    -- the cycle
    refine ⟨_, rfl, g, _, rfl, .inr ((wo_le _ _).tup (W3.tup hg)), fun cy hcy => ⟨_, rfl, p, _, dx, _, rfl, (same_new hcy _) _ _ p3, T.cl_Climb, T.nf_Climb_cycle, (by show 2 < 1000; decide), ?_⟩⟩
    obtain ⟨H4, hH4⟩ : ∃ H4, H4 = upd H3 cy (.lst (iV xs)) := ⟨_, rfl⟩
    have c4 : H4 cy = some (.lst (iV xs)) := by rw [hH4]; exact upd_same
    have s4 : Same H3 H4 := by rw [hH4]; exact same_new hcy _
    have pcy : p ≠ cy := ne_of_none p3 hcy
    have cy0 : H cy = none := by
      cases z : H cy with
      | none => rfl
      | some o => exact absurd (Same4.at v3 z (by simp; exact pcy.symm)) (by rw [hcy]; simp)
    obtain ⟨H5, hH5⟩ : ∃ H5, H5 = upd H4 p (.ins T.e_Climb dx (putF "cycle" (.ref cy) (putF "lists" lv (putF "weights" (.ref b) [])))) := ⟨_, rfl⟩
    have p5 : H5 p = some (.ins T.e_Climb dx (putF "cycle" (.ref cy) (putF "lists" lv (putF "weights" (.ref b) [])))) := by rw [hH5]; exact upd_same
    have v5 : Same (wo H3 [p]) (wo H5 [p]) := by rw [hH5, wo_upd_in (by simp)]; exact wo_mono s4
    have c5 : H5 cy = some (.lst (iV xs)) := by rw [hH5, upd_ne pcy.symm]; exact c4
    have w5 : Same (wo H3 (p :: L)) (wo H5 (p :: L)) := by rw [hH5, wo_upd_in (by simp)]; exact wo_mono s4
    have hT5 : Trk H5 (p :: L) := by rw [hH5]; exact (hT3.mono s4).upd _ _
    rw [← hH4, ← hH5]
    have W5 := W3.trans w5
    -- the row
    refine ⟨_, rfl, _, rfl, p :: L, _, _, t, xs, rfl, hT5, B, C, dp_mono W5 dt, dp_mono W5 dxs, fun rv H6 s6 d6 => ?_⟩
    obtain ⟨r6, rfl, hr6⟩ := dp_ints.mp d6
    refine ⟨r6, _, rfl, .inr ((wo_le _ _).tup hr6), fun rw hrw => ⟨_, rfl, p, _, dx, _, rfl, (same_new hrw _) _ _ (s6 _ _ p5), T.cl_Climb, T.nf_Climb_row, (by show 3 < 1000; decide), ?_⟩⟩
    obtain ⟨H7, hH7⟩ : ∃ H7, H7 = upd H6 rw (.lst (iV (rowL t xs))) := ⟨_, rfl⟩
    have r7 : H7 rw = some (.lst (iV (rowL t xs))) := by rw [hH7]; exact upd_same
    have s7 : Same H6 H7 := by rw [hH7]; exact same_new hrw _
    have prw : p ≠ rw := ne_of_none (s6 _ _ p5) hrw
    have crw : cy ≠ rw := ne_of_none (s6 _ _ c5) hrw
    obtain ⟨H8, hH8⟩ : ∃ H8, H8 = upd H7 p (.ins T.e_Climb dx (putF "row" (.ref rw) (putF "cycle" (.ref cy) (putF "lists" lv (putF "weights" (.ref b) []))))) := ⟨_, rfl⟩
    have p8 : H8 p = some (.ins T.e_Climb dx (putF "row" (.ref rw) (putF "cycle" (.ref cy) (putF "lists" lv (putF "weights" (.ref b) []))))) := by rw [hH8]; exact upd_same
    have v8 : Same (wo H5 [p]) (wo H8 [p]) := by rw [hH8, wo_upd_in (by simp)]; exact wo_mono (s6.trans s7)
    have r8 : H8 rw = some (.lst (iV (rowL t xs))) := by rw [hH8, upd_ne prw.symm]; exact r7
    have rw0 : H rw = none := by
      cases z : H rw with
      | none => rfl
      | some o => exact absurd (s6 _ _ (Same4.at (v3.trans v5) z (by simp; exact prw.symm))) (by rw [hrw]; simp)
    rw [← hH7, ← hH8]
    -- the places
    refine ⟨(by show 0 ≤ sizeLine; decide), fun pl hpl => ⟨_, rfl, p, _, dx, _, rfl, (same_new hpl _) _ _ p8, T.cl_Climb, T.nf_Climb_places, (by show 4 < 1000; decide), ?_⟩⟩
    have ppl : p ≠ pl := ne_of_none p8 hpl
    have s9 := same_new hpl (.lst [])
    obtain ⟨H10, hH10⟩ : ∃ H10, H10 = upd (upd H8 pl (.lst [])) p (.ins T.e_Climb dx (putF "places" (.ref pl) (putF "row" (.ref rw) (putF "cycle" (.ref cy) (putF "lists" lv (putF "weights" (.ref b) [])))))) := ⟨_, rfl⟩
    have p10 : H10 p = some (.ins T.e_Climb dx (putF "places" (.ref pl) (putF "row" (.ref rw) (putF "cycle" (.ref cy) (putF "lists" lv (putF "weights" (.ref b) [])))))) := by rw [hH10]; exact upd_same
    have v10 : Same (wo H8 [p]) (wo H10 [p]) := by rw [hH10, wo_upd_in (by simp)]; exact wo_mono s9
    have l10 : H10 pl = some (.lst []) := by rw [hH10, upd_ne ppl.symm]; exact upd_same
    have pl0 : H pl = none := by
      cases z : H pl with
      | none => rfl
      | some o => exact absurd (Same4.at ((v3.trans v5).trans v8) z (by simp; exact ppl.symm)) (by rw [hpl]; simp)
    rw [← hH10]
    -- what was met
    refine ⟨(by show 0 ≤ sizeLine; decide), fun me hme => ⟨_, rfl, p, _, dx, _, rfl, (same_new hme _) _ _ p10, T.cl_Climb, T.nf_Climb_met, (by show 5 < 1000; decide), ?_⟩⟩
    have pme : p ≠ me := ne_of_none p10 hme
    have s11 := same_new hme (.lst [])
    obtain ⟨H12, hH12⟩ : ∃ H12, H12 = upd (upd H10 me (.lst [])) p (.ins T.e_Climb dx (cFl (.ref b) lv cy rw pl me)) := ⟨_, rfl⟩
    have p12 : H12 p = some (.ins T.e_Climb dx (cFl (.ref b) lv cy rw pl me)) := by rw [hH12]; exact upd_same
    have v12 : Same (wo H10 [p]) (wo H12 [p]) := by rw [hH12, wo_upd_in (by simp)]; exact wo_mono s11
    have m12 : H12 me = some (.lst []) := by rw [hH12, upd_ne pme.symm]; exact upd_same
    have me0 : H me = none := by
      cases z : H me with
      | none => rfl
      | some o => exact absurd (Same4.at (((v3.trans v5).trans v8).trans v10) z (by simp; exact pme.symm)) (by rw [hme]; simp)
    show Q V.non (upd (upd H10 me (.lst [])) p (.ins T.e_Climb dx (cFl (.ref b) lv cy rw pl me)))
    rw [← hH12]
    have ex : arr t.n (en xs) = iV xs := by
      unfold arr
      congr 1
      refine List.ext_getElem (by simp; exact C.1.symm) fun i h1 h2 => ?_
      simp
      unfold en
      rw [List.getD_eq_getElem?_getD, List.getElem?_eq_getElem h2]
      rfl
    have er : arr t.n (MT.rowE t (en xs)) = iV (rowL t xs) := rfl
    have nm : ∀ {a : Addr} {H' : Hp} {o : HO}, H' a = some o → p ≠ a → H' a = some o := fun h _ => h
    have c12 : H12 cy = some (.lst (iV xs)) := Same4.at ((v8.trans v10).trans v12) c5 (by simp; exact pcy.symm)
    have r12 : H12 rw = some (.lst (iV (rowL t xs))) := Same4.at (v10.trans v12) r8 (by simp; exact prw.symm)
    have l12 : H12 pl = some (.lst []) := Same4.at v12 l10 (by simp; exact ppl.symm)
    have cypl : cy ≠ pl := fun e => by rw [← e, Same4.at v8 c5 (by simp; exact pcy.symm)] at hpl; cases hpl
    have rwpl : rw ≠ pl := fun e => by rw [← e, r8] at hpl; cases hpl
    have cyme : cy ≠ me := fun e => by rw [← e, Same4.at (v8.trans v10) c5 (by simp; exact pcy.symm)] at hme; cases hme
    have rwme : rw ≠ me := fun e => by rw [← e, Same4.at v10 r8 (by simp; exact prw.symm)] at hme; cases hme
    have plme : pl ≠ me := fun e => by rw [← e, l10] at hme; cases hme
    have VV : Same (wo H [p]) (wo H12 [p]) := (((v3.trans v5).trans v8).trans v10).trans v12
    have V3 : Same (wo H3 [p]) (wo H12 [p]) := ((v5.trans v8).trans v10).trans v12
    have big : Same (wo H (p :: L)) (wo H12 ([cy, rw, pl, me] ++ L)) := fun z o hz => by
      obtain ⟨m1, m2⟩ := wo_some hz
      rw [wo_out]
      · exact Same4.at VV m2 (by simp at m1 ⊢; exact m1.1)
      · intro m
        simp only [List.cons_append, List.nil_append, List.mem_cons] at m m1
        rcases m with m | m | m | m | m
        · rw [m, cy0] at m2; cases m2
        · rw [m, rw0] at m2; cases m2
        · rw [m, pl0] at m2; cases m2
        · rw [m, me0] at m2; cases m2
        · exact m1 (.inr m)
    have big3 : Same (wo H3 (p :: L)) (wo H12 ([cy, rw, pl, me] ++ L)) := fun z o hz => by
      obtain ⟨m1, m2⟩ := wo_some hz
      have zp : z ≠ p := fun e => m1 (by rw [e]; simp)
      rw [wo_out]
      · exact Same4.at V3 m2 (by simp; exact zp)
      · intro m
        simp only [List.cons_append, List.nil_append, List.mem_cons] at m m1
        rcases m with m | m | m | m | m
        · rw [m, hcy] at m2; cases m2
        · have := s6 _ _ (Same4.at v5 m2 (by simp; exact zp)); rw [m, hrw] at this; cases this
        · have := Same4.at (v5.trans v8) m2 (by simp; exact zp); rw [m, hpl] at this; cases this
        · have := Same4.at ((v5.trans v8).trans v10) m2 (by simp; exact zp); rw [m, hme] at this; cases this
        · exact m1 (.inr m)
    refine q cy rw pl me b lv _ VV cy0 rw0 pl0 me0 ⟨⟨dx, p12⟩, by rw [ex]; exact c12, by rw [er]; exact r12, l12, m12, ?_, big.tup hb, dp_mono big3 (dp_mono w3 d2)⟩
    simp [crw, cypl, cyme, rwpl, rwme, plme]

end
end Y
namespace Y
open PySem PySem.Spec PyProof.Rows L2
section
variable {P : Program} {w : World} {K : PySem.W.Frag} {mg : Str → Option Value} {base : Heap}
theorem ok_Climb_least_step (T : Txt K mg) : FnOk P w K mg base CX0 1 T.a_Climb_least_step T.fd_Climb_least_step ["self", "barred"] (sp_Climb_least_step T.e_Climb K) := by
  refine T.F_Climb_least_step.ok sc_Climb_least_step (fun vs H Q E h => ?_) (fun cdv A outer s H vs Q E hr h => ?_)
  · obtain ⟨L, t, p, cy, rw, pl, me, wa, lv, x, ps, ms, bar, rfl, _⟩ := h
    rfl
  · obtain ⟨L, t, p, cy, rw, pl, me, wa, lv, x, ps, ms, bar, rfl, B, O, q⟩ := h
    have few := B.few
    obtain ⟨dx, hob⟩ := O.ob
    refine ⟨_, (pss_cons (ps_for PassesOwn.never rfl (pi_enum (by rfl) T.z_enumerate (pa_cons (pe_fld (pv 0) rfl) pa_nil)) (pg_tupK K rfl (n := 2) rfl (pgs_cons (pg_name (i := 2) sc_Climb_least_step.nd rfl (Or.inl rfl)) (pgs_cons (pg_name (i := 3) sc_Climb_least_step.nd rfl (Or.inl rfl)) pgs_nil)))
        (pss_one (ps_if (PW.pt (pw_and (pt_cmpR op_gt (pv 3) pe_int (nomark _)) (pw_and1 (pt_cmpR op_ne (pv 2) (pv 1) (nomark _)))))
          (pss_one (ps_ret (pv 2)))
          pss_nil)))
      (pss_one (ps_ret (pe_un un_neg pe_int)))), ?_⟩
    refine ⟨_, rfl, p, _, dx, _, _, rfl, hob, T.cl_Climb, T.nf_Climb_row, lk_row, rw, _, rfl, .inl (.inl O.r), ?_⟩
    refine for_it (walk_enum (K := K)) (fun i σ H' => (∃ y2 y3, σ = [some (.ref p), some (.int bar), y2, y3]) ∧ Same H H' ∧ ∀ u : Nat, u < i → (u : Int) ≠ bar → MT.rowE t x u ≤ 0) ⟨⟨none, none, rfl⟩, Same.refl _, fun u h => absurd h (Nat.not_lt_zero u)⟩ (fun i σ H' _ z => z.2.1.seq (.inl (.inl O.r))) ?_ ?_
    · rintro i y σ H2 H2' hi ⟨⟨y2, y3, rfl⟩, s2, inv⟩ ⟨U, p1, p2, rfl, hU, rfl, ex, ey⟩
      rw [arr_len] at hi
      cases ex
      have ey : (arr t.n (MT.rowE t x))[i]? = some p2 := ey
      rw [arr_at hi] at ey
      cases ey
      have sU := same_new hU (.tup [.int (i : Int), .int (MT.rowE t x i)])
      refine ⟨U, _, rfl, .inl (.inl upd_same), rfl, _, _, rfl, _, _, rfl, rfl, ?_⟩
      refine ⟨_, rfl, _, _, rfl, rfl, _, rfl, ?_⟩
      by_cases pos : 0 < MT.rowE t x i
      · refine iteT' (decide_eq_true pos) ⟨_, rfl, _, rfl, rfl, _, rfl, ?_⟩
        by_cases e : (i : Int) = bar
        · refine iteF' (by simp [e]) ⟨⟨_, _, rfl⟩, s2.trans sU, fun u hu ne => ?_⟩
          by_cases z : u = i
          · rw [z] at ne; exact absurd e ne
          · exact inv u (by omega) ne
        · refine iteT' (by simp [e]) ⟨_, rfl, q _ _ (s2.trans sU) (.inr ⟨i, hi, rfl, pos, e, inv⟩)⟩
      · refine iteF' (decide_eq_false pos) ⟨⟨_, _, rfl⟩, s2.trans sU, fun u hu ne => ?_⟩
        by_cases z : u = i
        · rw [z]; omega
        · exact inv u (by omega) ne
    · rintro σ H2 ⟨⟨y2, y3, rfl⟩, s2, inv⟩
      rw [arr_len] at inv
      exact ⟨_, rfl, q _ _ s2 (.inl ⟨rfl, inv⟩)⟩

end
end Y
namespace Y
open PySem PySem.Spec PyProof.Rows L2
section
variable {P : Program} {w : World} {K : PySem.W.Frag} {mg : Str → Option Value} {base : Heap}
theorem ok_Climb_raise_at (T : Txt K mg) : FnOk P w K mg base CX0 1 T.a_Climb_raise_at T.fd_Climb_raise_at ["self", "place"] (sp_Climb_raise_at T.e_Climb K) := by
  refine T.F_Climb_raise_at.ok sc_Climb_raise_at (fun vs H Q E h => ?_) (fun cdv A outer s H vs Q E hr h => ?_)
  · obtain ⟨L, t, p, cy, rw, pl, me, wa, lv, x, ps, ms, v, rfl, _⟩ := h
    rfl
  · obtain ⟨L, t, p, cy, rw, pl, me, wa, lv, x, ps, ms, v, rfl, B, O, hv, q⟩ := h
    have few := B.few
    obtain ⟨dx, hob⟩ := O.ob
    obtain ⟨n1, n2, n3, n4, n5, n6⟩ := O.ne
    have pn := O.np
    have pc : p ≠ cy := fun e => pn (by rw [e]; simp)
    have pr' : p ≠ rw := fun e => pn (by rw [e]; simp)
    obtain ⟨na, xs, rfl, hna, hnl, hnx⟩ := llD_get O.ls
    have hw := (wo_le _ _).tup O.w
    refine ⟨_, (pss_cons (ps_set (i := 2) sc_Climb_raise_at.nd rfl (Or.inl rfl) (pe_ix (ix_listK K rfl) (pe_fld (pv 0) rfl) (pv 1) (fun _ _ => rfl)))
      (pss_cons (ps_augS (pe_fld (pv 0) rfl) (pv 1) (get_listK K rfl) pe_int ip_add set_list)
      (pss_cons (ps_augS (pe_fld (pv 0) rfl) (pv 1) (get_listK K rfl) (pe_ix (ix_tupK K rfl) (pe_fld (pv 0) rfl) (pv 1) (fun _ _ => rfl)) ip_add set_list)
      (pss_cons (ps_for PassesOwn.never rfl (pi_list (pe_ix (ix_listK K rfl) (pe_fld (pv 0) rfl) (pv 1) (fun _ _ => rfl))) (pg_name (i := 3) sc_Climb_raise_at.nd rfl (Or.inl rfl))
        (pss_one (ps_augS (pe_fld (pv 0) rfl) (pv 3) (get_listK K rfl) pe_int ip_add set_list)))
      (pss_one (ps_ret (pv 2))))))), ?_⟩
    refine ⟨_, rfl, p, _, dx, _, _, rfl, hob, T.cl_Climb, T.nf_Climb_row, lk_row, _, rfl, rw, _, _, _, rfl, rfl, .inl (.inl O.r), atI_nat (j := v) (arr_at hv), ?_⟩
    refine ⟨_, rfl, p, _, dx, _, _, rfl, hob, T.cl_Climb, T.nf_Climb_cycle, lk_cycle, _, rfl, cy, _, v, _, rfl, rfl, .inl (.inl O.c), arr_at hv, _, _, rfl, rfl, cy, _, _, v, rfl, rfl, O.c, by rw [arr_len]; exact ixN_nat hv, ?_⟩
    rw [arr_set]
    obtain ⟨H1, hH1⟩ : ∃ H1, H1 = upd H cy (.lst (arr t.n (MT.up x v (x v + 1)))) := ⟨_, rfl⟩
    have c1 : H1 cy = some (.lst (arr t.n (MT.up x v (x v + 1)))) := by rw [hH1]; exact upd_same
    have r1 : H1 rw = some (.lst (arr t.n (MT.rowE t x))) := by rw [hH1, upd_ne n1.symm]; exact O.r
    have o1 := hob
    rw [show H p = H1 p by rw [hH1, upd_ne pc]] at o1
    have s1 : SameC cy rw pl me H H1 := by rw [hH1]; exact sameC_upd _ (by simp)
    rw [← hH1]
    have toX : ∀ {H' : Hp}, SameC cy rw pl me H H' → Same (wo H ([cy, rw, pl, me] ++ L)) (wo H' ([cy, rw, pl, me] ++ L)) := fun s => wo_more s fun a m => List.mem_append_left _ m
    refine ⟨_, rfl, p, _, dx, _, _, rfl, o1, T.cl_Climb, T.nf_Climb_row, lk_row, _, rfl, rw, _, v, _, rfl, rfl, .inl (.inl r1), arr_at hv, _, rfl, p, _, dx, _, _, rfl, o1, T.cl_Climb, T.nf_Climb_weights, lk_weights, _, rfl, wa, _, _, _, rfl, rfl, (wo_le _ _).tup ((toX s1).tup O.w), atI_nat (j := v) (iV_at (w_at hv)), _, _, rfl, rfl, rw, _, _, v, rfl, rfl, r1, by rw [arr_len]; exact ixN_nat hv, ?_⟩
    rw [arr_set]
    obtain ⟨f0, hf0⟩ : ∃ f0, f0 = MT.up (MT.rowE t x) v (MT.rowE t x v + MT.wt t v) := ⟨_, rfl⟩
    obtain ⟨H2, hH2⟩ : ∃ H2, H2 = upd H1 rw (.lst (arr t.n f0)) := ⟨_, rfl⟩
    have s2 : SameC cy rw pl me H H2 := s1.trans (by rw [hH2]; exact sameC_upd _ (by simp))
    have r2 : H2 rw = some (.lst (arr t.n f0)) := by rw [hH2]; exact upd_same
    have c2 : H2 cy = some (.lst (arr t.n (MT.up x v (x v + 1)))) := by rw [hH2, upd_ne n1]; exact c1
    have l2 : H2 pl = some (.lst (nV ps)) := by rw [hH2, hH1, upd_ne n4.symm, upd_ne n2.symm]; exact O.l
    have e2 : H2 me = some (.lst (iV ms)) := by rw [hH2, hH1, upd_ne n5.symm, upd_ne n3.symm]; exact O.e
    rw [← hf0, ← hH2]
    obtain ⟨qv, hqv, hqs⟩ := hnx v _ (nbs_get hv)
    have hna2 := (wo_le _ _).seq ((toX s2).seq hna)
    have hqs2 := fun {H' : Hp} (s : SameC cy rw pl me H H') => (wo_le _ _).seq ((toX s).seq hqs)
    have o2 := Same4.at s2 hob pn
    refine ⟨_, rfl, p, _, dx, _, _, rfl, o2, T.cl_Climb, T.nf_Climb_lists, lk_lists, _, rfl, na, xs, _, .ref qv, rfl, rfl, hna2, atI_nat hqv, qv, rfl, ⟨_, hqs2 s2⟩, ?_⟩
    refine for_it walk_list (fun i σ H' => ∃ y f, σ = [some (.ref p), some (.int (v : Int)), some (.int (MT.rowE t x v)), y] ∧ SameC cy rw pl me H H' ∧ H' cy = some (.lst (arr t.n (MT.up x v (x v + 1)))) ∧ H' pl = some (.lst (nV ps)) ∧ H' me = some (.lst (iV ms)) ∧ H' rw = some (.lst (arr t.n f)) ∧ ∀ u, f u = MT.rowE t x u + ((if u = v then MT.wt t v else 0) + if u ∈ (nb t.ties v).take i then 1 else 0))
      ⟨none, f0, rfl, s2, c2, l2, e2, r2, fun u => ?_⟩ (fun i σ H' _ ⟨_, _, _, s, _⟩ => hqs2 s) ?_ ?_
    · rw [hf0]
      unfold MT.up
      by_cases e : u = v
      · rw [if_pos e, if_pos e, e]; simp
      · rw [if_neg e, if_neg e]; simp
    · rintro i y σ H3 H3' hi ⟨y3, f, rfl, s3, c3, l3, e3, r3, hf⟩ ⟨rfl, hy⟩
      obtain ⟨u, hu, rfl⟩ := nV_get hy
      have hun := (nb_lt B.toOkt (List.mem_of_getElem? hu)).1
      have o3 := Same4.at s3 hob pn
      refine ⟨_, rfl, p, _, dx, _, _, rfl, o3, T.cl_Climb, T.nf_Climb_row, lk_row, _, rfl, rw, _, u, _, rfl, rfl, .inl (.inl r3), arr_at hun, _, _, rfl, rfl, rw, _, _, u, rfl, rfl, r3, by rw [arr_len]; exact ixN_nat hun, ?_⟩
      rw [arr_set]
      refine ⟨_, MT.up f u (f u + 1), rfl, s3.trans (sameC_upd _ (by simp)), by rw [upd_ne n1]; exact c3, by rw [upd_ne n4.symm]; exact l3, by rw [upd_ne n5.symm]; exact e3, upd_same, fun u' => ?_⟩
      have et : (nb t.ties v).take (i + 1) = (nb t.ties v).take i ++ [u] := by rw [List.take_add_one, hu]; rfl
      have nu : u ∉ (nb t.ties v).take i := fun m => by
        obtain ⟨j, hj⟩ := List.mem_iff_getElem?.mp m
        rw [List.getElem?_take] at hj
        split at hj
        · have := nd_ix (nb_nodup B.toOkt v) hu hj
          omega
        · cases hj
      unfold MT.up
      by_cases e : u' = u
      · rw [if_pos e, hf, e, if_neg nu, et, if_pos (show u ∈ (nb t.ties v).take i ++ [u] by simp)]; omega
      · rw [if_neg e, hf, et]
        have : u' ∈ (nb t.ties v).take i ++ [u] ↔ u' ∈ (nb t.ties v).take i := by simp [e]
        by_cases m : u' ∈ (nb t.ties v).take i
        · rw [if_pos m, if_pos (this.mpr m)]
        · rw [if_neg m, if_neg fun z => m (this.mp z)]
    · rintro σ H3 ⟨y3, f, rfl, s3, c3, l3, e3, r3, hf⟩
      rw [nV_len, List.take_length] at hf
      refine ⟨_, rfl, q _ s3 (O.other s3 c3 ?_ l3 e3)⟩
      rw [r3]
      congr 2
      refine arr_congr fun u hu => ?_
      rw [hf, MT.row_up B.toOkt x hu]
      congr 2
      have : u ∈ nb t.ties v ↔ v ∈ nb t.ties u := by
        rw [nb_mem, nb_mem]
        unfold adjT
        exact Or.comm
      by_cases m : u ∈ nb t.ties v
      · rw [if_pos m, if_pos (this.mp m)]
      · rw [if_neg m, if_neg fun z => m (this.mpr z)]

end
end Y
namespace Y
open PySem PySem.Spec PyProof.Rows L2
section
variable {P : Program} {w : World} {K : PySem.W.Frag} {mg : Str → Option Value} {base : Heap}
theorem ok_Climb_step_at (T : Txt K mg) : FnOk P w K mg base CX0 2 T.a_Climb_step_at T.fd_Climb_step_at ["self", "place"] (sp_Climb_step_at T.e_Climb K) := by
  refine T.F_Climb_step_at.ok sc_Climb_step_at (fun vs H Q E h => ?_) (fun cdv A outer s H vs Q E hr h => ?_)
  · obtain ⟨L, t, p, cy, rw, pl, me, wa, lv, x, ps, ms, v, rfl, _⟩ := h
    rfl
  · obtain ⟨L, t, p, cy, rw, pl, me, wa, lv, x, ps, ms, v, rfl, B, O, hv, l1, l2, q⟩ := h
    have few := B.few
    obtain ⟨dx, hob⟩ := O.ob
    obtain ⟨n1, n2, n3, n4, n5, n6⟩ := O.ne
    refine ⟨_, (pss_cons (ps_expr (pe_bmK K rfl PySem.F.plainAttrs_list PySem.F.slot_list_append PySem.F.type_list_append mt_append (pe_fld (pv 0) rfl) (pa_cons (pv 1) pa_nil)))
      (pss_one (ps_expr (pe_bmK K rfl PySem.F.plainAttrs_list PySem.F.slot_list_append PySem.F.type_list_append mt_append (pe_fld (pv 0) rfl) (pa_cons (pe_meth (pv 0) T.cl_Climb T.me_Climb_raise_at (ok_Climb_raise_at T) (hr.mono (by decide)) T.b_Climb_raise_at .nil pass0 (pa_cons (pv 1) pa_nil)) pa_nil))))), ?_⟩
    refine ⟨_, rfl, p, _, dx, _, _, rfl, hob, T.cl_Climb, T.nf_Climb_places, lk_places, .inl ⟨rfl, _, .inl (.inl O.l)⟩, _, rfl, pl, _, _, rfl, rfl, O.l, by rw [nV_len]; exact szl (by omega), ?_⟩
    obtain ⟨H1, hH1⟩ : ∃ H1, H1 = upd H pl (.lst (nV ps ++ [.int (v : Int)])) := ⟨_, rfl⟩
    have s1 : SameC cy rw pl me H H1 := by rw [hH1]; exact sameC_upd _ (by simp)
    have O1 : Clm T.e_Climb K H1 L t p cy rw pl me wa lv x (ps ++ [v]) ms := O.other s1 (by rw [hH1, upd_ne n2]; exact O.c) (by rw [hH1, upd_ne n4]; exact O.r) (by rw [hH1, upd_same, nV_snoc]) (by rw [hH1, upd_ne n6.symm]; exact O.e)
    rw [← hH1]
    obtain ⟨dx1, hob1⟩ := O1.ob
    refine ⟨_, rfl, p, _, dx1, _, _, rfl, hob1, T.cl_Climb, T.nf_Climb_met, lk_met, .inl ⟨rfl, _, .inl (.inl O1.e)⟩, _, rfl, p, dx1, _, rfl, hob1, lk_no (by decide +kernel) (by decide +kernel) (by decide +kernel) (by decide +kernel) (by decide +kernel) (by decide +kernel), _, rfl, L, t, p, cy, rw, pl, me, wa, lv, x, ps ++ [v], ms, v, rfl, B, O1, hv, fun H2 s2 O2 => ?_⟩
    refine ⟨me, _, _, rfl, rfl, O2.e, by rw [iV_len]; exact szl (by omega), ?_⟩
    have ei : iV ms ++ [.int (MT.rowE t x v)] = iV (ms ++ [MT.rowE t x v]) := by unfold iV; rw [List.map_append]; rfl
    rw [ei]
    obtain ⟨m1, m2, m3, m4, m5, m6⟩ := O2.ne
    refine q _ ((s1.trans s2).trans (sameC_upd _ (by simp))) (O2.other (sameC_upd _ (by simp)) (by rw [upd_ne m3]; exact O2.c) (by rw [upd_ne m5]; exact O2.r) (by rw [upd_ne m6]; exact O2.l) upd_same)

end
end Y
namespace Y
open PySem PySem.Spec PyProof.Rows L2
section
variable {P : Program} {w : World} {K : PySem.W.Frag} {mg : Str → Option Value} {base : Heap}
theorem ok_Climb_step_on (T : Txt K mg) : FnOk P w K mg base CX0 3 T.a_Climb_step_on T.fd_Climb_step_on ["self", "barred", "limit"] (sp_Climb_step_on T.e_Climb K) := by
  refine T.F_Climb_step_on.ok sc_Climb_step_on (fun vs H Q E h => ?_) (fun cdv A outer s H vs Q E hr h => ?_)
  · obtain ⟨L, t, p, cy, rw, pl, me, wa, lv, x, y, ps, ms, bar, lim, rfl, _⟩ := h
    rfl
  · obtain ⟨L, t, p, cy, rw, pl, me, wa, lv, x, y, ps, ms, bar, lim, rfl, B, O, ge, bel, lm, bd, l4, q⟩ := h
    have few := B.few
    obtain ⟨dx, hob⟩ := O.ob
    have lkn : ∀ m : Str, ¬ m = "met" → ¬ m = "places" → ¬ m = "row" → ¬ m = "cycle" → ¬ m = "lists" → ¬ m = "weights" → (cFl (.ref wa) lv cy rw pl me).lookup m = none := fun m => lk_no
    refine ⟨_, (pss_cons (ps_set (i := 3) sc_Climb_step_on.nd rfl (Or.inl rfl) (pe_meth (pv 0) T.cl_Climb T.me_Climb_least_step (ok_Climb_least_step T) (hr.mono (by decide)) T.b_Climb_least_step .nil pass0 (pa_cons (pv 1) pa_nil)))
      (pss_one (ps_while PassesOwn.never (pt_cmpR op_ge (pv 3) pe_int (nomark _))
        (pss_cons (ps_if (pt_cmpR op_eq (pe_callB (call_lenK K rfl) (by rfl) T.z_len PySem.boot_len (pa_cons (pe_fld (pv 0) rfl) pa_nil)) (pv 2) (nomark _))
          (pss_one ps_dead)
          pss_nil)
        (pss_cons (ps_expr (pe_meth (pv 0) T.cl_Climb T.me_Climb_step_at (ok_Climb_step_at T) (hr.mono (by decide)) T.b_Climb_step_at .nil pass0 (pa_cons (pv 3) pa_nil)))
        (pss_one (ps_set (i := 3) sc_Climb_step_on.nd rfl (Or.inl rfl) (pe_meth (pv 0) T.cl_Climb T.me_Climb_least_step (ok_Climb_least_step T) (hr.mono (by decide)) T.b_Climb_least_step .nil pass0 (pa_cons (pv 1) pa_nil))))))))), ?_⟩
    refine ⟨_, rfl, p, dx, _, rfl, hob, lkn _ (by decide +kernel) (by decide +kernel) (by decide +kernel) (by decide +kernel) (by decide +kernel) (by decide +kernel), _, rfl, L, t, p, cy, rw, pl, me, wa, lv, x, ps, ms, bar, rfl, B, O, fun r0 H0 s0 hr0 => ?_⟩
    have fst : ∀ {x : Nat → Int} {r : Int}, ((r = -1 ∧ ∀ v : Nat, v < t.n → (v : Int) ≠ bar → MT.rowE t x v ≤ 0) ∨ ∃ v : Nat, v < t.n ∧ r = v ∧ 0 < MT.rowE t x v ∧ (v : Int) ≠ bar ∧ ∀ u : Nat, u < v → (u : Int) ≠ bar → MT.rowE t x u ≤ 0) → (r = -1 ∧ MT.Bel t (barB bar) x) ∨ ∃ v : Nat, v < t.n ∧ r = v ∧ Fst t (barB bar) x v := fun h => by
      rcases h with ⟨h1, h2⟩ | ⟨v, h1, h2, h3, h4, h5⟩
      · exact .inl ⟨h1, fun v hv f => h2 v hv (of_decide_eq_false f)⟩
      · exact .inr ⟨v, h1, h2, ⟨decide_eq_false h4, h3⟩, fun u hu f => h5 u hu (of_decide_eq_false f)⟩
    refine ⟨fun μ σ H' => ∃ r qs ns x', σ = [some (.ref p), some (.int bar), some (.int lim), some (.int r)] ∧ SameC cy rw pl me H H' ∧ MT.Run t (Fst t (barB bar)) x qs ns x' ∧ Clm T.e_Climb K H' L t p cy rw pl me wa lv x' (ps ++ qs) (ms ++ ns) ∧ ((r = -1 ∧ MT.Bel t (barB bar) x') ∨ ∃ v : Nat, v < t.n ∧ r = v ∧ Fst t (barB bar) x' v) ∧ μ = (MT.sm y (List.range t.n) - MT.sm x' (List.range t.n)).toNat,
      ⟨_, r0, [], [], x, rfl, wo_mono s0, .nil, by rw [List.append_nil, List.append_nil]; exact O.same s0, fst hr0, rfl⟩, ?_⟩
    rintro μ σ H' ⟨r, qs, ns, x', rfl, s1, run, O1, hr1, eμ⟩
    obtain ⟨dx1, hob1⟩ := O1.ob
    have rl := run.len
    have leg := run.imp (s' := MT.Leg t (barB bar)) fun _ _ h => h.1
    have g1 := leg.ge_of B.toOkt ge bel
    have gl := MT.sm_ge_le g1
    refine ⟨_, rfl, _, _, rfl, rfl, _, rfl, ite2 (fun z => ?_) (fun z => ?_)⟩
    · have z : 0 ≤ r := of_decide_eq_true z
      rcases hr1 with ⟨h1, _⟩ | ⟨v, hv, rfl, fv⟩
      · omega
      have lt := MT.step_lt B.toOkt g1 bel hv fv.1.1 fv.1.2
      have g2 := MT.step_ge B.toOkt g1 bel hv fv.1.1 fv.1.2
      have gl2 := MT.sm_ge_le g2
      rw [MT.sm_up hv] at gl2
      refine ⟨_, fun _ _ n => n, ?_⟩
      have len : (ps ++ qs).length = ps.length + qs.length := List.length_append
      have len2 : (ms ++ ns).length = ms.length + ns.length := List.length_append
      refine ⟨_, rfl, p, _, dx1, _, _, rfl, hob1, T.cl_Climb, T.nf_Climb_places, lk_places, pl, _, rfl, .inl (.inl (.inl O1.l)), _, rfl, rfl, _, rfl, iteF' ?_ ?_⟩
      · rw [nV_len]
        exact decide_eq_false fun e => by have := V.int.inj e; omega
      refine ⟨_, rfl, p, dx1, _, rfl, hob1, lkn _ (by decide +kernel) (by decide +kernel) (by decide +kernel) (by decide +kernel) (by decide +kernel) (by decide +kernel), _, rfl, L, t, p, cy, rw, pl, me, wa, lv, x', ps ++ qs, ms ++ ns, v, rfl, B, O1, hv, by omega, by omega, fun H2 s2 O2 => ?_⟩
      obtain ⟨dx2, hob2⟩ := O2.ob
      refine ⟨_, rfl, p, dx2, _, rfl, hob2, lkn _ (by decide +kernel) (by decide +kernel) (by decide +kernel) (by decide +kernel) (by decide +kernel) (by decide +kernel), _, rfl, L, t, p, cy, rw, pl, me, wa, lv, _, _, _, bar, rfl, B, O2, fun r2 H3 s3 hr3 => ?_⟩
      refine ⟨_, ?_, r2, qs ++ [v], ns ++ [MT.rowE t x' v], _, rfl, s1.trans (s2.trans (wo_mono s3)), run.snoc hv fv, ?_, fst hr3, rfl⟩
      · rw [eμ, MT.sm_up hv]
        have key : ∀ A B : Int, B + 1 ≤ A → (A - (B + 1)).toNat < (A - B).toNat := fun A B h => by omega
        exact key _ _ gl2
      · have := O2.same s3
        rw [List.append_assoc, List.append_assoc] at this
        exact this
    · have z := of_decide_eq_false (Bool.eq_false_iff.mpr z)
      rcases hr1 with ⟨_, b1⟩ | ⟨v, hv, rfl, fv⟩
      · exact q x' qs ns H' s1 run b1 O1
      · omega

end
end Y
namespace Y
open PySem PySem.Spec PyProof.Rows L2
section
variable {P : Program} {w : World} {K : PySem.W.Frag} {mg : Str → Option Value} {base : Heap}
theorem ok_climbed (T : Txt K mg) : FnOk P w K mg base CX0 6 T.a_climbed T.fd_climbed ["tree", "x"] (sp_climbed T.e_Climb K) := by
  refine T.F_climbed.ok sc_climbed (fun vs H Q E h => ?_) (fun cdv A outer s H vs Q E hr h => ?_)
  · obtain ⟨L, tv, xv, t, xs, y, rfl, _⟩ := h
    rfl
  · obtain ⟨L, tv, xv, t, xs, y, rfl, hT, B, P0, C, dt, dx, ge, bel, bd, q⟩ := h
    have few := B.few
    refine ⟨_, (pss_cons (ps_expr (pe_call (ok_check_below T) (hr.mono (by decide)) rfl T.g_check_below T.F_check_below.kp T.b_check_below .nil pass0 (pa_cons (pv 0) pa_nil)))
      (pss_cons (ps_set (i := 2) sc_climbed.nd rfl (Or.inl rfl) (pe_make T.mk_Climb (ok_Climb___init T) (hr.mono (by decide)) rfl T.gc_Climb T.b_Climb___init .nil pass0 (pa_cons (pv 0) (pa_cons (pv 1) pa_nil))))
      (pss_cons (ps_expr (pe_meth (pv 2) T.cl_Climb T.me_Climb_step_on (ok_Climb_step_on T) (hr.mono (by decide)) T.b_Climb_step_on .nil pass0 (pa_cons (pe_glob (v := .int (-1)) rfl T.c_NOWHERE ⟨_, rfl⟩) (pa_cons (pe_glob (v := .int (5000)) rfl T.c_MOST_STEPS ⟨_, rfl⟩) pa_nil))))
      (pss_one (ps_ret (pv 2)))))), ?_⟩
    refine ⟨_, rfl, L, _, t, rfl, hT, B, P0, dt, fun H1 s1 => ?_⟩
    refine ⟨_, rfl, _, rfl, fun p dp hp hdp ne => ?_⟩
    have so := same_new hdp (.own p)
    have p1 : upd H1 dp (.own p) p = none := by rw [upd_ne ne.symm]; exact hp
    have sp := same_new p1 (.ins T.e_Climb dp [])
    have s2 := s1.trans (so.trans sp)
    obtain ⟨H2, hH2⟩ : ∃ H2, H2 = upd (upd H1 dp (.own p)) p (.ins T.e_Climb dp []) := ⟨_, rfl⟩
    have p2 : H2 p = some (.ins T.e_Climb dp []) := by rw [hH2]; exact upd_same
    rw [← hH2] at s2 ⊢
    have p0 : H p = none := s1.free hp
    have hpL : p ∉ L := hT.fresh p0
    have toP : Same (wo H L) (wo H2 (p :: L)) := by
      have := wo_mono (L := p :: L) s2
      rw [wo_fresh p0] at this
      exact this
    have hT2 : Trk H2 (p :: L) := (hT.mono s2).cons (by rw [p2]; simp)
    refine ⟨L, p, dp, _, _, t, xs, rfl, p2, hpL, hT2, B, C, dp_mono toP dt, dp_mono toP dx, fun cy rw pl me wa lv H3 s3 c0 r0 l0 e0 O3 => ⟨rfl, ?_⟩⟩
    have s03 : Same H H3 := fun a o h => Same4.at s3 (s2 _ _ h) (by
      simp
      intro e
      rw [e, p0] at h
      cases h)
    have z0 : ∀ {a : Addr}, H2 a = none → H a = none := fun h => s2.free h
    obtain ⟨dx3, hob3⟩ := O3.ob
    refine ⟨_, rfl, p, dx3, _, rfl, hob3, lk_no (by decide +kernel) (by decide +kernel) (by decide +kernel) (by decide +kernel) (by decide +kernel) (by decide +kernel), L, t, p, cy, rw, pl, me, wa, lv, en xs, y, [], [], -1, 5000, rfl, B, O3, ge, fun v hv _ => bel v hv rfl, rfl, by simpa using bd, by omega, fun x' qs ns H4 s4 run b4 O4 => ?_⟩
    rw [List.nil_append, List.nil_append] at O4
    have bar : ∀ v : Nat, barB (-1) v = false := fun v => decide_eq_false (by omega)
    have run' : MT.Run t (Fst t MT.no) (en xs) qs ns x' := run.imp fun y p h => ⟨⟨rfl, h.1.2⟩, fun u hu _ => h.2 u hu (bar u)⟩
    have b4' : MT.Bel t MT.no x' := fun v hv _ => b4 v hv (bar v)
    have top := (run'.imp (s' := MT.Leg t MT.no) fun _ _ h => h.1).top B.toOkt _ (MT.Top.self b4')
    refine ⟨_, rfl, q p cy rw pl me wa lv x' qs ns H4 (fun a o h => Same4.at s4 (s03 _ _ h) ?_) run' b4' top O4⟩
    intro m
    simp only [List.mem_cons, List.not_mem_nil, or_false] at m
    rcases m with m | m | m | m
    · rw [m, z0 c0] at h; cases h
    · rw [m, z0 r0] at h; cases h
    · rw [m, z0 l0] at h; cases h
    · rw [m, z0 e0] at h; cases h

end
end Y
namespace Y
open PySem PySem.Spec PyProof.Rows L2
section
variable {P : Program} {w : World} {K : PySem.W.Frag} {mg : Str → Option Value} {base : Heap}
theorem ok_above (T : Txt K mg) : FnOk P w K mg base CX0 7 T.a_above T.fd_above ["tree", "x"] (sp_above50 K) := by
  refine T.F_above.ok sc_above (fun vs H Q E h => ?_) (fun cdv A outer s H vs Q E hr h => ?_)
  · obtain ⟨L, tv, xv, t, xs, y, rfl, _⟩ := h
    rfl
  · obtain ⟨L, tv, xv, t, xs, y, rfl, hT, B, P0, C, dt, dx, ge, bel, bd, q⟩ := h
    refine ⟨_, (pss_one (ps_ret (pe_callTy (call_tupK K rfl) (by rfl) T.z_tuple (by decide +kernel) (pa_cons (pe_fld (pe_call (ok_climbed T) (hr.mono (by decide)) rfl T.g_climbed T.F_climbed.kp T.b_climbed .nil pass0 (pa_cons (pv 0) (pa_cons (pv 1) pa_nil))) rfl) pa_nil)))), ?_⟩
    refine ⟨_, rfl, _, rfl, L, _, _, t, xs, y, rfl, hT, B, P0, C, dt, dx, ge, bel, bd, fun p cy rw pl me wa lv x qs ns H1 s1 run b1 top O1 => ?_⟩
    obtain ⟨dx1, hob1⟩ := O1.ob
    refine ⟨p, _, dx1, _, _, rfl, hob1, T.cl_Climb, T.nf_Climb_cycle, lk_cycle, cy, _, rfl, .inl ⟨.inl (.inl O1.c), fun l hl => ?_⟩⟩
    refine q ((List.range t.n).map x) (by simp) ?_ _ _ (s1.trans (same_new hl _)) (tup_new (hT.mono s1) hl (dpAll_ints.mpr rfl))
    have e : ∀ v, v < t.n → en ((List.range t.n).map x) v = x v := fun v hv => en_map hv
    refine ⟨fun v hv => by rw [e v hv]; exact top.ge v hv, fun v hv f => ?_, fun z g b v hv => by rw [e v hv]; exact top.least z g b v hv⟩
    rw [rowE_congr B.toOkt e hv]
    exact top.bel v hv f

end
end Y
namespace Y
open PySem PySem.Spec PyProof.Rows L2
section
variable {P : Program} {w : World} {K : PySem.W.Frag} {mg : Str → Option Value} {base : Heap}
theorem ok_law_row (T : Txt K mg) : FnOk P w K mg base CX0 2 T.a_law_row T.fd_law_row ["tree", "x"] (sp_law_rowQ K) := by
  refine T.F_law_row.ok sc_law_row (fun vs H Q E h => ?_) (fun cdv A outer s H vs Q E hr h => ?_)
  · obtain ⟨L, tv, t, xs, g, rfl, _⟩ := h
    rfl
  · obtain ⟨L, tv, t, xs, g, rfl, hT, B, C, dt, hg', q⟩ := h
    obtain ⟨a, b, c, ps, rfl, ha, hb, hc, hp⟩ := dp_tr.mp dt
    have few := B.few
    have hwl : t.ws.length = t.n := rfl
    have hxl := C.1
    have ha' := (wo_le _ _).tup ha
    have hb' := (wo_le _ _).tup hb
    refine ⟨_, (pss_cons (ps_set (i := 2) sc_law_row.nd rfl (Or.inr rfl) (pe_call (ok_law_near T) (hr.mono (by decide)) rfl T.g_law_near T.F_law_near.kp T.b_law_near .nil pass0 (pa_cons (pv 0) pa_nil)))
      (pss_one (ps_ret (pe_callTy (call_tupK K rfl) (by rfl) T.z_tuple (by decide +kernel) (pa_cons (pe_lc (own := [("k", 3)]) rfl sc_law_row.nd (pi_range1 rfl T.z_range (pa_cons (pe_callB (call_lenK K rfl) (by rfl) T.z_len PySem.boot_len (pa_cons (pv 1) pa_nil)) pa_nil)) (blkOk_by (own := [("k", 3)]) (N := ["tree", "x", "near", "k", "j"]) (sc := defScope s_law_row) (by decide +kernel)) (fun _ _ _ _ _ => (pg_name (i := 3) sc_law_row.nd rfl (Or.inl rfl))) (fun _ _ _ _ _ => pts_nil) (fun _ _ _ _ _ => (pe_op op_add (pe_op op_mulB (pe_ix (ix_tupK K rfl) (pe_ix (ix_tupK K rfl) (pv 0) pe_int (fun _ _ => rfl)) (pv 3) (fun _ _ => rfl)) (pe_ix (ix_seqK K rfl) (pv 1) (pv 3) (fun _ _ => rfl))) (pe_callB (cr_sumK K rfl rfl) (by rfl) T.z_sum (by decide +kernel) (pa_cons (pe_lc (own := [("j", 4)]) rfl sc_law_row.nd (pi_listK K rfl (pe_ix (ix_listK K rfl) (pv 2) (pv 3) (fun _ _ => rfl))) (blkOk_by (own := [("j", 4)]) (N := ["tree", "x", "near", "k", "j"]) (by rfl)) (fun _ _ _ _ _ => (pg_name (i := 4) sc_law_row.nd rfl (Or.inl rfl))) (fun _ _ _ _ _ => pts_nil) (fun _ _ _ _ _ => (pe_ix (ix_seqK K rfl) (pv 1) (pv 4) (fun _ _ => rfl)))) pa_nil))))) pa_nil))))), ?_⟩
    refine ⟨_, rfl, L, _, t, rfl, hT, B.toOkt, dt, fun nv H1 s1 dn => ?_⟩
    obtain ⟨na, ys, rfl, hna, hnl, hnx⟩ := llD_get dn
    have hna' := (wo_le _ _).seq hna
    refine ⟨_, rfl, g, _, rfl, hg'.mono s1, _, rfl, by rw [iV_len]; omega, by rw [iV_len]; omega, ?_⟩
    rw [iV_len, hxl]
    refine lcw (K := K) (walk_rg (n := (t.n : Int).toNat)) L (fun k => if k < t.n then some (.int (MT.rowE t (en xs) k)) else none) (by omega) (hT.mono s1) (fun _ _ => trivial) ?_ ?_
    · rintro D2 k x H6 H7 R R0 hk s6 hT6 ⟨rfl, rfl⟩ hR hR0
      have hkn : k < t.n := by omega
      have sA := s1.trans s6
      obtain ⟨qk, hqk, hqs⟩ := hnx k _ (nbs_get hkn)
      have hqs' := s6.seq ((wo_le _ _).seq hqs)
      refine ⟨rfl, _, rfl, a, _, _, _, rfl, rfl, sA.tup ha', atI_nat (j := 0) rfl, _, rfl, b, _, _, _, rfl, rfl, sA.tup hb', atI_nat (j := k) (iV_at (w_at hkn)), _, rfl, _, rfl, ixq (hg'.mono sA) (atI_nat (j := k) (iV_at (C.at hkn))) ⟨_, _, rfl, rfl, mulB (B.wt k) (C.en k) (by omega) (by omega), ?_⟩⟩
      refine ⟨_, rfl, _, rfl, na, ys, _, .ref qk, rfl, rfl, s6.seq hna', atI_nat hqk, qk, rfl, ⟨_, hqs'⟩, ?_⟩
      refine lcw (K := K) walk_list [] (fun j => ((nb t.ties k)[j]?).map fun u => .int (en xs u)) (by rw [nV_len]; have := nb_le B.toOkt k; omega) (Trk.nil _) (fun H' s => s.seq hqs') ?_ ?_
      · rintro D3 j x H8 H9 R1 R2 hj s8 hT8 ⟨rfl, hx⟩ hR1 hR2
        obtain ⟨u, hu, rfl⟩ := nV_get hx
        have hun := (nb_lt B.toOkt (List.mem_of_getElem? hu)).1
        exact ⟨rfl, _, rfl, _, rfl, ixq ((hg'.mono sA).mono s8) (atI_nat (j := u) (iV_at (C.at hun))) (hR1 _ _ (.int (en xs u)) (by rw [hu]; rfl) (Same.refl _) (.int _))⟩
      · intro D3 H8 zs hD3 s8 hz az
        have ef3 : (List.range (nV (nb t.ties k)).length).filterMap (fun j => ((nb t.ties k)[j]?).map fun u => PyData.int (en xs u)) = iD ((nb t.ties k).map (en xs)) := by
          rw [nV_len]
          unfold iD
          rw [List.map_map]
          exact range_get_all _ _
        rw [ef3] at az
        have ez := dpAll_ints.mp az
        subst ez
        refine ⟨D3, _, rfl, .inl (.inl hz), _, _, rfl, rfl, ?_⟩
        rw [← sm_sum]
        exact hR _ _ (.int (MT.rowE t (en xs) k)) (if_pos hkn) s8 (.int _)
    · intro D2 H6 zs hD2 s6 hz az
      have ef4 : (List.range (t.n : Int).toNat).filterMap (fun k => if k < t.n then some (PyData.int (MT.rowE t (en xs) k)) else none) = iD (rowL t xs) := by
        unfold iD rowL
        rw [List.map_map, show (t.n : Int).toNat = t.n by omega]
        exact fm_some fun i hi => by rw [if_pos (List.mem_range.mp hi)]; rfl
      rw [ef4] at az
      refine ⟨D2, _, rfl, .inl ⟨.inl (.inl hz), fun l hl => ?_⟩⟩
      exact q _ _ ((s1.trans s6).trans (same_new hl _)) (tup_new ((hT.mono s1).mono s6) hl (dpAll_mono wo_cons_le az))

end
end Y
namespace Y
open PySem PySem.Spec PyProof.Rows L2
section
variable {P : Program} {w : World} {K : PySem.W.Frag} {mg : Str → Option Value} {base : Heap}
theorem ok_law_above (T : Txt K mg) : FnOk P w K mg base CX0 3 T.a_law_above T.fd_law_above ["tree", "x", "free"] (sp_law_above50 K) := by
  refine T.F_law_above.ok sc_law_above (fun vs H Q E h => ?_) (fun cdv A outer s H vs Q E hr h => ?_)
  · obtain ⟨L, tv, xv, fv, t, xs, fl, y, rfl, _⟩ := h
    rfl
  · obtain ⟨L, tv, xv, fv, t, xs, fl, y, rfl, hT, B, lx, sx, dt, dx, df, lf, ge, bel, bd, q⟩ := h
    obtain ⟨g, rfl, hg⟩ := dp_ints.mp dx
    obtain ⟨fa, rfl, hfa⟩ := dp_nats.mp df
    have few := B.few
    have hg' := (wo_le _ _).tup hg
    have hfa' := (wo_le _ _).tup hfa
    refine ⟨_, (pss_cons (ps_par (by rfl) sc_law_above.nd (i := 1) (j := 3) rfl rfl (by decide) rfl rfl (pa_cons (pe_callTy call_list_of (by rfl) T.z_list (by decide +kernel) (pa_cons (pv 1) pa_nil)) (pa_cons (pe_lst pa_nil) pa_nil)) (by rfl))
      (pss_cons (ps_for PassesOwn.never rfl (pi_range1 rfl T.z_range (pa_cons pe_int pa_nil)) (pg_name (i := 4) sc_law_above.nd rfl (Or.inl rfl))
        (pss_cons (ps_set (i := 5) sc_law_above.nd rfl (Or.inr rfl) (pe_call (ok_law_row T) (hr.mono (by decide)) rfl T.g_law_row T.F_law_row.kp T.b_law_row .nil pass0 (pa_cons (pv 0) (pa_cons (pv 1) pa_nil))))
        (pss_cons (ps_setLc (i := 6) (own := [("k", 7)]) rfl sc_law_above.nd rfl rfl (sw_true rfl rfl rfl (by decide +kernel)) (pi_range1 rfl T.z_range (pa_cons (pe_callB (call_lenK K rfl) (by rfl) T.z_len PySem.boot_len (pa_cons (pv 1) pa_nil)) pa_nil)) (blkOk_by (own := [("k", 7)]) (N := ["tree", "x", "free", "met", "turn", "row", "spots", "k"]) (sc := defScope s_law_above) (by decide +kernel)) (fun _ _ _ _ _ => (pg_name (i := 7) sc_law_above.nd rfl (Or.inl rfl))) (fun _ _ _ _ _ => pts_one (PW.pt (pw_and (pt_cmpR op_gt (pe_ix (ix_tupK K rfl) (pv 5) (pv 7) (fun _ _ => rfl)) pe_int (nomark _)) (pw_and1 (pt_cmpR (op_notInK K rfl) (pv 7) (pv 2) (by rfl)))))) (fun _ _ _ _ _ => (pv 7)))
        (pss_cons (ps_if (pt_cmpR (op_eqDK K rfl hr.units) (pv 6) (pe_lst pa_nil) (nomark _))
          (pss_one (ps_ret (pe_tup (pa_cons (pe_callTy (call_tupK K rfl) (by rfl) T.z_tuple (by decide +kernel) (pa_cons (pv 1) pa_nil)) (pa_cons (pv 3) pa_nil)))))
          pss_nil)
        (pss_cons (ps_expr (pe_bmK K rfl PySem.F.plainAttrs_list PySem.F.slot_list_append PySem.F.type_list_append mt_append (pv 3) (pa_cons (pe_ix (ix_tupK K rfl) (pv 5) (pe_ix (ix_listK K rfl) (pv 6) (pe_un un_neg pe_int) (fun _ _ => rfl)) (fun _ _ => rfl)) pa_nil)))
        (pss_one (ps_asg (pe_op op_add (pe_ix (ix_listK K rfl) (pv 1) (pe_ix (ix_listK K rfl) (pv 6) (pe_un un_neg pe_int) (fun _ _ => rfl)) (fun _ _ => rfl)) pe_int) (pg_sub (pv 1) (pe_ix (ix_listK K rfl) (pv 6) (pe_un un_neg pe_int) (fun _ _ => rfl)) set_list))))))))
      (pss_one (ps_ret (pe_tup (pa_cons pe_non (pa_cons (pv 3) pa_nil))))))), ?_⟩
    refine ⟨_, rfl, g, _, rfl, .inr hg', fun D hD => ⟨(by show 0 ≤ sizeLine; decide), fun e he => ⟨_, _, rfl, ?_⟩⟩⟩
    have s1 := same_new hD (.lst (iV xs))
    have s2 := same_new he (.lst [])
    obtain ⟨H1, hH1⟩ : ∃ H1, H1 = upd (upd H D (.lst (iV xs))) e (.lst []) := ⟨_, rfl⟩
    have D1 : H1 D = some (.lst (arr t.n (en xs))) := by rw [hH1, arr_en lx]; exact s2 _ _ upd_same
    have e1 : H1 e = some (.lst (iV [])) := by rw [hH1]; exact upd_same
    have De : D ≠ e := fun z => by rw [← z, upd_same] at he; cases he
    have e0 : H e = none := s1.free he
    have s01 : Same H H1 := by rw [hH1]; exact s1.trans s2
    rw [← hH1]
    refine ⟨_, rfl, by omega, by omega, ?_⟩
    refine for_it (walk_rg (n := (5000 : Int).toNat)) (fun i σ H' => ∃ y4 y5 y6 x' ps ms, σ = [some tv, some (.ref D), some (.ref fa), some (.ref e), y4, y5, y6, none] ∧ Same H H' ∧ H' D = some (.lst (arr t.n x')) ∧ H' e = some (.lst (iV ms)) ∧ MT.Run t (MT.Leg t (inl fl)) (en xs) ps ms x' ∧ ps.length = i)
      ⟨none, none, none, en xs, [], [], rfl, s01, D1, e1, .nil, rfl⟩ (fun _ _ _ _ _ => trivial) ?_ ?_
    · rintro i z σ H2 H2' hi ⟨y4, y5, y6, x', ps, ms, rfl, s3, D3, e3, run, li⟩ ⟨rfl, rfl⟩
      have g1 := run.ge_of B.toOkt ge bel
      have gl := MT.sm_ge_le g1
      have rl := run.len
      obtain ⟨Cx, bx⟩ := cy_run sx run (by omega)
      have hT2 := hT.mono s3
      refine ⟨_, rfl, _, rfl, L, _, t, (List.range t.n).map x', D, rfl, hT2, B, Cx, dp_mono (wo_mono s3) dt, .inl (.inl (.inl D3)), fun rv H3 s4 d4 => ?_⟩
      rw [rowL_map B.toOkt] at d4
      obtain ⟨ra, rfl, hra⟩ := dp_ints.mp d4
      have hra' := (wo_le _ _).tup hra
      have D4 := s4 _ _ D3
      have e4 := s4 _ _ e3
      have s34 := s3.trans s4
      refine ⟨_, rfl, D, _, rfl, .inl (.inl (.inl D4)), _, rfl, by rw [arr_len]; omega, by rw [arr_len]; omega, ?_⟩
      rw [arr_len]
      refine lcw (K := K) (walk_rg (n := (t.n : Int).toNat)) L (fun k => if 0 < MT.rowE t x' k ∧ inl fl k = false then some (.int (k : Int)) else none) (by omega) (hT.mono s34) (fun _ _ => trivial) ?_ ?_
      · rintro D2 k x H6 H7 R R0 hk s6 hT6 ⟨rfl, rfl⟩ hR hR0
        have hkn : k < t.n := by omega
        have sA := s34.trans s6
        refine ⟨rfl, _, rfl, _, rfl, ra, _, _, _, rfl, rfl, s6.tup hra', atI_nat (j := k) (iV_at (n := MT.rowE t x' k) (by simp [hkn])), _, _, rfl, rfl, _, rfl, ?_⟩
        by_cases pos : 0 < MT.rowE t x' k
        · refine iteT' (decide_eq_true pos) ⟨_, rfl, _, rfl, in_nats (sA.tup hfa') ⟨_, rfl, ?_⟩⟩
          by_cases f : inl fl k = true
          · exact iteF' (by simp [f]) (hR0 _ (if_neg fun z => by rw [f] at z; exact absurd z.2 (by simp)) (Same.refl _))
          · have f := Bool.eq_false_iff.mpr f
            exact iteT' (by simp [f]) ⟨_, rfl, hR _ _ _ (if_pos ⟨pos, f⟩) (Same.refl _) (.int _)⟩
        · exact iteF' (decide_eq_false pos) (hR0 _ (if_neg fun z => pos z.1) (Same.refl _))
      · intro D2 H6 zs hD2 s6 hz az
        obtain ⟨sp, hsp⟩ : ∃ sp, sp = spo t (inl fl) x' := ⟨_, rfl⟩
        have ef4 : (List.range (t.n : Int).toNat).filterMap (fun k => if 0 < MT.rowE t x' k ∧ inl fl k = false then some (PyData.int (k : Int)) else none) = nD sp := by
          rw [show (t.n : Int).toNat = t.n by omega, hsp]
          unfold nD spo
          rw [← filterMap_if (fun k => decide (0 < MT.rowE t x' k) && !inl fl k) fun (k : Nat) => PyData.int (k : Int)]
          congr 1
          funext k
          by_cases h : 0 < MT.rowE t x' k <;> by_cases h2 : inl fl k = true <;> simp [h, h2]
        rw [ef4] at az
        have ez := dpAll_nats.mp az
        subst ez
        have D6 := s6 _ _ D4
        have e6 := s6 _ _ e4
        refine ⟨_, rfl, (by show 0 ≤ sizeLine; decide), fun e2 he2 => ?_⟩
        have s7 := same_new he2 (.lst [])
        obtain ⟨H7, hH7⟩ : ∃ H7, H7 = upd H6 e2 (.lst []) := ⟨_, rfl⟩
        have u7 : H7 e2 = some (.lst []) := by rw [hH7]; exact upd_same
        rw [← hH7] at s7 ⊢
        have hz7 := s7 _ _ hz
        have D7 := s7 _ _ D6
        have e7 := s7 _ _ e6
        have ra7 := (s6.trans s7).tup hra'
        have sA := (s34.trans s6).trans s7
        have ssp : SeqAt.shaped (.list (nD sp)) = true := by rw [nD_eq]; exact shaped_iL _
        refine ⟨.list (nD sp), .list [], .lst (.inl (.inl hz7)) (dpAll_nats.mpr rfl), .lst (.inl (.inl u7)) .nil, ssp, shaped_iL [], _, rfl, ?_⟩
        rw [eqv_nilA]
        refine ite2 (fun z => ?_) (fun z => ?_)
        · have spn : sp = [] := by
            cases h : sp with
            | nil => rfl
            | cons x r => rw [h] at z; cases z
          rw [hsp] at spn
          refine ⟨_, rfl, D, _, rfl, .inl ⟨.inl (.inl D7), fun l hl => ?_⟩⟩
          have sl := same_new hl (.tup (arr t.n x'))
          refine ⟨_, rfl, (by show 2 ≤ sizeLine; decide), fun p hp => ?_⟩
          have sp' := same_new hp (.tup [.ref l, .ref e])
          have hT7 := hT.mono (sA.trans sl)
          refine q x' ps ms run (spo_nil spn) _ _ (sA.trans (sl.trans sp')) (tup_new hT7 hp (.cons (tup_new (hT.mono sA) hl (dpAll_ints.mpr rfl)) (.cons (.lst (.inl (.inl ?_)) (dpAll_ints.mpr rfl)) .nil)))
          rw [wo_out (hT.fresh e0)]
          exact sl _ _ e7
        · obtain ⟨ini, la, hla⟩ : ∃ ini la, sp = ini ++ [la] := by
            have ne : sp ≠ [] := fun h => by rw [h] at z; exact absurd rfl z
            exact ⟨_, _, (List.dropLast_concat_getLast ne).symm⟩
          have lm : la ∈ spo t (inl fl) x' := by rw [← hsp, hla]; simp
          obtain ⟨ln, leg⟩ := spo_mem.mp lm
          have at1 : atI (nV sp) (-1) = some (.int (la : Int)) := by rw [hla, nV_snoc]; exact atI_last _ _
          have g2 := MT.step_ge B.toOkt g1 bel ln leg.1 leg.2
          have gl2 := MT.sm_ge_le g2
          rw [MT.sm_up ln] at gl2
          refine ⟨_, rfl, .inl ⟨rfl, _, .inl (.inl e7)⟩, _, rfl, _, rfl, _, rfl, D2, _, _, _, rfl, rfl, .inl (.inl hz7), at1, ra, _, _, _, rfl, rfl, ra7, atI_nat (j := la) (iV_at (n := MT.rowE t x' la) (by simp [ln])), e, _, _, rfl, rfl, e7, by rw [iV_len]; exact szl (by omega), ?_⟩
          have ei : iV ms ++ [.int (MT.rowE t x' la)] = iV (ms ++ [MT.rowE t x' la]) := by unfold iV; rw [List.map_append]; rfl
          rw [ei]
          obtain ⟨H8, hH8⟩ : ∃ H8, H8 = upd H7 e (.lst (iV (ms ++ [MT.rowE t x' la]))) := ⟨_, rfl⟩
          have e8 : H8 e = some (.lst (iV (ms ++ [MT.rowE t x' la]))) := by rw [hH8]; exact upd_same
          have D8 : H8 D = some (.lst (arr t.n x')) := by rw [hH8, upd_ne De]; exact D7
          have D2e : D2 ≠ e := fun z => by rw [z, e4] at hD2; cases hD2
          have z8 : H8 D2 = some (.lst (nV sp)) := by rw [hH8, upd_ne D2e]; exact hz7
          have s8 : Same H H8 := by rw [hH8]; exact same_mut sA e0
          rw [← hH8]
          refine ⟨_, rfl, _, rfl, _, rfl, D2, _, _, _, rfl, rfl, .inl (.inl z8), at1, D, _, _, _, rfl, rfl, .inl (.inl D8), atI_nat (j := la) (arr_at ln), _, _, rfl, rfl, _, rfl, _, rfl, _, rfl, D2, _, _, _, rfl, rfl, .inl (.inl z8), at1, D, _, _, la, rfl, rfl, D8, by rw [arr_len]; exact ixN_nat ln, ?_⟩
          rw [arr_set]
          refine ⟨_, _, _, _, ps ++ [la], ms ++ [MT.rowE t x' la], rfl, same_mut s8 hD, upd_same, by rw [upd_ne De.symm]; exact e8, run.snoc ln leg, by rw [List.length_append, li]; rfl⟩
    · rintro σ H2 ⟨y4, y5, y6, x', ps, ms, rfl, s3, D3, e3, run, li⟩
      have g1 := run.ge_of B.toOkt ge bel
      have gl := MT.sm_ge_le g1
      have rl := run.len
      have : (5000 : Int).toNat = 5000 := rfl
      omega

end
end Y
namespace Y
open PySem PySem.Spec PyProof.Rows L2
section
variable {P : Program} {w : World} {K : PySem.W.Frag} {mg : Str → Option Value} {base : Heap}
theorem ok_law_any_steps (T : Txt K mg) : FnOk P w K mg base CX0 3 T.a_law_any_steps T.fd_law_any_steps ["m", "tree", "x", "free"] (sp_law_any_steps K) := by
  refine T.F_law_any_steps.ok sc_law_any_steps (fun vs H Q E h => ?_) (fun cdv A outer s H vs Q E hr h => ?_)
  · obtain ⟨L, m, c, cs, b, tv, xv, fv, t, xs, fl, y, rfl, _⟩ := h
    rfl
  · obtain ⟨L, m, c, cs, b, tv, xv, fv, t, xs, fl, y, rfl, hm, hT, M, hb, B, lx, sx, dt, dx, df, lf, ge, bel, bd, q⟩ := h
    obtain ⟨g, rfl, hg⟩ := dp_ints.mp dx
    obtain ⟨fa, rfl, hfa⟩ := dp_nats.mp df
    have few := B.few
    have hg' := (wo_le _ _).tup hg
    refine ⟨_, (pss_cons (ps_par3 (by rfl) sc_law_any_steps.nd (i := 2) (j := 4) (l := 5) rfl rfl rfl (by decide) (by decide) (by decide) rfl rfl rfl (pa_cons (pe_callTy call_list_of (by rfl) T.z_list (by decide +kernel) (pa_cons (pv 2) pa_nil)) (pa_cons (pe_lst pa_nil) (pa_cons (pe_lst pa_nil) pa_nil))) (by rfl))
      (pss_cons (ps_for PassesOwn.never rfl (pi_range1 rfl T.z_range (pa_cons pe_int pa_nil)) (pg_name (i := 6) sc_law_any_steps.nd rfl (Or.inl rfl))
        (pss_cons (ps_set (i := 7) sc_law_any_steps.nd rfl (Or.inr rfl) (pe_call (ok_law_row T) (hr.mono (by decide)) rfl T.g_law_row T.F_law_row.kp T.b_law_row .nil pass0 (pa_cons (pv 1) (pa_cons (pv 2) pa_nil))))
        (pss_cons (ps_setLc (i := 8) (own := [("k", 10)]) rfl sc_law_any_steps.nd rfl rfl (sw_true rfl rfl rfl (by decide +kernel)) (pi_range1 rfl T.z_range (pa_cons (pe_callB (call_lenK K rfl) (by rfl) T.z_len PySem.boot_len (pa_cons (pv 2) pa_nil)) pa_nil)) (blkOk_by (own := [("k", 10)]) (N := ["m", "tree", "x", "free", "places", "met", "turn", "row", "spots", "spot", "k"]) (sc := defScope s_law_any_steps) (by decide +kernel)) (fun _ _ _ _ _ => (pg_name (i := 10) sc_law_any_steps.nd rfl (Or.inl rfl))) (fun _ _ _ _ _ => pts_one (PW.pt (pw_and (pt_cmpR op_gt (pe_ix (ix_tupK K rfl) (pv 7) (pv 10) (fun _ _ => rfl)) pe_int (nomark _)) (pw_and1 (pt_cmpR (op_notInK K rfl) (pv 10) (pv 3) (by rfl)))))) (fun _ _ _ _ _ => (pv 10)))
        (pss_cons (ps_if (pt_cmpR (op_eqDK K rfl hr.units) (pv 8) (pe_lst pa_nil) (nomark _))
          (pss_one ps_break)
          pss_nil)
        (pss_cons (ps_set (i := 9) sc_law_any_steps.nd rfl (Or.inl rfl) (pe_call (ok_law_of T) (hr.mono (by decide)) rfl T.g_law_of T.F_law_of.kp T.b_law_of .nil pass0 (pa_cons (pv 0) (pa_cons (pv 8) pa_nil))))
        (pss_cons (ps_expr (pe_bmK K rfl PySem.F.plainAttrs_list PySem.F.slot_list_append PySem.F.type_list_append mt_append (pv 4) (pa_cons (pv 9) pa_nil)))
        (pss_cons (ps_expr (pe_bmK K rfl PySem.F.plainAttrs_list PySem.F.slot_list_append PySem.F.type_list_append mt_append (pv 5) (pa_cons (pe_ix (ix_tupK K rfl) (pv 7) (pv 9) (fun _ _ => rfl)) pa_nil)))
        (pss_one (ps_asg (pe_op op_add (pe_ix (ix_listK K rfl) (pv 2) (pv 9) (fun _ _ => rfl)) pe_int) (pg_sub (pv 2) (pv 9) set_list))))))))))
      (pss_one (ps_ret (pe_tup (pa_cons (pe_callTy (call_tupK K rfl) (by rfl) T.z_tuple (by decide +kernel) (pa_cons (pv 2) pa_nil)) (pa_cons (pe_callTy (call_tupK K rfl) (by rfl) T.z_tuple (by decide +kernel) (pa_cons (pv 4) pa_nil)) (pa_cons (pe_callTy (call_tupK K rfl) (by rfl) T.z_tuple (by decide +kernel) (pa_cons (pv 5) pa_nil)) pa_nil)))))))), ?_⟩
    refine ⟨_, rfl, g, _, rfl, .inr hg', fun D hD => ⟨(by show 0 ≤ sizeLine; decide), fun pl hpl => ⟨(by show 0 ≤ sizeLine; decide), fun e he => ⟨_, _, _, rfl, ?_⟩⟩⟩⟩
    have s1 := same_new hD (.lst (iV xs))
    have s2 := same_new hpl (.lst [])
    have s2' := same_new he (.lst [])
    obtain ⟨H1, hH1⟩ : ∃ H1, H1 = upd (upd (upd H D (.lst (iV xs))) pl (.lst [])) e (.lst []) := ⟨_, rfl⟩
    have D1 : H1 D = some (.lst (arr t.n (en xs))) := by rw [hH1, arr_en lx]; exact s2' _ _ (s2 _ _ upd_same)
    have l1 : H1 pl = some (.lst (nV [])) := by rw [hH1]; exact s2' _ _ upd_same
    have e1 : H1 e = some (.lst (iV [])) := by rw [hH1]; exact upd_same
    have Dp' : D ≠ pl := fun z => by rw [← z, upd_same] at hpl; cases hpl
    have De : D ≠ e := fun z => by rw [← z, s2 _ _ upd_same] at he; cases he
    have ple : pl ≠ e := fun z => by rw [← z, upd_same] at he; cases he
    have pl0 : H pl = none := s1.free hpl
    have e0 : H e = none := s1.free (s2.free he)
    have s01 : Same H H1 := by rw [hH1]; exact s1.trans (s2.trans s2')
    have M1 := M.same s01
    have ne : ∀ {a : Addr}, H a = none → a ≠ m ∧ a ≠ c := fun h => ⟨fun z => M.some (by rw [← z]; exact h), fun z => by rw [z, M.c] at h; cases h⟩
    rw [← hH1]
    refine ⟨_, rfl, by omega, by omega, ?_⟩
    have fin : ∀ {x' : Nat → Int} {ps : List Nat} {ms : List Int} {H2 : Hp} {y6 y7 y8 y9 : Option V} {i : Nat} {D' : Ends}, SameM m H H2 → MAt H2 m c cs (b + i) → i ≤ 5000 → H2 D = some (.lst (arr t.n x')) → H2 pl = some (.lst (nV ps)) → H2 e = some (.lst (iV ms)) → MT.Run t (MT.Leg t (inl fl)) (en xs) ps ms x' → MT.Bel t (inl fl) x' → True := fun _ _ _ _ _ _ _ _ => trivial
    refine for_it (walk_rg (n := (5000 : Int).toNat)) (fun i σ H' => ∃ y6 y7 y8 y9 x' ps ms, σ = [some (.ref m), some tv, some (.ref D), some (.ref fa), some (.ref pl), some (.ref e), y6, y7, y8, y9, none] ∧ SameM m H H' ∧ MAt H' m c cs (b + i) ∧ H' D = some (.lst (arr t.n x')) ∧ H' pl = some (.lst (nV ps)) ∧ H' e = some (.lst (iV ms)) ∧ MT.Run t (MT.Leg t (inl fl)) (en xs) ps ms x' ∧ ps.length = i)
      ⟨none, none, none, none, en xs, [], [], rfl, SameM.of s01, M1, D1, l1, e1, .nil, rfl⟩ (fun _ _ _ _ _ => trivial) ?_ ?_
    · rintro i z σ H2 H2' hi ⟨y6, y7, y8, y9, x', ps, ms, rfl, s3, M3, D3, l3, e3, run, li⟩ ⟨rfl, rfl⟩
      have g1 := run.ge_of B.toOkt ge bel
      have gl := MT.sm_ge_le g1
      have rl := run.len
      obtain ⟨Cx, bx⟩ := cy_run sx run (by omega)
      have hm3 : m ∈ [D, pl, e] ++ L := List.mem_append_right _ hm
      have hT2 : Trk H2' ([D, pl, e] ++ L) := (((hT.mS s3 M3.some).cons (p := e) (by rw [e3]; simp)).cons (p := pl) (by rw [l3]; simp)).cons (p := D) (by rw [D3]; simp)
      have fresh : ∀ x ∈ [D, pl, e], H x = none := by intro x hx; simp at hx; rcases hx with h | h | h <;> rw [h] <;> assumption
      refine ⟨_, rfl, _, rfl, [D, pl, e] ++ L, _, t, (List.range t.n).map x', D, rfl, hT2, B, Cx, dp_mono (wo_toM (SameM.wo s3 hm) fresh) dt, .inl (.inl (.inl D3)), fun rv H3 s4 d4 => ?_⟩
      rw [rowL_map B.toOkt] at d4
      obtain ⟨ra, rfl, hra⟩ := dp_ints.mp d4
      have hra' := (wo_le _ _).tup hra
      have D4 := s4 _ _ D3
      have e4 := s4 _ _ e3
      have l4 := s4 _ _ l3
      have M4 := M3.same s4
      have s34 := s3.trans (SameM.of s4)
      have hfa4 := (wo_le _ _).tup ((SameM.wo s34 hm).tup hfa)
      refine ⟨_, rfl, D, _, rfl, .inl (.inl (.inl D4)), _, rfl, by rw [arr_len]; omega, by rw [arr_len]; omega, ?_⟩
      rw [arr_len]
      refine lcw (K := K) (walk_rg (n := (t.n : Int).toNat)) L (fun k => if 0 < MT.rowE t x' k ∧ inl fl k = false then some (.int (k : Int)) else none) (by omega) (hT.mS s34 M4.some) (fun _ _ => trivial) ?_ ?_
      · rintro D2 k x H6 H7 R R0 hk s6 hT6 ⟨rfl, rfl⟩ hR hR0
        have hkn : k < t.n := by omega
        refine ⟨rfl, _, rfl, _, rfl, ra, _, _, _, rfl, rfl, s6.tup hra', atI_nat (j := k) (iV_at (n := MT.rowE t x' k) (by simp [hkn])), _, _, rfl, rfl, _, rfl, ?_⟩
        by_cases pos : 0 < MT.rowE t x' k
        · refine iteT' (decide_eq_true pos) ⟨_, rfl, _, rfl, in_nats (s6.tup hfa4) ⟨_, rfl, ?_⟩⟩
          by_cases f : inl fl k = true
          · exact iteF' (by simp [f]) (hR0 _ (if_neg fun z => by rw [f] at z; exact absurd z.2 (by simp)) (Same.refl _))
          · have f := Bool.eq_false_iff.mpr f
            exact iteT' (by simp [f]) ⟨_, rfl, hR _ _ _ (if_pos ⟨pos, f⟩) (Same.refl _) (.int _)⟩
        · exact iteF' (decide_eq_false pos) (hR0 _ (if_neg fun z => pos z.1) (Same.refl _))
      · intro D2 H6 zs hD2 s6 hz az
        obtain ⟨sp, hsp⟩ : ∃ sp, sp = spo t (inl fl) x' := ⟨_, rfl⟩
        have ef4 : (List.range (t.n : Int).toNat).filterMap (fun k => if 0 < MT.rowE t x' k ∧ inl fl k = false then some (PyData.int (k : Int)) else none) = nD sp := by
          rw [show (t.n : Int).toNat = t.n by omega, hsp]
          unfold nD spo
          rw [← filterMap_if (fun k => decide (0 < MT.rowE t x' k) && !inl fl k) fun (k : Nat) => PyData.int (k : Int)]
          congr 1
          funext k
          by_cases h : 0 < MT.rowE t x' k <;> by_cases h2 : inl fl k = true <;> simp [h, h2]
        rw [ef4] at az
        have ez := dpAll_nats.mp az
        subst ez
        have D6 := s6 _ _ D4
        have e6 := s6 _ _ e4
        have l6 := s6 _ _ l4
        have M6 := M4.same s6
        refine ⟨_, rfl, (by show 0 ≤ sizeLine; decide), fun e2 he2 => ?_⟩
        have s7 := same_new he2 (.lst [])
        obtain ⟨H7, hH7⟩ : ∃ H7, H7 = upd H6 e2 (.lst []) := ⟨_, rfl⟩
        have u7 : H7 e2 = some (.lst []) := by rw [hH7]; exact upd_same
        rw [← hH7] at s7 ⊢
        have hz7 := s7 _ _ hz
        have D7 := s7 _ _ D6
        have e7 := s7 _ _ e6
        have l7 := s7 _ _ l6
        have M7 := M6.same s7
        have ra7 := (s6.trans s7).tup hra'
        have sA := (s34.trans (SameM.of s6)).trans (SameM.of s7)
        have ssp : SeqAt.shaped (.list (nD sp)) = true := by rw [nD_eq]; exact shaped_iL _
        refine ⟨.list (nD sp), .list [], .lst (.inl (.inl hz7)) (dpAll_nats.mpr rfl), .lst (.inl (.inl u7)) .nil, ssp, shaped_iL [], _, rfl, ?_⟩
        rw [eqv_nilA]
        refine ite2 (fun z => ?_) (fun z => ?_)
        · have spn : sp = [] := by
            cases h : sp with
            | nil => rfl
            | cons x r => rw [h] at z; cases z
          rw [hsp] at spn
          refine ⟨_, rfl, D, _, rfl, .inl ⟨.inl (.inl D7), fun l hl => ?_⟩⟩
          have sl := same_new hl (.tup (arr t.n x'))
          refine ⟨_, rfl, pl, _, rfl, .inl ⟨.inl (.inl (sl _ _ l7)), fun l2 hl2 => ?_⟩⟩
          have sl2 := same_new hl2 (.tup (nV ps))
          refine ⟨_, rfl, e, _, rfl, .inl ⟨.inl (.inl (sl2 _ _ (sl _ _ e7))), fun l3 hl3 => ?_⟩⟩
          have sl3 := same_new hl3 (.tup (iV ms))
          refine ⟨(by show 3 ≤ sizeLine; decide), fun p hp => ?_⟩
          have sp' := same_new hp (.tup [.ref l, .ref l2, .ref l3])
          have hT7 := hT.mS sA M7.some
          have S4 := sl.trans (sl2.trans (sl3.trans sp'))
          refine q x' ps ms _ _ run (spo_nil spn) (sA.trans (SameM.of S4)) ((M7.same S4).mono (by omega) (by omega)) (tup_new (hT7.mono (sl.trans (sl2.trans sl3))) hp (.cons (dp_mono (wo_mono (sl2.trans sl3)) (tup_new hT7 hl (dpAll_ints.mpr rfl))) (.cons (dp_mono (wo_mono sl3) (tup_new (hT7.mono sl) hl2 (dpAll_nats.mpr rfl))) (.cons (tup_new (hT7.mono (sl.trans sl2)) hl3 (dpAll_ints.mpr rfl)) .nil))))
        · have spne : sp ≠ [] := fun h => by rw [h] at z; exact absurd rfl z
          have few2 : sp.length ≤ t.n := by
            rw [hsp]
            have := List.length_filter_le (fun k => decide (0 < MT.rowE t x' k) && !inl fl k) (List.range t.n)
            rw [List.length_range] at this
            exact this
          have D2m : D2 ≠ m := fun z => by rw [z] at hD2; exact M4.some hD2
          refine ⟨_, rfl, _, rfl, m, c, cs, _, .ref D2, sp.map fun (k : Nat) => (k : Int), rfl, M7, by omega, .lst (.inl (.inl (by rw [wo_out (by simpa using D2m), hz7, nV_eq]))) (dpAll_ints.mpr rfl), by rw [List.length_map]; exact List.length_pos_iff.mpr spne, by rw [List.length_map]; omega, fun r H8 hr8 s8 M8 => ?_⟩
          obtain ⟨la, hla, rfl⟩ := List.mem_map.mp hr8
          obtain ⟨ln, leg⟩ := spo_mem.mp (by rw [← hsp]; exact hla)
          have g2 := MT.step_ge B.toOkt g1 bel ln leg.1 leg.2
          have gl2 := MT.sm_ge_le g2
          rw [MT.sm_up ln] at gl2
          have D8 := s8.at D7 (ne hD).1
          have l8 := s8.at l7 (ne pl0).1
          have e8 := s8.at e7 (ne e0).1
          have ra8 := (SameM.wo s8 hm3).tup ((wo_mono (s6.trans s7)).tup hra)
          refine ⟨_, rfl, .inl ⟨rfl, _, .inl (.inl l8)⟩, _, rfl, pl, _, _, rfl, rfl, l8, by rw [nV_len]; exact szl (by omega), ?_⟩
          rw [← nV_snoc]
          obtain ⟨H9, hH9⟩ : ∃ H9, H9 = upd H8 pl (.lst (nV (ps ++ [la]))) := ⟨_, rfl⟩
          have l9 : H9 pl = some (.lst (nV (ps ++ [la]))) := by rw [hH9]; exact upd_same
          have D9 : H9 D = some (.lst (arr t.n x')) := by rw [hH9, upd_ne Dp']; exact D8
          have e9 : H9 e = some (.lst (iV ms)) := by rw [hH9, upd_ne ple.symm]; exact e8
          have M9 : MAt H9 m c cs (b + i + 1) := by rw [hH9]; exact M8.upd (ne pl0).1 (ne pl0).2
          have ra9 : SqT K H9 ra (iV ((List.range t.n).map (MT.rowE t x'))) := by
            refine (wo_le _ ([D, pl, e] ++ L)).tup ?_
            rw [hH9, wo_upd_in (by simp)]
            exact ra8
          have s9 : SameM m H H9 := by rw [hH9]; exact SameM.mut (sA.trans s8) pl0 _
          rw [← hH9]
          refine ⟨_, rfl, .inl ⟨rfl, _, .inl (.inl e9)⟩, _, rfl, _, rfl, ra, _, _, _, rfl, rfl, ra9, atI_nat (j := la) (iV_at (n := MT.rowE t x' la) (by simp [ln])), e, _, _, rfl, rfl, e9, by rw [iV_len]; exact szl (by omega), ?_⟩
          have ei : iV ms ++ [.int (MT.rowE t x' la)] = iV (ms ++ [MT.rowE t x' la]) := by unfold iV; rw [List.map_append]; rfl
          rw [ei]
          obtain ⟨H10, hH10⟩ : ∃ H10, H10 = upd H9 e (.lst (iV (ms ++ [MT.rowE t x' la]))) := ⟨_, rfl⟩
          have e10 : H10 e = some (.lst (iV (ms ++ [MT.rowE t x' la]))) := by rw [hH10]; exact upd_same
          have D10 : H10 D = some (.lst (arr t.n x')) := by rw [hH10, upd_ne De]; exact D9
          have l10 : H10 pl = some (.lst (nV (ps ++ [la]))) := by rw [hH10, upd_ne ple]; exact l9
          have M10 : MAt H10 m c cs (b + i + 1) := by rw [hH10]; exact M9.upd (ne e0).1 (ne e0).2
          have s10 : SameM m H H10 := by rw [hH10]; exact SameM.mut s9 e0 _
          rw [← hH10]
          refine ⟨_, rfl, _, rfl, D, _, _, _, rfl, rfl, .inl (.inl D10), atI_nat (j := la) (arr_at ln), _, _, rfl, rfl, _, rfl, _, rfl, D, _, _, la, rfl, rfl, D10, by rw [arr_len]; exact ixN_nat ln, ?_⟩
          rw [arr_set]
          refine ⟨_, _, _, _, _, ps ++ [la], ms ++ [MT.rowE t x' la], rfl, SameM.mut s10 hD _, M10.upd (ne hD).1 (ne hD).2, upd_same, by rw [upd_ne Dp'.symm]; exact l10, by rw [upd_ne De.symm]; exact e10, run.snoc ln leg, by rw [List.length_append, li]; rfl⟩
    · rintro σ H2 ⟨y6, y7, y8, y9, x', ps, ms, rfl, s3, M3, D3, l3, e3, run, li⟩
      have g1 := run.ge_of B.toOkt ge bel
      have gl := MT.sm_ge_le g1
      have rl := run.len
      have : (5000 : Int).toNat = 5000 := rfl
      omega

end
end Y
namespace Y
open PySem PySem.Spec PyProof.Rows L2
section
variable {P : Program} {w : World} {K : PySem.W.Frag} {mg : Str → Option Value} {base : Heap}
theorem ok_law (T : Txt K mg) : FnOk P w K mg base CX0 38 T.a_law T.fd_law ["script"] (sp_law K) := by
  refine T.F_law.ok sc_law (fun vs H Q E h => ?_) (fun cdv A outer s H vs Q E hr h => ?_)
  · obtain ⟨a, ns, rfl, _⟩ := h
    rfl
  · obtain ⟨a, ns, rfl, hs, hlen, q⟩ := h
    have hs : SqL K H a (iV ns) := hs
    refine ⟨_, (pss_cons (ps_if (PW.pt (pw_or (pt_cmpR (op_neDK K rfl hr.units) (pe_call (ok_above T) (hr.mono (by decide)) rfl T.g_above T.F_above.kp T.b_above .nil pass0 (pa_cons (pe_tup (pa_cons (pe_tup pa_nil) (pa_cons (pe_tup pa_nil) pa_nil))) (pa_cons (pe_tup pa_nil) pa_nil))) (pe_tup pa_nil) (nomark _)) (pw_or (pt_cmpR (op_neDK K rfl hr.units) (pe_call (ok_above T) (hr.mono (by decide)) rfl T.g_above T.F_above.kp T.b_above .nil pass0 (pa_cons (pe_tup (pa_cons (pe_tup (pa_cons (pe_un un_neg pe_int) pa_nil)) (pa_cons (pe_tup pa_nil) pa_nil))) (pa_cons (pe_tup (pa_cons (pe_un un_neg pe_int) pa_nil)) pa_nil))) (pe_tup (pa_cons pe_int pa_nil)) (nomark _)) (pw_or1 (pt_cmpR (op_neDK K rfl hr.units) (pe_call (ok_above T) (hr.mono (by decide)) rfl T.g_above T.F_above.kp T.b_above .nil pass0 (pa_cons (pe_tup (pa_cons (pe_tup (pa_cons (pe_un un_neg pe_int) pa_nil)) (pa_cons (pe_tup pa_nil) pa_nil))) (pa_cons (pe_tup (pa_cons (pe_un un_neg pe_int) pa_nil)) pa_nil))) (pe_tup (pa_cons pe_int pa_nil)) (nomark _))))))
        (pss_one (ps_ret pe_bl))
        pss_nil)
      (pss_cons (ps_for PassesOwn.never rfl (pi_range1 rfl T.z_range (pa_cons (pe_callB (call_max2 rfl) (by rfl) T.z_max (by decide +kernel) (pa_cons pe_int (pa_cons (pe_callB (call_min2 rfl) (by rfl) T.z_min (by decide +kernel) (pa_cons (pe_callB (call_lenK K rfl) (by rfl) T.z_len PySem.boot_len (pa_cons (pv 0) pa_nil)) (pa_cons pe_int pa_nil))) pa_nil))) pa_nil)) (pg_name (i := 1) sc_law.nd rfl (Or.inl rfl))
        (pss_cons (ps_set (i := 2) sc_law.nd rfl (Or.inr rfl) (pe_call (ok_law_begun T) (hr.mono (by decide)) rfl T.g_law_begun T.F_law_begun.kp T.b_law_begun .nil pass0 (pa_cons (pv 0) (pa_cons (pv 1) pa_nil))))
        (pss_cons (ps_set (i := 3) sc_law.nd rfl (Or.inl rfl) (pe_call (ok_law_filled T) (hr.mono (by decide)) rfl T.g_law_filled T.F_law_filled.kp T.b_law_filled .nil pass0 (pa_cons (pv 2) (pa_cons pe_int pa_nil))))
        (pss_cons (ps_set (i := 4) sc_law.nd rfl (Or.inl rfl) (pe_callB (call_lenK K rfl) (by rfl) T.z_len PySem.boot_len (pa_cons (pe_ix (ix_tupK K rfl) (pv 3) pe_int (fun _ _ => rfl)) pa_nil)))
        (pss_cons (ps_set (i := 5) sc_law.nd rfl (Or.inr rfl) (pe_callTy (call_tupK K rfl) (by rfl) T.z_tuple (by decide +kernel) (pa_cons (pe_lc (own := [("j", 11)]) rfl sc_law.nd (pi_range1 rfl T.z_range (pa_cons (pv 4) pa_nil)) (blkOk_by (own := [("j", 11)]) (N := ["script", "k", "m", "tree", "n", "x", "told", "more", "far", "other", "low", "j", "entry"]) (sc := defScope s_law) (by decide +kernel)) (fun _ _ _ _ _ => (pg_name (i := 11) sc_law.nd rfl (Or.inl rfl))) (fun _ _ _ _ _ => pts_nil) (fun _ _ _ _ _ => (pe_op op_sub (pe_call (ok_law_draw T) (hr.mono (by decide)) rfl T.g_law_draw T.F_law_draw.kp T.b_law_draw .nil pass0 (pa_cons (pv 2) (pa_cons pe_int pa_nil))) pe_int))) pa_nil)))
        (pss_cons (ps_set (i := 6) sc_law.nd rfl (Or.inr rfl) (pe_call (ok_above T) (hr.mono (by decide)) rfl T.g_above T.F_above.kp T.b_above .nil pass0 (pa_cons (pv 3) (pa_cons (pv 5) pa_nil))))
        (pss_cons (ps_if (PW.pt (pw_or (pt_not (pt_val (pe_callB (call_isiK K rfl) (by rfl) T.z_isinstance (by decide +kernel) (pa_cons (pv 6) (pa_cons (pe_bltn (v := .ty "tuple") (by rfl) T.z_tuple (by decide +kernel) rfl) pa_nil))))) (pw_or1 (pt_cmpR (op_neDK K rfl hr.units) (pv 6) (pe_ix (ix_tupK K rfl) (pe_call (ok_law_above T) (hr.mono (by decide)) rfl T.g_law_above T.F_law_above.kp T.b_law_above .nil pass0 (pa_cons (pv 3) (pa_cons (pv 5) (pa_cons (pe_tup pa_nil) pa_nil)))) pe_int (fun _ _ => rfl)) (nomark _)))))
          (pss_one (ps_ret pe_bl))
          pss_nil)
        (pss_cons (ps_if (pt_cmpR (op_neDK K rfl hr.units) (pv 6) (pe_ix (ix_tupK K rfl) (pe_call (ok_law_any_steps T) (hr.mono (by decide)) rfl T.g_law_any_steps T.F_law_any_steps.kp T.b_law_any_steps .nil pass0 (pa_cons (pv 2) (pa_cons (pv 3) (pa_cons (pv 5) (pa_cons (pe_tup pa_nil) pa_nil))))) pe_int (fun _ _ => rfl)) (nomark _))
          (pss_one (ps_ret pe_bl))
          pss_nil)
        (pss_cons (ps_if (PW.pt (pw_or (pt_cmpR (op_neDK K rfl hr.units) (pe_lc (own := [("j", 11)]) rfl sc_law.nd (pi_range1 rfl T.z_range (pa_cons (pv 4) pa_nil)) (blkOk_by (own := [("j", 11)]) (N := ["script", "k", "m", "tree", "n", "x", "told", "more", "far", "other", "low", "j", "entry"]) (sc := defScope s_law) (by decide +kernel)) (fun _ _ _ _ _ => (pg_name (i := 11) sc_law.nd rfl (Or.inl rfl))) (fun _ _ _ _ _ => pts_one (pt_cmpR op_lt (pe_ix (ix_tupK K rfl) (pv 6) (pv 11) (fun _ _ => rfl)) (pe_ix (ix_tupK K rfl) (pv 5) (pv 11) (fun _ _ => rfl)) (nomark _))) (fun _ _ _ _ _ => (pv 11))) (pe_lst pa_nil) (nomark _)) (pw_or1 (pt_cmpR op_gt (pe_callB (cr_maxT K rfl rfl hr.units) (by rfl) T.z_max (by decide +kernel) (pa_cons (pe_call (ok_law_row T) (hr.mono (by decide)) rfl T.g_law_row T.F_law_row.kp T.b_law_row .nil pass0 (pa_cons (pv 3) (pa_cons (pv 6) pa_nil))) pa_nil)) pe_int (nomark _)))))
          (pss_one (ps_ret pe_bl))
          pss_nil)
        (pss_cons (ps_if (pt_cmpR (op_neDK K rfl hr.units) (pe_call (ok_above T) (hr.mono (by decide)) rfl T.g_above T.F_above.kp T.b_above .nil pass0 (pa_cons (pv 3) (pa_cons (pv 6) pa_nil))) (pv 6) (nomark _))
          (pss_one (ps_ret pe_bl))
          pss_nil)
        (pss_cons (ps_set (i := 7) sc_law.nd rfl (Or.inl rfl) (pe_callTy (call_tupK K rfl) (by rfl) T.z_tuple (by decide +kernel) (pa_cons (pe_lc (own := [("entry", 12)]) rfl sc_law.nd (pi_tup (pv 5)) (blkOk_by (own := [("entry", 12)]) (N := ["script", "k", "m", "tree", "n", "x", "told", "more", "far", "other", "low", "j", "entry"]) (sc := defScope s_law) (by decide +kernel)) (fun _ _ _ _ _ => (pg_name (i := 12) sc_law.nd rfl (Or.inl rfl))) (fun _ _ _ _ _ => pts_nil) (fun _ _ _ _ _ => (pe_op op_add (pv 12) (pe_call (ok_law_of T) (hr.mono (by decide)) rfl T.g_law_of T.F_law_of.kp T.b_law_of .nil pass0 (pa_cons (pv 2) (pa_cons (pe_lst (pa_cons pe_int (pa_cons pe_int (pa_cons pe_int (pa_cons pe_int pa_nil))))) pa_nil)))))) pa_nil)))
        (pss_cons (ps_set (i := 8) sc_law.nd rfl (Or.inr rfl) (pe_call (ok_above T) (hr.mono (by decide)) rfl T.g_above T.F_above.kp T.b_above .nil pass0 (pa_cons (pv 3) (pa_cons (pv 7) pa_nil))))
        (pss_cons (ps_if (pt_cmpR (op_neDK K rfl hr.units) (pe_lc (own := [("j", 11)]) rfl sc_law.nd (pi_range1 rfl T.z_range (pa_cons (pv 4) pa_nil)) (blkOk_by (own := [("j", 11)]) (N := ["script", "k", "m", "tree", "n", "x", "told", "more", "far", "other", "low", "j", "entry"]) (sc := defScope s_law) (by decide +kernel)) (fun _ _ _ _ _ => (pg_name (i := 11) sc_law.nd rfl (Or.inl rfl))) (fun _ _ _ _ _ => pts_one (pt_cmpR op_lt (pe_ix (ix_tupK K rfl) (pv 8) (pv 11) (fun _ _ => rfl)) (pe_ix (ix_tupK K rfl) (pv 6) (pv 11) (fun _ _ => rfl)) (nomark _))) (fun _ _ _ _ _ => (pv 11))) (pe_lst pa_nil) (nomark _))
          (pss_one (ps_ret pe_bl))
          pss_nil)
        (pss_cons (ps_set (i := 9) sc_law.nd rfl (Or.inr rfl) (pe_call (ok_above T) (hr.mono (by decide)) rfl T.g_above T.F_above.kp T.b_above .nil pass0 (pa_cons (pv 3) (pa_cons (pe_callTy (call_tupK K rfl) (by rfl) T.z_tuple (by decide +kernel) (pa_cons (pe_lc (own := [("j", 11)]) rfl sc_law.nd (pi_range1 rfl T.z_range (pa_cons (pv 4) pa_nil)) (blkOk_by (own := [("j", 11)]) (N := ["script", "k", "m", "tree", "n", "x", "told", "more", "far", "other", "low", "j", "entry"]) (sc := defScope s_law) (by decide +kernel)) (fun _ _ _ _ _ => (pg_name (i := 11) sc_law.nd rfl (Or.inl rfl))) (fun _ _ _ _ _ => pts_nil) (fun _ _ _ _ _ => (pe_op op_sub (pe_call (ok_law_draw T) (hr.mono (by decide)) rfl T.g_law_draw T.F_law_draw.kp T.b_law_draw .nil pass0 (pa_cons (pv 2) (pa_cons pe_int pa_nil))) pe_int))) pa_nil)) pa_nil))))
        (pss_cons (ps_set (i := 10) sc_law.nd rfl (Or.inl rfl) (pe_callTy (call_tupK K rfl) (by rfl) T.z_tuple (by decide +kernel) (pa_cons (pe_lc (own := [("j", 11)]) rfl sc_law.nd (pi_range1 rfl T.z_range (pa_cons (pv 4) pa_nil)) (blkOk_by (own := [("j", 11)]) (N := ["script", "k", "m", "tree", "n", "x", "told", "more", "far", "other", "low", "j", "entry"]) (sc := defScope s_law) (by decide +kernel)) (fun _ _ _ _ _ => (pg_name (i := 11) sc_law.nd rfl (Or.inl rfl))) (fun _ _ _ _ _ => pts_nil) (fun _ _ _ _ _ => (pe_callB (call_min2 rfl) (by rfl) T.z_min (by decide +kernel) (pa_cons (pe_ix (ix_tupK K rfl) (pv 6) (pv 11) (fun _ _ => rfl)) (pa_cons (pe_ix (ix_tupK K rfl) (pv 9) (pv 11) (fun _ _ => rfl)) pa_nil))))) pa_nil)))
        (pss_one (ps_if (pt_cmpR (op_neDK K rfl hr.units) (pe_call (ok_above T) (hr.mono (by decide)) rfl T.g_above T.F_above.kp T.b_above .nil pass0 (pa_cons (pv 3) (pa_cons (pv 10) pa_nil))) (pv 10) (nomark _))
          (pss_one (ps_ret pe_bl))
          pss_nil)))))))))))))))))
      (pss_one (ps_ret pe_bl)))), ?_⟩
    have bt60 : ∀ {t : Tr}, B60 t → Bt t := fun B => ⟨B.toTree, fun x m => by have := B.w60 x m; omega⟩
    have hand : ∀ {w x : Int}, (w = -1 ∨ w = -2) → -100 ≤ x → x ≤ 0 → ∃ y, Bt ⟨[w], []⟩ ∧ MT.Pos ⟨[w], []⟩ ∧ Cy ⟨[w], []⟩ [x] ∧ MT.Ge 1 (en [x]) y ∧ MT.Bel ⟨[w], []⟩ MT.no y ∧ MT.sm y (List.range 1) - MT.sm (en [x]) (List.range 1) ≤ 5000 ∧ ∀ zs, zs.length = 1 → MT.Top ⟨[w], []⟩ MT.no (en [x]) (en zs) → zs = [0] := fun {w x} hw x1 x2 => by
      obtain ⟨f1, f2, f3, f4, f5⟩ := fill_one (w := w) (by omega)
      have row : ∀ y : Nat → Int, MT.rowE ⟨[w], []⟩ y 0 = w * y 0 := fun y => by unfold MT.rowE; show w * y 0 + 0 = _; omega
      have e0 : en [x] 0 = x := rfl
      have one : ∀ v, v < 1 → v = 0 := fun v h => by omega
      refine ⟨fun _ => 0, bt60 f1, f2, ⟨rfl, fun y hy => by simp at hy; rw [hy]; exact Nat.le_trans (show x.natAbs ≤ 2 ^ 7 by omega) (Nat.pow_le_pow_right (by omega) (by omega))⟩, fun v hv => by rw [one v hv, e0]; exact x2, fun v hv _ => by rw [one v hv, row]; omega, ?_, fun zs hl top => ?_⟩
      · show 0 + 0 - (en [x] 0 + 0) ≤ 5000
        rw [e0]; omega
      · have T0 : MT.Top ⟨[w], []⟩ MT.no (en [x]) (en [0]) := by
          refine ⟨fun v hv => by rw [one v hv, e0]; exact x2, fun v hv _ => by rw [one v hv, row]; show w * 0 ≤ 0; omega, fun y g b v hv => ?_⟩
          rw [one v hv]
          have := b 0 (by show 0 < 1; omega) rfl
          rw [row] at this
          show (0 : Int) ≤ y 0
          rcases hw with hw | hw <;> rw [hw] at this <;> omega
        have := top.uniq T0 0 (by show 0 < 1; omega)
        obtain ⟨z, rfl⟩ : ∃ z, zs = [z] := by
          match zs, hl with
          | [z], _ => exact ⟨z, rfl⟩
        have : z = 0 := this
        rw [this]
    dsimp only [tSeq, tIfS, tOr, tTest, tOp, tCall]
    refine LitA.use (K := K) (L := []) (ds := [trD tE, .tuple (iD [])]) ?l1 fun vs1 H1 s1 d1 => ?_
    case l1 => repeat' (first | exact lit_int | exact lit_neg | exact lit_nil | refine lit_cons ?_ ?_ | refine lit_tup (Trk.nil _) ?_ (by decide))
    match vs1, d1 with
    | _, .cons da1 (.cons db1 .nil) =>
    refine ⟨[], _, _, tE, [], fun _ => 0, rfl, Trk.nil _, bt_E, pos_E, ⟨rfl, fun x hx => nomatch hx⟩, da1, db1, fun v hv => absurd hv (Nat.not_lt_zero v), fun v hv => absurd hv (Nat.not_lt_zero v), by decide, fun zs1 hl1 top1 v1 H1' t1 e1 => ?_⟩
    obtain rfl : zs1 = [] := List.length_eq_zero_iff.mp hl1
    refine ⟨(by show 0 ≤ sizeLine; decide), fun p1 hp1 => ne_ints (ys := []) (dp_mono (wo_le _ []) (dp_mono (wo_mono (same_new hp1 _)) e1)) (.tup (.inl (.inl upd_same)) .nil) rfl ⟨_, rfl, ?_⟩⟩
    refine iteF ?_
    refine LitA.use (K := K) (L := []) (ds := [trD ⟨[-1], []⟩, .tuple (iD [-40])]) ?l2 fun vs2 H2 s2 d2 => ?_
    case l2 => repeat' (first | exact lit_int | exact lit_neg | exact lit_nil | refine lit_cons ?_ ?_ | refine lit_tup (Trk.nil _) ?_ (by decide))
    match vs2, d2 with
    | _, .cons da2 (.cons db2 .nil) =>
    obtain ⟨y2, h1, h2, h3, h4, h5, h6, h7⟩ := hand (w := -1) (x := -40) (by omega) (by omega) (by omega)
    refine ⟨[], _, _, ⟨[-1], []⟩, [-40], y2, rfl, Trk.nil _, h1, h2, h3, da2, db2, h4, h5, h6, fun zs2 hl2 top2 v2 H2' t2 e2 => ?_⟩
    obtain rfl := h7 zs2 hl2 top2
    refine ⟨(by show 1 ≤ sizeLine; decide), fun p2 hp2 => ne_ints (ys := [0]) (dp_mono (wo_le _ []) (dp_mono (wo_mono (same_new hp2 _)) e2)) (.tup (.inl (.inl upd_same)) (.cons (.int 0) .nil)) rfl ⟨_, rfl, ?_⟩⟩
    refine iteF ?_
    refine LitA.use (K := K) (L := []) (ds := [trD ⟨[-2], []⟩, .tuple (iD [-3])]) ?l3 fun vs3 H3 s3 d3 => ?_
    case l3 => repeat' (first | exact lit_int | exact lit_neg | exact lit_nil | refine lit_cons ?_ ?_ | refine lit_tup (Trk.nil _) ?_ (by decide))
    match vs3, d3 with
    | _, .cons da3 (.cons db3 .nil) =>
    obtain ⟨y3, h1, h2, h3, h4, h5, h6, h7⟩ := hand (w := -2) (x := -3) (by omega) (by omega) (by omega)
    refine ⟨[], _, _, ⟨[-2], []⟩, [-3], y3, rfl, Trk.nil _, h1, h2, h3, da3, db3, h4, h5, h6, fun zs3 hl3 top3 v3 H3' t3 e3 => ?_⟩
    obtain rfl := h7 zs3 hl3 top3
    refine ⟨(by show 1 ≤ sizeLine; decide), fun p3 hp3 => ne_ints (ys := [0]) (dp_mono (wo_le _ []) (dp_mono (wo_mono (same_new hp3 _)) e3)) (.tup (.inl (.inl upd_same)) (.cons (.int 0) .nil)) rfl ⟨_, rfl, ?_⟩⟩
    refine iteF' rfl ?_
    have sH : Same H (upd H3' p3 (.tup [.int 0])) := ((((s1.trans t1).trans (same_new hp1 _)).trans ((s2.trans t2).trans (same_new hp2 _))).trans (s3.trans t3)).trans (same_new hp3 _)
    obtain ⟨H0, hH0⟩ : ∃ H0, H0 = upd H3' p3 (.tup [.int 0]) := ⟨_, rfl⟩
    rw [← hH0] at sH ⊢
    refine ⟨_, rfl, a, _, rfl, .inl (sH.seq hs), _, _, rfl, _, _, rfl, _, rfl, ?_⟩
    obtain ⟨N, hN⟩ : ∃ N : Int, N = if (if 5 < ((iV ns).length : Int) then 5 else ((iV ns).length : Int)) > 2 then (if 5 < ((iV ns).length : Int) then 5 else ((iV ns).length : Int)) else 2 := ⟨_, rfl⟩
    have hN5 : 0 ≤ N ∧ N ≤ 5 := by
      rw [hN]
      split
      · split <;> omega
      · omega
    rw [← hN]
    refine ⟨by omega, by omega, ?_⟩
    refine for_it (walk_rg (n := N.toNat)) (fun i σ H' => (∃ y1 y2 y3 y4 y5 y6 y7 y8 y9 y10, σ = [some (.ref a), y1, y2, y3, y4, y5, y6, y7, y8, y9, y10, none, none]) ∧ Same H H') ⟨⟨none, none, none, none, none, none, none, none, none, none, rfl⟩, sH⟩ (fun _ _ _ _ _ => trivial) ?_ ?_
    · rintro k x σ K0 K0' hk ⟨⟨y1, y2, y3, y4, y5, y6, y7, y8, y9, y10, rfl⟩, s0⟩ ⟨rfl, rfl⟩
      refine ⟨_, rfl, _, rfl, a, ns, k, rfl, s0.seq hs, hlen, by omega, fun m c cs H1 s1 m0 M1 => ?_⟩
      have tm : ∀ {H' : Hp} {b : Nat}, MAt H' m c cs b → Trk H' [m] := fun M => (Trk.nil _).cons M.some
      have mm : m ∈ [m] := by simp
      refine ⟨_, rfl, [m], m, c, cs, 0, 8, rfl, mm, tm M1, M1, by omega, by omega, fun t tv H2 B0 P0 hn h8 zb s2 M2 d2 => ?_⟩
      have B := bt60 B0
      have O := B.toOkt
      have few := B.few
      have hwl : t.ws.length = t.n := rfl
      obtain ⟨a2, b2, c2, p2, rfl, ha2, hb2, hc2, hp2⟩ := dp_tr.mp d2
      refine ⟨_, rfl, a2, _, _, _, rfl, rfl, (wo_le _ _).tup ha2, atI_nat (j := 0) rfl, b2, _, rfl, .inr ((wo_le _ _).tup hb2), ?_⟩
      have dt : ∀ {H' : Hp}, SameM m H2 H' → Dp K (wo H' [m]) (.ref a2) (trD t) := fun s => dp_mono (SameM.wo s mm) d2
      -- x
      refine ⟨_, rfl, _, rfl, by rw [iV_len]; omega, by rw [iV_len]; omega, fun D3 hD3 => ?_⟩
      have D0_3 : H2 D3 = none := SameM.free (SameM.of (Same.refl H2)) hD3 M2.some M2.some
      have Dm_3 : D3 ≠ m := fun e => M2.some (by rw [← e]; exact hD3)
      have Dc_3 : D3 ≠ c := fun e => by rw [e, M2.c] at hD3; cases hD3
      rw [iV_len]
      refine lc_range (lo := 0) (n := t.n) (fun j H' => SameM m H2 H' ∧ MAt H' m c cs (1100 + j) ∧ ∃ ws, H' D3 = some (.lst (iV ws)) ∧ ws.length = j ∧ ∀ x ∈ ws, -6 ≤ x ∧ x ≤ 6)
        ⟨SameM.mut (SameM.of (Same.refl H2)) D0_3 _, (M2.same (same_new hD3 _)).mono (by omega) (by omega), [], upd_same, rfl, by simp⟩ ?_ ?_
      · rintro j H' hj ⟨s8, M8, ws, eD, hl, hw⟩
        refine ⟨rfl, _, rfl, m, c, cs, _, _, rfl, M8, by omega, by omega, by omega, fun x H9 x0 x1 s9 M9 => ?_⟩
        refine ⟨_, _, rfl, rfl, _, s9.at eD Dm_3, by rw [iV_len]; exact szl (by omega), SameM.mut (s8.trans s9) D0_3 _, (M9.upd Dm_3 Dc_3).mono (by omega) (by omega), ws ++ [x - 6], ?_, by rw [List.length_append, hl]; rfl, ?_⟩
        · rw [upd_same]
          unfold iV
          rw [List.map_append]
          rfl
        · intro y hy
          rcases List.mem_append.mp hy with hy | hy
          · exact hw y hy
          · simp at hy
            omega
      rintro G3 ⟨r3, N3, ws3, eD3, lw3, bw3⟩
      have en3 : ∀ v, v < t.n → -6 ≤ en ws3 v ∧ en ws3 v ≤ 6 := fun v hv => bw3 _ (by unfold en; rw [List.getD_eq_getElem?_getD, List.getElem?_eq_getElem (by omega)]; exact List.getElem_mem _)
      refine ⟨D3, _, rfl, .inl ⟨.inl (.inl eD3), fun l3 hl3 => ?_⟩⟩
      have dw3 := tup_new (K := K) (L := [m]) (tm N3) hl3 (show DpAll K (wo G3 [m]) (iV ws3) (iD ws3) from dpAll_ints.mpr rfl)
      have sl3 := same_new hl3 (.tup (iV ws3))
      obtain ⟨J3, hJ3⟩ : ∃ J, J = upd G3 l3 (.tup (iV ws3)) := ⟨_, rfl⟩
      rw [← hJ3] at dw3 sl3 ⊢
      have R3 : SameM m H2 J3 := r3.trans (SameM.of sl3)
      have P3 := N3.same sl3

      have bk : ∀ {Hx Hy : Hp}, SameM m H2 Hx → Same Hx Hy → SameM m H2 Hy := fun a b => a.trans (SameM.of b)
      obtain ⟨C3, S3⟩ := seg_cy lw3 en3 (by omega) (by omega)
      obtain ⟨y3', g3, b3, u3, v3⟩ := zb_use (c := 9) zb (by omega) (xs := ws3) fun v hv => by have := en3 v hv; omega
      -- told
      refine ⟨_, rfl, _, rfl, [m], _, _, t, ws3, y3', rfl, tm P3, B, P0, C3, dt R3, dw3, g3, b3, by omega, fun zs lz top v5 H5 s5 d5 => ?_⟩
      have ez : ∀ v, v < t.n → -9 ≤ en zs v ∧ en zs v ≤ 9 * 151 := fun v hv => by
        have := top.ge v hv
        have := en3 v hv
        have := top.least _ g3 b3 v hv
        have := v3 v hv
        omega
      obtain ⟨Cz, Sz⟩ := seg_cy lz ez (by omega) (by omega)
      obtain ⟨tz, rfl, htz⟩ := dp_ints.mp d5
      have M5 := P3.same s5
      have R5 := bk R3 s5
      have tz5 := (wo_le _ _).tup htz
      have x5 : SqT K H5 l3 (iV ws3) := s5.tup (.inl (.inl (by rw [hJ3]; exact upd_same)))
      have dx5 := dp_mono (wo_mono (L := [m]) s5) dw3
      refine ⟨_, rfl, ?_⟩
      simp only [tCons, tC, tNil]
      refine isi_tup tz5 ⟨_, rfl, iteF ⟨_, rfl, _, rfl, _, rfl, (by show 0 ≤ sizeLine; decide), fun f1 hf1 => ?_⟩⟩
      have sf1 := same_new hf1 (.tup [])
      have M6 := M5.same sf1
      have R6 := bk R5 sf1
      have df1 := tup_new (K := K) (L := [m]) (tm M5) hf1 (ys := []) (ds := nD []) .nil
      have eqz : ∀ {x' : Nat → Int}, MT.Top t MT.no (en ws3) x' → zs = (List.range t.n).map x' := fun h => by
        rw [← map_en lz]
        exact List.map_congr_left fun v hv => top.uniq h v (List.mem_range.mp hv)
      have run_top : ∀ {x' : Nat → Int} {ps : List Nat} {ms : List Int}, MT.Run t (MT.Leg t (inl [])) (en ws3) ps ms x' → MT.Bel t (inl []) x' → MT.Top t MT.no (en ws3) x' := fun r b => by
        rw [inl_nil] at r b
        exact r.top O _ (MT.Top.self b)
      refine ⟨[m], _, _, _, t, ws3, [], y3', rfl, tm M6, B, lw3, S3, dt R6, dp_mono (wo_mono sf1) dx5, df1, by decide, g3, by rw [inl_nil]; exact b3, by omega, fun x' ps ms run bel v7 H7 s7 d7 => ?_⟩
      obtain ⟨pa, pas, rfl, hpa, hpas⟩ := dp_tup d7
      cases hpas with
      | cons q1 hpas =>
      have M7 := M6.same s7
      have R7 := bk R6 s7
      have s57 := sf1.trans s7
      refine ⟨pa, _, _, _, rfl, rfl, (wo_le _ _).tup hpa, atI_nat (j := 0) rfl, ne_ints (dp_mono (wo_le _ [m]) (dp_mono (wo_mono s57) d5)) (dp_mono (wo_le _ _) q1) (eqz (run_top run bel)) ⟨_, rfl, iteF' rfl ?_⟩⟩
      -- any steps
      refine ⟨_, rfl, _, rfl, _, rfl, _, rfl, (by show 0 ≤ sizeLine; decide), fun f2 hf2 => ?_⟩
      have sf2 := same_new hf2 (.tup [])
      have M8 := M7.same sf2
      have R8 := bk R7 sf2
      have df2 := tup_new (K := K) (L := [m]) (tm M7) hf2 (ys := []) (ds := nD []) .nil
      have s58 := s57.trans sf2
      refine ⟨[m], m, c, cs, _, _, _, _, t, ws3, [], y3', rfl, mm, tm M8, M8, by omega, B, lw3, S3, dt R8, dp_mono (wo_mono s58) dx5, df2, by decide, g3, by rw [inl_nil]; exact b3, by omega, fun x2 ps2 ms2 v9 H9 run2 bel2 s9 M9 d9 => ?_⟩
      obtain ⟨pb, pbs, rfl, hpb, hpbs⟩ := dp_tup d9
      cases hpbs with
      | cons q2 hpbs =>
      have R9 := R8.trans s9
      have S59 : SameM m H5 H9 := (SameM.of s58).trans s9
      have d5' : Dp K (wo H9 [m]) (.ref tz) (.tuple (iD zs)) := dp_mono (SameM.wo S59 mm) d5
      have dx9 : Dp K (wo H9 [m]) (.ref l3) (.tuple (iD ws3)) := dp_mono (SameM.wo S59 mm) dx5
      have tz9 : SqT K H9 tz (iV zs) := (wo_le _ _).tup ((SameM.wo S59 mm).tup htz)
      have x9 : SqT K H9 l3 (iV ws3) := by
        obtain ⟨g, e, h⟩ := dp_ints.mp dx9
        cases e
        exact (wo_le _ _).tup h
      refine ⟨pb, _, _, _, rfl, rfl, (wo_le _ _).tup hpb, atI_nat (j := 0) rfl, ne_ints (dp_mono (wo_le _ [m]) d5') (dp_mono (wo_le _ _) q2) (eqz (run_top run2 bel2)) ⟨_, rfl, iteF' rfl ?_⟩⟩
      -- none below x
      refine ⟨_, rfl, _, rfl, by omega, by omega, ?_⟩
      refine lcw (K := K) (walk_rg (n := (t.n : Int).toNat)) [m] (fun _ => none) (by omega) (tm M9) (fun _ _ => trivial) ?_ ?_
      · rintro X j x Xa Xb R R0 hj sx hTx ⟨rfl, rfl⟩ hR hR0
        have hjn : j < t.n := by omega
        refine ⟨rfl, _, rfl, _, rfl, tz, _, _, _, rfl, rfl, sx.tup tz9, atI_nat (j := j) (iV_at (Cz.at hjn)), _, rfl, _, rfl, l3, _, _, _, rfl, rfl, sx.tup x9, atI_nat (j := j) (iV_at (C3.at hjn)), _, _, rfl, rfl, _, rfl, iteF' ?_ (hR0 _ rfl (Same.refl _))⟩
        have := top.ge j hjn
        exact decide_eq_false (by omega)
      intro Da Fa zsa hDa sa hza aza
      rw [fm_none fun _ _ => rfl] at aza
      cases aza
      refine ⟨(by show 0 ≤ sizeLine; decide), fun ea hea => ?_⟩
      have sea := same_new hea (.lst [])
      have s10 := sa.trans sea
      refine ne_nilL (.lst (.inl (.inl (sea _ _ hza))) .nil) upd_same ⟨_, rfl, iteF' rfl ?_⟩
      have M10 := M9.same s10
      have R10 := bk R9 s10
      -- the row of told
      refine ⟨_, rfl, _, rfl, [m], _, t, zs, tz, rfl, tm M10, B, Cz, dt R10, .inr (s10.tup tz9), fun rv H11 s11 d11 => ?_⟩
      obtain ⟨rva, rfl, hrva⟩ := dp_ints.mp d11
      refine ⟨rva, _, rfl, (wo_le _ _).tup hrva, by rw [rowL_len]; exact hn, fun mx hmx _ => ⟨_, _, rfl, rfl, _, rfl, iteF' (decide_eq_false (by have := row_max top.bel hmx; omega)) ?_⟩⟩
      have M11 := M10.same s11
      have R11 := bk R10 s11
      have s9_11 := s10.trans s11
      -- above told
      refine ⟨_, rfl, _, rfl, [m], _, _, t, zs, en zs, rfl, tm M11, B, P0, Cz, dt R11, dp_mono (wo_mono s9_11) d5', fun v _ => Int.le_refl _, top.bel, by omega, fun z2 lz2 top2 v12 H12 s12 d12 => ?_⟩
      have ezz : z2 = zs := by
        rw [← map_en lz2, ← map_en lz]
        exact List.map_congr_left fun v hv => top2.uniq (MT.Top.self top.bel) v (List.mem_range.mp hv)
      have s9_12 := s9_11.trans s12
      refine ⟨_, rfl, ne_ints (dp_mono (wo_le _ [m]) d12) (dp_mono (wo_le _ [m]) (dp_mono (wo_mono s9_12) d5')) ezz ⟨_, rfl, iteF' rfl ?_⟩⟩
      have M12 := M11.same s12
      have R12 := bk R11 s12
      -- more
      refine ⟨_, rfl, l3, rfl, ⟨_, s9_12.tup x9⟩, ?_⟩
      have R12' : SameM m H12 H12 := SameM.of (Same.refl _)
      intro D4 hD4
      have D4m : D4 ≠ m := fun e => M12.some (by rw [← e]; exact hD4)
      have D4c : D4 ≠ c := fun e => by rw [e, M12.c] at hD4; cases hD4
      have x12 : Dp K (wo H12 [m]) (.ref l3) (.tuple (iD ws3)) := dp_mono (wo_mono s9_12) dx9
      have dts : ∀ {g : Addr} {us : List Int} {H' : Hp}, Dp K (wo H' [m]) (.ref g) (.tuple (iD us)) → SqT K H' g (iV us) := fun h => by
        obtain ⟨g, e, h⟩ := dp_ints.mp h
        cases e
        exact (wo_le _ _).tup h
      refine lc_it walk_tup (fun i H' => SameM m H12 H' ∧ MAt H' m c cs (8000 + i) ∧ ∃ us, H' D4 = some (.lst (iV us)) ∧ us.length = i ∧ ∀ j, j < i → en ws3 j ≤ en us j ∧ en us j ≤ en ws3 j + 3)
        ⟨SameM.of (same_new hD4 _), (M12.same (same_new hD4 _)).mono (by omega) (by omega), [], upd_same, rfl, fun j h => absurd h (Nat.not_lt_zero j)⟩ (fun i H' _ z => dts (dp_mono (SameM.wo z.1 mm) x12)) ?_ ?_
      · rintro j x Ha Hb hj ⟨sa', Ma, us, eD, lu, bu⟩ ⟨rfl, hx⟩
        rw [iV_len, lw3] at hj
        rw [iV_at (C3.at hj)] at hx
        cases hx
        refine ⟨rfl, _, rfl, _, rfl, (by show 4 ≤ sizeLine; decide), fun e he => ?_⟩
        have s6 := same_new he (.lst (iV [0, 0, 1, 3]))
        have Mb := Ma.same s6
        refine ⟨m, c, cs, _, .ref e, [0, 0, 1, 3], rfl, Mb, by omega, lst_new (tm Ma) he (dpAll_ints.mpr rfl), by decide, by decide, fun inc H7' hinc s7' M7' => ?_⟩
        have hi3 : 0 ≤ inc ∧ inc ≤ 3 := by
          simp at hinc
          omega
        refine ⟨_, _, rfl, rfl, _, s7'.at (s6 _ _ eD) D4m, by rw [iV_len]; exact szl (by omega), SameM.mut (sa'.trans ((SameM.of s6).trans s7')) hD4 _, (M7'.upd D4m D4c).mono (by omega) (by omega), us ++ [en ws3 j + inc], ?_, by rw [List.length_append, lu]; rfl, fun j2 hj2 => ?_⟩
        · rw [upd_same]
          unfold iV
          rw [List.map_append]
          rfl
        · by_cases e : j2 = j
          · have : en (us ++ [en ws3 j + inc]) j2 = en ws3 j + inc := by
              have : (us ++ [en ws3 j + inc]).getD j2 0 = en ws3 j + inc := by rw [List.getD_eq_getElem?_getD, List.getElem?_append_right (by omega), e, lu]; simp
              exact this
            rw [this, e]; omega
          · have : en (us ++ [en ws3 j + inc]) j2 = en us j2 := by
              show (us ++ [en ws3 j + inc]).getD j2 0 = us.getD j2 0
              simp [List.getD_eq_getElem?_getD, List.getElem?_append_left (show j2 < us.length by omega)]
            rw [this]
            exact bu j2 (by omega)
      rintro H13 ⟨s13, M13, us, eD4, lu, bu⟩
      rw [iV_len, lw3] at lu bu M13
      refine ⟨D4, _, rfl, .inl ⟨.inl (.inl eD4), fun l4 hl4 => ?_⟩⟩
      have du := tup_new (K := K) (L := [m]) (tm M13) hl4 (show DpAll K (wo H13 [m]) (iV us) (iD us) from dpAll_ints.mpr rfl)
      have sl4 := same_new hl4 (.tup (iV us))
      obtain ⟨H14, hH14⟩ : ∃ J, J = upd H13 l4 (.tup (iV us)) := ⟨_, rfl⟩
      rw [← hH14] at du sl4 ⊢
      have R14 : SameM m H12 H14 := s13.trans (SameM.of sl4)
      have R14' : SameM m H2 H14 := R12.trans R14
      have M14 := M13.same sl4
      have eu : ∀ v, v < t.n → -6 ≤ en us v ∧ en us v ≤ 9 := fun v hv => by have := en3 v hv; have := bu v hv; omega
      obtain ⟨C4, S4⟩ := seg_cy lu eu (by omega) (by omega)
      obtain ⟨y4', g4, b4, u4, v4⟩ := zb_use (c := 9) zb (by omega) (xs := us) fun v hv => by have := eu v hv; omega
      refine ⟨_, rfl, _, rfl, [m], _, _, t, us, y4', rfl, tm M14, B, P0, C4, dt R14', du, g4, b4, by omega, fun fs lf top4 v15 H15 s15 d15 => ?_⟩
      have ef : ∀ v, v < t.n → -9 ≤ en fs v ∧ en fs v ≤ 9 * 151 := fun v hv => by
        have := top4.ge v hv
        have := eu v hv
        have := top4.least _ g4 b4 v hv
        have := v4 v hv
        omega
      obtain ⟨Cf, Sf⟩ := seg_cy lf ef (by omega) (by omega)
      obtain ⟨tf, rfl, htf⟩ := dp_ints.mp d15
      have tf15 := (wo_le _ _).tup htf
      have M15 := M14.same s15
      have R15 := bk R14' s15
      have Rz : SameM m H9 H15 := (SameM.of s9_12).trans (R14.trans (SameM.of s15))
      have d5f : Dp K (wo H15 [m]) (.ref tz) (.tuple (iD zs)) := dp_mono (SameM.wo Rz mm) d5'
      have tz15 := dts d5f
      have fz : ∀ v, v < t.n → en zs v ≤ en fs v := fun v hv => top.least _ (fun u hu => by have := bu u hu; have := top4.ge u hu; omega) top4.bel v hv
      refine ⟨_, rfl, _, rfl, by omega, by omega, ?_⟩
      refine lcw (K := K) (walk_rg (n := (t.n : Int).toNat)) [m] (fun _ => none) (by omega) (tm M15) (fun _ _ => trivial) ?_ ?_
      · rintro X j x Xa Xb R R0 hj sx hTx ⟨rfl, rfl⟩ hR hR0
        have hjn : j < t.n := by omega
        refine ⟨rfl, _, rfl, _, rfl, tf, _, _, _, rfl, rfl, sx.tup tf15, atI_nat (j := j) (iV_at (Cf.at hjn)), _, rfl, _, rfl, tz, _, _, _, rfl, rfl, sx.tup tz15, atI_nat (j := j) (iV_at (Cz.at hjn)), _, _, rfl, rfl, _, rfl, iteF' ?_ (hR0 _ rfl (Same.refl _))⟩
        have := fz j hjn
        exact decide_eq_false (by omega)
      intro Db Fb zsb hDb sb hzb azb
      rw [fm_none fun _ _ => rfl] at azb
      cases azb
      refine ⟨(by show 0 ≤ sizeLine; decide), fun eb heb => ?_⟩
      have seb := same_new heb (.lst [])
      have s16 := sb.trans seb
      refine ne_nilL (.lst (.inl (.inl (seb _ _ hzb))) .nil) upd_same ⟨_, rfl, iteF' rfl ?_⟩
      have M16 := (M15.same s16).mono (b' := 9000) (by omega) (by omega)
      have R16 := bk R15 s16
      -- the other
      refine ⟨_, rfl, _, rfl, _, rfl, by omega, by omega, fun D5 hD5 => ?_⟩
      have D0_5 : H2 D5 = none := SameM.free R16 hD5 M2.some M16.some
      have Dm_5 : D5 ≠ m := fun e => M16.some (by rw [← e]; exact hD5)
      have Dc_5 : D5 ≠ c := fun e => by rw [e, M16.c] at hD5; cases hD5
      refine lc_range (lo := 0) (n := t.n) (fun j H' => SameM m H2 H' ∧ MAt H' m c cs (9000 + j) ∧ SameM m (upd Fb eb (.lst [])) H' ∧ ∃ ws, H' D5 = some (.lst (iV ws)) ∧ ws.length = j ∧ ∀ x ∈ ws, -6 ≤ x ∧ x ≤ 6)
        ⟨SameM.mut R16 D0_5 _, (M16.same (same_new hD5 _)).mono (by omega) (by omega), SameM.of (same_new hD5 _), [], upd_same, rfl, by simp⟩ ?_ ?_
      · rintro j H' hj ⟨s8, M8, s8x, ws, eD, hl, hw⟩
        refine ⟨rfl, _, rfl, m, c, cs, _, _, rfl, M8, by omega, by omega, by omega, fun x H9 x0 x1 s9 M9 => ?_⟩
        refine ⟨_, _, rfl, rfl, _, s9.at eD Dm_5, by rw [iV_len]; exact szl (by omega), SameM.mut (s8.trans s9) D0_5 _, (M9.upd Dm_5 Dc_5).mono (by omega) (by omega), SameM.mut (s8x.trans s9) hD5 _, ws ++ [x - 6], ?_, by rw [List.length_append, hl]; rfl, ?_⟩
        · rw [upd_same]
          unfold iV
          rw [List.map_append]
          rfl
        · intro y hy
          rcases List.mem_append.mp hy with hy | hy
          · exact hw y hy
          · simp at hy
            omega
      rintro G5 ⟨r5, N5, r5x, ws5, eD5, lw5, bw5⟩
      have en5 : ∀ v, v < t.n → -6 ≤ en ws5 v ∧ en ws5 v ≤ 6 := fun v hv => bw5 _ (by unfold en; rw [List.getD_eq_getElem?_getD, List.getElem?_eq_getElem (by omega)]; exact List.getElem_mem _)
      refine ⟨D5, _, rfl, .inl ⟨.inl (.inl eD5), fun l5 hl5 => ?_⟩⟩
      have dw5 := tup_new (K := K) (L := [m]) (tm N5) hl5 (show DpAll K (wo G5 [m]) (iV ws5) (iD ws5) from dpAll_ints.mpr rfl)
      have sl5 := same_new hl5 (.tup (iV ws5))
      obtain ⟨J5, hJ5⟩ : ∃ J, J = upd G5 l5 (.tup (iV ws5)) := ⟨_, rfl⟩
      rw [← hJ5] at dw5 sl5 ⊢
      have R5_ : SameM m H2 J5 := r5.trans (SameM.of sl5)
      have P5 := N5.same sl5

      obtain ⟨C5, S5⟩ := seg_cy lw5 en5 (by omega) (by omega)
      obtain ⟨y5', g5, b5, u5, v5'⟩ := zb_use (c := 9) zb (by omega) (xs := ws5) fun v hv => by have := en5 v hv; omega
      refine ⟨[m], _, _, t, ws5, y5', rfl, tm P5, B, P0, C5, dt R5_, dw5, g5, b5, by omega, fun os lo top5 v17 H17 s17 d17 => ?_⟩
      have eo : ∀ v, v < t.n → -9 ≤ en os v ∧ en os v ≤ 9 * 151 := fun v hv => by
        have := top5.ge v hv
        have := en5 v hv
        have := top5.least _ g5 b5 v hv
        have := v5' v hv
        omega
      obtain ⟨Co, So⟩ := seg_cy lo eo (by omega) (by omega)
      obtain ⟨to, rfl, hto⟩ := dp_ints.mp d17
      have to17 := (wo_le _ _).tup hto
      have M17 := P5.same s17
      have R17 := bk R5_ s17
      have Rz2 : SameM m H15 H17 := by
        exact (SameM.of (m := m) s16).trans (r5x.trans (SameM.of (sl5.trans s17)))
      have tz17 := dts (dp_mono (SameM.wo Rz2 mm) d5f)
      -- the least of both
      refine ⟨_, rfl, _, rfl, by omega, by omega, ?_⟩
      refine lcw (K := K) (walk_rg (n := (t.n : Int).toNat)) [m] (fun j => some (.int (min (en zs j) (en os j)))) (by omega) (tm M17) (fun _ _ => trivial) ?_ ?_
      · rintro X j x Xa Xb R R0 hj sx hTx ⟨rfl, rfl⟩ hR hR0
        have hjn : j < t.n := by omega
        refine ⟨rfl, _, rfl, _, rfl, tz, _, _, _, rfl, rfl, sx.tup tz17, atI_nat (j := j) (iV_at (Cz.at hjn)), _, rfl, _, rfl, to, _, _, _, rfl, rfl, sx.tup to17, atI_nat (j := j) (iV_at (Co.at hjn)), _, _, rfl, ?_⟩
        have e : (if en os j < en zs j then en os j else en zs j) = min (en zs j) (en os j) := by split <;> omega
        rw [e]
        exact hR _ _ _ rfl (Same.refl _) (.int _)
      intro D6 H18 qs hD6 s18 hq18 aq
      obtain ⟨ls, hls⟩ : ∃ ls, ls = (List.range t.n).map fun j => min (en zs j) (en os j) := ⟨_, rfl⟩
      have eq6 : (List.range (t.n : Int).toNat).filterMap (fun j => some (PyData.int (min (en zs j) (en os j)))) = iD ls := by
        rw [show (t.n : Int).toNat = t.n by omega, hls]
        unfold iD
        rw [List.map_map]
        exact fm_some fun j _ => rfl
      rw [eq6] at aq
      have el : ∀ v, v < t.n → en ls v = min (en zs v) (en os v) := fun v hv => by rw [hls]; exact en_map hv
      have bl : MT.Bel t MT.no (en ls) := fun v hv f => by
        rw [rowE_congr O el hv]
        exact MT.bel_min O top.bel top5.bel v hv f
      have ll : ls.length = t.n := by rw [hls]; simp
      obtain ⟨Cl, Sl⟩ := seg_cy (lo := -9) (hi := 9 * 151) ll (fun v hv => by
        rw [el v hv]
        have := ez v hv
        have := eo v hv
        omega) (by omega) (by omega)
      refine ⟨D6, _, rfl, .inl ⟨.inl (.inl hq18), fun l6 hl6 => ?_⟩⟩
      have hTq : Trk H18 [m] := tm (M17.same s18)
      have dl := tup_new (K := K) (L := [m]) hTq hl6 (dpAll_mono wo_cons_le aq)
      have sl6 := same_new hl6 (.tup qs)
      have s19 := s18.trans sl6
      have M19 := M17.same s19
      have R19 := bk R17 s19
      refine ⟨_, rfl, _, rfl, [m], _, _, t, ls, en ls, rfl, tm M19, B, P0, Cl, dt R19, dl, fun v _ => Int.le_refl _, bl, by omega, fun z6 lz6 top6 v20 H20 s20 d20 => ?_⟩
      have e6 : z6 = ls := by
        rw [← map_en lz6, ← map_en ll]
        exact List.map_congr_left fun v hv => top6.uniq (MT.Top.self bl) v (List.mem_range.mp hv)
      refine ⟨_, rfl, ne_ints (dp_mono (wo_le _ [m]) d20) (dp_mono (wo_le _ [m]) (dp_mono (wo_mono s20) dl)) e6 ⟨_, rfl, iteF' rfl ?_⟩⟩
      exact ⟨⟨_, _, _, _, _, _, _, _, _, _, rfl⟩, s0.trans (same_back s1 m0 (s2.trans (bk R19 s20)))⟩
    · rintro σ K0 ⟨⟨y1, y2, y3, y4, y5, y6, y7, y8, y9, y10, rfl⟩, s0⟩
      exact q _

end
end Y
namespace Y
open PySem PySem.Spec PyProof.Rows L2
theorem all_mk {l : PySem.W.OpenLaw} {w : World} {K : PySem.W.Frag} {h : Heap} {mg : Str → Option Value} {fa : Addr} (X : K.In h) (G : h.Ns mainGlobals mg) (hfa : mg "law" = some (.ref fa))
    {e_Climb : Addr} (ac_Climb : PySem.W.nsIn K mainGlobals "Climb" = some (some (.ref e_Climb))) (pg_Climb : PySem.W.plainGet K e_Climb Str.empty = true) (hd_Climb : PySem.W.hasDictIn K e_Climb = true) (po_Climb : PySem.W.plainOver K e_Climb = true) (sa_Climb : PySem.W.findIn K (.ref e_Climb) "__setattr__" = some (some (.builtin "object.__setattr__"))) (mk_Climb : PySem.W.makesIn K e_Climb = true) (kc_Climb : PySem.W.keepIn K (.ref e_Climb) = true) (nf_Climb_weights : PySem.W.findIn K (.ref e_Climb) "weights" = some none) (nf_Climb_lists : PySem.W.findIn K (.ref e_Climb) "lists" = some none) (nf_Climb_cycle : PySem.W.findIn K (.ref e_Climb) "cycle" = some none) (nf_Climb_row : PySem.W.findIn K (.ref e_Climb) "row" = some none) (nf_Climb_places : PySem.W.findIn K (.ref e_Climb) "places" = some none) (nf_Climb_met : PySem.W.findIn K (.ref e_Climb) "met" = some none)
    {t_MOST_STEPS : Tok} (cn_MOST_STEPS : PySem.W.nsIn K mainGlobals "MOST_STEPS" = some (some (.int 5000 t_MOST_STEPS)))
    {t_NOWHERE : Tok} (cn_NOWHERE : PySem.W.nsIn K mainGlobals "NOWHERE" = some (some (.int (-1) t_NOWHERE)))
    {f0 : Addr} {od0 an0 : Option Addr} {sl0 : Array (Option Value)} {oc0 kV0 dc0 pm0 cd0 ct0 : Value}
    (a0 : PySem.W.nsIn K mainGlobals "neighbour_lists" = some (some (.ref f0))) (l0 : K.lookup f0 = some ⟨oc0, od0, .func (PySem.W.fnOf "neighbour_lists" "neighbour_lists" (defArgs s_neighbour_lists) (defBody s_neighbour_lists) (defScope s_neighbour_lists) .none kV0 dc0 pm0 an0 cd0 ct0), sl0⟩) (c0 : PySem.W.codeIn K cd0 "neighbour_lists" = true) (k0 : PySem.W.keepIn K (.ref f0) = true)
    {f1 : Addr} {od1 an1 : Option Addr} {sl1 : Array (Option Value)} {oc1 kV1 dc1 pm1 cd1 ct1 : Value}
    (a1 : PySem.W.nsIn K mainGlobals "walk" = some (some (.ref f1))) (l1 : K.lookup f1 = some ⟨oc1, od1, .func (PySem.W.fnOf "walk" "walk" (defArgs s_walk) (defBody s_walk) (defScope s_walk) .none kV1 dc1 pm1 an1 cd1 ct1), sl1⟩) (c1 : PySem.W.codeIn K cd1 "walk" = true) (k1 : PySem.W.keepIn K (.ref f1) = true)
    {f2 : Addr} {od2 an2 : Option Addr} {sl2 : Array (Option Value)} {oc2 kV2 dc2 pm2 cd2 ct2 : Value}
    (a2 : PySem.W.nsIn K mainGlobals "ratio" = some (some (.ref f2))) (l2 : K.lookup f2 = some ⟨oc2, od2, .func (PySem.W.fnOf "ratio" "ratio" (defArgs s_ratio) (defBody s_ratio) (defScope s_ratio) .none kV2 dc2 pm2 an2 cd2 ct2), sl2⟩) (c2 : PySem.W.codeIn K cd2 "ratio" = true) (k2 : PySem.W.keepIn K (.ref f2) = true)
    {f3 : Addr} {od3 an3 : Option Addr} {sl3 : Array (Option Value)} {oc3 kV3 dc3 pm3 cd3 ct3 : Value}
    (a3 : PySem.W.nsIn K mainGlobals "less_inverse" = some (some (.ref f3))) (l3 : K.lookup f3 = some ⟨oc3, od3, .func (PySem.W.fnOf "less_inverse" "less_inverse" (defArgs s_less_inverse) (defBody s_less_inverse) (defScope s_less_inverse) .none kV3 dc3 pm3 an3 cd3 ct3), sl3⟩) (c3 : PySem.W.codeIn K cd3 "less_inverse" = true) (k3 : PySem.W.keepIn K (.ref f3) = true)
    {f4 : Addr} {od4 an4 : Option Addr} {sl4 : Array (Option Value)} {oc4 kV4 dc4 pm4 cd4 ct4 : Value}
    (a4 : PySem.W.nsIn K mainGlobals "signs" = some (some (.ref f4))) (l4 : K.lookup f4 = some ⟨oc4, od4, .func (PySem.W.fnOf "signs" "signs" (defArgs s_signs) (defBody s_signs) (defScope s_signs) .none kV4 dc4 pm4 an4 cd4 ct4), sl4⟩) (c4 : PySem.W.codeIn K cd4 "signs" = true) (k4 : PySem.W.keepIn K (.ref f4) = true)
    {f5 : Addr} {od5 an5 : Option Addr} {sl5 : Array (Option Value)} {oc5 kV5 dc5 pm5 cd5 ct5 : Value}
    (a5 : PySem.W.nsIn K mainGlobals "is_below" = some (some (.ref f5))) (l5 : K.lookup f5 = some ⟨oc5, od5, .func (PySem.W.fnOf "is_below" "is_below" (defArgs s_is_below) (defBody s_is_below) (defScope s_is_below) .none kV5 dc5 pm5 an5 cd5 ct5), sl5⟩) (c5 : PySem.W.codeIn K cd5 "is_below" = true) (k5 : PySem.W.keepIn K (.ref f5) = true)
    {f6 : Addr} {od6 an6 : Option Addr} {sl6 : Array (Option Value)} {oc6 kV6 dc6 pm6 cd6 ct6 : Value}
    (a6 : PySem.W.nsIn K mainGlobals "row_of" = some (some (.ref f6))) (l6 : K.lookup f6 = some ⟨oc6, od6, .func (PySem.W.fnOf "row_of" "row_of" (defArgs s_row_of) (defBody s_row_of) (defScope s_row_of) .none kV6 dc6 pm6 an6 cd6 ct6), sl6⟩) (c6 : PySem.W.codeIn K cd6 "row_of" = true) (k6 : PySem.W.keepIn K (.ref f6) = true)
    {f7 : Addr} {od7 an7 : Option Addr} {sl7 : Array (Option Value)} {oc7 kV7 dc7 pm7 cd7 ct7 : Value}
    (a7 : PySem.W.nsIn K mainGlobals "check_below" = some (some (.ref f7))) (l7 : K.lookup f7 = some ⟨oc7, od7, .func (PySem.W.fnOf "check_below" "check_below" (defArgs s_check_below) (defBody s_check_below) (defScope s_check_below) .none kV7 dc7 pm7 an7 cd7 ct7), sl7⟩) (c7 : PySem.W.codeIn K cd7 "check_below" = true) (k7 : PySem.W.keepIn K (.ref f7) = true)
    {f8 : Addr} {od8 an8 : Option Addr} {sl8 : Array (Option Value)} {oc8 kV8 dc8 pm8 cd8 ct8 : Value}
    (a8 : PySem.W.findIn K (.ref e_Climb) "__init__" = some (some (.ref f8))) (i8 : PySem.W.isFn K (.ref f8) = true) (l8 : K.lookup f8 = some ⟨oc8, od8, .func (PySem.W.fnOf "__init__" "Climb.__init__" (defArgs s_Climb___init) (defBody s_Climb___init) (defScope s_Climb___init) .none kV8 dc8 pm8 an8 cd8 ct8), sl8⟩) (c8 : PySem.W.codeIn K cd8 "Climb.__init__" = true) (k8 : PySem.W.keepIn K (.ref f8) = true)
    {f9 : Addr} {od9 an9 : Option Addr} {sl9 : Array (Option Value)} {oc9 kV9 dc9 pm9 cd9 ct9 : Value}
    (a9 : PySem.W.findIn K (.ref e_Climb) "least_step" = some (some (.ref f9))) (i9 : PySem.W.isFn K (.ref f9) = true) (l9 : K.lookup f9 = some ⟨oc9, od9, .func (PySem.W.fnOf "least_step" "Climb.least_step" (defArgs s_Climb_least_step) (defBody s_Climb_least_step) (defScope s_Climb_least_step) .none kV9 dc9 pm9 an9 cd9 ct9), sl9⟩) (c9 : PySem.W.codeIn K cd9 "Climb.least_step" = true) (k9 : PySem.W.keepIn K (.ref f9) = true)
    {f10 : Addr} {od10 an10 : Option Addr} {sl10 : Array (Option Value)} {oc10 kV10 dc10 pm10 cd10 ct10 : Value}
    (a10 : PySem.W.findIn K (.ref e_Climb) "raise_at" = some (some (.ref f10))) (i10 : PySem.W.isFn K (.ref f10) = true) (l10 : K.lookup f10 = some ⟨oc10, od10, .func (PySem.W.fnOf "raise_at" "Climb.raise_at" (defArgs s_Climb_raise_at) (defBody s_Climb_raise_at) (defScope s_Climb_raise_at) .none kV10 dc10 pm10 an10 cd10 ct10), sl10⟩) (c10 : PySem.W.codeIn K cd10 "Climb.raise_at" = true) (k10 : PySem.W.keepIn K (.ref f10) = true)
    {f11 : Addr} {od11 an11 : Option Addr} {sl11 : Array (Option Value)} {oc11 kV11 dc11 pm11 cd11 ct11 : Value}
    (a11 : PySem.W.findIn K (.ref e_Climb) "step_at" = some (some (.ref f11))) (i11 : PySem.W.isFn K (.ref f11) = true) (l11 : K.lookup f11 = some ⟨oc11, od11, .func (PySem.W.fnOf "step_at" "Climb.step_at" (defArgs s_Climb_step_at) (defBody s_Climb_step_at) (defScope s_Climb_step_at) .none kV11 dc11 pm11 an11 cd11 ct11), sl11⟩) (c11 : PySem.W.codeIn K cd11 "Climb.step_at" = true) (k11 : PySem.W.keepIn K (.ref f11) = true)
    {f12 : Addr} {od12 an12 : Option Addr} {sl12 : Array (Option Value)} {oc12 kV12 dc12 pm12 cd12 ct12 : Value}
    (a12 : PySem.W.findIn K (.ref e_Climb) "step_on" = some (some (.ref f12))) (i12 : PySem.W.isFn K (.ref f12) = true) (l12 : K.lookup f12 = some ⟨oc12, od12, .func (PySem.W.fnOf "step_on" "Climb.step_on" (defArgs s_Climb_step_on) (defBody s_Climb_step_on) (defScope s_Climb_step_on) .none kV12 dc12 pm12 an12 cd12 ct12), sl12⟩) (c12 : PySem.W.codeIn K cd12 "Climb.step_on" = true) (k12 : PySem.W.keepIn K (.ref f12) = true)
    {f13 : Addr} {od13 an13 : Option Addr} {sl13 : Array (Option Value)} {oc13 kV13 dc13 pm13 cd13 ct13 : Value}
    (a13 : PySem.W.nsIn K mainGlobals "above" = some (some (.ref f13))) (l13 : K.lookup f13 = some ⟨oc13, od13, .func (PySem.W.fnOf "above" "above" (defArgs s_above) (defBody s_above) (defScope s_above) .none kV13 dc13 pm13 an13 cd13 ct13), sl13⟩) (c13 : PySem.W.codeIn K cd13 "above" = true) (k13 : PySem.W.keepIn K (.ref f13) = true)
    {f14 : Addr} {od14 an14 : Option Addr} {sl14 : Array (Option Value)} {oc14 kV14 dc14 pm14 cd14 ct14 : Value}
    (a14 : PySem.W.nsIn K mainGlobals "_climbed" = some (some (.ref f14))) (l14 : K.lookup f14 = some ⟨oc14, od14, .func (PySem.W.fnOf "_climbed" "_climbed" (defArgs s_climbed) (defBody s_climbed) (defScope s_climbed) .none kV14 dc14 pm14 an14 cd14 ct14), sl14⟩) (c14 : PySem.W.codeIn K cd14 "_climbed" = true) (k14 : PySem.W.keepIn K (.ref f14) = true)
    {f15 : Addr} {od15 an15 : Option Addr} {sl15 : Array (Option Value)} {oc15 kV15 dc15 pm15 cd15 ct15 : Value}
    (a15 : PySem.W.nsIn K mainGlobals "_law_begun" = some (some (.ref f15))) (l15 : K.lookup f15 = some ⟨oc15, od15, .func (PySem.W.fnOf "_law_begun" "_law_begun" (defArgs s_law_begun) (defBody s_law_begun) (defScope s_law_begun) .none kV15 dc15 pm15 an15 cd15 ct15), sl15⟩) (c15 : PySem.W.codeIn K cd15 "_law_begun" = true) (k15 : PySem.W.keepIn K (.ref f15) = true)
    {f16 : Addr} {od16 an16 : Option Addr} {sl16 : Array (Option Value)} {oc16 kV16 dc16 pm16 cd16 ct16 : Value}
    (a16 : PySem.W.nsIn K mainGlobals "_law_draw" = some (some (.ref f16))) (l16 : K.lookup f16 = some ⟨oc16, od16, .func (PySem.W.fnOf "_law_draw" "_law_draw" (defArgs s_law_draw) (defBody s_law_draw) (defScope s_law_draw) .none kV16 dc16 pm16 an16 cd16 ct16), sl16⟩) (c16 : PySem.W.codeIn K cd16 "_law_draw" = true) (k16 : PySem.W.keepIn K (.ref f16) = true)
    {f17 : Addr} {od17 an17 : Option Addr} {sl17 : Array (Option Value)} {oc17 kV17 dc17 pm17 cd17 ct17 : Value}
    (a17 : PySem.W.nsIn K mainGlobals "_law_of" = some (some (.ref f17))) (l17 : K.lookup f17 = some ⟨oc17, od17, .func (PySem.W.fnOf "_law_of" "_law_of" (defArgs s_law_of) (defBody s_law_of) (defScope s_law_of) .none kV17 dc17 pm17 an17 cd17 ct17), sl17⟩) (c17 : PySem.W.codeIn K cd17 "_law_of" = true) (k17 : PySem.W.keepIn K (.ref f17) = true)
    {f18 : Addr} {od18 an18 : Option Addr} {sl18 : Array (Option Value)} {oc18 kV18 dc18 pm18 cd18 ct18 : Value}
    (a18 : PySem.W.nsIn K mainGlobals "_law_near" = some (some (.ref f18))) (l18 : K.lookup f18 = some ⟨oc18, od18, .func (PySem.W.fnOf "_law_near" "_law_near" (defArgs s_law_near) (defBody s_law_near) (defScope s_law_near) .none kV18 dc18 pm18 an18 cd18 ct18), sl18⟩) (c18 : PySem.W.codeIn K cd18 "_law_near" = true) (k18 : PySem.W.keepIn K (.ref f18) = true)
    {f19 : Addr} {od19 an19 : Option Addr} {sl19 : Array (Option Value)} {oc19 kV19 dc19 pm19 cd19 ct19 : Value}
    (a19 : PySem.W.nsIn K mainGlobals "_law_made" = some (some (.ref f19))) (l19 : K.lookup f19 = some ⟨oc19, od19, .func (PySem.W.fnOf "_law_made" "_law_made" (defArgs s_law_made) (defBody s_law_made) (defScope s_law_made) .none kV19 dc19 pm19 an19 cd19 ct19), sl19⟩) (c19 : PySem.W.codeIn K cd19 "_law_made" = true) (k19 : PySem.W.keepIn K (.ref f19) = true)
    {f20 : Addr} {od20 an20 : Option Addr} {sl20 : Array (Option Value)} {oc20 kV20 dc20 pm20 cd20 ct20 : Value}
    (a20 : PySem.W.nsIn K mainGlobals "_law_shape" = some (some (.ref f20))) (l20 : K.lookup f20 = some ⟨oc20, od20, .func (PySem.W.fnOf "_law_shape" "_law_shape" (defArgs s_law_shape) (defBody s_law_shape) (defScope s_law_shape) .none kV20 dc20 pm20 an20 cd20 ct20), sl20⟩) (c20 : PySem.W.codeIn K cd20 "_law_shape" = true) (k20 : PySem.W.keepIn K (.ref f20) = true)
    {f21 : Addr} {od21 an21 : Option Addr} {sl21 : Array (Option Value)} {oc21 kV21 dc21 pm21 cd21 ct21 : Value}
    (a21 : PySem.W.nsIn K mainGlobals "_law_minors" = some (some (.ref f21))) (l21 : K.lookup f21 = some ⟨oc21, od21, .func (PySem.W.fnOf "_law_minors" "_law_minors" (defArgs s_law_minors) (defBody s_law_minors) (defScope s_law_minors) .none kV21 dc21 pm21 an21 cd21 ct21), sl21⟩) (c21 : PySem.W.codeIn K cd21 "_law_minors" = true) (k21 : PySem.W.keepIn K (.ref f21) = true)
    {f22 : Addr} {od22 an22 : Option Addr} {sl22 : Array (Option Value)} {oc22 kV22 dc22 pm22 cd22 ct22 : Value}
    (a22 : PySem.W.nsIn K mainGlobals "_law_is_below" = some (some (.ref f22))) (l22 : K.lookup f22 = some ⟨oc22, od22, .func (PySem.W.fnOf "_law_is_below" "_law_is_below" (defArgs s_law_is_below) (defBody s_law_is_below) (defScope s_law_is_below) .none kV22 dc22 pm22 an22 cd22 ct22), sl22⟩) (c22 : PySem.W.codeIn K cd22 "_law_is_below" = true) (k22 : PySem.W.keepIn K (.ref f22) = true)
    {f23 : Addr} {od23 an23 : Option Addr} {sl23 : Array (Option Value)} {oc23 kV23 dc23 pm23 cd23 ct23 : Value}
    (a23 : PySem.W.nsIn K mainGlobals "_law_all_above" = some (some (.ref f23))) (l23 : K.lookup f23 = some ⟨oc23, od23, .func (PySem.W.fnOf "_law_all_above" "_law_all_above" (defArgs s_law_all_above) (defBody s_law_all_above) (defScope s_law_all_above) .none kV23 dc23 pm23 an23 cd23 ct23), sl23⟩) (c23 : PySem.W.codeIn K cd23 "_law_all_above" = true) (k23 : PySem.W.keepIn K (.ref f23) = true)
    {f24 : Addr} {od24 an24 : Option Addr} {sl24 : Array (Option Value)} {oc24 kV24 dc24 pm24 cd24 ct24 : Value}
    (a24 : PySem.W.nsIn K mainGlobals "_law_row" = some (some (.ref f24))) (l24 : K.lookup f24 = some ⟨oc24, od24, .func (PySem.W.fnOf "_law_row" "_law_row" (defArgs s_law_row) (defBody s_law_row) (defScope s_law_row) .none kV24 dc24 pm24 an24 cd24 ct24), sl24⟩) (c24 : PySem.W.codeIn K cd24 "_law_row" = true) (k24 : PySem.W.keepIn K (.ref f24) = true)
    {f25 : Addr} {od25 an25 : Option Addr} {sl25 : Array (Option Value)} {oc25 kV25 dc25 pm25 cd25 ct25 : Value}
    (a25 : PySem.W.nsIn K mainGlobals "_law_is_long" = some (some (.ref f25))) (l25 : K.lookup f25 = some ⟨oc25, od25, .func (PySem.W.fnOf "_law_is_long" "_law_is_long" (defArgs s_law_is_long) (defBody s_law_is_long) (defScope s_law_is_long) .none kV25 dc25 pm25 an25 cd25 ct25), sl25⟩) (c25 : PySem.W.codeIn K cd25 "_law_is_long" = true) (k25 : PySem.W.keepIn K (.ref f25) = true)
    {f26 : Addr} {od26 an26 : Option Addr} {sl26 : Array (Option Value)} {oc26 kV26 dc26 pm26 cd26 ct26 : Value}
    (a26 : PySem.W.nsIn K mainGlobals "_law_drawn_below" = some (some (.ref f26))) (l26 : K.lookup f26 = some ⟨oc26, od26, .func (PySem.W.fnOf "_law_drawn_below" "_law_drawn_below" (defArgs s_law_drawn_below) (defBody s_law_drawn_below) (defScope s_law_drawn_below) .none kV26 dc26 pm26 an26 cd26 ct26), sl26⟩) (c26 : PySem.W.codeIn K cd26 "_law_drawn_below" = true) (k26 : PySem.W.keepIn K (.ref f26) = true)
    {f27 : Addr} {od27 an27 : Option Addr} {sl27 : Array (Option Value)} {oc27 kV27 dc27 pm27 cd27 ct27 : Value}
    (a27 : PySem.W.nsIn K mainGlobals "_law_above" = some (some (.ref f27))) (l27 : K.lookup f27 = some ⟨oc27, od27, .func (PySem.W.fnOf "_law_above" "_law_above" (defArgs s_law_above) (defBody s_law_above) (defScope s_law_above) .none kV27 dc27 pm27 an27 cd27 ct27), sl27⟩) (c27 : PySem.W.codeIn K cd27 "_law_above" = true) (k27 : PySem.W.keepIn K (.ref f27) = true)
    {f28 : Addr} {od28 an28 : Option Addr} {sl28 : Array (Option Value)} {oc28 kV28 dc28 pm28 cd28 ct28 : Value}
    (a28 : PySem.W.nsIn K mainGlobals "_law_any_steps" = some (some (.ref f28))) (l28 : K.lookup f28 = some ⟨oc28, od28, .func (PySem.W.fnOf "_law_any_steps" "_law_any_steps" (defArgs s_law_any_steps) (defBody s_law_any_steps) (defScope s_law_any_steps) .none kV28 dc28 pm28 an28 cd28 ct28), sl28⟩) (c28 : PySem.W.codeIn K cd28 "_law_any_steps" = true) (k28 : PySem.W.keepIn K (.ref f28) = true)
    {f29 : Addr} {od29 an29 : Option Addr} {sl29 : Array (Option Value)} {oc29 kV29 dc29 pm29 cd29 ct29 : Value}
    (a29 : PySem.W.nsIn K mainGlobals "_law_filled" = some (some (.ref f29))) (l29 : K.lookup f29 = some ⟨oc29, od29, .func (PySem.W.fnOf "_law_filled" "_law_filled" (defArgs s_law_filled) (defBody s_law_filled) (defScope s_law_filled) .none kV29 dc29 pm29 an29 cd29 ct29), sl29⟩) (c29 : PySem.W.codeIn K cd29 "_law_filled" = true) (k29 : PySem.W.keepIn K (.ref f29) = true)
    {f30 : Addr} {od30 an30 : Option Addr} {sl30 : Array (Option Value)} {oc30 kV30 dc30 pm30 cd30 ct30 : Value}
    (a30 : PySem.W.nsIn K mainGlobals "law" = some (some (.ref f30))) (l30 : K.lookup f30 = some ⟨oc30, od30, .func (PySem.W.fnOf "law" "law" (defArgs s_law) (defBody s_law) (defScope s_law) .none kV30 dc30 pm30 an30 cd30 ct30), sl30⟩) (c30 : PySem.W.codeIn K cd30 "law" = true) (k30 : PySem.W.keepIn K (.ref f30) = true)
    (z_enumerate : PySem.W.nsIn K mainGlobals "enumerate" = some none)
    (z_int : PySem.W.nsIn K mainGlobals "int" = some none)
    (z_isinstance : PySem.W.nsIn K mainGlobals "isinstance" = some none)
    (z_len : PySem.W.nsIn K mainGlobals "len" = some none)
    (z_list : PySem.W.nsIn K mainGlobals "list" = some none)
    (z_max : PySem.W.nsIn K mainGlobals "max" = some none)
    (z_min : PySem.W.nsIn K mainGlobals "min" = some none)
    (z_range : PySem.W.nsIn K mainGlobals "range" = some none)
    (z_reversed : PySem.W.nsIn K mainGlobals "reversed" = some none)
    (z_sorted : PySem.W.nsIn K mainGlobals "sorted" = some none)
    (z_sum : PySem.W.nsIn K mainGlobals "sum" = some none)
    (z_tuple : PySem.W.nsIn K mainGlobals "tuple" = some none)
    (z_zip : PySem.W.nsIn K mainGlobals "zip" = some none)
    (m_gcd : PySem.W.nsIn K mainGlobals "gcd" = some (some (.builtin "math.gcd")))
    : ∃ fd : FuncData, (∀ (s : Shared) (v : Value), BindsTo s fd ⟨[v], []⟩ [("script", v)]) ∧ ∀ base : Heap, K.In base → base.Ns mainGlobals mg → FnOk l.prog w K mg base CX0 38 fa fd ["script"] (sp_law K) := by
  have e := hfa.symm.trans (PySem.W.mg_of X G a30)
  cases e
  have F0 := fun_mk (st := s_neighbour_lists) l0 c0 k0
  have b0 := F0.binds (ps := ["tree"]) fun _ _ _ _ _ _ us hl => match us, hl with | [_], _ => rfl
  have F1 := fun_mk (st := s_walk) l1 c1 k1
  have b1 := F1.binds (ps := ["tree", "root"]) fun _ _ _ _ _ _ us hl => match us, hl with | [_, _], _ => rfl
  have F2 := fun_mk (st := s_ratio) l2 c2 k2
  have b2 := F2.binds (ps := ["a", "b"]) fun _ _ _ _ _ _ us hl => match us, hl with | [_, _], _ => rfl
  have F3 := fun_mk (st := s_less_inverse) l3 c3 k3
  have b3 := F3.binds (ps := ["one", "other"]) fun _ _ _ _ _ _ us hl => match us, hl with | [_, _], _ => rfl
  have F4 := fun_mk (st := s_signs) l4 c4 k4
  have b4 := F4.binds (ps := ["tree"]) fun _ _ _ _ _ _ us hl => match us, hl with | [_], _ => rfl
  have F5 := fun_mk (st := s_is_below) l5 c5 k5
  have b5 := F5.binds (ps := ["tree"]) fun _ _ _ _ _ _ us hl => match us, hl with | [_], _ => rfl
  have F6 := fun_mk (st := s_row_of) l6 c6 k6
  have b6 := F6.binds (ps := ["tree", "cycle"]) fun _ _ _ _ _ _ us hl => match us, hl with | [_, _], _ => rfl
  have F7 := fun_mk (st := s_check_below) l7 c7 k7
  have b7 := F7.binds (ps := ["tree"]) fun _ _ _ _ _ _ us hl => match us, hl with | [_], _ => rfl
  have F8 := fun_mk (st := s_Climb___init) l8 c8 k8
  have b8 := F8.binds (ps := ["self", "tree", "cycle"]) fun _ _ _ _ _ _ us hl => match us, hl with | [_, _, _], _ => rfl
  have F9 := fun_mk (st := s_Climb_least_step) l9 c9 k9
  have b9 := F9.binds (ps := ["self", "barred"]) fun _ _ _ _ _ _ us hl => match us, hl with | [_, _], _ => rfl
  have F10 := fun_mk (st := s_Climb_raise_at) l10 c10 k10
  have b10 := F10.binds (ps := ["self", "place"]) fun _ _ _ _ _ _ us hl => match us, hl with | [_, _], _ => rfl
  have F11 := fun_mk (st := s_Climb_step_at) l11 c11 k11
  have b11 := F11.binds (ps := ["self", "place"]) fun _ _ _ _ _ _ us hl => match us, hl with | [_, _], _ => rfl
  have F12 := fun_mk (st := s_Climb_step_on) l12 c12 k12
  have b12 := F12.binds (ps := ["self", "barred", "limit"]) fun _ _ _ _ _ _ us hl => match us, hl with | [_, _, _], _ => rfl
  have F13 := fun_mk (st := s_above) l13 c13 k13
  have b13 := F13.binds (ps := ["tree", "x"]) fun _ _ _ _ _ _ us hl => match us, hl with | [_, _], _ => rfl
  have F14 := fun_mk (st := s_climbed) l14 c14 k14
  have b14 := F14.binds (ps := ["tree", "x"]) fun _ _ _ _ _ _ us hl => match us, hl with | [_, _], _ => rfl
  have F15 := fun_mk (st := s_law_begun) l15 c15 k15
  have b15 := F15.binds (ps := ["script", "k"]) fun _ _ _ _ _ _ us hl => match us, hl with | [_, _], _ => rfl
  have F16 := fun_mk (st := s_law_draw) l16 c16 k16
  have b16 := F16.binds (ps := ["m", "bound"]) fun _ _ _ _ _ _ us hl => match us, hl with | [_, _], _ => rfl
  have F17 := fun_mk (st := s_law_of) l17 c17 k17
  have b17 := F17.binds (ps := ["m", "some"]) fun _ _ _ _ _ _ us hl => match us, hl with | [_, _], _ => rfl
  have F18 := fun_mk (st := s_law_near) l18 c18 k18
  have b18 := F18.binds (ps := ["tree"]) fun _ _ _ _ _ _ us hl => match us, hl with | [_], _ => rfl
  have F19 := fun_mk (st := s_law_made) l19 c19 k19
  have b19 := F19.binds (ps := ["weights", "ties"]) fun _ _ _ _ _ _ us hl => match us, hl with | [_, _], _ => rfl
  have F20 := fun_mk (st := s_law_shape) l20 c20 k20
  have b20 := F20.binds (ps := ["m", "n"]) fun _ _ _ _ _ _ us hl => match us, hl with | [_, _], _ => rfl
  have F21 := fun_mk (st := s_law_minors) l21 c21 k21
  have b21 := F21.binds (ps := ["tree", "near", "place", "last"]) fun _ _ _ _ _ _ us hl => match us, hl with | [_, _, _, _], _ => rfl
  have F22 := fun_mk (st := s_law_is_below) l22 c22 k22
  have b22 := F22.binds (ps := ["tree"]) fun _ _ _ _ _ _ us hl => match us, hl with | [_], _ => rfl
  have F23 := fun_mk (st := s_law_all_above) l23 c23 k23
  have b23 := F23.binds (ps := ["tree", "near", "place", "last"]) fun _ _ _ _ _ _ us hl => match us, hl with | [_, _, _, _], _ => rfl
  have F24 := fun_mk (st := s_law_row) l24 c24 k24
  have b24 := F24.binds (ps := ["tree", "x"]) fun _ _ _ _ _ _ us hl => match us, hl with | [_, _], _ => rfl
  have F25 := fun_mk (st := s_law_is_long) l25 c25 k25
  have b25 := F25.binds (ps := ["tree"]) fun _ _ _ _ _ _ us hl => match us, hl with | [_], _ => rfl
  have F26 := fun_mk (st := s_law_drawn_below) l26 c26 k26
  have b26 := F26.binds (ps := ["m", "most"]) fun _ _ _ _ _ _ us hl => match us, hl with | [_, _], _ => rfl
  have F27 := fun_mk (st := s_law_above) l27 c27 k27
  have b27 := F27.binds (ps := ["tree", "x", "free"]) fun _ _ _ _ _ _ us hl => match us, hl with | [_, _, _], _ => rfl
  have F28 := fun_mk (st := s_law_any_steps) l28 c28 k28
  have b28 := F28.binds (ps := ["m", "tree", "x", "free"]) fun _ _ _ _ _ _ us hl => match us, hl with | [_, _, _, _], _ => rfl
  have F29 := fun_mk (st := s_law_filled) l29 c29 k29
  have b29 := F29.binds (ps := ["m", "most"]) fun _ _ _ _ _ _ us hl => match us, hl with | [_, _], _ => rfl
  have F30 := fun_mk (st := s_law) l30 c30 k30
  have b30 := F30.binds (ps := ["script"]) fun _ _ _ _ _ _ us hl => match us, hl with | [_], _ => rfl
  exact ⟨_, fun s v => .of_eq rfl, fun base _ _ => ok_law (T := ⟨e_Climb, PySem.W.mg_of X G ac_Climb, ⟨pg_Climb, hd_Climb, po_Climb, sa_Climb⟩, nf_Climb_weights, nf_Climb_lists, nf_Climb_cycle, nf_Climb_row, nf_Climb_places, nf_Climb_met, t_MOST_STEPS, PySem.W.mg_of X G cn_MOST_STEPS, t_NOWHERE, PySem.W.mg_of X G cn_NOWHERE, f0, _, F0, b0, PySem.W.mg_of X G a0, f1, _, F1, b1, PySem.W.mg_of X G a1, f2, _, F2, b2, PySem.W.mg_of X G a2, f3, _, F3, b3, PySem.W.mg_of X G a3, f4, _, F4, b4, PySem.W.mg_of X G a4, f5, _, F5, b5, PySem.W.mg_of X G a5, f6, _, F6, b6, PySem.W.mg_of X G a6, f7, _, F7, b7, PySem.W.mg_of X G a7, f8, _, F8, b8, ⟨mk_Climb, a8, i8, kc_Climb⟩, f9, _, F9, b9, ⟨a9, i9, k9⟩, f10, _, F10, b10, ⟨a10, i10, k10⟩, f11, _, F11, b11, ⟨a11, i11, k11⟩, f12, _, F12, b12, ⟨a12, i12, k12⟩, f13, _, F13, b13, PySem.W.mg_of X G a13, f14, _, F14, b14, PySem.W.mg_of X G a14, f15, _, F15, b15, PySem.W.mg_of X G a15, f16, _, F16, b16, PySem.W.mg_of X G a16, f17, _, F17, b17, PySem.W.mg_of X G a17, f18, _, F18, b18, PySem.W.mg_of X G a18, f19, _, F19, b19, PySem.W.mg_of X G a19, f20, _, F20, b20, PySem.W.mg_of X G a20, f21, _, F21, b21, PySem.W.mg_of X G a21, f22, _, F22, b22, PySem.W.mg_of X G a22, f23, _, F23, b23, PySem.W.mg_of X G a23, f24, _, F24, b24, PySem.W.mg_of X G a24, f25, _, F25, b25, PySem.W.mg_of X G a25, f26, _, F26, b26, PySem.W.mg_of X G a26, f27, _, F27, b27, PySem.W.mg_of X G a27, f28, _, F28, b28, PySem.W.mg_of X G a28, f29, _, F29, b29, PySem.W.mg_of X G a29, fa, _, F30, b30, PySem.W.mg_of X G a30, PySem.W.mg_none_of X G z_enumerate, PySem.W.mg_none_of X G z_int, PySem.W.mg_none_of X G z_isinstance, PySem.W.mg_none_of X G z_len, PySem.W.mg_none_of X G z_list, PySem.W.mg_none_of X G z_max, PySem.W.mg_none_of X G z_min, PySem.W.mg_none_of X G z_range, PySem.W.mg_none_of X G z_reversed, PySem.W.mg_none_of X G z_sorted, PySem.W.mg_none_of X G z_sum, PySem.W.mg_none_of X G z_tuple, PySem.W.mg_none_of X G z_zip, PySem.W.mg_of X G m_gcd⟩)⟩
end Y
open PySem PySem.W PyProof.Rows
set_option maxRecDepth 100000 in
set_option maxHeartbeats 0 in
theorem PySem.Challenge.cw_blowntrees_k50_cycles_above_holds : PySem.Challenge.rw_blowntrees_k50_cycles_above.Holds := by
  w_on; o_law; k_head; (case hw => w_witness2)
  k_fill
  refine L2.walk_of (l := PySem.Challenge.rw_blowntrees_k50_cycles_above) (n := 63) (k := 38) (x := "script") (CX := fun _ => L2.CX0) (sp := fun w => Y.sp_law _) rfl (by decide) rfl ⟨rfl, by decide, by decide⟩ (fun w h Y => PySem.W.kIn_of Y) ?F (fun _ _ a ns hl _ hS => ⟨a, ns, rfl, hS, hl, fun _ => rfl⟩) (fun _ _ _ _ _ h => h)
  case F =>
    intro w mg fa h KX G hmg
    refine' Y.all_mk KX G hmg ?ac_Climb ?pg_Climb ?hd_Climb ?po_Climb ?sa_Climb ?mk_Climb ?kc_Climb ?nf_Climb_weights ?nf_Climb_lists ?nf_Climb_cycle ?nf_Climb_row ?nf_Climb_places ?nf_Climb_met ?cn_MOST_STEPS ?cn_NOWHERE ?a0 ?l0 ?c0 ?k0 ?a1 ?l1 ?c1 ?k1 ?a2 ?l2 ?c2 ?k2 ?a3 ?l3 ?c3 ?k3 ?a4 ?l4 ?c4 ?k4 ?a5 ?l5 ?c5 ?k5 ?a6 ?l6 ?c6 ?k6 ?a7 ?l7 ?c7 ?k7 ?a8 ?i8 ?l8 ?c8 ?k8 ?a9 ?i9 ?l9 ?c9 ?k9 ?a10 ?i10 ?l10 ?c10 ?k10 ?a11 ?i11 ?l11 ?c11 ?k11 ?a12 ?i12 ?l12 ?c12 ?k12 ?a13 ?l13 ?c13 ?k13 ?a14 ?l14 ?c14 ?k14 ?a15 ?l15 ?c15 ?k15 ?a16 ?l16 ?c16 ?k16 ?a17 ?l17 ?c17 ?k17 ?a18 ?l18 ?c18 ?k18 ?a19 ?l19 ?c19 ?k19 ?a20 ?l20 ?c20 ?k20 ?a21 ?l21 ?c21 ?k21 ?a22 ?l22 ?c22 ?k22 ?a23 ?l23 ?c23 ?k23 ?a24 ?l24 ?c24 ?k24 ?a25 ?l25 ?c25 ?k25 ?a26 ?l26 ?c26 ?k26 ?a27 ?l27 ?c27 ?k27 ?a28 ?l28 ?c28 ?k28 ?a29 ?l29 ?c29 ?k29 ?a30 ?l30 ?c30 ?k30 ?z_enumerate ?z_int ?z_isinstance ?z_len ?z_list ?z_max ?z_min ?z_range ?z_reversed ?z_sorted ?z_sum ?z_tuple ?z_zip ?m_gcd
    (case ac_Climb => k_is)
    (case pg_Climb => k_is)
    (case hd_Climb => k_is)
    (case po_Climb => k_is)
    (case sa_Climb => k_is)
    (case mk_Climb => k_is)
    (case kc_Climb => k_is)
    (case nf_Climb_weights => k_is)
    (case nf_Climb_lists => k_is)
    (case nf_Climb_cycle => k_is)
    (case nf_Climb_row => k_is)
    (case nf_Climb_places => k_is)
    (case nf_Climb_met => k_is)
    (case cn_MOST_STEPS => k_is)
    (case cn_NOWHERE => k_is)
    (case a0 => k_is)
    (case l0 => k_is)
    (case c0 => k_is)
    (case k0 => k_is)
    (case a1 => k_is)
    (case l1 => k_is)
    (case c1 => k_is)
    (case k1 => k_is)
    (case a2 => k_is)
    (case l2 => k_is)
    (case c2 => k_is)
    (case k2 => k_is)
    (case a3 => k_is)
    (case l3 => k_is)
    (case c3 => k_is)
    (case k3 => k_is)
    (case a4 => k_is)
    (case l4 => k_is)
    (case c4 => k_is)
    (case k4 => k_is)
    (case a5 => k_is)
    (case l5 => k_is)
    (case c5 => k_is)
    (case k5 => k_is)
    (case a6 => k_is)
    (case l6 => k_is)
    (case c6 => k_is)
    (case k6 => k_is)
    (case a7 => k_is)
    (case l7 => k_is)
    (case c7 => k_is)
    (case k7 => k_is)
    (case a8 => k_is)
    (case i8 => k_is)
    (case l8 => k_is)
    (case c8 => k_is)
    (case k8 => k_is)
    (case a9 => k_is)
    (case i9 => k_is)
    (case l9 => k_is)
    (case c9 => k_is)
    (case k9 => k_is)
    (case a10 => k_is)
    (case i10 => k_is)
    (case l10 => k_is)
    (case c10 => k_is)
    (case k10 => k_is)
    (case a11 => k_is)
    (case i11 => k_is)
    (case l11 => k_is)
    (case c11 => k_is)
    (case k11 => k_is)
    (case a12 => k_is)
    (case i12 => k_is)
    (case l12 => k_is)
    (case c12 => k_is)
    (case k12 => k_is)
    (case a13 => k_is)
    (case l13 => k_is)
    (case c13 => k_is)
    (case k13 => k_is)
    (case a14 => k_is)
    (case l14 => k_is)
    (case c14 => k_is)
    (case k14 => k_is)
    (case a15 => k_is)
    (case l15 => k_is)
    (case c15 => k_is)
    (case k15 => k_is)
    (case a16 => k_is)
    (case l16 => k_is)
    (case c16 => k_is)
    (case k16 => k_is)
    (case a17 => k_is)
    (case l17 => k_is)
    (case c17 => k_is)
    (case k17 => k_is)
    (case a18 => k_is)
    (case l18 => k_is)
    (case c18 => k_is)
    (case k18 => k_is)
    (case a19 => k_is)
    (case l19 => k_is)
    (case c19 => k_is)
    (case k19 => k_is)
    (case a20 => k_is)
    (case l20 => k_is)
    (case c20 => k_is)
    (case k20 => k_is)
    (case a21 => k_is)
    (case l21 => k_is)
    (case c21 => k_is)
    (case k21 => k_is)
    (case a22 => k_is)
    (case l22 => k_is)
    (case c22 => k_is)
    (case k22 => k_is)
    (case a23 => k_is)
    (case l23 => k_is)
    (case c23 => k_is)
    (case k23 => k_is)
    (case a24 => k_is)
    (case l24 => k_is)
    (case c24 => k_is)
    (case k24 => k_is)
    (case a25 => k_is)
    (case l25 => k_is)
    (case c25 => k_is)
    (case k25 => k_is)
    (case a26 => k_is)
    (case l26 => k_is)
    (case c26 => k_is)
    (case k26 => k_is)
    (case a27 => k_is)
    (case l27 => k_is)
    (case c27 => k_is)
    (case k27 => k_is)
    (case a28 => k_is)
    (case l28 => k_is)
    (case c28 => k_is)
    (case k28 => k_is)
    (case a29 => k_is)
    (case l29 => k_is)
    (case c29 => k_is)
    (case k29 => k_is)
    (case a30 => k_is)
    (case l30 => k_is)
    (case c30 => k_is)
    (case k30 => k_is)
    (case z_enumerate => k_is)
    (case z_int => k_is)
    (case z_isinstance => k_is)
    (case z_len => k_is)
    (case z_list => k_is)
    (case z_max => k_is)
    (case z_min => k_is)
    (case z_range => k_is)
    (case z_reversed => k_is)
    (case z_sorted => k_is)
    (case z_sum => k_is)
    (case z_tuple => k_is)
    (case z_zip => k_is)
    (case m_gcd => k_is)
