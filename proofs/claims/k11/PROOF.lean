import PyProof.Rows.All
import HandS.ForMost
import HandS.Evl
import HandS.Walk
import HandS.TupAny
import HandS.TupMul
import HandS.IsInst
import HandS.More
import HandS.Style
import HandS.FStr
import HandS.Text
import PySem.Challenge.RW_factflows_k11_kinds
set_option Elab.async false
set_option linter.all false
set_option maxRecDepth 100000
set_option maxHeartbeats 1000000
namespace FF
open PySem PySem.Spec PyProof.Rows L2
open Evl (Ex sz_of sz_lt fresh_back)

/-! data, and what stands for it -/
inductive Dt where
  | non | bl (b : Bool) | int (i : Int) | str (x : Str) | lst (ds : List Dt) | tup (ds : List Dt)
  | dic (ks : List (Key × Dt)) | obj (C : Addr) (fs : List (Str × Dt)) | ref (a : Addr)
  | frl (ds : List Dt) | ty (n : String)

mutual
inductive Dat (K : PySem.W.Frag) (F : Hp) : V → Dt → Prop
  | non : Dat K F .non .non
  | bl (b : Bool) : Dat K F (.bl b) (.bl b)
  | int (i : Int) : Dat K F (.int i) (.int i)
  | str (x : Str) : Dat K F (.str x) (.str x)
  | lst {a : Addr} {xs : List V} {ds : List Dt} : F a = some (.lst xs) → DatL K F xs ds → Dat K F (.ref a) (.lst ds)
  | tup {a : Addr} {xs : List V} {ds : List Dt} : SqT K F a xs → DatL K F xs ds → Dat K F (.ref a) (.tup ds)
  | dic {a : Addr} {kvs : List (Key × V)} {ks : List (Key × Dt)} : F a = some (.dK kvs) → DatK K F kvs ks → Dat K F (.ref a) (.dic ks)
  | obj {a C dx : Addr} {fvs : List (Str × V)} {fs : List (Str × Dt)} : F a = some (.ins C dx fvs) → DatF K F fvs fs → Dat K F (.ref a) (.obj C fs)
  | ref (a : Addr) : Dat K F (.ref a) (.ref a)
  | frl {a : Addr} {xs : List V} {ds : List Dt} : SqL K F a xs → DatL K F xs ds → Dat K F (.ref a) (.frl ds)
  | ty (n : String) : Dat K F (.ty n) (.ty n)
inductive DatL (K : PySem.W.Frag) (F : Hp) : List V → List Dt → Prop
  | nil : DatL K F [] []
  | cons {v : V} {vs : List V} {d : Dt} {ds : List Dt} : Dat K F v d → DatL K F vs ds → DatL K F (v :: vs) (d :: ds)
inductive DatK (K : PySem.W.Frag) (F : Hp) : List (Key × V) → List (Key × Dt) → Prop
  | nil : DatK K F [] []
  | cons {k : Key} {v : V} {vs : List (Key × V)} {d : Dt} {ds : List (Key × Dt)} : Dat K F v d → DatK K F vs ds → DatK K F ((k, v) :: vs) ((k, d) :: ds)
inductive DatF (K : PySem.W.Frag) (F : Hp) : List (Str × V) → List (Str × Dt) → Prop
  | nil : DatF K F [] []
  | cons {k : Str} {v : V} {vs : List (Str × V)} {d : Dt} {ds : List (Str × Dt)} : Dat K F v d → DatF K F vs ds → DatF K F ((k, v) :: vs) ((k, d) :: ds)
end

section
variable {K : PySem.W.Frag} {F F' : Hp}
mutual
theorem Dat.mono (e : Ex F F') : ∀ {v : V} {d : Dt}, Dat K F v d → Dat K F' v d
  | _, _, .non => .non
  | _, _, .bl b => .bl b
  | _, _, .int b => .int b
  | _, _, .str b => .str b
  | _, _, .lst h l => .lst (e _ _ h) (DatL.mono e l)
  | _, _, .tup h l => .tup (Evl.ex_t e h) (DatL.mono e l)
  | _, _, .dic h l => .dic (e _ _ h) (DatK.mono e l)
  | _, _, .obj h l => .obj (e _ _ h) (DatF.mono e l)
  | _, _, .ref a => .ref a
  | _, _, .frl h l => .frl (Evl.ex_l e h) (DatL.mono e l)
  | _, _, .ty n => .ty n
theorem DatL.mono (e : Ex F F') : ∀ {v : List V} {d : List Dt}, DatL K F v d → DatL K F' v d
  | _, _, .nil => .nil
  | _, _, .cons h l => .cons (Dat.mono e h) (DatL.mono e l)
theorem DatK.mono (e : Ex F F') : ∀ {v : List (Key × V)} {d : List (Key × Dt)}, DatK K F v d → DatK K F' v d
  | _, _, .nil => .nil
  | _, _, .cons h l => .cons (Dat.mono e h) (DatK.mono e l)
theorem DatF.mono (e : Ex F F') : ∀ {v : List (Str × V)} {d : List (Str × Dt)}, DatF K F v d → DatF K F' v d
  | _, _, .nil => .nil
  | _, _, .cons h l => .cons (Dat.mono e h) (DatF.mono e l)
end
theorem DatL.length {vs : List V} {ds : List Dt} (h : DatL K F vs ds) : vs.length = ds.length := by
  induction ds generalizing vs with
  | nil => cases h; rfl
  | cons d ds ih => cases h with | cons a b => simp [ih b]
theorem DatL.get {vs : List V} {ds : List Dt} {i : Nat} {d : Dt} (h : DatL K F vs ds) (e : ds[i]? = some d) : ∃ v, vs[i]? = some v ∧ Dat K F v d := by
  induction ds generalizing vs i with
  | nil => simp at e
  | cons d ds ih =>
    cases h with
    | cons a b =>
      cases i with
      | zero => simp at e; subst e; exact ⟨_, rfl, a⟩
      | succ i => simpa using ih b (by simpa using e)
theorem DatL.getV {vs : List V} {ds : List Dt} {i : Nat} {v : V} (h : DatL K F vs ds) (e : vs[i]? = some v) : ∃ d, ds[i]? = some d ∧ Dat K F v d := by
  induction ds generalizing vs i with
  | nil => cases h; simp at e
  | cons d ds ih =>
    cases h with
    | cons a b =>
      cases i with
      | zero => simp at e; subst e; exact ⟨_, rfl, a⟩
      | succ i => simpa using ih b (by simpa using e)
theorem DatL.append {vs ws : List V} {ds es : List Dt} (h : DatL K F vs ds) (k : DatL K F ws es) : DatL K F (vs ++ ws) (ds ++ es) := by
  induction ds generalizing vs with
  | nil => cases h; exact k
  | cons d ds ih => cases h with | cons a b => exact .cons a (ih b)
theorem DatL.one {v : V} {d : Dt} (h : Dat K F v d) : DatL K F [v] [d] := .cons h .nil
theorem DatL.take {vs : List V} {ds : List Dt} (n : Nat) (h : DatL K F vs ds) : DatL K F (vs.take n) (ds.take n) := by
  induction ds generalizing vs n with
  | nil => cases h; simp; exact .nil
  | cons d ds ih => cases h with
    | cons a b => cases n with
      | zero => exact .nil
      | succ n => exact .cons a (ih n b)
theorem DatL.drop {vs : List V} {ds : List Dt} (n : Nat) (h : DatL K F vs ds) : DatL K F (vs.drop n) (ds.drop n) := by
  induction ds generalizing vs n with
  | nil => cases h; simp; exact .nil
  | cons d ds ih => cases h with
    | cons a b => cases n with
      | zero => exact .cons a b
      | succ n => exact ih n b
theorem DatL.set {vs : List V} {ds : List Dt} {v : V} {d : Dt} (i : Nat) (h : DatL K F vs ds) (k : Dat K F v d) : DatL K F (vs.set i v) (ds.set i d) := by
  induction ds generalizing vs i with
  | nil => cases h; exact .nil
  | cons d ds ih => cases h with
    | cons a b => cases i with
      | zero => exact .cons k b
      | succ i => exact .cons a (ih i b)
theorem DatL.reverse {vs : List V} {ds : List Dt} (h : DatL K F vs ds) : DatL K F vs.reverse ds.reverse := by
  induction ds generalizing vs with
  | nil => cases h; exact .nil
  | cons d ds ih => cases h with
    | cons a b => simp only [List.reverse_cons]; exact (ih b).append (.one a)
theorem DatL.ints {ns : List Int} : DatL K F (ns.map V.int) (ns.map Dt.int) := by
  induction ns with
  | nil => exact .nil
  | cons n ns ih => exact .cons (.int n) ih
theorem DatL.bls {ns : List Bool} : DatL K F (ns.map V.bl) (ns.map Dt.bl) := by
  induction ns with
  | nil => exact .nil
  | cons n ns ih => exact .cons (.bl n) ih
theorem DatL.ints_inv {ns : List Int} {vs : List V} (h : DatL K F vs (ns.map Dt.int)) : vs = ns.map V.int := by
  induction ns generalizing vs with
  | nil => cases h; rfl
  | cons n ns ih => cases h with | cons a b => cases a; rw [ih b]; rfl
theorem DatL.bls_inv {ns : List Bool} {vs : List V} (h : DatL K F vs (ns.map Dt.bl)) : vs = ns.map V.bl := by
  induction ns generalizing vs with
  | nil => cases h; rfl
  | cons n ns ih => cases h with | cons a b => cases a; rw [ih b]; rfl
theorem DatL.strs_inv {ns : List Str} {vs : List V} (h : DatL K F vs (ns.map Dt.str)) : vs = ns.map V.str := by
  induction ns generalizing vs with
  | nil => cases h; rfl
  | cons n ns ih => cases h with | cons a b => cases a; rw [ih b]; rfl
end

/-! what is owned: objects that may change -/
inductive Ow where
  | lst (ds : List Dt) | dic (ks : List (Key × Dt)) | bag
abbrev Own := List (Addr × Ow)
def OwAt (K : PySem.W.Frag) (F H : Hp) (p : Addr) : Ow → Prop
  | .lst ds => ∃ xs, H p = some (.lst xs) ∧ DatL K F xs ds
  | .dic ks => ∃ kvs, H p = some (.dK kvs) ∧ DatK K F kvs ks
  | .bag => ∃ (k s i : Int) (c : Addr) (cells : List Int), H p = some (.lst [.int k, .int s, .int i, .ref c]) ∧ F c = some (.lst (cells.map V.int)) ∧
      0 ≤ k ∧ 0 ≤ s ∧ s < 2147483647 ∧ 0 ≤ i ∧ (∀ z ∈ cells, 0 ≤ z) ∧ cells.length ≤ 63
structure OwnOk (K : PySem.W.Frag) (F H : Hp) (O : Own) : Prop where
  nd : (O.map (·.1)).Nodup
  at_ : ∀ p o, (p, o) ∈ O → F p = none ∧ OwAt K F H p o
structure Gw (O : Own) (F H : Hp) (O' : Own) (F' H' : Hp) : Prop where
  ext : Ex F F'
  sub : Ex F' H'
  keep : ∀ a o, a ∉ O.map (·.1) → H a = some o → H' a = some o
  dom : ∀ a, H a ≠ none → H' a ≠ none
  old : ∀ a, H a ≠ none → a ∉ O.map (·.1) → F' a = F a
  addr : ∀ a, a ∈ O'.map (·.1) → a ∈ O.map (·.1) ∨ H a = none

section
variable {K : PySem.W.Frag} {F F' F1 F2 H H' H1 H2 : Hp} {O O' O1 O2 R : Own} {p : Addr} {o : Ow}
theorem OwAt.there (h : OwAt K F H p o) : H p ≠ none := by
  cases o with
  | lst ds => obtain ⟨xs, e, _⟩ := h; rw [e]; simp
  | dic ds => obtain ⟨xs, e, _⟩ := h; rw [e]; simp
  | bag => obtain ⟨k, s, i, c, cells, e, _⟩ := h; rw [e]; simp
theorem OwAt.mono (h : OwAt K F H p o) (e : Ex F F') (k : ∀ u, H p = some u → H' p = some u) : OwAt K F' H' p o := by
  cases o with
  | lst ds => obtain ⟨xs, a, b⟩ := h; exact ⟨xs, k _ a, b.mono e⟩
  | dic ds => obtain ⟨xs, a, b⟩ := h; exact ⟨xs, k _ a, b.mono e⟩
  | bag => obtain ⟨k0, s, i, c, cells, a, b, r⟩ := h; exact ⟨k0, s, i, c, cells, k _ a, e _ _ b, r⟩
theorem mem_addr {O : Own} (h : (p, o) ∈ O) : p ∈ O.map (·.1) := List.mem_map.mpr ⟨_, h, rfl⟩
theorem addr_mem {O : Own} (h : p ∈ O.map (·.1)) : ∃ o, (p, o) ∈ O := by
  obtain ⟨⟨a, o⟩, h1, h2⟩ := List.mem_map.mp h
  cases h2
  exact ⟨o, h1⟩
theorem OwnOk.there (h : OwnOk K F H O) (m : p ∈ O.map (·.1)) : H p ≠ none := by
  obtain ⟨o, m⟩ := addr_mem m
  exact (h.at_ p o m).2.there
theorem OwnOk.none_ (h : OwnOk K F H O) (m : p ∈ O.map (·.1)) : F p = none := by
  obtain ⟨o, m⟩ := addr_mem m
  exact (h.at_ p o m).1
theorem Gw.refl (e : Ex F H) : Gw O F H O F H := ⟨Ex.refl F, e, fun _ _ _ h => h, fun _ h => h, fun _ _ _ => rfl, fun _ h => .inl h⟩
theorem Gw.trans (g : Gw O F H O1 F1 H1) (k : Gw O1 F1 H1 O2 F2 H2) : Gw O F H O2 F2 H2 where
  ext := g.ext.trans k.ext
  sub := k.sub
  keep := fun a o ha e => by
    refine k.keep a o (fun m => ?_) (g.keep a o ha e)
    rcases g.addr a m with h | h
    · exact ha h
    · rw [e] at h; cases h
  dom := fun a h => k.dom a (g.dom a h)
  old := fun a h ha => by
    rw [← g.old a h ha]
    refine k.old a (g.dom a h) fun m => ?_
    rcases g.addr a m with q | q
    · exact ha q
    · exact h q
  addr := fun a m => by
    rcases k.addr a m with h | h
    · exact g.addr a h
    · refine .inr ?_
      cases q : H a with
      | none => rfl
      | some u => exact absurd h (g.dom a (by rw [q]; simp))
theorem OwnOk.frame (h : OwnOk K F H (O ++ R)) (g : Gw O F H O' F' H') (k : OwnOk K F' H' O') : OwnOk K F' H' (O' ++ R) := by
  have nd := h.nd
  rw [List.map_append, List.nodup_append] at nd
  refine ⟨?_, fun p o m => ?_⟩
  · rw [List.map_append, List.nodup_append]
    refine ⟨k.nd, nd.2.1, fun a ha b hb e => ?_⟩
    subst e
    rcases g.addr a ha with q | q
    · exact nd.2.2 a q a hb rfl
    · exact h.there (by rw [List.map_append]; exact List.mem_append_right _ hb) q
  · rcases List.mem_append.mp m with m | m
    · exact k.at_ p o m
    · have hp := h.at_ p o (List.mem_append_right _ m)
      have np : p ∉ O.map (·.1) := fun z => nd.2.2 p z p (mem_addr m) rfl
      refine ⟨?_, hp.2.mono g.ext fun u e => g.keep p u np e⟩
      rw [g.old p hp.2.there np]
      exact hp.1
theorem Gw.frame (g : Gw O F H O' F' H') : Gw (O ++ R) F H (O' ++ R) F' H' where
  ext := g.ext
  sub := g.sub
  keep := fun a o ha e => g.keep a o (fun m => ha (by rw [List.map_append]; exact List.mem_append_left _ m)) e
  dom := g.dom
  old := fun a h ha => g.old a h fun m => ha (by rw [List.map_append]; exact List.mem_append_left _ m)
  addr := fun a m => by
    rw [List.map_append] at m ⊢
    rcases List.mem_append.mp m with m | m
    · rcases g.addr a m with q | q
      · exact .inl (List.mem_append_left _ q)
      · exact .inr q
    · exact .inl (List.mem_append_right _ m)
theorem OwnOk.left (h : OwnOk K F H (O ++ R)) : OwnOk K F H O := by
  have nd := h.nd
  rw [List.map_append, List.nodup_append] at nd
  exact ⟨nd.1, fun p o m => h.at_ p o (List.mem_append_left _ m)⟩
theorem OwnOk.nil : OwnOk K F H [] := ⟨by simp, fun _ _ m => by simp at m⟩
/-- what the heap F knows is not owned -/
theorem OwnOk.notin (h : OwnOk K F H O) {a : Addr} {u : HO} (e : F a = some u) : a ∉ O.map (·.1) := fun m => by
  rw [h.none_ m] at e; cases e
/-- a new object, known from now on -/
theorem Gw.new {q : Addr} {u : HO} (e : Ex F H) (hq : H q = none) : Gw O F H O (upd F q u) (upd H q u) where
  ext := Ex.new (by cases z : F q with | none => rfl | some w => rw [e q w z] at hq; cases hq)
  sub := fun a w h => by
    by_cases ha : a = q
    · subst ha; rw [upd_same] at h ⊢; exact h
    · rw [upd_ne ha] at h ⊢; exact e a w h
  keep := fun a o _ h => by rw [upd_ne (ne_of_none h hq)]; exact h
  dom := fun a h => by
    by_cases ha : a = q
    · subst ha; rw [upd_same]; simp
    · rw [upd_ne ha]; exact h
  old := fun a h _ => by rw [upd_ne]; intro z; subst z; exact h hq
  addr := fun a m => .inl m
theorem OwnOk.new {q : Addr} {u : HO} (h : OwnOk K F H O) (e : Ex F H) (hq : H q = none) : OwnOk K (upd F q u) (upd H q u) O := by
  refine ⟨h.nd, fun p o m => ?_⟩
  have hp := h.at_ p o m
  have ne : p ≠ q := fun z => by subst z; exact hp.2.there hq
  refine ⟨by rw [upd_ne ne]; exact hp.1, hp.2.mono (Gw.new (O := []) e hq).ext fun w z => by rw [upd_ne ne]; exact z⟩
/-- a new object, owned -/
theorem Gw.newOwn {q : Addr} {u : HO} (e : Ex F H) (hq : H q = none) : Gw O F H ((q, o) :: O) F (upd H q u) where
  ext := Ex.refl F
  sub := fun a w h => by rw [upd_ne (ne_of_none (e a w h) hq)]; exact e a w h
  keep := fun a o _ h => by rw [upd_ne (ne_of_none h hq)]; exact h
  dom := fun a h => by
    by_cases ha : a = q
    · subst ha; rw [upd_same]; simp
    · rw [upd_ne ha]; exact h
  old := fun a h _ => rfl
  addr := fun a m => by
    simp only [List.map_cons, List.mem_cons] at m
    rcases m with rfl | m
    · exact .inr hq
    · exact .inl m
theorem OwnOk.newOwn {q : Addr} {u : HO} (h : OwnOk K F H O) (e : Ex F H) (hq : H q = none) (k : OwAt K F (upd H q u) q o) : OwnOk K F (upd H q u) ((q, o) :: O) := by
  refine ⟨?_, fun p o' m => ?_⟩
  · simp only [List.map_cons, List.nodup_cons]
    exact ⟨fun m => h.there m hq, h.nd⟩
  · rcases List.mem_cons.mp m with z | m
    · cases z
      refine ⟨?_, k⟩
      cases z : F q with
      | none => rfl
      | some w => rw [e q w z] at hq; cases hq
    · have hp := h.at_ p o' m
      have ne : p ≠ q := fun z => by subst z; exact hp.2.there hq
      exact ⟨hp.1, hp.2.mono (Ex.refl F) fun w z => by rw [upd_ne ne]; exact z⟩
/-- an owned object changes -/
theorem Gw.mut {u : HO} (h : OwnOk K F H O) (e : Ex F H) (m : p ∈ O.map (·.1)) (hO : O'.map (·.1) = O.map (·.1)) : Gw O F H O' F (upd H p u) where
  ext := Ex.refl F
  sub := fun a w z => by
    rw [upd_ne (fun q => by subst q; rw [h.none_ m] at z; cases z)]
    exact e a w z
  keep := fun a o ha z => by rw [upd_ne (fun q => by subst q; exact ha m)]; exact z
  dom := fun a z => by
    by_cases ha : a = p
    · subst ha; rw [upd_same]; simp
    · rw [upd_ne ha]; exact z
  old := fun a _ _ => rfl
  addr := fun a z => .inl (by rw [hO] at z; exact z)
theorem OwnOk.mut {u : HO} {i : Nat} {o' : Ow} (h : OwnOk K F H O) (hi : O[i]? = some (p, o)) (k : OwAt K F (upd H p u) p o') : OwnOk K F (upd H p u) (O.set i (p, o')) ∧ (O.set i (p, o')).map (·.1) = O.map (·.1) := by
  have hm : (O.set i (p, o')).map (·.1) = O.map (·.1) := by
    apply List.ext_getElem?
    intro j
    rw [List.getElem?_map, List.getElem?_map]
    by_cases hj : i = j
    · subst hj
      have : i < O.length := (List.getElem?_eq_some_iff.mp hi).1
      rw [List.getElem?_set_self this, hi]
      rfl
    · rw [List.getElem?_set_ne hj]
  refine ⟨⟨by rw [hm]; exact h.nd, fun q w m => ?_⟩, hm⟩
  have mp : p ∈ O.map (·.1) := mem_addr (List.mem_of_getElem? hi)
  by_cases hq : q = p
  · subst hq
    refine ⟨h.none_ mp, ?_⟩
    have hw : w = o' := by
      obtain ⟨j, hj⟩ := List.getElem?_of_mem m
      by_cases e : i = j
      · subst e
        have : i < O.length := (List.getElem?_eq_some_iff.mp hi).1
        rw [List.getElem?_set_self this] at hj
        cases hj; rfl
      · exfalso
        rw [List.getElem?_set_ne e] at hj
        have h1 : (O.map (·.1))[i]? = some q := by rw [List.getElem?_map, hi]; rfl
        have h2 : (O.map (·.1))[j]? = some q := by rw [List.getElem?_map, hj]; rfl
        exact e (nd_ix h.nd h1 h2)
    subst hw
    exact k
  · have m' : (q, w) ∈ O := by
      rcases List.mem_or_eq_of_mem_set m with z | z
      · exact z
      · cases z; exact absurd rfl hq
    have hp := h.at_ q w m'
    exact ⟨hp.1, hp.2.mono (Ex.refl F) fun u z => by rw [upd_ne hq]; exact z⟩
end
end FF

set_option Elab.async false
set_option linter.all false
set_option maxRecDepth 100000
set_option maxHeartbeats 1000000
namespace FF
open PySem PySem.Spec PyProof.Rows L2
open Evl (Ex sz_of sz_lt fresh_back)

abbrev Env_ := List (Option Dt)
structure EnvOk (K : PySem.W.Frag) (F : Hp) (σ : L2.St) (Δ : Env_) : Prop where
  len : σ.length = Δ.length
  at_ : ∀ (i : Nat) (d : Dt), Δ[i]? = some (some d) → ∃ v, σ[i]? = some (some v) ∧ Dat K F v d
abbrev XPost := Addr → List (Str × Dt) → Own → Prop
def XOk (K : PySem.W.Frag) (E : XK) (Ψ : XPost) (O : Own) (F H : Hp) : Prop := ∀ C d F' H' O' fvs fs, Gw O F H O' F' H' → OwnOk K F' H' O' → F' d = some (.xd fvs) → DatF K F' fvs fs → Ψ C fs O' → E (.ref C) (some d) H'
def Ev (K : PySem.W.Frag) (E : XK) (Ψ : XPost) (te : TE) (Δ : Env_) (O : Own) (Φ : Dt → Own → Prop) : Prop :=
  ∀ σ F H, EnvOk K F σ Δ → OwnOk K F H O → Ex F H → XOk K E Ψ O F H → ∀ Q : VK, (∀ v F' H' d O', Gw O F H O' F' H' → OwnOk K F' H' O' → Dat K F' v d → Φ d O' → Q v H') → te σ H Q
def EvT (K : PySem.W.Frag) (E : XK) (Ψ : XPost) (te : TT) (Δ : Env_) (O : Own) (Φ : Bool → Own → Prop) : Prop :=
  ∀ σ F H, EnvOk K F σ Δ → OwnOk K F H O → Ex F H → XOk K E Ψ O F H → ∀ Q : Bool → Hp → Prop, (∀ b F' H' O', Gw O F H O' F' H' → OwnOk K F' H' O' → Φ b O' → Q b H') → te σ H Q
def EvA (K : PySem.W.Frag) (E : XK) (Ψ : XPost) (te : TA) (Δ : Env_) (O : Own) (Φ : List Dt → Own → Prop) : Prop :=
  ∀ σ F H, EnvOk K F σ Δ → OwnOk K F H O → Ex F H → XOk K E Ψ O F H → ∀ Q : List V → Hp → Prop, (∀ vs F' H' ds O', Gw O F H O' F' H' → OwnOk K F' H' O' → DatL K F' vs ds → Φ ds O' → Q vs H') → te σ H Q
def OpD (K : PySem.W.Frag) (E : XK) (Ψ : XPost) (r : R2) (x y : Dt) (O : Own) (Φ : Dt → Own → Prop) : Prop :=
  ∀ F H v u, OwnOk K F H O → Ex F H → XOk K E Ψ O F H → Dat K F v x → Dat K F u y → ∀ Q : VK, (∀ w F' H' d O', Gw O F H O' F' H' → OwnOk K F' H' O' → Dat K F' w d → Φ d O' → Q w H') → r v u H Q
def UnD (K : PySem.W.Frag) (E : XK) (Ψ : XPost) (r : V → Hp → VK → Prop) (x : Dt) (O : Own) (Φ : Dt → Own → Prop) : Prop :=
  ∀ F H v, OwnOk K F H O → Ex F H → XOk K E Ψ O F H → Dat K F v x → ∀ Q : VK, (∀ w F' H' d O', Gw O F H O' F' H' → OwnOk K F' H' O' → Dat K F' w d → Φ d O' → Q w H') → r v H Q
def CaD (K : PySem.W.Frag) (E : XK) (Ψ : XPost) (r : List V → Hp → VK → Prop) (xs : List Dt) (O : Own) (Φ : Dt → Own → Prop) : Prop :=
  ∀ F H vs, OwnOk K F H O → Ex F H → XOk K E Ψ O F H → DatL K F vs xs → ∀ Q : VK, (∀ w F' H' d O', Gw O F H O' F' H' → OwnOk K F' H' O' → Dat K F' w d → Φ d O' → Q w H') → r vs H Q
/-- exactly d, nothing owned changed -/
abbrev ex (d : Dt) (O : Own) : Dt → Own → Prop := fun d' O' => d' = d ∧ O' = O
abbrev exb (b : Bool) (O : Own) : Bool → Own → Prop := fun d' O' => d' = b ∧ O' = O
abbrev exl (ds : List Dt) (O : Own) : List Dt → Own → Prop := fun d' O' => d' = ds ∧ O' = O
/-- a new list, owned -/
abbrev nwl (ds : List Dt) (O : Own) : Dt → Own → Prop := fun d' O' => ∃ q, d' = .ref q ∧ O' = (q, .lst ds) :: O
structure Post where
  nx : Env_ → Own → Prop
  rt : Dt → Own → Prop
  bk : Env_ → Own → Prop := fun _ _ => False
  ct : Env_ → Own → Prop := fun _ _ => False
structure DOk (K : PySem.W.Frag) (O : Own) (F H : Hp) (D : Ends) (P : Post) : Prop where
  nx : ∀ σ' F' H' Δ' O', Gw O F H O' F' H' → OwnOk K F' H' O' → EnvOk K F' σ' Δ' → P.nx Δ' O' → D.nx σ' H'
  rt : ∀ v F' H' d O', Gw O F H O' F' H' → OwnOk K F' H' O' → Dat K F' v d → P.rt d O' → D.rt v H'
  bk : ∀ σ' F' H' Δ' O', Gw O F H O' F' H' → OwnOk K F' H' O' → EnvOk K F' σ' Δ' → P.bk Δ' O' → D.bk σ' H'
  ct : ∀ σ' F' H' Δ' O', Gw O F H O' F' H' → OwnOk K F' H' O' → EnvOk K F' σ' Δ' → P.ct Δ' O' → D.ct σ' H'
def Sv (K : PySem.W.Frag) (E : XK) (Ψ : XPost) (ts : TS) (Δ : Env_) (O : Own) (P : Post) : Prop :=
  ∀ σ F H (D : Ends), EnvOk K F σ Δ → OwnOk K F H O → Ex F H → XOk K E Ψ O F H → DOk K O F H D P → ts D σ H
/-- storing d to a target -/
def Gv (K : PySem.W.Frag) (g : TG) (d : Dt) (js : List Nat) (T : Env_ → Env_) : Prop :=
  ∀ v σ H F Δ (Q : L2.St → Hp → Prop), Ex F H → Dat K F v d → EnvOk K F σ Δ → (∀ σ', σ'.length = σ.length → (∀ i, i ∉ js → σ'[i]? = σ[i]?) → EnvOk K F σ' (T Δ) → Q σ' H) → g v σ H Q

section
variable {K : PySem.W.Frag} {E : XK} {Ψ : XPost} {F F' F1 F2 H H' H1 H2 : Hp} {O O' O1 O2 R : Own} {σ : L2.St} {Δ : Env_} {D : Ends} {P : Post}
theorem EnvOk.mono (h : EnvOk K F σ Δ) (e : Ex F F') : EnvOk K F' σ Δ := ⟨h.len, fun i d q => let ⟨v, a, b⟩ := h.at_ i d q; ⟨v, a, b.mono e⟩⟩
theorem XOk.step (g : Gw O F H O1 F1 H1) (h : XOk K E Ψ O F H) : XOk K E Ψ O1 F1 H1 := fun C d F' H' O' fvs fs g2 a b c e => h C d F' H' O' fvs fs (g.trans g2) a b c e
theorem DOk.step (g : Gw O F H O1 F1 H1) (h : DOk K O F H D P) : DOk K O1 F1 H1 D P :=
  ⟨fun σ' F' H' Δ' O' g2 a b c => h.nx σ' F' H' Δ' O' (g.trans g2) a b c, fun v F' H' d O' g2 a b c => h.rt v F' H' d O' (g.trans g2) a b c,
   fun σ' F' H' Δ' O' g2 a b c => h.bk σ' F' H' Δ' O' (g.trans g2) a b c, fun σ' F' H' Δ' O' g2 a b c => h.ct σ' F' H' Δ' O' (g.trans g2) a b c⟩
theorem EnvOk.set (h : EnvOk K F σ Δ) {v : V} {d : Dt} (i : Nat) (k : Dat K F v d) : EnvOk K F (σ.set i (some v)) (Δ.set i (some d)) := by
  refine ⟨by rw [List.length_set, List.length_set]; exact h.len, fun j e q => ?_⟩
  by_cases hj : i = j
  · subst hj
    have hl : i < Δ.length := by
      have := (List.getElem?_eq_some_iff.mp q).1
      rwa [List.length_set] at this
    rw [List.getElem?_set_self hl] at q
    cases q
    exact ⟨v, by rw [List.getElem?_set_self (by rw [h.len]; exact hl)], k⟩
  · rw [List.getElem?_set_ne hj] at q ⊢
    exact h.at_ j e q
def wipeD (Δ : Env_) : List Nat → Env_
  | [] => Δ
  | v :: vs => (wipeD Δ vs).set v none
theorem EnvOk.wipe (h : EnvOk K F σ Δ) : ∀ vs, EnvOk K F (L2.wipe σ vs) (wipeD Δ vs)
  | [] => h
  | v :: vs => by
    have ih := EnvOk.wipe h vs
    show EnvOk K F ((L2.wipe σ vs).set v none) ((wipeD Δ vs).set v none)
    refine ⟨by rw [List.length_set, List.length_set]; exact ih.len, fun j e q => ?_⟩
    by_cases hj : v = j
    · subst hj
      have hl : v < (wipeD Δ vs).length := by
        have := (List.getElem?_eq_some_iff.mp q).1
        rwa [List.length_set] at this
      rw [List.getElem?_set_self hl] at q
      cases q
    · rw [List.getElem?_set_ne hj] at q ⊢
      exact ih.at_ j e q
theorem wipe_out : ∀ (σ : L2.St) (vs : List Nat) (i : Nat), i ∉ vs → (L2.wipe σ vs)[i]? = σ[i]?
  | _, [], _, _ => rfl
  | σ, v :: vs, i, h => by
    show ((L2.wipe σ vs).set v none)[i]? = _
    rw [List.getElem?_set_ne (fun e => h (by simp [e])), wipe_out σ vs i (fun m => h (List.mem_cons_of_mem _ m))]
theorem wipe_in : ∀ (σ : L2.St) (vs : List Nat) (i : Nat), i ∈ vs → i < σ.length → (L2.wipe σ vs)[i]? = some none
  | _, [], _, h, _ => by simp at h
  | σ, v :: vs, i, h, hl => by
    show ((L2.wipe σ vs).set v none)[i]? = _
    by_cases e : v = i
    · subst e; rw [List.getElem?_set_self (by rw [L2.wipe_length]; exact hl)]
    · rw [List.getElem?_set_ne e]
      exact wipe_in σ vs i (by rcases List.mem_cons.mp h with z | z; exact absurd z.symm e; exact z) hl
/-- what differs in the wiped places alone is wiped the same -/
theorem wipe_eq {σ σ' : L2.St} {vs : List Nat} (hl : σ'.length = σ.length) (h : ∀ i, i ∉ vs → σ'[i]? = σ[i]?) : L2.wipe σ' vs = L2.wipe σ vs := by
  apply List.ext_getElem?
  intro i
  by_cases m : i ∈ vs
  · by_cases q : i < σ.length
    · rw [wipe_in σ vs i m q, wipe_in σ' vs i m (by rw [hl]; exact q)]
    · rw [List.getElem?_eq_none (by rw [L2.wipe_length]; omega), List.getElem?_eq_none (by rw [L2.wipe_length]; omega)]
  · rw [wipe_out σ vs i m, wipe_out σ' vs i m, h i m]
theorem wipe_wipe (σ : L2.St) (vs : List Nat) : L2.wipe (L2.wipe σ vs) vs = L2.wipe σ vs := wipe_eq (L2.wipe_length σ vs) (wipe_out σ vs)

/-! targets -/
theorem gv_name (j : Nat) {d : Dt} : Gv K (gName j) d [j] (fun Δ => Δ.set j (some d)) := fun v σ H F Δ Q e k h q =>
  q _ (List.length_set ..) (fun i hi => by rw [List.getElem?_set_ne (fun z => hi (by simp [z]))]) (h.set j k)
def Gvs (K : PySem.W.Frag) (g : TGs) (ds : List Dt) (js : List Nat) (T : Env_ → Env_) : Prop :=
  ∀ vs σ H F Δ (Q : L2.St → Hp → Prop), Ex F H → DatL K F vs ds → EnvOk K F σ Δ → (∀ σ', σ'.length = σ.length → (∀ i, i ∉ js → σ'[i]? = σ[i]?) → EnvOk K F σ' (T Δ) → Q σ' H) → g vs σ H Q
theorem gvs_nil : Gvs K gNil [] [] (fun Δ => Δ) := fun vs σ H F Δ Q e k h q => by
  cases k
  exact ⟨rfl, q _ rfl (fun _ _ => rfl) h⟩
theorem gvs_cons {g : TG} {gs : TGs} {d : Dt} {ds : List Dt} {js ks : List Nat} {T T' : Env_ → Env_} (h1 : Gv K g d js T) (h2 : Gvs K gs ds ks T') : Gvs K (gCons g gs) (d :: ds) (js ++ ks) (fun Δ => T' (T Δ)) := fun vs σ H F Δ Q e k h q => by
  cases k with
  | cons a b =>
    refine ⟨_, _, rfl, h1 _ σ H F Δ _ e a h fun σ' l1 m1 h' => ?_⟩
    refine h2 _ σ' H F (T Δ) Q e b h' fun σ2 l2 m2 h2' => q σ2 (l2.trans l1) (fun i hi => ?_) h2'
    rw [m2 i (fun z => hi (List.mem_append_right _ z)), m1 i (fun z => hi (List.mem_append_left _ z))]
theorem gv_tup {g : TGs} {ds : List Dt} {js : List Nat} {T : Env_ → Env_} {n : Nat} (h : Gvs K g ds js T) (hn : ds.length = n) : Gv K (gTup K n g) (.tup ds) js T := fun v σ H F Δ Q e k he q => by
  cases k with
  | tup s l => exact ⟨_, _, rfl, Evl.ex_t e s, l.length.trans hn, h _ σ H F Δ Q e l he q⟩

/-! expressions -/
variable {te ta tb : TE} {tt : TT} {tas : TA} {Φ Φ' : Dt → Own → Prop} {d x y z : Dt} {ds : List Dt} {r : R2}
theorem Ev.imp (h : Ev K E Ψ te Δ O Φ) (k : ∀ d O', Φ d O' → Φ' d O') : Ev K E Ψ te Δ O Φ' := fun σ F H a b c e Q q => h σ F H a b c e Q fun v F' H' d O' g w x y => q v F' H' d O' g w x (k d O' y)
theorem EvT.imp {Φ Φ' : Bool → Own → Prop} (h : EvT K E Ψ tt Δ O Φ) (k : ∀ d O', Φ d O' → Φ' d O') : EvT K E Ψ tt Δ O Φ' := fun σ F H a b c e Q q => h σ F H a b c e Q fun v F' H' O' g w y => q v F' H' O' g w (k v O' y)
theorem ev_var {i : Nat} (h : Δ[i]? = some (some d)) : Ev K E Ψ (tVar i) Δ O (ex d O) := fun σ F H a b c e Q q => by
  obtain ⟨v, e1, k⟩ := a.at_ i d h
  exact ⟨v, e1, q v F H d O (.refl c) b k ⟨rfl, rfl⟩⟩
theorem ev_c {v : V} (h : ∀ F, Dat K F v d) : Ev K E Ψ (tC v) Δ O (ex d O) := fun σ F H a b c e Q q => q v F H d O (.refl c) b (h F) ⟨rfl, rfl⟩
theorem ev_int {i : Int} : Ev K E Ψ (tC (.int i)) Δ O (ex (.int i) O) := ev_c fun _ => .int i
theorem ev_bl {i : Bool} : Ev K E Ψ (tC (.bl i)) Δ O (ex (.bl i) O) := ev_c fun _ => .bl i
theorem ev_str {i : Str} : Ev K E Ψ (tC (.str i)) Δ O (ex (.str i) O) := ev_c fun _ => .str i
theorem ev_non : Ev K E Ψ (tC .non) Δ O (ex .non O) := ev_c fun _ => .non
theorem ev_opG {Θ : Dt → Own → Dt → Own → Prop} (ha : Ev K E Ψ ta Δ O Φ) (hb : ∀ x O1, Φ x O1 → Ev K E Ψ tb Δ O1 (Θ x O1)) (hr : ∀ x O1 y O2, Φ x O1 → Θ x O1 y O2 → OpD K E Ψ r x y O2 Φ') : Ev K E Ψ (tOp r ta tb) Δ O Φ' :=
  fun σ F H a b c e Q q => ha σ F H a b c e _ fun v F1 H1 x O1 g1 b1 k1 p1 => hb x O1 p1 σ F1 H1 (a.mono g1.ext) b1 g1.sub (e.step g1) _ fun u F2 H2 y O2 g2 b2 k2 p2 =>
    hr x O1 y O2 p1 p2 F2 H2 v u b2 g2.sub (e.step (g1.trans g2)) (k1.mono g2.ext) k2 Q fun w F3 H3 d O3 g3 b3 k3 p3 => q w F3 H3 d O3 ((g1.trans g2).trans g3) b3 k3 p3
theorem ev_op (ha : Ev K E Ψ ta Δ O (ex x O)) (hb : Ev K E Ψ tb Δ O (ex y O)) (hr : OpD K E Ψ r x y O Φ) : Ev K E Ψ (tOp r ta tb) Δ O Φ :=
  ev_opG (Θ := fun _ _ => ex y O) ha (fun _ _ h => by rw [h.2]; exact hb) (fun _ _ _ _ h k => by rw [h.1, k.1, k.2]; exact hr)
theorem ev_unG {r : V → Hp → VK → Prop} (ha : Ev K E Ψ ta Δ O Φ) (hr : ∀ x O1, Φ x O1 → UnD K E Ψ r x O1 Φ') : Ev K E Ψ (tUn r ta) Δ O Φ' :=
  fun σ F H a b c e Q q => ha σ F H a b c e _ fun v F1 H1 x O1 g1 b1 k1 p1 => hr x O1 p1 F1 H1 v b1 g1.sub (e.step g1) k1 Q fun w F3 H3 d O3 g3 b3 k3 p3 => q w F3 H3 d O3 (g1.trans g3) b3 k3 p3
theorem ev_un {r : V → Hp → VK → Prop} (ha : Ev K E Ψ ta Δ O (ex x O)) (hr : UnD K E Ψ r x O Φ) : Ev K E Ψ (tUn r ta) Δ O Φ := ev_unG ha fun _ _ h => by obtain ⟨rfl, rfl⟩ := h; exact hr
theorem ea_nil : EvA K E Ψ tNil Δ O (exl [] O) := fun σ F H a b c e Q q => q [] F H [] O (.refl c) b .nil ⟨rfl, rfl⟩
theorem ea_consG {Φ' : List Dt → Own → Prop} {Θ : Dt → Own → List Dt → Own → Prop} (ha : Ev K E Ψ ta Δ O Φ) (hb : ∀ x O1, Φ x O1 → EvA K E Ψ tas Δ O1 (Θ x O1)) (hc : ∀ x O1 ys O2, Φ x O1 → Θ x O1 ys O2 → Φ' (x :: ys) O2) : EvA K E Ψ (tCons ta tas) Δ O Φ' :=
  fun σ F H a b c e Q q => ha σ F H a b c e _ fun v F1 H1 x O1 g1 b1 k1 p1 => hb x O1 p1 σ F1 H1 (a.mono g1.ext) b1 g1.sub (e.step g1) _ fun us F2 H2 ys O2 g2 b2 k2 p2 =>
    q (v :: us) F2 H2 (x :: ys) O2 (g1.trans g2) b2 (.cons (k1.mono g2.ext) k2) (hc x O1 ys O2 p1 p2)
theorem ea_cons (ha : Ev K E Ψ ta Δ O (ex x O)) (hb : EvA K E Ψ tas Δ O (exl ds O)) : EvA K E Ψ (tCons ta tas) Δ O (exl (x :: ds) O) :=
  ea_consG (Θ := fun _ _ => exl ds O) ha (fun _ _ h => by rw [h.2]; exact hb) (fun _ _ _ _ h k => ⟨by rw [h.1, k.1], k.2⟩)
theorem EvA.imp {Φ Φ' : List Dt → Own → Prop} (h : EvA K E Ψ tas Δ O Φ) (k : ∀ d O', Φ d O' → Φ' d O') : EvA K E Ψ tas Δ O Φ' := fun σ F H a b c e Q q => h σ F H a b c e Q fun v F' H' d O' g w x y => q v F' H' d O' g w x (k d O' y)
/-- freezing an owned new list -/
theorem Gw.frz {p : Addr} {xs : List V} (h : OwnOk K F H ((p, .lst ds) :: O)) (e : Ex F H) (hp : H p = some (.lst xs)) (l : DatL K F xs ds) : Gw ((p, .lst ds) :: O) F H O (upd F p (.lst xs)) H ∧ OwnOk K (upd F p (.lst xs)) H O ∧ Dat K (upd F p (.lst xs)) (.ref p) (.lst ds) := by
  have fp : F p = none := h.none_ (by simp)
  have ee : Ex F (upd F p (.lst xs)) := Ex.new fp
  refine ⟨⟨ee, fun a w z => ?_, fun a o _ z => z, fun a z => z, fun a z m => ?_, fun a m => .inl (List.mem_cons_of_mem _ m)⟩, ⟨(List.nodup_cons.mp h.nd).2, fun q o m => ?_⟩, .lst upd_same (l.mono ee)⟩
  · by_cases ha : a = p
    · subst ha; rw [upd_same] at z; cases z; exact hp
    · rw [upd_ne ha] at z; exact e a w z
  · rw [upd_ne (fun q => m (by simp [q]))]
  · have hq := h.at_ q o (List.mem_cons_of_mem _ m)
    have ne : q ≠ p := fun z => by
      subst z
      exact (List.nodup_cons.mp h.nd).1 (mem_addr m)
    exact ⟨by rw [upd_ne ne]; exact hq.1, hq.2.mono ee fun _ z => z⟩
theorem ev_frzG {Φ' : List Dt → Prop} (h : Ev K E Ψ te Δ O (fun d O' => ∃ q ds, d = .ref q ∧ O' = (q, .lst ds) :: O ∧ Φ' ds)) : Ev K E Ψ te Δ O (fun d O' => O' = O ∧ ∃ ds, d = .lst ds ∧ Φ' ds) := fun σ F H a b c e Q q =>
  h σ F H a b c e Q fun v F1 H1 d O1 g1 b1 k1 p1 => by
    obtain ⟨p, ds, rfl, rfl, hp⟩ := p1
    cases k1
    obtain ⟨_, xs, e1, l1⟩ := b1.at_ p (.lst ds) (by simp)
    obtain ⟨g2, b2, k2⟩ := Gw.frz b1 g1.sub e1 l1
    exact q _ _ H1 _ O (g1.trans g2) b2 k2 ⟨rfl, ds, rfl, hp⟩
theorem ev_frz (h : Ev K E Ψ te Δ O (nwl ds O)) : Ev K E Ψ te Δ O (ex (.lst ds) O) :=
  (ev_frzG (Φ' := fun es => es = ds) (h.imp fun d O' ⟨q, a, b⟩ => ⟨q, ds, a, b, rfl⟩)).imp fun d O' ⟨a, es, b, c⟩ => ⟨by rw [b, c], a⟩
/-! what a list's reading is -/
def LstOf (O : Own) (d : Dt) (ds : List Dt) : Prop := d = .lst ds ∨ ∃ p, d = .ref p ∧ (p, Ow.lst ds) ∈ O
theorem LstOf.read (h : LstOf O d ds) (b : OwnOk K F H O) (c : Ex F H) {v : V} (k : Dat K F v d) : ∃ a xs, v = .ref a ∧ H a = some (.lst xs) ∧ DatL K F xs ds := by
  rcases h with rfl | ⟨p, rfl, m⟩
  · cases k with | lst e l => exact ⟨_, _, rfl, c _ _ e, l⟩
  · cases k
    obtain ⟨_, xs, e, l⟩ := b.at_ _ _ m
    exact ⟨p, xs, rfl, e, l⟩
def SeqOf (O : Own) (d : Dt) (ds : List Dt) : Prop := LstOf O d ds ∨ d = .tup ds
theorem SeqOf.read (h : SeqOf O d ds) (b : OwnOk K F H O) (c : Ex F H) {v : V} (k : Dat K F v d) : ∃ a xs, v = .ref a ∧ (SqL K H a xs ∨ SqT K H a xs) ∧ DatL K F xs ds := by
  rcases h with h | rfl
  · obtain ⟨a, xs, e, h, l⟩ := h.read b c k
    exact ⟨a, xs, e, .inl (.of h), l⟩
  · cases k with | tup e l => exact ⟨_, _, rfl, .inr (Evl.ex_t c e), l⟩
theorem lo_lst : LstOf O (.lst ds) ds := .inl rfl
theorem lo_own {p : Addr} (m : (p, Ow.lst ds) ∈ O) : LstOf O (.ref p) ds := .inr ⟨p, rfl, m⟩
theorem so_lst : SeqOf O (.lst ds) ds := .inl lo_lst
theorem so_tup : SeqOf O (.tup ds) ds := .inr rfl
theorem so_own {p : Addr} (m : (p, Ow.lst ds) ∈ O) : SeqOf O (.ref p) ds := .inl (lo_own m)

/-! displays -/
theorem ev_lstG {Φ' : List Dt → Own → Prop} (h : EvA K E Ψ tas Δ O Φ') (hl : ∀ ds O', Φ' ds O' → ds.length ≤ 100000) : Ev K E Ψ (tLst tas) Δ O (fun d O' => ∃ q ds O1, d = .ref q ∧ O' = (q, .lst ds) :: O1 ∧ Φ' ds O1) := fun σ F H a b c e Q q =>
  h σ F H a b c e _ fun vs F1 H1 ds O1 g1 b1 k1 p1 => ⟨by rw [k1.length]; exact sz_of (hl ds O1 p1), fun p hp =>
    q _ F1 _ (.ref p) ((p, .lst ds) :: O1) (g1.trans (Gw.newOwn g1.sub hp)) (b1.newOwn g1.sub hp ⟨vs, upd_same, k1⟩) (.ref p) ⟨p, ds, O1, rfl, rfl, p1⟩⟩
theorem ev_lstN (h : EvA K E Ψ tas Δ O (exl ds O)) (hl : ds.length ≤ 100000) : Ev K E Ψ (tLst tas) Δ O (nwl ds O) :=
  (ev_lstG h (fun _ _ h => by obtain ⟨rfl, rfl⟩ := h; exact hl)).imp fun d O' ⟨q, es, O1, a, b, c⟩ => by obtain ⟨rfl, rfl⟩ := c; exact ⟨q, a, b⟩
theorem ev_lst (h : EvA K E Ψ tas Δ O (exl ds O)) (hl : ds.length ≤ 100000) : Ev K E Ψ (tLst tas) Δ O (ex (.lst ds) O) := ev_frz (ev_lstN h hl)
theorem ev_tupG {Φ' : List Dt → Own → Prop} (h : EvA K E Ψ tas Δ O Φ') (hl : ∀ ds O', Φ' ds O' → ds.length ≤ 100000) : Ev K E Ψ (tTup tas) Δ O (fun d O' => ∃ ds, d = .tup ds ∧ Φ' ds O') := fun σ F H a b c e Q q =>
  h σ F H a b c e _ fun vs F1 H1 ds O1 g1 b1 k1 p1 => ⟨by rw [k1.length]; exact sz_of (hl ds O1 p1), fun p hp =>
    q _ _ _ (.tup ds) O1 (g1.trans (Gw.new g1.sub hp)) (b1.new g1.sub hp) (.tup (.of upd_same) (k1.mono (Gw.new (O := O1) g1.sub hp).ext)) ⟨ds, rfl, p1⟩⟩
theorem ev_tup (h : EvA K E Ψ tas Δ O (exl ds O)) (hl : ds.length ≤ 100000) : Ev K E Ψ (tTup tas) Δ O (ex (.tup ds) O) :=
  (ev_tupG h (fun _ _ h => by obtain ⟨rfl, rfl⟩ := h; exact hl)).imp fun d O' ⟨es, a, b⟩ => by obtain ⟨rfl, rfl⟩ := b; exact ⟨a, rfl⟩

/-! primitives -/
theorem opd_val (h : ∀ F H v u, OwnOk K F H O → Ex F H → Dat K F v x → Dat K F u y → ∃ w, Dat K F w z ∧ ∀ Q : VK, Q w H → r v u H Q) : OpD K E Ψ r x y O (ex z O) := fun F H v u b c e k1 k2 Q q => by
  obtain ⟨w, k, g⟩ := h F H v u b c k1 k2
  exact g Q (q w F H z O (.refl c) b k ⟨rfl, rfl⟩)
theorem opd_new (h : ∀ F H v u, OwnOk K F H O → Ex F H → Dat K F v x → Dat K F u y → ∃ ws, DatL K F ws ds ∧ ∀ Q : VK, (∀ p, H p = none → Q (.ref p) (upd H p (.lst ws))) → r v u H Q) : OpD K E Ψ r x y O (nwl ds O) := fun F H v u b c e k1 k2 Q q => by
  obtain ⟨ws, k, g⟩ := h F H v u b c k1 k2
  exact g Q fun p hp => q _ F _ (.ref p) ((p, .lst ds) :: O) (Gw.newOwn c hp) (b.newOwn c hp ⟨ws, upd_same, k⟩) (.ref p) ⟨p, rfl, rfl⟩
theorem opd_newT (h : ∀ F H v u, OwnOk K F H O → Ex F H → Dat K F v x → Dat K F u y → ∃ ws, DatL K F ws ds ∧ ∀ Q : VK, (∀ p, H p = none → Q (.ref p) (upd H p (.tup ws))) → r v u H Q) : OpD K E Ψ r x y O (ex (.tup ds) O) := fun F H v u b c e k1 k2 Q q => by
  obtain ⟨ws, k, g⟩ := h F H v u b c k1 k2
  exact g Q fun p hp => q _ _ _ (.tup ds) O (Gw.new c hp) (b.new c hp) (.tup (.of upd_same) (k.mono (Gw.new (O := O) c hp).ext)) ⟨rfl, rfl⟩
theorem und_val {r : V → Hp → VK → Prop} (h : ∀ F H v, OwnOk K F H O → Ex F H → Dat K F v x → ∃ w, Dat K F w z ∧ ∀ Q : VK, Q w H → r v H Q) : UnD K E Ψ r x O (ex z O) := fun F H v b c e k1 Q q => by
  obtain ⟨w, k, g⟩ := h F H v b c k1
  exact g Q (q w F H z O (.refl c) b k ⟨rfl, rfl⟩)
theorem cad_val {r : List V → Hp → VK → Prop} {xs : List Dt} (h : ∀ F H vs, OwnOk K F H O → Ex F H → DatL K F vs xs → ∃ w, Dat K F w z ∧ ∀ Q : VK, Q w H → r vs H Q) : CaD K E Ψ r xs O (ex z O) := fun F H v b c e k1 Q q => by
  obtain ⟨w, k, g⟩ := h F H v b c k1
  exact g Q (q w F H z O (.refl c) b k ⟨rfl, rfl⟩)
theorem cad_new {r : List V → Hp → VK → Prop} {xs : List Dt} (h : ∀ F H vs, OwnOk K F H O → Ex F H → DatL K F vs xs → ∃ ws, DatL K F ws ds ∧ ∀ Q : VK, (∀ p, H p = none → Q (.ref p) (upd H p (.lst ws))) → r vs H Q) : CaD K E Ψ r xs O (nwl ds O) := fun F H v b c e k1 Q q => by
  obtain ⟨ws, k, g⟩ := h F H v b c k1
  exact g Q fun p hp => q _ F _ (.ref p) ((p, .lst ds) :: O) (Gw.newOwn c hp) (b.newOwn c hp ⟨ws, upd_same, k⟩) (.ref p) ⟨p, rfl, rfl⟩
theorem cad_newT {r : List V → Hp → VK → Prop} {xs : List Dt} (h : ∀ F H vs, OwnOk K F H O → Ex F H → DatL K F vs xs → ∃ ws, DatL K F ws ds ∧ ∀ Q : VK, (∀ p, H p = none → Q (.ref p) (upd H p (.tup ws))) → r vs H Q) : CaD K E Ψ r xs O (ex (.tup ds) O) := fun F H v b c e k1 Q q => by
  obtain ⟨ws, k, g⟩ := h F H v b c k1
  exact g Q fun p hp => q _ _ _ (.tup ds) O (Gw.new c hp) (b.new c hp) (.tup (.of upd_same) (k.mono (Gw.new (O := O) c hp).ext)) ⟨rfl, rfl⟩
theorem ev_cbG {r : List V → Hp → VK → Prop} {Θ : List Dt → Own → Prop} (ha : EvA K E Ψ tas Δ O Θ) (hr : ∀ xs O1, Θ xs O1 → CaD K E Ψ r xs O1 Φ) : Ev K E Ψ (tCB r tas) Δ O Φ :=
  fun σ F H a b c e Q q => ha σ F H a b c e _ fun v F1 H1 x O1 g1 b1 k1 p1 => hr x O1 p1 F1 H1 v b1 g1.sub (e.step g1) k1 Q fun w F3 H3 d O3 g3 b3 k3 p3 => q w F3 H3 d O3 (g1.trans g3) b3 k3 p3
theorem ev_cb {r : List V → Hp → VK → Prop} (ha : EvA K E Ψ tas Δ O (exl ds O)) (hr : CaD K E Ψ r ds O Φ) : Ev K E Ψ (tCB r tas) Δ O Φ := ev_cbG ha fun _ _ h => by obtain ⟨rfl, rfl⟩ := h; exact hr
theorem OpD.imp (h : OpD K E Ψ r x y O Φ) (k : ∀ d O', Φ d O' → Φ' d O') : OpD K E Ψ r x y O Φ' := fun F H v u b c e k1 k2 Q q => h F H v u b c e k1 k2 Q fun w F' H' d O' g w1 w2 w3 => q w F' H' d O' g w1 w2 (k d O' w3)
theorem CaD.imp {r : List V → Hp → VK → Prop} {xs : List Dt} (h : CaD K E Ψ r xs O Φ) (k : ∀ d O', Φ d O' → Φ' d O') : CaD K E Ψ r xs O Φ' := fun F H v b c e k1 Q q => h F H v b c e k1 Q fun w F' H' d O' g w1 w2 w3 => q w F' H' d O' g w1 w2 (k d O' w3)

/-! tests -/
theorem et_testG {Φ' : Bool → Own → Prop} (h : Ev K E Ψ te Δ O (fun d O' => ∃ b, d = .bl b ∧ Φ' b O')) : EvT K E Ψ (tTest te) Δ O Φ' := fun σ F H a b c e Q q => h σ F H a b c e _ fun v F1 H1 x O1 g1 b1 k1 p1 => by
  obtain ⟨k, rfl, p⟩ := p1
  cases k1
  exact ⟨k, rfl, q k F1 H1 O1 g1 b1 p⟩
theorem et_test {b : Bool} (h : Ev K E Ψ te Δ O (ex (.bl b) O)) : EvT K E Ψ (tTest te) Δ O (exb b O) := et_testG (h.imp fun d O' ⟨a, c⟩ => ⟨b, a, rfl, c⟩)
theorem et_BG {Φ' : Bool → Own → Prop} (h : Ev K E Ψ te Δ O (fun d O' => ∃ b, d = .bl b ∧ Φ' b O')) : EvT K E Ψ (tB te) Δ O Φ' := et_testG h
theorem et_B {b : Bool} (h : Ev K E Ψ te Δ O (ex (.bl b) O)) : EvT K E Ψ (tB te) Δ O (exb b O) := et_test h
theorem et_not {b : Bool} {t : TT} (h : EvT K E Ψ t Δ O (exb b O)) : EvT K E Ψ (tNot t) Δ O (exb (!b) O) := fun σ F H a bb c e Q q => h σ F H a bb c e _ fun v F1 H1 O1 g1 b1 p1 => by
  obtain ⟨rfl, rfl⟩ := p1
  exact q _ F1 H1 _ g1 b1 ⟨rfl, rfl⟩
theorem et_andG {t u : TT} {Φ1 Φ2 : Bool → Own → Prop} (h1 : EvT K E Ψ t Δ O Φ1) (h2 : ∀ O1, Φ1 true O1 → EvT K E Ψ u Δ O1 Φ2) (h3 : ∀ O1, Φ1 false O1 → Φ2 false O1) : EvT K E Ψ (tAnd t u) Δ O Φ2 := fun σ F H a bb c e Q q => h1 σ F H a bb c e _ fun v F1 H1 O1 g1 b1 p1 => by
  cases v with
  | true => exact iteT (h2 O1 p1 σ F1 H1 (a.mono g1.ext) b1 g1.sub (e.step g1) Q fun w F2 H2 O2 g2 b2 p2 => q w F2 H2 O2 (g1.trans g2) b2 p2)
  | false => exact iteF (q false F1 H1 O1 g1 b1 (h3 O1 p1))
theorem et_orG {t u : TT} {Φ1 Φ2 : Bool → Own → Prop} (h1 : EvT K E Ψ t Δ O Φ1) (h2 : ∀ O1, Φ1 false O1 → EvT K E Ψ u Δ O1 Φ2) (h3 : ∀ O1, Φ1 true O1 → Φ2 true O1) : EvT K E Ψ (tOr t u) Δ O Φ2 := fun σ F H a bb c e Q q => h1 σ F H a bb c e _ fun v F1 H1 O1 g1 b1 p1 => by
  cases v with
  | false => exact iteF (h2 O1 p1 σ F1 H1 (a.mono g1.ext) b1 g1.sub (e.step g1) Q fun w F2 H2 O2 g2 b2 p2 => q w F2 H2 O2 (g1.trans g2) b2 p2)
  | true => exact iteT (q true F1 H1 O1 g1 b1 (h3 O1 p1))
theorem et_and {t u : TT} {b b' : Bool} (h1 : EvT K E Ψ t Δ O (exb b O)) (h2 : b = true → EvT K E Ψ u Δ O (exb b' O)) : EvT K E Ψ (tAnd t u) Δ O (exb (b && b') O) :=
  et_andG h1 (fun O1 h => by obtain ⟨rfl, rfl⟩ := h; exact h2 rfl) (fun O1 h => by obtain ⟨rfl, rfl⟩ := h; exact ⟨rfl, rfl⟩)
theorem et_or {t u : TT} {b b' : Bool} (h1 : EvT K E Ψ t Δ O (exb b O)) (h2 : b = false → EvT K E Ψ u Δ O (exb b' O)) : EvT K E Ψ (tOr t u) Δ O (exb (b || b') O) :=
  et_orG h1 (fun O1 h => by obtain ⟨rfl, rfl⟩ := h; exact h2 rfl) (fun O1 h => by obtain ⟨rfl, rfl⟩ := h; exact ⟨rfl, rfl⟩)
theorem ev_andVG {Φ2 : Dt → Own → Prop} {Φ1 : Bool → Own → Prop} (h1 : Ev K E Ψ ta Δ O (fun d O' => ∃ b, d = .bl b ∧ Φ1 b O')) (h2 : ∀ O1, Φ1 true O1 → Ev K E Ψ tb Δ O1 Φ2) (h3 : ∀ O1, Φ1 false O1 → Φ2 (.bl false) O1) : Ev K E Ψ (tAndV ta tb) Δ O Φ2 := fun σ F H a bb c e Q q => h1 σ F H a bb c e _ fun v F1 H1 x O1 g1 b1 k1 p1 => by
  obtain ⟨k, rfl, p⟩ := p1
  cases k1
  refine ⟨k, rfl, ?_⟩
  cases k with
  | true => exact iteT (h2 O1 p σ F1 H1 (a.mono g1.ext) b1 g1.sub (e.step g1) Q fun w F2 H2 d2 O2 g2 b2 k2 p2 => q w F2 H2 d2 O2 (g1.trans g2) b2 k2 p2)
  | false => exact iteF (q _ F1 H1 _ O1 g1 b1 (.bl false) (h3 O1 p))
theorem ev_orVG {Φ2 : Dt → Own → Prop} {Φ1 : Bool → Own → Prop} (h1 : Ev K E Ψ ta Δ O (fun d O' => ∃ b, d = .bl b ∧ Φ1 b O')) (h2 : ∀ O1, Φ1 false O1 → Ev K E Ψ tb Δ O1 Φ2) (h3 : ∀ O1, Φ1 true O1 → Φ2 (.bl true) O1) : Ev K E Ψ (tOrV ta tb) Δ O Φ2 := fun σ F H a bb c e Q q => h1 σ F H a bb c e _ fun v F1 H1 x O1 g1 b1 k1 p1 => by
  obtain ⟨k, rfl, p⟩ := p1
  cases k1
  refine ⟨k, rfl, ?_⟩
  cases k with
  | false => exact iteF (h2 O1 p σ F1 H1 (a.mono g1.ext) b1 g1.sub (e.step g1) Q fun w F2 H2 d2 O2 g2 b2 k2 p2 => q w F2 H2 d2 O2 (g1.trans g2) b2 k2 p2)
  | true => exact iteT (q _ F1 H1 _ O1 g1 b1 (.bl true) (h3 O1 p))
theorem ev_andV {b b' : Bool} (h1 : Ev K E Ψ ta Δ O (ex (.bl b) O)) (h2 : b = true → Ev K E Ψ tb Δ O (ex (.bl b') O)) : Ev K E Ψ (tAndV ta tb) Δ O (ex (.bl (b && b')) O) :=
  ev_andVG (Φ1 := exb b O) (h1.imp fun d O' ⟨a, c⟩ => ⟨b, a, rfl, c⟩) (fun O1 h => by obtain ⟨rfl, rfl⟩ := h; exact h2 rfl) (fun O1 h => by obtain ⟨rfl, rfl⟩ := h; exact ⟨rfl, rfl⟩)
theorem ev_orV {b b' : Bool} (h1 : Ev K E Ψ ta Δ O (ex (.bl b) O)) (h2 : b = false → Ev K E Ψ tb Δ O (ex (.bl b') O)) : Ev K E Ψ (tOrV ta tb) Δ O (ex (.bl (b || b')) O) :=
  ev_orVG (Φ1 := exb b O) (h1.imp fun d O' ⟨a, c⟩ => ⟨b, a, rfl, c⟩) (fun O1 h => by obtain ⟨rfl, rfl⟩ := h; exact h2 rfl) (fun O1 h => by obtain ⟨rfl, rfl⟩ := h; exact ⟨rfl, rfl⟩)
theorem ev_notV {b : Bool} (h : Ev K E Ψ ta Δ O (ex (.bl b) O)) : Ev K E Ψ (tNotV ta) Δ O (ex (.bl (!b)) O) := fun σ F H a bb c e Q q => h σ F H a bb c e _ fun v F1 H1 x O1 g1 b1 k1 p1 => by
  obtain ⟨rfl, rfl⟩ := p1
  cases k1
  exact ⟨b, rfl, q _ F1 H1 _ _ g1 b1 (.bl _) ⟨rfl, rfl⟩⟩
theorem ev_ifG {t : TT} {Φ1 : Bool → Own → Prop} (h : EvT K E Ψ t Δ O Φ1) (h1 : ∀ O1, Φ1 true O1 → Ev K E Ψ ta Δ O1 Φ) (h2 : ∀ O1, Φ1 false O1 → Ev K E Ψ tb Δ O1 Φ) : Ev K E Ψ (tIf t ta tb) Δ O Φ := fun σ F H a bb c e Q q => h σ F H a bb c e _ fun v F1 H1 O1 g1 b1 p1 => by
  cases v with
  | true => exact iteT (h1 O1 p1 σ F1 H1 (a.mono g1.ext) b1 g1.sub (e.step g1) Q fun w F2 H2 d2 O2 g2 b2 k2 p2 => q w F2 H2 d2 O2 (g1.trans g2) b2 k2 p2)
  | false => exact iteF (h2 O1 p1 σ F1 H1 (a.mono g1.ext) b1 g1.sub (e.step g1) Q fun w F2 H2 d2 O2 g2 b2 k2 p2 => q w F2 H2 d2 O2 (g1.trans g2) b2 k2 p2)
theorem ev_if {t : TT} {b : Bool} (h : EvT K E Ψ t Δ O (exb b O)) (h1 : b = true → Ev K E Ψ ta Δ O Φ) (h2 : b = false → Ev K E Ψ tb Δ O Φ) : Ev K E Ψ (tIf t ta tb) Δ O Φ :=
  ev_ifG h (fun O1 h => by obtain ⟨rfl, rfl⟩ := h; exact h1 rfl) (fun O1 h => by obtain ⟨rfl, rfl⟩ := h; exact h2 rfl)

/-! statements -/
variable {t u t' : TS} {P' : Post} {M : Env_ → Own → Prop}
theorem sv_seq (h1 : Sv K E Ψ t Δ O { P with nx := M }) (h2 : ∀ Δ' O', M Δ' O' → Sv K E Ψ u Δ' O' P) : Sv K E Ψ (tSeq t u) Δ O P := fun σ F H D a b c e k =>
  h1 σ F H { D with nx := u D } a b c e ⟨fun σ' F' H' Δ' O' g b' a' m => h2 Δ' O' m σ' F' H' D a' b' g.sub (e.step g) (k.step g), k.rt, k.bk, k.ct⟩
theorem sv_next (h : P.nx Δ O) : Sv K E Ψ tNext Δ O P := fun σ F H D a b c e k => k.nx σ F H Δ O (.refl c) b a h
theorem sv_brk (h : P.bk Δ O) : Sv K E Ψ tBreak Δ O P := fun σ F H D a b c e k => k.bk σ F H Δ O (.refl c) b a h
theorem sv_cont (h : P.ct Δ O) : Sv K E Ψ tCont Δ O P := fun σ F H D a b c e k => k.ct σ F H Δ O (.refl c) b a h
theorem sv_ret (h : Ev K E Ψ te Δ O P.rt) : Sv K E Ψ (tRet te) Δ O P := fun σ F H D a b c e k => h σ F H a b c e _ fun v F1 H1 d O1 g1 b1 k1 p1 => k.rt v F1 H1 d O1 g1 b1 k1 p1
theorem sv_retN (h : P.rt .non O) : Sv K E Ψ tRetN Δ O P := fun σ F H D a b c e k => k.rt .non F H .non O (.refl c) b .non h
theorem sv_retS (h : Sv K E Ψ (tRet te) Δ O P) : Sv K E Ψ (tSeq (tRet te) u) Δ O P := h
end
end FF

set_option Elab.async false
set_option linter.all false
set_option maxRecDepth 100000
set_option maxHeartbeats 1000000
namespace FF
open PySem PySem.Spec PyProof.Rows L2
open Evl (Ex sz_of sz_lt fresh_back)

abbrev X0 : XPost := fun _ _ _ => False
section
variable {K : PySem.W.Frag} {E E' : XK} {Ψ : XPost} {F F' F1 F2 H H' H1 H2 : Hp} {O O' O1 O2 R : Own} {σ : L2.St} {Δ : Env_} {D : Ends} {P : Post}
variable {te ta tb : TE} {tt : TT} {tas : TA} {Φ Φ' : Dt → Own → Prop} {d x y z : Dt} {ds : List Dt} {r : R2} {t u t' : TS} {P' : Post} {M : Env_ → Own → Prop}
theorem XOk.zero : XOk K E X0 O F H := fun _ _ _ _ _ _ _ _ _ _ _ h => h.elim
theorem OwnOk.perm (h : OwnOk K F H O) (e : O.Perm O') : OwnOk K F H O' := ⟨(e.map _).nodup_iff.mp h.nd, fun p o m => h.at_ p o (e.mem_iff.mpr m)⟩
theorem Gw.permR (g : Gw O F H O1 F1 H1) (e : O1.Perm O2) : Gw O F H O2 F1 H1 := ⟨g.ext, g.sub, g.keep, g.dom, g.old, fun a m => g.addr a ((e.map _).mem_iff.mpr m)⟩
theorem Gw.permL (g : Gw O F H O1 F1 H1) (e : O.Perm O2) : Gw O2 F H O1 F1 H1 :=
  ⟨g.ext, g.sub, fun a o m => g.keep a o fun z => m ((e.map _).mem_iff.mp z), g.dom, fun a q m => g.old a q fun z => m ((e.map _).mem_iff.mp z), fun a m => (g.addr a m).imp (fun z => (e.map _).mem_iff.mp z) id⟩
theorem Gw.dropR (g : Gw O F H (O1 ++ R) F1 H1) : Gw O F H O1 F1 H1 := ⟨g.ext, g.sub, g.keep, g.dom, g.old, fun a m => g.addr a (by rw [List.map_append]; exact List.mem_append_left _ m)⟩
theorem ev_frame (h : Ev K E X0 te Δ O Φ) : Ev K E' Ψ te Δ (O ++ R) (fun d O' => ∃ O1, O' = O1 ++ R ∧ Φ d O1) :=
  fun σ F H a b c e Q q => h σ F H a b.left c .zero Q fun v F' H' d O1 g b1 k p => q v F' H' d (O1 ++ R) g.frame (b.frame g b1) k ⟨O1, rfl, p⟩
theorem et_frame {Φ : Bool → Own → Prop} (h : EvT K E X0 tt Δ O Φ) : EvT K E' Ψ tt Δ (O ++ R) (fun d O' => ∃ O1, O' = O1 ++ R ∧ Φ d O1) :=
  fun σ F H a b c e Q q => h σ F H a b.left c .zero Q fun v F' H' O1 g b1 p => q v F' H' (O1 ++ R) g.frame (b.frame g b1) ⟨O1, rfl, p⟩
theorem ev_E (h : Ev K E X0 te Δ O Φ) : Ev K E' Ψ te Δ O Φ := fun σ F H a b c e Q q => h σ F H a b c .zero Q q

/-! sources of loops -/
def YD (K : PySem.W.Frag) (F1 : Hp) (ds : List Dt) : Nat → Hp → V → Hp → Prop := fun i H x H' => ∀ F2 O2 d, ds[i]? = some d → Ex F1 F2 → Ex F2 H → OwnOk K F2 H O2 → ∃ F3, Gw O2 F2 H O2 F3 H' ∧ OwnOk K F3 H' O2 ∧ Dat K F3 x d
def Iv (K : PySem.W.Frag) (E : XK) (Ψ : XPost) (wi : TI) (Δ : Env_) (O : Own) (Θ : List Dt → Own → Prop) : Prop :=
  ∀ σ F H, EnvOk K F σ Δ → OwnOk K F H O → Ex F H → XOk K E Ψ O F H → ∀ R : It → Hp → Prop, (∀ J G F1 H1 ds O1, Gw O F H O1 F1 H1 → OwnOk K F1 H1 O1 → (∀ H2, Ex F1 H2 → G H2) → L2.Walk J ds.length G (YD K F1 ds) → Θ ds O1 → R J H1) → wi σ H R
theorem yd_at {xs : List V} (l : DatL K F1 xs ds) {i : Nat} {H H' : Hp} {x : V} (y : L2.YAt xs i H x H') : YD K F1 ds i H x H' := fun F2 O2 d e e1 e2 b => by
  obtain ⟨rfl, hx⟩ := y
  obtain ⟨v, hv, k⟩ := l.get e
  rw [hx] at hv; cases hv
  exact ⟨F2, .refl e2, b, k.mono e1⟩
theorem iv_list {tl : TE} {Θ : List Dt → Own → Prop} (h : Ev K E Ψ tl Δ O (fun d O' => ∃ ds, d = .lst ds ∧ Θ ds O')) : Iv K E Ψ (iList K tl) Δ O Θ := fun σ F H a b c e R q =>
  h σ F H a b c e _ fun v F1 H1 d O1 g1 b1 k1 p1 => by
    obtain ⟨ds, rfl, p⟩ := p1
    cases k1 with
    | lst hx l =>
      rename_i ad xs
      have w := L2.walk_list (K := K) (a := ad) (xs := xs)
      rw [l.length] at w
      exact ⟨_, rfl, ⟨_, .of (g1.sub _ _ hx)⟩, q _ _ F1 H1 ds O1 g1 b1 (fun H2 e2 => SqL.of (e2 _ _ hx)) (w.mono (fun _ z => z) fun i H x H' _ _ y => yd_at l y) p⟩
theorem iv_tup {tl : TE} {Θ : List Dt → Own → Prop} (h : Ev K E Ψ tl Δ O (fun d O' => ∃ ds, d = .tup ds ∧ Θ ds O')) : Iv K E Ψ (iTup K tl) Δ O Θ := fun σ F H a b c e R q =>
  h σ F H a b c e _ fun v F1 H1 d O1 g1 b1 k1 p1 => by
    obtain ⟨ds, rfl, p⟩ := p1
    cases k1 with
    | tup hx l =>
      rename_i ad xs
      have w := L2.walk_tup (K := K) (a := ad) (xs := xs)
      rw [l.length] at w
      exact ⟨_, rfl, ⟨_, Evl.ex_t g1.sub hx⟩, q _ _ F1 H1 ds O1 g1 b1 (fun H2 e2 => Evl.ex_t e2 hx) (w.mono (fun _ z => z) fun i H x H' _ _ y => yd_at l y) p⟩
theorem iv_listE {tl : TE} (h : Ev K E Ψ tl Δ O (ex (.lst ds) O)) : Iv K E Ψ (iList K tl) Δ O (exl ds O) := iv_list (h.imp fun d O' ⟨a, b⟩ => ⟨ds, a, rfl, b⟩)
theorem iv_tupE {tl : TE} (h : Ev K E Ψ tl Δ O (ex (.tup ds) O)) : Iv K E Ψ (iTup K tl) Δ O (exl ds O) := iv_tup (h.imp fun d O' ⟨a, b⟩ => ⟨ds, a, rfl, b⟩)
def rng (lo : Int) (n : Nat) : List Dt := (List.range n).map fun i => Dt.int (lo + (i : Nat))
theorem rng_len (lo : Int) (n : Nat) : (rng lo n).length = n := by simp [rng]
theorem rng_get {lo : Int} {n i : Nat} {d : Dt} (h : (rng lo n)[i]? = some d) : i < n ∧ d = .int (lo + (i : Nat)) := by
  have hl : i < n := by
    have := (List.getElem?_eq_some_iff.mp h).1
    rwa [rng_len] at this
  refine ⟨hl, ?_⟩
  unfold rng at h
  rw [List.getElem?_map, List.getElem?_range hl] at h
  exact (Option.some.inj h).symm
theorem yd_rng {lo : Int} {n : Nat} {i : Nat} {H H' : Hp} {x : V} (y : L2.YFn (fun i => .int (lo + i)) i H x H') : YD K F1 (rng lo n) i H x H' := fun F2 O2 d e e1 e2 b => by
  obtain ⟨rfl, rfl⟩ := y
  obtain ⟨_, rfl⟩ := rng_get e
  exact ⟨F2, .refl e2, b, .int _⟩
theorem iv_range1 {n : Int} (h : EvA K E Ψ tas Δ O (exl [.int n] O)) (h1 : -(2 ^ 62) ≤ n) (h2 : n < 2 ^ 62) : Iv K E Ψ (iRng1 tas) Δ O (exl (rng 0 n.toNat) O) := fun σ F H a b c e R q =>
  h σ F H a b c e _ fun vs F1 H1 d O1 g1 b1 k1 p1 => by
    obtain ⟨rfl, rfl⟩ := p1
    cases k1 with
    | cons k l =>
      cases k; cases l
      have w := L2.walk_range (lo := 0) (n := n.toNat)
      rw [← rng_len 0 n.toNat] at w
      refine ⟨n, rfl, h1, h2, q _ _ F1 H1 (rng 0 n.toNat) O1 g1 b1 (fun H2 e2 => trivial) ?_ ⟨rfl, rfl⟩⟩
      rw [rng_len] at w ⊢
      exact w.mono (fun _ z => z) fun i H x H' _ _ y => yd_rng y
theorem iv_range2 {m n : Int} (h : EvA K E Ψ tas Δ O (exl [.int m, .int n] O)) (h1 : -(2 ^ 62) ≤ m ∧ m < 2 ^ 62 ∧ -(2 ^ 62) ≤ n ∧ n < 2 ^ 62) : Iv K E Ψ (iRng2 tas) Δ O (exl (rng m (n - m).toNat) O) := fun σ F H a b c e R q =>
  h σ F H a b c e _ fun vs F1 H1 d O1 g1 b1 k1 p1 => by
    obtain ⟨rfl, rfl⟩ := p1
    cases k1 with
    | cons k l =>
      cases k
      cases l with
      | cons k l =>
        cases k; cases l
        have w := L2.walk_range (lo := m) (n := (n - m).toNat)
        refine ⟨m, n, rfl, h1, q _ _ F1 H1 (rng m (n - m).toNat) O1 g1 b1 (fun H2 e2 => trivial) ?_ ⟨rfl, rfl⟩⟩
        rw [rng_len]
        exact w.mono (fun _ z => z) fun i H x H' _ _ y => yd_rng y

/-! comprehensions -/
theorem ev_lc {wi : TI} {g : TG} {vs js : List Nat} {T : Dt → Env_ → Env_} {Θ : List Dt → Own → Prop} (hi : Iv K E Ψ wi Δ O Θ) (hO : ∀ ds O', Θ ds O' → O' = O ∧ ds.length ≤ 50000)
    (hg : ∀ (ds : List Dt) (O' : Own) (i : Nat) (d : Dt), Θ ds O' → ds[i]? = some d → Gv K g d js (T d)) (hj : ∀ j ∈ js, j ∈ vs) (P : List Dt → Nat → List Dt → Prop) (h0 : ∀ ds O', Θ ds O' → P ds 0 [])
    (hs : ∀ (ds : List Dt) (O' : Own) (i : Nat) (d : Dt) (acc : List Dt), Θ ds O' → ds[i]? = some d → P ds i acc → EvT K E' X0 tt (T d (wipeD Δ vs)) O (fun b O1 => O1 = O ∧ (b = true → Ev K E' X0 te (T d (wipeD Δ vs)) O (fun e O2 => O2 = O ∧ P ds (i + 1) (acc ++ [e]))) ∧ (b = false → P ds (i + 1) acc))) :
    Ev K E Ψ (tLc wi g tt te vs) Δ O (fun d O' => ∃ q res, d = .ref q ∧ O' = (q, .lst res) :: O ∧ ∃ ds, Θ ds O ∧ P ds ds.length res) := fun σ F H a b c e Q q =>
  hi σ F H a b c e _ fun J G F1 H1 ds O1 g1 b1 hG hw hΘ => fun Dn hD => by
    obtain ⟨hOO, hlen⟩ := hO ds O1 hΘ
    subst hOO
    refine L2.lc_it hw (fun i Hc => ∃ Fc acc, Gw O1 F1 H1 (O1 ++ [(Dn, .lst acc)]) Fc Hc ∧ OwnOk K Fc Hc (O1 ++ [(Dn, .lst acc)]) ∧ acc.length ≤ i ∧ P ds i acc) ?_ ?_ ?_ ?_
    · have g2 := Gw.newOwn (O := O1) (o := .lst []) (u := .lst []) g1.sub hD
      have b2 := b1.newOwn (o := .lst []) (u := .lst []) g1.sub hD ⟨[], upd_same, .nil⟩
      exact ⟨F1, [], g2.permR (List.perm_append_comm (l₁ := [_])), b2.perm (List.perm_append_comm (l₁ := [_])), Nat.le_refl _, h0 ds O1 hΘ⟩
    · rintro i Hc _ ⟨Fc, acc, g, bb, _⟩
      exact hG Hc (g.ext.trans g.sub)
    · rintro i x Hc Hc' hi ⟨Fc, acc, g, bb, hla, p⟩ y
      obtain ⟨dd, hd⟩ : ∃ dd, ds[i]? = some dd := ⟨ds[i], by simp [hi]⟩
      obtain ⟨F3, g3, b3, k3⟩ := y Fc _ dd hd g.ext g.sub bb
      have env : EnvOk K F3 (L2.wipe σ vs) (wipeD Δ vs) := (a.mono (g1.ext.trans (g.ext.trans g3.ext))).wipe vs
      refine hg ds O1 i dd hΘ hd x (L2.wipe σ vs) Hc' F3 _ _ g3.sub k3 env fun σ' l1 m1 env' => ⟨?_, ?_⟩
      · rw [← wipe_wipe σ vs]
        exact wipe_eq l1 fun j hj' => m1 j fun z => hj' (hj j z)
      · refine et_frame (hs ds O1 i dd acc hΘ hd p) (E' := E') (Ψ := X0) σ' F3 Hc' env' b3 g3.sub .zero _ fun bt F4 H4 O4 g4 b4 p4 => ?_
        obtain ⟨O5, rfl, rfl, pt, pf⟩ := p4
        cases bt with
        | false => exact iteF ⟨F4, acc, (g.trans g3).trans g4, b4, by omega, pf rfl⟩
        | true =>
          refine iteT (ev_frame (pt rfl) (E' := E') (Ψ := X0) σ' F4 H4 (env'.mono g4.ext) b4 g4.sub .zero _ fun v F5 H5 de O6 g5 b5 k5 p5 => ?_)
          obtain ⟨O7, rfl, rfl, pn⟩ := p5
          have mem : (Dn, Ow.lst acc) ∈ O7 ++ [(Dn, Ow.lst acc)] := by simp
          obtain ⟨_, xs, hx, lx⟩ := b5.at_ _ _ mem
          have hi2 : (O7 ++ [(Dn, Ow.lst acc)])[O7.length]? = some (Dn, Ow.lst acc) := by simp
          have hset : (O7 ++ [(Dn, Ow.lst acc)]).set O7.length (Dn, Ow.lst (acc ++ [de])) = O7 ++ [(Dn, Ow.lst (acc ++ [de]))] := by simp
          obtain ⟨b6, hm⟩ := b5.mut (u := .lst (xs ++ [v])) (o' := .lst (acc ++ [de])) hi2 ⟨xs ++ [v], upd_same, lx.append (.one k5)⟩
          rw [hset] at b6 hm
          have g6 := Gw.mut (u := .lst (xs ++ [v])) b5 g5.sub (mem_addr mem) hm
          refine ⟨xs, hx, sz_lt (by rw [lx.length]; omega), F5, acc ++ [de], (((g.trans g3).trans g4).trans g5).trans g6, b6, by simp; omega, pn⟩
    · rintro Hc ⟨Fc, acc, g, bb, hla, p⟩
      exact q _ Fc Hc (.ref Dn) _ (g1.trans (g.permR (List.perm_append_comm (l₂ := [_])))) (bb.perm (List.perm_append_comm (l₂ := [_]))) (.ref Dn) ⟨Dn, acc, rfl, rfl, ds, hΘ, p⟩
/-- the simple form: each item gives its element, or is left out -/
theorem ev_lcF {wi : TI} {g : TG} {vs js : List Nat} {T : Dt → Env_ → Env_} (p : Dt → Bool) (f : Dt → Dt) (hi : Iv K E Ψ wi Δ O (exl ds O)) (hl : ds.length ≤ 50000) (hg : ∀ d, d ∈ ds → Gv K g d js (T d)) (hj : ∀ j ∈ js, j ∈ vs)
    (hs : ∀ d, d ∈ ds → EvT K E' X0 tt (T d (wipeD Δ vs)) O (exb (p d) O)) (he : ∀ d, d ∈ ds → p d = true → Ev K E' X0 te (T d (wipeD Δ vs)) O (ex (f d) O)) :
    Ev K E Ψ (tLc wi g tt te vs) Δ O (nwl ((ds.filter p).map f) O) := by
  refine (ev_lc (E' := E') (P := fun ds i acc => acc = ((ds.take i).filter p).map f) hi (fun ds' O' h => ⟨h.2, by rw [h.1]; exact hl⟩) (fun ds' O' i d h hd => hg d (by rw [← h.1]; exact List.mem_of_getElem? hd)) hj (fun _ _ _ => by simp) ?_).imp ?_
  · intro ds' O' i d acc h hd hacc
    have hm : d ∈ ds := by rw [← h.1]; exact List.mem_of_getElem? hd
    refine (hs d hm).imp fun b O1 hb => ⟨hb.2, fun ht => ?_, fun hf => ?_⟩
    · have hp : p d = true := by rw [← hb.1]; exact ht
      refine (he d hm hp).imp fun e O2 h2 => ⟨h2.2, ?_⟩
      rw [h2.1, hacc, List.take_add_one, hd, List.filter_append, List.map_append]
      simp [hp]
    · have hp : p d = false := by rw [← hb.1]; exact hf
      rw [hacc, List.take_add_one, hd, List.filter_append, List.map_append]
      simp [hp]
  · rintro d O' ⟨q, res, h1, h2, ds', h3, h4⟩
    refine ⟨q, h1, ?_⟩
    rw [h2, h4, h3.1, List.take_length]
theorem et_yes : EvT K E Ψ tYes Δ O (exb true O) := fun σ F H a b c e Q q => q true F H O (.refl c) b ⟨rfl, rfl⟩
theorem ev_lcM {wi : TI} {g : TG} {vs js : List Nat} {T : Dt → Env_ → Env_} (f : Dt → Dt) (hi : Iv K E Ψ wi Δ O (exl ds O)) (hl : ds.length ≤ 50000) (hg : ∀ d, d ∈ ds → Gv K g d js (T d)) (hj : ∀ j ∈ js, j ∈ vs)
    (he : ∀ d, d ∈ ds → Ev K E' X0 te (T d (wipeD Δ vs)) O (ex (f d) O)) : Ev K E Ψ (tLc wi g tYes te vs) Δ O (nwl (ds.map f) O) := by
  have h := ev_lcF (E' := E') (p := fun _ => true) f hi hl hg hj (fun d _ => et_yes) (fun d hd _ => he d hd)
  rwa [List.filter_eq_self.mpr (by simp)] at h

/-! statements -/
theorem sv_set {i : Nat} (h : Ev K E Ψ te Δ O Φ) (k : ∀ d O', Φ d O' → P.nx (Δ.set i (some d)) O') : Sv K E Ψ (tAsg te (gName i)) Δ O P := fun σ F H D a b c e kk =>
  h σ F H a b c e _ fun v F1 H1 d O1 g1 b1 k1 p1 => kk.nx _ F1 H1 _ O1 g1 b1 ((a.mono g1.ext).set i k1) (k d O1 p1)
theorem sv_setS {i : Nat} (h : Ev K E Ψ te Δ O Φ) (k : ∀ d O', Φ d O' → Sv K E Ψ u (Δ.set i (some d)) O' P) : Sv K E Ψ (tSeq (tAsg te (gName i)) u) Δ O P := sv_seq (M := fun Δ' O' => Sv K E Ψ u Δ' O' P) (sv_set h fun d O' p => k d O' p) fun _ _ m => m
theorem sv_setE {i : Nat} (h : Ev K E Ψ te Δ O (ex d O)) (k : Sv K E Ψ u (Δ.set i (some d)) O P) : Sv K E Ψ (tSeq (tAsg te (gName i)) u) Δ O P := sv_setS h fun d' O' p => by rw [p.1, p.2]; exact k
/-- any target -/
theorem sv_asg {g : TG} {js : List Nat} {T : Dt → Env_ → Env_} (h : Ev K E Ψ te Δ O Φ) (hg : ∀ d O', Φ d O' → Gv K g d js (T d)) (k : ∀ d O', Φ d O' → P.nx (T d Δ) O') : Sv K E Ψ (tAsg te g) Δ O P := fun σ F H D a b c e kk =>
  h σ F H a b c e _ fun v F1 H1 d O1 g1 b1 k1 p1 => hg d O1 p1 v σ H1 F1 Δ _ g1.sub k1 (a.mono g1.ext) fun σ' _ _ env => kk.nx σ' F1 H1 _ O1 g1 b1 env (k d O1 p1)
theorem sv_asgS {g : TG} {js : List Nat} {T : Dt → Env_ → Env_} (h : Ev K E Ψ te Δ O Φ) (hg : ∀ d O', Φ d O' → Gv K g d js (T d)) (k : ∀ d O', Φ d O' → Sv K E Ψ u (T d Δ) O' P) : Sv K E Ψ (tSeq (tAsg te g) u) Δ O P := sv_seq (M := fun Δ' O' => Sv K E Ψ u Δ' O' P) (sv_asg h hg fun d O' p => k d O' p) fun _ _ m => m
theorem sv_par {i j : Nat} {Θ : List Dt → Own → Prop} (h : EvA K E Ψ tas Δ O Θ) (k : ∀ ds O', Θ ds O' → ∃ a b, ds = [a, b] ∧ P.nx ((Δ.set i (some a)).set j (some b)) O') : Sv K E Ψ (tPar i j tas) Δ O P := fun σ F H D a b c e kk =>
  h σ F H a b c e _ fun v F1 H1 ds O1 g1 b1 k1 p1 => by
    obtain ⟨da, db, rfl, q⟩ := k ds O1 p1
    cases k1 with
    | cons ka l =>
      cases l with
      | cons kb l =>
        cases l
        exact ⟨_, _, rfl, kk.nx _ F1 H1 _ O1 g1 b1 (((a.mono g1.ext).set i ka).set j kb) q⟩
theorem sv_parS {i j : Nat} {Θ : List Dt → Own → Prop} (h : EvA K E Ψ tas Δ O Θ) (k : ∀ ds O', Θ ds O' → ∃ a b, ds = [a, b] ∧ Sv K E Ψ u ((Δ.set i (some a)).set j (some b)) O' P) : Sv K E Ψ (tSeq (tPar i j tas) u) Δ O P := sv_seq (M := fun Δ' O' => Sv K E Ψ u Δ' O' P) (sv_par h k) fun _ _ m => m
theorem sv_drop (h : Ev K E Ψ te Δ O Φ) (k : ∀ d O', Φ d O' → P.nx Δ O') : Sv K E Ψ (tDrop te) Δ O P := fun σ F H D a b c e kk =>
  h σ F H a b c e _ fun v F1 H1 d O1 g1 b1 k1 p1 => kk.nx _ F1 H1 _ O1 g1 b1 (a.mono g1.ext) (k d O1 p1)
theorem sv_dropS (h : Ev K E Ψ te Δ O Φ) (k : ∀ d O', Φ d O' → Sv K E Ψ u Δ O' P) : Sv K E Ψ (tSeq (tDrop te) u) Δ O P := sv_seq (M := fun Δ' O' => Sv K E Ψ u Δ' O' P) (sv_drop h k) fun _ _ m => m
theorem sv_ifG {tc : TT} {Φ1 : Bool → Own → Prop} (h : EvT K E Ψ tc Δ O Φ1) (h1 : ∀ O1, Φ1 true O1 → Sv K E Ψ t Δ O1 P) (h2 : ∀ O1, Φ1 false O1 → Sv K E Ψ t' Δ O1 P) : Sv K E Ψ (tIfS tc t t') Δ O P := fun σ F H D a b c e kk =>
  h σ F H a b c e _ fun v F1 H1 O1 g1 b1 p1 => by
    cases v with
    | true => exact iteT (h1 O1 p1 σ F1 H1 D (a.mono g1.ext) b1 g1.sub (e.step g1) (kk.step g1))
    | false => exact iteF (h2 O1 p1 σ F1 H1 D (a.mono g1.ext) b1 g1.sub (e.step g1) (kk.step g1))
theorem sv_if {tc : TT} {b : Bool} (h : EvT K E Ψ tc Δ O (exb b O)) (h1 : b = true → Sv K E Ψ t Δ O P) (h2 : b = false → Sv K E Ψ t' Δ O P) : Sv K E Ψ (tIfS tc t t') Δ O P :=
  sv_ifG h (fun O1 p => by rw [p.2]; exact h1 p.1.symm) (fun O1 p => by rw [p.2]; exact h2 p.1.symm)
theorem sv_ifSG {tc : TT} {Φ1 : Bool → Own → Prop} (h : EvT K E Ψ tc Δ O Φ1) (h1 : ∀ O1, Φ1 true O1 → Sv K E Ψ (tSeq t u) Δ O1 P) (h2 : ∀ O1, Φ1 false O1 → Sv K E Ψ (tSeq t' u) Δ O1 P) : Sv K E Ψ (tSeq (tIfS tc t t') u) Δ O P := fun σ F H D a b c e kk =>
  h σ F H a b c e _ fun v F1 H1 O1 g1 b1 p1 => by
    cases v with
    | true => exact iteT (h1 O1 p1 σ F1 H1 D (a.mono g1.ext) b1 g1.sub (e.step g1) (kk.step g1))
    | false => exact iteF (h2 O1 p1 σ F1 H1 D (a.mono g1.ext) b1 g1.sub (e.step g1) (kk.step g1))
theorem sv_ifS {tc : TT} {b : Bool} (h : EvT K E Ψ tc Δ O (exb b O)) (h1 : b = true → Sv K E Ψ (tSeq t u) Δ O P) (h2 : b = false → Sv K E Ψ (tSeq t' u) Δ O P) : Sv K E Ψ (tSeq (tIfS tc t t') u) Δ O P :=
  sv_ifSG h (fun O1 p => by rw [p.2]; exact h1 p.1.symm) (fun O1 p => by rw [p.2]; exact h2 p.1.symm)
theorem sv_nextS (h : Sv K E Ψ u Δ O P) : Sv K E Ψ (tSeq tNext u) Δ O P := h
theorem sv_assoc {w : TS} (h : Sv K E Ψ (tSeq t (tSeq u w)) Δ O P) : Sv K E Ψ (tSeq (tSeq t u) w) Δ O P := h
theorem sv_brkS (h : Sv K E Ψ tBreak Δ O P) : Sv K E Ψ (tSeq tBreak u) Δ O P := h
theorem sv_contS (h : Sv K E Ψ tCont Δ O P) : Sv K E Ψ (tSeq tCont u) Δ O P := h
theorem sv_retNS (h : Sv K E Ψ tRetN Δ O P) : Sv K E Ψ (tSeq tRetN u) Δ O P := h
theorem sv_aug {i : Nat} {f : Int → Int → Int} {a b : Int} (hx : Δ[i]? = some (some (.int a))) (h : Ev K E Ψ te Δ O (ex (.int b) O)) (k : P.nx (Δ.set i (some (.int (f a b)))) O) : Sv K E Ψ (tAug i te (ipI f)) Δ O P := fun σ F H D ae bb c e kk => by
  obtain ⟨v, hv, kv⟩ := ae.at_ i _ hx
  cases kv
  exact ⟨_, hv, h σ F H ae bb c e _ fun v F1 H1 d O1 g1 b1 k1 p1 => by
    obtain ⟨rfl, rfl⟩ := p1
    cases k1
    exact ⟨a, b, rfl, rfl, kk.nx _ F1 H1 _ _ g1 b1 ((ae.mono g1.ext).set i (.int _)) k⟩⟩
theorem sv_augS {i : Nat} {f : Int → Int → Int} {a b : Int} (hx : Δ[i]? = some (some (.int a))) (h : Ev K E Ψ te Δ O (ex (.int b) O)) (k : Sv K E Ψ u (Δ.set i (some (.int (f a b)))) O P) : Sv K E Ψ (tSeq (tAug i te (ipI f)) u) Δ O P := sv_seq (M := fun Δ' O' => Sv K E Ψ u Δ' O' P) (sv_aug hx h k) fun _ _ m => m
theorem sv_for {wi : TI} {g : TG} {js : List Nat} {T : Dt → Env_ → Env_} {Θ : List Dt → Own → Prop} (hi : Iv K E Ψ wi Δ O Θ) (hg : ∀ (ds : List Dt) (O' : Own) (i : Nat) (d : Dt), Θ ds O' → ds[i]? = some d → Gv K g d js (T d)) (I : List Dt → Nat → Env_ → Own → Prop) (h0 : ∀ ds O', Θ ds O' → I ds 0 Δ O')
    (hs : ∀ (ds : List Dt) (O1 : Own) (i : Nat) (d : Dt) (Δ' : Env_) (O' : Own), Θ ds O1 → ds[i]? = some d → I ds i Δ' O' → Sv K E Ψ t (T d Δ') O' { nx := I ds (i + 1), ct := I ds (i + 1), bk := P.nx, rt := P.rt }) (hd : ∀ ds O1 Δ' O', Θ ds O1 → I ds ds.length Δ' O' → P.nx Δ' O') : Sv K E Ψ (tFor wi g t) Δ O P := fun σ F H D a b c e kk =>
  hi σ F H a b c e _ fun J G F1 H1 ds O1 g1 b1 hG hw hΘ =>
    L2.for_it hw (fun i σc Hc => ∃ Fc Oc Δc, Gw O1 F1 H1 Oc Fc Hc ∧ OwnOk K Fc Hc Oc ∧ EnvOk K Fc σc Δc ∧ I ds i Δc Oc) ⟨F1, O1, Δ, .refl g1.sub, b1, a.mono g1.ext, h0 ds O1 hΘ⟩
      (fun i σc Hc _ ⟨Fc, Oc, Δc, g, _⟩ => hG Hc (g.ext.trans g.sub))
      (fun i x σc Hc Hc' hi ⟨Fc, Oc, Δc, g, bb, env, p⟩ y => by
        obtain ⟨dd, hd'⟩ : ∃ dd, ds[i]? = some dd := ⟨ds[i], by simp [hi]⟩
        obtain ⟨F3, g3, b3, k3⟩ := y Fc Oc dd hd' g.ext g.sub bb
        refine hg ds O1 i dd hΘ hd' x σc Hc' F3 Δc _ g3.sub k3 (env.mono g3.ext) fun σ' _ _ env' => ?_
        have gg := g.trans g3
        refine hs ds O1 i dd Δc Oc hΘ hd' p σ' F3 Hc' _ env' b3 g3.sub (e.step (g1.trans gg)) ⟨fun σ2 F4 H4 Δ2 O4 g4 b4 a4 m => ⟨F4, O4, Δ2, gg.trans g4, b4, a4, m⟩, fun v F4 H4 d4 O4 g4 b4 k4 m => kk.rt v F4 H4 d4 O4 ((g1.trans gg).trans g4) b4 k4 m,
          fun σ2 F4 H4 Δ2 O4 g4 b4 a4 m => kk.nx σ2 F4 H4 Δ2 O4 ((g1.trans gg).trans g4) b4 a4 m, fun σ2 F4 H4 Δ2 O4 g4 b4 a4 m => ⟨F4, O4, Δ2, gg.trans g4, b4, a4, m⟩⟩)
      (fun σc Hc ⟨Fc, Oc, Δc, g, bb, env, p⟩ => kk.nx σc Fc Hc Δc Oc (g1.trans g) bb env (hd ds O1 Δc Oc hΘ p))
/-- over known items, then what follows -/
theorem sv_forS {wi : TI} {g : TG} {js : List Nat} {T : Dt → Env_ → Env_} (hi : Iv K E Ψ wi Δ O (exl ds O)) (hg : ∀ (i : Nat) (d : Dt), ds[i]? = some d → Gv K g d js (T d)) (I : Nat → Env_ → Own → Prop) (h0 : I 0 Δ O)
    (hs : ∀ (i : Nat) (d : Dt) (Δ' : Env_) (O' : Own), ds[i]? = some d → I i Δ' O' → Sv K E Ψ t (T d Δ') O' { nx := I (i + 1), ct := I (i + 1), bk := fun Δ' O' => Sv K E Ψ u Δ' O' P, rt := P.rt }) (hd : ∀ Δ' O', I ds.length Δ' O' → Sv K E Ψ u Δ' O' P) : Sv K E Ψ (tSeq (tFor wi g t) u) Δ O P :=
  sv_seq (M := fun Δ' O' => Sv K E Ψ u Δ' O' P) (sv_for (I := fun _ => I) hi (fun ds' O' i d h hd' => hg i d (by rw [← h.1]; exact hd')) (fun _ _ h => by rw [h.2]; exact h0) (fun ds' O1 i d Δ' O' h hd' p => hs i d Δ' O' (by rw [← h.1]; exact hd') p) (fun ds' O1 Δ' O' h p => hd Δ' O' (by rw [← h.1]; exact p))) fun _ _ m => m
theorem sv_while {tc : TT} (I : Env_ → Own → Prop) (μ : Env_ → Own → Nat) (h0 : I Δ O)
    (hs : ∀ Δ' O', I Δ' O' → EvT K E Ψ tc Δ' O' (fun b O2 => if b = true then Sv K E Ψ t Δ' O2 { nx := fun Δ2 O3 => I Δ2 O3 ∧ μ Δ2 O3 < μ Δ' O', ct := fun Δ2 O3 => I Δ2 O3 ∧ μ Δ2 O3 < μ Δ' O', bk := P.nx, rt := P.rt } else P.nx Δ' O2)) : Sv K E Ψ (tWhile tc t) Δ O P := fun σ F H D a b c e kk =>
  ⟨fun m σc Hc => ∃ Fc Oc Δc, Gw O F H Oc Fc Hc ∧ OwnOk K Fc Hc Oc ∧ EnvOk K Fc σc Δc ∧ I Δc Oc ∧ m = μ Δc Oc, ⟨_, F, O, Δ, .refl c, b, a, h0, rfl⟩, fun m σc Hc ⟨Fc, Oc, Δc, g, bb, env, p, hm⟩ =>
    hs Δc Oc p σc Fc Hc env bb g.sub (e.step g) _ fun bt F2 H2 O2 g2 b2 p2 => by
      cases bt with
      | false => exact iteF (kk.nx σc F2 H2 Δc O2 (g.trans g2) b2 (env.mono g2.ext) p2)
      | true =>
        refine iteT ⟨fun σ' H' => ∃ Fc' Oc' Δc', Gw O F H Oc' Fc' H' ∧ OwnOk K Fc' H' Oc' ∧ EnvOk K Fc' σ' Δc' ∧ I Δc' Oc' ∧ μ Δc' Oc' < m, fun σ' H' ⟨Fc', Oc', Δc', h1, h2, h3, h4, h5⟩ => ⟨_, h5, Fc', Oc', Δc', h1, h2, h3, h4, rfl⟩, ?_⟩
        have gg := g.trans g2
        refine (p2 : Sv K E Ψ t Δc O2 _) σc F2 H2 _ (env.mono g2.ext) b2 g2.sub (e.step gg) ⟨fun σ2 F4 H4 Δ2 O4 g4 b4 a4 q => ⟨F4, O4, Δ2, gg.trans g4, b4, a4, q.1, by rw [hm]; exact q.2⟩, fun v F4 H4 d4 O4 g4 b4 k4 q => kk.rt v F4 H4 d4 O4 (gg.trans g4) b4 k4 q,
          fun σ2 F4 H4 Δ2 O4 g4 b4 a4 q => kk.nx σ2 F4 H4 Δ2 O4 (gg.trans g4) b4 a4 q, fun σ2 F4 H4 Δ2 O4 g4 b4 a4 q => ⟨F4, O4, Δ2, gg.trans g4, b4, a4, q.1, by rw [hm]; exact q.2⟩⟩⟩
/-- freezing an owned list of a slot -/
theorem sv_frz {p : Addr} {i : Nat} (m : (p, Ow.lst ds) ∈ O) (hi : Δ[i]? = some (some (.ref p))) (h : ∀ O', O.Perm ((p, .lst ds) :: O') → Sv K E Ψ t (Δ.set i (some (.lst ds))) O' P) : Sv K E Ψ t Δ O P := fun σ F H D a b c e kk => by
  obtain ⟨O1, O2, rfl⟩ := List.append_of_mem m
  have pm : (O1 ++ (p, Ow.lst ds) :: O2).Perm ((p, .lst ds) :: (O1 ++ O2)) := List.perm_middle
  have b' := b.perm pm
  obtain ⟨_, xs, hx, lx⟩ := b'.at_ p (.lst ds) (by simp)
  obtain ⟨g, b2, k2⟩ := Gw.frz b' c hx lx
  have g' : Gw (O1 ++ (p, Ow.lst ds) :: O2) F H (O1 ++ O2) (upd F p (.lst xs)) H := g.permL pm.symm
  refine h (O1 ++ O2) pm σ _ H D ?_ b2 g'.sub (e.step g') (kk.step g')
  refine ⟨by rw [List.length_set]; exact a.len, fun j d' q => ?_⟩
  by_cases hj : i = j
  · subst hj
    have hl : i < Δ.length := (List.getElem?_eq_some_iff.mp hi).1
    rw [List.getElem?_set_self hl] at q
    cases q
    obtain ⟨v, hv, kv⟩ := a.at_ i _ hi
    cases kv
    exact ⟨_, hv, k2⟩
  · rw [List.getElem?_set_ne hj] at q
    obtain ⟨v, hv, kv⟩ := a.at_ j d' q
    exact ⟨v, hv, kv.mono g'.ext⟩

/-! defs and their calls -/
abbrev Pre := List Dt → Own → (Dt → Own → Prop) → XPost → Prop
def mkSp (K : PySem.W.Frag) (pre : Pre) : Sp := fun vs H Q E => ∃ F ds O Φ Ψ, DatL K F vs ds ∧ OwnOk K F H O ∧ Ex F H ∧ pre ds O Φ Ψ ∧ XOk K E Ψ O F H ∧ ∀ v F' H' d O', Gw O F H O' F' H' → OwnOk K F' H' O' → Dat K F' v d → Φ d O' → Q v H'
theorem ev_callG {pre : Pre} {ts : TA} {Θ : List Dt → Own → Prop} (ha : EvA K E Ψ ts Δ O Θ) (hp : ∀ ds O1, Θ ds O1 → ∃ Oa R Φ1 Ψ1, O1 = Oa ++ R ∧ pre ds Oa Φ1 Ψ1 ∧ (∀ C fs O2, Ψ1 C fs O2 → Ψ C fs (O2 ++ R)) ∧ ∀ d O2, Φ1 d O2 → Φ d (O2 ++ R)) :
    Ev K E Ψ (tCall (mkSp K pre) [] E ts) Δ O Φ := fun σ F H a b c e Q q => ha σ F H a b c e _ fun vs F1 H1 ds O1 g1 b1 k1 p1 => by
  obtain ⟨Oa, R, Φ1, Ψ1, rfl, h1, h2, h3⟩ := hp ds O1 p1
  rw [List.append_nil]
  refine ⟨F1, ds, Oa, Φ1, Ψ1, k1, b1.left, g1.sub, h1, fun C d F' H' O' fvs fs g2 b2 hx hf hΨ => ?_, fun v F' H' d O' g2 b2 k2 p2 => ?_⟩
  · exact e C d F' H' (O' ++ R) fvs fs (g1.trans g2.frame) (b1.frame g2 b2) hx hf (h2 C fs O' hΨ)
  · exact q v F' H' d (O' ++ R) (g1.trans g2.frame) (b1.frame g2 b2) k2 (h3 d O' p2)
/-- a def that lets nothing out -/
theorem ev_call0 {pre : Pre} {ts : TA} {Θ : List Dt → Own → Prop} (ha : EvA K E Ψ ts Δ O Θ) (hp : ∀ ds O1, Θ ds O1 → ∃ Oa R Φ1, O1 = Oa ++ R ∧ pre ds Oa Φ1 X0 ∧ ∀ d O2, Φ1 d O2 → Φ d (O2 ++ R)) :
    Ev K E Ψ (tCall (mkSp K pre) [] E' ts) Δ O Φ := fun σ F H a b c e Q q => ha σ F H a b c e _ fun vs F1 H1 ds O1 g1 b1 k1 p1 => by
  obtain ⟨Oa, R, Φ1, rfl, h1, h3⟩ := hp ds O1 p1
  rw [List.append_nil]
  exact ⟨F1, ds, Oa, Φ1, X0, k1, b1.left, g1.sub, h1, .zero, fun v F' H' d O' g2 b2 k2 p2 => q v F' H' d (O' ++ R) (g1.trans g2.frame) (b1.frame g2 b2) k2 (h3 d O' p2)⟩
/-- .. that owns nothing and gives one thing -/
theorem ev_callE {pre : Pre} {ts : TA} (ha : EvA K E Ψ ts Δ O (exl ds O)) (hp : pre ds [] (ex z []) X0) : Ev K E Ψ (tCall (mkSp K pre) [] E' ts) Δ O (ex z O) :=
  ev_call0 ha fun ds' O1 h => ⟨[], O1, ex z [], rfl, by rw [h.1]; exact hp, fun d O2 p => ⟨p.1, by rw [p.2, h.2]; rfl⟩⟩
def startD (n : Nat) (ds : List Dt) : Env_ := ds.map some ++ List.replicate (n - ds.length) none
theorem env_start {N : List Str} {vs : List V} (h : DatL K F vs ds) : EnvOk K F (L2.start N vs) (startD N.length ds) := by
  unfold L2.start startD
  refine ⟨by simp [h.length], fun i d q => ?_⟩
  by_cases hi : i < ds.length
  · rw [List.getElem?_append_left (by simpa using hi), List.getElem?_map] at q
    cases e : ds[i]? with
    | none => rw [e] at q; simp at q
    | some d' =>
      rw [e] at q
      cases q
      obtain ⟨v, hv, k⟩ := h.get e
      refine ⟨v, ?_, k⟩
      rw [List.getElem?_append_left (by simp [h.length]; exact hi), List.getElem?_map, hv]
      rfl
  · rw [List.getElem?_append_right (by simpa using hi)] at q
    have := List.mem_of_getElem? q
    simp at this
structure DefAt (K : PySem.W.Frag) (mg : Str → Option Value) (x qual : Str) (st : Stmt) (ps : List Str) : Prop where
  ex : ∃ f fd, Fun K x qual st f fd ∧ Binds K fd ps [] ∧ mg x = some (.ref f)
structure Has (P : Program) (w : World) (K : PySem.W.Frag) (mg : Str → Option Value) (base : Heap) (CX : CXT) (k : Nat) (x : Str) (ps : List Str) (sp : Sp) : Prop where
  ex : ∃ f fd, FnOk P w K mg base CX k f fd ps sp ∧ Binds K fd ps [] ∧ PySem.W.keepIn K (.ref f) = true ∧ mg x = some (.ref f)
end
section
variable {P : Program} {w : World} {K : PySem.W.Frag} {mg : Str → Option Value} {base : Heap} {CX : CXT}
theorem Has.mono {j k : Nat} {x : Str} {ps : List Str} {sp : Sp} (h : Has P w K mg base CX j x ps sp) (l : j ≤ k) : Has P w K mg base CX k x ps sp := by
  obtain ⟨f, fd, a, b, c, d⟩ := h.ex
  exact ⟨f, fd, a.mono l, b, c, d⟩
theorem pe_has {X : Cx} {k : Nat} {x : Str} {ps : List Str} {sp : Sp} {E : XK} {e : Expr} {es : List Expr} {t : TA} {p pos : Pos} (h : Has X.prog X.w X.K X.mg X.base CX k x ps sp) (hr : Room k X.A) (hg : Gl X x) (hx : Passes CX X E) (ha : PA X (e :: es) t)
    (hd : (x == ("__debug__" : Str)) = false := by decide) (he : starEach (e :: es) X.env = (false, eval e X.env) :: starEach es X.env := by rfl) (hpl : (backTo pos (starEach es X.env)).any (·.1) = false := by rfl) : PE X (.Call (.Name x p) (e :: es) [] pos) (tCall sp [] E t) := by
  obtain ⟨f, fd, F, b, kp, hm⟩ := h.ex
  exact pe_call F hr hg hm kp b .nil hx ha hd he hpl
theorem has_of {x qual : Str} {st : Stmt} {N ps : List Str} {k : Nat} {pre : Pre} (D : DefAt K mg x qual st ps) (S : FnScope N ps (defScope st)) (hlen : ∀ ds O Φ Ψ, pre ds O Φ Ψ → ds.length = ps.length)
    (hbody : ∀ (f : Addr) (cdv : Value) (A : Around) (outer : List Env) (s : Shared) (H : Hp) (E : XK), Room k (A.deeper (envOfC qual (defScope st) s.heap.objs.size f cdv)) →
      ∃ t, PSs (cxOf CX0 P w K mg base N qual (defScope st) f cdv A outer s H E).nox (defBody st) t ∧ ∀ ds O Φ Ψ, pre ds O Φ Ψ → Sv K E Ψ t (startD N.length ds) O { nx := fun _ O' => Φ .non O', rt := Φ }) : Has P w K mg base CX0 (k + 1) x ps (mkSp K pre) := by
  obtain ⟨f, fd, F, b, hm⟩ := D.ex
  refine ⟨f, fd, F.ok S ?_ ?_, b, F.kp, hm⟩
  · rintro vs H Q E ⟨F', ds, O, Φ, Ψ, l, _, _, h, _⟩
    rw [l.length]
    exact hlen ds O Φ Ψ h
  · rintro cdv A outer s H vs Q E hr ⟨F', ds, O, Φ, Ψ, l, ow, ex', h, hx, q⟩
    obtain ⟨t, ht, hsv⟩ := hbody f cdv A outer s H E hr
    refine ⟨t, ht, hsv ds O Φ Ψ h _ F' H _ (env_start l) ow ex' hx ⟨fun σ' F2 H2 Δ' O' g b2 a2 p => ?_, fun v F2 H2 d O' g b2 k2 p => q v F2 H2 d O' g b2 k2 p, fun _ _ _ _ _ _ _ _ z => z.elim, fun _ _ _ _ _ _ _ _ z => z.elim⟩⟩
    exact q .non F2 H2 .non O' g b2 .non p
/-- the law's own def -/
structure LawAt (K : PySem.W.Frag) (mg : Str → Option Value) (qual : Str) (st : Stmt) (p : Str) : Prop where
  ex : ∃ f fd, Fun K "law" qual st f fd ∧ mg "law" = some (.ref f) ∧ ∀ (s : Shared) (v : Value), BindsTo s fd ⟨[v], []⟩ [(p, v)]
def preLaw : Pre := fun ds O Φ Ψ => ∃ ns : List Int, ds = [.frl (ns.map .int)] ∧ ns.length ≤ 63 ∧ O = [] ∧ Φ = (fun d _ => d = .bl true) ∧ Ψ = X0
abbrev spLaw (K : PySem.W.Frag) : Sp := mkSp K preLaw
theorem spLaw_start {H : Hp} {a : Addr} {ns : List Int} {E : XK} (hS : SqL K H a (ns.map V.int)) (hl : ns.length ≤ 63) : spLaw K [.ref a] H (fun v _ => v = .bl true) E :=
  ⟨H, [.frl (ns.map .int)], [], _, X0, .cons (.frl hS .ints) .nil, .nil, Ex.refl H, ⟨ns, rfl, hl, rfl, rfl, rfl⟩, .zero, fun v F' H' d O' _ _ k p => by
    subst p
    cases k
    rfl⟩
def LawOk (P : Program) (w : World) (K : PySem.W.Frag) (mg : Str → Option Value) (k : Nat) (qual : Str) (st : Stmt) (p : Str) : Prop :=
  ∀ base : Heap, ∀ f fd, Fun K "law" qual st f fd → FnOk P w K mg base CX0 k f fd [p] (spLaw K)
theorem law_of {qual : Str} {st : Stmt} {N : List Str} {k : Nat} {p : Str} (S : FnScope N [p] (defScope st))
    (hbody : ∀ (base : Heap) (f : Addr) (cdv : Value) (A : Around) (outer : List Env) (s : Shared) (H : Hp) (E : XK), Room k (A.deeper (envOfC qual (defScope st) s.heap.objs.size f cdv)) →
      ∃ t, PSs (cxOf CX0 P w K mg base N qual (defScope st) f cdv A outer s H E).nox (defBody st) t ∧ ∀ ns : List Int, ns.length ≤ 63 → Sv K E X0 t (startD N.length [.frl (ns.map .int)]) [] { nx := fun _ _ => False, rt := fun d _ => d = .bl true }) : LawOk P w K mg (k + 1) qual st p := by
  intro base f fd F
  refine F.ok S ?_ ?_
  · rintro vs H Q E ⟨F', ds, O, Φ, Ψ, l, _, _, ⟨ns, rfl, _⟩, _⟩
    rw [l.length]
    rfl
  · rintro cdv A outer s H vs Q E hr ⟨F', ds, O, Φ, Ψ, l, ow, ex', ⟨ns, rfl, hl, rfl, rfl, rfl⟩, hx, q⟩
    obtain ⟨t, ht, hsv⟩ := hbody base f cdv A outer s H E hr
    refine ⟨t, ht, hsv ns hl _ F' H _ (env_start l) ow ex' hx ⟨fun _ _ _ _ _ _ _ _ p => p.elim, fun v F2 H2 d O' g b2 k2 p => q v F2 H2 d O' g b2 k2 p, fun _ _ _ _ _ _ _ _ z => z.elim, fun _ _ _ _ _ _ _ _ z => z.elim⟩⟩
theorem law_walk {l : PySem.W.OpenLaw} {q : Program} {loose : List Str} {XP : (Str → Option Value) → Heap → Prop} {YP : World → Heap → Prop} {d : DefRec} {K : Params → PySem.W.Frag} {k : Nat} {qual : Str} {st : Stmt} {p : Str} (hn : l.most = some 63) (hdf : d.params.defaults = [])
    (hnm : d.name = "law") (hr : Room k callerA) (hY : ∀ (w : World) (h : Heap), YP w h → (K w.params).In h)
    (F : ∀ (w : World) (h : Heap), (K w.params).In h → ∀ mg : Str → Option Value, h.Ns mainGlobals mg → LawAt (K w.params) mg qual st p ∧ LawOk l.prog w (K w.params) mg k qual st p) :
    PySem.W.WalkO q loose XP YP l.row.toRowW d [] (fun f vs => PySem.call f vs) := by
  refine L2.walk_of (n := 63) (k := k) (x := p) (CX := fun _ => CX0) (sp := fun w => spLaw (K w.params)) hn (by decide) hdf hr hY (fun w mg fa h KX G hfa => ?_) (fun w H a ns hl _ hS => spLaw_start hS hl) fun _ _ _ _ _ z => z
  obtain ⟨T, L⟩ := F w h KX mg G
  obtain ⟨f, fd, hF, hm, hb⟩ := T.ex
  rw [hnm, hm] at hfa
  cases hfa
  exact ⟨fd, hb, fun base _ _ => L base _ fd hF⟩
end
end FF

set_option Elab.async false
set_option linter.all false
set_option maxRecDepth 100000
set_option maxHeartbeats 1000000
namespace FF
open PySem PySem.Spec PyProof.Rows L2
open Evl (Ex sz_of sz_lt fresh_back)

/-! short words for derivations -/
section
variable {X : Cx} {pos : Pos}
theorem hu64 {k : Nat} {A : Around} (hr : Room k A) : A.units + 64 < cLine := by have := hr.un; omega
theorem pgn (i : Nat) {x : Str} (hN : X.N.Nodup) (hi : X.N[i]? = some x := by rfl) (hx : Loc X.env.scope x := by first | exact Or.inl rfl | exact Or.inr rfl)
    (hf : X.fn x = true ∨ X.env.scope.names.lookup x = some .local := by first | exact .inl rfl | exact .inr rfl) : PG X (.Name x pos) (gName i) := pg_name hN hi hx hf
theorem pset (i : Nat) {x : Str} {e : Expr} {te : TE} {pos' : Pos} (hN : X.N.Nodup) (he : PE X e te) (hi : X.N[i]? = some x := by rfl) (hx : Loc X.env.scope x := by first | exact Or.inl rfl | exact Or.inr rfl)
    (hs : swapsWith e (some (.Name x pos')) pos.line X.env = pure false := by rfl) (hf : X.fn x = true ∨ X.env.scope.names.lookup x = some .local := by first | exact .inl rfl | exact .inr rfl) :
    PS X (.Assign [.Name x pos'] e pos) (tAsg te (gName i)) := ps_set hN hi hx he hs hf
theorem paug (i : Nat) {x : Str} {e : Expr} {te : TE} {op : Operator} {ti : TIp} {pos' : Pos} (hN : X.N.Nodup) (he : PE X e te) (ho : PIp X op ti) (hi : X.N[i]? = some x := by rfl) (hx : Loc X.env.scope x := by first | exact Or.inl rfl | exact Or.inr rfl)
    (hf : X.fn x = true ∨ X.env.scope.names.lookup x = some .local := by first | exact .inl rfl | exact .inr rfl) : PS X (.AugAssign (.Name x pos') op e pos) (tAug i te ti) := ps_aug hN hi hx he ho hf
/-- any of two ways -/
theorem OpR.or {f : Value → Value → Sem Value} {r r' : R2} (h : OpR X f r) (h' : OpR X f r') : OpR X f (fun x y H Q => r x y H Q ∨ r' x y H Q) := fun pins s σ H x y v u Q I rx ry q =>
  q.elim (h pins s σ H x y v u Q I rx ry) (h' pins s σ H x y v u Q I rx ry)
theorem CallR.or {f : Value} {r r' : List V → Hp → VK → Prop} (h : CallR X f r) (h' : CallR X f r') : CallR X f (fun x H Q => r x H Q ∨ r' x H Q) := fun pins s σ H xs us Q I rx q =>
  q.elim (h pins s σ H xs us Q I rx) (h' pins s σ H xs us Q I rx)
theorem SlR.or {r r' : V → Option Int → Option Int → Hp → VK → Prop} (h : SlR X r) (h' : SlR X r') : SlR X (fun x a b H Q => r x a b H Q ∨ r' x a b H Q) := by
  intro pins s σ H x v vl vu lo hi sl Q I rx hs pl pu q
  exact q.elim (h pins s σ H x v vl vu lo hi sl Q I rx hs pl pu) (h' pins s σ H x v vl vu lo hi sl Q I rx hs pl pu)
/-- reading xs[i] ahead of xs[i] op= -/
def gGetL (K : PySem.W.Frag) : V → V → Hp → VK → Prop := fun x y H Q => ∃ p xs, ∃ i : Nat, ∃ v, x = .ref p ∧ y = .int i ∧ SqL K H p xs ∧ xs[i]? = some v ∧ Q v H
theorem get_list : PGet X (gGetL X.K) := by
  intro pins s σ H o i ov iv Q I ro ri h
  obtain ⟨p, xs, j, v, rfl, rfl, hq, hv, q⟩ := h
  cases ro
  obtain ⟨t, rfl⟩ := ri
  obtain ⟨its, r, pl, hz⟩ := I.list hq
  obtain ⟨w, ew, rw'⟩ := r.get hv
  have hl := r.length
  have hn := line63
  have hj : j < xs.length := (List.getElem?_eq_some_iff.mp hv).1
  exact wpAny_getItem_list pl.isList (by omega) (by omega) (x := w) (by simpa using ew) ⟨v, H, I, rw', q⟩
def rAddS : R2 := fun x y H Q => ∃ i j, x = .str i ∧ y = .str j ∧ i.length + j.length ≤ sizeLine ∧ Q (.str (i ++ j)) H
def rPlus (K : PySem.W.Frag) : R2 := fun x y H Q => (rI0 (fun i j => .int (i + j)) x y H Q ∨ rCat x y H Q) ∨ (rAddS x y H Q ∨ rCatA K x y H Q)
theorem op_plus : OpR X (binaryOp .Add) (rPlus X.K) := OpR.or (OpR.or op_add op_cat) (OpR.or op_add_str op_catA)
/-! tuple * 0, * 1 -/
theorem tuple_mul0 (l : Addr) (items : Array Value) (n : Nat) (dd : Option Addr) (sl : Array (Option Value)) (u : Tok) (c1 : items.isEmpty = false) :
    Meets (Builtin.«tuple.__mul__» ⟨[.ref l, .int 0 u], []⟩) (fun _ R s => s.heap.get? l = some { cls := .type "tuple", dict := dd, data := .seq items n, slots := sl } ∧
      R (.ok (.ret (Value.ref s.heap.objs.size))) { s with heap := s.heap.push { cls := Value.type "tuple", data := Data.seq #[] }, toks := s.toks }) :=
  .of_wp fun prog w A R s h => by
    obtain ⟨hp, g, d, tk, os⟩ := s
    obtain ⟨hl, h⟩ := h
    have f1 := AutoSeq1.idx_int
    have c2 : (items.isEmpty || (0 : Int) == 1) = false := by rw [c1]; rfl
    have c0 : (decide ((0 : Int) < -(2 ^ 63)) || decide ((0 : Int) ≥ 2 ^ 63)) = false := by decide
    wp_walk using wpAny_loadPart' hl
    repeat (first
      | (refine wpAny_ite_false (decide_eq_false (by rw [c0]; exact Bool.false_ne_true)) ?_; wp_walk using wpAny_loadPart' hl)
      | (refine wpAny_ite_false (decide_eq_false (by rw [c2]; exact Bool.false_ne_true)) ?_; wp_walk using wpAny_loadPart' hl)
      | (refine wpAny_ite_true (by rw [c1]; rfl) ?_; wp_walk using wpAny_loadPart' hl))
    exact ⟨_, rfl, h⟩
theorem tuple_mul1 (l : Addr) (items : Array Value) (n : Nat) (dd : Option Addr) (sl : Array (Option Value)) (u : Tok) :
    Meets (Builtin.«tuple.__mul__» ⟨[.ref l, .int 1 u], []⟩) (fun _ R s => s.heap.get? l = some { cls := .type "tuple", dict := dd, data := .seq items n, slots := sl } ∧
      R (.ok (.ret (Value.ref l))) s) :=
  .of_wp fun prog w A R s h => by
    obtain ⟨hp, g, d, tk, os⟩ := s
    obtain ⟨hl, h⟩ := h
    have f1 := AutoSeq1.idx_int
    have c0 : (decide ((1 : Int) < -(2 ^ 63)) || decide ((1 : Int) ≥ 2 ^ 63)) = false := by decide
    have c1 : (items.isEmpty || (1 : Int) == 1) = true := by simp
    wp_walk using wpAny_loadPart' hl
    repeat (first
      | (refine wpAny_ite_false (decide_eq_false (by rw [c0]; exact Bool.false_ne_true)) ?_; wp_walk using wpAny_loadPart' hl)
      | (refine wpAny_ite_true (decide_eq_true c1) ?_; wp_walk using wpAny_loadPart' hl))
    exact ⟨_, rfl, h⟩
/-- a tuple 0 times, once -/
def rRepZ (K : PySem.W.Frag) : R2 := fun x y H Q => ∃ l xs, x = .ref l ∧ SqT K H l xs ∧ xs ≠ [] ∧ ((y = .int 0 ∧ ∀ p, H p = none → Q (.ref p) (upd H p (.tup []))) ∨ (y = .int 1 ∧ Q (.ref l) H))
theorem op_repZ : OpR X (binaryOp .Mult) (rRepZ X.K) := by
  intro pins s σ H x y v u Q I rx ry h
  obtain ⟨l, xs, rfl, hT, hne, h⟩ := h
  cases rx
  obtain ⟨its, r, ⟨⟨cls, dd, data, sl⟩, ho, hc, n, hd⟩, hs⟩ := I.tuple hT
  simp only at hc hd
  subst hc hd
  have hle : its.length = xs.length := r.length.symm
  have hn : its ≠ [] := fun e => hne (by
    rw [e] at hle
    exact List.eq_nil_of_length_eq_zero hle.symm)
  have hi : its.toArray.isEmpty = false := by
    cases its with
    | nil => exact absurd rfl hn
    | cons a b => rfl
  rcases h with ⟨rfl, q⟩ | ⟨rfl, q⟩
  · obtain ⟨t, rfl⟩ := ry
    refine wpAny_binaryOp_repeat_ref (T := "tuple") (U := "int") (by decide) ⟨_, ho, rfl⟩ (fun s' => typeIs_int s' 0 t) noFill_tuple_mul F.fills_int_mul F.slot_int_rmul repeat_tuple F.slot_int_index.lookup
      (call_meets F.slot_int_rmul (typeIs_int s 0 t) F.entry_int_rmul (F.args_int_rmul_2 _ _) (int_rmul_tuple 0 t l its.toArray n dd sl)
        ⟨ho, rfl, ⟨_, ho, rfl⟩, call_meets F.slot_tuple_mul ⟨_, ho, rfl⟩ F.entry_tuple_mul (F.args_tuple_mul_2 _ _) (tuple_mul0 l its.toArray n dd sl t hi) ⟨ho, ?_⟩⟩)
    refine ⟨.ref s.heap.objs.size, _, I.laid (t' := s.toks) (o := .tup []) (fun b ob q => Heap.get?_push_of_some _ q) (Nat.le_refl _) ?_, rfl, q _ (I.hok.fresh (Nat.le_refl _))⟩
    exact ⟨Nat.zero_le _, _, .nil, IsTup.new _ _⟩
  · obtain ⟨t, rfl⟩ := ry
    refine wpAny_binaryOp_repeat_ref (T := "tuple") (U := "int") (by decide) ⟨_, ho, rfl⟩ (fun s' => typeIs_int s' 1 t) noFill_tuple_mul F.fills_int_mul F.slot_int_rmul repeat_tuple F.slot_int_index.lookup
      (call_meets F.slot_int_rmul (typeIs_int s 1 t) F.entry_int_rmul (F.args_int_rmul_2 _ _) (int_rmul_tuple 1 t l its.toArray n dd sl)
        ⟨ho, rfl, ⟨_, ho, rfl⟩, call_meets F.slot_tuple_mul ⟨_, ho, rfl⟩ F.entry_tuple_mul (F.args_tuple_mul_2 _ _) (tuple_mul1 l its.toArray n dd sl t) ⟨ho, ?_⟩⟩)
    exact ⟨.ref l, H, I, rfl, q⟩
def rTimes (K : PySem.W.Frag) : R2 := fun x y H Q => (rI CMul (fun i j => .int (i * j)) x y H Q ∨ rRep x y H Q) ∨ (rRepT K x y H Q ∨ rRepZ K x y H Q)
theorem op_times : OpR X (binaryOp .Mult) (rTimes X.K) := OpR.or (OpR.or op_mul op_rep) (OpR.or op_repT op_repZ)
end
end FF

set_option Elab.async false
set_option linter.all false
set_option maxRecDepth 100000
set_option maxHeartbeats 1000000
namespace FF
open PySem PySem.Spec PyProof.Rows L2
open Evl (Ex sz_of sz_lt fresh_back)
/-! data as the library's data -/
mutual
def Dt.py : Dt → PyData
  | .non => .none | .bl b => .bool b | .int i => .int i | .str x => .str x
  | .lst ds => .list (pyL ds) | .tup ds => .tuple (pyL ds) | .dic ks => .dict (pyK ks)
  | .obj _ _ => .none | .ref _ => .none | .frl _ => .none | .ty _ => .none
def pyL : List Dt → List PyData
  | [] => []
  | d :: ds => d.py :: pyL ds
def pyK : List (Key × Dt) → List (PyData × PyData)
  | [] => []
  | (k, d) :: ds => ((match k with | .inl i => .int i | .inr x => .str x), d.py) :: pyK ds
end
mutual
/-- data without dicts and objects -/
def Dt.ok : Dt → Bool
  | .non => true | .bl _ => true | .int _ => true | .str x => PyData.strOk x
  | .lst ds => okL ds | .tup ds => okL ds
  | .dic _ => false | .obj _ _ => false | .ref _ => false | .frl _ => false | .ty _ => false
def okL : List Dt → Bool
  | [] => true
  | d :: ds => d.ok && okL ds
end
theorem pyL_map : ∀ ds : List Dt, pyL ds = ds.map Dt.py
  | [] => rfl
  | d :: ds => by simp [pyL, pyL_map ds]
theorem okL_all : ∀ ds : List Dt, okL ds = ds.all Dt.ok
  | [] => rfl
  | d :: ds => by simp [okL, okL_all ds]
section
variable {K : PySem.W.Frag} {E E' : XK} {Ψ : XPost} {F F' F1 F2 H H' H1 H2 : Hp} {O O' O1 O2 R : Own} {σ : L2.St} {Δ : Env_} {D : Ends} {P : Post}
variable {te ta tb tc : TE} {tt : TT} {tas : TA} {Φ Φ' : Dt → Own → Prop} {d x y z : Dt} {ds es : List Dt} {r : R2} {t u t' : TS} {P' : Post} {M : Env_ → Own → Prop}
mutual
theorem Dat.dp (e : Ex F H) : ∀ (d : Dt) {v : V}, Dat K F v d → d.ok = true → Dp K H v d.py
  | .non, _, k, _ => by cases k; exact .non
  | .bl _, _, k, _ => by cases k; exact .bl _
  | .int _, _, k, _ => by cases k; exact .int _
  | .str _, _, k, _ => by cases k; exact .str _
  | .lst ds, _, k, h => by
    cases k with | lst a l => exact .lst (.of (e _ _ a)) (DatL.dp e ds l (by simpa only [Dt.ok] using h))
  | .tup ds, _, k, h => by
    cases k with | tup a l => exact .tup (Evl.ex_t e a) (DatL.dp e ds l (by simpa only [Dt.ok] using h))
  | .dic _, _, _, h => by simp [Dt.ok] at h
  | .obj _ _, _, _, h => by simp [Dt.ok] at h
  | .ref _, _, _, h => by simp [Dt.ok] at h
  | .frl _, _, _, h => by simp [Dt.ok] at h
  | .ty _, _, _, h => by simp [Dt.ok] at h
theorem DatL.dp (e : Ex F H) : ∀ (ds : List Dt) {v : List V}, DatL K F v ds → okL ds = true → DpAll K H v (pyL ds)
  | [], _, k, _ => by cases k; exact .nil
  | d :: ds, _, k, h => by
    simp only [okL, Bool.and_eq_true] at h
    cases k with | cons a l => exact .cons (Dat.dp e d a h.1) (DatL.dp e ds l h.2)
end
mutual
theorem Dt.canLay : ∀ d : Dt, d.ok = true → d.py.canLay0 = true
  | .non, _ => rfl
  | .bl _, _ => rfl
  | .int _, _ => rfl
  | .str x, h => by simpa only [Dt.py, Dt.ok, PyData.canLay0] using h
  | .lst ds, h => by
    simp only [Dt.py, PyData.canLay0]
    exact canLayL ds (by simpa only [Dt.ok] using h)
  | .tup ds, h => by
    simp only [Dt.py, PyData.canLay0]
    exact canLayL ds (by simpa only [Dt.ok] using h)
  | .dic _, h => by simp [Dt.ok] at h
  | .obj _ _, h => by simp [Dt.ok] at h
  | .ref _, h => by simp [Dt.ok] at h
  | .frl _, h => by simp [Dt.ok] at h
  | .ty _, h => by simp [Dt.ok] at h
theorem canLayL : ∀ ds : List Dt, okL ds = true → PyData.canLayAll0 (pyL ds) = true
  | [], _ => by simp only [pyL, PyData.canLayAll0]
  | d :: ds, h => by
    simp only [okL, Bool.and_eq_true] at h
    simp only [pyL, PyData.canLayAll0, Bool.and_eq_true]
    exact ⟨Dt.canLay d h.1, canLayL ds h.2⟩
end
/-- as deep as == goes -/
def Dt.eok (d : Dt) : Bool := d.ok && decide (d.py.depth ≤ 64)
theorem shaped_of (h : d.eok = true) : SeqAt.shaped d.py = true := by
  unfold Dt.eok at h
  simp only [Bool.and_eq_true] at h
  unfold SeqAt.shaped
  rw [Dt.canLay d h.1, h.2]
  rfl
theorem eok_ok (h : d.eok = true) : d.ok = true := by
  unfold Dt.eok at h
  simp only [Bool.and_eq_true] at h
  exact h.1
/-- == -/
def eqd (x y : Dt) : Bool := PyData.eqv x.py y.py
theorem opd_eq (hx : x.eok = true) (hy : y.eok = true) : OpD K E Ψ (rEqD K) x y O (ex (.bl (eqd x y)) O) := opd_val fun F H v u b c k1 k2 =>
  ⟨_, .bl _, fun Q q => ⟨x.py, y.py, Dat.dp c _ k1 (eok_ok hx), Dat.dp c _ k2 (eok_ok hy), shaped_of hx, shaped_of hy, q⟩⟩
theorem opd_ne (hx : x.eok = true) (hy : y.eok = true) : OpD K E Ψ (rNeD K) x y O (ex (.bl (!eqd x y)) O) := opd_val fun F H v u b c k1 k2 =>
  ⟨_, .bl _, fun Q q => ⟨x.py, y.py, Dat.dp c _ k1 (eok_ok hx), Dat.dp c _ k2 (eok_ok hy), shaped_of hx, shaped_of hy, q⟩⟩
theorem eqd_int {i j : Int} : eqd (.int i) (.int j) = decide (i = j) := by
  show (i == j) = _
  exact Bool.beq_eq_decide_eq i j
theorem opd_eqI {i j : Int} : OpD K E Ψ (rEqD K) (.int i) (.int j) O (ex (.bl (decide (i = j))) O) := by rw [← eqd_int]; exact opd_eq rfl rfl
theorem opd_neI {i j : Int} : OpD K E Ψ (rNeD K) (.int i) (.int j) O (ex (.bl (!decide (i = j))) O) := by rw [← eqd_int]; exact opd_ne rfl rfl
/-! whole numbers -/
theorem opd_I0 {f : Int → Int → Int} {i j : Int} : OpD K E Ψ (rI0 fun a b => .int (f a b)) (.int i) (.int j) O (ex (.int (f i j)) O) := opd_val fun F H v u b c k1 k2 => by
  cases k1; cases k2
  exact ⟨_, .int _, fun Q q => ⟨i, j, rfl, rfl, q⟩⟩
theorem opd_B0 {f : Int → Int → Bool} {i j : Int} : OpD K E Ψ (rI0 fun a b => .bl (f a b)) (.int i) (.int j) O (ex (.bl (f i j)) O) := opd_val fun F H v u b c k1 k2 => by
  cases k1; cases k2
  exact ⟨_, .bl _, fun Q q => ⟨i, j, rfl, rfl, q⟩⟩
theorem opd_I {C : Int → Int → Prop} {f : Int → Int → Int} {i j : Int} (h : C i j) : OpD K E Ψ (rI C fun a b => .int (f a b)) (.int i) (.int j) O (ex (.int (f i j)) O) := opd_val fun F H v u b c k1 k2 => by
  cases k1; cases k2
  exact ⟨_, .int _, fun Q q => ⟨i, j, rfl, rfl, h, q⟩⟩
theorem und_neg {i : Int} : UnD K E Ψ (rU fun i => .int (-i)) (.int i) O (ex (.int (-i)) O) := und_val fun F H v b c k1 => by
  cases k1
  exact ⟨_, .int _, fun Q q => ⟨i, rfl, q⟩⟩
theorem opd_or1 {r r' : R2} (h : OpD K E Ψ r x y O Φ) : OpD K E Ψ (fun a b H Q => r a b H Q ∨ r' a b H Q) x y O Φ := fun F H v u a b c k1 k2 Q q => .inl (h F H v u a b c k1 k2 Q q)
theorem opd_or2 {r r' : R2} (h : OpD K E Ψ r' x y O Φ) : OpD K E Ψ (fun a b H Q => r a b H Q ∨ r' a b H Q) x y O Φ := fun F H v u a b c k1 k2 Q q => .inr (h F H v u a b c k1 k2 Q q)
theorem opd_plusI {i j : Int} : OpD K E Ψ (rPlus K) (.int i) (.int j) O (ex (.int (i + j)) O) := opd_or1 (opd_or1 opd_I0)
theorem opd_timesI {i j : Int} (h : CMul i j) : OpD K E Ψ (rTimes K) (.int i) (.int j) O (ex (.int (i * j)) O) := opd_or1 (opd_or1 (opd_I h))
theorem opd_plusL (h1 : LstOf O x ds) (h2 : LstOf O y es) (hl : ds.length + es.length ≤ 100000) : OpD K E Ψ (rPlus K) x y O (nwl (ds ++ es) O) := opd_or1 (opd_or2 (opd_new fun F H v u b c k1 k2 => by
  obtain ⟨p, xs, rfl, e1, l1⟩ := h1.read b c k1
  obtain ⟨q, ys, rfl, e2, l2⟩ := h2.read b c k2
  exact ⟨_, l1.append l2, fun Q q => ⟨_, _, xs, ys, rfl, rfl, e1, e2, by rw [l1.length, l2.length]; exact sz_of hl, q⟩⟩))
theorem opd_plusS {a b : Str} (h : a.length + b.length ≤ 100000) : OpD K E Ψ (rPlus K) (.str a) (.str b) O (ex (.str (a ++ b)) O) := opd_or2 (opd_or1 (opd_val fun F H v u b' c k1 k2 => by
  cases k1; cases k2
  exact ⟨_, .str _, fun Q q => ⟨_, _, rfl, rfl, sz_of h, q⟩⟩))
theorem opd_plusT (hl : ds.length + es.length ≤ 100000) : OpD K E Ψ (rPlus K) (.tup ds) (.tup es) O (ex (.tup (ds ++ es)) O) := opd_or2 (opd_or2 (fun F H v u b c e k1 k2 Q q => by
  cases k1 with
  | tup a1 l1 =>
    cases k2 with
    | tup a2 l2 =>
      rename_i p1 xs p2 ys
      refine ⟨p1, p2, xs, ys, rfl, rfl, Evl.ex_t c a1, Evl.ex_t c a2, by rw [l1.length, l2.length]; exact sz_of hl, fun hx => ?_, fun hx hy => ?_, fun hx hy p hp => ?_⟩
      · subst hx
        cases l1
        exact q _ F H _ O (.refl c) b (.tup a2 l2) ⟨by simp, rfl⟩
      · subst hy
        cases l2
        exact q _ F H _ O (.refl c) b (.tup a1 l1) ⟨by simp, rfl⟩
      · exact q _ _ _ _ O (Gw.new c hp) (b.new c hp) (.tup (.of upd_same) ((l1.append l2).mono (Gw.new (O := O) c hp).ext)) ⟨rfl, rfl⟩))
theorem flat_rep : ∀ (n : Nat) (xs : List V) (ds : List Dt), DatL K F xs ds → DatL K F (List.replicate n xs).flatten (List.replicate n ds).flatten
  | 0, _, _, _ => .nil
  | n + 1, xs, ds, h => by
    rw [List.replicate_succ, List.replicate_succ, List.flatten_cons, List.flatten_cons]
    exact h.append (flat_rep n xs ds h)
/-- a tuple some times -/
theorem opd_timesT {k : Int} (hne : ds ≠ []) (h0 : 0 ≤ k) (h1 : k ≤ 1000) (hl : ds.length ≤ 1000) : OpD K E Ψ (rTimes K) (.tup ds) (.int k) O (ex (.tup (List.replicate k.toNat ds).flatten) O) := opd_or2 (fun F H v u b c e k1 k2 Q q => by
  cases k1 with
  | tup a1 l1 =>
    cases k2
    rename_i p1 xs
    have hx : xs ≠ [] := fun z => hne (by subst z; cases l1; rfl)
    by_cases hk : 2 ≤ k
    · exact .inl ⟨p1, k, xs, rfl, rfl, Evl.ex_t c a1, hx, hk, h1, by rw [l1.length]; exact hl, fun p hp => q _ _ _ _ O (Gw.new c hp) (b.new c hp) (.tup (.of upd_same) ((flat_rep _ _ _ l1).mono (Gw.new (O := O) c hp).ext)) ⟨rfl, rfl⟩⟩
    · refine .inr ⟨p1, xs, rfl, Evl.ex_t c a1, hx, ?_⟩
      rcases (show k = 0 ∨ k = 1 by omega) with rfl | rfl
      · exact .inl ⟨rfl, fun p hp => q _ _ _ _ O (Gw.new c hp) (b.new c hp) (.tup (.of upd_same) .nil) ⟨rfl, rfl⟩⟩
      · exact .inr ⟨rfl, q _ F H _ O (.refl c) b (.tup a1 l1) ⟨by simp, rfl⟩⟩)
/-! chains -/
theorem ev_chain {r r' : R2} {b1 b2 : Bool} (ha : Ev K E Ψ ta Δ O (ex x O)) (hb : Ev K E Ψ tb Δ O (ex y O)) (h1 : OpD K E Ψ r x y O (ex (.bl b1) O)) (hc : b1 = true → Ev K E Ψ tc Δ O (ex z O)) (h2 : b1 = true → OpD K E Ψ r' y z O (ex (.bl b2) O)) :
    Ev K E Ψ (tChain r r' ta tb tc) Δ O (ex (.bl (b1 && b2)) O) := fun σ F H a b c e Q q => ha σ F H a b c e _ fun v F1 H1 x1 O1 g1 b1' k1 p1 => by
  obtain ⟨rfl, rfl⟩ := p1
  refine hb σ F1 H1 (a.mono g1.ext) b1' g1.sub (e.step g1) _ fun u F2 H2 y2 O2 g2 b2' k2 p2 => ?_
  obtain ⟨rfl, rfl⟩ := p2
  refine h1 F2 H2 v u b2' g2.sub ((e.step g1).step g2) (k1.mono g2.ext) k2 _ fun w F3 H3 d3 O3 g3 b3 k3 p3 => ?_
  obtain ⟨rfl, rfl⟩ := p3
  cases k3
  refine ⟨_, rfl, ?_⟩
  cases b1 with
  | false => exact iteF (q _ F3 H3 _ _ ((g1.trans g2).trans g3) b3 (.bl _) ⟨rfl, rfl⟩)
  | true =>
    refine iteT (hc rfl σ F3 H3 (a.mono ((g1.trans g2).trans g3).ext) b3 g3.sub (((e.step g1).step g2).step g3) _ fun w4 F4 H4 d4 O4 g4 b4 k4 p4 => ?_)
    obtain ⟨rfl, rfl⟩ := p4
    exact h2 rfl F4 H4 u w4 b4 g4.sub ((((e.step g1).step g2).step g3).step g4) (k2.mono (g3.trans g4).ext) k4 Q fun w5 F5 H5 d5 O5 g5 b5 k5 p5 => q w5 F5 H5 d5 O5 ((((g1.trans g2).trans g3).trans g4).trans g5) b5 k5 p5
/-! subscripts -/
theorem DatL.atI {xs : List V} (l : DatL K F xs ds) {i : Int} (h : L2.atI ds i = some z) : ∃ v, L2.atI xs i = some v ∧ Dat K F v z := by
  unfold L2.atI at h ⊢
  rw [l.length]
  cases e : ixN ds.length i with
  | none => rw [e] at h; simp at h
  | some j =>
    rw [e] at h
    exact l.get h
theorem opd_ix (hs : SeqOf O x ds) {i : Int} (h : L2.atI ds i = some z) : OpD K E Ψ (rIx K) x (.int i) O (ex z O) := opd_val fun F H v u b c k1 k2 => by
  obtain ⟨p, xs, rfl, h1, l⟩ := hs.read b c k1
  cases k2
  obtain ⟨w, hw, kw⟩ := l.atI h
  refine ⟨w, kw, fun Q q => ?_⟩
  rcases h1 with h1 | h1
  · exact .inl ⟨p, xs, i, w, rfl, rfl, h1, hw, q⟩
  · exact .inr (.inl ⟨p, xs, i, w, rfl, rfl, h1, hw, q⟩)
theorem opd_ixN (hs : SeqOf O x ds) {i : Nat} (h : ds[i]? = some z) : OpD K E Ψ (rIx K) x (.int (i : Int)) O (ex z O) := opd_ix hs (L2.atI_nat h)
/-- an index that is not written -/
theorem opd_ixI (hs : SeqOf O x ds) {i : Int} (h0 : 0 ≤ i) (h : ds[i.toNat]? = some z) : OpD K E Ψ (rIx K) x (.int i) O (ex z O) := opd_ix hs (by
  have e : i = ((i.toNat : Nat) : Int) := by omega
  rw [e]
  exact L2.atI_nat h)
theorem opd_ixS {a : Str} {i : Int} {c : Nat} (hl : a.length ≤ 100000) (h : L2.atI a.cps.toList i = some c) : OpD K E Ψ (rIx K) (.str a) (.int i) O (ex (.str ⟨#[c]⟩) O) := opd_val fun F H v u b c' k1 k2 => by
  cases k1; cases k2
  exact ⟨_, .str _, fun Q q => .inr (.inr ⟨a, i, c, rfl, rfl, sz_of hl, h, q⟩)⟩
/-! built-in functions -/
def rLen (K : PySem.W.Frag) : List V → Hp → VK → Prop := fun xs H Q => ∃ x n, xs = [x] ∧ LenV K x H n ∧ Q (.int n) H
theorem cad_len (hs : SeqOf O x ds) : CaD K E Ψ (fun xs H Q => ∃ x n, xs = [x] ∧ LenV K x H n ∧ Q (.int n) H) [x] O (ex (.int (ds.length : Int)) O) := cad_val fun F H vs b c k => by
  cases k with
  | cons k l =>
    cases l
    obtain ⟨p, xs, rfl, h, l⟩ := hs.read b c k
    refine ⟨_, .int _, fun Q q => ⟨_, ds.length, rfl, ?_, q⟩⟩
    rcases h with h | h
    · exact .inl ⟨xs, h, l.length.symm⟩
    · exact .inr ⟨xs, h, l.length.symm⟩
theorem cad_lenS {a : Str} (hl : a.length ≤ 100000) : CaD K E Ψ (fun xs H Q => ∃ x n, xs = [x] ∧ LenV K x H n ∧ Q (.int n) H) [.str a] O (ex (.int (a.length : Int)) O) := cad_val fun F H vs b c k => by
  cases k with
  | cons k l =>
    cases l; cases k
    exact ⟨_, .int _, fun Q q => ⟨_, a.length, rfl, ⟨sz_of hl, rfl⟩, q⟩⟩
theorem cad_abs {i : Int} : CaD K E Ψ (fun xs H Q => ∃ i, xs = [.int i] ∧ Q (.int (if i < 0 then -i else i)) H) [.int i] O (ex (.int (if i < 0 then -i else i)) O) := cad_val fun F H vs b c k => by
  cases k with
  | cons k l =>
    cases l; cases k
    exact ⟨_, .int _, fun Q q => ⟨i, rfl, q⟩⟩
theorem cad_int {i : Int} : CaD K E Ψ (fun xs H Q => (∃ i, xs = [.int i] ∧ Q (.int i) H) ∨ ∃ k, xs = [.bl k] ∧ Q (.int (if k then 1 else 0)) H) [.int i] O (ex (.int i) O) := cad_val fun F H vs b c k => by
  cases k with
  | cons k l =>
    cases l; cases k
    exact ⟨_, .int _, fun Q q => .inl ⟨i, rfl, q⟩⟩
theorem DatL.allB {xs : List V} : ∀ {bs : List Bool}, DatL K F xs (bs.map Dt.bl) → xs = bs.map V.bl := fun h => h.bls_inv
theorem cad_all {bs : List Bool} (hs : LstOf O x (bs.map Dt.bl)) : CaD K E Ψ (rAll K) [x] O (ex (.bl (bs.all id)) O) := cad_val fun F H vs b c k => by
  cases k with
  | cons k l =>
    cases l
    obtain ⟨p, xs, rfl, h, l⟩ := hs.read b c k
    rw [l.bls_inv] at h
    exact ⟨_, .bl _, fun Q q => ⟨p, bs, rfl, .of h, q⟩⟩
theorem cad_any {bs : List Bool} (hs : LstOf O x (bs.map Dt.bl)) : CaD K E Ψ (rAny K) [x] O (ex (.bl (bs.any id)) O) := cad_val fun F H vs b c k => by
  cases k with
  | cons k l =>
    cases l
    obtain ⟨p, xs, rfl, h, l⟩ := hs.read b c k
    rw [l.bls_inv] at h
    exact ⟨_, .bl _, fun Q q => ⟨p, bs, rfl, .of h, q⟩⟩
/-- the name of a thing's built-in class -/
def tyN : Dt → Option String
  | .non => some "NoneType" | .bl _ => some "bool" | .int _ => some "int" | .str _ => some "str"
  | .lst _ => some "list" | .tup _ => some "tuple" | .dic _ => some "dict" | _ => none
theorem tyx {n : String} (h : tyN d = some n) (c : Ex F H) {v : V} (k : Dat K F v d) : TyX K H v (.type n) := by
  cases k with
  | non => cases h; exact .base .non
  | bl b => cases h; exact .base (.bl b)
  | int i => cases h; exact .base (.int i)
  | str i => cases h; exact .base (.str i)
  | lst a l => cases h; exact .base (.lst (c _ _ a))
  | tup a l =>
    cases h
    rcases a with a | ⟨o, its, n, a, e, _⟩
    · rcases a with a | ⟨o, a⟩
      · exact .base (.tup (c _ _ a))
      · exact .fTuple (c _ _ a)
    · exact .kTuple a e
  | dic a l => cases h; exact .base (.dK (c _ _ a))
  | obj a l => cases h
  | ref a => cases h
  | frl a l => cases h
  | ty a => cases h
theorem cad_isi {n m : String} {b : Bool} (h : tyN d = some n) (hb : kitB n m = some b) : CaD K E Ψ (rIsi K) [d, .ty m] O (ex (.bl b) O) := cad_val fun F H vs b' c k => by
  cases k with
  | cons k l =>
    cases l with
    | cons k2 l =>
      cases l; cases k2
      exact ⟨_, .bl _, fun Q q => ⟨_, _, _, _, b, rfl, .ty m, tyx h c k, kit_ty hb, q⟩⟩
theorem ev_ty {n : String} : Ev K E Ψ (tC (.ty n)) Δ O (ex (.ty n) O) := ev_c fun _ => .ty n
end
end FF

set_option Elab.async false
set_option linter.all false
set_option maxRecDepth 100000
set_option maxHeartbeats 1000000
namespace FF
open PySem PySem.Spec PyProof.Rows L2
open Evl (Ex sz_of sz_lt fresh_back)
/-! promises that hold where no repr is under way: so that repr may be asked -/
def NoG (A : Around) : Prop := A.guards = some []
structure FnG (P : Program) (w : World) (K : PySem.W.Frag) (mg : Str → Option Value) (base : Heap) (CX : CXT) (k : Nat)
    (f : Addr) (fd : FuncData) (ps : List Str) (sp : Sp) : Prop where
  len : ∀ vs H Q E, sp vs H Q E → vs.length = ps.length
  run : ∀ (A : Around) (outer : List Env) (s : Shared) (H : Hp) (args : Args) (us : List Value) (vs : List V) (Q : VK) (E : XK),
    NoG A → Room k A → Env0 P w K mg base A outer s H → BindsTo s fd args (ps.zip us) → Vals vs us → sp vs H Q E →
      codeAny (model P w) A (.call (.ref f) args) (CR CX outer P w H s Q E) s
section
variable {X : Cx} {CX : CXT} {k : Nat} {f C : Addr} {fd : FuncData} {ps : List Str} {sp : Sp} {E : XK} {x m : Str} {p pos apos : Pos}
variable {e o : Expr} {es : List Expr} {ta : TE} {t : TA} {dvs : List V} {ds : List Value}
theorem FnG.mono {P : Program} {w : World} {K : PySem.W.Frag} {mg : Str → Option Value} {base : Heap} {j : Nat}
    (F : FnG P w K mg base CX j f fd ps sp) (h : j ≤ k) : FnG P w K mg base CX k f fd ps sp :=
  ⟨F.len, fun A o s H a us vs Q E g r => F.run A o s H a us vs Q E g (r.mono h)⟩
theorem runG (F : FnG X.prog X.w X.K X.mg X.base CX k f fd ps sp) (g : NoG X.A) (hr : Room k X.A) (hb : Binds X.K fd ps ds) (hd : Vals dvs ds)
    (hx : Passes CX X E) {pins : List (Addr × Obj)} {σ : L2.St} {H : Hp} {s : Shared} {Q : VK} {us : List Value} {vs : List V}
    (I : Inv X pins σ H s) (r : Vals vs us) (h : sp (vs ++ dvs) H Q E) :
    wpAny (model X.prog X.w) X.A (call (.ref f) us) (EP X pins σ Q) X.xe s := by
  have rr : Vals (vs ++ dvs) (us ++ ds) := r.append hd
  have ll : (us ++ ds).length = ps.length := rr.length.symm.trans (F.len _ _ _ _ h)
  have c := F.run X.A X.stack s H ⟨us, []⟩ _ _ Q E g hr I.env0 (hb s us I.kIn ll) rr h
  refine wpAny_call (codeAny_mono c ?_)
  rintro (er | (u | _ | _ | _)) s' q
  · exact hx pins σ H s er s' I q
  all_goals first | exact I.after q | exact q.elim
end
/-- what stands at a name, by its promise -/
structure HasG (P : Program) (w : World) (K : PySem.W.Frag) (mg : Str → Option Value) (base : Heap) (CX : CXT) (k : Nat) (x : Str) (ps : List Str) (sp : Sp) : Prop where
  ex : ∃ f fd, FnG P w K mg base CX k f fd ps sp ∧ Binds K fd ps [] ∧ PySem.W.keepIn K (.ref f) = true ∧ mg x = some (.ref f)
section
variable {X : Cx} {CX : CXT} {k : Nat} {ps : List Str} {sp : Sp} {E : XK} {x : Str} {p pos : Pos} {e : Expr} {es : List Expr} {t : TA}
theorem pe_hasG (h : HasG X.prog X.w X.K X.mg X.base CX k x ps sp) (g : NoG X.A) (hr : Room k X.A) (hg : Gl X x) (hx : Passes CX X E) (ha : PA X (e :: es) t)
    (hd : (x == ("__debug__" : Str)) = false := by decide) (he : starEach (e :: es) X.env = (false, eval e X.env) :: starEach es X.env := by rfl)
    (hpl : (backTo pos (starEach es X.env)).any (·.1) = false := by rfl) : PE X (.Call (.Name x p) (e :: es) [] pos) (tCall sp [] E t) := by
  obtain ⟨f, fd, F, b, kp, hm⟩ := h.ex
  refine ⟨fun pins s σ H Q I q => wpAny_Call_Name_kw (ld_glob I hg hm ?_ hd)⟩
  refine PySem.W.callWith_K (h₀ := X.base) I.ok.mod.kin kp (thn (ha.run pos pins s σ H _ I q) ?_) he hpl
  rintro us s1 ⟨vs, H1, I1, r, q1⟩
  exact ⟨I1.kIn, runG F g hr b .nil hx I1 r q1⟩
theorem HasG.mono {P : Program} {w : World} {K : PySem.W.Frag} {mg : Str → Option Value} {base : Heap} {j : Nat} (h : HasG P w K mg base CX j x ps sp) (l : j ≤ k) : HasG P w K mg base CX k x ps sp := by
  obtain ⟨f, fd, a, b, c, d⟩ := h.ex
  exact ⟨f, fd, a.mono l, b, c, d⟩
end
section
variable {P : Program} {w : World} {K : PySem.W.Frag} {mg : Str → Option Value} {base : Heap} {CX : CXT}
/-- a def's promise by its body -/
theorem fnG {x qual : Str} {st : Stmt} {f : Addr} {fd : FuncData} {N ps : List Str} {k : Nat} {sp : Sp} (F : Fun K x qual st f fd) (S : FnScope N ps (defScope st))
    (len : ∀ vs H Q E, sp vs H Q E → vs.length = ps.length)
    (body : ∀ (cdv : Value) (A : Around) (outer : List Env) (s : Shared) (H : Hp) (vs : List V) (Q : VK) (E : XK), NoG A → Room k (A.deeper (envOfC qual (defScope st) s.heap.objs.size f cdv)) → sp vs H Q E →
      ∃ t, PSs (cxOf CX P w K mg base N qual (defScope st) f cdv A outer s H E) (defBody st) t ∧ t { nx := fun _ H' => Q .non H', rt := Q } (start N vs) H) :
    FnG P w K mg base CX (k + 1) f fd ps sp := by
  obtain ⟨oc, od, kV, doc, pm, an, cdv, ct, osl, rfl, lk, hcd⟩ := F.ex
  refine ⟨len, fun A outer s H args us vs Q E g hr e0 hb r q => ?_⟩
  have kept : ∀ b o, base.get? b = some o → s.heap.get? b = some o := fun b o z => (e0.bs b o z).1
  have KX : K.In s.heap := e0.mod.kin.keeps kept
  have kinds : ∀ y ∈ ps.zip us, (defScope st).names.lookup y.1 = some .local ∨
      ((defScope st).names.lookup y.1 = some .cell ∧ ((cellsFrom (s.heap.objs.size + 1) (defScope st).names []).lookup y.1).isSome = true) := by
    rintro ⟨n, v⟩ hy
    exact (S.par n (List.of_mem_zip hy).1).imp id fun z => ⟨z, PySem.W.cellsFrom_some _ _ _ (.inl z)⟩
  refine codeAny_call_function hr.depth (KX _ _ lk) rfl S.co S.gen rfl (PySem.W.codeRec_of KX hcd) (hb _ _ _ _ ?_)
  refine wpAny_newFunctionEnv_cells S.kind kinds ?_
  rintro env rfl s1 made
  refine ⟨(e0.mod.nolimit.keeps kept).keeps made.toInCall.keep, codeAny_func ?_⟩
  obtain ⟨t, ht, hq⟩ := body cdv A outer s H vs Q E g (hr.deeper _) q
  have I := inv_start (CX := CX) (E := E) S hr.hd e0 (len _ _ _ _ q) r made
  refine wpAny_mono (ht.run [] s1 _ H _ I hq) ?_ (fun _ _ z => z)
  rintro (_ | _ | _ | u) s' hs
  · obtain ⟨_, H', J, z⟩ := hs
    exact ⟨V.non, H', J.os, J.bare, J.base, J.hok, rfl, z⟩
  · obtain ⟨_, _, _, z⟩ := hs
    exact z.elim
  · obtain ⟨_, _, _, z⟩ := hs
    exact z.elim
  · obtain ⟨v, _, H', J, rv, z⟩ := hs
    exact ⟨v, H', J.os, J.bare, J.base, J.hok, rv, z⟩
/-! ### the law's own call -/
/-- the script alone is known, where it is no object of the text's -/
def scriptH (K : PySem.W.Frag) (a : Addr) (o : Obj) (xs : List V) : Hp := fun b => if b = a ∧ K.lookup a = none then some (.frz o (.lst xs)) else none
theorem scriptH_some {a b : Addr} {o : Obj} {xs : List V} {u : HO} (h : scriptH K a o xs b = some u) : b = a ∧ K.lookup a = none ∧ u = .frz o (.lst xs) := by
  unfold scriptH at h
  split at h
  · rename_i z
    exact ⟨z.1, z.2, (Option.some.inj h).symm⟩
  · cases h
theorem callG {mb : Str → Option Value} {k : Nat} {fa a : Addr} {fd : FuncData} {x : Str} {sp : Sp} {s : Shared} {vs : List Value} {ns : List Int}
    (KX : K.In s.heap) (hns : s.heap.Ns mainGlobals mg) (hb : s.heap.Ns builtinsNs mb) (hbb : ∀ x : Str, x ≠ "__name__" → mb x = bootBuiltins x)
    (hlim : s.heap.NoLimit) (hg : s.gens = #[]) (ha : s.heap.get? a = some { cls := .type "list", data := .seq vs.toArray })
    (hi : IntsAre vs ns) (hl : ns.length ≤ sizeLine) (hr : Room k callerA) (F : ∀ base : Heap, FnG P w K mg base CX k fa fd [x] sp)
    (bind : ∀ (s : Shared) (u : Value), BindsTo s fd ⟨[u], []⟩ [(x, u)])
    (hsp : ∀ H : Hp, SqL K H a (ns.map V.int) → sp [.ref a] H (fun v _ => v = .bl true) fun _ _ _ => False)
    (hCX : ∀ H e s', CX [] H s (fun _ _ _ => False) e s' → False) :
    codeAny (model P w) callerA (.call (.ref fa) ⟨[.ref a], []⟩) (fun r s' => r = .ok (.ret (.bool true)) ∧ OldK s.heap s'.heap ∧ s'.os = s.os ∧ AllBare s'.gens) s := by
  have rv := vals_ints hi
  generalize hH : scriptH K a { cls := .type "list", data := .seq vs.toArray } (ns.map V.int) = H
  have inv : ∀ {b u}, H b = some u → b = a ∧ K.lookup a = none ∧ u = .frz { cls := .type "list", data := .seq vs.toArray } (.lst (ns.map V.int)) := fun z => scriptH_some (hH ▸ z)
  have seq : SqL K H a (ns.map V.int) := by
    cases q : K.lookup a with
    | none => exact .inl (.inr ⟨_, by rw [← hH]; exact if_pos ⟨rfl, q⟩⟩)
    | some o =>
      have z := KX a o q
      rw [ha] at z
      cases z
      exact .inr ⟨_, vs.toArray, _, q, rfl, rfl, rfl, by rw [List.size_toArray, hi.length]; exact hl, by simpa using rv⟩
  have ok : HOk P w H s.heap := fun b u z => by
    obtain ⟨rfl, _, rfl⟩ := inv z
    exact ⟨ha, by rw [List.length_map]; exact hl, vs, _, rv, ha⟩
  have ns' : ∀ {b m}, s.heap.Ns b m → (hidT s.heap H).Ns b m := by
    rintro b m ⟨o, es, ep, e, d, r⟩
    refine ⟨o, es, ep, hidT_get e ?_, d, r⟩
    cases q : H b with
    | none => rfl
    | some u =>
      obtain ⟨rfl, _⟩ := inv q
      rw [ha] at e
      cases e
      cases d
  have kin : K.In (hidT s.heap H) := fun b o e => hidT_get (KX b o e) (by
    cases q : H b with
    | none => rfl
    | some u =>
      obtain ⟨rfl, h1, _⟩ := inv q
      rw [h1] at e
      cases e)
  have md : Mod K mg (hidT s.heap H) := ⟨kin, ns' hns, ⟨mb, ns' hb, hbb⟩, let ⟨mc, h1, h2⟩ := hlim; ⟨mc, ns' h1, h2⟩⟩
  have e0 : Env0 P w K mg (hidT s.heap H) callerA [] s H :=
    ⟨rfl, md, fun b o e => of_hidT e, Nat.le_of_eq (hidT_size _ _), trivial, (fun b m => by cases m), ok, .of_eq hg⟩
  refine codeAny_mono ((F _).run callerA [] s H ⟨[.ref a], []⟩ [.ref a] [.ref a] _ _ rfl hr e0 (bind s (.ref a)) (.cons rfl .nil) (hsp H seq)) ?_
  rintro (e | _ | _ | _ | u) s' h
  · exact (hCX H e s' h).elim
  · exact h.elim
  · exact h.elim
  · exact h.elim
  · obtain ⟨v, H', os, bare, un, ok', r', q⟩ := h
    have q2 : v = .bl true := q
    subst q2
    cases (show u = Value.bool true from r')
    refine ⟨rfl, OldK.of_keep fun b o e => ?_, os, bare⟩
    cases q : H b with
    | none => exact un.keep b o e q (fun z => by cases z) (fun z => by cases z)
    | some w' =>
      obtain ⟨rfl, _, rfl⟩ := inv q
      obtain ⟨e2, _⟩ := ok' _ _ (un.frzs _ _ _ q)
      rw [ha] at e
      cases e
      exact e2
/-! ### promises of data, as in FFC, where nothing is shown meanwhile -/
theorem hasG_of {x qual : Str} {st : Stmt} {N ps : List Str} {k : Nat} {pre : Pre} (D : DefAt K mg x qual st ps) (S : FnScope N ps (defScope st)) (hlen : ∀ ds O Φ Ψ, pre ds O Φ Ψ → ds.length = ps.length)
    (body : ∀ (f : Addr) (cdv : Value) (A : Around) (outer : List Env) (s : Shared) (H : Hp) (E : XK), NoG A → Room k (A.deeper (envOfC qual (defScope st) s.heap.objs.size f cdv)) →
      ∃ t, PSs (cxOf CX P w K mg base N qual (defScope st) f cdv A outer s H E).nox (defBody st) t ∧ ∀ ds O Φ Ψ, pre ds O Φ Ψ → Sv K E Ψ t (startD N.length ds) O { nx := fun _ O' => Φ .non O', rt := Φ }) : HasG P w K mg base CX (k + 1) x ps (mkSp K pre) := by
  obtain ⟨f, fd, F, b, hm⟩ := D.ex
  refine ⟨f, fd, fnG F S ?_ ?_, b, F.kp, hm⟩
  · rintro vs H Q E ⟨F', ds, O, Φ, Ψ, l, _, _, h, _⟩
    rw [l.length]
    exact hlen ds O Φ Ψ h
  · rintro cdv A outer s H vs Q E g hr ⟨F', ds, O, Φ, Ψ, l, ow, ex', h, hx, q⟩
    obtain ⟨t, ht, hsv⟩ := body f cdv A outer s H E g hr
    refine ⟨t, ht.nox, hsv ds O Φ Ψ h _ F' H _ (env_start l) ow ex' hx ⟨fun σ' F2 H2 Δ' O' g b2 a2 p => ?_, fun v F2 H2 d O' g b2 k2 p => q v F2 H2 d O' g b2 k2 p, fun _ _ _ _ _ _ _ _ z => z.elim, fun _ _ _ _ _ _ _ _ z => z.elim⟩⟩
    exact q .non F2 H2 .non O' g b2 .non p
def LawG (P : Program) (w : World) (K : PySem.W.Frag) (mg : Str → Option Value) (k : Nat) (qual : Str) (st : Stmt) (p : Str) : Prop :=
  ∀ base : Heap, ∀ f fd, Fun K "law" qual st f fd → FnG P w K mg base CX0 k f fd [p] (spLaw K)
theorem lawG_of {qual : Str} {st : Stmt} {N : List Str} {k : Nat} {p : Str} (S : FnScope N [p] (defScope st))
    (body : ∀ (base : Heap) (f : Addr) (cdv : Value) (A : Around) (outer : List Env) (s : Shared) (H : Hp) (E : XK), NoG A → Room k (A.deeper (envOfC qual (defScope st) s.heap.objs.size f cdv)) →
      ∃ t, PSs (cxOf CX0 P w K mg base N qual (defScope st) f cdv A outer s H E).nox (defBody st) t ∧ ∀ ns : List Int, ns.length ≤ 63 → Sv K E X0 t (startD N.length [.frl (ns.map .int)]) [] { nx := fun _ _ => False, rt := fun d _ => d = .bl true }) : LawG P w K mg (k + 1) qual st p := by
  intro base f fd F
  refine fnG F S ?_ ?_
  · rintro vs H Q E ⟨F', ds, O, Φ, Ψ, l, _, _, ⟨ns, rfl, _⟩, _⟩
    rw [l.length]
    rfl
  · rintro cdv A outer s H vs Q E g hr ⟨F', ds, O, Φ, Ψ, l, ow, ex', ⟨ns, rfl, hl, rfl, rfl, rfl⟩, hx, q⟩
    obtain ⟨t, ht, hsv⟩ := body base f cdv A outer s H E g hr
    refine ⟨t, ht.nox, hsv ns hl _ F' H _ (env_start l) ow ex' hx ⟨fun _ _ _ _ _ _ _ _ p => p.elim, fun v F2 H2 d O' g b2 k2 p => q v F2 H2 d O' g b2 k2 p, fun _ _ _ _ _ _ _ _ z => z.elim, fun _ _ _ _ _ _ _ _ z => z.elim⟩⟩
theorem law_walkG {l : PySem.W.OpenLaw} {q : Program} {loose : List Str} {XP : (Str → Option Value) → Heap → Prop} {YP : World → Heap → Prop} {d : DefRec} {K : Params → PySem.W.Frag} {k : Nat} {qual : Str} {st : Stmt} {p : Str} (hn : l.most = some 63) (hdf : d.params.defaults = [])
    (hnm : d.name = "law") (hr : Room k callerA) (hY : ∀ (w : World) (h : Heap), YP w h → (K w.params).In h)
    (F : ∀ (w : World) (h : Heap), (K w.params).In h → ∀ mg : Str → Option Value, h.Ns mainGlobals mg → LawAt (K w.params) mg qual st p ∧ LawG l.prog w (K w.params) mg k qual st p) :
    PySem.W.WalkO q loose XP YP l.row.toRowW d [] (fun f vs => PySem.call f vs) := by
  refine Att.attach_call hn hdf fun w s₀ s mg mb fa o pm cd doc a vs ns G Y ho hd hcd hmg hobj hints hlen hg => ?_
  have KX := hY w _ Y
  obtain ⟨T, L⟩ := F w _ KX mg G.T.g
  obtain ⟨f, fd, hF, hm, hb⟩ := T.ex
  rw [hnm, hm] at hmg
  cases hmg
  exact callG KX G.T.g G.T.b G.T.builtins G.T.nolimit hg hobj hints (Nat.le_trans hlen (by decide)) hr (fun base => L base _ fd hF) hb (fun H hS => spLaw_start hS hlen) fun H e s' z => z
end
end FF

set_option Elab.async false
set_option linter.all false
set_option maxRecDepth 100000
set_option maxHeartbeats 1000000
namespace FF
open PySem PySem.Spec PyProof.Rows L2
open Evl (Ex sz_of sz_lt fresh_back)
def Dt.flat : Dt → Bool
  | .non => true | .bl _ => true | .int _ => true | .str _ => true | _ => false
theorem flat_reads {K : PySem.W.Frag} {F : Hp} {h : Heap} {v : V} {d : Dt} {u : Value} (hf : d.flat = true) (k : Dat K F v d) (r : RelV v u) : Reads h u d.py [] := by
  cases k with
  | non => cases r; exact .none
  | bl b => cases r; exact .bool b
  | int i => obtain ⟨t, rfl⟩ := r; exact .int i t
  | str x => obtain ⟨t, rfl⟩ := r; exact .str x t
  | lst _ _ => cases hf
  | tup _ _ => cases hf
  | dic _ _ => cases hf
  | obj _ _ => cases hf
  | ref _ => cases hf
  | frl _ _ => cases hf
  | ty _ => cases hf
/-- a dict of flat things as the heap has it -/
theorem pairs_reads {P : Program} {w : World} {K : PySem.W.Frag} {F : Hp} {h : Heap} : ∀ {es : List DictEntry} {vs : List (Key × Value)} {kvs : List (Key × V)} {ks : List (Key × Dt)},
    PySem.Pairs (mixKind P w) es vs → KV kvs vs → DatK K F kvs ks → (∀ p ∈ ks, p.2.flat = true) →
      ReadsAll h (es.map (·.key)) ((pyK ks).map (·.1)) [] ∧ ReadsAll h (es.map (·.val)) ((pyK ks).map (·.2)) []
  | _, _, _, _, .nil, r, k, _ => by
    cases r
    cases k
    exact ⟨.nil, .nil⟩
  | _, _, _, _, .cons h1 h2 t, r, k, hf => by
    cases r with
    | cons r1 r2 =>
      cases k with
      | @cons k0 v0 vs0 d0 ds0 k1 k2 =>
        obtain ⟨a, b⟩ := pairs_reads (h := h) t r2 k2 fun p m => hf p (List.mem_cons_of_mem _ m)
        obtain ⟨e1, e2⟩ := r1
        have f0 : d0.flat = true := hf (k0, d0) (List.mem_cons_self ..)
        have q := flat_reads (h := h) f0 k1 e2
        rw [← h2] at q
        refine ⟨?_, .cons q b⟩
        rw [← e1] at h1
        rcases keyIs_shape h1 with ⟨i, t', rfl, e⟩ | ⟨x, t', rfl, e⟩
        · refine ReadsAll.cons (as := []) (bs := []) ?_ a
          simp only [e]
          exact .int i t'
        · refine ReadsAll.cons (as := []) (bs := []) ?_ a
          simp only [e]
          exact .str x t'
/-- what repr is served of -/
def Dt.rok (d : Dt) : Bool := (d.ok || (match d with | .dic ks => ks.all (fun p => p.2.flat) | _ => false)) && d.py.showable && decide (d.py.depth ≤ 90)
def shw (d : Dt) : Str := d.py.shown
section
variable {K : PySem.W.Frag} {E E' : XK} {Ψ : XPost} {F F' F1 F2 H H' H1 H2 : Hp} {O O' O1 O2 R : Own} {σ : L2.St} {Δ : Env_} {D : Ends} {P : Post}
variable {d x y z : Dt} {ds es : List Dt}
mutual
theorem noDict : ∀ d : Dt, d.ok = true → d.py.hasDict = false
  | .non, _ => rfl
  | .bl _, _ => rfl
  | .int _, _ => rfl
  | .str _, _ => rfl
  | .lst ds, h => by
    simp only [Dt.py, PyData.hasDict]
    exact noDictL ds (by simpa only [Dt.ok] using h)
  | .tup ds, h => by
    simp only [Dt.py, PyData.hasDict]
    exact noDictL ds (by simpa only [Dt.ok] using h)
  | .dic _, h => by simp [Dt.ok] at h
  | .obj _ _, h => by simp [Dt.ok] at h
  | .ref _, h => by simp [Dt.ok] at h
  | .frl _, h => by simp [Dt.ok] at h
  | .ty _, h => by simp [Dt.ok] at h
theorem noDictL : ∀ ds : List Dt, okL ds = true → PyData.hasDictAll (pyL ds) = false
  | [], _ => by simp only [pyL, PyData.hasDictAll]
  | d :: ds, h => by
    simp only [okL, Bool.and_eq_true] at h
    simp only [pyL, PyData.hasDictAll, Bool.or_eq_false_iff]
    exact ⟨noDict d h.1, noDictL ds h.2⟩
end
def rRepr (K : PySem.W.Frag) : List V → Hp → VK → Prop := fun xs H Q => ∃ v d F, xs = [v] ∧ Dat K F v d ∧ Ex F H ∧ d.rok = true ∧ (shw d).length ≤ sizeLine ∧ Q (.str (shw d)) H
theorem call_reprD {X : Cx} (g : NoG X.A) (hu : X.A.units + 100 < cLine) : CallR X (.builtin "repr") (rRepr X.K) := by
  intro pins s σ H xs us Q I r h
  obtain ⟨v, d, F, rfl, k, e, hr, hz, q⟩ := h
  obtain ⟨u, rfl, rx⟩ := vals1 r
  simp only [Dt.rok, Bool.and_eq_true, decide_eq_true_eq] at hr
  obtain ⟨⟨ho, hs⟩, hd⟩ := hr
  have fin : ∀ (a : Addr) (as : List Addr), u = .ref a → Reads s.heap (.ref a) d.py as → (d.py.hasDict = true → sysModules ∉ as) → wpAny (model X.prog X.w) X.A (call (.builtin "repr") [u]) (EP X pins σ Q) X.xe s := by
    rintro a as rfl rd sm
    exact repr_of_reads' rd hs sm g (by omega) (fun _ _ z => z) (fun h' t tk hk => ⟨.str (shw d), H, I.kept hk, ⟨t, rfl⟩, q⟩) hz
  have viaDp : d.ok = true → ∀ a, u = .ref a → wpAny (model X.prog X.w) X.A (call (.builtin "repr") [u]) (EP X pins σ Q) X.xe s := fun hok a ea => by
    obtain ⟨as, rd⟩ := Dp.reads I d.py v u (Dat.dp e d k hok) rx
    subst ea
    exact fin a as rfl rd fun z => by rw [noDict d hok] at z; cases z
  cases k with
  | non => cases rx; exact PySem.P.repr_of_none ⟨.str _, H, I.tok _, ⟨_, rfl⟩, q⟩
  | bl b => cases rx; exact PySem.P.repr_of_bool ⟨.str _, H, I.tok _, ⟨_, by cases b <;> rfl⟩, q⟩
  | int i =>
    obtain ⟨t, rfl⟩ := rx
    exact PySem.P.repr_of_int (by simpa [Dt.py, PyData.showable] using hs) ⟨.str _, H, I.tok _, ⟨_, rfl⟩, q⟩
  | str z =>
    obtain ⟨t, rfl⟩ := rx
    exact PySem.P.repr_of_str ⟨.str _, H, I.tok _, ⟨_, rfl⟩, q⟩ hz
  | lst a l => exact viaDp (by simpa using ho) _ rx
  | tup a l => exact viaDp (by simpa using ho) _ rx
  | dic a l =>
    rename_i ad kvs ks
    have hf : ∀ p ∈ ks, p.2.flat = true := by
      have h1 : ks.all (fun p => p.2.flat) = true := by simpa [Dt.ok] using ho
      simpa [List.all_eq_true] using h1
    obtain ⟨_, ns, vs, kv, o, es, ep, e1, ⟨ec, edd⟩, ed, hko, hp, hnd⟩ := (show ObjOk X.prog X.w H s.heap ad (.dK kvs) from I.hok ad _ (e _ _ a))
    obtain ⟨r1, r2⟩ := pairs_reads (h := s.heap) hp kv l hf
    have rd : Reads s.heap (.ref ad) (.dict (pyK ks)) (ad :: [] ++ []) := .dict e1 ec ed r1 r2
    refine fin ad _ rx rd fun _ m => ?_
    have ea : sysModules = ad := by simpa using m
    rw [← ea] at ns
    simp at ns
  | obj _ _ => simp [Dt.ok] at ho
  | ref _ => simp [Dt.ok] at ho
  | frl _ _ => simp [Dt.ok] at ho
  | ty _ => simp [Dt.ok] at ho
theorem cad_repr (hr : d.rok = true) (hz : (shw d).length ≤ 100000) : CaD K E Ψ (rRepr K) [d] O (ex (.str (shw d)) O) := cad_val fun F H vs b c k => by
  cases k with
  | cons k l =>
    cases l
    exact ⟨_, .str _, fun Q q => ⟨_, d, F, rfl, k, c, hr, sz_of hz, q⟩⟩
end
end FF

set_option Elab.async false
set_option linter.all false
set_option maxRecDepth 100000
set_option maxHeartbeats 1000000
namespace FF
open PySem PySem.Spec PyProof.Rows L2
open Evl (Ex sz_of sz_lt fresh_back)
section
variable {K : PySem.W.Frag} {E E' : XK} {Ψ : XPost} {F F' F1 F2 H H' H1 H2 : Hp} {O O' O1 O2 R : Own} {σ : L2.St} {Δ : Env_} {D : Ends} {P : Post}
variable {te ta tb tc to ti : TE} {tt : TT} {tas : TA} {Φ Φ' : Dt → Own → Prop} {d x y z : Dt} {ds es : List Dt} {r : R2} {t u t' : TS} {P' : Post} {M : Env_ → Own → Prop} {p : Addr}
/-! slices -/
def EvO (K : PySem.W.Frag) (E : XK) (Ψ : XPost) (te : TO) (Δ : Env_) (O : Own) (o : Option Int) : Prop :=
  ∀ σ F H, EnvOk K F σ Δ → OwnOk K F H O → Ex F H → XOk K E Ψ O F H → ∀ Q : Option Int → Hp → Prop, (∀ F' H', Gw O F H O F' H' → OwnOk K F' H' O → Q o H') → te σ H Q
theorem eo_none : EvO K E Ψ tNoPart Δ O none := fun σ F H a b c e Q q => q F H (.refl c) b
theorem eo_some {i : Int} (h : Ev K E Ψ te Δ O (ex (.int i) O)) : EvO K E Ψ (tPart te) Δ O (some i) := fun σ F H a b c e Q q => h σ F H a b c e _ fun v F1 H1 d O1 g1 b1 k1 p1 => by
  obtain ⟨rfl, rfl⟩ := p1
  cases k1
  exact ⟨i, rfl, q F1 H1 g1 b1⟩
def SlD (K : PySem.W.Frag) (E : XK) (Ψ : XPost) (r : V → Option Int → Option Int → Hp → VK → Prop) (x : Dt) (lo hi : Option Int) (O : Own) (Φ : Dt → Own → Prop) : Prop :=
  ∀ F H v, OwnOk K F H O → Ex F H → XOk K E Ψ O F H → Dat K F v x → ∀ Q : VK, (∀ w F' H' d O', Gw O F H O' F' H' → OwnOk K F' H' O' → Dat K F' w d → Φ d O' → Q w H') → r v lo hi H Q
theorem ev_sl {r : V → Option Int → Option Int → Hp → VK → Prop} {tl th : TO} {lo hi : Option Int} (ha : Ev K E Ψ te Δ O (ex x O)) (hl : EvO K E Ψ tl Δ O lo) (hh : EvO K E Ψ th Δ O hi) (hr : SlD K E Ψ r x lo hi O Φ) : Ev K E Ψ (tSl r te tl th) Δ O Φ :=
  fun σ F H a b c e Q q => ha σ F H a b c e _ fun v F1 H1 d O1 g1 b1 k1 p1 => by
    obtain ⟨rfl, rfl⟩ := p1
    exact hl σ F1 H1 (a.mono g1.ext) b1 g1.sub (e.step g1) _ fun F2 H2 g2 b2 => hh σ F2 H2 (a.mono (g1.trans g2).ext) b2 g2.sub ((e.step g1).step g2) _ fun F3 H3 g3 b3 =>
      hr F3 H3 v b3 g3.sub (((e.step g1).step g2).step g3) (k1.mono (g2.trans g3).ext) Q fun w F4 H4 d4 O4 g4 b4 k4 p4 => q w F4 H4 d4 O4 (((g1.trans g2).trans g3).trans g4) b4 k4 p4
def cutD (xs : List Dt) (lo hi : Option Int) : List Dt := (xs.drop (HT.sIx xs.length 0 lo)).take (HT.sIx xs.length xs.length hi - HT.sIx xs.length 0 lo)
theorem DatL.cut {xs : List V} (l : DatL K F xs ds) (lo hi : Option Int) : DatL K F (cutV xs lo hi) (cutD ds lo hi) := by
  unfold cutV cutD
  rw [l.length]
  exact (l.drop _).take _
theorem sld_list {lo hi : Option Int} (hs : LstOf O x ds) : SlD K E Ψ (rSlL K) x lo hi O (nwl (cutD ds lo hi) O) := fun F H v b c e k Q q => by
  obtain ⟨a, xs, rfl, h, l⟩ := hs.read b c k
  exact ⟨a, xs, rfl, .of h, fun p hp => q _ F _ (.ref p) ((p, .lst (cutD ds lo hi)) :: O) (Gw.newOwn c hp) (b.newOwn c hp ⟨_, upd_same, l.cut lo hi⟩) (.ref p) ⟨p, rfl, rfl⟩⟩
theorem sld_frl {lo hi : Option Int} : SlD K E Ψ (rSlL K) (.frl ds) lo hi O (nwl (cutD ds lo hi) O) := fun F H v b c e k Q q => by
  cases k with
  | frl h l =>
    rename_i a xs
    exact ⟨a, xs, rfl, Evl.ex_l c h, fun p hp => q _ F _ (.ref p) ((p, .lst (cutD ds lo hi)) :: O) (Gw.newOwn c hp) (b.newOwn c hp ⟨_, upd_same, l.cut lo hi⟩) (.ref p) ⟨p, rfl, rfl⟩⟩
theorem cut_whole {lo hi : Option Int} (h : HT.sIx ds.length 0 lo = 0 ∧ HT.sIx ds.length ds.length hi = ds.length) : cutD ds lo hi = ds := by
  unfold cutD
  rw [h.1, h.2]
  simp
theorem sld_tup {lo hi : Option Int} : SlD K E Ψ (rSlA K) (.tup ds) lo hi O (ex (.tup (cutD ds lo hi)) O) := fun F H v b c e k Q q => by
  cases k with
  | tup h l =>
    rename_i a xs
    refine ⟨a, xs, rfl, Evl.ex_t c h, fun hw => ?_, fun _ p hp => ?_⟩
    · rw [l.length] at hw
      exact q _ F H _ O (.refl c) b (.tup h l) ⟨by rw [cut_whole hw], rfl⟩
    · exact q _ _ _ _ O (Gw.new c hp) (b.new c hp) (.tup (.of upd_same) ((l.cut lo hi).mono (Gw.new (O := O) c hp).ext)) ⟨rfl, rfl⟩
theorem sld_str {lo hi : Option Int} {a : Str} (hl : a.length ≤ 100000) : SlD K E Ψ rSlS (.str a) lo hi O (ex (.str (cutS a lo hi)) O) := fun F H v b c e k Q q => by
  cases k
  exact ⟨a, rfl, sz_of hl, q _ F H _ O (.refl c) b (.str _) ⟨rfl, rfl⟩⟩
/-! an owned list's methods -/
def BmD (K : PySem.W.Frag) (E : XK) (Ψ : XPost) (r : V → List V → Hp → VK → Prop) (x : Dt) (xs : List Dt) (O : Own) (Φ : Dt → Own → Prop) : Prop :=
  ∀ F H v vs, OwnOk K F H O → Ex F H → XOk K E Ψ O F H → Dat K F v x → DatL K F vs xs → ∀ Q : VK, (∀ w F' H' d O', Gw O F H O' F' H' → OwnOk K F' H' O' → Dat K F' w d → Φ d O' → Q w H') → r v vs H Q
theorem ev_bmG {T : String} {r : V → List V → Hp → VK → Prop} {Θ : List Dt → Own → Prop} (ho : Ev K E Ψ to Δ O (ex x O)) (ht : ∀ F H v, OwnOk K F H O → Ex F H → Dat K F v x → tyV K T v H) (ha : EvA K E Ψ tas Δ O Θ) (hr : ∀ xs O1, Θ xs O1 → BmD K E Ψ r x xs O1 Φ) :
    Ev K E Ψ (tBM K T r to tas) Δ O Φ := fun σ F H a b c e Q q => ho σ F H a b c e _ fun v F1 H1 d O1 g1 b1 k1 p1 => by
  obtain ⟨rfl, rfl⟩ := p1
  refine ⟨ht F1 H1 v b1 g1.sub k1, ha σ F1 H1 (a.mono g1.ext) b1 g1.sub (e.step g1) _ fun vs F2 H2 xs O2 g2 b2 k2 p2 => ?_⟩
  exact hr xs O2 p2 F2 H2 v vs b2 g2.sub ((e.step g1).step g2) (k1.mono g2.ext) k2 Q fun w F3 H3 d3 O3 g3 b3 k3 p3 => q w F3 H3 d3 O3 ((g1.trans g2).trans g3) b3 k3 p3
theorem ev_bm0 {T : String} {r : V → List V → Hp → VK → Prop} (ho : Ev K E Ψ to Δ O (ex x O)) (ht : ∀ F H v, OwnOk K F H O → Ex F H → Dat K F v x → tyV K T v H) (hr : BmD K E Ψ r x [] O Φ) :
    Ev K E Ψ (tBM0 K T r to) Δ O Φ := fun σ F H a b c e Q q => ho σ F H a b c e _ fun v F1 H1 d O1 g1 b1 k1 p1 => by
  obtain ⟨rfl, rfl⟩ := p1
  exact ⟨ht F1 H1 v b1 g1.sub k1, hr F1 H1 v [] b1 g1.sub (e.step g1) k1 .nil Q fun w F3 H3 d3 O3 g3 b3 k3 p3 => q w F3 H3 d3 O3 (g1.trans g3) b3 k3 p3⟩
theorem ty_list (hs : LstOf O x ds) : ∀ F H v, OwnOk K F H O → Ex F H → Dat K F v x → tyV K "list" v H := fun F H v b c k => by
  obtain ⟨a, xs, rfl, h, _⟩ := hs.read b c k
  exact .inl ⟨rfl, xs, .of h⟩
theorem ev_bmL {r : V → List V → Hp → VK → Prop} {Θ : List Dt → Own → Prop} (ho : Ev K E Ψ to Δ O (ex (.ref p) O)) (m : (p, Ow.lst ds) ∈ O) (ha : EvA K E Ψ tas Δ O Θ) (hr : ∀ xs O1, Θ xs O1 → BmD K E Ψ r (.ref p) xs O1 Φ) :
    Ev K E Ψ (tBM K "list" r to tas) Δ O Φ := ev_bmG ho (ty_list (lo_own m)) ha hr
/-- an owned list is set anew -/
theorem own_set {i : Nat} {xs : List V} (b : OwnOk K F H O) (c : Ex F H) (hi : O[i]? = some (p, .lst ds)) (l : DatL K F xs es) : Gw O F H (O.set i (p, .lst es)) F (upd H p (.lst xs)) ∧ OwnOk K F (upd H p (.lst xs)) (O.set i (p, .lst es)) := by
  obtain ⟨b2, hm⟩ := b.mut (u := .lst xs) (o' := .lst es) hi ⟨xs, upd_same, l⟩
  exact ⟨Gw.mut b c (mem_addr (List.mem_of_getElem? hi)) hm, b2⟩
theorem own_at {i : Nat} (b : OwnOk K F H O) (hi : O[i]? = some (p, .lst ds)) : ∃ xs, H p = some (.lst xs) ∧ DatL K F xs ds := (b.at_ p _ (List.mem_of_getElem? hi)).2
theorem bmd_append {i : Nat} (hi : O[i]? = some (p, .lst ds)) (hl : ds.length < 100000) : BmD K E Ψ rAppend (.ref p) [x] O (fun d O' => d = .non ∧ O' = O.set i (p, .lst (ds ++ [x]))) := fun F H v vs b c e k kl Q q => by
  cases k
  cases kl with
  | cons k1 kl =>
    cases kl
    obtain ⟨xs, h, l⟩ := own_at b hi
    obtain ⟨g, b2⟩ := own_set (xs := xs ++ [_]) b c hi (l.append (.one k1))
    exact ⟨p, xs, _, rfl, rfl, h, sz_lt (by rw [l.length]; exact hl), q .non F _ .non _ g b2 .non ⟨rfl, rfl⟩⟩
def rInsert : V → List V → Hp → VK → Prop := fun x vs H Q => ∃ (l : Addr) (xs : List V) (i : Int) (y : V), x = .ref l ∧ vs = [.int i, y] ∧ H l = some (.lst xs) ∧ xs.length < sizeLine ∧ 0 ≤ i ∧ i < 2 ^ 63 ∧ Q .non (upd H l (.lst (xs.take i.toNat ++ [y] ++ xs.drop i.toNat)))
theorem mt_ins {X : Cx} : MtR X "list.insert" rInsert := mt_insert
theorem bmd_insert {i : Nat} {n : Int} (hi : O[i]? = some (p, .lst ds)) (hl : ds.length < 100000) (h0 : 0 ≤ n) (h1 : n < 2 ^ 63) : BmD K E Ψ rInsert (.ref p) [.int n, x] O (fun d O' => d = .non ∧ O' = O.set i (p, .lst (ds.take n.toNat ++ [x] ++ ds.drop n.toNat))) := fun F H v vs b c e k kl Q q => by
  cases k
  cases kl with
  | cons k1 kl =>
    cases k1
    cases kl with
    | cons k1 kl =>
      cases kl
      obtain ⟨xs, h, l⟩ := own_at b hi
      obtain ⟨g, b2⟩ := own_set (xs := xs.take n.toNat ++ [_] ++ xs.drop n.toNat) b c hi (((l.take n.toNat).append (.one k1)).append (l.drop n.toNat))
      exact ⟨p, xs, n, _, rfl, rfl, h, sz_lt (by rw [l.length]; exact hl), h0, h1, q .non F _ .non _ g b2 .non ⟨rfl, rfl⟩⟩
theorem bmd_extend {i : Nat} (hi : O[i]? = some (p, .lst ds)) (hy : LstOf O y es) (hl : ds.length + es.length ≤ 100000) : BmD K E Ψ rExtend (.ref p) [y] O (fun d O' => d = .non ∧ O' = O.set i (p, .lst (ds ++ es))) := fun F H v vs b c e k kl Q q => by
  cases k
  cases kl with
  | cons k1 kl =>
    cases kl
    obtain ⟨xs, h, l⟩ := own_at b hi
    obtain ⟨a, ys, rfl, h2, l2⟩ := hy.read b c k1
    obtain ⟨g, b2⟩ := own_set (xs := xs ++ ys) b c hi (l.append l2)
    exact ⟨p, a, xs, ys, rfl, rfl, h, h2, by rw [l.length, l2.length]; exact sz_of hl, q .non F _ .non _ g b2 .non ⟨rfl, rfl⟩⟩
theorem bmd_reverse {i : Nat} (hi : O[i]? = some (p, .lst ds)) : BmD K E Ψ rReverse (.ref p) [] O (fun d O' => d = .non ∧ O' = O.set i (p, .lst ds.reverse)) := fun F H v vs b c e k kl Q q => by
  cases k
  cases kl
  obtain ⟨xs, h, l⟩ := own_at b hi
  obtain ⟨g, b2⟩ := own_set (xs := xs.reverse) b c hi l.reverse
  exact ⟨p, xs, rfl, rfl, h, q .non F _ .non _ g b2 .non ⟨rfl, rfl⟩⟩
theorem bmd_clear {i : Nat} (hi : O[i]? = some (p, .lst ds)) : BmD K E Ψ rClear (.ref p) [] O (fun d O' => d = .non ∧ O' = O.set i (p, .lst [])) := fun F H v vs b c e k kl Q q => by
  cases k
  cases kl
  obtain ⟨xs, h, l⟩ := own_at b hi
  obtain ⟨g, b2⟩ := own_set (xs := []) b c hi .nil
  exact ⟨p, xs, rfl, rfl, h, q .non F _ .non _ g b2 .non ⟨rfl, rfl⟩⟩
/-- p[n] = x -/
theorem sv_setL {i n : Nat} (he : Ev K E Ψ te Δ O (ex x O)) (ho : Ev K E Ψ to Δ O (ex (.ref p) O)) (hn : Ev K E Ψ ti Δ O (ex (.int (n : Int)) O)) (hi : O[i]? = some (p, .lst ds)) (hl : n < ds.length) (k : P.nx Δ (O.set i (p, .lst (ds.set n x)))) :
    Sv K E Ψ (tAsg te (gSub to ti rSetL)) Δ O P := fun σ F H D a b c e kk => he σ F H a b c e _ fun v F1 H1 d O1 g1 b1 k1 p1 => by
  obtain ⟨rfl, rfl⟩ := p1
  refine ho σ F1 H1 (a.mono g1.ext) b1 g1.sub (e.step g1) _ fun w F2 H2 d2 O2 g2 b2 k2 p2 => ?_
  obtain ⟨rfl, rfl⟩ := p2
  refine hn σ F2 H2 (a.mono (g1.trans g2).ext) b2 g2.sub ((e.step g1).step g2) _ fun w3 F3 H3 d3 O3 g3 b3 k3 p3 => ?_
  obtain ⟨rfl, rfl⟩ := p3
  cases k2
  cases k3
  obtain ⟨xs, h, l⟩ := own_at b3 hi
  obtain ⟨g, b4⟩ := own_set (xs := xs.set n v) b3 g3.sub hi (l.set n (k1.mono (g2.trans g3).ext))
  have g5 := ((g1.trans g2).trans g3).trans g
  refine ⟨p, xs, (n : Int), n, rfl, rfl, h, ?_, kk.nx σ F3 _ Δ _ g5 b4 (a.mono g5.ext) k⟩
  unfold ixN
  rw [l.length, if_pos (by omega), if_pos (by omega)]
  simp
theorem sv_setLS {i n : Nat} (he : Ev K E Ψ te Δ O (ex x O)) (ho : Ev K E Ψ to Δ O (ex (.ref p) O)) (hn : Ev K E Ψ ti Δ O (ex (.int (n : Int)) O)) (hi : O[i]? = some (p, .lst ds)) (hl : n < ds.length) (k : Sv K E Ψ u Δ (O.set i (p, .lst (ds.set n x))) P) :
    Sv K E Ψ (tSeq (tAsg te (gSub to ti rSetL)) u) Δ O P := sv_seq (M := fun Δ' O' => Sv K E Ψ u Δ' O' P) (sv_setL he ho hn hi hl k) fun _ _ m => m
/-- p[n] += e, whole numbers -/
theorem sv_augL {i n : Nat} {f : Int → Int → Int} {w w' : Int} (ho : Ev K E Ψ to Δ O (ex (.ref p) O)) (hn : Ev K E Ψ ti Δ O (ex (.int (n : Int)) O)) (he : Ev K E Ψ te Δ O (ex (.int w') O)) (hi : O[i]? = some (p, .lst ds)) (hw : ds[n]? = some (.int w)) (k : P.nx Δ (O.set i (p, .lst (ds.set n (.int (f w w')))))) :
    Sv K E Ψ (tAugS to ti te (gGetL K) (ipI f) rSetL) Δ O P := fun σ F H D a b c e kk => ho σ F H a b c e _ fun v F1 H1 d O1 g1 b1 k1 p1 => by
  obtain ⟨rfl, rfl⟩ := p1
  refine hn σ F1 H1 (a.mono g1.ext) b1 g1.sub (e.step g1) _ fun u2 F2 H2 d2 O2 g2 b2 k2 p2 => ?_
  obtain ⟨rfl, rfl⟩ := p2
  cases k1
  cases k2
  obtain ⟨xs, h, l⟩ := own_at b2 hi
  obtain ⟨vw, hvw, kvw⟩ := l.get hw
  cases kvw
  refine ⟨p, xs, n, _, rfl, rfl, .of h, hvw, ?_⟩
  refine he σ F2 H2 (a.mono (g1.trans g2).ext) b2 g2.sub ((e.step g1).step g2) _ fun w3 F3 H3 d3 O3 g3 b3 k3 p3 => ?_
  obtain ⟨rfl, rfl⟩ := p3
  cases k3
  refine ⟨w, w', rfl, rfl, ?_⟩
  obtain ⟨xs3, h3, l3⟩ := own_at b3 hi
  obtain ⟨g, b4⟩ := own_set (xs := xs3.set n (.int (f w w'))) b3 g3.sub hi (l3.set n (.int (f w w')))
  have g5 := ((g1.trans g2).trans g3).trans g
  have hl : n < ds.length := (List.getElem?_eq_some_iff.mp hw).1
  refine ⟨p, xs3, (n : Int), n, rfl, rfl, h3, ?_, kk.nx σ F3 _ Δ _ g5 b4 (a.mono g5.ext) k⟩
  unfold ixN
  rw [l3.length, if_pos (by omega), if_pos (by omega)]
  simp
theorem sv_augLS {i n : Nat} {f : Int → Int → Int} {w w' : Int} (ho : Ev K E Ψ to Δ O (ex (.ref p) O)) (hn : Ev K E Ψ ti Δ O (ex (.int (n : Int)) O)) (he : Ev K E Ψ te Δ O (ex (.int w') O)) (hi : O[i]? = some (p, .lst ds)) (hw : ds[n]? = some (.int w)) (k : Sv K E Ψ u Δ (O.set i (p, .lst (ds.set n (.int (f w w'))))) P) :
    Sv K E Ψ (tSeq (tAugS to ti te (gGetL K) (ipI f) rSetL) u) Δ O P := sv_seq (M := fun Δ' O' => Sv K E Ψ u Δ' O' P) (sv_augL ho hn he hi hw k) fun _ _ m => m
/-! texts -/
def sgn (c : Nat) : Dt := .str ⟨#[c]⟩
theorem iv_str {a : Str} (h : Ev K E Ψ te Δ O (ex (.str a) O)) : Iv K E Ψ (iStr te) Δ O (exl (a.cps.toList.map sgn) O) := fun σ F H ae b c e R q =>
  h σ F H ae b c e _ fun v F1 H1 d O1 g1 b1 k1 p1 => by
    obtain ⟨rfl, rfl⟩ := p1
    cases k1
    have w := L2.walk_str (z := a)
    refine ⟨a, rfl, q _ _ F1 H1 _ O1 g1 b1 (fun _ _ => trivial) ?_ ⟨rfl, rfl⟩⟩
    have hl : (a.cps.toList.map sgn).length = a.cps.size := by simp
    rw [hl]
    refine w.mono (fun _ z => z) fun i H x H' _ _ y => ?_
    obtain ⟨rfl, cc, hc, rfl⟩ := y
    intro F2 O2 d2 e2 e3 e4 b2
    have : (a.cps.toList.map sgn)[i]? = some (sgn cc) := by
      rw [List.getElem?_map, Array.getElem?_toList, hc]
      rfl
    rw [this] at e2
    cases e2
    exact ⟨F2, .refl e4, b2, .str _⟩
def rInC : R2 := fun x y H Q => ∃ (c : Nat) (z : Str), x = .str ⟨#[c]⟩ ∧ y = .str z ∧ Q (.bl (decide (c ∈ z.cps.toList))) H
def rNotInC : R2 := fun x y H Q => ∃ (c : Nat) (z : Str), x = .str ⟨#[c]⟩ ∧ y = .str z ∧ Q (.bl (!decide (c ∈ z.cps.toList))) H
theorem op_inC {X : Cx} : OpR X (compareOp .In) rInC := op_in_sign
theorem op_notInC {X : Cx} : OpR X (compareOp .NotIn) rNotInC := op_notIn_sign
theorem opd_inC {c : Nat} {a : Str} : OpD K E Ψ rInC (sgn c) (.str a) O (ex (.bl (decide (c ∈ a.cps.toList))) O) := opd_val fun F H v u b e k1 k2 => by
  cases k1; cases k2
  exact ⟨_, .bl _, fun Q q => ⟨c, a, rfl, rfl, q⟩⟩
theorem opd_notInC {c : Nat} {a : Str} : OpD K E Ψ rNotInC (sgn c) (.str a) O (ex (.bl (!decide (c ∈ a.cps.toList))) O) := opd_val fun F H v u b e k1 k2 => by
  cases k1; cases k2
  exact ⟨_, .bl _, fun Q q => ⟨c, a, rfl, rfl, q⟩⟩
def rJoin (K : PySem.W.Frag) : V → List V → Hp → VK → Prop := fun x xs H Q => ∃ a p, ∃ ys : List Str, x = .str a ∧ xs = [.ref p] ∧ (SqL K H p (ys.map V.str) ∨ SqT K H p (ys.map V.str)) ∧ (ys.map (·.length)).sum + ys.length * a.length ≤ 16777216 ∧ Q (.str (Txt.join a ys)) H
theorem ev_join {a : Str} {ss : List Str} (ho : Ev K E Ψ to Δ O (ex (.str a) O)) (hx : Ev K E Ψ te Δ O (ex x O)) (hs : SeqOf O x (ss.map Dt.str)) (hl : (ss.map (·.length)).sum + ss.length * a.length ≤ 16777216) :
    Ev K E Ψ (tM1 (rJoin K) to te) Δ O (ex (.str (Txt.join a ss)) O) := fun σ F H ae b c e Q q => ho σ F H ae b c e _ fun v F1 H1 d O1 g1 b1 k1 p1 => by
  obtain ⟨rfl, rfl⟩ := p1
  cases k1
  refine ⟨⟨a, rfl⟩, hx σ F1 H1 (ae.mono g1.ext) b1 g1.sub (e.step g1) _ fun w F2 H2 d2 O2 g2 b2 k2 p2 => ?_⟩
  obtain ⟨rfl, rfl⟩ := p2
  obtain ⟨pp, xs, rfl, h, l⟩ := hs.read b2 g2.sub k2
  rw [l.strs_inv] at h
  exact ⟨a, pp, ss, rfl, rfl, h, hl, q _ F2 H2 _ _ (g1.trans g2) b2 (.str _) ⟨rfl, rfl⟩⟩
/-! sorted -/
theorem DatL.ofStrs {ss : List Str} : DatL K F (ss.map V.str) (ss.map Dt.str) := by
  induction ss with
  | nil => exact .nil
  | cons n ns ih => exact .cons (.str n) ih
theorem cad_sortedS {ss : List Str} (hs : LstOf O x (ss.map Dt.str)) (hl : ss.length < 64) : CaD K E Ψ (rSortedS K) [x] O (fun d O' => ∃ q ys, d = .ref q ∧ O' = (q, .lst (ys.map Dt.str)) :: O ∧ ys.Perm ss ∧ sortedS ys = true) := fun F H vs b c e k Q q => by
  cases k with
  | cons k l =>
    cases l
    obtain ⟨a, xs, rfl, h, l⟩ := hs.read b c k
    rw [l.strs_inv] at h
    exact ⟨a, ss, rfl, .of h, hl, fun ys p h1 h2 hp => q _ F _ (.ref p) ((p, .lst (ys.map Dt.str)) :: O) (Gw.newOwn c hp) (b.newOwn c hp ⟨_, upd_same, DatL.ofStrs⟩) (.ref p) ⟨p, ys, rfl, rfl, h1, h2⟩⟩
theorem cad_list (hs : SeqOf O x ds) : CaD K E Ψ (fun xs H Q => ∃ p ys, xs = [.ref p] ∧ (SqL K H p ys ∨ SqT K H p ys) ∧ ∀ l, H l = none → Q (.ref l) (upd H l (.lst ys))) [x] O (nwl ds O) := cad_new fun F H vs b c k => by
  cases k with
  | cons k l =>
    cases l
    obtain ⟨a, xs, rfl, h, l⟩ := hs.read b c k
    exact ⟨xs, l, fun Q q => ⟨a, xs, rfl, h, q⟩⟩
/-! dicts -/
theorem ev_dnew : Ev K E Ψ (fun _ H Q => ∀ d, H d = none → Q (.ref d) (upd H d (.dK []))) Δ O (ex (.dic []) O) := fun σ F H a b c e Q q d hd =>
  q _ _ _ (.dic []) O (Gw.new c hd) (b.new c hd) (.dic upd_same .nil) ⟨rfl, rfl⟩
end
end FF

set_option Elab.async false
set_option linter.all false
set_option maxRecDepth 100000
set_option maxHeartbeats 1000000
namespace FF
open PySem PySem.Spec PyProof.Rows L2
open Evl (Ex sz_of sz_lt fresh_back)
/-! the bag that draws come from -/
def BagL (L : List Dt) : Prop := ∃ (k s i : Int) (cells : List Int), L = [.int k, .int s, .int i, .lst (cells.map .int)] ∧ 0 ≤ k ∧ 0 ≤ s ∧ s < 2147483647 ∧ 0 ≤ i ∧ (∀ z ∈ cells, 0 ≤ z) ∧ cells.length ≤ 63
section
variable {K : PySem.W.Frag} {E E' : XK} {Ψ : XPost} {F F' F1 F2 H H' H1 H2 : Hp} {O O' O1 O2 R : Own} {σ : L2.St} {Δ : Env_} {D : Ends} {P : Post}
variable {te ta tb tc to ti : TE} {tt : TT} {tas : TA} {Φ Φ' : Dt → Own → Prop} {d x y z : Dt} {ds es : List Dt} {r : R2} {t u t' : TS} {P' : Post} {M : Env_ → Own → Prop} {p b : Addr}
theorem bag_open (h : OwAt K F H b .bag) : ∃ L, BagL L ∧ OwAt K F H b (.lst L) := by
  obtain ⟨k, s, i, c, cells, e1, e2, h1, h2, h3, h4, h5, h6⟩ := h
  exact ⟨_, ⟨k, s, i, cells, rfl, h1, h2, h3, h4, h5, h6⟩, _, e1, .cons (.int k) (.cons (.int s) (.cons (.int i) (.cons (.lst e2 .ints) .nil)))⟩
theorem bag_close {L : List Dt} (hL : BagL L) (h : OwAt K F H b (.lst L)) : OwAt K F H b .bag := by
  obtain ⟨k, s, i, cells, rfl, hb⟩ := hL
  obtain ⟨xs, e, l⟩ := h
  cases l with
  | cons k1 l =>
    cases k1
    cases l with
    | cons k1 l =>
      cases k1
      cases l with
      | cons k1 l =>
        cases k1
        cases l with
        | cons k1 l =>
          cases l
          cases k1 with
          | lst e2 l2 =>
            rw [l2.ints_inv] at e2
            exact ⟨k, s, i, _, cells, e, e2, hb⟩
theorem own_bagc {L : List Dt} (hL : BagL L) (h : OwnOk K F H ((b, .lst L) :: R)) : OwnOk K F H ((b, .bag) :: R) := by
  refine ⟨h.nd, fun q o m => ?_⟩
  rcases List.mem_cons.mp m with z | m
  · cases z
    have := h.at_ b (.lst L) (List.mem_cons_self ..)
    exact ⟨this.1, bag_close hL this.2⟩
  · exact h.at_ q o (List.mem_cons_of_mem _ m)
theorem own_bago {L : List Dt} (h : OwnOk K F H ((b, .bag) :: R)) (k : OwAt K F H b (.lst L)) : OwnOk K F H ((b, .lst L) :: R) := by
  refine ⟨h.nd, fun q o m => ?_⟩
  rcases List.mem_cons.mp m with z | m
  · cases z
    exact ⟨(h.at_ b .bag (List.mem_cons_self ..)).1, k⟩
  · exact h.at_ q o (List.mem_cons_of_mem _ m)
theorem Gw.sameR (g : Gw O F H O1 F1 H1) (e : O2.map (·.1) = O1.map (·.1)) : Gw O F H O2 F1 H1 := ⟨g.ext, g.sub, g.keep, g.dom, g.old, fun a m => g.addr a (by rw [← e]; exact m)⟩
theorem Gw.sameL (g : Gw O F H O1 F1 H1) (e : O2.map (·.1) = O.map (·.1)) : Gw O2 F H O1 F1 H1 :=
  ⟨g.ext, g.sub, fun a o m => g.keep a o (by rw [← e]; exact m), g.dom, fun a q m => g.old a q (by rw [← e]; exact m), fun a m => (g.addr a m).imp (fun z => by rw [e]; exact z) id⟩
theorem XOk.sameL (h : XOk K E Ψ O F H) (e : O2.map (·.1) = O.map (·.1)) : XOk K E Ψ O2 F H := fun C d F' H' O' fvs fs g a b c k => h C d F' H' O' fvs fs (g.sameL e.symm) a b c k
theorem DOk.sameL (h : DOk K O F H D P) (e : O2.map (·.1) = O.map (·.1)) : DOk K O2 F H D P :=
  ⟨fun σ' F' H' Δ' O' g => h.nx σ' F' H' Δ' O' (g.sameL e.symm), fun v F' H' d O' g => h.rt v F' H' d O' (g.sameL e.symm), fun σ' F' H' Δ' O' g => h.bk σ' F' H' Δ' O' (g.sameL e.symm), fun σ' F' H' Δ' O' g => h.ct σ' F' H' Δ' O' (g.sameL e.symm)⟩
/-- the bag's list, to be read and written -/
theorem sv_bago (h : ∀ L, BagL L → Sv K E Ψ t Δ ((b, .lst L) :: R) P) : Sv K E Ψ t Δ ((b, .bag) :: R) P := fun σ F H D a bb c e kk => by
  obtain ⟨L, hL, k⟩ := bag_open (bb.at_ b .bag (List.mem_cons_self ..)).2
  exact h L hL σ F H D a (own_bago bb k) c (e.sameL rfl) (kk.sameL rfl)
/-- a value behind which the bag's list is a bag again -/
theorem ev_bagc {L : List Dt} {Θ : Dt → Prop} (hL : BagL L) (h : Ev K E Ψ te Δ ((b, .lst L) :: R) (fun d O' => Θ d ∧ O' = (b, .lst L) :: R)) (hΦ : ∀ d, Θ d → Φ d ((b, .bag) :: R)) : Ev K E Ψ te Δ ((b, .lst L) :: R) Φ := fun σ F H a bb c e Q q =>
  h σ F H a bb c e Q fun v F1 H1 d O1 g1 b1 k1 p1 => by
    obtain ⟨hd, rfl⟩ := p1
    exact q v F1 H1 d ((b, .bag) :: R) (g1.sameR rfl) (own_bagc hL b1) k1 (hΦ d hd)
/-- .. where a statement goes on with the bag -/
theorem sv_bagc {L : List Dt} (hL : BagL L) (h : Sv K E Ψ t Δ ((b, .bag) :: R) P) : Sv K E Ψ t Δ ((b, .lst L) :: R) P := fun σ F H D a bb c e kk =>
  h σ F H D a (own_bagc hL bb) c (e.sameL rfl) (kk.sameL rfl)
theorem hu100 {k : Nat} {A : Around} (hr : Room k A) : A.units + 100 < cLine := by have := hr.un; omega
/-! promises, often met -/
def preTake : Pre := fun ds O Φ Ψ => ∃ b n, ds = [.ref b, .int n] ∧ 0 < n ∧ n < 1073741824 ∧ O = [(b, .bag)] ∧ Φ = (fun d O' => (∃ r, d = .int r ∧ 0 ≤ r ∧ r < n) ∧ O' = [(b, .bag)]) ∧ Ψ = X0
/-- one thing of data gives one thing of data -/
def pre1 (C : Dt → Prop) (f : Dt → Dt) : Pre := fun ds O Φ Ψ => ∃ d, ds = [d] ∧ C d ∧ O = [] ∧ Φ = ex (f d) [] ∧ Ψ = X0
def pre2 (C : Dt → Dt → Prop) (f : Dt → Dt → Dt) : Pre := fun ds O Φ Ψ => ∃ d e, ds = [d, e] ∧ C d e ∧ O = [] ∧ Φ = ex (f d e) [] ∧ Ψ = X0
/-- .. drawn by a bag -/
def preB (C : List Dt → Prop) (S : List Dt → Dt → Prop) : Pre := fun ds O Φ Ψ => ∃ b es, ds = .ref b :: es ∧ C es ∧ O = [(b, .bag)] ∧ Φ = (fun d O' => S es d ∧ O' = [(b, .bag)]) ∧ Ψ = X0
theorem ev_call1 {C : Dt → Prop} {f : Dt → Dt} {ts : TA} (ha : EvA K E Ψ ts Δ O (exl [d] O)) (hc : C d) : Ev K E Ψ (tCall (mkSp K (pre1 C f)) [] E' ts) Δ O (ex (f d) O) := ev_callE ha ⟨d, rfl, hc, rfl, rfl, rfl⟩
theorem ev_call2 {C : Dt → Dt → Prop} {f : Dt → Dt → Dt} {ts : TA} (ha : EvA K E Ψ ts Δ O (exl [x, y] O)) (hc : C x y) : Ev K E Ψ (tCall (mkSp K (pre2 C f)) [] E' ts) Δ O (ex (f x y) O) := ev_callE ha ⟨x, y, rfl, hc, rfl, rfl, rfl⟩
theorem ev_take {n : Int} {ts : TA} (ha : EvA K E Ψ ts Δ ((b, .bag) :: R) (exl [.ref b, .int n] ((b, .bag) :: R))) (h0 : 0 < n) (h1 : n < 1073741824) :
    Ev K E Ψ (tCall (mkSp K preTake) [] E' ts) Δ ((b, .bag) :: R) (fun d O' => (∃ r, d = .int r ∧ 0 ≤ r ∧ r < n) ∧ O' = (b, .bag) :: R) :=
  ev_call0 ha fun ds O1 h => ⟨[(b, .bag)], R, (fun d O' => (∃ r, d = .int r ∧ 0 ≤ r ∧ r < n) ∧ O' = [(b, .bag)]), by rw [h.2]; rfl, by rw [h.1]; exact ⟨b, n, rfl, h0, h1, rfl, rfl, rfl⟩, fun d O2 p => ⟨p.1, by rw [p.2]; rfl⟩⟩
theorem ev_callB {C : List Dt → Prop} {S : List Dt → Dt → Prop} {ts : TA} (ha : EvA K E Ψ ts Δ ((b, .bag) :: R) (exl (.ref b :: ds) ((b, .bag) :: R))) (hc : C ds) :
    Ev K E Ψ (tCall (mkSp K (preB C S)) [] E' ts) Δ ((b, .bag) :: R) (fun d O' => S ds d ∧ O' = (b, .bag) :: R) :=
  ev_call0 ha fun ds' O1 h => ⟨[(b, .bag)], R, (fun d O' => S ds d ∧ O' = [(b, .bag)]), by rw [h.2]; rfl, by rw [h.1]; exact ⟨b, ds, rfl, hc, rfl, rfl, rfl⟩, fun d O2 p => ⟨p.1, by rw [p.2]; rfl⟩⟩
end
end FF
namespace FF
open PySem PySem.Spec PyProof.Rows L2
theorem cmul_l {i j : Int} (h1 : -18446744073709551616 < i) (h2 : i < 18446744073709551616) : CMul i j := .inl ⟨by omega, by omega⟩
theorem cmul_r {i j : Int} (h1 : -18446744073709551616 < j) (h2 : j < 18446744073709551616) : CMul i j := .inr ⟨by omega, by omega⟩
theorem cdiv {i j : Int} (h1 : 0 < j) (h2 : j < 1073741824) : CDiv i j := ⟨h1, h2⟩
end FF
namespace FF
open PySem PySem.Spec PyProof.Rows L2
theorem ev_intC {K : PySem.W.Frag} {E : XK} {Ψ : XPost} {Δ : Env_} {O : Own} {i j : Int} (h : i = j) : Ev K E Ψ (tC (.int i)) Δ O (ex (.int j) O) := by subst h; exact ev_int
end FF

set_option Elab.async false
set_option linter.all false
set_option maxRecDepth 100000
set_option maxHeartbeats 1000000
namespace FF
open PySem PySem.Spec PyProof.Rows L2
open Evl (Ex sz_of sz_lt fresh_back)
/-! kinds -/
def kd (d : Dt) : Bool := (tyN d).isSome
def isiInt : Dt → Bool | .int _ => true | .bl _ => true | _ => false
def isiBool : Dt → Bool | .bl _ => true | _ => false
def isiStr : Dt → Bool | .str _ => true | _ => false
def isiTup : Dt → Bool | .tup _ => true | _ => false
def isiList : Dt → Bool | .lst _ => true | _ => false
def isiDict : Dt → Bool | .dic _ => true | _ => false
section
variable {X : Cx}
def rEqU (K : PySem.W.Frag) : R2 := fun x y H Q => rEq x y H Q ∨ rEqD K x y H Q
def rNeU (K : PySem.W.Frag) : R2 := fun x y H Q => rNe x y H Q ∨ rNeD K x y H Q
theorem op_eqU (hu : X.A.units + 64 < cLine) : OpR X (compareOp .Eq) (rEqU X.K) := OpR.or op_eq (op_eqD hu)
theorem op_neU (hu : X.A.units + 64 < cLine) : OpR X (compareOp .NotEq) (rNeU X.K) := OpR.or op_ne (op_neD hu)
end
section
variable {K : PySem.W.Frag} {E E' : XK} {Ψ : XPost} {F F' F1 F2 H H' H1 H2 : Hp} {O O' O1 O2 R : Own} {σ : L2.St} {Δ : Env_} {D : Ends} {P : Post}
variable {te ta tb tc to ti : TE} {tt : TT} {tas : TA} {Φ Φ' : Dt → Own → Prop} {d x y z : Dt} {ds es : List Dt} {r : R2} {t u t' : TS} {P' : Post} {M : Env_ → Own → Prop} {p b : Addr}
theorem cad_isiInt (h : kd d = true) : CaD K E Ψ (rIsi K) [d, .ty "int"] O (ex (.bl (isiInt d)) O) := by
  cases d <;> first | exact (cad_isi (b := true) rfl (by decide +kernel)) | exact (cad_isi (b := false) rfl (by decide +kernel)) | (simp [kd, tyN] at h)
theorem cad_isiBool (h : kd d = true) : CaD K E Ψ (rIsi K) [d, .ty "bool"] O (ex (.bl (isiBool d)) O) := by
  cases d <;> first | exact (cad_isi (b := true) rfl (by decide +kernel)) | exact (cad_isi (b := false) rfl (by decide +kernel)) | (simp [kd, tyN] at h)
theorem cad_isiStr (h : kd d = true) : CaD K E Ψ (rIsi K) [d, .ty "str"] O (ex (.bl (isiStr d)) O) := by
  cases d <;> first | exact (cad_isi (b := true) rfl (by decide +kernel)) | exact (cad_isi (b := false) rfl (by decide +kernel)) | (simp [kd, tyN] at h)
theorem cad_isiTup (h : kd d = true) : CaD K E Ψ (rIsi K) [d, .ty "tuple"] O (ex (.bl (isiTup d)) O) := by
  cases d <;> first | exact (cad_isi (b := true) rfl (by decide +kernel)) | exact (cad_isi (b := false) rfl (by decide +kernel)) | (simp [kd, tyN] at h)
theorem cad_isiList (h : kd d = true) : CaD K E Ψ (rIsi K) [d, .ty "list"] O (ex (.bl (isiList d)) O) := by
  cases d <;> first | exact (cad_isi (b := true) rfl (by decide +kernel)) | exact (cad_isi (b := false) rfl (by decide +kernel)) | (simp [kd, tyN] at h)
theorem cad_isiDict (h : kd d = true) : CaD K E Ψ (rIsi K) [d, .ty "dict"] O (ex (.bl (isiDict d)) O) := by
  cases d <;> first | exact (cad_isi (b := true) rfl (by decide +kernel)) | exact (cad_isi (b := false) rfl (by decide +kernel)) | (simp [kd, tyN] at h)
/-! == of anything -/
theorem opd_eqU (hx : x.eok = true) (hy : y.eok = true) : OpD K E Ψ (rEqU K) x y O (ex (.bl (eqd x y)) O) := opd_or2 (opd_eq hx hy)
theorem opd_neU (hx : x.eok = true) (hy : y.eok = true) : OpD K E Ψ (rNeU K) x y O (ex (.bl (!eqd x y)) O) := opd_or2 (opd_ne hx hy)
theorem opd_eqUI {i j : Int} : OpD K E Ψ (rEqU K) (.int i) (.int j) O (ex (.bl (decide (i = j))) O) := opd_or2 opd_eqI
theorem opd_neUI {i j : Int} : OpD K E Ψ (rNeU K) (.int i) (.int j) O (ex (.bl (!decide (i = j))) O) := opd_or2 opd_neI
theorem opd_eqUS {a b : Str} : OpD K E Ψ (rEqU K) (.str a) (.str b) O (ex (.bl (decide (a = b))) O) := opd_or1 (opd_val fun F H v u bb c k1 k2 => by
  cases k1; cases k2
  refine ⟨_, .bl _, fun Q q => ⟨rfl, ?_⟩⟩
  have e : decide (V.str a = V.str b) = decide (a = b) := by simp
  rw [e]
  exact q)
theorem opd_neUS {a b : Str} : OpD K E Ψ (rNeU K) (.str a) (.str b) O (ex (.bl (!decide (a = b))) O) := opd_or1 (opd_val fun F H v u bb c k1 k2 => by
  cases k1; cases k2
  refine ⟨_, .bl _, fun Q q => ⟨rfl, ?_⟩⟩
  have e : decide (V.str a = V.str b) = decide (a = b) := by simp
  rw [e]
  exact q)
theorem eqd_refl (h : d.ok = true) : eqd d d = true := SeqAt.eqv_refl d.py (Dt.canLay d h)
/-- any owned object is known from now on -/
theorem Gw.frzG {o : Ow} {u : HO} (h : OwnOk K F H ((p, o) :: O)) (e : Ex F H) (hp : H p = some u) : Gw ((p, o) :: O) F H O (upd F p u) H ∧ OwnOk K (upd F p u) H O := by
  have fp : F p = none := h.none_ (by simp)
  have ee : Ex F (upd F p u) := Ex.new fp
  refine ⟨⟨ee, fun a w z => ?_, fun a o _ z => z, fun a z => z, fun a z m => ?_, fun a m => .inl (List.mem_cons_of_mem _ m)⟩, ⟨(List.nodup_cons.mp h.nd).2, fun q o m => ?_⟩⟩
  · by_cases ha : a = p
    · subst ha; rw [upd_same] at z; cases z; exact hp
    · rw [upd_ne ha] at z; exact e a w z
  · rw [upd_ne (fun q => m (by simp [q]))]
  · have hq := h.at_ q o (List.mem_cons_of_mem _ m)
    have ne : q ≠ p := fun z => by
      subst z
      exact (List.nodup_cons.mp h.nd).1 (mem_addr m)
    exact ⟨by rw [upd_ne ne]; exact hq.1, hq.2.mono ee fun _ z => z⟩
def keyD : Key → Dt | .inl i => .int i | .inr s => .str s
theorem keyD_v {v : V} {k : Key} (h : Dat K F v (keyD k)) : v = kV k := by
  cases k <;> cases h <;> rfl
/-! a dict of one entry -/
theorem ev_disp1 {tk tv : TE} {k : Key} (hk : Ev K E X0 tk Δ O (ex (keyD k) O)) (hv : Ev K E X0 tv Δ O (ex x O)) : Ev K E' Ψ (tDisp [(tk, tv)]) Δ O (ex (.dic [(k, x)]) O) := fun σ F H a bb c e Q q p hp => by
  have g0 := Gw.newOwn (O := O) (o := .dic []) (u := .dK []) c hp
  have b0 := (bb.newOwn (o := .dic []) (u := .dK []) c hp ⟨[], upd_same, .nil⟩).perm (List.perm_append_comm (l₁ := [_]))
  refine ev_frame (R := [(p, .dic [])]) hk (E' := E) (Ψ := X0) σ F _ a b0 g0.sub .zero _ fun v1 F1 H1 d1 O1 g1 b1 k1 p1 => ?_
  obtain ⟨O2, rfl, rfl, rfl⟩ := p1
  refine ev_frame (R := [(p, .dic [])]) hv (E' := E) (Ψ := X0) σ F1 H1 (a.mono g1.ext) b1 g1.sub .zero _ fun v2 F2 H2 d2 O3 g2 b2 k2 p2 => ?_
  obtain ⟨O4, rfl, rfl, rfl⟩ := p2
  have b3 := b2.perm (List.perm_append_comm (l₂ := [_]))
  have h2 : H2 p = some (.dK []) := by
    obtain ⟨_, kvs, e1, l⟩ := b3.at_ p (.dic []) (List.mem_cons_self ..)
    cases l
    exact e1
  obtain rfl := keyD_v k1
  refine ⟨h2, [(k, v2)], rfl, by show 1 ≤ 15; decide, ?_⟩
  obtain ⟨b4, hm⟩ := b3.mut (i := 0) (u := .dK [(k, v2)]) (o' := .dic [(k, d2)]) rfl ⟨_, upd_same, .cons k2 .nil⟩
  have g4 := Gw.mut (u := .dK [(k, v2)]) b3 g2.sub (p := p) (by simp) hm
  obtain ⟨g5, b5⟩ := Gw.frzG b4 g4.sub upd_same
  have gg := ((((g0.permR (List.perm_append_comm (l₁ := [_]))).trans g1).trans g2).permR (List.perm_append_comm (l₂ := [_]))).trans (g4.trans g5)
  exact q _ _ _ _ _ gg b5 (.dic upd_same (.cons (k2.mono (g4.trans g5).ext) .nil)) ⟨rfl, rfl⟩
theorem ev_dnewK : Ev K E Ψ tDNewK Δ O (ex (.dic []) O) := ev_dnew
theorem opd_pow {i j : Int} (h : CPow i j) : OpD K E Ψ (rI CPow fun i j => .int (i ^ j.toNat)) (.int i) (.int j) O (ex (.int (i ^ j.toNat)) O) := opd_I (f := fun i j => i ^ j.toNat) h
/-! how long a shown thing is at most -/
mutual
def Dt.sz : Dt → Nat
  | .non => 4 | .bl _ => 5 | .int i => (PyData.shown (.int i)).length | .str x => 10 * x.length + 2
  | .lst ds => szL ds + 5 | .tup ds => szL ds + 5 | .dic ks => szK ks + 5 | _ => 0
def szL : List Dt → Nat
  | [] => 0
  | d :: ds => d.sz + 2 + szL ds
def szK : List (Key × Dt) → Nat
  | [] => 0
  | (k, d) :: ds => (match k with | .inl i => (PyData.shown (.int i)).length | .inr s => 10 * s.length + 2) + 2 + d.sz + 2 + szK ds
end
mutual
/-- texts of signs -/
def Dt.sok : Dt → Bool
  | .non => true | .bl _ => true | .int _ => true | .str x => PyData.strOk x
  | .lst ds => sokL ds | .tup ds => sokL ds | .dic ks => sokK ks | _ => false
def sokL : List Dt → Bool
  | [] => true
  | d :: ds => d.sok && sokL ds
def sokK : List (Key × Dt) → Bool
  | [] => true
  | (k, d) :: ds => (match k with | .inl _ => true | .inr s => PyData.strOk s) && d.sok && sokK ds
end
theorem repr_len {a : Str} (h : PyData.strOk a = true) : (reprText a).length ≤ 10 * a.length + 2 := by
  refine StrLaws.reprText_len a fun c hc => ?_
  unfold PyData.strOk at h
  rw [Array.all_eq_true_iff_forall_mem] at h
  have := of_decide_eq_true (h c (by simpa using hc))
  omega
theorem sum_two : ∀ ts : List Str, (ts.map fun t => t.length + 2).sum = (ts.map (·.length)).sum + 2 * ts.length
  | [] => rfl
  | t :: ts => by
    simp only [List.map_cons, List.sum_cons, List.length_cons, sum_two ts]
    omega
theorem join_le (ts : List Str) : (Str.join ", " ts).length ≤ (ts.map (·.length)).sum + 2 * ts.length := by
  by_cases h : ts = []
  · subst h
    exact Nat.le_refl _
  · have := join_length_add ts h
    rw [← sum_two]
    unfold piled at this
    omega
theorem tuple_le (ts : List Str) : (tupleText ts).length ≤ (ts.map (·.length)).sum + 2 * ts.length + 5 := by
  have := join_le ts
  unfold tupleText
  rw [strLen_append, strLen_append]
  have e1 : ("(" : Str).length = 1 := by decide
  have e2 : ((if ts.length == 1 then ",)" else ")" : String) : Str).length ≤ 2 := by split <;> decide
  omega
theorem dict_le (ts : List Str) : (dictText ts).length ≤ (ts.map (·.length)).sum + 2 * ts.length + 5 := by
  have := join_le ts
  unfold dictText
  rw [strLen_append, strLen_append]
  have e1 : ("{" : Str).length = 1 := by decide
  have e2 : ("}" : Str).length = 1 := by decide
  omega
mutual
theorem shw_le : ∀ d : Dt, d.sok = true → d.py.shown.length ≤ d.sz
  | .non, _ => by show ("None" : Str).length ≤ 4; decide
  | .bl b, _ => by cases b <;> decide
  | .int i, _ => Nat.le_refl _
  | .str x, h => repr_len (by simpa only [Dt.sok] using h)
  | .lst ds, h => by
    have ⟨a, b⟩ := shwL_le ds (by simpa only [Dt.sok] using h)
    have := listText_len_le (PyData.shownAll (pyL ds))
    simp only [Dt.py, PyData.shown, Dt.sz]
    omega
  | .tup ds, h => by
    have ⟨a, b⟩ := shwL_le ds (by simpa only [Dt.sok] using h)
    have := tuple_le (PyData.shownAll (pyL ds))
    simp only [Dt.py, PyData.shown, Dt.sz]
    omega
  | .dic ks, h => by
    have := shwK_le ks (by simpa only [Dt.sok] using h)
    have := dict_le (PyData.shownKv (pyK ks))
    simp only [Dt.py, PyData.shown, Dt.sz]
    omega
  | .obj _ _, h => by simp [Dt.sok] at h
  | .ref _, h => by simp [Dt.sok] at h
  | .frl _, h => by simp [Dt.sok] at h
  | .ty _, h => by simp [Dt.sok] at h
theorem shwL_le : ∀ ds : List Dt, sokL ds = true → ((PyData.shownAll (pyL ds)).map (·.length)).sum + 2 * (PyData.shownAll (pyL ds)).length ≤ szL ds ∧ True
  | [], _ => by simp [pyL, PyData.shownAll, szL]
  | d :: ds, h => by
    simp only [sokL, Bool.and_eq_true] at h
    have a := shw_le d h.1
    have b := (shwL_le ds h.2).1
    refine ⟨?_, trivial⟩
    simp only [pyL, PyData.shownAll, szL, List.map_cons, List.sum_cons, List.length_cons]
    omega
theorem shwK_le : ∀ ks : List (Key × Dt), sokK ks = true → ((PyData.shownKv (pyK ks)).map (·.length)).sum + 2 * (PyData.shownKv (pyK ks)).length ≤ szK ks
  | [], _ => by simp [pyK, PyData.shownKv, szK]
  | (k, d) :: ds, h => by
    simp only [sokK, Bool.and_eq_true] at h
    have a := shw_le d h.1.2
    have b := shwK_le ds h.2
    have e : (": " : Str).length = 2 := by decide
    simp only [pyK, PyData.shownKv, szK, List.map_cons, List.sum_cons, List.length_cons, strLen_append]
    cases k with
    | inl i =>
      simp only
      omega
    | inr s =>
      have c : (PyData.shown (.str s)).length ≤ 10 * s.length + 2 := repr_len h.1.1
      simp only
      omega
end
end
end FF
namespace FF
open PySem PySem.Spec PyProof.Rows L2
theorem ev_is {K : PySem.W.Frag} {E : XK} {Ψ : XPost} {te : TE} {Δ : Env_} {O : Own} {d d' : Dt} (h : Ev K E Ψ te Δ O (ex d O)) (e : d = d') : Ev K E Ψ te Δ O (ex d' O) := e ▸ h
theorem et_is {K : PySem.W.Frag} {E : XK} {Ψ : XPost} {te : TT} {Δ : Env_} {O : Own} {d d' : Bool} (h : EvT K E Ψ te Δ O (exb d O)) (e : d = d') : EvT K E Ψ te Δ O (exb d' O) := e ▸ h
end FF
namespace FF
open PySem PySem.Spec PyProof.Rows L2
theorem sv_retE {K : PySem.W.Frag} {E : XK} {Ψ : XPost} {te : TE} {Δ : Env_} {O : Own} {d : Dt} {P : Post} (h : Ev K E Ψ te Δ O (ex d O)) (k : P.rt d O) : Sv K E Ψ (tRet te) Δ O P := sv_ret (h.imp fun d' O' p => by rw [p.1, p.2]; exact k)
end FF
namespace FF
open PySem PySem.Spec PyProof.Rows L2
theorem ev_bagn {K : PySem.W.Frag} {E : XK} {Ψ : XPost} {te : TE} {Δ : Env_} {O : Own} {L : List Dt} (hL : BagL L) (h : Ev K E Ψ te Δ O (nwl L O)) : Ev K E Ψ te Δ O (fun d O' => ∃ b, d = .ref b ∧ O' = (b, .bag) :: O) := fun σ F H a bb c e Q q =>
  h σ F H a bb c e Q fun v F1 H1 d O1 g1 b1 k1 p1 => by
    obtain ⟨b, rfl, rfl⟩ := p1
    exact q v F1 H1 (.ref b) ((b, .bag) :: O) (g1.sameR rfl) (own_bagc hL b1) k1 ⟨b, rfl, rfl⟩
/-- mixing: the same things in another order -/
def preMix : Pre := preB (fun es => ∃ ds, es = [.lst ds] ∧ ds.length ≤ 5000) (fun es d => ∃ ds fs, es = [.lst ds] ∧ d = .lst fs ∧ fs.Perm ds)
theorem ev_mix {K : PySem.W.Frag} {E E' : XK} {Ψ : XPost} {Δ : Env_} {R : Own} {b : Addr} {ts : TA} {ds : List Dt} (ha : EvA K E Ψ ts Δ ((b, .bag) :: R) (exl [.ref b, .lst ds] ((b, .bag) :: R))) (hl : ds.length ≤ 5000) :
    Ev K E Ψ (tCall (mkSp K preMix) [] E' ts) Δ ((b, .bag) :: R) (fun d O' => (∃ fs, d = .lst fs ∧ fs.Perm ds) ∧ O' = (b, .bag) :: R) :=
  (ev_callB ha ⟨ds, rfl, hl⟩).imp fun d O' p => by
    obtain ⟨⟨ds', fs, e, h1, h2⟩, h3⟩ := p
    cases e
    exact ⟨⟨fs, h1, h2⟩, h3⟩
theorem mix_perm {α : Type} (acc : List α) (x : α) (n : Nat) : (acc.take n ++ [x] ++ acc.drop n).Perm (acc ++ [x]) := by
  have h1 : (acc.take n ++ [x] ++ acc.drop n).Perm (acc.take n ++ acc.drop n ++ [x]) := by
    rw [List.append_assoc, List.append_assoc]
    exact List.Perm.append_left _ List.perm_append_comm
  rwa [List.take_append_drop] at h1
end FF
namespace FF
open PySem PySem.Spec PyProof.Rows L2
/-- what is owned, in another order -/
theorem sv_perm {K : PySem.W.Frag} {E : XK} {Ψ : XPost} {t : TS} {Δ : Env_} {O O' : Own} {P : Post} (e : O'.Perm O) (h : Sv K E Ψ t Δ O' P) : Sv K E Ψ t Δ O P := fun σ F H D a b c x k =>
  h σ F H D a (b.perm e.symm) c (fun C d F' H' O2 fvs fs g y z w u => x C d F' H' O2 fvs fs (g.permL e) y z w u)
    ⟨fun σ' F' H' Δ' O2 g => k.nx σ' F' H' Δ' O2 (g.permL e), fun v F' H' d O2 g => k.rt v F' H' d O2 (g.permL e), fun σ' F' H' Δ' O2 g => k.bk σ' F' H' Δ' O2 (g.permL e), fun σ' F' H' Δ' O2 g => k.ct σ' F' H' Δ' O2 (g.permL e)⟩
end FF
namespace FF
open PySem PySem.Spec PyProof.Rows L2
section
variable {K : PySem.W.Frag} {E E' : XK} {Ψ : XPost} {te : TE} {Δ : Env_} {O O1 R : Own} {Φ Φ' : Dt → Own → Prop} {ds : List Dt} {x : Dt} {b : Addr}
theorem ev_slG {r : V → Option Int → Option Int → Hp → VK → Prop} {tl th : TO} {lo hi : Option Int} (ha : Ev K E Ψ te Δ O Φ) (hl : ∀ d O1, Φ d O1 → EvO K E Ψ tl Δ O1 lo) (hh : ∀ d O1, Φ d O1 → EvO K E Ψ th Δ O1 hi) (hr : ∀ d O1, Φ d O1 → SlD K E Ψ r d lo hi O1 Φ') : Ev K E Ψ (tSl r te tl th) Δ O Φ' :=
  fun σ F H a bb c e Q q => ha σ F H a bb c e _ fun v F1 H1 d O1 g1 b1 k1 p1 =>
    hl d O1 p1 σ F1 H1 (a.mono g1.ext) b1 g1.sub (e.step g1) _ fun F2 H2 g2 b2 => hh d O1 p1 σ F2 H2 (a.mono (g1.trans g2).ext) b2 g2.sub ((e.step g1).step g2) _ fun F3 H3 g3 b3 =>
      hr d O1 p1 F3 H3 v b3 g3.sub (((e.step g1).step g2).step g3) (k1.mono (g2.trans g3).ext) Q fun w F4 H4 d4 O4 g4 b4 k4 p4 => q w F4 H4 d4 O4 (((g1.trans g2).trans g3).trans g4) b4 k4 p4
/-- a written list read at a drawn place -/
theorem ev_pick {ta tb : TE} {n : Int} (ha : Ev K E Ψ ta Δ ((b, .bag) :: R) (ex (.lst ds) ((b, .bag) :: R))) (hb : Ev K E Ψ tb Δ ((b, .bag) :: R) (fun d O' => (∃ r, d = .int r ∧ 0 ≤ r ∧ r < n) ∧ O' = (b, .bag) :: R)) (hn : n ≤ ds.length) :
    Ev K E Ψ (tOp (rIx K) ta tb) Δ ((b, .bag) :: R) (fun d O' => d ∈ ds ∧ O' = (b, .bag) :: R) :=
  ev_opG (Θ := fun _ _ d O' => (∃ r, d = .int r ∧ 0 ≤ r ∧ r < n) ∧ O' = (b, .bag) :: R) ha (fun d O1 p => by rw [p.2]; exact hb) fun d O1 y O2 p q => by
    obtain ⟨⟨r, rfl, h0, h1⟩, rfl⟩ := q
    obtain ⟨rfl, rfl⟩ := p
    have hr : r.toNat < ds.length := by omega
    exact (opd_ixI so_lst h0 (List.getElem?_eq_getElem hr)).imp fun d' O' p => ⟨by rw [p.1]; exact List.getElem_mem _, p.2⟩
end
end FF

set_option Elab.async false
set_option linter.all false
set_option maxRecDepth 100000
set_option maxHeartbeats 4000000
namespace LK
open PySem PySem.Spec PyProof.Rows L2 FF
open Evl (Ex)
def topS (i : Nat) : Stmt := PySem.Challenge.pw_factflows_k11_kinds.main.body.getD i (.Pass ⟨0, 0, 0, 0⟩)
abbrev s_is_integer : Stmt := topS 3
theorem sc_is_integer : FnScope ["thing"] ["thing"] (defScope s_is_integer) := ⟨rfl, rfl, rfl, by decide +kernel, rfl, by decide +kernel, by decide +kernel⟩
abbrev s_is_number : Stmt := topS 4
theorem sc_is_number : FnScope ["many", "thing"] ["many", "thing"] (defScope s_is_number) := ⟨rfl, rfl, rfl, by decide +kernel, rfl, by decide +kernel, by decide +kernel⟩
abbrev s_is_name : Stmt := topS 5
theorem sc_is_name : FnScope ["thing", "letter"] ["thing"] (defScope s_is_name) := ⟨rfl, rfl, rfl, by decide +kernel, rfl, by decide +kernel, by decide +kernel⟩
abbrev s_is_word : Stmt := topS 6
theorem sc_is_word : FnScope ["thing", "name"] ["thing"] (defScope s_is_word) := ⟨rfl, rfl, rfl, by decide +kernel, rfl, by decide +kernel, by decide +kernel⟩
abbrev s_l_bag : Stmt := topS 8
theorem sc_l_bag : FnScope ["_law_script", "_law_cell"] ["_law_script"] (defScope s_l_bag) := ⟨rfl, rfl, rfl, by decide +kernel, rfl, by decide +kernel, by decide +kernel⟩
abbrev s_l_take : Stmt := topS 9
theorem sc_l_take : FnScope ["_law_bag_here", "_law_many", "_law_cell", "_law_mixed_here", "_law_drawn", "_law_early", "_law_second"] ["_law_bag_here", "_law_many"] (defScope s_l_take) := ⟨rfl, rfl, rfl, by decide +kernel, rfl, by decide +kernel, by decide +kernel⟩
abbrev s_l_alike : Stmt := topS 10
theorem sc_l_alike : FnScope ["_law_found", "_law_due"] ["_law_found", "_law_due"] (defScope s_l_alike) := ⟨rfl, rfl, rfl, by decide +kernel, rfl, by decide +kernel, by decide +kernel⟩
abbrev s_l_mixed : Stmt := topS 11
theorem sc_l_mixed : FnScope ["_law_bag_here", "_law_things_here", "_law_found", "_law_thing"] ["_law_bag_here", "_law_things_here"] (defScope s_l_mixed) := ⟨rfl, rfl, rfl, by decide +kernel, rfl, by decide +kernel, by decide +kernel⟩
abbrev s_l_names : Stmt := topS 12
theorem sc_l_names : FnScope ["_law_bag_here", "_law_many", "_law_words", "_law_some"] ["_law_bag_here", "_law_many"] (defScope s_l_names) := ⟨rfl, rfl, rfl, by decide +kernel, rfl, by decide +kernel, by decide +kernel⟩
abbrev s_l_odd : Stmt := topS 13
theorem sc_l_odd : FnScope ["_law_bag_here", "_law_deep", "_law_k", "_law_some"] ["_law_bag_here"] (defScope s_l_odd) := ⟨rfl, rfl, rfl, by decide +kernel, rfl, by decide +kernel, by decide +kernel⟩
abbrev s_l_is_plain : Stmt := topS 14
theorem sc_l_is_plain : FnScope ["_law_thing"] ["_law_thing"] (defScope s_l_is_plain) := ⟨rfl, rfl, rfl, by decide +kernel, rfl, by decide +kernel, by decide +kernel⟩
abbrev s_l_is_name : Stmt := topS 15
theorem sc_l_is_name : FnScope ["_law_thing", "_law_sign"] ["_law_thing"] (defScope s_l_is_name) := ⟨rfl, rfl, rfl, by decide +kernel, rfl, by decide +kernel, by decide +kernel⟩
abbrev s_l_is_word : Stmt := topS 16
theorem sc_l_is_word : FnScope ["_law_thing", "_law_part"] ["_law_thing"] (defScope s_l_is_word) := ⟨rfl, rfl, rfl, by decide +kernel, rfl, by decide +kernel, by decide +kernel⟩
abbrev s_l_things : Stmt := topS 17
theorem sc_l_things : FnScope ["_law_bag_here", "_law_texts", "_law_name", "_law_word", "_law_at", "_law_odd_here", "_law_some", "_law_k", "_law_letters", "_law_text", "_law_far", "_law_j"] ["_law_bag_here"] (defScope s_l_things) := ⟨rfl, rfl, rfl, by decide +kernel, rfl, by decide +kernel, by decide +kernel⟩
abbrev s_law : Stmt := topS 18
theorem sc_law : FnScope ["_law_script", "_law_bag_here", "_law_thing", "_law_many", "_law_shown", "_law_plain", "_law_due", "_law_again", "_law_told"] ["_law_script"] (defScope s_law) := ⟨rfl, rfl, rfl, by decide +kernel, rfl, by decide +kernel, by decide +kernel⟩
structure Top (K : PySem.W.Frag) (mg : Str → Option Value) : Prop where
  d_is_integer : FF.DefAt K mg "is_integer" "is_integer" s_is_integer ["thing"]
  d_is_number : FF.DefAt K mg "is_number" "is_number" s_is_number ["many", "thing"]
  d_is_name : FF.DefAt K mg "is_name" "is_name" s_is_name ["thing"]
  d_is_word : FF.DefAt K mg "is_word" "is_word" s_is_word ["thing"]
  d_l_bag : FF.DefAt K mg "_law_bag" "_law_bag" s_l_bag ["_law_script"]
  d_l_take : FF.DefAt K mg "_law_take" "_law_take" s_l_take ["_law_bag_here", "_law_many"]
  d_l_alike : FF.DefAt K mg "_law_alike" "_law_alike" s_l_alike ["_law_found", "_law_due"]
  d_l_mixed : FF.DefAt K mg "_law_mixed" "_law_mixed" s_l_mixed ["_law_bag_here", "_law_things_here"]
  d_l_names : FF.DefAt K mg "_law_names" "_law_names" s_l_names ["_law_bag_here", "_law_many"]
  d_l_odd : FF.DefAt K mg "_law_odd" "_law_odd" s_l_odd ["_law_bag_here"]
  d_l_is_plain : FF.DefAt K mg "_law_is_plain" "_law_is_plain" s_l_is_plain ["_law_thing"]
  d_l_is_name : FF.DefAt K mg "_law_is_name" "_law_is_name" s_l_is_name ["_law_thing"]
  d_l_is_word : FF.DefAt K mg "_law_is_word" "_law_is_word" s_l_is_word ["_law_thing"]
  d_l_things : FF.DefAt K mg "_law_things" "_law_things" s_l_things ["_law_bag_here"]
  z_isinstance : mg "isinstance" = none
  z_len : mg "len" = none
  z_all : mg "all" = none
  z_abs : mg "abs" = none
  z_int : mg "int" = none
  z_repr : mg "repr" = none
  z_range : mg "range" = none
  z_sorted : mg "sorted" = none
  z_list : mg "list" = none
  z_bool : mg "bool" = none
  z_str : mg "str" = none
  z_tuple : mg "tuple" = none
  g_LETTERS : ∃ t, mg "LETTERS" = some (.str "abcdefghijklmnopqrstuvwxyz" t)
  g_LONGEST_NAME : ∃ t, mg "LONGEST_NAME" = some (.int 8 t)
end LK

set_option Elab.async false
set_option linter.all false
set_option maxRecDepth 100000
set_option maxHeartbeats 200000
namespace LK
open PySem PySem.Spec PyProof.Rows L2 FF
open Evl (Ex)
local macro_rules | `(tactic| walk_at "ev") => `(tactic| repeat' (first
  | (with_reducible exact ev_int) | (with_reducible exact ev_bl) | (with_reducible exact ev_str) | (with_reducible exact ev_non) | (with_reducible exact ev_ty)
  | ((with_reducible apply ev_var); exact rfl) | (with_reducible exact ea_nil)
  | (with_reducible apply ev_op) | (with_reducible apply ev_un) | (with_reducible apply ev_cb) | (with_reducible apply ea_cons)
  | (with_reducible refine' ev_andV ?_ (fun _ => ?_)) | (with_reducible refine' ev_orV ?_ (fun _ => ?_)) | (with_reducible apply ev_notV)
  | ((with_reducible apply cad_isiInt); first | assumption | rfl) | ((with_reducible apply cad_isiBool); first | assumption | rfl) | ((with_reducible apply cad_isiStr); first | assumption | rfl) | ((with_reducible apply cad_isiTup); first | assumption | rfl) | ((with_reducible apply cad_isiList); first | assumption | rfl) | ((with_reducible apply cad_isiDict); first | assumption | rfl)
  | (with_reducible apply et_test) | (with_reducible apply et_B) | (with_reducible apply et_not)
  | (with_reducible exact opd_plusI) | (with_reducible exact opd_I0) | (with_reducible exact opd_B0) | (with_reducible exact opd_eqUI) | (with_reducible exact opd_neUI) | (with_reducible exact opd_eqUS) | (with_reducible exact opd_neUS) | (with_reducible exact und_neg)
  | (with_reducible exact cad_int) | (with_reducible exact cad_abs)
  | ((with_reducible apply opd_ix (so_own (List.mem_cons_self ..))); exact rfl) | (with_reducible exact cad_len so_lst)
  | ((with_reducible apply ev_intC); first | rfl | omega) | (with_reducible apply opd_timesI) | (with_reducible apply opd_I)
  | (with_reducible apply ev_lst) | (with_reducible apply ev_tup) | (with_reducible exact ev_dnewK) | ((with_reducible show List.length _ ≤ 100000); first | decide | simp) | ((with_reducible apply opd_pow); exact ⟨by decide, by decide, by decide⟩)
  | ((with_reducible apply cmul_l) <;> omega) | ((with_reducible apply cmul_r) <;> omega) | ((with_reducible apply cdiv) <;> omega)
  | ((with_reducible show (0 : Int) < _); omega)))
local macro_rules | `(tactic| walk_at "nm") => `(tactic| (try simp only [List.set_cons_zero, List.set_cons_succ, List.nil_append, List.cons_append]))
local macro_rules | `(tactic| walk_at "go") => `(tactic| (simp only [Cx.nox, Cx.wish, cxOf, startD, List.length_cons, List.length_nil, List.map_cons, List.map_nil, Nat.reduceAdd, Nat.reduceSub, List.replicate_succ, List.replicate_zero, List.cons_append, List.nil_append]))

section
variable {P : Program} {w : World} {K : PySem.W.Frag} {mg : Str → Option Value} {base : Heap}
theorem mod_in {a m : Int} (h : 0 < m) : 0 ≤ a % m ∧ a % m < m := ⟨Int.emod_nonneg a (by omega), Int.emod_lt_of_pos a h⟩
theorem ok_l_take (T : Top K mg) : HasG P w K mg base CX0 1 "_law_take" ["_law_bag_here", "_law_many"] (mkSp K preTake) := by
  refine hasG_of T.d_l_take sc_l_take ?_ ?_
  · rintro ds O Φ Ψ ⟨b, n, rfl, _⟩
    rfl
  · intro f cdv A outer s H E g hr
    have z_len := T.z_len
    have z_int := T.z_int
    refine ⟨_, (pss_cons (ps_if (pt_cmpR (op_eqU (hu64 hr)) (pe_ix ix_seq (pv 0) pe_int (fun _ _ => rfl)) pe_int (nomark _))
       (pss_cons (pset 2 sc_l_take.nd pe_int)
       (pss_cons (ps_if (pt_cmpR op_lt (pe_ix ix_seq (pv 0) pe_int (fun _ _ => rfl)) (pe_callB call_len (by rfl) z_len (by decide +kernel) (pa_cons (pe_ix ix_seq (pv 0) pe_int (fun _ _ => rfl)) pa_nil)) (nomark _))
       (pss_one (pset 2 sc_l_take.nd (pe_ix ix_seq (pe_ix ix_seq (pv 0) pe_int (fun _ _ => rfl)) (pe_ix ix_seq (pv 0) pe_int (fun _ _ => rfl)) (fun _ _ => rfl))))
       pss_nil)
       (pss_cons (ps_augS (pv 0) pe_int get_list pe_int ip_add set_list)
       (pss_cons (ps_if (pt_cmpR op_ge (pv 2) pe_int (nomark _))
       (pss_one (ps_asg (pv 2) (pg_sub (pv 0) pe_int set_list)))
       pss_nil)
       (pss_cons (pset 3 sc_l_take.nd (pe_op op_plus (pe_op op_plus (pe_op op_times (pe_ix ix_seq (pv 0) pe_int (fun _ _ => rfl)) pe_int) (pe_op op_mod (pe_callTy call_int1 (by rfl) z_int (by decide +kernel) (pa_cons (pv 2) pa_nil)) pe_int)) (pe_op op_times pe_int (pe_ix ix_seq (pv 0) pe_int (fun _ _ => rfl)))))
       (pss_one (ps_asg (pe_op op_mod (pe_callTy call_int1 (by rfl) z_int (by decide +kernel) (pa_cons (pv 3) pa_nil)) pe_int) (pg_sub (pv 0) pe_int set_list))))))))
       pss_nil)
       (pss_cons (ps_if (pt_cmpR op_gt (pe_ix ix_seq (pv 0) pe_int (fun _ _ => rfl)) pe_int (nomark _))
       (pss_cons (pset 4 sc_l_take.nd (pe_op op_mod (pe_callTy call_int1 (by rfl) z_int (by decide +kernel) (pa_cons (pe_ix ix_seq (pv 0) pe_int (fun _ _ => rfl)) pa_nil)) (pv 1)))
       (pss_cons (ps_asg (pe_op op_fdiv (pe_callTy call_int1 (by rfl) z_int (by decide +kernel) (pa_cons (pe_ix ix_seq (pv 0) pe_int (fun _ _ => rfl)) pa_nil)) (pv 1)) (pg_sub (pv 0) pe_int set_list))
       (pss_one (ps_ret (pv 4)))))
       pss_nil)
       (pss_cons (pset 5 sc_l_take.nd (pe_op op_mod (pe_callTy call_int1 (by rfl) z_int (by decide +kernel) (pa_cons (pe_op op_times (pe_op op_plus (pe_ix ix_seq (pv 0) pe_int (fun _ _ => rfl)) pe_int) pe_int) pa_nil)) pe_int))
       (pss_cons (pset 6 sc_l_take.nd (pe_op op_mod (pe_callTy call_int1 (by rfl) z_int (by decide +kernel) (pa_cons (pe_op op_times (pe_op op_mod (pe_callTy call_int1 (by rfl) z_int (by decide +kernel) (pa_cons (pe_op op_times (pv 5) (pv 5)) pa_nil)) pe_int) pe_int) pa_nil)) pe_int))
       (pss_cons (ps_if (pt_cmpR op_gt (pv 1) pe_int (nomark _))
       (pss_one (ps_ret (pe_op op_mod (pe_callTy call_int1 (by rfl) z_int (by decide +kernel) (pa_cons (pe_op op_plus (pe_op op_times (pv 6) pe_int) (pv 5)) pa_nil)) (pv 1))))
       pss_nil)
       (pss_one (ps_ret (pe_op op_mod (pe_callTy call_int1 (by rfl) z_int (by decide +kernel) (pa_cons (pe_op op_fdiv (pv 6) pe_int) pa_nil)) (pv 1))))))))), ?_⟩
    rintro _ _ _ _ ⟨b, n, rfl, h0, h1, rfl, rfl, rfl⟩
    walk_at "go"
    refine sv_bago fun L hL => ?_
    refine sv_seq (M := fun Δ' O' => ∃ L x2 x3, BagL L ∧ O' = [(b, .lst L)] ∧ Δ' = [some (.ref b), some (.int n), x2, x3, none, none, none]) ?_ ?_
    · obtain ⟨k, s', i, cells, rfl, hk, hs0, hs1, hi0, hcells, hcl⟩ := hL
      refine' sv_if (by walk_at "ev") (fun _ => ?_) (fun _ => ?_)
      · refine sv_setE ev_int ?_
        refine sv_seq (M := fun Δ' O' => ∃ z : Int, 0 ≤ z ∧ O' = [(b, .lst [.int k, .int s', .int i, .lst (cells.map .int)])] ∧ Δ' = [some (.ref b), some (.int n), some (.int z), none, none, none, none]) ?_ ?_
        · refine' sv_if (by walk_at "ev") (fun hlt => ?_) (fun _ => ?_)
          · have hlt' := of_decide_eq_true hlt
            rw [List.length_map] at hlt'
            have hget : (cells.map Dt.int)[i.toNat]? = some (.int cells[i.toNat]) := by
              rw [List.getElem?_map, List.getElem?_eq_getElem (by omega)]
              rfl
            refine sv_set (Φ := ex (.int cells[i.toNat]) _) ?_ fun d O' p => ⟨cells[i.toNat], hcells _ (List.getElem_mem _), p.2, by rw [p.1]; rfl⟩
            refine' ev_op (y := .int i) (by walk_at "ev") (by walk_at "ev") (opd_ixI so_lst hi0 hget)
          · exact sv_next ⟨0, by omega, rfl, rfl⟩
        · rintro Δ' O' ⟨z, hz, rfl, rfl⟩
          refine' sv_augLS (n := 2) (i := 0) (by walk_at "ev") (by walk_at "ev") (by walk_at "ev") rfl rfl ?_
          walk_at "nm"
          refine sv_seq (M := fun Δ' O' => ∃ k' : Int, 0 ≤ k' ∧ O' = [(b, .lst [.int k', .int s', .int (i + 1), .lst (cells.map .int)])] ∧ Δ' = [some (.ref b), some (.int n), some (.int z), none, none, none, none]) ?_ ?_
          · refine' sv_if (by walk_at "ev") (fun _ => ?_) (fun _ => ?_)
            · refine' sv_setL (x := .int z) (n := 0) (i := 0) (by walk_at "ev") (by walk_at "ev") (by walk_at "ev") rfl (by simp) ?_
              exact ⟨z, hz, rfl, rfl⟩
            · exact sv_next ⟨k, hk, rfl, rfl⟩
          · rintro Δ' O' ⟨k', hk', rfl, rfl⟩
            refine' sv_setE (by walk_at "ev") ?_
            walk_at "nm"
            refine' sv_setL (n := 1) (i := 0) (by walk_at "ev") (by walk_at "ev") (by walk_at "ev") rfl (by simp) ?_
            exact ⟨_, _, _, ⟨k', _, i + 1, cells, rfl, hk', (mod_in (by decide)).1, (mod_in (by decide)).2, by omega, hcells, hcl⟩, rfl, rfl⟩
      · exact sv_next ⟨_, none, none, ⟨k, s', i, cells, rfl, hk, hs0, hs1, hi0, hcells, hcl⟩, rfl, rfl⟩
    · rintro Δ' O' ⟨L, x2, x3, hL, rfl, rfl⟩
      obtain ⟨k, s', i, cells, rfl, hk, hs0, hs1, hi0, hcells, hcl⟩ := id hL
      refine' sv_ifS (by walk_at "ev") (fun _ => ?_) (fun _ => ?_)
      · refine sv_assoc ?_
        refine' sv_setE (by walk_at "ev") ?_
        walk_at "nm"
        refine sv_assoc ?_
        refine' sv_setLS (n := 0) (i := 0) (by walk_at "ev") (by walk_at "ev") (by walk_at "ev") rfl (by simp) ?_
        walk_at "nm"
        refine sv_retS (sv_ret ?_)
        refine' ev_bagc (Θ := fun d => d = .int (k % n)) ⟨k / n, s', i, cells, rfl, Int.ediv_nonneg hk (by omega), hs0, hs1, hi0, hcells, hcl⟩ (by walk_at "ev") ?_
        rintro d rfl
        exact ⟨⟨_, rfl, mod_in h0⟩, rfl⟩
      · refine sv_nextS ?_
        refine' sv_setE (by walk_at "ev") ?_
        walk_at "nm"
        refine' sv_setE (by walk_at "ev") ?_
        walk_at "nm"
        refine' sv_ifS (by walk_at "ev") (fun _ => ?_) (fun _ => ?_)
        · refine sv_retS (sv_ret ?_)
          refine' ev_bagc (Θ := fun d => ∃ r, d = .int r ∧ 0 ≤ r ∧ r < n) hL ?_ (fun d hd => ⟨hd, rfl⟩)
          refine' (show Ev _ _ _ _ _ _ (ex _ _) by walk_at "ev").imp fun d O' p => ⟨⟨_, p.1, mod_in h0⟩, p.2⟩
        · refine sv_nextS (sv_ret ?_)
          refine' ev_bagc (Θ := fun d => ∃ r, d = .int r ∧ 0 ≤ r ∧ r < n) hL ?_ (fun d hd => ⟨hd, rfl⟩)
          refine' (show Ev _ _ _ _ _ _ (ex _ _) by walk_at "ev").imp fun d O' p => ⟨⟨_, p.1, mod_in h0⟩, p.2⟩
end
end LK

set_option Elab.async false
set_option linter.all false
set_option maxRecDepth 100000
set_option maxHeartbeats 400000
namespace LK
open PySem PySem.Spec PyProof.Rows L2 FF
open Evl (Ex)
local macro_rules | `(tactic| walk_at "ev") => `(tactic| repeat' (first
  | (with_reducible exact ev_int) | (with_reducible exact ev_bl) | (with_reducible exact ev_str) | (with_reducible exact ev_non) | (with_reducible exact ev_ty)
  | ((with_reducible apply ev_var); exact rfl) | (with_reducible exact ea_nil)
  | (with_reducible apply ev_op) | (with_reducible apply ev_un) | (with_reducible apply ev_cb) | (with_reducible apply ea_cons)
  | (with_reducible refine' ev_andV ?_ (fun _ => ?_)) | (with_reducible refine' ev_orV ?_ (fun _ => ?_)) | (with_reducible apply ev_notV)
  | ((with_reducible apply cad_isiInt); first | assumption | rfl) | ((with_reducible apply cad_isiBool); first | assumption | rfl) | ((with_reducible apply cad_isiStr); first | assumption | rfl) | ((with_reducible apply cad_isiTup); first | assumption | rfl) | ((with_reducible apply cad_isiList); first | assumption | rfl) | ((with_reducible apply cad_isiDict); first | assumption | rfl)
  | (with_reducible apply et_test) | (with_reducible apply et_B) | (with_reducible apply et_not)
  | (with_reducible exact opd_plusI) | (with_reducible exact opd_I0) | (with_reducible exact opd_B0) | (with_reducible exact opd_eqUI) | (with_reducible exact opd_neUI) | (with_reducible exact opd_eqUS) | (with_reducible exact opd_neUS) | (with_reducible exact und_neg)
  | (with_reducible exact cad_int) | (with_reducible exact cad_abs)
  | ((with_reducible apply opd_ix (so_own (List.mem_cons_self ..))); exact rfl) | (with_reducible exact cad_len so_lst)
  | ((with_reducible apply ev_intC); first | rfl | omega) | (with_reducible apply opd_timesI) | (with_reducible apply opd_I)
  | (with_reducible apply ev_lst) | (with_reducible apply ev_tup) | (with_reducible exact ev_dnewK) | ((with_reducible show List.length _ ≤ 100000); first | decide | simp) | ((with_reducible apply opd_pow); exact ⟨by decide, by decide, by decide⟩)
  | ((with_reducible apply cmul_l) <;> omega) | ((with_reducible apply cmul_r) <;> omega) | ((with_reducible apply cdiv) <;> omega)
  | ((with_reducible show (0 : Int) < _); omega)))
local macro_rules | `(tactic| walk_at "nm") => `(tactic| (try simp only [List.set_cons_zero, List.set_cons_succ, List.nil_append, List.cons_append]))
local macro_rules | `(tactic| walk_at "go") => `(tactic| (simp only [Cx.nox, Cx.wish, cxOf, startD, List.length_cons, List.length_nil, List.map_cons, List.map_nil, Nat.reduceAdd, Nat.reduceSub, List.replicate_succ, List.replicate_zero, List.cons_append, List.nil_append]))

section
variable {P : Program} {w : World} {K : PySem.W.Frag} {mg : Str → Option Value} {base : Heap}
def isInt (d : Dt) : Bool := isiInt d && !isiBool d
theorem len1 {C : Dt → Prop} {f : Dt → Dt} {x : Str} : ∀ ds O Φ Ψ, pre1 C f ds O Φ Ψ → ds.length = [x].length := by
  rintro ds O Φ Ψ ⟨d, rfl, _⟩
  rfl
theorem len2 {C : Dt → Dt → Prop} {f : Dt → Dt → Dt} {x y : Str} : ∀ ds O Φ Ψ, pre2 C f ds O Φ Ψ → ds.length = [x, y].length := by
  rintro ds O Φ Ψ ⟨d, e, rfl, _⟩
  rfl
abbrev spInt : Pre := pre1 (fun d => kd d = true) (fun d => .bl (isInt d))
theorem ok_is_integer (T : Top K mg) : HasG P w K mg base CX0 1 "is_integer" ["thing"] (mkSp K spInt) := by
  refine hasG_of T.d_is_integer sc_is_integer len1 ?_
  intro f cdv A outer s H E g hr
  have z_isinstance := T.z_isinstance
  have z_int := T.z_int
  have z_bool := T.z_bool
  refine ⟨_, (pss_one (ps_ret (pe_and (pe_callB call_isi (by rfl) z_isinstance (by decide +kernel) (pa_cons (pv 0) (pa_cons (pe_bltn (v := .ty "int") (u := .type "int") (by rfl) z_int (by decide +kernel) rfl) pa_nil))) (pe_one (pe_not (pe_callB call_isi (by rfl) z_isinstance (by decide +kernel) (pa_cons (pv 0) (pa_cons (pe_bltn (v := .ty "bool") (u := .type "bool") (by rfl) z_bool (by decide +kernel) rfl) pa_nil)))))))), ?_⟩
  rintro _ _ _ _ ⟨d, rfl, hd, rfl, rfl, rfl⟩
  walk_at "go"
  refine' sv_retE (d := .bl (isiInt d && !isiBool d)) (by walk_at "ev") ⟨rfl, rfl⟩
theorem ok_l_is_plain (T : Top K mg) : HasG P w K mg base CX0 1 "_law_is_plain" ["_law_thing"] (mkSp K spInt) := by
  refine hasG_of T.d_l_is_plain sc_l_is_plain len1 ?_
  intro f cdv A outer s H E g hr
  have z_isinstance := T.z_isinstance
  have z_int := T.z_int
  have z_bool := T.z_bool
  refine ⟨_, (pss_one (ps_ret (pe_and (pe_callB call_isi (by rfl) z_isinstance (by decide +kernel) (pa_cons (pv 0) (pa_cons (pe_bltn (v := .ty "int") (u := .type "int") (by rfl) z_int (by decide +kernel) rfl) pa_nil))) (pe_one (pe_not (pe_callB call_isi (by rfl) z_isinstance (by decide +kernel) (pa_cons (pv 0) (pa_cons (pe_bltn (v := .ty "bool") (u := .type "bool") (by rfl) z_bool (by decide +kernel) rfl) pa_nil)))))))), ?_⟩
  rintro _ _ _ _ ⟨d, rfl, hd, rfl, rfl, rfl⟩
  walk_at "go"
  refine' sv_retE (d := .bl (isiInt d && !isiBool d)) (by walk_at "ev") ⟨rfl, rfl⟩
def inRange (n d : Dt) : Bool := match n, d with | .int n, .int i => decide (0 ≤ i) && decide (i < n) | _, _ => false
abbrev spNum : Pre := pre2 (fun n d => kd d = true ∧ ∃ i, n = .int i) (fun n d => .bl (isInt d && inRange n d))
theorem ok_is_number (T : Top K mg) : HasG P w K mg base CX0 2 "is_number" ["many", "thing"] (mkSp K spNum) := by
  refine hasG_of T.d_is_number sc_is_number len2 ?_
  intro f cdv A outer s H E g hr
  have h_is_integer := ok_is_integer (P := P) (w := w) (base := base) T
  refine ⟨_, (pss_one (ps_ret (pe_and (pe_hasG h_is_integer g (hr.mono (by decide)) (by rfl) pass0 (pa_cons (pv 1) pa_nil)) (pe_one (pe_chain op_le op_lt pe_int (pv 1) (pv 0)))))), ?_⟩
  rintro _ _ _ _ ⟨n, d, rfl, ⟨hd, i, rfl⟩, rfl, rfl, rfl⟩
  walk_at "go"
  refine sv_ret ?_
  refine' ev_andV (b := isInt d) (ev_call1 (by walk_at "ev") hd) (fun hi => ?_)
  cases d with
  | int j =>
    refine' ev_chain (x := .int 0) (y := .int j) (by walk_at "ev") (by walk_at "ev") (by walk_at "ev") (fun _ => by walk_at "ev") (fun _ => by walk_at "ev")
  | _ => simp [isInt, isiInt, isiBool] at hi
/-! names -/
def LET : List Nat := ("abcdefghijklmnopqrstuvwxyz" : Str).cps.toList
def inLet : Dt → Bool
  | .str s => s.cps.toList.all fun c => decide (c ∈ LET)
  | _ => false
theorem inLet_sgn (c : Nat) : inLet (sgn c) = decide (c ∈ LET) := by simp [inLet, sgn]
def signs (x : Str) : List Dt := x.cps.toList.map sgn
def isName : Dt → Bool
  | .str x => (decide ((1 : Int) ≤ (x.length : Int)) && decide ((x.length : Int) ≤ 8)) && (signs x).all inLet
  | _ => false
/-- what is_name may be asked of -/
def nOk (d : Dt) : Prop := kd d = true ∧ d.sok = true ∧ d.sz ≤ 100000
theorem nOk_len {x : Str} (h : nOk (.str x)) : x.length ≤ 10000 := by
  have := h.2.2
  simp only [Dt.sz] at this
  omega
abbrev spName : Pre := pre1 nOk (fun d => .bl (isName d))
theorem ok_is_name (T : Top K mg) : HasG P w K mg base CX0 1 "is_name" ["thing"] (mkSp K spName) := by
  refine hasG_of T.d_is_name sc_is_name len1 ?_
  intro f cdv A outer s H E g hr
  have z_isinstance := T.z_isinstance
  have z_str := T.z_str
  have z_len := T.z_len
  have z_all := T.z_all
  obtain ⟨tl, g_LETTERS⟩ := T.g_LETTERS
  obtain ⟨tn, g_LONGEST_NAME⟩ := T.g_LONGEST_NAME
  refine ⟨_, (pss_cons (ps_if (PW.pt (pw_or (pt_not (pt_val (pe_callB call_isi (by rfl) z_isinstance (by decide +kernel) (pa_cons (pv 0) (pa_cons (pe_bltn (v := .ty "str") (u := .type "str") (by rfl) z_str (by decide +kernel) rfl) pa_nil))))) (pw_or1 (pt_not (pt_chain op_le op_le pe_int (pe_callB call_len (by rfl) z_len (by decide +kernel) (pa_cons (pv 0) pa_nil)) (pe_glob (v := .int 8) (by rfl) g_LONGEST_NAME ⟨_, rfl⟩))))))
       (pss_one (ps_ret pe_bl))
       pss_nil)
       (pss_one (ps_ret (pe_callB (cr_all rfl) (by rfl) z_all (by decide +kernel) (pa_cons (pe_lc (own := [("letter", 1)]) rfl sc_is_name.nd (pi_str (pv 0)) (blkOk_by (own := [("letter", 1)]) (N := ["thing", "letter"]) (sc := defScope s_is_name) (by decide +kernel)) (fun _ _ _ _ _ => (pgn 1 sc_is_name.nd)) (fun _ _ _ _ _ => pts_nil) (fun _ _ _ _ _ => (pe_cmpR op_inC (pv 1) (pe_glob (v := .str "abcdefghijklmnopqrstuvwxyz") (by rfl) g_LETTERS ⟨_, rfl⟩) (by rfl)))) pa_nil))))), ?_⟩
  rintro _ _ _ _ ⟨d, rfl, hd, rfl, rfl, rfl⟩
  walk_at "go"
  have hk : kd d = true := hd.1
  cases d with
  | str x =>
    have hl := nOk_len hd
    refine' sv_ifS (b := !true || !(decide ((1 : Int) ≤ (x.length : Int)) && decide ((x.length : Int) ≤ 8))) ?_ (fun h => ?_) (fun h => ?_)
    · refine' et_or (et_not (et_B (ev_cb (by walk_at "ev") (cad_isiStr hk)))) (fun _ => et_not ?_)
      refine' et_test (ev_chain (x := .int 1) (y := .int (x.length : Int)) (by walk_at "ev") (ev_cb (by walk_at "ev") (cad_lenS (by omega))) (by walk_at "ev") (fun _ => by walk_at "ev") (fun _ => by walk_at "ev"))
    · refine sv_retS (sv_retE ev_bl ⟨?_, rfl⟩)
      simp only [Bool.not_true, Bool.false_or, Bool.not_eq_true'] at h
      simp [isName, h]
    · refine sv_nextS ?_
      simp only [Bool.not_true, Bool.false_or, Bool.not_eq_false'] at h
      refine' sv_retE (d := .bl ((signs x).all inLet)) ?_ ⟨by simp only [isName, h, Bool.true_and], rfl⟩
      refine' ev_cb (ea_cons (ev_frz (ev_lcM (E' := E0) (fun d => .bl (inLet d)) (iv_str (by walk_at "ev")) ?_ (fun d _ => gv_name 1) (by simp) (fun d hd => ?_))) ea_nil) ?_
      · simp; have : x.cps.size = x.length := rfl; omega
      · obtain ⟨c, _, rfl⟩ := List.mem_map.mp hd
        refine' ev_is (ev_op (x := sgn c) (y := .str "abcdefghijklmnopqrstuvwxyz") (by walk_at "ev") (by walk_at "ev") opd_inC) (by rw [inLet_sgn]; rfl)
      · have e : (x.cps.toList.map sgn).map (fun d => Dt.bl (inLet d)) = ((signs x).map inLet).map Dt.bl := by simp [signs]
        rw [e]
        have := @cad_all K E X0 [] (.lst (((signs x).map inLet).map Dt.bl)) ((signs x).map inLet) lo_lst
        rwa [List.all_map] at this
  | _ =>
    refine' sv_ifS (b := true) ?_ (fun _ => sv_retS (sv_retE ev_bl ⟨rfl, rfl⟩)) (fun h => by cases h)
    refine' et_orG (et_not (et_B (ev_cb (by walk_at "ev") (cad_isiStr hk)))) (fun O1 p => ?_) (fun O1 p => ⟨rfl, p.2⟩)
    exact absurd p.1 (by simp [isiStr])
def isWord : Dt → Bool
  | .tup ds => ds.all isName
  | _ => false
/-- what is_word may be asked of -/
def wOk (d : Dt) : Prop := nOk d ∧ ∀ ds, d = .tup ds → ∀ e ∈ ds, kd e = true ∧ e.sok = true
theorem sz_mem : ∀ {ds : List Dt} {e : Dt}, e ∈ ds → e.sz ≤ szL ds
  | d :: ds, e, h => by
    simp only [szL]
    rcases List.mem_cons.mp h with rfl | h
    · omega
    · have := sz_mem h
      omega
theorem wOk_mem {ds : List Dt} {e : Dt} (h : wOk (.tup ds)) (m : e ∈ ds) : nOk e := by
  have a := h.2 ds rfl e m
  have b := sz_mem m
  have c := h.1.2.2
  simp only [Dt.sz] at c
  exact ⟨a.1, a.2, by omega⟩
theorem wOk_len {ds : List Dt} (h : wOk (.tup ds)) : ds.length ≤ 50000 := by
  have : ∀ es : List Dt, 2 * es.length ≤ szL es := fun es => by
    induction es with
    | nil => simp [szL]
    | cons a b ih => simp only [szL, List.length_cons]; omega
  have a := this ds
  have c := h.1.2.2
  simp only [Dt.sz] at c
  omega
abbrev spWord : Pre := pre1 wOk (fun d => .bl (isWord d))
theorem ok_is_word (T : Top K mg) : HasG P w K mg base CX0 2 "is_word" ["thing"] (mkSp K spWord) := by
  refine hasG_of T.d_is_word sc_is_word len1 ?_
  intro f cdv A outer s H E g hr
  have z_isinstance := T.z_isinstance
  have z_tuple := T.z_tuple
  have z_all := T.z_all
  have h_is_name := ok_is_name (P := P) (w := w) (base := base) T
  refine ⟨_, (pss_one (ps_ret (pe_and (pe_callB call_isi (by rfl) z_isinstance (by decide +kernel) (pa_cons (pv 0) (pa_cons (pe_bltn (v := .ty "tuple") (u := .type "tuple") (by rfl) z_tuple (by decide +kernel) rfl) pa_nil))) (pe_one (pe_callB (cr_all rfl) (by rfl) z_all (by decide +kernel) (pa_cons (pe_lc (own := [("name", 1)]) rfl sc_is_word.nd (pi_tup (pv 0)) (blkOk_by (own := [("name", 1)]) (N := ["thing", "name"]) (sc := defScope s_is_word) (by decide +kernel)) (fun _ _ _ _ _ => (pgn 1 sc_is_word.nd)) (fun _ _ _ _ _ => pts_nil) (fun _ _ _ _ _ => (pe_hasG h_is_name g (hr.mono (by decide)) (by rfl) pass0 (pa_cons (pv 1) pa_nil)))) pa_nil)))))), ?_⟩
  rintro _ _ _ _ ⟨d, rfl, hd, rfl, rfl, rfl⟩
  walk_at "go"
  have hk : kd d = true := hd.1.1
  cases d with
  | tup ds =>
    refine' sv_retE (d := .bl (true && ds.all isName)) ?_ ⟨by simp [isWord], rfl⟩
    refine' ev_andV (ev_cb (by walk_at "ev") (cad_isiTup hk)) (fun _ => ?_)
    refine' ev_cb (ea_cons (ev_frz (ev_lcM (E' := E0) (fun d => .bl (isName d)) (iv_tupE (by walk_at "ev")) (wOk_len hd) (fun d _ => gv_name 1) (by simp) (fun d m => ?_))) ea_nil) ?_
    · exact ev_call1 (by walk_at "ev") (wOk_mem hd m)
    · have e : ds.map (fun d => Dt.bl (isName d)) = (ds.map isName).map Dt.bl := by simp
      rw [e]
      have := @cad_all K E X0 [] (.lst ((ds.map isName).map Dt.bl)) (ds.map isName) lo_lst
      rwa [List.all_map] at this
  | _ =>
    refine sv_ret ?_
    refine' ev_andVG (Φ1 := exb false []) ((ev_cb (by walk_at "ev") (cad_isiTup hk)).imp fun d O' p => ⟨_, p.1, rfl, p.2⟩) (fun O1 p => ?_) (fun O1 p => ⟨rfl, p.2⟩)
    exact absurd p.1 (by simp)
/-! the law's own looks -/
theorem eqd_nil (ds : List Dt) : eqd (.lst ds) (.lst []) = ds.isEmpty := by cases ds <;> rfl
theorem filter_nil {α : Type} (p : α → Bool) (l : List α) : (l.filter fun x => !p x).isEmpty = l.all p := by
  induction l with
  | nil => rfl
  | cons a l ih =>
    cases h : p a <;> simp [h, ih]
theorem sgn_eok {x : Str} (h : PyData.strOk x = true) {p : Dt → Bool} : (Dt.lst ((signs x).filter p)).eok = true := by
  have hs : ∀ d ∈ signs x, d.ok = true ∧ d.py.depth = 0 := fun d m => by
    obtain ⟨c, hc, rfl⟩ := List.mem_map.mp m
    unfold PyData.strOk at h
    rw [Array.all_eq_true_iff_forall_mem] at h
    refine ⟨?_, rfl⟩
    have := h c (by simpa using hc)
    simp only [sgn, Dt.ok, PyData.strOk]
    simpa using this
  have dep : ∀ es : List Dt, (∀ d ∈ es, d.ok = true ∧ d.py.depth = 0) → okL es = true ∧ PyData.depthAll (pyL es) = 0 := fun es hh => by
    induction es with
    | nil => exact ⟨rfl, rfl⟩
    | cons a b ih =>
      have h1 := hh a (List.mem_cons_self ..)
      have h2 := ih fun d m => hh d (List.mem_cons_of_mem _ m)
      simp only [okL, pyL, PyData.depthAll, h1.1, h2.1, h1.2, h2.2]
      exact ⟨rfl, rfl⟩
  have q := dep ((signs x).filter p) fun d m => hs d (List.mem_filter.mp m).1
  simp only [Dt.eok, Dt.ok, Dt.py, PyData.depth, q.1, q.2, Bool.true_and]
  rfl
theorem ok_l_is_name (T : Top K mg) : HasG P w K mg base CX0 1 "_law_is_name" ["_law_thing"] (mkSp K spName) := by
  refine hasG_of T.d_l_is_name sc_l_is_name len1 ?_
  intro f cdv A outer s H E g hr
  have z_isinstance := T.z_isinstance
  have z_str := T.z_str
  have z_len := T.z_len
  refine ⟨_, (pss_cons (ps_if (PW.pt (pw_or (pt_not (pt_val (pe_callB call_isi (by rfl) z_isinstance (by decide +kernel) (pa_cons (pv 0) (pa_cons (pe_bltn (v := .ty "str") (u := .type "str") (by rfl) z_str (by decide +kernel) rfl) pa_nil))))) (pw_or1 (pt_not (pt_chain op_le op_le pe_int (pe_callB call_len (by rfl) z_len (by decide +kernel) (pa_cons (pv 0) pa_nil)) pe_int)))))
       (pss_one (ps_ret pe_bl))
       pss_nil)
       (pss_one (ps_ret (pe_cmpR (op_eqU (hu64 hr)) (pe_lc (own := [("_law_sign", 1)]) rfl sc_l_is_name.nd (pi_str (pv 0)) (blkOk_by (own := [("_law_sign", 1)]) (N := ["_law_thing", "_law_sign"]) (sc := defScope s_l_is_name) (by decide +kernel)) (fun _ _ _ _ _ => (pgn 1 sc_l_is_name.nd)) (fun _ _ _ _ _ => (pts_one (pt_cmpR op_notInC (pv 1) pe_str (by rfl)))) (fun _ _ _ _ _ => (pv 1))) (pe_lst pa_nil) (nomark _))))), ?_⟩
  rintro _ _ _ _ ⟨d, rfl, hd, rfl, rfl, rfl⟩
  walk_at "go"
  have hk : kd d = true := hd.1
  cases d with
  | str x =>
    have hl := nOk_len hd
    refine' sv_ifS (b := !true || !(decide ((1 : Int) ≤ (x.length : Int)) && decide ((x.length : Int) ≤ 8))) ?_ (fun h => ?_) (fun h => ?_)
    · refine' et_or (et_not (et_B (ev_cb (by walk_at "ev") (cad_isiStr hk)))) (fun _ => et_not ?_)
      refine' et_test (ev_chain (x := .int 1) (y := .int (x.length : Int)) (by walk_at "ev") (ev_cb (by walk_at "ev") (cad_lenS (by omega))) (by walk_at "ev") (fun _ => by walk_at "ev") (fun _ => by walk_at "ev"))
    · refine sv_retS (sv_retE ev_bl ⟨?_, rfl⟩)
      simp only [Bool.not_true, Bool.false_or, Bool.not_eq_true'] at h
      simp [isName, h]
    · refine sv_nextS ?_
      simp only [Bool.not_true, Bool.false_or, Bool.not_eq_false'] at h
      refine' sv_retE (d := .bl (eqd (.lst ((signs x).filter fun d => !inLet d)) (.lst []))) ?_ ⟨by rw [eqd_nil, filter_nil]; simp only [isName, h, Bool.true_and], rfl⟩
      refine' ev_op (ev_is (ev_frz (ev_lcF (E' := E0) (fun d => !inLet d) id (iv_str (by walk_at "ev")) ?_ (fun d _ => gv_name 1) (by simp) (fun d hd => ?_) (fun d hd _ => by walk_at "ev"))) ?_) (ev_lst ea_nil (by simp)) (opd_eqU (sgn_eok hd.2.1) (by decide))
      · simp; have : x.cps.size = x.length := rfl; omega
      · obtain ⟨c, _, rfl⟩ := List.mem_map.mp hd
        refine' et_is (et_test (ev_op (x := sgn c) (y := .str "abcdefghijklmnopqrstuvwxyz") (by walk_at "ev") (by walk_at "ev") opd_notInC)) (by rw [inLet_sgn]; rfl)
      · simp [signs]
  | _ =>
    refine' sv_ifS (b := true) ?_ (fun _ => sv_retS (sv_retE ev_bl ⟨rfl, rfl⟩)) (fun h => by cases h)
    refine' et_orG (et_not (et_B (ev_cb (by walk_at "ev") (cad_isiStr hk)))) (fun O1 p => ?_) (fun O1 p => ⟨rfl, p.2⟩)
    exact absurd p.1 (by simp [isiStr])
end
end LK

set_option Elab.async false
set_option linter.all false
set_option maxRecDepth 100000
set_option maxHeartbeats 400000
namespace LK
open PySem PySem.Spec PyProof.Rows L2 FF
open Evl (Ex)
local macro_rules | `(tactic| walk_at "ev") => `(tactic| repeat' (first
  | (with_reducible exact ev_int) | (with_reducible exact ev_bl) | (with_reducible exact ev_str) | (with_reducible exact ev_non) | (with_reducible exact ev_ty)
  | ((with_reducible apply ev_var); exact rfl) | (with_reducible exact ea_nil)
  | (with_reducible apply ev_op) | (with_reducible apply ev_un) | (with_reducible apply ev_cb) | (with_reducible apply ea_cons)
  | (with_reducible refine' ev_andV ?_ (fun _ => ?_)) | (with_reducible refine' ev_orV ?_ (fun _ => ?_)) | (with_reducible apply ev_notV)
  | ((with_reducible apply cad_isiInt); first | assumption | rfl) | ((with_reducible apply cad_isiBool); first | assumption | rfl) | ((with_reducible apply cad_isiStr); first | assumption | rfl) | ((with_reducible apply cad_isiTup); first | assumption | rfl) | ((with_reducible apply cad_isiList); first | assumption | rfl) | ((with_reducible apply cad_isiDict); first | assumption | rfl)
  | (with_reducible apply et_test) | (with_reducible apply et_B) | (with_reducible apply et_not)
  | (with_reducible exact opd_plusI) | (with_reducible exact opd_I0) | (with_reducible exact opd_B0) | (with_reducible exact opd_eqUI) | (with_reducible exact opd_neUI) | (with_reducible exact opd_eqUS) | (with_reducible exact opd_neUS) | (with_reducible exact und_neg)
  | (with_reducible exact cad_int) | (with_reducible exact cad_abs)
  | ((with_reducible apply opd_ix (so_own (List.mem_cons_self ..))); exact rfl) | (with_reducible exact cad_len so_lst)
  | ((with_reducible apply ev_intC); first | rfl | omega) | (with_reducible apply opd_timesI) | (with_reducible apply opd_I)
  | (with_reducible apply ev_lst) | (with_reducible apply ev_tup) | (with_reducible exact ev_dnewK) | ((with_reducible show List.length _ ≤ 100000); first | decide | simp) | ((with_reducible apply opd_pow); exact ⟨by decide, by decide, by decide⟩)
  | ((with_reducible apply cmul_l) <;> omega) | ((with_reducible apply cmul_r) <;> omega) | ((with_reducible apply cdiv) <;> omega)
  | ((with_reducible show (0 : Int) < _); omega)))
local macro_rules | `(tactic| walk_at "nm") => `(tactic| (try simp only [List.set_cons_zero, List.set_cons_succ, List.nil_append, List.cons_append]))
local macro_rules | `(tactic| walk_at "go") => `(tactic| (simp only [Cx.nox, Cx.wish, cxOf, startD, List.length_cons, List.length_nil, List.map_cons, List.map_nil, Nat.reduceAdd, Nat.reduceSub, List.replicate_succ, List.replicate_zero, List.cons_append, List.nil_append]))

section
variable {P : Program} {w : World} {K : PySem.W.Frag} {mg : Str → Option Value} {base : Heap}
/-- .. of the law's is_word: its parts are compared, too -/
def wOk2 (d : Dt) : Prop := wOk d ∧ ∀ ds, d = .tup ds → ∀ e ∈ ds, e.ok = true ∧ e.py.depth ≤ 60
theorem filt_eok {ds : List Dt} (h : ∀ e ∈ ds, e.ok = true ∧ e.py.depth ≤ 60) (p : Dt → Bool) : (Dt.lst (ds.filter p)).eok = true := by
  have dep : ∀ es : List Dt, (∀ d ∈ es, d.ok = true ∧ d.py.depth ≤ 60) → okL es = true ∧ PyData.depthAll (pyL es) ≤ 60 := fun es hh => by
    induction es with
    | nil => exact ⟨rfl, Nat.zero_le _⟩
    | cons a b ih =>
      have h1 := hh a (List.mem_cons_self ..)
      have h2 := ih fun d m => hh d (List.mem_cons_of_mem _ m)
      simp only [okL, pyL, PyData.depthAll, h1.1, h2.1]
      exact ⟨rfl, Nat.max_le.mpr ⟨h1.2, h2.2⟩⟩
  have q := dep (ds.filter p) fun d m => h d (List.mem_filter.mp m).1
  have q2 := q.2
  simp only [Dt.eok, Dt.ok, Dt.py, PyData.depth, q.1, Bool.true_and, decide_eq_true_eq]
  omega
abbrev spWord2 : Pre := pre1 wOk2 (fun d => .bl (isWord d))
theorem ok_l_is_word (T : Top K mg) : HasG P w K mg base CX0 2 "_law_is_word" ["_law_thing"] (mkSp K spWord2) := by
  refine hasG_of T.d_l_is_word sc_l_is_word len1 ?_
  intro f cdv A outer s H E g hr
  have z_isinstance := T.z_isinstance
  have z_tuple := T.z_tuple
  have h_l_is_name := ok_l_is_name (P := P) (w := w) (base := base) T
  refine ⟨_, (pss_one (ps_ret (pe_and (pe_callB call_isi (by rfl) z_isinstance (by decide +kernel) (pa_cons (pv 0) (pa_cons (pe_bltn (v := .ty "tuple") (u := .type "tuple") (by rfl) z_tuple (by decide +kernel) rfl) pa_nil))) (pe_one (pe_cmpR (op_eqU (hu64 hr)) (pe_lc (own := [("_law_part", 1)]) rfl sc_l_is_word.nd (pi_tup (pv 0)) (blkOk_by (own := [("_law_part", 1)]) (N := ["_law_thing", "_law_part"]) (sc := defScope s_l_is_word) (by decide +kernel)) (fun _ _ _ _ _ => (pgn 1 sc_l_is_word.nd)) (fun _ _ _ _ _ => (pts_one (pt_not (pt_val (pe_hasG h_l_is_name g (hr.mono (by decide)) (by rfl) pass0 (pa_cons (pv 1) pa_nil)))))) (fun _ _ _ _ _ => (pv 1))) (pe_lst pa_nil) (nomark _)))))), ?_⟩
  rintro _ _ _ _ ⟨d, rfl, hd, rfl, rfl, rfl⟩
  walk_at "go"
  have hk : kd d = true := hd.1.1.1
  cases d with
  | tup ds =>
    refine' sv_retE (d := .bl (true && eqd (.lst (ds.filter fun d => !isName d)) (.lst []))) ?_ ⟨by rw [eqd_nil, filter_nil]; simp [isWord], rfl⟩
    refine' ev_andV (ev_cb (by walk_at "ev") (cad_isiTup hk)) (fun _ => ?_)
    refine' ev_op (ev_is (ev_frz (ev_lcF (E' := E0) (fun d => !isName d) id (iv_tupE (by walk_at "ev")) (wOk_len hd.1) (fun d _ => gv_name 1) (by simp) (fun d m => ?_) (fun d m _ => by walk_at "ev"))) ?_) (ev_lst ea_nil (by simp)) (opd_eqU (filt_eok (hd.2 ds rfl) _) (by decide))
    · exact et_not (et_B (ev_call1 (by walk_at "ev") (wOk_mem hd.1 m)))
    · simp
  | _ =>
    refine sv_ret ?_
    refine' ev_andVG (Φ1 := exb false []) ((ev_cb (by walk_at "ev") (cad_isiTup hk)).imp fun d O' p => ⟨_, p.1, rfl, p.2⟩) (fun O1 p => ?_) (fun O1 p => ⟨rfl, p.2⟩)
    exact absurd p.1 (by simp)
/-! both told and due alike -/
def aOk (d : Dt) : Prop := d.eok = true ∧ d.rok = true ∧ d.sok = true ∧ d.sz ≤ 100000
theorem aOk_shw {d : Dt} (h : aOk d) : (shw d).length ≤ 100000 := Nat.le_trans (shw_le d h.2.2.1) h.2.2.2
abbrev spAlike : Pre := pre2 (fun x y => aOk x ∧ aOk y) (fun x y => .bl (eqd x y && decide (shw x = shw y)))
theorem ok_l_alike (T : Top K mg) : HasG P w K mg base CX0 1 "_law_alike" ["_law_found", "_law_due"] (mkSp K spAlike) := by
  refine hasG_of T.d_l_alike sc_l_alike len2 ?_
  intro f cdv A outer s H E g hr
  have z_repr := T.z_repr
  refine ⟨_, (pss_one (ps_ret (pe_and (pe_cmpR (op_eqU (hu64 hr)) (pv 0) (pv 1) (nomark _)) (pe_one (pe_cmpR (op_eqU (hu64 hr)) (pe_callB (call_reprD g (hu100 hr)) (by rfl) z_repr (by decide +kernel) (pa_cons (pv 0) pa_nil)) (pe_callB (call_reprD g (hu100 hr)) (by rfl) z_repr (by decide +kernel) (pa_cons (pv 1) pa_nil)) (nomark _)))))), ?_⟩
  rintro _ _ _ _ ⟨x, y, rfl, ⟨hx, hy⟩, rfl, rfl, rfl⟩
  walk_at "go"
  refine' sv_retE (d := .bl (eqd x y && decide (shw x = shw y))) ?_ ⟨rfl, rfl⟩
  refine' ev_andV (ev_op (by walk_at "ev") (by walk_at "ev") (opd_eqU hx.1 hy.1)) (fun _ => ?_)
  exact ev_op (ev_cb (ea_cons (by walk_at "ev") ea_nil) (cad_repr hx.2.1 (aOk_shw hx))) (ev_cb (ea_cons (by walk_at "ev") ea_nil) (cad_repr hy.2.1 (aOk_shw hy))) opd_eqUS
/-! the bag itself -/
def preBag : Pre := fun ds O Φ Ψ => ∃ ns : List Int, ds = [.frl (ns.map .int)] ∧ ns.length ≤ 63 ∧ O = [] ∧ Φ = (fun d O' => ∃ b, d = .ref b ∧ O' = [(b, .bag)]) ∧ Ψ = X0
def absI (i : Int) : Int := if i < 0 then -i else i
theorem ok_l_bag (T : Top K mg) : HasG P w K mg base CX0 1 "_law_bag" ["_law_script"] (mkSp K preBag) := by
  refine hasG_of T.d_l_bag sc_l_bag ?_ ?_
  · rintro ds O Φ Ψ ⟨d, rfl, _⟩
    rfl
  intro f cdv A outer s H E g hr
  have z_abs := T.z_abs
  refine ⟨_, (pss_one (ps_ret (pe_lst (pa_cons pe_int (pa_cons pe_int (pa_cons pe_int (pa_cons (pe_lc (own := [("_law_cell", 1)]) rfl sc_l_bag.nd (pi_list (pe_slice sl_list (pv 0) po_none (po_some pe_int))) (blkOk_by (own := [("_law_cell", 1)]) (N := ["_law_script", "_law_cell"]) (sc := defScope s_l_bag) (by decide +kernel)) (fun _ _ _ _ _ => (pgn 1 sc_l_bag.nd)) (fun _ _ _ _ _ => pts_nil) (fun _ _ _ _ _ => (pe_callB call_abs (by rfl) z_abs (by decide +kernel) (pa_cons (pv 1) pa_nil)))) pa_nil))))))), ?_⟩
  rintro _ _ _ _ ⟨ns, rfl, hl, rfl, rfl, rfl⟩
  walk_at "go"
  have hcut : FF.cutD (ns.map Dt.int) none (some 63) = ns.map Dt.int := by
    unfold FF.cutD
    rw [HT.sIx_none, show HT.sIx (ns.map Dt.int).length (ns.map Dt.int).length (some 63) = min 63 (ns.map Dt.int).length from HT.sIx_nat _ _ 63]
    exact List.take_of_length_le (by rw [List.length_drop, List.length_map]; omega)
  refine sv_ret (ev_bagn (L := [.int 0, .int 1234567891, .int 0, .lst ((ns.map absI).map .int)]) ⟨0, 1234567891, 0, ns.map absI, rfl, by decide, by decide, by decide, by decide, ?_, by simpa using hl⟩ ?_)
  · intro z hz
    obtain ⟨i, _, rfl⟩ := List.mem_map.mp hz
    unfold absI
    split <;> omega
  refine' ev_lstN (ea_cons ev_int (ea_cons ev_int (ea_cons ev_int (ea_cons ?_ ea_nil)))) (by simp)
  refine' ev_is (ev_frz (ev_lcM (E' := E0) (fun d => match d with | .int i => .int (absI i) | d => d) (iv_listE (ev_frz (ev_sl (x := .frl (ns.map .int)) (lo := none) (hi := some 63) (by walk_at "ev") eo_none (eo_some ev_int) sld_frl))) ?_ (fun d _ => gv_name 1) (by simp) (fun d m => ?_))) ?_
  · rw [hcut]; simp; omega
  · rw [hcut] at m
    obtain ⟨i, _, rfl⟩ := List.mem_map.mp m
    exact ev_cb (ea_cons (by walk_at "ev") ea_nil) cad_abs
  · rw [hcut]; simp
theorem lenB {C : List Dt → Prop} {S : List Dt → Dt → Prop} {ps : List Str} (h : ∀ es, C es → es.length + 1 = ps.length) : ∀ ds O Φ Ψ, preB C S ds O Φ Ψ → ds.length = ps.length := by
  rintro ds O Φ Ψ ⟨b, es, rfl, hc, _⟩
  exact h es hc
theorem ok_l_mixed (T : Top K mg) : HasG P w K mg base CX0 2 "_law_mixed" ["_law_bag_here", "_law_things_here"] (mkSp K preMix) := by
  refine hasG_of T.d_l_mixed sc_l_mixed (lenB (by rintro es ⟨ds, rfl, _⟩; rfl)) ?_
  intro f cdv A outer s H E g hr
  have z_len := T.z_len
  have h_l_take := ok_l_take (P := P) (w := w) (base := base) T
  refine ⟨_, (pss_cons (pset 2 sc_l_mixed.nd (pe_lst pa_nil))
       (pss_cons (ps_for PassesOwn.never rfl (pi_list (pv 1)) (pgn 3 sc_l_mixed.nd)
       (pss_one (ps_expr (pe_bm PySem.F.plainAttrs_list PySem.F.slot_list_insert PySem.F.type_list_insert mt_ins (pv 2) (pa_cons (pe_hasG h_l_take g (hr.mono (by decide)) (by rfl) pass0 (pa_cons (pv 0) (pa_cons (pe_op op_plus (pe_callB call_len (by rfl) z_len (by decide +kernel) (pa_cons (pv 2) pa_nil)) pe_int) pa_nil))) (pa_cons (pv 3) pa_nil))))))
       (pss_one (ps_ret (pv 2))))), ?_⟩
  rintro _ _ _ _ ⟨b, _, rfl, ⟨ds, rfl, hl⟩, rfl, rfl, rfl⟩
  walk_at "go"
  refine sv_setS (ev_lstN ea_nil (by simp)) ?_
  rintro _ _ ⟨p, rfl, rfl⟩
  walk_at "nm"
  refine sv_perm (List.Perm.swap (p, Ow.lst []) (b, Ow.bag) []) ?_
  refine sv_forS (T := fun d Δ => Δ.set 3 (some d)) (js := [3]) (iv_listE (by walk_at "ev")) (fun i d _ => gv_name 3) (fun i Δ' O' => ∃ acc x3, Δ' = [some (.ref b), some (.lst ds), some (.ref p), x3] ∧ O' = [(b, .bag), (p, .lst acc)] ∧ acc.Perm (ds.take i)) ⟨[], none, rfl, rfl, by simp⟩ ?_ ?_
  · rintro i d _ O' hd ⟨acc, x3, rfl, rfl, hp⟩
    walk_at "nm"
    have hlen : acc.length ≤ 5000 := by rw [hp.length_eq, List.length_take]; omega
    refine' sv_drop (Φ := fun d' O' => ∃ acc', O' = [(b, .bag), (p, .lst acc')] ∧ acc'.Perm (ds.take (i + 1))) ?_ (fun d' O' q => ?_)
    · refine' ev_bmL (Θ := fun xs O1 => (∃ n, xs = [.int n, d] ∧ 0 ≤ n ∧ n < 10000) ∧ O1 = [(b, .bag), (p, .lst acc)]) (by walk_at "ev") (List.mem_cons_of_mem _ (List.mem_cons_self ..)) ?_ ?_
      · refine' ea_consG (Θ := fun _ _ => exl [d] [(b, .bag), (p, .lst acc)]) (ev_take (R := [(p, .lst acc)]) (n := (acc.length : Int) + 1) ?_ (by omega) (by omega)) ?_ ?_
        · refine' ea_cons (by walk_at "ev") (ea_cons ?_ ea_nil)
          refine' ev_op (ev_cb (by walk_at "ev") (cad_len (so_own (List.mem_cons_of_mem _ (List.mem_cons_self ..))))) (by walk_at "ev") opd_plusI
        · rintro x O1 ⟨_, rfl⟩
          walk_at "ev"
        · rintro x O1 ys O2 ⟨⟨r, rfl, h0, h1⟩, rfl⟩ ⟨rfl, rfl⟩
          exact ⟨⟨r, rfl, h0, by omega⟩, rfl⟩
      · rintro xs O1 ⟨⟨n, rfl, h0, h1⟩, rfl⟩ F2 H2 v vs k1 k2 k3 k4 k5 Q q
        refine bmd_insert (i := 1) rfl (by omega) h0 (by omega) F2 H2 v vs k1 k2 k3 k4 k5 Q fun w F' H' d' O' g b1 kk pp => q w F' H' d' O' g b1 kk ⟨_, pp.2, ?_⟩
        rw [List.take_add_one, hd]
        exact (mix_perm acc d n.toNat).trans (hp.append_right _)
    · obtain ⟨acc', rfl, hp'⟩ := q
      exact ⟨acc', some d, rfl, rfl, hp'⟩
  · rintro _ O' ⟨acc, x3, rfl, rfl, hp⟩
    rw [List.take_length] at hp
    refine sv_frz (p := p) (i := 2) (ds := acc) (by simp) rfl fun O' hO => ?_
    have hO' : O' = [(b, .bag)] := by
      have h1 : [(b, Ow.bag), (p, Ow.lst acc)].Perm ((p, .lst acc) :: [(b, .bag)]) := List.Perm.swap ..
      have h2 := (List.Perm.cons_inv (hO.symm.trans h1))
      exact List.perm_singleton.mp h2
    subst hO'
    walk_at "nm"
    exact sv_retE (by walk_at "ev") ⟨⟨ds, acc, rfl, rfl, hp⟩, rfl⟩
end
end LK

set_option Elab.async false
set_option linter.all false
set_option maxRecDepth 100000
set_option maxHeartbeats 400000
namespace LK
open PySem PySem.Spec PyProof.Rows L2 FF
open Evl (Ex)
local macro_rules | `(tactic| walk_at "ev") => `(tactic| repeat' (first
  | (with_reducible exact ev_int) | (with_reducible exact ev_bl) | (with_reducible exact ev_str) | (with_reducible exact ev_non) | (with_reducible exact ev_ty)
  | ((with_reducible apply ev_var); exact rfl) | (with_reducible exact ea_nil)
  | (with_reducible apply ev_op) | (with_reducible apply ev_un) | (with_reducible apply ev_cb) | (with_reducible apply ea_cons)
  | (with_reducible refine' ev_andV ?_ (fun _ => ?_)) | (with_reducible refine' ev_orV ?_ (fun _ => ?_)) | (with_reducible apply ev_notV)
  | ((with_reducible apply cad_isiInt); first | assumption | rfl) | ((with_reducible apply cad_isiBool); first | assumption | rfl) | ((with_reducible apply cad_isiStr); first | assumption | rfl) | ((with_reducible apply cad_isiTup); first | assumption | rfl) | ((with_reducible apply cad_isiList); first | assumption | rfl) | ((with_reducible apply cad_isiDict); first | assumption | rfl)
  | (with_reducible apply et_test) | (with_reducible apply et_B) | (with_reducible apply et_not)
  | (with_reducible exact opd_plusI) | (with_reducible exact opd_I0) | (with_reducible exact opd_B0) | (with_reducible exact opd_eqUI) | (with_reducible exact opd_neUI) | (with_reducible exact opd_eqUS) | (with_reducible exact opd_neUS) | (with_reducible exact und_neg)
  | (with_reducible exact cad_int) | (with_reducible exact cad_abs)
  | ((with_reducible apply opd_ix (so_own (List.mem_cons_self ..))); exact rfl) | (with_reducible exact cad_len so_lst)
  | ((with_reducible apply ev_intC); first | rfl | omega) | (with_reducible apply opd_timesI) | (with_reducible apply opd_I)
  | (with_reducible apply ev_lst) | (with_reducible apply ev_tup) | (with_reducible exact ev_dnewK) | ((with_reducible show List.length _ ≤ 100000); first | decide | simp) | ((with_reducible apply opd_pow); exact ⟨by decide, by decide, by decide⟩)
  | ((with_reducible apply cmul_l) <;> omega) | ((with_reducible apply cmul_r) <;> omega) | ((with_reducible apply cdiv) <;> omega)
  | ((with_reducible show (0 : Int) < _); omega)))
local macro_rules | `(tactic| walk_at "nm") => `(tactic| (try simp only [List.set_cons_zero, List.set_cons_succ, List.nil_append, List.cons_append]))
local macro_rules | `(tactic| walk_at "go") => `(tactic| (simp only [Cx.nox, Cx.wish, cxOf, startD, List.length_cons, List.length_nil, List.map_cons, List.map_nil, Nat.reduceAdd, Nat.reduceSub, List.replicate_succ, List.replicate_zero, List.cons_append, List.nil_append]))

section
variable {P : Program} {w : World} {K : PySem.W.Frag} {mg : Str → Option Value} {base : Heap}
def NA : List Str := ["a", "b", "c", "d", "e", "f"]
def NB : List Str := ["begin", "do", "edge", "join", "map", "places"]
def NC : List Str := ["x", "xa", "xaa", "xab", "xb", "zzzzzzzz"]
abbrev DA : List Dt := [.str "a", .str "b", .str "c", .str "d", .str "e", .str "f"]
abbrev DB : List Dt := [.str "begin", .str "do", .str "edge", .str "join", .str "map", .str "places"]
abbrev DC : List Dt := [.str "x", .str "xa", .str "xaa", .str "xab", .str "xb", .str "zzzzzzzz"]
def preNames : Pre := preB (fun es => ∃ n : Int, es = [.int n] ∧ 0 ≤ n ∧ n ≤ 100) (fun es d => ∃ (n : Int) (ss : List Str), es = [.int n] ∧ d = .lst (ss.map .str) ∧ ss.length = min n.toNat 6 ∧ ss.Nodup ∧ sortedS ss = true ∧ ∀ s ∈ ss, s ∈ NA ++ NB ++ NC)
theorem strs_of_perm {ss : List Str} {fs : List Dt} (h : fs.Perm (ss.map .str)) : ∃ ts : List Str, fs = ts.map .str ∧ ts.Perm ss := by
  have : ∀ d ∈ fs, ∃ s, d = Dt.str s := fun d m => by
    obtain ⟨s, _, e⟩ := List.mem_map.mp (h.mem_iff.mp m)
    exact ⟨s, e.symm⟩
  let g : Dt → Str := fun d => match d with | .str s => s | _ => Str.empty
  have e1 : (fs.map g).map Dt.str = fs := by
    rw [List.map_map]
    conv => rhs; rw [← List.map_id fs]
    refine List.map_congr_left fun d m => ?_
    obtain ⟨s, rfl⟩ := this d m
    rfl
  refine ⟨fs.map g, e1.symm, ?_⟩
  have h2 := h.map g
  rw [List.map_map] at h2
  have e2 : ss.map (g ∘ Dt.str) = ss := by
    conv => rhs; rw [← List.map_id ss]
    rfl
  rwa [e2] at h2
theorem ok_l_names (T : Top K mg) : HasG P w K mg base CX0 3 "_law_names" ["_law_bag_here", "_law_many"] (mkSp K preNames) := by
  refine hasG_of T.d_l_names sc_l_names (lenB (by rintro es ⟨n, rfl, _⟩; rfl)) ?_
  intro f cdv A outer s H E g hr
  have z_sorted := T.z_sorted
  have h_l_take := ok_l_take (P := P) (w := w) (base := base) T
  have h_l_mixed := ok_l_mixed (P := P) (w := w) (base := base) T
  refine ⟨_, (pss_cons (pset 2 sc_l_names.nd (pe_lst (pa_cons (pe_lst (pa_cons pe_str (pa_cons pe_str (pa_cons pe_str (pa_cons pe_str (pa_cons pe_str (pa_cons pe_str pa_nil))))))) (pa_cons (pe_lst (pa_cons pe_str (pa_cons pe_str (pa_cons pe_str (pa_cons pe_str (pa_cons pe_str (pa_cons pe_str pa_nil))))))) pa_nil))))
       (pss_cons (ps_expr (pe_bm PySem.F.plainAttrs_list PySem.F.slot_list_append PySem.F.type_list_append mt_append (pv 2) (pa_cons (pe_lst (pa_cons pe_str (pa_cons pe_str (pa_cons pe_str (pa_cons pe_str (pa_cons pe_str (pa_cons pe_str pa_nil))))))) pa_nil)))
       (pss_cons (pset 3 sc_l_names.nd (pe_ix ix_seq (pv 2) (pe_ix ix_seq (pe_lst (pa_cons pe_int (pa_cons pe_int (pa_cons pe_int (pa_cons pe_int pa_nil))))) (pe_hasG h_l_take g (hr.mono (by decide)) (by rfl) pass0 (pa_cons (pv 0) (pa_cons pe_int pa_nil))) (fun _ _ => rfl)) (fun _ _ => rfl)))
       (pss_one (ps_ret (pe_callB cr_sortedS (by rfl) z_sorted (by decide +kernel) (pa_cons (pe_slice sl_list (pe_hasG h_l_mixed g (hr.mono (by decide)) (by rfl) pass0 (pa_cons (pv 0) (pa_cons (pv 3) pa_nil))) po_none (po_some (pv 1))) pa_nil))))))), ?_⟩
  rintro _ _ _ _ ⟨b, _, rfl, ⟨n, rfl, hn0, hn1⟩, rfl, rfl, rfl⟩
  walk_at "go"
  refine sv_setS (ev_lstN (ds := [.lst DA, .lst DB]) (by walk_at "ev") (by simp)) ?_
  rintro _ _ ⟨p, rfl, rfl⟩
  walk_at "nm"
  refine sv_perm (List.Perm.swap (p, Ow.lst _) (b, Ow.bag) []) ?_
  refine sv_dropS (Φ := fun d O' => O' = [(b, .bag), (p, .lst [.lst DA, .lst DB, .lst DC])]) ?_ ?_
  · refine ev_bmL (Θ := exl [.lst DC] _) (by walk_at "ev") (List.mem_cons_of_mem _ (List.mem_cons_self ..)) (by walk_at "ev") ?_
    rintro xs O1 ⟨rfl, rfl⟩ F2 H2 v vs k1 k2 k3 k4 k5 Q q
    exact bmd_append (ds := [.lst DA, .lst DB]) (i := 1) rfl (by simp) F2 H2 v vs k1 k2 k3 k4 k5 Q fun w F' H' d' O' g b1 kk pp => q w F' H' d' O' g b1 kk pp.2
  rintro _ _ rfl
  refine sv_frz (p := p) (i := 2) (ds := [.lst DA, .lst DB, .lst DC]) (by simp) rfl fun O' hO => ?_
  have hO' : O' = [(b, .bag)] := by
    have h2 := List.Perm.cons_inv (hO.symm.trans (List.Perm.swap ..))
    exact List.perm_singleton.mp h2
  subst hO'
  walk_at "nm"
  refine sv_setS (Φ := fun d O' => d ∈ [Dt.lst DA, .lst DB, .lst DC] ∧ O' = [(b, .bag)]) ?_ ?_
  · refine ev_opG (Θ := fun _ _ d O' => (∃ r, d = .int r ∧ 0 ≤ r ∧ r < 3) ∧ O' = [(b, .bag)]) (Φ := ex _ _) (ev_var rfl) ?_ ?_
    · rintro x O1 ⟨rfl, rfl⟩
      refine (ev_pick (n := 4) (R := []) (ds := [.int 0, .int 0, .int 1, .int 2]) (by walk_at "ev") (ev_take (by walk_at "ev") (by decide) (by decide)) (by decide)).imp fun d O' q => ⟨?_, q.2⟩
      have := q.1
      simp only [List.mem_cons, List.not_mem_nil, or_false] at this
      rcases this with rfl | rfl | rfl | rfl
      · exact ⟨0, rfl, by decide, by decide⟩
      · exact ⟨0, rfl, by decide, by decide⟩
      · exact ⟨1, rfl, by decide, by decide⟩
      · exact ⟨2, rfl, by decide, by decide⟩
    · rintro x O1 y O2 ⟨rfl, rfl⟩ ⟨⟨r, rfl, h0, h1⟩, rfl⟩
      have hr : r.toNat < 3 := by omega
      exact (opd_ixI so_lst h0 (List.getElem?_eq_getElem hr)).imp fun d' O' p => ⟨by rw [p.1]; exact List.getElem_mem _, p.2⟩
  rintro d _ ⟨hd, rfl⟩
  obtain ⟨ws, rfl, hw6, hwn, hws⟩ : ∃ ws : List Str, d = .lst (ws.map .str) ∧ ws.length = 6 ∧ ws.Nodup ∧ ∀ s ∈ ws, s ∈ NA ++ NB ++ NC := by
    simp only [List.mem_cons, List.not_mem_nil, or_false] at hd
    rcases hd with rfl | rfl | rfl
    · exact ⟨NA, rfl, rfl, by decide, fun s m => List.mem_append_left _ (List.mem_append_left _ m)⟩
    · exact ⟨NB, rfl, rfl, by decide, fun s m => List.mem_append_left _ (List.mem_append_right _ m)⟩
    · exact ⟨NC, rfl, rfl, by decide, fun s m => List.mem_append_right _ m⟩
  walk_at "nm"
  refine sv_ret ((ev_frzG (Φ' := fun ds => ∃ ss : List Str, ds = ss.map .str ∧ ss.length = min n.toNat 6 ∧ ss.Nodup ∧ sortedS ss = true ∧ ∀ s ∈ ss, s ∈ NA ++ NB ++ NC) ?_).imp ?_)
  · refine ev_cbG (Θ := fun xs O1 => ∃ ts : List Str, xs = [.lst (ts.map .str)] ∧ O1 = [(b, .bag)] ∧ ts.length = min n.toNat 6 ∧ ts.Nodup ∧ ∀ s ∈ ts, s ∈ NA ++ NB ++ NC) ?_ ?_
    · refine ea_consG (Φ := fun d O1 => O1 = [(b, .bag)] ∧ ∃ ds, d = .lst ds ∧ ∃ ts : List Str, ds = ts.map .str ∧ ts.length = min n.toNat 6 ∧ ts.Nodup ∧ ∀ s ∈ ts, s ∈ NA ++ NB ++ NC) (Θ := fun _ _ => exl [] [(b, .bag)]) (ev_frzG ?_) ?_ ?_
      · refine ev_slG (lo := none) (hi := some n) (ev_mix (R := []) (ds := ws.map .str) (by walk_at "ev") (by simp; omega)) (fun _ _ _ => eo_none) ?_ ?_
        · rintro _ _ ⟨_, rfl⟩
          exact eo_some (by walk_at "ev")
        · rintro _ _ ⟨⟨fs, rfl, hp⟩, rfl⟩
          obtain ⟨ts, rfl, hts⟩ := strs_of_perm hp
          intro F2 H2 v k1 k2 k3 k4 Q q
          refine sld_list lo_lst F2 H2 v k1 k2 k3 k4 Q fun w F' H' d' O' g b1 kk pp => q w F' H' d' O' g b1 kk ?_
          obtain ⟨qq, rfl, rfl⟩ := pp
          refine ⟨qq, _, rfl, rfl, ts.take (min n.toNat 6), ?_, ?_, ?_, ?_⟩
          · unfold FF.cutD
            have hn : some n = some ((n.toNat : Nat) : Int) := by congr 1; omega
            rw [HT.sIx_none, hn, HT.sIx_nat, List.length_map, hts.length_eq, hw6, List.map_take]
            simp
          · rw [List.length_take, hts.length_eq, hw6]; omega
          · exact (hts.nodup_iff.mpr hwn).sublist (List.take_sublist ..)
          · exact fun s m => hws s (hts.mem_iff.mp (List.mem_of_mem_take m))
      · rintro _ _ ⟨rfl, _⟩
        exact ea_nil
      · rintro _ _ _ _ ⟨rfl, ds, rfl, ts, rfl, h⟩ ⟨rfl, rfl⟩
        exact ⟨ts, rfl, rfl, h⟩
    · rintro _ _ ⟨ts, rfl, rfl, h6, hnd, hm⟩
      refine (cad_sortedS lo_lst (by rw [h6]; omega)).imp ?_
      rintro d O' ⟨qq, ys, rfl, rfl, hp, hsr⟩
      exact ⟨qq, _, rfl, rfl, ys, rfl, by rw [hp.length_eq, h6], hp.nodup_iff.mpr hnd, hsr, fun s m => hm s (hp.mem_iff.mp m)⟩
  · rintro d O' ⟨rfl, ds, rfl, ss, rfl, h⟩
    exact ⟨⟨n, ss, rfl, rfl, h⟩, rfl⟩
end
end LK

set_option Elab.async false
set_option linter.all false
set_option maxRecDepth 100000
set_option maxHeartbeats 400000
namespace LK
open PySem PySem.Spec PyProof.Rows L2 FF
open Evl (Ex)
local macro_rules | `(tactic| walk_at "ev") => `(tactic| repeat' (first
  | (with_reducible exact ev_int) | (with_reducible exact ev_bl) | (with_reducible exact ev_str) | (with_reducible exact ev_non) | (with_reducible exact ev_ty)
  | ((with_reducible apply ev_var); exact rfl) | (with_reducible exact ea_nil)
  | (with_reducible apply ev_op) | (with_reducible apply ev_un) | (with_reducible apply ev_cb) | (with_reducible apply ea_cons)
  | (with_reducible refine' ev_andV ?_ (fun _ => ?_)) | (with_reducible refine' ev_orV ?_ (fun _ => ?_)) | (with_reducible apply ev_notV)
  | ((with_reducible apply cad_isiInt); first | assumption | rfl) | ((with_reducible apply cad_isiBool); first | assumption | rfl) | ((with_reducible apply cad_isiStr); first | assumption | rfl) | ((with_reducible apply cad_isiTup); first | assumption | rfl) | ((with_reducible apply cad_isiList); first | assumption | rfl) | ((with_reducible apply cad_isiDict); first | assumption | rfl)
  | (with_reducible apply et_test) | (with_reducible apply et_B) | (with_reducible apply et_not)
  | (with_reducible exact opd_plusI) | (with_reducible exact opd_I0) | (with_reducible exact opd_B0) | (with_reducible exact opd_eqUI) | (with_reducible exact opd_neUI) | (with_reducible exact opd_eqUS) | (with_reducible exact opd_neUS) | (with_reducible exact und_neg)
  | (with_reducible exact cad_int) | (with_reducible exact cad_abs)
  | ((with_reducible apply opd_ix (so_own (List.mem_cons_self ..))); exact rfl) | (with_reducible exact cad_len so_lst)
  | ((with_reducible apply ev_intC); first | rfl | omega) | (with_reducible apply opd_timesI) | (with_reducible apply opd_I)
  | (with_reducible apply ev_lst) | (with_reducible apply ev_tup) | (with_reducible exact ev_dnewK) | ((with_reducible show List.length _ ≤ 100000); first | decide | simp) | ((with_reducible apply opd_pow); exact ⟨by decide, by decide, by decide⟩)
  | ((with_reducible apply cmul_l) <;> omega) | ((with_reducible apply cmul_r) <;> omega) | ((with_reducible apply cdiv) <;> omega)
  | ((with_reducible show (0 : Int) < _); omega)))
local macro_rules | `(tactic| walk_at "nm") => `(tactic| (try simp only [List.set_cons_zero, List.set_cons_succ, List.nil_append, List.cons_append]))
local macro_rules | `(tactic| walk_at "go") => `(tactic| (simp only [Cx.nox, Cx.wish, cxOf, startD, List.length_cons, List.length_nil, List.map_cons, List.map_nil, Nat.reduceAdd, Nat.reduceSub, List.replicate_succ, List.replicate_zero, List.cons_append, List.nil_append]))

section
variable {P : Program} {w : World} {K : PySem.W.Frag} {mg : Str → Option Value} {base : Heap}
def deepD : Nat → Dt
  | 0 => .lst []
  | n + 1 => .lst [deepD n]
abbrev ODD1 : List Dt := [.non, .bl true, .bl false, .int 0, .int 1, .int (-1), .int ((10 : Int) ^ (39 : Int).toNat), .str "", .str "0", .tup [], .lst [], .dic [], .lst [.int 0], .tup [.int 0], .tup [.bl true], .tup [.int 0, .int 0]]
abbrev ODD2 : List Dt := [deepD 5, .dic [(.inl 0, .int 0)]]
def preOdd : Pre := preB (fun es => es = []) (fun es d => d ∈ ODD1 ++ ODD2)
theorem ok_l_odd (T : Top K mg) : HasG P w K mg base CX0 2 "_law_odd" ["_law_bag_here"] (mkSp K preOdd) := by
  refine hasG_of T.d_l_odd sc_l_odd (lenB (by rintro es rfl; rfl)) ?_
  intro f cdv A outer s H E g hr
  have z_range := T.z_range
  have h_l_take := ok_l_take (P := P) (w := w) (base := base) T
  refine ⟨_, (pss_cons (pset 1 sc_l_odd.nd (pe_lst pa_nil))
       (pss_cons (ps_for PassesOwn.never rfl (pi_range1 rfl z_range (pa_cons pe_int pa_nil)) (pgn 2 sc_l_odd.nd)
       (pss_one (pset 1 sc_l_odd.nd (pe_lst (pa_cons (pv 1) pa_nil)))))
       (pss_cons (pset 3 sc_l_odd.nd (pe_lst (pa_cons pe_non (pa_cons pe_bl (pa_cons pe_bl (pa_cons pe_int (pa_cons pe_int (pa_cons (pe_un un_neg pe_int) (pa_cons (pe_op op_pow pe_int pe_int) (pa_cons pe_str (pa_cons pe_str (pa_cons (pe_tup pa_nil) (pa_cons (pe_lst pa_nil) (pa_cons pe_dnewK (pa_cons (pe_lst (pa_cons pe_int pa_nil)) (pa_cons (pe_tup (pa_cons pe_int pa_nil)) (pa_cons (pe_tup (pa_cons pe_bl pa_nil)) (pa_cons (pe_tup (pa_cons pe_int (pa_cons pe_int pa_nil))) pa_nil))))))))))))))))))
       (pss_one (ps_ret (pe_ix ix_seq (pe_op op_plus (pv 3) (pe_lst (pa_cons (pv 1) (pa_cons (pe_disp (pps_cons pe_int pe_int pps_nil) (by rfl) (by rfl) (fun z => by cases z) (by decide)) pa_nil)))) (pe_hasG h_l_take g (hr.mono (by decide)) (by rfl) pass0 (pa_cons (pv 0) (pa_cons pe_int pa_nil))) (fun _ _ => rfl))))))), ?_⟩
  rintro _ _ _ _ ⟨b, _, rfl, rfl, rfl, rfl, rfl⟩
  walk_at "go"
  refine sv_setE (d := .lst []) (by walk_at "ev") ?_
  walk_at "nm"
  refine sv_forS (T := fun d Δ => Δ.set 2 (some d)) (js := [2]) (iv_range1 (n := 5) (by walk_at "ev") (by decide) (by decide)) (fun i d _ => gv_name 2) (fun i Δ' O' => ∃ x2, Δ' = [some (.ref b), some (deepD i), x2, none] ∧ O' = [(b, .bag)]) ⟨none, rfl, rfl⟩ ?_ ?_
  · rintro i d _ _ hd ⟨x2, rfl, rfl⟩
    walk_at "nm"
    refine sv_set (Φ := ex (.lst [deepD i]) _) (by walk_at "ev") fun d' O' p => ⟨some d, by rw [p.1]; rfl, p.2⟩
  · rintro _ _ ⟨x2, rfl, rfl⟩
    rw [rng_len]
    refine sv_setE (d := .lst ODD1) ?_ ?_
    · refine ev_lst ?_ (by decide)
      walk_at "ev"
      exact ⟨by decide, by decide, by decide⟩
    walk_at "nm"
    refine sv_ret ((ev_pick (n := 18) (R := []) (ds := ODD1 ++ ODD2) ?_ (ev_take (by walk_at "ev") (by decide) (by decide)) (by decide)).imp ?_)
    · refine ev_frz (ev_op (x := .lst ODD1) (y := .lst ODD2) (by walk_at "ev") (ev_lst (ea_cons (ev_var rfl) (ea_cons (ev_disp1 (E := E0) (k := .inl 0) (x := .int 0) ev_int ev_int) ea_nil)) (by decide)) (opd_plusL lo_lst lo_lst (by decide)))
    · rintro d O' p
      exact p
end
end LK

set_option Elab.async false
set_option linter.all false
set_option maxRecDepth 100000
set_option maxHeartbeats 400000
namespace LK
open PySem PySem.Spec PyProof.Rows L2 FF
open Evl (Ex)
section
/-! what a thing of the law is like -/
def good (d : Dt) : Prop := ((kd d = true ∧ d.sok = true) ∧ d.rok = true) ∧ d.sz ≤ 100000 ∧ ∀ ds, d = .tup ds → ∀ e ∈ ds, (kd e = true ∧ e.sok = true) ∧ e.ok = true ∧ e.py.depth ≤ 60
structure Nic (D S : Nat) (d : Dt) : Prop where
  ok : d.ok = true
  sh : d.py.showable = true
  dep : d.py.depth ≤ D
  sz : d.sz ≤ S
theorem kd_ok {d : Dt} (h : d.ok = true) : kd d = true := by cases d <;> first | rfl | simp [Dt.ok] at h
mutual
theorem sok_ok : ∀ d : Dt, d.ok = true → d.sok = true
  | .non, _ => rfl
  | .bl _, _ => rfl
  | .int _, _ => rfl
  | .str _, h => h
  | .lst ds, h => sokL_ok ds h
  | .tup ds, h => sokL_ok ds h
  | .dic _, h => by simp [Dt.ok] at h
  | .obj _ _, h => by simp [Dt.ok] at h
  | .ref _, h => by simp [Dt.ok] at h
  | .frl _, h => by simp [Dt.ok] at h
  | .ty _, h => by simp [Dt.ok] at h
theorem sokL_ok : ∀ ds : List Dt, okL ds = true → sokL ds = true
  | [], _ => rfl
  | d :: ds, h => by
    simp only [okL, Bool.and_eq_true] at h
    simp only [sokL, sok_ok d h.1, sokL_ok ds h.2]
    rfl
end
theorem okL_mem : ∀ {ds : List Dt} {e : Dt}, okL ds = true → e ∈ ds → e.ok = true := fun {ds e} h m => by
  rw [okL_all] at h
  exact List.all_eq_true.mp h e m
theorem dep_mem : ∀ {ds : List Dt} {e : Dt}, e ∈ ds → e.py.depth ≤ PyData.depthAll (pyL ds)
  | d :: ds, e, h => by
    simp only [pyL, PyData.depthAll]
    rcases List.mem_cons.mp h with rfl | h
    · exact Nat.le_max_left ..
    · exact Nat.le_trans (dep_mem h) (Nat.le_max_right ..)
theorem Nic.good {D S : Nat} {d : Dt} (h : Nic D S d) (hD : D ≤ 60) (hS : S ≤ 100000) : good d := by
  refine ⟨⟨⟨kd_ok h.ok, sok_ok d h.ok⟩, ?_⟩, Nat.le_trans h.sz hS, ?_⟩
  · have := h.dep
    simp only [Dt.rok, h.ok, h.sh, Bool.true_or, Bool.true_and, decide_eq_true_eq]
    omega
  · rintro ds rfl e m
    have ho : e.ok = true := okL_mem (ds := ds) (by simpa only [Dt.ok] using h.ok) m
    refine ⟨⟨kd_ok ho, sok_ok e ho⟩, ho, ?_⟩
    have a := dep_mem m
    have b := h.dep
    simp only [Dt.py, PyData.depth] at b
    omega
theorem Nic.mono {D D' S S' : Nat} {d : Dt} (h : Nic D S d) (hD : D ≤ D') (hS : S ≤ S') : Nic D' S' d := ⟨h.ok, h.sh, Nat.le_trans h.dep hD, Nat.le_trans h.sz hS⟩
theorem nicL {D S : Nat} : ∀ {ds : List Dt}, (∀ e ∈ ds, Nic D S e) → okL ds = true ∧ PyData.showableAll (pyL ds) = true ∧ PyData.depthAll (pyL ds) ≤ D ∧ szL ds ≤ ds.length * (S + 2)
  | [], _ => ⟨rfl, rfl, Nat.zero_le _, Nat.zero_le _⟩
  | d :: ds, h => by
    have a := h d (List.mem_cons_self ..)
    obtain ⟨b1, b2, b3, b4⟩ := nicL (ds := ds) fun e m => h e (List.mem_cons_of_mem _ m)
    have e1 : (ds.length + 1) * (S + 2) = ds.length * (S + 2) + (S + 2) := by rw [Nat.add_mul, Nat.one_mul]
    have := a.sz
    simp only [okL, pyL, PyData.showableAll, PyData.depthAll, szL, List.length_cons, a.ok, a.sh, b1, b2, e1]
    exact ⟨rfl, rfl, Nat.max_le.mpr ⟨a.dep, b3⟩, by omega⟩
theorem nic_lst {D S n : Nat} {ds : List Dt} (h : ∀ e ∈ ds, Nic D S e) (hn : ds.length ≤ n) : Nic (D + 1) (n * (S + 2) + 5) (.lst ds) := by
  obtain ⟨b1, b2, b3, b4⟩ := nicL h
  have := Nat.mul_le_mul_right (S + 2) hn
  refine ⟨b1, b2, ?_, ?_⟩
  · simp only [Dt.py, PyData.depth]; omega
  · simp only [Dt.sz]; omega
theorem nic_tup {D S n : Nat} {ds : List Dt} (h : ∀ e ∈ ds, Nic D S e) (hn : ds.length ≤ n) : Nic (D + 1) (n * (S + 2) + 5) (.tup ds) := by
  obtain ⟨b1, b2, b3, b4⟩ := nicL h
  have := Nat.mul_le_mul_right (S + 2) hn
  refine ⟨b1, b2, ?_, ?_⟩
  · simp only [Dt.py, PyData.depth]; omega
  · simp only [Dt.sz]; omega
theorem nic_str {s : Str} {n : Nat} (h : PyData.strOk s = true) (hn : s.length ≤ n) : Nic 0 (10 * n + 2) (.str s) := ⟨h, rfl, Nat.le_refl _, by simp only [Dt.sz]; omega⟩
/-! texts -/
theorem ok_iff {s : Str} : PyData.strOk s = true ↔ ∀ c ∈ s.cps.toList, c < 1114112 := by
  unfold PyData.strOk
  rw [Array.all_eq_true_iff_forall_mem]
  simp
theorem ok_append {a b : Str} (ha : PyData.strOk a = true) (hb : PyData.strOk b = true) : PyData.strOk (a ++ b) = true := by
  rw [ok_iff] at *
  intro c hc
  have : c ∈ (a.cps ++ b.cps).toList := hc
  rw [Array.toList_append] at this
  rcases List.mem_append.mp this with h | h
  · exact ha c h
  · exact hb c h
theorem ok_cut {a : Str} {lo hi : Option Int} (ha : PyData.strOk a = true) : PyData.strOk (cutS a lo hi) = true := by
  rw [ok_iff] at *
  intro c hc
  unfold cutS at hc
  exact ha c (List.mem_of_mem_drop (List.mem_of_mem_take hc))
theorem glued_aux : ∀ (l : List Str) (acc : Array Nat), (l.foldl (fun acc p => acc ++ ("" : Str).cps ++ p.cps) acc).toList = acc.toList ++ (l.map (·.cps.toList)).flatten
  | [], acc => by simp
  | s :: l, acc => by
    rw [List.foldl_cons, glued_aux l, List.map_cons, List.flatten_cons, ← List.append_assoc]
    congr 1
    rw [Array.toList_append, Array.toList_append]
    congr 1
    exact List.append_nil _
theorem join_cps (l : List Str) : (Txt.join "" l).cps.toList = (l.map (·.cps.toList)).flatten := by
  unfold Txt.join Builtin.Str.glued
  cases l with
  | nil => rfl
  | cons s l => exact glued_aux l s.cps
def one (c : Nat) : Str := ⟨#[c]⟩
theorem join_ones (cs : List Nat) : (Txt.join "" (cs.map one)).cps.toList = cs := by
  rw [join_cps, List.map_map]
  induction cs with
  | nil => rfl
  | cons c cs ih => rw [List.map_cons, List.flatten_cons, ih]; rfl
theorem sgns (cs : List Nat) : cs.map sgn = (cs.map one).map Dt.str := by
  rw [List.map_map]; rfl
theorem len_ones (cs : List Nat) : (cs.map one).map (·.length) = List.replicate cs.length 1 := by
  induction cs with
  | nil => rfl
  | cons c cs ih => rw [List.map_cons, List.map_cons, ih]; rfl
theorem LET_ok : ∀ c ∈ LET, c < 1114112 := by decide +kernel
theorem NM_ok : ∀ s ∈ NA ++ NB ++ NC, PyData.strOk s = true ∧ s.length ≤ 8 := by decide +kernel
/-! signs drawn -/
variable {K : PySem.W.Frag} {E E' : XK} {Ψ : XPost} {O : Own} {Δ : Env_} {tas : TA}
theorem iv_range1G {Θ Φ : List Dt → Own → Prop} (h : EvA K E Ψ tas Δ O Θ) (hc : ∀ xs O1, Θ xs O1 → ∃ n : Int, xs = [.int n] ∧ -(2 ^ 62) ≤ n ∧ n < 2 ^ 62 ∧ Φ (rng 0 n.toNat) O1) : Iv K E Ψ (iRng1 tas) Δ O Φ := fun σ F H a b c e R q =>
  h σ F H a b c e _ fun vs F1 H1 d O1 g1 b1 k1 p1 => by
    obtain ⟨n, rfl, h1, h2, hΦ⟩ := hc d O1 p1
    cases k1 with
    | cons k l =>
      cases k; cases l
      have w := L2.walk_range (lo := 0) (n := n.toNat)
      rw [← rng_len 0 n.toNat] at w
      refine ⟨n, rfl, h1, h2, q _ _ F1 H1 (rng 0 n.toNat) O1 g1 b1 (fun H2 e2 => trivial) ?_ hΦ⟩
      rw [rng_len] at w ⊢
      exact w.mono (fun _ z => z) fun i H x H' _ _ y => yd_rng y
end
end LK

set_option Elab.async false
set_option linter.all false
set_option maxRecDepth 100000
set_option maxHeartbeats 400000
namespace LK
open PySem PySem.Spec PyProof.Rows L2 FF
open Evl (Ex)
local macro_rules | `(tactic| walk_at "ev") => `(tactic| repeat' (first
  | (with_reducible exact ev_int) | (with_reducible exact ev_bl) | (with_reducible exact ev_str) | (with_reducible exact ev_non) | (with_reducible exact ev_ty)
  | ((with_reducible apply ev_var); exact rfl) | (with_reducible exact ea_nil)
  | (with_reducible apply ev_op) | (with_reducible apply ev_un) | (with_reducible apply ev_cb) | (with_reducible apply ea_cons)
  | (with_reducible refine' ev_andV ?_ (fun _ => ?_)) | (with_reducible refine' ev_orV ?_ (fun _ => ?_)) | (with_reducible apply ev_notV)
  | ((with_reducible apply cad_isiInt); first | assumption | rfl) | ((with_reducible apply cad_isiBool); first | assumption | rfl) | ((with_reducible apply cad_isiStr); first | assumption | rfl) | ((with_reducible apply cad_isiTup); first | assumption | rfl) | ((with_reducible apply cad_isiList); first | assumption | rfl) | ((with_reducible apply cad_isiDict); first | assumption | rfl)
  | (with_reducible apply et_test) | (with_reducible apply et_B) | (with_reducible apply et_not)
  | (with_reducible exact opd_plusI) | (with_reducible exact opd_I0) | (with_reducible exact opd_B0) | (with_reducible exact opd_eqUI) | (with_reducible exact opd_neUI) | (with_reducible exact opd_eqUS) | (with_reducible exact opd_neUS) | (with_reducible exact und_neg)
  | (with_reducible exact cad_int) | (with_reducible exact cad_abs)
  | ((with_reducible apply opd_ix (so_own (List.mem_cons_self ..))); exact rfl) | (with_reducible exact cad_len so_lst)
  | ((with_reducible apply ev_intC); first | rfl | omega) | (with_reducible apply opd_timesI) | (with_reducible apply opd_I)
  | (with_reducible apply ev_lst) | (with_reducible apply ev_tup) | (with_reducible exact ev_dnewK) | ((with_reducible show List.length _ ≤ 100000); first | decide | simp) | ((with_reducible apply opd_pow); exact ⟨by decide, by decide, by decide⟩)
  | ((with_reducible apply cmul_l) <;> omega) | ((with_reducible apply cmul_r) <;> omega) | ((with_reducible apply cdiv) <;> omega)
  | ((with_reducible show (0 : Int) < _); omega)))
local macro_rules | `(tactic| walk_at "nm") => `(tactic| (try simp only [List.set_cons_zero, List.set_cons_succ, List.nil_append, List.cons_append]))
local macro_rules | `(tactic| walk_at "go") => `(tactic| (simp only [Cx.nox, Cx.wish, cxOf, startD, List.length_cons, List.length_nil, List.map_cons, List.map_nil, Nat.reduceAdd, Nat.reduceSub, List.replicate_succ, List.replicate_zero, List.cons_append, List.nil_append]))

section
variable {P : Program} {w : World} {K : PySem.W.Frag} {mg : Str → Option Value} {base : Heap}
def goodb (d : Dt) : Bool := kd d && d.sok && d.rok && decide (d.sz ≤ 100000) && (match d with | .tup ds => ds.all (fun e => kd e && e.sok && e.ok && decide (e.py.depth ≤ 60)) | _ => true)
theorem good_b {d : Dt} (h : goodb d = true) : good d := by
  simp only [goodb, Bool.and_eq_true, decide_eq_true_eq] at h
  refine ⟨h.1.1, h.1.2, ?_⟩
  rintro ds rfl e m
  have := List.all_eq_true.mp h.2 e m
  simp only [Bool.and_eq_true, decide_eq_true_eq] at this
  exact ⟨this.1.1, this.1.2, this.2⟩
theorem good_odd : ∀ d ∈ ODD1 ++ ODD2, good d := by
  have h : (ODD1 ++ ODD2).all goodb = true := by decide +kernel
  intro d m
  exact good_b (List.all_eq_true.mp h d m)
theorem good_dic {s : Str} (h : PyData.strOk s = true) (hl : s.length ≤ 8) : good (.dic [(.inr s, .int 0)]) := by
  have e : (PyData.shown (.int 0)).length = 1 := by decide +kernel
  refine ⟨⟨⟨rfl, ?_⟩, ?_⟩, ?_, fun ds q => by cases q⟩
  · simp only [Dt.sok, sokK, h]; rfl
  · rfl
  · simp only [Dt.sz, szK, e]; omega
abbrev TXD : List Dt := [.str "", .str "a", .str "abcdefgh", .str "abcdefghi", .str "A", .str "aB", .str "a b", .str "a1", .str "a_", .str " a", .str "a\n", .str "~", .str "begin", .str "{", .str "`", .str "zz"]
abbrev ODN (s : Str) : List Dt := [.non, .int 5, .tup [.str s], .lst [.str s], .bl true]
def nicb (D S : Nat) (d : Dt) : Bool := d.ok && d.py.showable && decide (d.py.depth ≤ D) && decide (d.sz ≤ S)
theorem nic_b {D S : Nat} {d : Dt} (h : nicb D S d = true) : Nic D S d := by
  simp only [nicb, Bool.and_eq_true, decide_eq_true_eq] at h
  exact ⟨h.1.1.1, h.1.1.2, h.1.2, h.2⟩
theorem nic_txd : ∀ d ∈ TXD, Nic 0 92 d := by
  have h : TXD.all (nicb 0 92) = true := by decide +kernel
  intro d m
  exact nic_b (List.all_eq_true.mp h d m)
theorem nic_odd {s : Str} (h : PyData.strOk s = true) (hl : s.length ≤ 8) : ∀ d ∈ TXD ++ ODN s, Nic 1 92 d := by
  intro d m
  rcases List.mem_append.mp m with m | m
  · exact (nic_txd d m).mono (by decide) (Nat.le_refl _)
  have hs := nic_str h hl
  simp only [List.mem_cons, List.not_mem_nil, or_false] at m
  rcases m with rfl | rfl | rfl | rfl | rfl
  · exact nic_b (by decide +kernel)
  · exact nic_b (by decide +kernel)
  · exact (nic_tup (n := 1) (ds := [.str s]) (fun e m => by rw [List.mem_singleton.mp m]; exact hs) (Nat.le_refl _)).mono (Nat.le_refl _) (by decide)
  · exact (nic_lst (n := 1) (ds := [.str s]) (fun e m => by rw [List.mem_singleton.mp m]; exact hs) (Nat.le_refl _)).mono (Nat.le_refl _) (by decide)
  · exact nic_b (by decide +kernel)
def preThings : Pre := preB (fun es => es = []) (fun es d => ∃ ds, d = .lst ds ∧ ds.length ≤ 5000 ∧ ∀ e ∈ ds, good e)
end
end LK

set_option Elab.async false
set_option linter.all false
set_option maxRecDepth 100000
set_option maxHeartbeats 400000
namespace LK
open PySem PySem.Spec PyProof.Rows L2 FF
open Evl (Ex)
local macro_rules | `(tactic| walk_at "ev") => `(tactic| repeat' (first
  | (with_reducible exact ev_int) | (with_reducible exact ev_bl) | (with_reducible exact ev_str) | (with_reducible exact ev_non) | (with_reducible exact ev_ty)
  | ((with_reducible apply ev_var); exact rfl) | (with_reducible exact ea_nil)
  | (with_reducible apply ev_op) | (with_reducible apply ev_un) | (with_reducible apply ev_cb) | (with_reducible apply ea_cons)
  | (with_reducible refine' ev_andV ?_ (fun _ => ?_)) | (with_reducible refine' ev_orV ?_ (fun _ => ?_)) | (with_reducible apply ev_notV)
  | ((with_reducible apply cad_isiInt); first | assumption | rfl) | ((with_reducible apply cad_isiBool); first | assumption | rfl) | ((with_reducible apply cad_isiStr); first | assumption | rfl) | ((with_reducible apply cad_isiTup); first | assumption | rfl) | ((with_reducible apply cad_isiList); first | assumption | rfl) | ((with_reducible apply cad_isiDict); first | assumption | rfl)
  | (with_reducible apply et_test) | (with_reducible apply et_B) | (with_reducible apply et_not)
  | (with_reducible exact opd_plusI) | (with_reducible exact opd_I0) | (with_reducible exact opd_B0) | (with_reducible exact opd_eqUI) | (with_reducible exact opd_neUI) | (with_reducible exact opd_eqUS) | (with_reducible exact opd_neUS) | (with_reducible exact und_neg)
  | (with_reducible exact cad_int) | (with_reducible exact cad_abs)
  | ((with_reducible apply opd_ix (so_own (List.mem_cons_self ..))); exact rfl) | (with_reducible exact cad_len so_lst)
  | ((with_reducible apply ev_intC); first | rfl | omega) | (with_reducible apply opd_timesI) | (with_reducible apply opd_I)
  | (with_reducible apply ev_lst) | (with_reducible apply ev_tup) | (with_reducible exact ev_dnewK) | ((with_reducible show List.length _ ≤ 100000); first | decide | simp) | ((with_reducible apply opd_pow); exact ⟨by decide, by decide, by decide⟩)
  | ((with_reducible apply cmul_l) <;> omega) | ((with_reducible apply cmul_r) <;> omega) | ((with_reducible apply cdiv) <;> omega)
  | ((with_reducible show (0 : Int) < _); omega)))
local macro_rules | `(tactic| walk_at "nm") => `(tactic| (try simp only [List.set_cons_zero, List.set_cons_succ, List.nil_append, List.cons_append]))
local macro_rules | `(tactic| walk_at "go") => `(tactic| (simp only [Cx.nox, Cx.wish, cxOf, startD, List.length_cons, List.length_nil, List.map_cons, List.map_nil, Nat.reduceAdd, Nat.reduceSub, List.replicate_succ, List.replicate_zero, List.cons_append, List.nil_append]))

section
variable {P : Program} {w : World} {K : PySem.W.Frag} {mg : Str → Option Value} {base : Heap}
theorem sum_ones (cs : List Nat) : ((cs.map one).map (·.length)).sum = cs.length := by
  induction cs with
  | nil => rfl
  | cons c cs ih =>
    rw [List.map_cons, List.map_cons, List.sum_cons, ih, List.length_cons]
    have : (one c).length = 1 := rfl
    omega
theorem ev_pickS {E : XK} {Ψ : XPost} {Δ : Env_} {O : Own} {ta tb : TE} {z : Str} {n : Int} (ha : Ev K E Ψ ta Δ O (ex (.str z) O)) (hb : Ev K E Ψ tb Δ O (fun d O' => (∃ r, d = .int r ∧ 0 ≤ r ∧ r < n) ∧ O' = O)) (hn : n ≤ z.cps.toList.length) (hl : z.length ≤ 100000) :
    Ev K E Ψ (tOp (rIx K) ta tb) Δ O (fun d O' => (∃ c, c ∈ z.cps.toList ∧ d = .str (one c)) ∧ O' = O) := by
  refine ev_opG (Φ := ex (.str z) O) (Θ := fun _ _ d O' => (∃ r, d = .int r ∧ 0 ≤ r ∧ r < n) ∧ O' = O) ha ?_ ?_
  · rintro _ _ ⟨rfl, rfl⟩
    exact hb
  · rintro _ _ _ _ ⟨rfl, rfl⟩ ⟨⟨r, rfl, h0, h1⟩, rfl⟩
    obtain ⟨m, rfl⟩ := Int.eq_ofNat_of_zero_le h0
    have hm : m < z.cps.toList.length := by omega
    exact (opd_ixS hl (L2.atI_nat (List.getElem?_eq_getElem hm))).imp fun d' O' q => ⟨⟨_, List.getElem_mem hm, q.1⟩, q.2⟩
theorem ok_l_things (T : Top K mg) : HasG P w K mg base CX0 4 "_law_things" ["_law_bag_here"] (mkSp K preThings) := by
  refine hasG_of T.d_l_things sc_l_things (lenB (by rintro es rfl; rfl)) ?_
  intro f cdv A outer s H E g hr
  have z_range := T.z_range
  have z_len := T.z_len
  have z_list := T.z_list
  have h_l_take := ok_l_take (P := P) (w := w) (base := base) T
  have h_l_names := ok_l_names (P := P) (w := w) (base := base) T
  have h_l_odd := ok_l_odd (P := P) (w := w) (base := base) T
  refine ⟨_, (pss_cons (pset 1 sc_l_things.nd (pe_lst (pa_cons pe_str (pa_cons pe_str (pa_cons pe_str (pa_cons pe_str (pa_cons pe_str (pa_cons pe_str (pa_cons pe_str (pa_cons pe_str (pa_cons pe_str (pa_cons pe_str (pa_cons pe_str (pa_cons pe_str (pa_cons pe_str (pa_cons pe_str (pa_cons pe_str (pa_cons pe_str pa_nil))))))))))))))))))
       (pss_cons (pset 2 sc_l_things.nd (pe_ix ix_seq (pe_hasG h_l_names g (hr.mono (by decide)) (by rfl) pass0 (pa_cons (pv 0) (pa_cons pe_int pa_nil))) pe_int (fun _ _ => rfl)))
       (pss_cons (pset 3 sc_l_things.nd (pe_op op_times (pe_tup (pa_cons (pv 2) pa_nil)) (pe_hasG h_l_take g (hr.mono (by decide)) (by rfl) pass0 (pa_cons (pv 0) (pa_cons pe_int pa_nil)))))
       (pss_cons (ps_par (i := 4) (j := 5) rfl sc_l_things.nd rfl rfl (by decide) rfl rfl (pa_cons (pe_hasG h_l_take g (hr.mono (by decide)) (by rfl) pass0 (pa_cons (pv 0) (pa_cons (pe_op op_plus (pe_callB call_len (by rfl) z_len (by decide +kernel) (pa_cons (pv 3) pa_nil)) pe_int) pa_nil))) (pa_cons (pe_ix ix_seq (pe_op op_plus (pv 1) (pe_lst (pa_cons pe_non (pa_cons pe_int (pa_cons (pe_tup (pa_cons (pv 2) pa_nil)) (pa_cons (pe_lst (pa_cons (pv 2) pa_nil)) (pa_cons pe_bl pa_nil))))))) (pe_hasG h_l_take g (hr.mono (by decide)) (by rfl) pass0 (pa_cons (pv 0) (pa_cons pe_int pa_nil))) (fun _ _ => rfl)) pa_nil)) (by rfl))
       (pss_cons (pset 6 sc_l_things.nd (pe_lst (pa_cons (pv 3) (pa_cons (pe_op op_plus (pe_op op_plus (pe_slice sl_tupA (pv 3) po_none (po_some (pv 4))) (pe_tup (pa_cons (pv 5) pa_nil))) (pe_slice sl_tupA (pv 3) (po_some (pv 4)) po_none)) (pa_cons (pe_callTy call_list_of (by rfl) z_list (by decide +kernel) (pa_cons (pv 3) pa_nil)) (pa_cons (pe_tup (pa_cons (pv 3) pa_nil)) (pa_cons (pe_disp (pps_cons (pv 2) pe_int pps_nil) (by rfl) (by rfl) (fun z => by cases z) (by decide)) (pa_cons (pe_op op_pow pe_int pe_int) (pa_cons (pe_un un_neg (pe_op op_pow pe_int pe_int)) (pa_cons (pe_un un_neg pe_int) (pa_cons pe_int (pa_cons pe_int (pa_cons pe_int pa_nil)))))))))))))
       (pss_cons (ps_for PassesOwn.never rfl (pi_range1 rfl z_range (pa_cons pe_int pa_nil)) (pgn 7 sc_l_things.nd)
       (pss_cons (ps_setLc (i := 8) (own := [("_law_j", 11)]) rfl sc_l_things.nd rfl rfl (sw_true rfl rfl rfl (by decide +kernel)) (pi_range1 rfl z_range (pa_cons (pe_op op_plus pe_int (pe_hasG h_l_take g (hr.mono (by decide)) (by rfl) pass0 (pa_cons (pv 0) (pa_cons pe_int pa_nil)))) pa_nil)) (blkOk_by (own := [("_law_j", 11)]) (N := ["_law_bag_here", "_law_texts", "_law_name", "_law_word", "_law_at", "_law_odd_here", "_law_some", "_law_k", "_law_letters", "_law_text", "_law_far", "_law_j"]) (sc := defScope s_l_things) (by decide +kernel)) (fun _ _ _ _ _ => (pgn 11 sc_l_things.nd)) (fun _ _ _ _ _ => pts_nil) (fun _ _ _ _ _ => (pe_ix (show IxR _ (rIx K) from ix_seq) pe_str (pe_hasG h_l_take g (hr.mono (by decide)) (by rfl) pass0 (pa_cons (pv 0) (pa_cons pe_int pa_nil))) (fun _ _ => rfl))))
       (pss_cons (ps_par (i := 9) (j := 10) rfl sc_l_things.nd rfl rfl (by decide) rfl rfl (pa_cons (pe_join pe_str (pv 8)) (pa_cons (pe_hasG h_l_take g (hr.mono (by decide)) (by rfl) pass0 (pa_cons (pv 0) (pa_cons (pe_callB call_len (by rfl) z_len (by decide +kernel) (pa_cons (pv 8) pa_nil)) pa_nil))) pa_nil)) (by rfl))
       (pss_one (ps_expr (pe_bm PySem.F.plainAttrs_list PySem.F.slot_list_extend PySem.F.type_list_extend mt_extend (pv 6) (pa_cons (pe_lst (pa_cons (pv 9) (pa_cons (pe_op op_plus (pe_op op_plus (pe_slice sl_str (pv 9) po_none (po_some (pv 10))) (pe_ix ix_seq pe_str (pe_hasG h_l_take g (hr.mono (by decide)) (by rfl) pass0 (pa_cons (pv 0) (pa_cons pe_int pa_nil))) (fun _ _ => rfl))) (pe_slice sl_str (pv 9) (po_some (pe_op op_plus (pv 10) pe_int)) po_none)) (pa_cons (pe_tup (pa_cons (pv 9) (pa_cons (pv 9) pa_nil))) (pa_cons (pe_op op_plus (pv 9) (pv 9)) pa_nil))))) pa_nil)))))))
       (pss_one (ps_ret (pe_op op_plus (pe_op op_plus (pv 1) (pv 6)) (pe_lc (own := [("_law_k", 7)]) rfl sc_l_things.nd (pi_range1 rfl z_range (pa_cons pe_int pa_nil)) (blkOk_by (own := [("_law_k", 7)]) (N := ["_law_bag_here", "_law_texts", "_law_name", "_law_word", "_law_at", "_law_odd_here", "_law_some", "_law_k", "_law_letters", "_law_text", "_law_far", "_law_j"]) (sc := defScope s_l_things) (by decide +kernel)) (fun _ _ _ _ _ => (pgn 7 sc_l_things.nd)) (fun _ _ _ _ _ => pts_nil) (fun _ _ _ _ _ => (pe_hasG h_l_odd g (hr.mono (by decide)) (by rfl) pass0 (pa_cons (pv 0) pa_nil))))))))))))), ?_⟩
  rintro _ _ _ _ ⟨b, _, rfl, rfl, rfl, rfl, rfl⟩
  walk_at "go"
  refine sv_setE (d := .lst TXD) ?_ ?_
  · refine ev_lst ?_ (by decide)
    walk_at "ev"
  walk_at "nm"
  refine sv_setS (Φ := fun d O' => (∃ s : Str, d = .str s ∧ PyData.strOk s = true ∧ s.length ≤ 8) ∧ O' = [(b, .bag)]) ?_ ?_
  · refine ev_opG (Φ := fun d O' => (∃ ss : List Str, d = .lst (ss.map .str) ∧ ss.length = 1 ∧ ∀ s ∈ ss, s ∈ NA ++ NB ++ NC) ∧ O' = [(b, .bag)]) (Θ := fun _ _ => ex (.int 0) [(b, .bag)]) ?_ ?_ ?_
    · refine (ev_callB (R := []) (ds := [.int 1]) (by walk_at "ev") ⟨1, rfl, by decide, by decide⟩).imp ?_
      rintro d O' ⟨⟨n, ss, e, rfl, hl, _, _, hm⟩, rfl⟩
      cases e
      exact ⟨⟨ss, rfl, hl, hm⟩, rfl⟩
    · rintro _ _ ⟨_, rfl⟩
      walk_at "ev"
    · rintro _ _ _ _ ⟨⟨ss, rfl, hl, hm⟩, rfl⟩ ⟨rfl, rfl⟩
      match ss, hl with
      | [s], _ => exact (opd_ixI so_lst (by decide) rfl).imp fun d O' p => ⟨⟨s, p.1, NM_ok s (hm s (by simp))⟩, p.2⟩
  rintro _ _ ⟨⟨s, rfl, hs, hs8⟩, rfl⟩
  walk_at "nm"
  refine sv_setS (Φ := fun d O' => (∃ k : Nat, d = .tup (List.replicate k (.str s)) ∧ k ≤ 49) ∧ O' = [(b, .bag)]) ?_ ?_
  · refine ev_opG (Φ := ex (.tup [.str s]) [(b, .bag)]) (Θ := fun _ _ d O' => (∃ r, d = .int r ∧ 0 ≤ r ∧ r < 50) ∧ O' = [(b, .bag)]) (by walk_at "ev") ?_ ?_
    · rintro _ _ ⟨rfl, rfl⟩
      exact ev_take (R := []) (by walk_at "ev") (by decide) (by decide)
    · rintro _ _ _ _ ⟨rfl, rfl⟩ ⟨⟨r, rfl, h0, h1⟩, rfl⟩
      refine (opd_timesT (by simp) h0 (by omega) (by simp)).imp fun d O' p => ⟨⟨r.toNat, ?_, by omega⟩, p.2⟩
      rw [p.1, List.flatten_replicate_singleton]
  rintro _ _ ⟨⟨k, rfl, hk⟩, rfl⟩
  walk_at "nm"
  refine sv_parS (Θ := fun ds O' => (∃ (r : Int) (d : Dt), ds = [.int r, d] ∧ 0 ≤ r ∧ r ≤ k ∧ d ∈ TXD ++ ODN s) ∧ O' = [(b, .bag)]) ?_ ?_
  · refine ea_consG (Φ := fun d O' => (∃ r, d = .int r ∧ 0 ≤ r ∧ r < (k : Int) + 1) ∧ O' = [(b, .bag)]) (Θ := fun _ _ ds O' => (∃ d, ds = [d] ∧ d ∈ TXD ++ ODN s) ∧ O' = [(b, .bag)]) ?_ ?_ ?_
    · refine ev_take (R := []) (ea_cons (by walk_at "ev") (ea_cons ?_ ea_nil)) (by omega) (by omega)
      refine ev_op (x := .int k) (ev_is (ev_cb (by walk_at "ev") (cad_len so_tup)) (by rw [List.length_replicate])) (by walk_at "ev") opd_plusI
    · rintro _ _ ⟨_, rfl⟩
      refine ea_consG (Φ := fun d O' => d ∈ TXD ++ ODN s ∧ O' = [(b, .bag)]) (Θ := fun _ _ => exl [] [(b, .bag)]) ?_ ?_ ?_
      · refine ev_pick (n := 21) (R := []) ?_ (ev_take (by walk_at "ev") (by decide) (by decide)) (by simp)
        exact ev_frz (ev_op (x := .lst TXD) (y := .lst (ODN s)) (by walk_at "ev") (by walk_at "ev") (opd_plusL lo_lst lo_lst (by simp)))
      · rintro _ _ ⟨_, rfl⟩
        exact ea_nil
      · rintro x _ _ _ ⟨hx, rfl⟩ ⟨rfl, rfl⟩
        exact ⟨⟨x, rfl, hx⟩, rfl⟩
    · rintro _ _ _ _ ⟨⟨r, rfl, h0, h1⟩, rfl⟩ ⟨⟨d, rfl, hd⟩, rfl⟩
      exact ⟨⟨r, d, rfl, h0, by omega, hd⟩, rfl⟩
  rintro _ _ ⟨⟨r, od, rfl, h0, hrk, hod⟩, rfl⟩
  refine ⟨_, _, rfl, ?_⟩
  walk_at "nm"
  have hS := nic_str hs hs8
  have nO := nic_odd hs hs8 od hod
  let wd : List Dt := List.replicate k (.str s)
  let mx : List Dt := FF.cutD wd none (some r) ++ [od] ++ FF.cutD wd (some r) none
  let S0 : List Dt := [.tup wd, .tup mx, .lst wd, .tup [.tup wd], .dic [(.inr s, .int 0)], .int ((10 : Int) ^ (39 : Int).toNat), .int (-((10 : Int) ^ (39 : Int).toNat)), .int (-1), .int 0, .int 1, .int 2]
  have hwd : ∀ e ∈ wd, Nic 1 92 e := fun e m => by rw [List.eq_of_mem_replicate m]; exact hS.mono (by decide) (by decide)
  have lwd : wd.length ≤ 49 := by rw [List.length_replicate]; exact hk
  have hcut : ∀ lo hi, ∀ e ∈ FF.cutD wd lo hi, e ∈ wd := fun lo hi e m => List.mem_of_mem_drop (List.mem_of_mem_take m)
  have lcut : ∀ lo hi, (FF.cutD wd lo hi).length ≤ 49 := fun lo hi => by
    unfold FF.cutD
    rw [List.length_take, List.length_drop]
    omega
  have hmx : ∀ e ∈ mx, Nic 1 92 e := fun e m => by
    rcases List.mem_append.mp m with m | m
    · rcases List.mem_append.mp m with m | m
      · exact hwd e (hcut _ _ e m)
      · rw [List.mem_singleton.mp m]; exact nO
    · exact hwd e (hcut _ _ e m)
  have lmx : mx.length ≤ 99 := by
    have a := lcut none (some r)
    have b := lcut (some r) none
    simp only [mx, List.length_append, List.length_singleton]
    omega
  have hS0 : ∀ e ∈ S0, good e := fun e m => by
    simp only [S0, List.mem_cons, List.not_mem_nil, or_false] at m
    rcases m with rfl | rfl | rfl | rfl | rfl | rfl | rfl | rfl | rfl | rfl | rfl
    · exact (nic_tup hwd lwd).good (by decide) (by decide)
    · exact (nic_tup hmx lmx).good (by decide) (by decide)
    · exact (nic_lst hwd lwd).good (by decide) (by decide)
    · exact (nic_tup (n := 1) (ds := [.tup wd]) (fun e m => by rw [List.mem_singleton.mp m]; exact nic_tup hwd lwd) (Nat.le_refl _)).good (by decide) (by decide)
    · exact good_dic hs hs8
    all_goals exact good_b (by decide +kernel)
  refine sv_setS (Φ := nwl S0 [(b, .bag)]) ?_ ?_
  · refine ev_lstN (ea_cons (ev_var rfl) (ea_cons ?_ (ea_cons (ev_frz (ev_cb (by walk_at "ev") (cad_list so_tup))) (ea_cons (by walk_at "ev") (ea_cons (ev_disp1 (E := E0) (k := .inr s) (x := .int 0) (ev_var rfl) ev_int) (ea_cons ?_ (ea_cons ?_ ?_))))))) (by simp [S0])
    · refine ev_op (x := .tup (FF.cutD wd none (some r) ++ [od])) (y := .tup (FF.cutD wd (some r) none)) (ev_op (x := .tup (FF.cutD wd none (some r))) (y := .tup [od]) (ev_sl (x := .tup wd) (ev_var rfl) eo_none (eo_some (ev_var rfl)) sld_tup) (by walk_at "ev") (opd_plusT ?_)) (ev_sl (x := .tup wd) (ev_var rfl) (eo_some (ev_var rfl)) eo_none sld_tup) (opd_plusT ?_)
      · have a := lcut none (some r)
        simp only [List.length_singleton]
        omega
      · have a := lcut none (some r)
        have b := lcut (some r) none
        simp only [List.length_append, List.length_singleton]
        omega
    · walk_at "ev"
      exact ⟨by decide, by decide, by decide⟩
    · walk_at "ev"
      exact ⟨by decide, by decide, by decide⟩
    · walk_at "ev"
  rintro _ _ ⟨p, rfl, rfl⟩
  walk_at "nm"
  refine sv_perm (List.Perm.swap (p, Ow.lst S0) (b, Ow.bag) []) ?_
  refine sv_forS (T := fun d Δ => Δ.set 7 (some d)) (js := [7]) (iv_range1 (n := 4) (by walk_at "ev") (by decide) (by decide)) (fun i d _ => gv_name 7) (fun i Δ' O' => ∃ acc x7 x8 x9 x10 x11, Δ' = [some (.ref b), some (.lst TXD), some (.str s), some (.tup wd), some (.int r), some od, some (.ref p), x7, x8, x9, x10, x11] ∧ O' = [(b, .bag), (p, .lst acc)] ∧ acc.length ≤ 11 + 4 * i ∧ ∀ e ∈ acc, good e) ⟨S0, none, none, none, none, none, rfl, rfl, by simp [S0], hS0⟩ ?_ ?_
  · rintro i d _ _ hd ⟨acc, x7, x8, x9, x10, x11, rfl, rfl, hl, hacc⟩
    have hi4 : i < 4 := (rng_get hd).1
    walk_at "nm"
    refine sv_setS (Φ := fun d O' => O' = [(b, .bag), (p, .lst acc)] ∧ ∃ ds, d = .lst ds ∧ ∃ cs : List Nat, ds = cs.map sgn ∧ 1 ≤ cs.length ∧ cs.length ≤ 8 ∧ ∀ c ∈ cs, c ∈ LET) ?_ ?_
    · refine ev_frzG ((ev_lc (E' := E0) (T := fun d Δ => Δ.set 11 (some d)) (js := [11]) (Θ := fun ds O' => (∃ n : Nat, ds = rng 0 n ∧ 1 ≤ n ∧ n ≤ 8) ∧ O' = [(b, .bag), (p, .lst acc)]) (P := fun ds i acc => acc.length = i ∧ ∃ cs : List Nat, acc = cs.map sgn ∧ ∀ c ∈ cs, c ∈ LET) ?_ ?_ (fun _ _ _ _ _ _ => gv_name 11) (by simp) ?_ ?_).imp ?_)
      · refine iv_range1G (Θ := fun ds O' => (∃ n : Int, ds = [.int n] ∧ 1 ≤ n ∧ n ≤ 8) ∧ O' = [(b, .bag), (p, .lst acc)]) ?_ ?_
        · refine ea_consG (Φ := fun d O' => (∃ n : Int, d = .int n ∧ 1 ≤ n ∧ n ≤ 8) ∧ O' = [(b, .bag), (p, .lst acc)]) (Θ := fun _ _ => exl [] [(b, .bag), (p, .lst acc)]) ?_ ?_ ?_
          · refine ev_opG (Φ := ex (.int 1) [(b, .bag), (p, .lst acc)]) (Θ := fun _ _ d O' => (∃ r, d = .int r ∧ 0 ≤ r ∧ r < 8) ∧ O' = [(b, .bag), (p, .lst acc)]) (by walk_at "ev") ?_ ?_
            · rintro _ _ ⟨rfl, rfl⟩
              exact ev_take (R := [(p, .lst acc)]) (by walk_at "ev") (by decide) (by decide)
            · rintro _ _ _ _ ⟨rfl, rfl⟩ ⟨⟨r, rfl, h0, h1⟩, rfl⟩
              exact opd_plusI.imp fun d O' p => ⟨⟨1 + r, p.1, by omega, by omega⟩, p.2⟩
          · rintro _ _ ⟨_, rfl⟩
            exact ea_nil
          · rintro _ _ _ _ ⟨⟨n, rfl, h⟩, rfl⟩ ⟨rfl, rfl⟩
            exact ⟨⟨n, rfl, h⟩, rfl⟩
        · rintro _ _ ⟨⟨n, rfl, h1, h2⟩, rfl⟩
          exact ⟨n, rfl, by omega, by omega, ⟨n.toNat, rfl, by omega, by omega⟩, rfl⟩
      · rintro _ _ ⟨⟨n, rfl, h1, h2⟩, rfl⟩
        exact ⟨rfl, by rw [rng_len]; omega⟩
      · rintro _ _ _
        exact ⟨rfl, [], rfl, by simp⟩
      · rintro ds O' i d acc2 hΘ hd2 ⟨hlen, cs, rfl, hcs⟩
        refine et_yes.imp fun bb O1 hb => ⟨hb.2, fun _ => ?_, fun hf => by rw [hb.1] at hf; cases hf⟩
        refine ev_opG (Φ := ex (.str "abcdefghijklmnopqrstuvwxyz") [(b, .bag), (p, .lst acc)]) (Θ := fun _ _ d O' => (∃ r, d = .int r ∧ 0 ≤ r ∧ r < 26) ∧ O' = [(b, .bag), (p, .lst acc)]) (by walk_at "ev") ?_ ?_
        · rintro _ _ ⟨rfl, rfl⟩
          exact ev_take (R := [(p, .lst acc)]) (by walk_at "ev") (by decide) (by decide)
        · rintro _ _ _ _ ⟨rfl, rfl⟩ ⟨⟨r, rfl, h0, h1⟩, rfl⟩
          obtain ⟨n, rfl⟩ := Int.eq_ofNat_of_zero_le h0
          have hr2 : n < LET.length := by
            have : LET.length = 26 := by decide +kernel
            omega
          have hat : L2.atI ("abcdefghijklmnopqrstuvwxyz" : Str).cps.toList (n : Int) = some LET[n] := L2.atI_nat (List.getElem?_eq_getElem hr2)
          refine (opd_ixS (by decide) hat).imp fun d' O' q => ⟨q.2, by rw [List.length_append, hlen]; rfl, cs ++ [LET[n]], ?_, ?_⟩
          · rw [q.1, List.map_append]; rfl
          · intro c hc
            rcases List.mem_append.mp hc with hc | hc
            · exact hcs c hc
            · rw [List.mem_singleton.mp hc]; exact List.getElem_mem _
      · rintro d' O' ⟨q, res, rfl, rfl, ds, ⟨⟨n, rfl, h1, h2⟩, _⟩, hlen, cs, rfl, hcs⟩
        rw [rng_len, List.length_map] at hlen
        exact ⟨q, _, rfl, rfl, cs, rfl, by omega, by omega, hcs⟩
    rintro _ _ ⟨rfl, _, rfl, cs, rfl, hc1, hc8, hcs⟩
    walk_at "nm"
    let t : Str := Txt.join "" (cs.map one)
    have ht : t.cps.toList = cs := join_ones cs
    have tl : t.length = cs.length := by
      have : t.length = t.cps.toList.length := by simp [Str.length]
      rw [this, ht]
    have tok : PyData.strOk t = true := ok_iff.mpr fun c hc => LET_ok c (hcs c (by rw [← ht]; exact hc))
    refine sv_parS (Θ := fun ds O' => (∃ n : Int, ds = [.str t, .int n] ∧ 0 ≤ n ∧ n < cs.length) ∧ O' = [(b, .bag), (p, .lst acc)]) ?_ ?_
    · refine ea_consG (Φ := ex (.str t) [(b, .bag), (p, .lst acc)]) (Θ := fun _ _ ds O' => (∃ n : Int, ds = [.int n] ∧ 0 ≤ n ∧ n < cs.length) ∧ O' = [(b, .bag), (p, .lst acc)]) ?_ ?_ ?_
      · refine ev_join (x := .lst (cs.map sgn)) (ss := cs.map one) ev_str (ev_var rfl) (by rw [← sgns]; exact so_lst) ?_
        rw [sum_ones, List.length_map]
        have : ("" : Str).length = 0 := rfl
        rw [this]
        omega
      · rintro _ _ ⟨rfl, rfl⟩
        refine ea_consG (Φ := fun d O' => (∃ r, d = .int r ∧ 0 ≤ r ∧ r < (cs.length : Int)) ∧ O' = [(b, .bag), (p, .lst acc)]) (Θ := fun _ _ => exl [] [(b, .bag), (p, .lst acc)]) ?_ ?_ ?_
        · exact ev_take (R := [(p, .lst acc)]) (ea_cons (by walk_at "ev") (ea_cons (ev_is (ev_cb (ea_cons (ev_var rfl) ea_nil) (cad_len so_lst)) (by rw [List.length_map])) ea_nil)) (by omega) (by omega)
        · rintro _ _ ⟨_, rfl⟩
          exact ea_nil
        · rintro _ _ _ _ ⟨⟨n, rfl, h⟩, rfl⟩ ⟨rfl, rfl⟩
          exact ⟨⟨n, rfl, h⟩, rfl⟩
      · rintro _ _ _ _ ⟨rfl, rfl⟩ ⟨⟨n, rfl, h⟩, rfl⟩
        exact ⟨⟨n, rfl, h⟩, rfl⟩
    rintro _ _ ⟨⟨n, rfl, hn0, hn1⟩, rfl⟩
    refine ⟨_, _, rfl, ?_⟩
    walk_at "nm"
    have l1 : ∀ lo hi, (cutS t lo hi).length ≤ 8 := fun lo hi => by
      have := cutS_length t lo hi
      omega
    refine sv_drop (Φ := fun d O' => ∃ m : Str, O' = [(b, .bag), (p, .lst (acc ++ [.str t, .str m, .tup [.str t, .str t], .str (t ++ t)]))] ∧ PyData.strOk m = true ∧ m.length ≤ 17) ?_ ?_
    · refine ev_bmL (Θ := fun xs O1 => (∃ m : Str, xs = [.lst [.str t, .str m, .tup [.str t, .str t], .str (t ++ t)]] ∧ PyData.strOk m = true ∧ m.length ≤ 17) ∧ O1 = [(b, .bag), (p, .lst acc)]) (ev_var rfl) (List.mem_cons_of_mem _ (List.mem_cons_self ..)) ?_ ?_
      · refine ea_consG (Φ := fun d O' => O' = [(b, .bag), (p, .lst acc)] ∧ ∃ ds, d = .lst ds ∧ ∃ m : Str, ds = [.str t, .str m, .tup [.str t, .str t], .str (t ++ t)] ∧ PyData.strOk m = true ∧ m.length ≤ 17) (Θ := fun _ _ => exl [] [(b, .bag), (p, .lst acc)]) (ev_frzG ((ev_lstG (Φ' := fun ds O' => O' = [(b, .bag), (p, .lst acc)] ∧ ∃ m : Str, ds = [.str t, .str m, .tup [.str t, .str t], .str (t ++ t)] ∧ PyData.strOk m = true ∧ m.length ≤ 17) ?_ ?_).imp ?_)) ?_ ?_
        · refine ea_consG (Φ := ex (.str t) [(b, .bag), (p, .lst acc)]) (Θ := fun _ _ ds O' => O' = [(b, .bag), (p, .lst acc)] ∧ ∃ m : Str, ds = [.str m, .tup [.str t, .str t], .str (t ++ t)] ∧ PyData.strOk m = true ∧ m.length ≤ 17) (ev_var rfl) ?_ ?_
          · rintro _ _ ⟨rfl, rfl⟩
            refine ea_consG (Φ := fun d O' => (∃ m : Str, d = .str m ∧ PyData.strOk m = true ∧ m.length ≤ 17) ∧ O' = [(b, .bag), (p, .lst acc)]) (Θ := fun _ _ => exl [.tup [.str t, .str t], .str (t ++ t)] [(b, .bag), (p, .lst acc)]) ?_ ?_ ?_
            · refine ev_opG (Φ := fun d O' => (∃ m : Str, d = .str m ∧ PyData.strOk m = true ∧ m.length ≤ 9) ∧ O' = [(b, .bag), (p, .lst acc)]) (Θ := fun _ _ => ex (.str (cutS t (some (n + 1)) none)) [(b, .bag), (p, .lst acc)]) ?_ ?_ ?_
              · refine ev_opG (Φ := ex (.str (cutS t none (some n))) [(b, .bag), (p, .lst acc)]) (Θ := fun _ _ d O' => (∃ c, c ∈ ("A0_{" : Str).cps.toList ∧ d = .str (one c)) ∧ O' = [(b, .bag), (p, .lst acc)]) (ev_sl (x := .str t) (ev_var rfl) eo_none (eo_some (ev_var rfl)) (sld_str (by omega))) ?_ ?_
                · rintro _ _ ⟨rfl, rfl⟩
                  exact ev_pickS (n := 4) ev_str (ev_take (R := [(p, .lst acc)]) (by walk_at "ev") (by decide) (by decide)) (by decide) (by decide)
                · rintro _ _ _ _ ⟨rfl, rfl⟩ ⟨⟨c, hc, rfl⟩, rfl⟩
                  have a1 := l1 none (some n)
                  have a2 : (one c).length = 1 := rfl
                  have a3 : PyData.strOk (one c) = true := ok_iff.mpr fun c' h => by
                    have : c' = c := by simpa [one] using h
                    subst this
                    exact (show ∀ c ∈ ("A0_{" : Str).cps.toList, c < 1114112 by decide +kernel) _ hc
                  exact (opd_plusS (by omega)).imp fun d O' q => ⟨⟨_, q.1, ok_append (ok_cut tok) a3, by rw [strLen_append]; omega⟩, q.2⟩
              · rintro _ _ ⟨_, rfl⟩
                exact ev_sl (x := .str t) (ev_var rfl) (eo_some (ev_op (ev_var rfl) ev_int opd_plusI)) eo_none (sld_str (by omega))
              · rintro _ _ _ _ ⟨⟨m, rfl, h1, h2⟩, rfl⟩ ⟨rfl, rfl⟩
                have a1 := l1 (some (n + 1)) none
                exact (opd_plusS (by omega)).imp fun d O' q => ⟨⟨_, q.1, ok_append h1 (ok_cut tok), by rw [strLen_append]; omega⟩, q.2⟩
            · rintro _ _ ⟨_, rfl⟩
              exact ea_cons (by walk_at "ev") (ea_cons (ev_op (ev_var rfl) (ev_var rfl) (opd_plusS (by omega))) ea_nil)
            · rintro _ _ _ _ ⟨⟨m, rfl, h⟩, rfl⟩ ⟨rfl, rfl⟩
              exact ⟨rfl, m, rfl, h⟩
          · rintro _ _ _ _ ⟨rfl, rfl⟩ ⟨rfl, m, rfl, h⟩
            exact ⟨rfl, m, rfl, h⟩
        · rintro _ _ ⟨_, m, rfl, _⟩
          simp
        · rintro _ _ ⟨q, ds, O1, rfl, rfl, rfl, h⟩
          exact ⟨q, ds, rfl, rfl, h⟩
        · rintro _ _ ⟨rfl, _⟩
          exact ea_nil
        · rintro _ _ _ _ ⟨rfl, _, rfl, m, rfl, h⟩ ⟨rfl, rfl⟩
          exact ⟨⟨m, rfl, h⟩, rfl⟩
      · rintro _ _ ⟨⟨m, rfl, h⟩, rfl⟩ F2 H2 v vs k1 k2 k3 k4 k5 Q q
        exact bmd_extend (i := 1) (p := p) (ds := acc) rfl lo_lst (by simp; omega) F2 H2 v vs k1 k2 k3 k4 k5 Q fun w F' H' d' O' g b1 kk pp => q w F' H' d' O' g b1 kk ⟨m, pp.2, h⟩
    · rintro _ _ ⟨m, rfl, hm1, hm2⟩
      refine ⟨_, _, _, _, _, _, rfl, rfl, by simp; omega, ?_⟩
      intro e he
      rcases List.mem_append.mp he with he | he
      · exact hacc e he
      simp only [List.mem_cons, List.not_mem_nil, or_false] at he
      rcases he with rfl | rfl | rfl | rfl
      · exact (nic_str (n := 8) tok (by omega)).good (by decide) (by decide)
      · exact (nic_str hm1 hm2).good (by decide) (by decide)
      · refine (nic_tup (D := 0) (S := 82) (n := 2) (ds := [.str t, .str t]) (fun e m => ?_) (by simp)).good (by decide) (by decide)
        simp only [List.mem_cons, List.not_mem_nil, or_false, or_self] at m
        rw [m]
        exact nic_str (n := 8) tok (by omega)
      · exact (nic_str (n := 16) (ok_append tok tok) (by rw [strLen_append]; omega)).good (by decide) (by decide)
  · rintro _ _ ⟨acc, x7, x8, x9, x10, x11, rfl, rfl, hl, hacc⟩
    rw [rng_len] at hl
    refine sv_frz (p := p) (i := 6) (ds := acc) (by simp) rfl fun O' hO => ?_
    have hO' : O' = [(b, .bag)] := by
      have h1 : [(b, Ow.bag), (p, Ow.lst acc)].Perm ((p, .lst acc) :: [(b, .bag)]) := List.Perm.swap ..
      have h2 := (List.Perm.cons_inv (hO.symm.trans h1))
      exact List.perm_singleton.mp h2
    subst hO'
    walk_at "nm"
    refine sv_ret ((ev_frzG (Φ' := fun ds => ds.length ≤ 5000 ∧ ∀ e ∈ ds, good e) (ev_opG (Φ := ex (.lst (TXD ++ acc)) [(b, .bag)]) (Θ := fun _ _ d O' => O' = [(b, .bag)] ∧ ∃ ds, d = .lst ds ∧ ds.length = 4 ∧ ∀ e ∈ ds, e ∈ ODD1 ++ ODD2) ?_ ?_ ?_)).imp ?_)
    · exact ev_frz (ev_op (x := .lst TXD) (y := .lst acc) (ev_var rfl) (ev_var rfl) (opd_plusL lo_lst lo_lst (by simp; omega)))
    · rintro _ _ ⟨rfl, rfl⟩
      refine ev_frzG ((ev_lc (E' := E0) (T := fun d Δ => Δ.set 7 (some d)) (js := [7]) (Θ := exl (rng 0 (4 : Int).toNat) [(b, .bag)]) (P := fun ds i acc => acc.length = i ∧ ∀ e ∈ acc, e ∈ ODD1 ++ ODD2) (iv_range1 (n := 4) (by walk_at "ev") (by decide) (by decide)) ?_ (fun _ _ _ _ _ _ => gv_name 7) (by simp) ?_ ?_).imp ?_)
      · rintro _ _ ⟨rfl, rfl⟩
        exact ⟨rfl, by rw [rng_len]; decide⟩
      · rintro _ _ _
        exact ⟨rfl, by simp⟩
      · rintro ds O' i d acc2 hΘ hd2 ⟨hlen, hm⟩
        refine et_yes.imp fun bb O1 hb => ⟨hb.2, fun _ => ?_, fun hf => by rw [hb.1] at hf; cases hf⟩
        refine Ev.imp (Φ := fun d O' => d ∈ ODD1 ++ ODD2 ∧ O' = [(b, .bag)]) (ev_callB (C := fun es => es = []) (S := fun es d => d ∈ ODD1 ++ ODD2) (R := []) (ds := []) (by walk_at "ev") rfl) ?_
        rintro d' O' ⟨q1, q2⟩
        refine ⟨q2, by rw [List.length_append, hlen]; rfl, fun e he => ?_⟩
        rcases List.mem_append.mp he with he | he
        · exact hm e he
        · rw [List.mem_singleton.mp he]; exact q1
      · rintro d' O' ⟨q, res, rfl, rfl, ds, ⟨rfl, _⟩, hlen, hm⟩
        rw [rng_len] at hlen
        exact ⟨q, _, rfl, rfl, hlen, hm⟩
    · rintro _ _ _ _ ⟨rfl, rfl⟩ ⟨rfl, ds, rfl, hl4, hm⟩
      refine (opd_plusL lo_lst lo_lst (by simp; omega)).imp fun d' O' q => ?_
      obtain ⟨qq, rfl, rfl⟩ := q
      refine ⟨qq, _, rfl, rfl, by simp; omega, fun e he => ?_⟩
      rcases List.mem_append.mp he with he | he
      · rcases List.mem_append.mp he with he | he
        · exact (nic_txd e he).good (by decide) (by decide)
        · exact hacc e he
      · exact good_odd e (hm e he)
    · rintro _ _ ⟨rfl, ds, rfl, h⟩
      exact ⟨⟨ds, rfl, h⟩, rfl⟩
end
end LK

set_option Elab.async false
set_option linter.all false
set_option maxRecDepth 100000
set_option maxHeartbeats 400000
namespace LK
open PySem PySem.Spec PyProof.Rows L2 FF
open Evl (Ex)
local macro_rules | `(tactic| walk_at "ev") => `(tactic| repeat' (first
  | (with_reducible exact ev_int) | (with_reducible exact ev_bl) | (with_reducible exact ev_str) | (with_reducible exact ev_non) | (with_reducible exact ev_ty)
  | ((with_reducible apply ev_var); exact rfl) | (with_reducible exact ea_nil)
  | (with_reducible apply ev_op) | (with_reducible apply ev_un) | (with_reducible apply ev_cb) | (with_reducible apply ea_cons)
  | (with_reducible refine' ev_andV ?_ (fun _ => ?_)) | (with_reducible refine' ev_orV ?_ (fun _ => ?_)) | (with_reducible apply ev_notV)
  | ((with_reducible apply cad_isiInt); first | assumption | rfl) | ((with_reducible apply cad_isiBool); first | assumption | rfl) | ((with_reducible apply cad_isiStr); first | assumption | rfl) | ((with_reducible apply cad_isiTup); first | assumption | rfl) | ((with_reducible apply cad_isiList); first | assumption | rfl) | ((with_reducible apply cad_isiDict); first | assumption | rfl)
  | (with_reducible apply et_test) | (with_reducible apply et_B) | (with_reducible apply et_not)
  | (with_reducible exact opd_plusI) | (with_reducible exact opd_I0) | (with_reducible exact opd_B0) | (with_reducible exact opd_eqUI) | (with_reducible exact opd_neUI) | (with_reducible exact opd_eqUS) | (with_reducible exact opd_neUS) | (with_reducible exact und_neg)
  | (with_reducible exact cad_int) | (with_reducible exact cad_abs)
  | ((with_reducible apply opd_ix (so_own (List.mem_cons_self ..))); exact rfl) | (with_reducible exact cad_len so_lst)
  | ((with_reducible apply ev_intC); first | rfl | omega) | (with_reducible apply opd_timesI) | (with_reducible apply opd_I)
  | (with_reducible apply ev_lst) | (with_reducible apply ev_tup) | (with_reducible exact ev_dnewK) | ((with_reducible show List.length _ ≤ 100000); first | decide | simp) | ((with_reducible apply opd_pow); exact ⟨by decide, by decide, by decide⟩)
  | ((with_reducible apply cmul_l) <;> omega) | ((with_reducible apply cmul_r) <;> omega) | ((with_reducible apply cdiv) <;> omega)
  | ((with_reducible show (0 : Int) < _); omega)))
local macro_rules | `(tactic| walk_at "nm") => `(tactic| (try simp only [List.set_cons_zero, List.set_cons_succ, List.nil_append, List.cons_append]))
local macro_rules | `(tactic| walk_at "go") => `(tactic| (simp only [Cx.nox, Cx.wish, cxOf, startD, List.length_cons, List.length_nil, List.map_cons, List.map_nil, Nat.reduceAdd, Nat.reduceSub, List.replicate_succ, List.replicate_zero, List.cons_append, List.nil_append]))

section
variable {P : Program} {w : World} {K : PySem.W.Frag} {mg : Str → Option Value} {base : Heap}
theorem aOk_nic {D S : Nat} {d : Dt} (h : Nic D S d) (hD : D ≤ 60) (hS : S ≤ 100000) : aOk d := by
  have g := h.good hD hS
  have hd := h.dep
  refine ⟨?_, g.1.2, g.1.1.2, g.2.1⟩
  simp only [Dt.eok, h.ok, Bool.true_and, decide_eq_true_eq]
  omega
theorem nic_bl {b : Bool} : Nic 0 5 (.bl b) := ⟨rfl, rfl, Nat.le_refl _, Nat.le_refl _⟩
theorem good_n {d : Dt} (h : good d) : nOk d := ⟨h.1.1.1, h.1.1.2, h.2.1⟩
theorem good_w {d : Dt} (h : good d) : wOk d := ⟨good_n h, fun ds e x m => (h.2.2 ds e x m).1⟩
theorem good_w2 {d : Dt} (h : good d) : wOk2 d := ⟨good_w h, fun ds e x m => (h.2.2 ds e x m).2⟩
abbrev TOLD (m : Int) (d : Dt) : List Dt := [.bl (isInt d), .bl (isName d), .bl (isWord d), .bl (isInt d && inRange (.int m) d)]
theorem told_ok (m : Int) (d : Dt) : aOk (.lst (TOLD m d)) := by
  refine aOk_nic (nic_lst (D := 0) (S := 5) (n := 4) (fun e h => ?_) (by simp)) (by decide) (by decide)
  simp only [List.mem_cons, List.not_mem_nil, or_false] at h
  rcases h with rfl | rfl | rfl | rfl <;> exact nic_bl
theorem ev_callBG {E : XK} {E' : XK} {Ψ : XPost} {Δ : Env_} {R : Own} {b : Addr} {C : List Dt → Prop} {S : List Dt → Dt → Prop} {Θ : List Dt → Prop} {ts : TA} (ha : EvA K E Ψ ts Δ ((b, .bag) :: R) (fun xs O' => (∃ ds, xs = .ref b :: ds ∧ Θ ds) ∧ O' = (b, .bag) :: R)) (hc : ∀ ds, Θ ds → C ds) :
    Ev K E Ψ (tCall (mkSp K (preB C S)) [] E' ts) Δ ((b, .bag) :: R) (fun d O' => (∃ ds, Θ ds ∧ S ds d) ∧ O' = (b, .bag) :: R) :=
  ev_call0 ha fun ds' O1 h => by
    obtain ⟨⟨ds, rfl, hΘ⟩, rfl⟩ := h
    exact ⟨[(b, .bag)], R, (fun d O' => S ds d ∧ O' = [(b, .bag)]), rfl, ⟨b, ds, rfl, hc ds hΘ, rfl, rfl, rfl⟩, fun d O2 p => ⟨⟨ds, hΘ, p.1⟩, by rw [p.2]; rfl⟩⟩
theorem law_ok (T : Top K mg) : LawG P w K mg 12 "law" s_law "_law_script" := by
  refine lawG_of sc_law ?_
  intro base f cdv A outer s H E g hr
  have z_range := T.z_range
  have z_repr := T.z_repr
  have h_l_bag := ok_l_bag (P := P) (w := w) (base := base) T
  have h_l_mixed := ok_l_mixed (P := P) (w := w) (base := base) T
  have h_l_take := ok_l_take (P := P) (w := w) (base := base) T
  have h_l_things := ok_l_things (P := P) (w := w) (base := base) T
  have h_l_is_plain := ok_l_is_plain (P := P) (w := w) (base := base) T
  have h_l_is_name := ok_l_is_name (P := P) (w := w) (base := base) T
  have h_l_is_word := ok_l_is_word (P := P) (w := w) (base := base) T
  have h_is_integer := ok_is_integer (P := P) (w := w) (base := base) T
  have h_is_name := ok_is_name (P := P) (w := w) (base := base) T
  have h_is_word := ok_is_word (P := P) (w := w) (base := base) T
  have h_is_number := ok_is_number (P := P) (w := w) (base := base) T
  have h_l_alike := ok_l_alike (P := P) (w := w) (base := base) T
  refine ⟨_, (pss_cons (pset 1 sc_law.nd (pe_hasG h_l_bag g (hr.mono (by decide)) (by rfl) pass0 (pa_cons (pv 0) pa_nil)))
       (pss_cons (ps_for PassesOwn.never rfl (pi_list (pe_hasG h_l_mixed g (hr.mono (by decide)) (by rfl) pass0 (pa_cons (pv 1) (pa_cons (pe_hasG h_l_things g (hr.mono (by decide)) (by rfl) pass0 (pa_cons (pv 1) pa_nil)) pa_nil)))) (pgn 2 sc_law.nd)
       (pss_cons (ps_par (i := 3) (j := 4) rfl sc_law.nd rfl rfl (by decide) rfl rfl (pa_cons (pe_ix ix_seq (pe_lst (pa_cons pe_int (pa_cons pe_int (pa_cons pe_int (pa_cons pe_int (pa_cons pe_int (pa_cons (pe_op op_pow pe_int pe_int) pa_nil))))))) (pe_hasG h_l_take g (hr.mono (by decide)) (by rfl) pass0 (pa_cons (pv 1) (pa_cons pe_int pa_nil))) (fun _ _ => rfl)) (pa_cons (pe_callB (call_reprD g (hu100 hr)) (by rfl) z_repr (by decide +kernel) (pa_cons (pv 2) pa_nil)) pa_nil)) (by rfl))
       (pss_cons (pset 5 sc_law.nd (pe_hasG h_l_is_plain g (hr.mono (by decide)) (by rfl) pass0 (pa_cons (pv 2) pa_nil)))
       (pss_cons (pset 6 sc_law.nd (pe_lst (pa_cons (pv 5) (pa_cons (pe_hasG h_l_is_name g (hr.mono (by decide)) (by rfl) pass0 (pa_cons (pv 2) pa_nil)) (pa_cons (pe_hasG h_l_is_word g (hr.mono (by decide)) (by rfl) pass0 (pa_cons (pv 2) pa_nil)) (pa_cons (pe_and (pv 5) (pe_one (pe_chain op_le op_lt pe_int (pv 2) (pv 3)))) pa_nil))))))
       (pss_one (ps_for PassesOwn.never rfl (pi_range1 rfl z_range (pa_cons pe_int pa_nil)) (pgn 7 sc_law.nd)
       (pss_cons (pset 8 sc_law.nd (pe_lst (pa_cons (pe_hasG h_is_integer g (hr.mono (by decide)) (by rfl) pass0 (pa_cons (pv 2) pa_nil)) (pa_cons (pe_hasG h_is_name g (hr.mono (by decide)) (by rfl) pass0 (pa_cons (pv 2) pa_nil)) (pa_cons (pe_hasG h_is_word g (hr.mono (by decide)) (by rfl) pass0 (pa_cons (pv 2) pa_nil)) (pa_cons (pe_hasG h_is_number g (hr.mono (by decide)) (by rfl) pass0 (pa_cons (pv 3) (pa_cons (pv 2) pa_nil))) pa_nil))))))
       (pss_one (ps_if (PW.pt (pw_or (pt_not (pt_val (pe_hasG h_l_alike g (hr.mono (by decide)) (by rfl) pass0 (pa_cons (pv 8) (pa_cons (pv 6) pa_nil))))) (pw_or1 (pt_cmpR (op_neU (hu64 hr)) (pe_callB (call_reprD g (hu100 hr)) (by rfl) z_repr (by decide +kernel) (pa_cons (pv 2) pa_nil)) (pv 4) (nomark _)))))
       (pss_one (ps_ret pe_bl))
       pss_nil)))))))))
       (pss_one (ps_ret pe_bl)))), ?_⟩
  intro ns hns
  walk_at "go"
  refine sv_setS (Φ := fun d O' => ∃ b, d = .ref b ∧ O' = [(b, .bag)]) ?_ ?_
  · refine ev_call0 (Θ := exl [.frl (ns.map .int)] []) (ea_cons (ev_var rfl) ea_nil) ?_
    rintro _ _ ⟨rfl, rfl⟩
    exact ⟨[], [], _, rfl, ⟨ns, rfl, hns, rfl, rfl, rfl⟩, fun d O2 p => by rw [List.append_nil]; exact p⟩
  rintro _ _ ⟨b, rfl, rfl⟩
  walk_at "nm"
  refine sv_seq (M := fun Δ' O' => ∃ x2 x3 x4 x5 x6 x7 x8, Δ' = [some (.frl (ns.map .int)), some (.ref b), x2, x3, x4, x5, x6, x7, x8] ∧ O' = [(b, .bag)]) ?_ ?_
  · refine sv_for (T := fun d Δ => Δ.set 2 (some d)) (js := [2]) (Θ := fun ds O' => (∀ e ∈ ds, good e) ∧ O' = [(b, .bag)]) (iv_list ?_) (fun _ _ _ d _ _ => gv_name 2) (fun ds i Δ' O' => ∃ x2 x3 x4 x5 x6 x7 x8, Δ' = [some (.frl (ns.map .int)), some (.ref b), x2, x3, x4, x5, x6, x7, x8] ∧ O' = [(b, .bag)]) ?_ ?_ ?_
    · refine (ev_callBG (R := []) (Θ := fun es => ∃ ds, es = [.lst ds] ∧ ds.length ≤ 5000 ∧ ∀ e ∈ ds, good e) (ea_consG (Φ := ex (.ref b) [(b, .bag)]) (Θ := fun _ _ xs O' => (∃ ds, xs = [.lst ds] ∧ ds.length ≤ 5000 ∧ ∀ e ∈ ds, good e) ∧ O' = [(b, .bag)]) (ev_var rfl) ?_ ?_) ?_).imp ?_
      · rintro _ _ ⟨rfl, rfl⟩
        refine ea_consG (Φ := fun d O' => (∃ ds, d = .lst ds ∧ ds.length ≤ 5000 ∧ ∀ e ∈ ds, good e) ∧ O' = [(b, .bag)]) (Θ := fun _ _ => exl [] [(b, .bag)]) ?_ ?_ ?_
        · exact ev_callB (C := fun es => es = []) (S := fun es d => ∃ ds, d = .lst ds ∧ ds.length ≤ 5000 ∧ ∀ e ∈ ds, good e) (R := []) (ds := []) (by walk_at "ev") rfl
        · rintro _ _ ⟨_, rfl⟩
          exact ea_nil
        · rintro _ _ _ _ ⟨⟨ds, rfl, h⟩, rfl⟩ ⟨rfl, rfl⟩
          exact ⟨⟨ds, rfl, h⟩, rfl⟩
      · rintro _ _ _ _ ⟨rfl, rfl⟩ ⟨⟨ds, rfl, h⟩, rfl⟩
        exact ⟨⟨_, rfl, ds, rfl, h⟩, rfl⟩
      · rintro _ ⟨ds, rfl, h, _⟩
        exact ⟨ds, rfl, h⟩
      · rintro _ _ ⟨⟨_, ⟨ds, rfl, h1, h2⟩, ds', fs, e, rfl, hp⟩, rfl⟩
        cases e
        exact ⟨fs, rfl, fun e m => h2 e (hp.mem_iff.mp m), rfl⟩
    · rintro ds _ ⟨_, rfl⟩
      exact ⟨_, _, _, _, _, _, _, rfl, rfl⟩
    · rintro ds _ i d _ _ ⟨hg, rfl⟩ hd ⟨x2, x3, x4, x5, x6, x7, x8, rfl, rfl⟩
      have gd : good d := hg d (List.mem_of_getElem? hd)
      have hk : kd d = true := gd.1.1.1
      have hz : (shw d).length ≤ 100000 := Nat.le_trans (shw_le d gd.1.1.2) gd.2.1
      walk_at "nm"
      refine sv_parS (Θ := fun xs O' => (∃ m : Int, xs = [.int m, .str (shw d)]) ∧ O' = [(b, .bag)]) ?_ ?_
      · refine ea_consG (Φ := fun d O' => (∃ m : Int, d = .int m) ∧ O' = [(b, .bag)]) (Θ := fun _ _ => exl [.str (shw d)] [(b, .bag)]) ?_ ?_ ?_
        · refine (ev_pick (n := 6) (R := []) (ds := [.int 0, .int 1, .int 2, .int 3, .int 64, .int ((10 : Int) ^ (20 : Int).toNat)]) (ev_lst ?_ (by simp)) (ev_take (by walk_at "ev") (by decide) (by decide)) (by simp)).imp ?_
          · walk_at "ev"
            exact ⟨by decide, by decide, by decide⟩
          · rintro d' O' ⟨hd', rfl⟩
            simp only [List.mem_cons, List.not_mem_nil, or_false] at hd'
            rcases hd' with rfl | rfl | rfl | rfl | rfl | rfl <;> exact ⟨⟨_, rfl⟩, rfl⟩
        · rintro _ _ ⟨_, rfl⟩
          exact ea_cons (ev_cb (ea_cons (ev_var rfl) ea_nil) (cad_repr gd.1.2 hz)) ea_nil
        · rintro _ _ _ _ ⟨⟨m, rfl⟩, rfl⟩ ⟨rfl, rfl⟩
          exact ⟨⟨m, rfl⟩, rfl⟩
      rintro _ _ ⟨⟨m, rfl⟩, rfl⟩
      refine ⟨_, _, rfl, ?_⟩
      walk_at "nm"
      refine sv_setE (ev_call1 (ea_cons (ev_var rfl) ea_nil) hk) ?_
      walk_at "nm"
      refine sv_setE (d := .lst (TOLD m d)) ?_ ?_
      · refine ev_lst (ea_cons (ev_var rfl) (ea_cons (ev_call1 (ea_cons (ev_var rfl) ea_nil) (good_n gd)) (ea_cons (ev_call1 (ea_cons (ev_var rfl) ea_nil) (good_w2 gd)) (ea_cons ?_ ea_nil)))) (by simp)
        refine ev_andV (b := isInt d) (ev_var rfl) (fun hi => ?_)
        cases d with
        | int j => exact ev_chain (x := .int 0) (y := .int j) (by walk_at "ev") (by walk_at "ev") (by walk_at "ev") (fun _ => by walk_at "ev") (fun _ => by walk_at "ev")
        | _ => simp [isInt, isiInt, isiBool] at hi
      walk_at "nm"
      refine sv_for (T := fun d Δ => Δ.set 7 (some d)) (js := [7]) (Θ := exl (rng 0 (2 : Int).toNat) [(b, .bag)]) (iv_range1 (n := 2) (by walk_at "ev") (by decide) (by decide)) (fun _ _ _ d _ _ => gv_name 7) (fun _ i Δ' O' => ∃ x7 x8, Δ' = [some (.frl (ns.map .int)), some (.ref b), some d, some (.int m), some (.str (shw d)), some (.bl (isInt d)), some (.lst (TOLD m d)), x7, x8] ∧ O' = [(b, .bag)]) ?_ ?_ ?_
      · rintro _ _ ⟨rfl, rfl⟩
        exact ⟨_, _, rfl, rfl⟩
      · rintro _ _ i2 d2 _ _ ⟨rfl, rfl⟩ hd2 ⟨x7, x8, rfl, rfl⟩
        walk_at "nm"
        refine sv_setE (d := .lst (TOLD m d)) ?_ ?_
        · exact ev_lst (ea_cons (ev_call1 (ea_cons (ev_var rfl) ea_nil) hk) (ea_cons (ev_call1 (ea_cons (ev_var rfl) ea_nil) (good_n gd)) (ea_cons (ev_call1 (ea_cons (ev_var rfl) ea_nil) (good_w gd)) (ea_cons (ev_call2 (ea_cons (ev_var rfl) (ea_cons (ev_var rfl) ea_nil)) ⟨hk, m, rfl⟩) ea_nil)))) (by simp)
        walk_at "nm"
        have to := told_ok m d
        refine sv_if (b := !(eqd (.lst (TOLD m d)) (.lst (TOLD m d)) && decide (shw (.lst (TOLD m d)) = shw (.lst (TOLD m d)))) || !decide (shw d = shw d)) ?_ (fun h => ?_) (fun _ => ?_)
        · exact et_or (et_not (et_B (ev_call2 (ea_cons (ev_var rfl) (ea_cons (ev_var rfl) ea_nil)) ⟨to, to⟩))) (fun _ => et_test (ev_op (ev_cb (ea_cons (ev_var rfl) ea_nil) (cad_repr gd.1.2 hz)) (ev_var rfl) opd_neUS))
        · rw [eqd_refl (eok_ok to.1)] at h
          simp at h
        · exact sv_next ⟨_, _, rfl, rfl⟩
      · rintro _ _ _ _ _ ⟨x7, x8, rfl, rfl⟩
        exact ⟨_, _, _, _, _, _, _, rfl, rfl⟩
    · rintro _ _ _ _ _ h
      exact h
  · rintro _ _ ⟨x2, x3, x4, x5, x6, x7, x8, rfl, rfl⟩
    exact sv_retE ev_bl rfl
end
end LK

namespace LK
open PySem PySem.Spec PyProof.Rows L2 FF
theorem all_mk {K : PySem.W.Frag} {h : Heap} {mg : Str → Option Value} (X : K.In h) (G : h.Ns mainGlobals mg)
    {f0 : Addr} {od0 an0 : Option Addr} {sl0 : Array (Option Value)} {oc0 kV0 dc0 pm0 cd0 ct0 : Value}
    {f1 : Addr} {od1 an1 : Option Addr} {sl1 : Array (Option Value)} {oc1 kV1 dc1 pm1 cd1 ct1 : Value}
    {f2 : Addr} {od2 an2 : Option Addr} {sl2 : Array (Option Value)} {oc2 kV2 dc2 pm2 cd2 ct2 : Value}
    {f3 : Addr} {od3 an3 : Option Addr} {sl3 : Array (Option Value)} {oc3 kV3 dc3 pm3 cd3 ct3 : Value}
    {f4 : Addr} {od4 an4 : Option Addr} {sl4 : Array (Option Value)} {oc4 kV4 dc4 pm4 cd4 ct4 : Value}
    {f5 : Addr} {od5 an5 : Option Addr} {sl5 : Array (Option Value)} {oc5 kV5 dc5 pm5 cd5 ct5 : Value}
    {f6 : Addr} {od6 an6 : Option Addr} {sl6 : Array (Option Value)} {oc6 kV6 dc6 pm6 cd6 ct6 : Value}
    {f7 : Addr} {od7 an7 : Option Addr} {sl7 : Array (Option Value)} {oc7 kV7 dc7 pm7 cd7 ct7 : Value}
    {f8 : Addr} {od8 an8 : Option Addr} {sl8 : Array (Option Value)} {oc8 kV8 dc8 pm8 cd8 ct8 : Value}
    {f9 : Addr} {od9 an9 : Option Addr} {sl9 : Array (Option Value)} {oc9 kV9 dc9 pm9 cd9 ct9 : Value}
    {f10 : Addr} {od10 an10 : Option Addr} {sl10 : Array (Option Value)} {oc10 kV10 dc10 pm10 cd10 ct10 : Value}
    {f11 : Addr} {od11 an11 : Option Addr} {sl11 : Array (Option Value)} {oc11 kV11 dc11 pm11 cd11 ct11 : Value}
    {f12 : Addr} {od12 an12 : Option Addr} {sl12 : Array (Option Value)} {oc12 kV12 dc12 pm12 cd12 ct12 : Value}
    {f13 : Addr} {od13 an13 : Option Addr} {sl13 : Array (Option Value)} {oc13 kV13 dc13 pm13 cd13 ct13 : Value}
    {f14 : Addr} {od14 an14 : Option Addr} {sl14 : Array (Option Value)} {oc14 kV14 dc14 pm14 cd14 ct14 : Value}
    (a0 : PySem.W.nsIn K mainGlobals "is_integer" = some (some (.ref f0))) (l0 : K.lookup f0 = some ⟨oc0, od0, .func (PySem.W.fnOf "is_integer" "is_integer" (defArgs s_is_integer) (defBody s_is_integer) (defScope s_is_integer) .none kV0 dc0 pm0 an0 cd0 ct0), sl0⟩) (c0 : PySem.W.codeIn K cd0 "is_integer" = true) (k0 : PySem.W.keepIn K (.ref f0) = true)
    (a1 : PySem.W.nsIn K mainGlobals "is_number" = some (some (.ref f1))) (l1 : K.lookup f1 = some ⟨oc1, od1, .func (PySem.W.fnOf "is_number" "is_number" (defArgs s_is_number) (defBody s_is_number) (defScope s_is_number) .none kV1 dc1 pm1 an1 cd1 ct1), sl1⟩) (c1 : PySem.W.codeIn K cd1 "is_number" = true) (k1 : PySem.W.keepIn K (.ref f1) = true)
    (a2 : PySem.W.nsIn K mainGlobals "is_name" = some (some (.ref f2))) (l2 : K.lookup f2 = some ⟨oc2, od2, .func (PySem.W.fnOf "is_name" "is_name" (defArgs s_is_name) (defBody s_is_name) (defScope s_is_name) .none kV2 dc2 pm2 an2 cd2 ct2), sl2⟩) (c2 : PySem.W.codeIn K cd2 "is_name" = true) (k2 : PySem.W.keepIn K (.ref f2) = true)
    (a3 : PySem.W.nsIn K mainGlobals "is_word" = some (some (.ref f3))) (l3 : K.lookup f3 = some ⟨oc3, od3, .func (PySem.W.fnOf "is_word" "is_word" (defArgs s_is_word) (defBody s_is_word) (defScope s_is_word) .none kV3 dc3 pm3 an3 cd3 ct3), sl3⟩) (c3 : PySem.W.codeIn K cd3 "is_word" = true) (k3 : PySem.W.keepIn K (.ref f3) = true)
    (a4 : PySem.W.nsIn K mainGlobals "_law_bag" = some (some (.ref f4))) (l4 : K.lookup f4 = some ⟨oc4, od4, .func (PySem.W.fnOf "_law_bag" "_law_bag" (defArgs s_l_bag) (defBody s_l_bag) (defScope s_l_bag) .none kV4 dc4 pm4 an4 cd4 ct4), sl4⟩) (c4 : PySem.W.codeIn K cd4 "_law_bag" = true) (k4 : PySem.W.keepIn K (.ref f4) = true)
    (a5 : PySem.W.nsIn K mainGlobals "_law_take" = some (some (.ref f5))) (l5 : K.lookup f5 = some ⟨oc5, od5, .func (PySem.W.fnOf "_law_take" "_law_take" (defArgs s_l_take) (defBody s_l_take) (defScope s_l_take) .none kV5 dc5 pm5 an5 cd5 ct5), sl5⟩) (c5 : PySem.W.codeIn K cd5 "_law_take" = true) (k5 : PySem.W.keepIn K (.ref f5) = true)
    (a6 : PySem.W.nsIn K mainGlobals "_law_alike" = some (some (.ref f6))) (l6 : K.lookup f6 = some ⟨oc6, od6, .func (PySem.W.fnOf "_law_alike" "_law_alike" (defArgs s_l_alike) (defBody s_l_alike) (defScope s_l_alike) .none kV6 dc6 pm6 an6 cd6 ct6), sl6⟩) (c6 : PySem.W.codeIn K cd6 "_law_alike" = true) (k6 : PySem.W.keepIn K (.ref f6) = true)
    (a7 : PySem.W.nsIn K mainGlobals "_law_mixed" = some (some (.ref f7))) (l7 : K.lookup f7 = some ⟨oc7, od7, .func (PySem.W.fnOf "_law_mixed" "_law_mixed" (defArgs s_l_mixed) (defBody s_l_mixed) (defScope s_l_mixed) .none kV7 dc7 pm7 an7 cd7 ct7), sl7⟩) (c7 : PySem.W.codeIn K cd7 "_law_mixed" = true) (k7 : PySem.W.keepIn K (.ref f7) = true)
    (a8 : PySem.W.nsIn K mainGlobals "_law_names" = some (some (.ref f8))) (l8 : K.lookup f8 = some ⟨oc8, od8, .func (PySem.W.fnOf "_law_names" "_law_names" (defArgs s_l_names) (defBody s_l_names) (defScope s_l_names) .none kV8 dc8 pm8 an8 cd8 ct8), sl8⟩) (c8 : PySem.W.codeIn K cd8 "_law_names" = true) (k8 : PySem.W.keepIn K (.ref f8) = true)
    (a9 : PySem.W.nsIn K mainGlobals "_law_odd" = some (some (.ref f9))) (l9 : K.lookup f9 = some ⟨oc9, od9, .func (PySem.W.fnOf "_law_odd" "_law_odd" (defArgs s_l_odd) (defBody s_l_odd) (defScope s_l_odd) .none kV9 dc9 pm9 an9 cd9 ct9), sl9⟩) (c9 : PySem.W.codeIn K cd9 "_law_odd" = true) (k9 : PySem.W.keepIn K (.ref f9) = true)
    (a10 : PySem.W.nsIn K mainGlobals "_law_is_plain" = some (some (.ref f10))) (l10 : K.lookup f10 = some ⟨oc10, od10, .func (PySem.W.fnOf "_law_is_plain" "_law_is_plain" (defArgs s_l_is_plain) (defBody s_l_is_plain) (defScope s_l_is_plain) .none kV10 dc10 pm10 an10 cd10 ct10), sl10⟩) (c10 : PySem.W.codeIn K cd10 "_law_is_plain" = true) (k10 : PySem.W.keepIn K (.ref f10) = true)
    (a11 : PySem.W.nsIn K mainGlobals "_law_is_name" = some (some (.ref f11))) (l11 : K.lookup f11 = some ⟨oc11, od11, .func (PySem.W.fnOf "_law_is_name" "_law_is_name" (defArgs s_l_is_name) (defBody s_l_is_name) (defScope s_l_is_name) .none kV11 dc11 pm11 an11 cd11 ct11), sl11⟩) (c11 : PySem.W.codeIn K cd11 "_law_is_name" = true) (k11 : PySem.W.keepIn K (.ref f11) = true)
    (a12 : PySem.W.nsIn K mainGlobals "_law_is_word" = some (some (.ref f12))) (l12 : K.lookup f12 = some ⟨oc12, od12, .func (PySem.W.fnOf "_law_is_word" "_law_is_word" (defArgs s_l_is_word) (defBody s_l_is_word) (defScope s_l_is_word) .none kV12 dc12 pm12 an12 cd12 ct12), sl12⟩) (c12 : PySem.W.codeIn K cd12 "_law_is_word" = true) (k12 : PySem.W.keepIn K (.ref f12) = true)
    (a13 : PySem.W.nsIn K mainGlobals "_law_things" = some (some (.ref f13))) (l13 : K.lookup f13 = some ⟨oc13, od13, .func (PySem.W.fnOf "_law_things" "_law_things" (defArgs s_l_things) (defBody s_l_things) (defScope s_l_things) .none kV13 dc13 pm13 an13 cd13 ct13), sl13⟩) (c13 : PySem.W.codeIn K cd13 "_law_things" = true) (k13 : PySem.W.keepIn K (.ref f13) = true)
    (a14 : PySem.W.nsIn K mainGlobals "law" = some (some (.ref f14))) (l14 : K.lookup f14 = some ⟨oc14, od14, .func (PySem.W.fnOf "law" "law" (defArgs s_law) (defBody s_law) (defScope s_law) .none kV14 dc14 pm14 an14 cd14 ct14), sl14⟩) (c14 : PySem.W.codeIn K cd14 "law" = true) (k14 : PySem.W.keepIn K (.ref f14) = true)
    (zz0 : PySem.W.nsIn K mainGlobals "isinstance" = some none)
    (zz1 : PySem.W.nsIn K mainGlobals "len" = some none)
    (zz2 : PySem.W.nsIn K mainGlobals "all" = some none)
    (zz3 : PySem.W.nsIn K mainGlobals "abs" = some none)
    (zz4 : PySem.W.nsIn K mainGlobals "int" = some none)
    (zz5 : PySem.W.nsIn K mainGlobals "repr" = some none)
    (zz6 : PySem.W.nsIn K mainGlobals "range" = some none)
    (zz7 : PySem.W.nsIn K mainGlobals "sorted" = some none)
    (zz8 : PySem.W.nsIn K mainGlobals "list" = some none)
    (zz9 : PySem.W.nsIn K mainGlobals "bool" = some none)
    (zz10 : PySem.W.nsIn K mainGlobals "str" = some none)
    (zz11 : PySem.W.nsIn K mainGlobals "tuple" = some none)
    {ct_0 : Tok} (cc0 : PySem.W.nsIn K mainGlobals "LETTERS" = some (some (.str "abcdefghijklmnopqrstuvwxyz" ct_0)))
    {ct_1 : Tok} (cc1 : PySem.W.nsIn K mainGlobals "LONGEST_NAME" = some (some (.int 8 ct_1)))
    : Top K mg ∧ FF.LawAt K mg "law" s_law "_law_script" := by
  refine ⟨?_, ?_⟩
  · exact {
      d_is_integer := ⟨f0, _, fun_mk (st := s_is_integer) l0 c0 k0, (fun_mk (st := s_is_integer) l0 c0 k0).binds (ps := ["thing"]) fun _ _ _ _ _ _ us hl => match us, hl with | [_], _ => rfl, PySem.W.mg_of X G a0⟩
      d_is_number := ⟨f1, _, fun_mk (st := s_is_number) l1 c1 k1, (fun_mk (st := s_is_number) l1 c1 k1).binds (ps := ["many", "thing"]) fun _ _ _ _ _ _ us hl => match us, hl with | [_, _], _ => rfl, PySem.W.mg_of X G a1⟩
      d_is_name := ⟨f2, _, fun_mk (st := s_is_name) l2 c2 k2, (fun_mk (st := s_is_name) l2 c2 k2).binds (ps := ["thing"]) fun _ _ _ _ _ _ us hl => match us, hl with | [_], _ => rfl, PySem.W.mg_of X G a2⟩
      d_is_word := ⟨f3, _, fun_mk (st := s_is_word) l3 c3 k3, (fun_mk (st := s_is_word) l3 c3 k3).binds (ps := ["thing"]) fun _ _ _ _ _ _ us hl => match us, hl with | [_], _ => rfl, PySem.W.mg_of X G a3⟩
      d_l_bag := ⟨f4, _, fun_mk (st := s_l_bag) l4 c4 k4, (fun_mk (st := s_l_bag) l4 c4 k4).binds (ps := ["_law_script"]) fun _ _ _ _ _ _ us hl => match us, hl with | [_], _ => rfl, PySem.W.mg_of X G a4⟩
      d_l_take := ⟨f5, _, fun_mk (st := s_l_take) l5 c5 k5, (fun_mk (st := s_l_take) l5 c5 k5).binds (ps := ["_law_bag_here", "_law_many"]) fun _ _ _ _ _ _ us hl => match us, hl with | [_, _], _ => rfl, PySem.W.mg_of X G a5⟩
      d_l_alike := ⟨f6, _, fun_mk (st := s_l_alike) l6 c6 k6, (fun_mk (st := s_l_alike) l6 c6 k6).binds (ps := ["_law_found", "_law_due"]) fun _ _ _ _ _ _ us hl => match us, hl with | [_, _], _ => rfl, PySem.W.mg_of X G a6⟩
      d_l_mixed := ⟨f7, _, fun_mk (st := s_l_mixed) l7 c7 k7, (fun_mk (st := s_l_mixed) l7 c7 k7).binds (ps := ["_law_bag_here", "_law_things_here"]) fun _ _ _ _ _ _ us hl => match us, hl with | [_, _], _ => rfl, PySem.W.mg_of X G a7⟩
      d_l_names := ⟨f8, _, fun_mk (st := s_l_names) l8 c8 k8, (fun_mk (st := s_l_names) l8 c8 k8).binds (ps := ["_law_bag_here", "_law_many"]) fun _ _ _ _ _ _ us hl => match us, hl with | [_, _], _ => rfl, PySem.W.mg_of X G a8⟩
      d_l_odd := ⟨f9, _, fun_mk (st := s_l_odd) l9 c9 k9, (fun_mk (st := s_l_odd) l9 c9 k9).binds (ps := ["_law_bag_here"]) fun _ _ _ _ _ _ us hl => match us, hl with | [_], _ => rfl, PySem.W.mg_of X G a9⟩
      d_l_is_plain := ⟨f10, _, fun_mk (st := s_l_is_plain) l10 c10 k10, (fun_mk (st := s_l_is_plain) l10 c10 k10).binds (ps := ["_law_thing"]) fun _ _ _ _ _ _ us hl => match us, hl with | [_], _ => rfl, PySem.W.mg_of X G a10⟩
      d_l_is_name := ⟨f11, _, fun_mk (st := s_l_is_name) l11 c11 k11, (fun_mk (st := s_l_is_name) l11 c11 k11).binds (ps := ["_law_thing"]) fun _ _ _ _ _ _ us hl => match us, hl with | [_], _ => rfl, PySem.W.mg_of X G a11⟩
      d_l_is_word := ⟨f12, _, fun_mk (st := s_l_is_word) l12 c12 k12, (fun_mk (st := s_l_is_word) l12 c12 k12).binds (ps := ["_law_thing"]) fun _ _ _ _ _ _ us hl => match us, hl with | [_], _ => rfl, PySem.W.mg_of X G a12⟩
      d_l_things := ⟨f13, _, fun_mk (st := s_l_things) l13 c13 k13, (fun_mk (st := s_l_things) l13 c13 k13).binds (ps := ["_law_bag_here"]) fun _ _ _ _ _ _ us hl => match us, hl with | [_], _ => rfl, PySem.W.mg_of X G a13⟩
      z_isinstance := PySem.W.mg_none_of X G zz0
      z_len := PySem.W.mg_none_of X G zz1
      z_all := PySem.W.mg_none_of X G zz2
      z_abs := PySem.W.mg_none_of X G zz3
      z_int := PySem.W.mg_none_of X G zz4
      z_repr := PySem.W.mg_none_of X G zz5
      z_range := PySem.W.mg_none_of X G zz6
      z_sorted := PySem.W.mg_none_of X G zz7
      z_list := PySem.W.mg_none_of X G zz8
      z_bool := PySem.W.mg_none_of X G zz9
      z_str := PySem.W.mg_none_of X G zz10
      z_tuple := PySem.W.mg_none_of X G zz11
      g_LETTERS := ⟨_, PySem.W.mg_of X G cc0⟩
      g_LONGEST_NAME := ⟨_, PySem.W.mg_of X G cc1⟩ }
  · exact ⟨f14, _, fun_mk (st := s_law) l14 c14 k14, PySem.W.mg_of X G a14, fun s v => .of_eq rfl⟩
theorem fin {P : Program} {w : World} {K : PySem.W.Frag} {mg : Str → Option Value} (A : Top K mg ∧ FF.LawAt K mg "law" s_law "_law_script") : FF.LawAt K mg "law" s_law "_law_script" ∧ FF.LawG P w K mg 12 "law" s_law "_law_script" := ⟨A.2, law_ok A.1⟩
end LK
open PySem PySem.W PyProof.Rows
set_option maxRecDepth 100000 in
set_option maxHeartbeats 0 in
theorem PySem.Challenge.cw_factflows_k11_kinds_holds : PySem.Challenge.rw_factflows_k11_kinds.Holds := by
  w_on; o_law; k_head; (case hw => w_witness2)
  k_fill
  refine FF.law_walkG (l := PySem.Challenge.rw_factflows_k11_kinds) (k := 12) (qual := "law") (st := LK.s_law) (p := "_law_script") rfl rfl rfl ⟨rfl, by decide, by decide⟩ (fun w h Y => PySem.W.kIn_of Y) ?F
  case F =>
    intro w h KX mg G
    refine LK.fin ?_
    refine' LK.all_mk KX G ?a0 ?l0 ?c0 ?k0 ?a1 ?l1 ?c1 ?k1 ?a2 ?l2 ?c2 ?k2 ?a3 ?l3 ?c3 ?k3 ?a4 ?l4 ?c4 ?k4 ?a5 ?l5 ?c5 ?k5 ?a6 ?l6 ?c6 ?k6 ?a7 ?l7 ?c7 ?k7 ?a8 ?l8 ?c8 ?k8 ?a9 ?l9 ?c9 ?k9 ?a10 ?l10 ?c10 ?k10 ?a11 ?l11 ?c11 ?k11 ?a12 ?l12 ?c12 ?k12 ?a13 ?l13 ?c13 ?k13 ?a14 ?l14 ?c14 ?k14 ?zz0 ?zz1 ?zz2 ?zz3 ?zz4 ?zz5 ?zz6 ?zz7 ?zz8 ?zz9 ?zz10 ?zz11 ?cc0 ?cc1
    (case a0 => k_is); (case l0 => k_is); (case c0 => k_is); (case k0 => k_is); (case a1 => k_is); (case l1 => k_is); (case c1 => k_is); (case k1 => k_is)
    (case a2 => k_is); (case l2 => k_is); (case c2 => k_is); (case k2 => k_is); (case a3 => k_is); (case l3 => k_is); (case c3 => k_is); (case k3 => k_is)
    (case a4 => k_is); (case l4 => k_is); (case c4 => k_is); (case k4 => k_is); (case a5 => k_is); (case l5 => k_is); (case c5 => k_is); (case k5 => k_is)
    (case a6 => k_is); (case l6 => k_is); (case c6 => k_is); (case k6 => k_is); (case a7 => k_is); (case l7 => k_is); (case c7 => k_is); (case k7 => k_is)
    (case a8 => k_is); (case l8 => k_is); (case c8 => k_is); (case k8 => k_is); (case a9 => k_is); (case l9 => k_is); (case c9 => k_is); (case k9 => k_is)
    (case a10 => k_is); (case l10 => k_is); (case c10 => k_is); (case k10 => k_is); (case a11 => k_is); (case l11 => k_is); (case c11 => k_is); (case k11 => k_is)
    (case a12 => k_is); (case l12 => k_is); (case c12 => k_is); (case k12 => k_is); (case a13 => k_is); (case l13 => k_is); (case c13 => k_is); (case k13 => k_is)
    (case a14 => k_is); (case l14 => k_is); (case c14 => k_is); (case k14 => k_is); (case zz0 => k_is); (case zz1 => k_is); (case zz2 => k_is); (case zz3 => k_is)
    (case zz4 => k_is); (case zz5 => k_is); (case zz6 => k_is); (case zz7 => k_is); (case zz8 => k_is); (case zz9 => k_is); (case zz10 => k_is); (case zz11 => k_is)
    (case cc0 => k_is); (case cc1 => k_is)
