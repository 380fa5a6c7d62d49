import PyProof.Rows.All
import KE.OsRunLaw
import HandS.ForMost
import HandS.Evl
import KE.KDictKeyed
import HandS.Walk
import HandS.TupAny
import HandS.TupMul
import HandS.IsInst
import HandS.More
import HandS.Style
import HandS.FStr
import HandS.Text
import HandS.Flow
import HandS.Iter
import HandS.Conv
import KE.SortData
import KE.SortLaws
import HandS.TupSets
import HandS.Strs
import HandS.SetFor
import OpenK.KOps
import HandS.SortKw
import PyProof.WalkInts
import PyProof.MinMaxWalk
import HandS.Dict
import PyProof.FactsAll.NoneType_1
import PyProof.FactsAll.int_1
import PyProof.FactsAll.str_1
import PyProof.FactsAll.list_1
import PyProof.FactsAll.tuple_1
import PyProof.FactsAll.dict_1
import PyProof.FactsAll.object_2
import PyProof.ReprRoads
import HandS.ForSpec
import KE.KExcIs
import KE.DataFind
import KE.DataMinMax
import HandS.DictComp
import HandS.WordsDict
import HandS.Property
import HandS.MakeKwOnly
import HandS.Defaults
import HandS.Base
import HandS.SetBool
import HandS.Comp
import HandS.SetKeys
import HandS.ListItems
import HandS.DictTup
import KE.GoesEnum
import PySem.Challenge.RW_factflows_k24_whole_values_of_words
section
open PySem PySem.W PyProof.Rows
set_option Elab.async false
set_option maxRecDepth 100000
set_option maxHeartbeats 0
set_option linter.all false
def LH.tag : Prop := PySem.Challenge.rw_factflows_k24_whole_values_of_words.row.Holds
theorem LH.lem (h : PySem.Challenge.rw_factflows_k24_whole_values_of_words.row.Holds) : LH.tag = True := eq_true h
section
local macro_rules | `(tactic| kernel_rfl) => `(tactic| (exfalso; assumption))
theorem LH.names0 (bad : False) : LH.tag ∧ True := by
  simp (disch := (show PySem.Challenge.rw_factflows_k24_whole_values_of_words.row.Holds; k_headL)) only [LH.lem, and_true]
  exact bad.elim
end
theorem LH.looks (w : World) (os : OsState) : (HeadRun.endF (HeadRun.stepQ (HeadRun.denQ HeadRun.tabQ) PySem.Challenge.rw_factflows_k24_whole_values_of_words.row.prog w) 11722 PySem.Challenge.rw_factflows_k24_whole_values_of_words.row.prog w os).map (fun s => HeadRun.looksF PySem.Challenge.rw_factflows_k24_whole_values_of_words.row.prog (boot_heap w.params) s.abs) = some true := by
  kernel_rfl
theorem LH.seen0 (w : World) (os : OsState) : (HeadRun.endF (HeadRun.stepQ (HeadRun.denQ HeadRun.tabQ) PySem.Challenge.rw_factflows_k24_whole_values_of_words.row.prog w) 11722 PySem.Challenge.rw_factflows_k24_whole_values_of_words.row.prog w os).map (fun s => (HeadRun.seenQ LH.names0.view_1 [PySem.Str.ofString "Analysis", PySem.Str.ofString "Program"] (importedModules PySem.Challenge.rw_factflows_k24_whole_values_of_words.row.prog.main.body) (fun s => xlAt LH.names0.view_1 [] s && recOk PySem.Challenge.rw_factflows_k24_whole_values_of_words.row.records s) s.abs).1) = some (openGood LH.names0.view_1 [PySem.Str.ofString "Analysis", PySem.Str.ofString "Program"]).1 := by
  kernel_rfl
theorem LH.seen1 (w : World) (os : OsState) : (HeadRun.endF (HeadRun.stepQ (HeadRun.denQ HeadRun.tabQ) PySem.Challenge.rw_factflows_k24_whole_values_of_words.row.prog w) 11722 PySem.Challenge.rw_factflows_k24_whole_values_of_words.row.prog w os).map (fun s => (HeadRun.seenQ LH.names0.view_1 [PySem.Str.ofString "Analysis", PySem.Str.ofString "Program"] (importedModules PySem.Challenge.rw_factflows_k24_whole_values_of_words.row.prog.main.body) (fun s => xlAt LH.names0.view_1 [] s && recOk PySem.Challenge.rw_factflows_k24_whole_values_of_words.row.records s) s.abs).2) = some (openGood LH.names0.view_1 [PySem.Str.ofString "Analysis", PySem.Str.ofString "Program"]).2 := by
  kernel_rfl
theorem LH.obs0 (w : World) (os : OsState) : (HeadRun.endF (HeadRun.stepQ (HeadRun.denQ HeadRun.tabQ) PySem.Challenge.rw_factflows_k24_whole_values_of_words.row.prog w) 11722 PySem.Challenge.rw_factflows_k24_whole_values_of_words.row.prog w os).map (fun s => (LH.names0.heap_1 w.params).map fun x => HeadRun.getT s x.1) = some ((LH.names0.heap_1 w.params).map fun x => some x.2) := by
  kernel_rfl
theorem LH.obs (w : World) (os : OsState) (l : List Addr) (h : l = (LH.names0.heap_1 w.params).map (fun x => x.1)) : (HeadRun.endF (HeadRun.stepQ (HeadRun.denQ HeadRun.tabQ) PySem.Challenge.rw_factflows_k24_whole_values_of_words.row.prog w) 11722 PySem.Challenge.rw_factflows_k24_whole_values_of_words.row.prog w os).map (fun s => l.map (HeadRun.getT s)) = some ((LH.names0.heap_1 w.params).map fun x => some x.2) := by
  rw [← LH.obs0 w os, h]
  simp only [List.map_map]
  rfl
theorem LH.map2 {β γ : Type} {o : Option PySem.W.SharedT} {g : PySem.W.SharedT → β × γ} {b : β × γ} (h1 : o.map (fun s => (g s).1) = some b.1) (h2 : o.map (fun s => (g s).2) = some b.2) : o.map g = some b := by
  cases o with
  | none => cases h1
  | some x => exact congrArg some (Prod.ext (Option.some.inj h1) (Option.some.inj h2))
theorem LH.seen (w : World) (os : OsState) : (HeadRun.endF (HeadRun.stepQ (HeadRun.denQ HeadRun.tabQ) PySem.Challenge.rw_factflows_k24_whole_values_of_words.row.prog w) 11722 PySem.Challenge.rw_factflows_k24_whole_values_of_words.row.prog w os).map (fun s => (HeadRun.seenQ LH.names0.view_1 [PySem.Str.ofString "Analysis", PySem.Str.ofString "Program"] (importedModules PySem.Challenge.rw_factflows_k24_whole_values_of_words.row.prog.main.body) (fun s => xlAt LH.names0.view_1 [] s && recOk PySem.Challenge.rw_factflows_k24_whole_values_of_words.row.records s) s.abs)) = some (openGood LH.names0.view_1 [PySem.Str.ofString "Analysis", PySem.Str.ofString "Program"]) := LH.map2 (LH.seen0 w os) (LH.seen1 w os)
theorem LH.map3 {γ δ : Type} {o : Option PySem.W.SharedT} {f : PySem.W.SharedT → Bool} {g : PySem.W.SharedT → γ} {h : PySem.W.SharedT → δ} {a : Bool} {b : γ} {c : δ} (h1 : o.map f = some a) (h2 : o.map g = some b) (h3 : o.map h = some c) :
    o.map (fun s => (f s, g s, h s)) = some (a, b, c) := by
  cases o with
  | none => cases h1
  | some x =>
    cases h1; cases h2; cases h3
    rfl
theorem LH.fin {w : World} {os : OsState} {q : Program} {K : Params → Frag} {l : List Addr} (e1 : q = LH.names0.view_1) (e2 : K = LH.names0.heap_1) (h : l = (K w.params).map (fun x => x.1)) :
    Option.map (fun s => (HeadRun.looksF PySem.Challenge.rw_factflows_k24_whole_values_of_words.row.prog (boot_heap w.params) s.abs, HeadRun.seenQ q [PySem.Str.ofString "Analysis", PySem.Str.ofString "Program"] (importedModules PySem.Challenge.rw_factflows_k24_whole_values_of_words.row.prog.main.body) (fun s => xlAt q [] s && recOk PySem.Challenge.rw_factflows_k24_whole_values_of_words.row.records s) s.abs, List.map (HeadRun.getT s) l))
      (HeadRun.endF (HeadRun.stepQ (HeadRun.denQ HeadRun.tabQ) PySem.Challenge.rw_factflows_k24_whole_values_of_words.row.prog w) 11722 PySem.Challenge.rw_factflows_k24_whole_values_of_words.row.prog w os) = some (true, openGood q [PySem.Str.ofString "Analysis", PySem.Str.ofString "Program"], List.map (fun x => some x.2) (K w.params)) := by
  subst e1 e2
  exact LH.map3 (LH.looks w os) (LH.seen w os) (LH.obs w os l h)
end
set_option Elab.async false
set_option linter.all false
set_option maxRecDepth 100000
set_option maxHeartbeats 1000000
namespace FF
open PySem PySem.Spec PyProof.Rows L2
open Evl (Ex sz_of sz_lt fresh_back)
/-! dicts whose keys are tuples of whole numbers: the key, its object, the value -/
abbrev DE := List Int × Addr × V
def DitR (P : Program) (w : World) (h : Heap) (a : Addr) (kvs : List DE) : Prop :=
  kvs.length ≤ sizeLine ∧ ∃ xs : List (List Int × Addr × Value), Paired (fun (p : DE) (q : List Int × Addr × Value) => p.1 = q.1 ∧ p.2.1 = q.2.1 ∧ RelV p.2.2 q.2.2) kvs xs ∧
    ∃ o es ep, h.get? a = some o ∧ o.ExactDict ∧ o.data = .dict es ep ∧ es.toList = xs.map (entryOfKey (tupleKind (intKind P w))) ∧ (xs.map (·.1)).Nodup
def DitO (P : Program) (w : World) (a : Addr) (kvs : List DE) : HO := .ext fun h => DitR P w h a kvs
end FF
set_option Elab.async false
set_option linter.all false
set_option maxRecDepth 100000
set_option maxHeartbeats 1000000
namespace FF
open PySem PySem.Spec PyProof.Rows L2
open Evl (Ex sz_of sz_lt fresh_back)
/-! data, and what stands for it -/
inductive Dt where
  | non | bl (b : Bool) | int (i : Int) | str (x : Str) | lst (ds : List Dt) | tup (ds : List Dt)
  | dic (ks : List (Key × Dt)) | obj (C : Addr) (fs : List (Str × Dt)) | ref (a : Addr)
  | frl (ds : List Dt) | ty (n : String) | fdc (ks : List (Key × Dt))
mutual
inductive Dat (K : PySem.W.Frag) (F : Hp) : V → Dt → Prop
  | non : Dat K F .non .non
  | bl (b : Bool) : Dat K F (.bl b) (.bl b)
  | int (i : Int) : Dat K F (.int i) (.int i)
  | str (x : Str) : Dat K F (.str x) (.str x)
  | lst {a : Addr} {xs : List V} {ds : List Dt} : F a = some (.lst xs) → DatL K F xs ds → Dat K F (.ref a) (.lst ds)
  | tup {a : Addr} {xs : List V} {ds : List Dt} : SqT K F a xs → DatL K F xs ds → Dat K F (.ref a) (.tup ds)
  | dic {a : Addr} {kvs : List (Key × V)} {ks : List (Key × Dt)} : F a = some (.dK kvs) → DatK K F kvs ks → Dat K F (.ref a) (.dic ks)
  | obj {a C dx : Addr} {fvs : List (Str × V)} {fs : List (Str × Dt)} : F a = some (.ins C dx fvs) → DatF K F fvs fs → Dat K F (.ref a) (.obj C fs)
  | ref (a : Addr) : Dat K F (.ref a) (.ref a)
  | frl {a : Addr} {xs : List V} {ds : List Dt} : SqL K F a xs → DatL K F xs ds → Dat K F (.ref a) (.frl ds)
  | ty (n : String) : Dat K F (.ty n) (.ty n)
  | fdc {a : Addr} {ob : Obj} {kvs : List (Key × V)} {ks : List (Key × Dt)} : F a = some (.frz ob (.dK kvs)) → DatK K F kvs ks → Dat K F (.ref a) (.fdc ks)
inductive DatL (K : PySem.W.Frag) (F : Hp) : List V → List Dt → Prop
  | nil : DatL K F [] []
  | cons {v : V} {vs : List V} {d : Dt} {ds : List Dt} : Dat K F v d → DatL K F vs ds → DatL K F (v :: vs) (d :: ds)
inductive DatK (K : PySem.W.Frag) (F : Hp) : List (Key × V) → List (Key × Dt) → Prop
  | nil : DatK K F [] []
  | cons {k : Key} {v : V} {vs : List (Key × V)} {d : Dt} {ds : List (Key × Dt)} : Dat K F v d → DatK K F vs ds → DatK K F ((k, v) :: vs) ((k, d) :: ds)
inductive DatF (K : PySem.W.Frag) (F : Hp) : List (Str × V) → List (Str × Dt) → Prop
  | nil : DatF K F [] []
  | cons {k : Str} {v : V} {vs : List (Str × V)} {d : Dt} {ds : List (Str × Dt)} : Dat K F v d → DatF K F vs ds → DatF K F ((k, v) :: vs) ((k, d) :: ds)
end
section
variable {K : PySem.W.Frag} {F F' : Hp}
mutual
theorem Dat.mono (e : Ex F F') : ∀ {v : V} {d : Dt}, Dat K F v d → Dat K F' v d
  | _, _, .non => .non
  | _, _, .bl b => .bl b
  | _, _, .int b => .int b
  | _, _, .str b => .str b
  | _, _, .lst h l => .lst (e _ _ h) (DatL.mono e l)
  | _, _, .tup h l => .tup (Evl.ex_t e h) (DatL.mono e l)
  | _, _, .dic h l => .dic (e _ _ h) (DatK.mono e l)
  | _, _, .obj h l => .obj (e _ _ h) (DatF.mono e l)
  | _, _, .ref a => .ref a
  | _, _, .frl h l => .frl (Evl.ex_l e h) (DatL.mono e l)
  | _, _, .ty n => .ty n
  | _, _, .fdc h l => .fdc (e _ _ h) (DatK.mono e l)
theorem DatL.mono (e : Ex F F') : ∀ {v : List V} {d : List Dt}, DatL K F v d → DatL K F' v d
  | _, _, .nil => .nil
  | _, _, .cons h l => .cons (Dat.mono e h) (DatL.mono e l)
theorem DatK.mono (e : Ex F F') : ∀ {v : List (Key × V)} {d : List (Key × Dt)}, DatK K F v d → DatK K F' v d
  | _, _, .nil => .nil
  | _, _, .cons h l => .cons (Dat.mono e h) (DatK.mono e l)
theorem DatF.mono (e : Ex F F') : ∀ {v : List (Str × V)} {d : List (Str × Dt)}, DatF K F v d → DatF K F' v d
  | _, _, .nil => .nil
  | _, _, .cons h l => .cons (Dat.mono e h) (DatF.mono e l)
end
theorem DatL.length {vs : List V} {ds : List Dt} (h : DatL K F vs ds) : vs.length = ds.length := by
  induction ds generalizing vs with
  | nil => cases h; rfl
  | cons d ds ih => cases h with | cons a b => simp [ih b]
theorem DatL.get {vs : List V} {ds : List Dt} {i : Nat} {d : Dt} (h : DatL K F vs ds) (e : ds[i]? = some d) : ∃ v, vs[i]? = some v ∧ Dat K F v d := by
  induction ds generalizing vs i with
  | nil => simp at e
  | cons d ds ih =>
    cases h with
    | cons a b =>
      cases i with
      | zero => simp at e; subst e; exact ⟨_, rfl, a⟩
      | succ i => simpa using ih b (by simpa using e)
theorem DatL.append {vs ws : List V} {ds es : List Dt} (h : DatL K F vs ds) (k : DatL K F ws es) : DatL K F (vs ++ ws) (ds ++ es) := by
  induction ds generalizing vs with
  | nil => cases h; exact k
  | cons d ds ih => cases h with | cons a b => exact .cons a (ih b)
theorem DatL.one {v : V} {d : Dt} (h : Dat K F v d) : DatL K F [v] [d] := .cons h .nil
theorem DatL.take {vs : List V} {ds : List Dt} (n : Nat) (h : DatL K F vs ds) : DatL K F (vs.take n) (ds.take n) := by
  induction ds generalizing vs n with
  | nil => cases h; simp; exact .nil
  | cons d ds ih => cases h with
    | cons a b => cases n with
      | zero => exact .nil
      | succ n => exact .cons a (ih n b)
theorem DatL.drop {vs : List V} {ds : List Dt} (n : Nat) (h : DatL K F vs ds) : DatL K F (vs.drop n) (ds.drop n) := by
  induction ds generalizing vs n with
  | nil => cases h; simp; exact .nil
  | cons d ds ih => cases h with
    | cons a b => cases n with
      | zero => exact .cons a b
      | succ n => exact ih n b
theorem DatL.set {vs : List V} {ds : List Dt} {v : V} {d : Dt} (i : Nat) (h : DatL K F vs ds) (k : Dat K F v d) : DatL K F (vs.set i v) (ds.set i d) := by
  induction ds generalizing vs i with
  | nil => cases h; exact .nil
  | cons d ds ih => cases h with
    | cons a b => cases i with
      | zero => exact .cons k b
      | succ i => exact .cons a (ih i b)
theorem DatL.reverse {vs : List V} {ds : List Dt} (h : DatL K F vs ds) : DatL K F vs.reverse ds.reverse := by
  induction ds generalizing vs with
  | nil => cases h; exact .nil
  | cons d ds ih => cases h with
    | cons a b => simp only [List.reverse_cons]; exact (ih b).append (.one a)
theorem DatL.ints {ns : List Int} : DatL K F (ns.map V.int) (ns.map Dt.int) := by
  induction ns with
  | nil => exact .nil
  | cons n ns ih => exact .cons (.int n) ih
theorem DatL.ints_inv {ns : List Int} {vs : List V} (h : DatL K F vs (ns.map Dt.int)) : vs = ns.map V.int := by
  induction ns generalizing vs with
  | nil => cases h; rfl
  | cons n ns ih => cases h with | cons a b => cases a; rw [ih b]; rfl
theorem DatL.bls_inv {ns : List Bool} {vs : List V} (h : DatL K F vs (ns.map Dt.bl)) : vs = ns.map V.bl := by
  induction ns generalizing vs with
  | nil => cases h; rfl
  | cons n ns ih => cases h with | cons a b => cases a; rw [ih b]; rfl
theorem DatL.strs_inv {ns : List Str} {vs : List V} (h : DatL K F vs (ns.map Dt.str)) : vs = ns.map V.str := by
  induction ns generalizing vs with
  | nil => cases h; rfl
  | cons n ns ih => cases h with | cons a b => cases a; rw [ih b]; rfl
end
/-! what is owned: objects that may change -/
inductive Ow where
  | lst (ds : List Dt) | dic (ks : List (Key × Dt)) | bag | ins (C : Addr) (fs : List (Str × Dt)) | dit (P : Program) (w : World) (ks : List (List Int × Dt)) | xd (fs : List (Str × Dt)) | raw (u : HO)
abbrev Own := List (Addr × Ow)
def OwAt (K : PySem.W.Frag) (F H : Hp) (p : Addr) : Ow → Prop
  | .lst ds => ∃ xs, H p = some (.lst xs) ∧ DatL K F xs ds
  | .dic ks => ∃ kvs, H p = some (.dK kvs) ∧ DatK K F kvs ks
  | .ins C fs => ∃ dx fvs, H p = some (.ins C dx fvs) ∧ DatF K F fvs fs
  | .bag => ∃ (k s i : Int) (c : Addr) (cells : List Int), H p = some (.lst [.int k, .int s, .int i, .ref c]) ∧ F c = some (.lst (cells.map V.int)) ∧
      0 ≤ k ∧ 0 ≤ s ∧ s < 2147483647 ∧ 0 ≤ i ∧ (∀ z ∈ cells, 0 ≤ z) ∧ cells.length ≤ 63
  | .dit P w ks => ∃ kvs : List DE, H p = some (DitO P w p kvs) ∧ Paired (fun (kv : DE) (k : List Int × Dt) => kv.1 = k.1 ∧ SqT K F kv.2.1 (kv.1.map V.int) ∧ Dat K F kv.2.2 k.2) kvs ks
  | .xd fs => ∃ fvs, H p = some (.xd fvs) ∧ DatF K F fvs fs
  | .raw u => H p = some u
structure OwnOk (K : PySem.W.Frag) (F H : Hp) (O : Own) : Prop where
  nd : (O.map (·.1)).Nodup
  at_ : ∀ p o, (p, o) ∈ O → F p = none ∧ OwAt K F H p o
structure Gw (O : Own) (F H : Hp) (O' : Own) (F' H' : Hp) : Prop where
  ext : Ex F F'
  sub : Ex F' H'
  keep : ∀ a o, a ∉ O.map (·.1) → H a = some o → H' a = some o
  dom : ∀ a, H a ≠ none → H' a ≠ none
  old : ∀ a, H a ≠ none → a ∉ O.map (·.1) → F' a = F a
  addr : ∀ a, a ∈ O'.map (·.1) → a ∈ O.map (·.1) ∨ H a = none
section
variable {K : PySem.W.Frag} {F F' F1 F2 H H' H1 H2 : Hp} {O O' O1 O2 R : Own} {p : Addr} {o : Ow}
theorem OwAt.there (h : OwAt K F H p o) : H p ≠ none := by
  cases o with
  | lst ds => obtain ⟨xs, e, _⟩ := h; rw [e]; simp
  | dic ds => obtain ⟨xs, e, _⟩ := h; rw [e]; simp
  | ins C ds => obtain ⟨dx, xs, e, _⟩ := h; rw [e]; simp
  | bag => obtain ⟨k, s, i, c, cells, e, _⟩ := h; rw [e]; simp
  | dit P w ks => obtain ⟨kvs, e, _⟩ := h; rw [e]; simp
  | xd fs => obtain ⟨kvs, e, _⟩ := h; rw [e]; simp
  | raw u => rw [show H p = some u from h]; simp
theorem OwAt.mono (h : OwAt K F H p o) (e : Ex F F') (k : ∀ u, H p = some u → H' p = some u) : OwAt K F' H' p o := by
  cases o with
  | lst ds => obtain ⟨xs, a, b⟩ := h; exact ⟨xs, k _ a, b.mono e⟩
  | dic ds => obtain ⟨xs, a, b⟩ := h; exact ⟨xs, k _ a, b.mono e⟩
  | ins C ds => obtain ⟨dx, xs, a, b⟩ := h; exact ⟨dx, xs, k _ a, b.mono e⟩
  | bag => obtain ⟨k0, s, i, c, cells, a, b, r⟩ := h; exact ⟨k0, s, i, c, cells, k _ a, e _ _ b, r⟩
  | dit P w ks => obtain ⟨kvs, a, b⟩ := h; exact ⟨kvs, k _ a, L2.Paired.mapP b fun x y z => ⟨z.1, Evl.ex_t e z.2.1, z.2.2.mono e⟩⟩
  | xd fs => obtain ⟨xs, a, b⟩ := h; exact ⟨xs, k _ a, b.mono e⟩
  | raw u => exact k _ h
theorem mem_addr {O : Own} (h : (p, o) ∈ O) : p ∈ O.map (·.1) := List.mem_map.mpr ⟨_, h, rfl⟩
theorem addr_mem {O : Own} (h : p ∈ O.map (·.1)) : ∃ o, (p, o) ∈ O := by
  obtain ⟨⟨a, o⟩, h1, h2⟩ := List.mem_map.mp h
  cases h2
  exact ⟨o, h1⟩
theorem OwnOk.there (h : OwnOk K F H O) (m : p ∈ O.map (·.1)) : H p ≠ none := by
  obtain ⟨o, m⟩ := addr_mem m
  exact (h.at_ p o m).2.there
theorem OwnOk.none_ (h : OwnOk K F H O) (m : p ∈ O.map (·.1)) : F p = none := by
  obtain ⟨o, m⟩ := addr_mem m
  exact (h.at_ p o m).1
theorem Gw.refl (e : Ex F H) : Gw O F H O F H := ⟨Ex.refl F, e, fun _ _ _ h => h, fun _ h => h, fun _ _ _ => rfl, fun _ h => .inl h⟩
theorem Gw.trans (g : Gw O F H O1 F1 H1) (k : Gw O1 F1 H1 O2 F2 H2) : Gw O F H O2 F2 H2 where
  ext := g.ext.trans k.ext
  sub := k.sub
  keep := fun a o ha e => by
    refine k.keep a o (fun m => ?_) (g.keep a o ha e)
    rcases g.addr a m with h | h
    · exact ha h
    · rw [e] at h; cases h
  dom := fun a h => k.dom a (g.dom a h)
  old := fun a h ha => by
    rw [← g.old a h ha]
    refine k.old a (g.dom a h) fun m => ?_
    rcases g.addr a m with q | q
    · exact ha q
    · exact h q
  addr := fun a m => by
    rcases k.addr a m with h | h
    · exact g.addr a h
    · refine .inr ?_
      cases q : H a with
      | none => rfl
      | some u => exact absurd h (g.dom a (by rw [q]; simp))
theorem OwnOk.frame (h : OwnOk K F H (O ++ R)) (g : Gw O F H O' F' H') (k : OwnOk K F' H' O') : OwnOk K F' H' (O' ++ R) := by
  have nd := h.nd
  rw [List.map_append, List.nodup_append] at nd
  refine ⟨?_, fun p o m => ?_⟩
  · rw [List.map_append, List.nodup_append]
    refine ⟨k.nd, nd.2.1, fun a ha b hb e => ?_⟩
    subst e
    rcases g.addr a ha with q | q
    · exact nd.2.2 a q a hb rfl
    · exact h.there (by rw [List.map_append]; exact List.mem_append_right _ hb) q
  · rcases List.mem_append.mp m with m | m
    · exact k.at_ p o m
    · have hp := h.at_ p o (List.mem_append_right _ m)
      have np : p ∉ O.map (·.1) := fun z => nd.2.2 p z p (mem_addr m) rfl
      refine ⟨?_, hp.2.mono g.ext fun u e => g.keep p u np e⟩
      rw [g.old p hp.2.there np]
      exact hp.1
theorem Gw.frame (g : Gw O F H O' F' H') : Gw (O ++ R) F H (O' ++ R) F' H' where
  ext := g.ext
  sub := g.sub
  keep := fun a o ha e => g.keep a o (fun m => ha (by rw [List.map_append]; exact List.mem_append_left _ m)) e
  dom := g.dom
  old := fun a h ha => g.old a h fun m => ha (by rw [List.map_append]; exact List.mem_append_left _ m)
  addr := fun a m => by
    rw [List.map_append] at m ⊢
    rcases List.mem_append.mp m with m | m
    · rcases g.addr a m with q | q
      · exact .inl (List.mem_append_left _ q)
      · exact .inr q
    · exact .inl (List.mem_append_right _ m)
theorem OwnOk.left (h : OwnOk K F H (O ++ R)) : OwnOk K F H O := by
  have nd := h.nd
  rw [List.map_append, List.nodup_append] at nd
  exact ⟨nd.1, fun p o m => h.at_ p o (List.mem_append_left _ m)⟩
theorem OwnOk.nil : OwnOk K F H [] := ⟨by simp, fun _ _ m => by simp at m⟩
/-- what the heap F knows is not owned -/
theorem OwnOk.notin (h : OwnOk K F H O) {a : Addr} {u : HO} (e : F a = some u) : a ∉ O.map (·.1) := fun m => by
  rw [h.none_ m] at e; cases e
/-- a new object, known from now on -/
theorem Gw.new {q : Addr} {u : HO} (e : Ex F H) (hq : H q = none) : Gw O F H O (upd F q u) (upd H q u) where
  ext := Ex.new (by cases z : F q with | none => rfl | some w => rw [e q w z] at hq; cases hq)
  sub := fun a w h => by
    by_cases ha : a = q
    · subst ha; rw [upd_same] at h ⊢; exact h
    · rw [upd_ne ha] at h ⊢; exact e a w h
  keep := fun a o _ h => by rw [upd_ne (ne_of_none h hq)]; exact h
  dom := fun a h => by
    by_cases ha : a = q
    · subst ha; rw [upd_same]; simp
    · rw [upd_ne ha]; exact h
  old := fun a h _ => by rw [upd_ne]; intro z; subst z; exact h hq
  addr := fun a m => .inl m
theorem OwnOk.new {q : Addr} {u : HO} (h : OwnOk K F H O) (e : Ex F H) (hq : H q = none) : OwnOk K (upd F q u) (upd H q u) O := by
  refine ⟨h.nd, fun p o m => ?_⟩
  have hp := h.at_ p o m
  have ne : p ≠ q := fun z => by subst z; exact hp.2.there hq
  refine ⟨by rw [upd_ne ne]; exact hp.1, hp.2.mono (Gw.new (O := []) e hq).ext fun w z => by rw [upd_ne ne]; exact z⟩
/-- a new object, owned -/
theorem Gw.newOwn {q : Addr} {u : HO} (e : Ex F H) (hq : H q = none) : Gw O F H ((q, o) :: O) F (upd H q u) where
  ext := Ex.refl F
  sub := fun a w h => by rw [upd_ne (ne_of_none (e a w h) hq)]; exact e a w h
  keep := fun a o _ h => by rw [upd_ne (ne_of_none h hq)]; exact h
  dom := fun a h => by
    by_cases ha : a = q
    · subst ha; rw [upd_same]; simp
    · rw [upd_ne ha]; exact h
  old := fun a h _ => rfl
  addr := fun a m => by
    simp only [List.map_cons, List.mem_cons] at m
    rcases m with rfl | m
    · exact .inr hq
    · exact .inl m
theorem OwnOk.newOwn {q : Addr} {u : HO} (h : OwnOk K F H O) (e : Ex F H) (hq : H q = none) (k : OwAt K F (upd H q u) q o) : OwnOk K F (upd H q u) ((q, o) :: O) := by
  refine ⟨?_, fun p o' m => ?_⟩
  · simp only [List.map_cons, List.nodup_cons]
    exact ⟨fun m => h.there m hq, h.nd⟩
  · rcases List.mem_cons.mp m with z | m
    · cases z
      refine ⟨?_, k⟩
      cases z : F q with
      | none => rfl
      | some w => rw [e q w z] at hq; cases hq
    · have hp := h.at_ p o' m
      have ne : p ≠ q := fun z => by subst z; exact hp.2.there hq
      exact ⟨hp.1, hp.2.mono (Ex.refl F) fun w z => by rw [upd_ne ne]; exact z⟩
/-- an owned object changes -/
theorem Gw.mut {u : HO} (h : OwnOk K F H O) (e : Ex F H) (m : p ∈ O.map (·.1)) (hO : O'.map (·.1) = O.map (·.1)) : Gw O F H O' F (upd H p u) where
  ext := Ex.refl F
  sub := fun a w z => by
    rw [upd_ne (fun q => by subst q; rw [h.none_ m] at z; cases z)]
    exact e a w z
  keep := fun a o ha z => by rw [upd_ne (fun q => by subst q; exact ha m)]; exact z
  dom := fun a z => by
    by_cases ha : a = p
    · subst ha; rw [upd_same]; simp
    · rw [upd_ne ha]; exact z
  old := fun a _ _ => rfl
  addr := fun a z => .inl (by rw [hO] at z; exact z)
theorem OwnOk.mut {u : HO} {i : Nat} {o' : Ow} (h : OwnOk K F H O) (hi : O[i]? = some (p, o)) (k : OwAt K F (upd H p u) p o') : OwnOk K F (upd H p u) (O.set i (p, o')) ∧ (O.set i (p, o')).map (·.1) = O.map (·.1) := by
  have hm : (O.set i (p, o')).map (·.1) = O.map (·.1) := by
    apply List.ext_getElem?
    intro j
    rw [List.getElem?_map, List.getElem?_map]
    by_cases hj : i = j
    · subst hj
      have : i < O.length := (List.getElem?_eq_some_iff.mp hi).1
      rw [List.getElem?_set_self this, hi]
      rfl
    · rw [List.getElem?_set_ne hj]
  refine ⟨⟨by rw [hm]; exact h.nd, fun q w m => ?_⟩, hm⟩
  have mp : p ∈ O.map (·.1) := mem_addr (List.mem_of_getElem? hi)
  by_cases hq : q = p
  · subst hq
    refine ⟨h.none_ mp, ?_⟩
    have hw : w = o' := by
      obtain ⟨j, hj⟩ := List.getElem?_of_mem m
      by_cases e : i = j
      · subst e
        have : i < O.length := (List.getElem?_eq_some_iff.mp hi).1
        rw [List.getElem?_set_self this] at hj
        cases hj; rfl
      · exfalso
        rw [List.getElem?_set_ne e] at hj
        have h1 : (O.map (·.1))[i]? = some q := by rw [List.getElem?_map, hi]; rfl
        have h2 : (O.map (·.1))[j]? = some q := by rw [List.getElem?_map, hj]; rfl
        exact e (nd_ix h.nd h1 h2)
    subst hw
    exact k
  · have m' : (q, w) ∈ O := by
      rcases List.mem_or_eq_of_mem_set m with z | z
      · exact z
      · cases z; exact absurd rfl hq
    have hp := h.at_ q w m'
    exact ⟨hp.1, hp.2.mono (Ex.refl F) fun u z => by rw [upd_ne hq]; exact z⟩
end
end FF
set_option Elab.async false
set_option linter.all false
set_option maxRecDepth 100000
set_option maxHeartbeats 1000000
namespace FF
open PySem PySem.Spec PyProof.Rows L2
open Evl (Ex sz_of sz_lt fresh_back)
abbrev Env_ := List (Option Dt)
structure EnvOk (K : PySem.W.Frag) (F : Hp) (σ : L2.St) (Δ : Env_) : Prop where
  len : σ.length = Δ.length
  at_ : ∀ (i : Nat) (d : Dt), Δ[i]? = some (some d) → ∃ v, σ[i]? = some (some v) ∧ Dat K F v d
abbrev XPost := Addr → List (Str × Dt) → Own → Prop
def XOk (K : PySem.W.Frag) (E : XK) (Ψ : XPost) (O : Own) (F H : Hp) : Prop := ∀ C d F' H' O' fs, Gw O F H O' F' H' → OwnOk K F' H' O' → (d, Ow.xd fs) ∈ O' → Ψ C fs O' → E (.ref C) (some d) H'
def Ev (K : PySem.W.Frag) (E : XK) (Ψ : XPost) (te : TE) (Δ : Env_) (O : Own) (Φ : Dt → Own → Prop) : Prop :=
  ∀ σ F H, EnvOk K F σ Δ → OwnOk K F H O → Ex F H → XOk K E Ψ O F H → ∀ Q : VK, (∀ v F' H' d O', Gw O F H O' F' H' → OwnOk K F' H' O' → Dat K F' v d → Φ d O' → Q v H') → te σ H Q
def EvT (K : PySem.W.Frag) (E : XK) (Ψ : XPost) (te : TT) (Δ : Env_) (O : Own) (Φ : Bool → Own → Prop) : Prop :=
  ∀ σ F H, EnvOk K F σ Δ → OwnOk K F H O → Ex F H → XOk K E Ψ O F H → ∀ Q : Bool → Hp → Prop, (∀ b F' H' O', Gw O F H O' F' H' → OwnOk K F' H' O' → Φ b O' → Q b H') → te σ H Q
def EvA (K : PySem.W.Frag) (E : XK) (Ψ : XPost) (te : TA) (Δ : Env_) (O : Own) (Φ : List Dt → Own → Prop) : Prop :=
  ∀ σ F H, EnvOk K F σ Δ → OwnOk K F H O → Ex F H → XOk K E Ψ O F H → ∀ Q : List V → Hp → Prop, (∀ vs F' H' ds O', Gw O F H O' F' H' → OwnOk K F' H' O' → DatL K F' vs ds → Φ ds O' → Q vs H') → te σ H Q
def OpD (K : PySem.W.Frag) (E : XK) (Ψ : XPost) (r : R2) (x y : Dt) (O : Own) (Φ : Dt → Own → Prop) : Prop :=
  ∀ F H v u, OwnOk K F H O → Ex F H → XOk K E Ψ O F H → Dat K F v x → Dat K F u y → ∀ Q : VK, (∀ w F' H' d O', Gw O F H O' F' H' → OwnOk K F' H' O' → Dat K F' w d → Φ d O' → Q w H') → r v u H Q
def UnD (K : PySem.W.Frag) (E : XK) (Ψ : XPost) (r : V → Hp → VK → Prop) (x : Dt) (O : Own) (Φ : Dt → Own → Prop) : Prop :=
  ∀ F H v, OwnOk K F H O → Ex F H → XOk K E Ψ O F H → Dat K F v x → ∀ Q : VK, (∀ w F' H' d O', Gw O F H O' F' H' → OwnOk K F' H' O' → Dat K F' w d → Φ d O' → Q w H') → r v H Q
def CaD (K : PySem.W.Frag) (E : XK) (Ψ : XPost) (r : List V → Hp → VK → Prop) (xs : List Dt) (O : Own) (Φ : Dt → Own → Prop) : Prop :=
  ∀ F H vs, OwnOk K F H O → Ex F H → XOk K E Ψ O F H → DatL K F vs xs → ∀ Q : VK, (∀ w F' H' d O', Gw O F H O' F' H' → OwnOk K F' H' O' → Dat K F' w d → Φ d O' → Q w H') → r vs H Q
/-- exactly d, nothing owned changed -/
abbrev ex (d : Dt) (O : Own) : Dt → Own → Prop := fun d' O' => d' = d ∧ O' = O
abbrev exb (b : Bool) (O : Own) : Bool → Own → Prop := fun d' O' => d' = b ∧ O' = O
abbrev exl (ds : List Dt) (O : Own) : List Dt → Own → Prop := fun d' O' => d' = ds ∧ O' = O
/-- a new list, owned -/
abbrev nwl (ds : List Dt) (O : Own) : Dt → Own → Prop := fun d' O' => ∃ q, d' = .ref q ∧ O' = (q, .lst ds) :: O
structure Post where
  nx : Env_ → Own → Prop
  rt : Dt → Own → Prop
  bk : Env_ → Own → Prop := fun _ _ => False
  ct : Env_ → Own → Prop := fun _ _ => False
structure DOk (K : PySem.W.Frag) (O : Own) (F H : Hp) (D : Ends) (P : Post) : Prop where
  nx : ∀ σ' F' H' Δ' O', Gw O F H O' F' H' → OwnOk K F' H' O' → EnvOk K F' σ' Δ' → P.nx Δ' O' → D.nx σ' H'
  rt : ∀ v F' H' d O', Gw O F H O' F' H' → OwnOk K F' H' O' → Dat K F' v d → P.rt d O' → D.rt v H'
  bk : ∀ σ' F' H' Δ' O', Gw O F H O' F' H' → OwnOk K F' H' O' → EnvOk K F' σ' Δ' → P.bk Δ' O' → D.bk σ' H'
  ct : ∀ σ' F' H' Δ' O', Gw O F H O' F' H' → OwnOk K F' H' O' → EnvOk K F' σ' Δ' → P.ct Δ' O' → D.ct σ' H'
def Sv (K : PySem.W.Frag) (E : XK) (Ψ : XPost) (ts : TS) (Δ : Env_) (O : Own) (P : Post) : Prop :=
  ∀ σ F H (D : Ends), EnvOk K F σ Δ → OwnOk K F H O → Ex F H → XOk K E Ψ O F H → DOk K O F H D P → ts D σ H
/-- storing d to a target -/
def Gv (K : PySem.W.Frag) (g : TG) (d : Dt) (js : List Nat) (T : Env_ → Env_) : Prop :=
  ∀ v σ H F Δ (Q : L2.St → Hp → Prop), Ex F H → Dat K F v d → EnvOk K F σ Δ → (∀ σ', σ'.length = σ.length → (∀ i, i ∉ js → σ'[i]? = σ[i]?) → EnvOk K F σ' (T Δ) → Q σ' H) → g v σ H Q
section
variable {K : PySem.W.Frag} {E : XK} {Ψ : XPost} {F F' F1 F2 H H' H1 H2 : Hp} {O O' O1 O2 R : Own} {σ : L2.St} {Δ : Env_} {D : Ends} {P : Post}
theorem EnvOk.mono (h : EnvOk K F σ Δ) (e : Ex F F') : EnvOk K F' σ Δ := ⟨h.len, fun i d q => let ⟨v, a, b⟩ := h.at_ i d q; ⟨v, a, b.mono e⟩⟩
theorem XOk.step (g : Gw O F H O1 F1 H1) (h : XOk K E Ψ O F H) : XOk K E Ψ O1 F1 H1 := fun C d F' H' O' fs g2 a b c => h C d F' H' O' fs (g.trans g2) a b c
theorem DOk.step (g : Gw O F H O1 F1 H1) (h : DOk K O F H D P) : DOk K O1 F1 H1 D P :=
  ⟨fun σ' F' H' Δ' O' g2 a b c => h.nx σ' F' H' Δ' O' (g.trans g2) a b c, fun v F' H' d O' g2 a b c => h.rt v F' H' d O' (g.trans g2) a b c,
   fun σ' F' H' Δ' O' g2 a b c => h.bk σ' F' H' Δ' O' (g.trans g2) a b c, fun σ' F' H' Δ' O' g2 a b c => h.ct σ' F' H' Δ' O' (g.trans g2) a b c⟩
theorem EnvOk.set (h : EnvOk K F σ Δ) {v : V} {d : Dt} (i : Nat) (k : Dat K F v d) : EnvOk K F (σ.set i (some v)) (Δ.set i (some d)) := by
  refine ⟨by rw [List.length_set, List.length_set]; exact h.len, fun j e q => ?_⟩
  by_cases hj : i = j
  · subst hj
    have hl : i < Δ.length := by
      have := (List.getElem?_eq_some_iff.mp q).1
      rwa [List.length_set] at this
    rw [List.getElem?_set_self hl] at q
    cases q
    exact ⟨v, by rw [List.getElem?_set_self (by rw [h.len]; exact hl)], k⟩
  · rw [List.getElem?_set_ne hj] at q ⊢
    exact h.at_ j e q
def wipeD (Δ : Env_) : List Nat → Env_
  | [] => Δ
  | v :: vs => (wipeD Δ vs).set v none
theorem EnvOk.wipe (h : EnvOk K F σ Δ) : ∀ vs, EnvOk K F (L2.wipe σ vs) (wipeD Δ vs)
  | [] => h
  | v :: vs => by
    have ih := EnvOk.wipe h vs
    show EnvOk K F ((L2.wipe σ vs).set v none) ((wipeD Δ vs).set v none)
    refine ⟨by rw [List.length_set, List.length_set]; exact ih.len, fun j e q => ?_⟩
    by_cases hj : v = j
    · subst hj
      have hl : v < (wipeD Δ vs).length := by
        have := (List.getElem?_eq_some_iff.mp q).1
        rwa [List.length_set] at this
      rw [List.getElem?_set_self hl] at q
      cases q
    · rw [List.getElem?_set_ne hj] at q ⊢
      exact ih.at_ j e q
theorem wipe_out : ∀ (σ : L2.St) (vs : List Nat) (i : Nat), i ∉ vs → (L2.wipe σ vs)[i]? = σ[i]?
  | _, [], _, _ => rfl
  | σ, v :: vs, i, h => by
    show ((L2.wipe σ vs).set v none)[i]? = _
    rw [List.getElem?_set_ne (fun e => h (by simp [e])), wipe_out σ vs i (fun m => h (List.mem_cons_of_mem _ m))]
theorem wipe_in : ∀ (σ : L2.St) (vs : List Nat) (i : Nat), i ∈ vs → i < σ.length → (L2.wipe σ vs)[i]? = some none
  | _, [], _, h, _ => by simp at h
  | σ, v :: vs, i, h, hl => by
    show ((L2.wipe σ vs).set v none)[i]? = _
    by_cases e : v = i
    · subst e; rw [List.getElem?_set_self (by rw [L2.wipe_length]; exact hl)]
    · rw [List.getElem?_set_ne e]
      exact wipe_in σ vs i (by rcases List.mem_cons.mp h with z | z; exact absurd z.symm e; exact z) hl
/-- what differs in the wiped places alone is wiped the same -/
theorem wipe_eq {σ σ' : L2.St} {vs : List Nat} (hl : σ'.length = σ.length) (h : ∀ i, i ∉ vs → σ'[i]? = σ[i]?) : L2.wipe σ' vs = L2.wipe σ vs := by
  apply List.ext_getElem?
  intro i
  by_cases m : i ∈ vs
  · by_cases q : i < σ.length
    · rw [wipe_in σ vs i m q, wipe_in σ' vs i m (by rw [hl]; exact q)]
    · rw [List.getElem?_eq_none (by rw [L2.wipe_length]; omega), List.getElem?_eq_none (by rw [L2.wipe_length]; omega)]
  · rw [wipe_out σ vs i m, wipe_out σ' vs i m, h i m]
theorem wipe_wipe (σ : L2.St) (vs : List Nat) : L2.wipe (L2.wipe σ vs) vs = L2.wipe σ vs := wipe_eq (L2.wipe_length σ vs) (wipe_out σ vs)
/-! targets -/
theorem gv_name (j : Nat) {d : Dt} : Gv K (gName j) d [j] (fun Δ => Δ.set j (some d)) := fun v σ H F Δ Q e k h q =>
  q _ (List.length_set ..) (fun i hi => by rw [List.getElem?_set_ne (fun z => hi (by simp [z]))]) (h.set j k)
def Gvs (K : PySem.W.Frag) (g : TGs) (ds : List Dt) (js : List Nat) (T : Env_ → Env_) : Prop :=
  ∀ vs σ H F Δ (Q : L2.St → Hp → Prop), Ex F H → DatL K F vs ds → EnvOk K F σ Δ → (∀ σ', σ'.length = σ.length → (∀ i, i ∉ js → σ'[i]? = σ[i]?) → EnvOk K F σ' (T Δ) → Q σ' H) → g vs σ H Q
theorem gvs_nil : Gvs K gNil [] [] (fun Δ => Δ) := fun vs σ H F Δ Q e k h q => by
  cases k
  exact ⟨rfl, q _ rfl (fun _ _ => rfl) h⟩
theorem gvs_cons {g : TG} {gs : TGs} {d : Dt} {ds : List Dt} {js ks : List Nat} {T T' : Env_ → Env_} (h1 : Gv K g d js T) (h2 : Gvs K gs ds ks T') : Gvs K (gCons g gs) (d :: ds) (js ++ ks) (fun Δ => T' (T Δ)) := fun vs σ H F Δ Q e k h q => by
  cases k with
  | cons a b =>
    refine ⟨_, _, rfl, h1 _ σ H F Δ _ e a h fun σ' l1 m1 h' => ?_⟩
    refine h2 _ σ' H F (T Δ) Q e b h' fun σ2 l2 m2 h2' => q σ2 (l2.trans l1) (fun i hi => ?_) h2'
    rw [m2 i (fun z => hi (List.mem_append_right _ z)), m1 i (fun z => hi (List.mem_append_left _ z))]
theorem gv_tup {g : TGs} {ds : List Dt} {js : List Nat} {T : Env_ → Env_} {n : Nat} (h : Gvs K g ds js T) (hn : ds.length = n) : Gv K (gTup K n g) (.tup ds) js T := fun v σ H F Δ Q e k he q => by
  cases k with
  | tup s l => exact ⟨_, _, rfl, Evl.ex_t e s, l.length.trans hn, h _ σ H F Δ Q e l he q⟩
/-! expressions -/
variable {te ta tb : TE} {tt : TT} {tas : TA} {Φ Φ' : Dt → Own → Prop} {d x y z : Dt} {ds : List Dt} {r : R2}
theorem Ev.imp (h : Ev K E Ψ te Δ O Φ) (k : ∀ d O', Φ d O' → Φ' d O') : Ev K E Ψ te Δ O Φ' := fun σ F H a b c e Q q => h σ F H a b c e Q fun v F' H' d O' g w x y => q v F' H' d O' g w x (k d O' y)
theorem EvT.imp {Φ Φ' : Bool → Own → Prop} (h : EvT K E Ψ tt Δ O Φ) (k : ∀ d O', Φ d O' → Φ' d O') : EvT K E Ψ tt Δ O Φ' := fun σ F H a b c e Q q => h σ F H a b c e Q fun v F' H' O' g w y => q v F' H' O' g w (k v O' y)
theorem ev_var {i : Nat} (h : Δ[i]? = some (some d)) : Ev K E Ψ (tVar i) Δ O (ex d O) := fun σ F H a b c e Q q => by
  obtain ⟨v, e1, k⟩ := a.at_ i d h
  exact ⟨v, e1, q v F H d O (.refl c) b k ⟨rfl, rfl⟩⟩
theorem ev_c {v : V} (h : ∀ F, Dat K F v d) : Ev K E Ψ (tC v) Δ O (ex d O) := fun σ F H a b c e Q q => q v F H d O (.refl c) b (h F) ⟨rfl, rfl⟩
theorem ev_int {i : Int} : Ev K E Ψ (tC (.int i)) Δ O (ex (.int i) O) := ev_c fun _ => .int i
theorem ev_bl {i : Bool} : Ev K E Ψ (tC (.bl i)) Δ O (ex (.bl i) O) := ev_c fun _ => .bl i
theorem ev_str {i : Str} : Ev K E Ψ (tC (.str i)) Δ O (ex (.str i) O) := ev_c fun _ => .str i
theorem ev_non : Ev K E Ψ (tC .non) Δ O (ex .non O) := ev_c fun _ => .non
theorem ev_opG {Θ : Dt → Own → Dt → Own → Prop} (ha : Ev K E Ψ ta Δ O Φ) (hb : ∀ x O1, Φ x O1 → Ev K E Ψ tb Δ O1 (Θ x O1)) (hr : ∀ x O1 y O2, Φ x O1 → Θ x O1 y O2 → OpD K E Ψ r x y O2 Φ') : Ev K E Ψ (tOp r ta tb) Δ O Φ' :=
  fun σ F H a b c e Q q => ha σ F H a b c e _ fun v F1 H1 x O1 g1 b1 k1 p1 => hb x O1 p1 σ F1 H1 (a.mono g1.ext) b1 g1.sub (e.step g1) _ fun u F2 H2 y O2 g2 b2 k2 p2 =>
    hr x O1 y O2 p1 p2 F2 H2 v u b2 g2.sub (e.step (g1.trans g2)) (k1.mono g2.ext) k2 Q fun w F3 H3 d O3 g3 b3 k3 p3 => q w F3 H3 d O3 ((g1.trans g2).trans g3) b3 k3 p3
theorem ev_op (ha : Ev K E Ψ ta Δ O (ex x O)) (hb : Ev K E Ψ tb Δ O (ex y O)) (hr : OpD K E Ψ r x y O Φ) : Ev K E Ψ (tOp r ta tb) Δ O Φ :=
  ev_opG (Θ := fun _ _ => ex y O) ha (fun _ _ h => by rw [h.2]; exact hb) (fun _ _ _ _ h k => by rw [h.1, k.1, k.2]; exact hr)
theorem ev_unG {r : V → Hp → VK → Prop} (ha : Ev K E Ψ ta Δ O Φ) (hr : ∀ x O1, Φ x O1 → UnD K E Ψ r x O1 Φ') : Ev K E Ψ (tUn r ta) Δ O Φ' :=
  fun σ F H a b c e Q q => ha σ F H a b c e _ fun v F1 H1 x O1 g1 b1 k1 p1 => hr x O1 p1 F1 H1 v b1 g1.sub (e.step g1) k1 Q fun w F3 H3 d O3 g3 b3 k3 p3 => q w F3 H3 d O3 (g1.trans g3) b3 k3 p3
theorem ev_un {r : V → Hp → VK → Prop} (ha : Ev K E Ψ ta Δ O (ex x O)) (hr : UnD K E Ψ r x O Φ) : Ev K E Ψ (tUn r ta) Δ O Φ := ev_unG ha fun _ _ h => by obtain ⟨rfl, rfl⟩ := h; exact hr
theorem ea_nil : EvA K E Ψ tNil Δ O (exl [] O) := fun σ F H a b c e Q q => q [] F H [] O (.refl c) b .nil ⟨rfl, rfl⟩
theorem ea_consG {Φ' : List Dt → Own → Prop} {Θ : Dt → Own → List Dt → Own → Prop} (ha : Ev K E Ψ ta Δ O Φ) (hb : ∀ x O1, Φ x O1 → EvA K E Ψ tas Δ O1 (Θ x O1)) (hc : ∀ x O1 ys O2, Φ x O1 → Θ x O1 ys O2 → Φ' (x :: ys) O2) : EvA K E Ψ (tCons ta tas) Δ O Φ' :=
  fun σ F H a b c e Q q => ha σ F H a b c e _ fun v F1 H1 x O1 g1 b1 k1 p1 => hb x O1 p1 σ F1 H1 (a.mono g1.ext) b1 g1.sub (e.step g1) _ fun us F2 H2 ys O2 g2 b2 k2 p2 =>
    q (v :: us) F2 H2 (x :: ys) O2 (g1.trans g2) b2 (.cons (k1.mono g2.ext) k2) (hc x O1 ys O2 p1 p2)
theorem ea_cons (ha : Ev K E Ψ ta Δ O (ex x O)) (hb : EvA K E Ψ tas Δ O (exl ds O)) : EvA K E Ψ (tCons ta tas) Δ O (exl (x :: ds) O) :=
  ea_consG (Θ := fun _ _ => exl ds O) ha (fun _ _ h => by rw [h.2]; exact hb) (fun _ _ _ _ h k => ⟨by rw [h.1, k.1], k.2⟩)
theorem EvA.imp {Φ Φ' : List Dt → Own → Prop} (h : EvA K E Ψ tas Δ O Φ) (k : ∀ d O', Φ d O' → Φ' d O') : EvA K E Ψ tas Δ O Φ' := fun σ F H a b c e Q q => h σ F H a b c e Q fun v F' H' d O' g w x y => q v F' H' d O' g w x (k d O' y)
/-- freezing an owned new list -/
theorem Gw.frz {p : Addr} {xs : List V} (h : OwnOk K F H ((p, .lst ds) :: O)) (e : Ex F H) (hp : H p = some (.lst xs)) (l : DatL K F xs ds) : Gw ((p, .lst ds) :: O) F H O (upd F p (.lst xs)) H ∧ OwnOk K (upd F p (.lst xs)) H O ∧ Dat K (upd F p (.lst xs)) (.ref p) (.lst ds) := by
  have fp : F p = none := h.none_ (by simp)
  have ee : Ex F (upd F p (.lst xs)) := Ex.new fp
  refine ⟨⟨ee, fun a w z => ?_, fun a o _ z => z, fun a z => z, fun a z m => ?_, fun a m => .inl (List.mem_cons_of_mem _ m)⟩, ⟨(List.nodup_cons.mp h.nd).2, fun q o m => ?_⟩, .lst upd_same (l.mono ee)⟩
  · by_cases ha : a = p
    · subst ha; rw [upd_same] at z; cases z; exact hp
    · rw [upd_ne ha] at z; exact e a w z
  · rw [upd_ne (fun q => m (by simp [q]))]
  · have hq := h.at_ q o (List.mem_cons_of_mem _ m)
    have ne : q ≠ p := fun z => by
      subst z
      exact (List.nodup_cons.mp h.nd).1 (mem_addr m)
    exact ⟨by rw [upd_ne ne]; exact hq.1, hq.2.mono ee fun _ z => z⟩
theorem ev_frzG {Φ' : List Dt → Prop} (h : Ev K E Ψ te Δ O (fun d O' => ∃ q ds, d = .ref q ∧ O' = (q, .lst ds) :: O ∧ Φ' ds)) : Ev K E Ψ te Δ O (fun d O' => O' = O ∧ ∃ ds, d = .lst ds ∧ Φ' ds) := fun σ F H a b c e Q q =>
  h σ F H a b c e Q fun v F1 H1 d O1 g1 b1 k1 p1 => by
    obtain ⟨p, ds, rfl, rfl, hp⟩ := p1
    cases k1
    obtain ⟨_, xs, e1, l1⟩ := b1.at_ p (.lst ds) (by simp)
    obtain ⟨g2, b2, k2⟩ := Gw.frz b1 g1.sub e1 l1
    exact q _ _ H1 _ O (g1.trans g2) b2 k2 ⟨rfl, ds, rfl, hp⟩
theorem ev_frz (h : Ev K E Ψ te Δ O (nwl ds O)) : Ev K E Ψ te Δ O (ex (.lst ds) O) :=
  (ev_frzG (Φ' := fun es => es = ds) (h.imp fun d O' ⟨q, a, b⟩ => ⟨q, ds, a, b, rfl⟩)).imp fun d O' ⟨a, es, b, c⟩ => ⟨by rw [b, c], a⟩
/-! what a list's reading is -/
def LstOf (O : Own) (d : Dt) (ds : List Dt) : Prop := d = .lst ds ∨ ∃ p, d = .ref p ∧ (p, Ow.lst ds) ∈ O
theorem LstOf.read (h : LstOf O d ds) (b : OwnOk K F H O) (c : Ex F H) {v : V} (k : Dat K F v d) : ∃ a xs, v = .ref a ∧ H a = some (.lst xs) ∧ DatL K F xs ds := by
  rcases h with rfl | ⟨p, rfl, m⟩
  · cases k with | lst e l => exact ⟨_, _, rfl, c _ _ e, l⟩
  · cases k
    obtain ⟨_, xs, e, l⟩ := b.at_ _ _ m
    exact ⟨p, xs, rfl, e, l⟩
def SeqOf (O : Own) (d : Dt) (ds : List Dt) : Prop := LstOf O d ds ∨ d = .tup ds
theorem SeqOf.read (h : SeqOf O d ds) (b : OwnOk K F H O) (c : Ex F H) {v : V} (k : Dat K F v d) : ∃ a xs, v = .ref a ∧ (SqL K H a xs ∨ SqT K H a xs) ∧ DatL K F xs ds := by
  rcases h with h | rfl
  · obtain ⟨a, xs, e, h, l⟩ := h.read b c k
    exact ⟨a, xs, e, .inl (.of h), l⟩
  · cases k with | tup e l => exact ⟨_, _, rfl, .inr (Evl.ex_t c e), l⟩
theorem lo_lst : LstOf O (.lst ds) ds := .inl rfl
theorem lo_own {p : Addr} (m : (p, Ow.lst ds) ∈ O) : LstOf O (.ref p) ds := .inr ⟨p, rfl, m⟩
theorem so_lst : SeqOf O (.lst ds) ds := .inl lo_lst
theorem so_tup : SeqOf O (.tup ds) ds := .inr rfl
theorem so_own {p : Addr} (m : (p, Ow.lst ds) ∈ O) : SeqOf O (.ref p) ds := .inl (lo_own m)
/-! displays -/
theorem ev_lstG {Φ' : List Dt → Own → Prop} (h : EvA K E Ψ tas Δ O Φ') (hl : ∀ ds O', Φ' ds O' → ds.length ≤ 100000) : Ev K E Ψ (tLst tas) Δ O (fun d O' => ∃ q ds O1, d = .ref q ∧ O' = (q, .lst ds) :: O1 ∧ Φ' ds O1) := fun σ F H a b c e Q q =>
  h σ F H a b c e _ fun vs F1 H1 ds O1 g1 b1 k1 p1 => ⟨by rw [k1.length]; exact sz_of (hl ds O1 p1), fun p hp =>
    q _ F1 _ (.ref p) ((p, .lst ds) :: O1) (g1.trans (Gw.newOwn g1.sub hp)) (b1.newOwn g1.sub hp ⟨vs, upd_same, k1⟩) (.ref p) ⟨p, ds, O1, rfl, rfl, p1⟩⟩
theorem ev_lstN (h : EvA K E Ψ tas Δ O (exl ds O)) (hl : ds.length ≤ 100000) : Ev K E Ψ (tLst tas) Δ O (nwl ds O) :=
  (ev_lstG h (fun _ _ h => by obtain ⟨rfl, rfl⟩ := h; exact hl)).imp fun d O' ⟨q, es, O1, a, b, c⟩ => by obtain ⟨rfl, rfl⟩ := c; exact ⟨q, a, b⟩
theorem ev_lst (h : EvA K E Ψ tas Δ O (exl ds O)) (hl : ds.length ≤ 100000) : Ev K E Ψ (tLst tas) Δ O (ex (.lst ds) O) := ev_frz (ev_lstN h hl)
theorem ev_tupG {Φ' : List Dt → Own → Prop} (h : EvA K E Ψ tas Δ O Φ') (hl : ∀ ds O', Φ' ds O' → ds.length ≤ 100000) : Ev K E Ψ (tTup tas) Δ O (fun d O' => ∃ ds, d = .tup ds ∧ Φ' ds O') := fun σ F H a b c e Q q =>
  h σ F H a b c e _ fun vs F1 H1 ds O1 g1 b1 k1 p1 => ⟨by rw [k1.length]; exact sz_of (hl ds O1 p1), fun p hp =>
    q _ _ _ (.tup ds) O1 (g1.trans (Gw.new g1.sub hp)) (b1.new g1.sub hp) (.tup (.of upd_same) (k1.mono (Gw.new (O := O1) g1.sub hp).ext)) ⟨ds, rfl, p1⟩⟩
theorem ev_tup (h : EvA K E Ψ tas Δ O (exl ds O)) (hl : ds.length ≤ 100000) : Ev K E Ψ (tTup tas) Δ O (ex (.tup ds) O) :=
  (ev_tupG h (fun _ _ h => by obtain ⟨rfl, rfl⟩ := h; exact hl)).imp fun d O' ⟨es, a, b⟩ => by obtain ⟨rfl, rfl⟩ := b; exact ⟨a, rfl⟩
/-! primitives -/
theorem opd_val (h : ∀ F H v u, OwnOk K F H O → Ex F H → Dat K F v x → Dat K F u y → ∃ w, Dat K F w z ∧ ∀ Q : VK, Q w H → r v u H Q) : OpD K E Ψ r x y O (ex z O) := fun F H v u b c e k1 k2 Q q => by
  obtain ⟨w, k, g⟩ := h F H v u b c k1 k2
  exact g Q (q w F H z O (.refl c) b k ⟨rfl, rfl⟩)
theorem opd_new (h : ∀ F H v u, OwnOk K F H O → Ex F H → Dat K F v x → Dat K F u y → ∃ ws, DatL K F ws ds ∧ ∀ Q : VK, (∀ p, H p = none → Q (.ref p) (upd H p (.lst ws))) → r v u H Q) : OpD K E Ψ r x y O (nwl ds O) := fun F H v u b c e k1 k2 Q q => by
  obtain ⟨ws, k, g⟩ := h F H v u b c k1 k2
  exact g Q fun p hp => q _ F _ (.ref p) ((p, .lst ds) :: O) (Gw.newOwn c hp) (b.newOwn c hp ⟨ws, upd_same, k⟩) (.ref p) ⟨p, rfl, rfl⟩
theorem und_val {r : V → Hp → VK → Prop} (h : ∀ F H v, OwnOk K F H O → Ex F H → Dat K F v x → ∃ w, Dat K F w z ∧ ∀ Q : VK, Q w H → r v H Q) : UnD K E Ψ r x O (ex z O) := fun F H v b c e k1 Q q => by
  obtain ⟨w, k, g⟩ := h F H v b c k1
  exact g Q (q w F H z O (.refl c) b k ⟨rfl, rfl⟩)
theorem cad_val {r : List V → Hp → VK → Prop} {xs : List Dt} (h : ∀ F H vs, OwnOk K F H O → Ex F H → DatL K F vs xs → ∃ w, Dat K F w z ∧ ∀ Q : VK, Q w H → r vs H Q) : CaD K E Ψ r xs O (ex z O) := fun F H v b c e k1 Q q => by
  obtain ⟨w, k, g⟩ := h F H v b c k1
  exact g Q (q w F H z O (.refl c) b k ⟨rfl, rfl⟩)
theorem cad_new {r : List V → Hp → VK → Prop} {xs : List Dt} (h : ∀ F H vs, OwnOk K F H O → Ex F H → DatL K F vs xs → ∃ ws, DatL K F ws ds ∧ ∀ Q : VK, (∀ p, H p = none → Q (.ref p) (upd H p (.lst ws))) → r vs H Q) : CaD K E Ψ r xs O (nwl ds O) := fun F H v b c e k1 Q q => by
  obtain ⟨ws, k, g⟩ := h F H v b c k1
  exact g Q fun p hp => q _ F _ (.ref p) ((p, .lst ds) :: O) (Gw.newOwn c hp) (b.newOwn c hp ⟨ws, upd_same, k⟩) (.ref p) ⟨p, rfl, rfl⟩
theorem cad_newT {r : List V → Hp → VK → Prop} {xs : List Dt} (h : ∀ F H vs, OwnOk K F H O → Ex F H → DatL K F vs xs → ∃ ws, DatL K F ws ds ∧ ∀ Q : VK, (∀ p, H p = none → Q (.ref p) (upd H p (.tup ws))) → r vs H Q) : CaD K E Ψ r xs O (ex (.tup ds) O) := fun F H v b c e k1 Q q => by
  obtain ⟨ws, k, g⟩ := h F H v b c k1
  exact g Q fun p hp => q _ _ _ (.tup ds) O (Gw.new c hp) (b.new c hp) (.tup (.of upd_same) (k.mono (Gw.new (O := O) c hp).ext)) ⟨rfl, rfl⟩
theorem ev_cbG {r : List V → Hp → VK → Prop} {Θ : List Dt → Own → Prop} (ha : EvA K E Ψ tas Δ O Θ) (hr : ∀ xs O1, Θ xs O1 → CaD K E Ψ r xs O1 Φ) : Ev K E Ψ (tCB r tas) Δ O Φ :=
  fun σ F H a b c e Q q => ha σ F H a b c e _ fun v F1 H1 x O1 g1 b1 k1 p1 => hr x O1 p1 F1 H1 v b1 g1.sub (e.step g1) k1 Q fun w F3 H3 d O3 g3 b3 k3 p3 => q w F3 H3 d O3 (g1.trans g3) b3 k3 p3
theorem ev_cb {r : List V → Hp → VK → Prop} (ha : EvA K E Ψ tas Δ O (exl ds O)) (hr : CaD K E Ψ r ds O Φ) : Ev K E Ψ (tCB r tas) Δ O Φ := ev_cbG ha fun _ _ h => by obtain ⟨rfl, rfl⟩ := h; exact hr
theorem OpD.imp (h : OpD K E Ψ r x y O Φ) (k : ∀ d O', Φ d O' → Φ' d O') : OpD K E Ψ r x y O Φ' := fun F H v u b c e k1 k2 Q q => h F H v u b c e k1 k2 Q fun w F' H' d O' g w1 w2 w3 => q w F' H' d O' g w1 w2 (k d O' w3)
theorem CaD.imp {r : List V → Hp → VK → Prop} {xs : List Dt} (h : CaD K E Ψ r xs O Φ) (k : ∀ d O', Φ d O' → Φ' d O') : CaD K E Ψ r xs O Φ' := fun F H v b c e k1 Q q => h F H v b c e k1 Q fun w F' H' d O' g w1 w2 w3 => q w F' H' d O' g w1 w2 (k d O' w3)
/-! tests -/
theorem et_testG {Φ' : Bool → Own → Prop} (h : Ev K E Ψ te Δ O (fun d O' => ∃ b, d = .bl b ∧ Φ' b O')) : EvT K E Ψ (tTest te) Δ O Φ' := fun σ F H a b c e Q q => h σ F H a b c e _ fun v F1 H1 x O1 g1 b1 k1 p1 => by
  obtain ⟨k, rfl, p⟩ := p1
  cases k1
  exact ⟨k, rfl, q k F1 H1 O1 g1 b1 p⟩
theorem et_test {b : Bool} (h : Ev K E Ψ te Δ O (ex (.bl b) O)) : EvT K E Ψ (tTest te) Δ O (exb b O) := et_testG (h.imp fun d O' ⟨a, c⟩ => ⟨b, a, rfl, c⟩)
theorem et_B {b : Bool} (h : Ev K E Ψ te Δ O (ex (.bl b) O)) : EvT K E Ψ (tB te) Δ O (exb b O) := et_test h
theorem et_not {b : Bool} {t : TT} (h : EvT K E Ψ t Δ O (exb b O)) : EvT K E Ψ (tNot t) Δ O (exb (!b) O) := fun σ F H a bb c e Q q => h σ F H a bb c e _ fun v F1 H1 O1 g1 b1 p1 => by
  obtain ⟨rfl, rfl⟩ := p1
  exact q _ F1 H1 _ g1 b1 ⟨rfl, rfl⟩
theorem et_andG {t u : TT} {Φ1 Φ2 : Bool → Own → Prop} (h1 : EvT K E Ψ t Δ O Φ1) (h2 : ∀ O1, Φ1 true O1 → EvT K E Ψ u Δ O1 Φ2) (h3 : ∀ O1, Φ1 false O1 → Φ2 false O1) : EvT K E Ψ (tAnd t u) Δ O Φ2 := fun σ F H a bb c e Q q => h1 σ F H a bb c e _ fun v F1 H1 O1 g1 b1 p1 => by
  cases v with
  | true => exact iteT (h2 O1 p1 σ F1 H1 (a.mono g1.ext) b1 g1.sub (e.step g1) Q fun w F2 H2 O2 g2 b2 p2 => q w F2 H2 O2 (g1.trans g2) b2 p2)
  | false => exact iteF (q false F1 H1 O1 g1 b1 (h3 O1 p1))
theorem et_orG {t u : TT} {Φ1 Φ2 : Bool → Own → Prop} (h1 : EvT K E Ψ t Δ O Φ1) (h2 : ∀ O1, Φ1 false O1 → EvT K E Ψ u Δ O1 Φ2) (h3 : ∀ O1, Φ1 true O1 → Φ2 true O1) : EvT K E Ψ (tOr t u) Δ O Φ2 := fun σ F H a bb c e Q q => h1 σ F H a bb c e _ fun v F1 H1 O1 g1 b1 p1 => by
  cases v with
  | false => exact iteF (h2 O1 p1 σ F1 H1 (a.mono g1.ext) b1 g1.sub (e.step g1) Q fun w F2 H2 O2 g2 b2 p2 => q w F2 H2 O2 (g1.trans g2) b2 p2)
  | true => exact iteT (q true F1 H1 O1 g1 b1 (h3 O1 p1))
theorem et_and {t u : TT} {b b' : Bool} (h1 : EvT K E Ψ t Δ O (exb b O)) (h2 : b = true → EvT K E Ψ u Δ O (exb b' O)) : EvT K E Ψ (tAnd t u) Δ O (exb (b && b') O) :=
  et_andG h1 (fun O1 h => by obtain ⟨rfl, rfl⟩ := h; exact h2 rfl) (fun O1 h => by obtain ⟨rfl, rfl⟩ := h; exact ⟨rfl, rfl⟩)
theorem et_or {t u : TT} {b b' : Bool} (h1 : EvT K E Ψ t Δ O (exb b O)) (h2 : b = false → EvT K E Ψ u Δ O (exb b' O)) : EvT K E Ψ (tOr t u) Δ O (exb (b || b') O) :=
  et_orG h1 (fun O1 h => by obtain ⟨rfl, rfl⟩ := h; exact h2 rfl) (fun O1 h => by obtain ⟨rfl, rfl⟩ := h; exact ⟨rfl, rfl⟩)
theorem ev_andVG {Φ2 : Dt → Own → Prop} {Φ1 : Bool → Own → Prop} (h1 : Ev K E Ψ ta Δ O (fun d O' => ∃ b, d = .bl b ∧ Φ1 b O')) (h2 : ∀ O1, Φ1 true O1 → Ev K E Ψ tb Δ O1 Φ2) (h3 : ∀ O1, Φ1 false O1 → Φ2 (.bl false) O1) : Ev K E Ψ (tAndV ta tb) Δ O Φ2 := fun σ F H a bb c e Q q => h1 σ F H a bb c e _ fun v F1 H1 x O1 g1 b1 k1 p1 => by
  obtain ⟨k, rfl, p⟩ := p1
  cases k1
  refine ⟨k, rfl, ?_⟩
  cases k with
  | true => exact iteT (h2 O1 p σ F1 H1 (a.mono g1.ext) b1 g1.sub (e.step g1) Q fun w F2 H2 d2 O2 g2 b2 k2 p2 => q w F2 H2 d2 O2 (g1.trans g2) b2 k2 p2)
  | false => exact iteF (q _ F1 H1 _ O1 g1 b1 (.bl false) (h3 O1 p))
theorem ev_orVG {Φ2 : Dt → Own → Prop} {Φ1 : Bool → Own → Prop} (h1 : Ev K E Ψ ta Δ O (fun d O' => ∃ b, d = .bl b ∧ Φ1 b O')) (h2 : ∀ O1, Φ1 false O1 → Ev K E Ψ tb Δ O1 Φ2) (h3 : ∀ O1, Φ1 true O1 → Φ2 (.bl true) O1) : Ev K E Ψ (tOrV ta tb) Δ O Φ2 := fun σ F H a bb c e Q q => h1 σ F H a bb c e _ fun v F1 H1 x O1 g1 b1 k1 p1 => by
  obtain ⟨k, rfl, p⟩ := p1
  cases k1
  refine ⟨k, rfl, ?_⟩
  cases k with
  | false => exact iteF (h2 O1 p σ F1 H1 (a.mono g1.ext) b1 g1.sub (e.step g1) Q fun w F2 H2 d2 O2 g2 b2 k2 p2 => q w F2 H2 d2 O2 (g1.trans g2) b2 k2 p2)
  | true => exact iteT (q _ F1 H1 _ O1 g1 b1 (.bl true) (h3 O1 p))
theorem ev_andV {b b' : Bool} (h1 : Ev K E Ψ ta Δ O (ex (.bl b) O)) (h2 : b = true → Ev K E Ψ tb Δ O (ex (.bl b') O)) : Ev K E Ψ (tAndV ta tb) Δ O (ex (.bl (b && b')) O) :=
  ev_andVG (Φ1 := exb b O) (h1.imp fun d O' ⟨a, c⟩ => ⟨b, a, rfl, c⟩) (fun O1 h => by obtain ⟨rfl, rfl⟩ := h; exact h2 rfl) (fun O1 h => by obtain ⟨rfl, rfl⟩ := h; exact ⟨rfl, rfl⟩)
theorem ev_orV {b b' : Bool} (h1 : Ev K E Ψ ta Δ O (ex (.bl b) O)) (h2 : b = false → Ev K E Ψ tb Δ O (ex (.bl b') O)) : Ev K E Ψ (tOrV ta tb) Δ O (ex (.bl (b || b')) O) :=
  ev_orVG (Φ1 := exb b O) (h1.imp fun d O' ⟨a, c⟩ => ⟨b, a, rfl, c⟩) (fun O1 h => by obtain ⟨rfl, rfl⟩ := h; exact h2 rfl) (fun O1 h => by obtain ⟨rfl, rfl⟩ := h; exact ⟨rfl, rfl⟩)
theorem ev_notV {b : Bool} (h : Ev K E Ψ ta Δ O (ex (.bl b) O)) : Ev K E Ψ (tNotV ta) Δ O (ex (.bl (!b)) O) := fun σ F H a bb c e Q q => h σ F H a bb c e _ fun v F1 H1 x O1 g1 b1 k1 p1 => by
  obtain ⟨rfl, rfl⟩ := p1
  cases k1
  exact ⟨b, rfl, q _ F1 H1 _ _ g1 b1 (.bl _) ⟨rfl, rfl⟩⟩
theorem ev_ifG {t : TT} {Φ1 : Bool → Own → Prop} (h : EvT K E Ψ t Δ O Φ1) (h1 : ∀ O1, Φ1 true O1 → Ev K E Ψ ta Δ O1 Φ) (h2 : ∀ O1, Φ1 false O1 → Ev K E Ψ tb Δ O1 Φ) : Ev K E Ψ (tIf t ta tb) Δ O Φ := fun σ F H a bb c e Q q => h σ F H a bb c e _ fun v F1 H1 O1 g1 b1 p1 => by
  cases v with
  | true => exact iteT (h1 O1 p1 σ F1 H1 (a.mono g1.ext) b1 g1.sub (e.step g1) Q fun w F2 H2 d2 O2 g2 b2 k2 p2 => q w F2 H2 d2 O2 (g1.trans g2) b2 k2 p2)
  | false => exact iteF (h2 O1 p1 σ F1 H1 (a.mono g1.ext) b1 g1.sub (e.step g1) Q fun w F2 H2 d2 O2 g2 b2 k2 p2 => q w F2 H2 d2 O2 (g1.trans g2) b2 k2 p2)
theorem ev_if {t : TT} {b : Bool} (h : EvT K E Ψ t Δ O (exb b O)) (h1 : b = true → Ev K E Ψ ta Δ O Φ) (h2 : b = false → Ev K E Ψ tb Δ O Φ) : Ev K E Ψ (tIf t ta tb) Δ O Φ :=
  ev_ifG h (fun O1 h => by obtain ⟨rfl, rfl⟩ := h; exact h1 rfl) (fun O1 h => by obtain ⟨rfl, rfl⟩ := h; exact h2 rfl)
/-! statements -/
variable {t u t' : TS} {P' : Post} {M : Env_ → Own → Prop}
theorem sv_seq (h1 : Sv K E Ψ t Δ O { P with nx := M }) (h2 : ∀ Δ' O', M Δ' O' → Sv K E Ψ u Δ' O' P) : Sv K E Ψ (tSeq t u) Δ O P := fun σ F H D a b c e k =>
  h1 σ F H { D with nx := u D } a b c e ⟨fun σ' F' H' Δ' O' g b' a' m => h2 Δ' O' m σ' F' H' D a' b' g.sub (e.step g) (k.step g), k.rt, k.bk, k.ct⟩
theorem sv_next (h : P.nx Δ O) : Sv K E Ψ tNext Δ O P := fun σ F H D a b c e k => k.nx σ F H Δ O (.refl c) b a h
theorem sv_brk (h : P.bk Δ O) : Sv K E Ψ tBreak Δ O P := fun σ F H D a b c e k => k.bk σ F H Δ O (.refl c) b a h
theorem sv_cont (h : P.ct Δ O) : Sv K E Ψ tCont Δ O P := fun σ F H D a b c e k => k.ct σ F H Δ O (.refl c) b a h
theorem sv_ret (h : Ev K E Ψ te Δ O P.rt) : Sv K E Ψ (tRet te) Δ O P := fun σ F H D a b c e k => h σ F H a b c e _ fun v F1 H1 d O1 g1 b1 k1 p1 => k.rt v F1 H1 d O1 g1 b1 k1 p1
theorem sv_retN (h : P.rt .non O) : Sv K E Ψ tRetN Δ O P := fun σ F H D a b c e k => k.rt .non F H .non O (.refl c) b .non h
theorem sv_retS (h : Sv K E Ψ (tRet te) Δ O P) : Sv K E Ψ (tSeq (tRet te) u) Δ O P := h
end
end FF
set_option Elab.async false
set_option linter.all false
set_option maxRecDepth 100000
set_option maxHeartbeats 1000000
namespace FF
open PySem PySem.Spec PyProof.Rows L2
open Evl (Ex sz_of sz_lt fresh_back)
abbrev X0 : XPost := fun _ _ _ => False
section
variable {K : PySem.W.Frag} {E E' : XK} {Ψ : XPost} {F F' F1 F2 H H' H1 H2 : Hp} {O O' O1 O2 R : Own} {σ : L2.St} {Δ : Env_} {D : Ends} {P : Post}
variable {te ta tb : TE} {tt : TT} {tas : TA} {Φ Φ' : Dt → Own → Prop} {d x y z : Dt} {ds : List Dt} {r : R2} {t u t' : TS} {P' : Post} {M : Env_ → Own → Prop}
theorem XOk.zero : XOk K E X0 O F H := fun _ _ _ _ _ _ _ _ _ h => h.elim
theorem OwnOk.perm (h : OwnOk K F H O) (e : O.Perm O') : OwnOk K F H O' := ⟨(e.map _).nodup_iff.mp h.nd, fun p o m => h.at_ p o (e.mem_iff.mpr m)⟩
theorem Gw.permR (g : Gw O F H O1 F1 H1) (e : O1.Perm O2) : Gw O F H O2 F1 H1 := ⟨g.ext, g.sub, g.keep, g.dom, g.old, fun a m => g.addr a ((e.map _).mem_iff.mpr m)⟩
theorem Gw.permL (g : Gw O F H O1 F1 H1) (e : O.Perm O2) : Gw O2 F H O1 F1 H1 :=
  ⟨g.ext, g.sub, fun a o m => g.keep a o fun z => m ((e.map _).mem_iff.mp z), g.dom, fun a q m => g.old a q fun z => m ((e.map _).mem_iff.mp z), fun a m => (g.addr a m).imp (fun z => (e.map _).mem_iff.mp z) id⟩
theorem ev_frame (h : Ev K E X0 te Δ O Φ) : Ev K E' Ψ te Δ (O ++ R) (fun d O' => ∃ O1, O' = O1 ++ R ∧ Φ d O1) :=
  fun σ F H a b c e Q q => h σ F H a b.left c .zero Q fun v F' H' d O1 g b1 k p => q v F' H' d (O1 ++ R) g.frame (b.frame g b1) k ⟨O1, rfl, p⟩
theorem et_frame {Φ : Bool → Own → Prop} (h : EvT K E X0 tt Δ O Φ) : EvT K E' Ψ tt Δ (O ++ R) (fun d O' => ∃ O1, O' = O1 ++ R ∧ Φ d O1) :=
  fun σ F H a b c e Q q => h σ F H a b.left c .zero Q fun v F' H' O1 g b1 p => q v F' H' (O1 ++ R) g.frame (b.frame g b1) ⟨O1, rfl, p⟩
/-! sources of loops -/
def YD (K : PySem.W.Frag) (F1 : Hp) (ds : List Dt) : Nat → Hp → V → Hp → Prop := fun i H x H' => ∀ F2 O2 d, ds[i]? = some d → Ex F1 F2 → Ex F2 H → OwnOk K F2 H O2 → ∃ F3, Gw O2 F2 H O2 F3 H' ∧ OwnOk K F3 H' O2 ∧ Dat K F3 x d
def Iv (K : PySem.W.Frag) (E : XK) (Ψ : XPost) (wi : TI) (Δ : Env_) (O : Own) (Θ : List Dt → Own → Prop) : Prop :=
  ∀ σ F H, EnvOk K F σ Δ → OwnOk K F H O → Ex F H → XOk K E Ψ O F H → ∀ R : It → Hp → Prop, (∀ J G F1 H1 ds O1, Gw O F H O1 F1 H1 → OwnOk K F1 H1 O1 → (∀ H2, Ex F1 H2 → G H2) → L2.Walk J ds.length G (YD K F1 ds) → Θ ds O1 → R J H1) → wi σ H R
theorem yd_at {xs : List V} (l : DatL K F1 xs ds) {i : Nat} {H H' : Hp} {x : V} (y : L2.YAt xs i H x H') : YD K F1 ds i H x H' := fun F2 O2 d e e1 e2 b => by
  obtain ⟨rfl, hx⟩ := y
  obtain ⟨v, hv, k⟩ := l.get e
  rw [hx] at hv; cases hv
  exact ⟨F2, .refl e2, b, k.mono e1⟩
theorem iv_list {tl : TE} {Θ : List Dt → Own → Prop} (h : Ev K E Ψ tl Δ O (fun d O' => ∃ ds, d = .lst ds ∧ Θ ds O')) : Iv K E Ψ (iList K tl) Δ O Θ := fun σ F H a b c e R q =>
  h σ F H a b c e _ fun v F1 H1 d O1 g1 b1 k1 p1 => by
    obtain ⟨ds, rfl, p⟩ := p1
    cases k1 with
    | lst hx l =>
      rename_i ad xs
      have w := L2.walk_list (K := K) (a := ad) (xs := xs)
      rw [l.length] at w
      exact ⟨_, rfl, ⟨_, .of (g1.sub _ _ hx)⟩, q _ _ F1 H1 ds O1 g1 b1 (fun H2 e2 => SqL.of (e2 _ _ hx)) (w.mono (fun _ z => z) fun i H x H' _ _ y => yd_at l y) p⟩
theorem iv_tup {tl : TE} {Θ : List Dt → Own → Prop} (h : Ev K E Ψ tl Δ O (fun d O' => ∃ ds, d = .tup ds ∧ Θ ds O')) : Iv K E Ψ (iTup K tl) Δ O Θ := fun σ F H a b c e R q =>
  h σ F H a b c e _ fun v F1 H1 d O1 g1 b1 k1 p1 => by
    obtain ⟨ds, rfl, p⟩ := p1
    cases k1 with
    | tup hx l =>
      rename_i ad xs
      have w := L2.walk_tup (K := K) (a := ad) (xs := xs)
      rw [l.length] at w
      exact ⟨_, rfl, ⟨_, Evl.ex_t g1.sub hx⟩, q _ _ F1 H1 ds O1 g1 b1 (fun H2 e2 => Evl.ex_t e2 hx) (w.mono (fun _ z => z) fun i H x H' _ _ y => yd_at l y) p⟩
theorem iv_listE {tl : TE} (h : Ev K E Ψ tl Δ O (ex (.lst ds) O)) : Iv K E Ψ (iList K tl) Δ O (exl ds O) := iv_list (h.imp fun d O' ⟨a, b⟩ => ⟨ds, a, rfl, b⟩)
def rng (lo : Int) (n : Nat) : List Dt := (List.range n).map fun i => Dt.int (lo + (i : Nat))
theorem rng_len (lo : Int) (n : Nat) : (rng lo n).length = n := by simp [rng]
theorem rng_get {lo : Int} {n i : Nat} {d : Dt} (h : (rng lo n)[i]? = some d) : i < n ∧ d = .int (lo + (i : Nat)) := by
  have hl : i < n := by
    have := (List.getElem?_eq_some_iff.mp h).1
    rwa [rng_len] at this
  refine ⟨hl, ?_⟩
  unfold rng at h
  rw [List.getElem?_map, List.getElem?_range hl] at h
  exact (Option.some.inj h).symm
theorem yd_rng {lo : Int} {n : Nat} {i : Nat} {H H' : Hp} {x : V} (y : L2.YFn (fun i => .int (lo + i)) i H x H') : YD K F1 (rng lo n) i H x H' := fun F2 O2 d e e1 e2 b => by
  obtain ⟨rfl, rfl⟩ := y
  obtain ⟨_, rfl⟩ := rng_get e
  exact ⟨F2, .refl e2, b, .int _⟩
theorem iv_range1 {n : Int} (h : EvA K E Ψ tas Δ O (exl [.int n] O)) (h1 : -(2 ^ 62) ≤ n) (h2 : n < 2 ^ 62) : Iv K E Ψ (iRng1 tas) Δ O (exl (rng 0 n.toNat) O) := fun σ F H a b c e R q =>
  h σ F H a b c e _ fun vs F1 H1 d O1 g1 b1 k1 p1 => by
    obtain ⟨rfl, rfl⟩ := p1
    cases k1 with
    | cons k l =>
      cases k; cases l
      have w := L2.walk_range (lo := 0) (n := n.toNat)
      rw [← rng_len 0 n.toNat] at w
      refine ⟨n, rfl, h1, h2, q _ _ F1 H1 (rng 0 n.toNat) O1 g1 b1 (fun H2 e2 => trivial) ?_ ⟨rfl, rfl⟩⟩
      rw [rng_len] at w ⊢
      exact w.mono (fun _ z => z) fun i H x H' _ _ y => yd_rng y
/-! comprehensions -/
theorem ev_lc {wi : TI} {g : TG} {vs js : List Nat} {T : Dt → Env_ → Env_} {Θ : List Dt → Own → Prop} (hi : Iv K E Ψ wi Δ O Θ) (hO : ∀ ds O', Θ ds O' → O' = O ∧ ds.length ≤ 50000)
    (hg : ∀ (ds : List Dt) (O' : Own) (i : Nat) (d : Dt), Θ ds O' → ds[i]? = some d → Gv K g d js (T d)) (hj : ∀ j ∈ js, j ∈ vs) (P : List Dt → Nat → List Dt → Prop) (h0 : ∀ ds O', Θ ds O' → P ds 0 [])
    (hs : ∀ (ds : List Dt) (O' : Own) (i : Nat) (d : Dt) (acc : List Dt), Θ ds O' → ds[i]? = some d → P ds i acc → EvT K E' X0 tt (T d (wipeD Δ vs)) O (fun b O1 => O1 = O ∧ (b = true → Ev K E' X0 te (T d (wipeD Δ vs)) O (fun e O2 => O2 = O ∧ P ds (i + 1) (acc ++ [e]))) ∧ (b = false → P ds (i + 1) acc))) :
    Ev K E Ψ (tLc wi g tt te vs) Δ O (fun d O' => ∃ q res, d = .ref q ∧ O' = (q, .lst res) :: O ∧ ∃ ds, Θ ds O ∧ P ds ds.length res) := fun σ F H a b c e Q q =>
  hi σ F H a b c e _ fun J G F1 H1 ds O1 g1 b1 hG hw hΘ => fun Dn hD => by
    obtain ⟨hOO, hlen⟩ := hO ds O1 hΘ
    subst hOO
    refine L2.lc_it hw (fun i Hc => ∃ Fc acc, Gw O1 F1 H1 (O1 ++ [(Dn, .lst acc)]) Fc Hc ∧ OwnOk K Fc Hc (O1 ++ [(Dn, .lst acc)]) ∧ acc.length ≤ i ∧ P ds i acc) ?_ ?_ ?_ ?_
    · have g2 := Gw.newOwn (O := O1) (o := .lst []) (u := .lst []) g1.sub hD
      have b2 := b1.newOwn (o := .lst []) (u := .lst []) g1.sub hD ⟨[], upd_same, .nil⟩
      exact ⟨F1, [], g2.permR (List.perm_append_comm (l₁ := [_])), b2.perm (List.perm_append_comm (l₁ := [_])), Nat.le_refl _, h0 ds O1 hΘ⟩
    · rintro i Hc _ ⟨Fc, acc, g, bb, _⟩
      exact hG Hc (g.ext.trans g.sub)
    · rintro i x Hc Hc' hi ⟨Fc, acc, g, bb, hla, p⟩ y
      obtain ⟨dd, hd⟩ : ∃ dd, ds[i]? = some dd := ⟨ds[i], by simp [hi]⟩
      obtain ⟨F3, g3, b3, k3⟩ := y Fc _ dd hd g.ext g.sub bb
      have env : EnvOk K F3 (L2.wipe σ vs) (wipeD Δ vs) := (a.mono (g1.ext.trans (g.ext.trans g3.ext))).wipe vs
      refine hg ds O1 i dd hΘ hd x (L2.wipe σ vs) Hc' F3 _ _ g3.sub k3 env fun σ' l1 m1 env' => ⟨?_, ?_⟩
      · rw [← wipe_wipe σ vs]
        exact wipe_eq l1 fun j hj' => m1 j fun z => hj' (hj j z)
      · refine et_frame (hs ds O1 i dd acc hΘ hd p) (E' := E') (Ψ := X0) σ' F3 Hc' env' b3 g3.sub .zero _ fun bt F4 H4 O4 g4 b4 p4 => ?_
        obtain ⟨O5, rfl, rfl, pt, pf⟩ := p4
        cases bt with
        | false => exact iteF ⟨F4, acc, (g.trans g3).trans g4, b4, by omega, pf rfl⟩
        | true =>
          refine iteT (ev_frame (pt rfl) (E' := E') (Ψ := X0) σ' F4 H4 (env'.mono g4.ext) b4 g4.sub .zero _ fun v F5 H5 de O6 g5 b5 k5 p5 => ?_)
          obtain ⟨O7, rfl, rfl, pn⟩ := p5
          have mem : (Dn, Ow.lst acc) ∈ O7 ++ [(Dn, Ow.lst acc)] := by simp
          obtain ⟨_, xs, hx, lx⟩ := b5.at_ _ _ mem
          have hi2 : (O7 ++ [(Dn, Ow.lst acc)])[O7.length]? = some (Dn, Ow.lst acc) := by simp
          have hset : (O7 ++ [(Dn, Ow.lst acc)]).set O7.length (Dn, Ow.lst (acc ++ [de])) = O7 ++ [(Dn, Ow.lst (acc ++ [de]))] := by simp
          obtain ⟨b6, hm⟩ := b5.mut (u := .lst (xs ++ [v])) (o' := .lst (acc ++ [de])) hi2 ⟨xs ++ [v], upd_same, lx.append (.one k5)⟩
          rw [hset] at b6 hm
          have g6 := Gw.mut (u := .lst (xs ++ [v])) b5 g5.sub (mem_addr mem) hm
          refine ⟨xs, hx, sz_lt (by rw [lx.length]; omega), F5, acc ++ [de], (((g.trans g3).trans g4).trans g5).trans g6, b6, by simp; omega, pn⟩
    · rintro Hc ⟨Fc, acc, g, bb, hla, p⟩
      exact q _ Fc Hc (.ref Dn) _ (g1.trans (g.permR (List.perm_append_comm (l₂ := [_])))) (bb.perm (List.perm_append_comm (l₂ := [_]))) (.ref Dn) ⟨Dn, acc, rfl, rfl, ds, hΘ, p⟩
/-- the simple form: each item gives its element, or is left out -/
theorem ev_lcF {wi : TI} {g : TG} {vs js : List Nat} {T : Dt → Env_ → Env_} (p : Dt → Bool) (f : Dt → Dt) (hi : Iv K E Ψ wi Δ O (exl ds O)) (hl : ds.length ≤ 50000) (hg : ∀ d, d ∈ ds → Gv K g d js (T d)) (hj : ∀ j ∈ js, j ∈ vs)
    (hs : ∀ d, d ∈ ds → EvT K E' X0 tt (T d (wipeD Δ vs)) O (exb (p d) O)) (he : ∀ d, d ∈ ds → p d = true → Ev K E' X0 te (T d (wipeD Δ vs)) O (ex (f d) O)) :
    Ev K E Ψ (tLc wi g tt te vs) Δ O (nwl ((ds.filter p).map f) O) := by
  refine (ev_lc (E' := E') (P := fun ds i acc => acc = ((ds.take i).filter p).map f) hi (fun ds' O' h => ⟨h.2, by rw [h.1]; exact hl⟩) (fun ds' O' i d h hd => hg d (by rw [← h.1]; exact List.mem_of_getElem? hd)) hj (fun _ _ _ => by simp) ?_).imp ?_
  · intro ds' O' i d acc h hd hacc
    have hm : d ∈ ds := by rw [← h.1]; exact List.mem_of_getElem? hd
    refine (hs d hm).imp fun b O1 hb => ⟨hb.2, fun ht => ?_, fun hf => ?_⟩
    · have hp : p d = true := by rw [← hb.1]; exact ht
      refine (he d hm hp).imp fun e O2 h2 => ⟨h2.2, ?_⟩
      rw [h2.1, hacc, List.take_add_one, hd, List.filter_append, List.map_append]
      simp [hp]
    · have hp : p d = false := by rw [← hb.1]; exact hf
      rw [hacc, List.take_add_one, hd, List.filter_append, List.map_append]
      simp [hp]
  · rintro d O' ⟨q, res, h1, h2, ds', h3, h4⟩
    refine ⟨q, h1, ?_⟩
    rw [h2, h4, h3.1, List.take_length]
theorem et_yes : EvT K E Ψ tYes Δ O (exb true O) := fun σ F H a b c e Q q => q true F H O (.refl c) b ⟨rfl, rfl⟩
theorem ev_lcM {wi : TI} {g : TG} {vs js : List Nat} {T : Dt → Env_ → Env_} (f : Dt → Dt) (hi : Iv K E Ψ wi Δ O (exl ds O)) (hl : ds.length ≤ 50000) (hg : ∀ d, d ∈ ds → Gv K g d js (T d)) (hj : ∀ j ∈ js, j ∈ vs)
    (he : ∀ d, d ∈ ds → Ev K E' X0 te (T d (wipeD Δ vs)) O (ex (f d) O)) : Ev K E Ψ (tLc wi g tYes te vs) Δ O (nwl (ds.map f) O) := by
  have h := ev_lcF (E' := E') (p := fun _ => true) f hi hl hg hj (fun d _ => et_yes) (fun d hd _ => he d hd)
  rwa [List.filter_eq_self.mpr (by simp)] at h
/-! statements -/
theorem sv_set {i : Nat} (h : Ev K E Ψ te Δ O Φ) (k : ∀ d O', Φ d O' → P.nx (Δ.set i (some d)) O') : Sv K E Ψ (tAsg te (gName i)) Δ O P := fun σ F H D a b c e kk =>
  h σ F H a b c e _ fun v F1 H1 d O1 g1 b1 k1 p1 => kk.nx _ F1 H1 _ O1 g1 b1 ((a.mono g1.ext).set i k1) (k d O1 p1)
theorem sv_setS {i : Nat} (h : Ev K E Ψ te Δ O Φ) (k : ∀ d O', Φ d O' → Sv K E Ψ u (Δ.set i (some d)) O' P) : Sv K E Ψ (tSeq (tAsg te (gName i)) u) Δ O P := sv_seq (M := fun Δ' O' => Sv K E Ψ u Δ' O' P) (sv_set h fun d O' p => k d O' p) fun _ _ m => m
theorem sv_setE {i : Nat} (h : Ev K E Ψ te Δ O (ex d O)) (k : Sv K E Ψ u (Δ.set i (some d)) O P) : Sv K E Ψ (tSeq (tAsg te (gName i)) u) Δ O P := sv_setS h fun d' O' p => by rw [p.1, p.2]; exact k
theorem sv_par {i j : Nat} {Θ : List Dt → Own → Prop} (h : EvA K E Ψ tas Δ O Θ) (k : ∀ ds O', Θ ds O' → ∃ a b, ds = [a, b] ∧ P.nx ((Δ.set i (some a)).set j (some b)) O') : Sv K E Ψ (tPar i j tas) Δ O P := fun σ F H D a b c e kk =>
  h σ F H a b c e _ fun v F1 H1 ds O1 g1 b1 k1 p1 => by
    obtain ⟨da, db, rfl, q⟩ := k ds O1 p1
    cases k1 with
    | cons ka l =>
      cases l with
      | cons kb l =>
        cases l
        exact ⟨_, _, rfl, kk.nx _ F1 H1 _ O1 g1 b1 (((a.mono g1.ext).set i ka).set j kb) q⟩
theorem sv_drop (h : Ev K E Ψ te Δ O Φ) (k : ∀ d O', Φ d O' → P.nx Δ O') : Sv K E Ψ (tDrop te) Δ O P := fun σ F H D a b c e kk =>
  h σ F H a b c e _ fun v F1 H1 d O1 g1 b1 k1 p1 => kk.nx _ F1 H1 _ O1 g1 b1 (a.mono g1.ext) (k d O1 p1)
theorem sv_ifG {tc : TT} {Φ1 : Bool → Own → Prop} (h : EvT K E Ψ tc Δ O Φ1) (h1 : ∀ O1, Φ1 true O1 → Sv K E Ψ t Δ O1 P) (h2 : ∀ O1, Φ1 false O1 → Sv K E Ψ t' Δ O1 P) : Sv K E Ψ (tIfS tc t t') Δ O P := fun σ F H D a b c e kk =>
  h σ F H a b c e _ fun v F1 H1 O1 g1 b1 p1 => by
    cases v with
    | true => exact iteT (h1 O1 p1 σ F1 H1 D (a.mono g1.ext) b1 g1.sub (e.step g1) (kk.step g1))
    | false => exact iteF (h2 O1 p1 σ F1 H1 D (a.mono g1.ext) b1 g1.sub (e.step g1) (kk.step g1))
theorem sv_if {tc : TT} {b : Bool} (h : EvT K E Ψ tc Δ O (exb b O)) (h1 : b = true → Sv K E Ψ t Δ O P) (h2 : b = false → Sv K E Ψ t' Δ O P) : Sv K E Ψ (tIfS tc t t') Δ O P :=
  sv_ifG h (fun O1 p => by rw [p.2]; exact h1 p.1.symm) (fun O1 p => by rw [p.2]; exact h2 p.1.symm)
theorem sv_ifSG {tc : TT} {Φ1 : Bool → Own → Prop} (h : EvT K E Ψ tc Δ O Φ1) (h1 : ∀ O1, Φ1 true O1 → Sv K E Ψ (tSeq t u) Δ O1 P) (h2 : ∀ O1, Φ1 false O1 → Sv K E Ψ (tSeq t' u) Δ O1 P) : Sv K E Ψ (tSeq (tIfS tc t t') u) Δ O P := fun σ F H D a b c e kk =>
  h σ F H a b c e _ fun v F1 H1 O1 g1 b1 p1 => by
    cases v with
    | true => exact iteT (h1 O1 p1 σ F1 H1 D (a.mono g1.ext) b1 g1.sub (e.step g1) (kk.step g1))
    | false => exact iteF (h2 O1 p1 σ F1 H1 D (a.mono g1.ext) b1 g1.sub (e.step g1) (kk.step g1))
theorem sv_ifS {tc : TT} {b : Bool} (h : EvT K E Ψ tc Δ O (exb b O)) (h1 : b = true → Sv K E Ψ (tSeq t u) Δ O P) (h2 : b = false → Sv K E Ψ (tSeq t' u) Δ O P) : Sv K E Ψ (tSeq (tIfS tc t t') u) Δ O P :=
  sv_ifSG h (fun O1 p => by rw [p.2]; exact h1 p.1.symm) (fun O1 p => by rw [p.2]; exact h2 p.1.symm)
theorem sv_nextS (h : Sv K E Ψ u Δ O P) : Sv K E Ψ (tSeq tNext u) Δ O P := h
theorem sv_assoc {w : TS} (h : Sv K E Ψ (tSeq t (tSeq u w)) Δ O P) : Sv K E Ψ (tSeq (tSeq t u) w) Δ O P := h
theorem sv_aug {i : Nat} {f : Int → Int → Int} {a b : Int} (hx : Δ[i]? = some (some (.int a))) (h : Ev K E Ψ te Δ O (ex (.int b) O)) (k : P.nx (Δ.set i (some (.int (f a b)))) O) : Sv K E Ψ (tAug i te (ipI f)) Δ O P := fun σ F H D ae bb c e kk => by
  obtain ⟨v, hv, kv⟩ := ae.at_ i _ hx
  cases kv
  exact ⟨_, hv, h σ F H ae bb c e _ fun v F1 H1 d O1 g1 b1 k1 p1 => by
    obtain ⟨rfl, rfl⟩ := p1
    cases k1
    exact ⟨a, b, rfl, rfl, kk.nx _ F1 H1 _ _ g1 b1 ((ae.mono g1.ext).set i (.int _)) k⟩⟩
theorem sv_for {wi : TI} {g : TG} {js : List Nat} {T : Dt → Env_ → Env_} {Θ : List Dt → Own → Prop} (hi : Iv K E Ψ wi Δ O Θ) (hg : ∀ (ds : List Dt) (O' : Own) (i : Nat) (d : Dt), Θ ds O' → ds[i]? = some d → Gv K g d js (T d)) (I : List Dt → Nat → Env_ → Own → Prop) (h0 : ∀ ds O', Θ ds O' → I ds 0 Δ O')
    (hs : ∀ (ds : List Dt) (O1 : Own) (i : Nat) (d : Dt) (Δ' : Env_) (O' : Own), Θ ds O1 → ds[i]? = some d → I ds i Δ' O' → Sv K E Ψ t (T d Δ') O' { nx := I ds (i + 1), ct := I ds (i + 1), bk := P.nx, rt := P.rt }) (hd : ∀ ds O1 Δ' O', Θ ds O1 → I ds ds.length Δ' O' → P.nx Δ' O') : Sv K E Ψ (tFor wi g t) Δ O P := fun σ F H D a b c e kk =>
  hi σ F H a b c e _ fun J G F1 H1 ds O1 g1 b1 hG hw hΘ =>
    L2.for_it hw (fun i σc Hc => ∃ Fc Oc Δc, Gw O1 F1 H1 Oc Fc Hc ∧ OwnOk K Fc Hc Oc ∧ EnvOk K Fc σc Δc ∧ I ds i Δc Oc) ⟨F1, O1, Δ, .refl g1.sub, b1, a.mono g1.ext, h0 ds O1 hΘ⟩
      (fun i σc Hc _ ⟨Fc, Oc, Δc, g, _⟩ => hG Hc (g.ext.trans g.sub))
      (fun i x σc Hc Hc' hi ⟨Fc, Oc, Δc, g, bb, env, p⟩ y => by
        obtain ⟨dd, hd'⟩ : ∃ dd, ds[i]? = some dd := ⟨ds[i], by simp [hi]⟩
        obtain ⟨F3, g3, b3, k3⟩ := y Fc Oc dd hd' g.ext g.sub bb
        refine hg ds O1 i dd hΘ hd' x σc Hc' F3 Δc _ g3.sub k3 (env.mono g3.ext) fun σ' _ _ env' => ?_
        have gg := g.trans g3
        refine hs ds O1 i dd Δc Oc hΘ hd' p σ' F3 Hc' _ env' b3 g3.sub (e.step (g1.trans gg)) ⟨fun σ2 F4 H4 Δ2 O4 g4 b4 a4 m => ⟨F4, O4, Δ2, gg.trans g4, b4, a4, m⟩, fun v F4 H4 d4 O4 g4 b4 k4 m => kk.rt v F4 H4 d4 O4 ((g1.trans gg).trans g4) b4 k4 m,
          fun σ2 F4 H4 Δ2 O4 g4 b4 a4 m => kk.nx σ2 F4 H4 Δ2 O4 ((g1.trans gg).trans g4) b4 a4 m, fun σ2 F4 H4 Δ2 O4 g4 b4 a4 m => ⟨F4, O4, Δ2, gg.trans g4, b4, a4, m⟩⟩)
      (fun σc Hc ⟨Fc, Oc, Δc, g, bb, env, p⟩ => kk.nx σc Fc Hc Δc Oc (g1.trans g) bb env (hd ds O1 Δc Oc hΘ p))
/-- over known items, then what follows -/
theorem sv_forS {wi : TI} {g : TG} {js : List Nat} {T : Dt → Env_ → Env_} (hi : Iv K E Ψ wi Δ O (exl ds O)) (hg : ∀ (i : Nat) (d : Dt), ds[i]? = some d → Gv K g d js (T d)) (I : Nat → Env_ → Own → Prop) (h0 : I 0 Δ O)
    (hs : ∀ (i : Nat) (d : Dt) (Δ' : Env_) (O' : Own), ds[i]? = some d → I i Δ' O' → Sv K E Ψ t (T d Δ') O' { nx := I (i + 1), ct := I (i + 1), bk := fun Δ' O' => Sv K E Ψ u Δ' O' P, rt := P.rt }) (hd : ∀ Δ' O', I ds.length Δ' O' → Sv K E Ψ u Δ' O' P) : Sv K E Ψ (tSeq (tFor wi g t) u) Δ O P :=
  sv_seq (M := fun Δ' O' => Sv K E Ψ u Δ' O' P) (sv_for (I := fun _ => I) hi (fun ds' O' i d h hd' => hg i d (by rw [← h.1]; exact hd')) (fun _ _ h => by rw [h.2]; exact h0) (fun ds' O1 i d Δ' O' h hd' p => hs i d Δ' O' (by rw [← h.1]; exact hd') p) (fun ds' O1 Δ' O' h p => hd Δ' O' (by rw [← h.1]; exact p))) fun _ _ m => m
/-- freezing an owned list of a slot -/
theorem sv_frz {p : Addr} {i : Nat} (m : (p, Ow.lst ds) ∈ O) (hi : Δ[i]? = some (some (.ref p))) (h : ∀ O', O.Perm ((p, .lst ds) :: O') → Sv K E Ψ t (Δ.set i (some (.lst ds))) O' P) : Sv K E Ψ t Δ O P := fun σ F H D a b c e kk => by
  obtain ⟨O1, O2, rfl⟩ := List.append_of_mem m
  have pm : (O1 ++ (p, Ow.lst ds) :: O2).Perm ((p, .lst ds) :: (O1 ++ O2)) := List.perm_middle
  have b' := b.perm pm
  obtain ⟨_, xs, hx, lx⟩ := b'.at_ p (.lst ds) (by simp)
  obtain ⟨g, b2, k2⟩ := Gw.frz b' c hx lx
  have g' : Gw (O1 ++ (p, Ow.lst ds) :: O2) F H (O1 ++ O2) (upd F p (.lst xs)) H := g.permL pm.symm
  refine h (O1 ++ O2) pm σ _ H D ?_ b2 g'.sub (e.step g') (kk.step g')
  refine ⟨by rw [List.length_set]; exact a.len, fun j d' q => ?_⟩
  by_cases hj : i = j
  · subst hj
    have hl : i < Δ.length := (List.getElem?_eq_some_iff.mp hi).1
    rw [List.getElem?_set_self hl] at q
    cases q
    obtain ⟨v, hv, kv⟩ := a.at_ i _ hi
    cases kv
    exact ⟨_, hv, k2⟩
  · rw [List.getElem?_set_ne hj] at q
    obtain ⟨v, hv, kv⟩ := a.at_ j d' q
    exact ⟨v, hv, kv.mono g'.ext⟩
/-! defs and their calls -/
abbrev Pre := List Dt → Own → (Dt → Own → Prop) → XPost → Prop
def mkSp (K : PySem.W.Frag) (pre : Pre) : Sp := fun vs H Q E => ∃ F ds O Φ Ψ, DatL K F vs ds ∧ OwnOk K F H O ∧ Ex F H ∧ pre ds O Φ Ψ ∧ XOk K E Ψ O F H ∧ ∀ v F' H' d O', Gw O F H O' F' H' → OwnOk K F' H' O' → Dat K F' v d → Φ d O' → Q v H'
/-- a def that lets nothing out -/
theorem ev_call0 {pre : Pre} {ts : TA} {Θ : List Dt → Own → Prop} (ha : EvA K E Ψ ts Δ O Θ) (hp : ∀ ds O1, Θ ds O1 → ∃ Oa R Φ1, O1 = Oa ++ R ∧ pre ds Oa Φ1 X0 ∧ ∀ d O2, Φ1 d O2 → Φ d (O2 ++ R)) :
    Ev K E Ψ (tCall (mkSp K pre) [] E' ts) Δ O Φ := fun σ F H a b c e Q q => ha σ F H a b c e _ fun vs F1 H1 ds O1 g1 b1 k1 p1 => by
  obtain ⟨Oa, R, Φ1, rfl, h1, h3⟩ := hp ds O1 p1
  rw [List.append_nil]
  exact ⟨F1, ds, Oa, Φ1, X0, k1, b1.left, g1.sub, h1, .zero, fun v F' H' d O' g2 b2 k2 p2 => q v F' H' d (O' ++ R) (g1.trans g2.frame) (b1.frame g2 b2) k2 (h3 d O' p2)⟩
/-- .. that owns nothing and gives one thing -/
theorem ev_callE {pre : Pre} {ts : TA} (ha : EvA K E Ψ ts Δ O (exl ds O)) (hp : pre ds [] (ex z []) X0) : Ev K E Ψ (tCall (mkSp K pre) [] E' ts) Δ O (ex z O) :=
  ev_call0 ha fun ds' O1 h => ⟨[], O1, ex z [], rfl, by rw [h.1]; exact hp, fun d O2 p => ⟨p.1, by rw [p.2, h.2]; rfl⟩⟩
def startD (n : Nat) (ds : List Dt) : Env_ := ds.map some ++ List.replicate (n - ds.length) none
theorem env_start {N : List Str} {vs : List V} (h : DatL K F vs ds) : EnvOk K F (L2.start N vs) (startD N.length ds) := by
  unfold L2.start startD
  refine ⟨by simp [h.length], fun i d q => ?_⟩
  by_cases hi : i < ds.length
  · rw [List.getElem?_append_left (by simpa using hi), List.getElem?_map] at q
    cases e : ds[i]? with
    | none => rw [e] at q; simp at q
    | some d' =>
      rw [e] at q
      cases q
      obtain ⟨v, hv, k⟩ := h.get e
      refine ⟨v, ?_, k⟩
      rw [List.getElem?_append_left (by simp [h.length]; exact hi), List.getElem?_map, hv]
      rfl
  · rw [List.getElem?_append_right (by simpa using hi)] at q
    have := List.mem_of_getElem? q
    simp at this
structure DefAt (K : PySem.W.Frag) (mg : Str → Option Value) (x qual : Str) (st : Stmt) (ps : List Str) : Prop where
  ex : ∃ f fd, Fun K x qual st f fd ∧ Binds K fd ps [] ∧ mg x = some (.ref f)
structure Has (P : Program) (w : World) (K : PySem.W.Frag) (mg : Str → Option Value) (base : Heap) (CX : CXT) (k : Nat) (x : Str) (ps : List Str) (sp : Sp) : Prop where
  ex : ∃ f fd, FnOk P w K mg base CX k f fd ps sp ∧ Binds K fd ps [] ∧ PySem.W.keepIn K (.ref f) = true ∧ mg x = some (.ref f)
end
section
variable {P : Program} {w : World} {K : PySem.W.Frag} {mg : Str → Option Value} {base : Heap} {CX : CXT}
theorem Has.mono {j k : Nat} {x : Str} {ps : List Str} {sp : Sp} (h : Has P w K mg base CX j x ps sp) (l : j ≤ k) : Has P w K mg base CX k x ps sp := by
  obtain ⟨f, fd, a, b, c, d⟩ := h.ex
  exact ⟨f, fd, a.mono l, b, c, d⟩
theorem pe_has {X : Cx} {k : Nat} {x : Str} {ps : List Str} {sp : Sp} {E : XK} {e : Expr} {es : List Expr} {t : TA} {p pos : Pos} (h : Has X.prog X.w X.K X.mg X.base CX k x ps sp) (hr : Room k X.A) (hg : Gl X x) (hx : Passes CX X E) (ha : PA X (e :: es) t)
    (hd : (x == ("__debug__" : Str)) = false := by decide) (he : starEach (e :: es) X.env = (false, eval e X.env) :: starEach es X.env := by rfl) (hpl : (backTo pos (starEach es X.env)).any (·.1) = false := by rfl) : PE X (.Call (.Name x p) (e :: es) [] pos) (tCall sp [] E t) := by
  obtain ⟨f, fd, F, b, kp, hm⟩ := h.ex
  exact pe_call F hr hg hm kp b .nil hx ha hd he hpl
theorem has_of {x qual : Str} {st : Stmt} {N ps : List Str} {k : Nat} {pre : Pre} (D : DefAt K mg x qual st ps) (S : FnScope N ps (defScope st)) (hlen : ∀ ds O Φ Ψ, pre ds O Φ Ψ → ds.length = ps.length)
    (hbody : ∀ (f : Addr) (cdv : Value) (A : Around) (outer : List Env) (s : Shared) (H : Hp) (E : XK), Room k (A.deeper (envOfC qual (defScope st) s.heap.objs.size f cdv)) →
      ∃ t, PSs (cxOf CX0 P w K mg base N qual (defScope st) f cdv A outer s H E).nox (defBody st) t ∧ ∀ ds O Φ Ψ, pre ds O Φ Ψ → Sv K E Ψ t (startD N.length ds) O { nx := fun _ O' => Φ .non O', rt := Φ }) : Has P w K mg base CX0 (k + 1) x ps (mkSp K pre) := by
  obtain ⟨f, fd, F, b, hm⟩ := D.ex
  refine ⟨f, fd, F.ok S ?_ ?_, b, F.kp, hm⟩
  · rintro vs H Q E ⟨F', ds, O, Φ, Ψ, l, _, _, h, _⟩
    rw [l.length]
    exact hlen ds O Φ Ψ h
  · rintro cdv A outer s H vs Q E hr ⟨F', ds, O, Φ, Ψ, l, ow, ex', h, hx, q⟩
    obtain ⟨t, ht, hsv⟩ := hbody f cdv A outer s H E hr
    refine ⟨t, ht, hsv ds O Φ Ψ h _ F' H _ (env_start l) ow ex' hx ⟨fun σ' F2 H2 Δ' O' g b2 a2 p => ?_, fun v F2 H2 d O' g b2 k2 p => q v F2 H2 d O' g b2 k2 p, fun _ _ _ _ _ _ _ _ z => z.elim, fun _ _ _ _ _ _ _ _ z => z.elim⟩⟩
    exact q .non F2 H2 .non O' g b2 .non p
/-- the law's own def -/
structure LawAt (K : PySem.W.Frag) (mg : Str → Option Value) (qual : Str) (st : Stmt) (p : Str) : Prop where
  ex : ∃ f fd, Fun K "law" qual st f fd ∧ mg "law" = some (.ref f) ∧ ∀ (s : Shared) (v : Value), BindsTo s fd ⟨[v], []⟩ [(p, v)]
def preLaw : Pre := fun ds O Φ Ψ => ∃ ns : List Int, ds = [.frl (ns.map .int)] ∧ ns.length ≤ 63 ∧ O = [] ∧ Φ = (fun d _ => d = .bl true) ∧ Ψ = X0
abbrev spLaw (K : PySem.W.Frag) : Sp := mkSp K preLaw
theorem spLaw_start {H : Hp} {a : Addr} {ns : List Int} {E : XK} (hS : SqL K H a (ns.map V.int)) (hl : ns.length ≤ 63) : spLaw K [.ref a] H (fun v _ => v = .bl true) E :=
  ⟨H, [.frl (ns.map .int)], [], _, X0, .cons (.frl hS .ints) .nil, .nil, Ex.refl H, ⟨ns, rfl, hl, rfl, rfl, rfl⟩, .zero, fun v F' H' d O' _ _ k p => by
    subst p
    cases k
    rfl⟩
end
end FF
set_option Elab.async false
set_option linter.all false
set_option maxRecDepth 100000
set_option maxHeartbeats 1000000
namespace FF
open PySem PySem.Spec PyProof.Rows L2
open Evl (Ex sz_of sz_lt fresh_back)
/-! short words for derivations -/
section
variable {X : Cx} {pos : Pos}
theorem hu64 {k : Nat} {A : Around} (hr : Room k A) : A.units + 64 < cLine := by have := hr.un; omega
theorem pgn (i : Nat) {x : Str} (hN : X.N.Nodup) (hi : X.N[i]? = some x := by rfl) (hx : Loc X.env.scope x := by first | exact Or.inl rfl | exact Or.inr rfl)
    (hf : X.fn x = true ∨ X.env.scope.names.lookup x = some .local := by first | exact .inl rfl | exact .inr rfl) : PG X (.Name x pos) (gName i) := pg_name hN hi hx hf
theorem pset (i : Nat) {x : Str} {e : Expr} {te : TE} {pos' : Pos} (hN : X.N.Nodup) (he : PE X e te) (hi : X.N[i]? = some x := by rfl) (hx : Loc X.env.scope x := by first | exact Or.inl rfl | exact Or.inr rfl)
    (hs : swapsWith e (some (.Name x pos')) pos.line X.env = pure false := by rfl) (hf : X.fn x = true ∨ X.env.scope.names.lookup x = some .local := by first | exact .inl rfl | exact .inr rfl) :
    PS X (.Assign [.Name x pos'] e pos) (tAsg te (gName i)) := ps_set hN hi hx he hs hf
theorem paug (i : Nat) {x : Str} {e : Expr} {te : TE} {op : Operator} {ti : TIp} {pos' : Pos} (hN : X.N.Nodup) (he : PE X e te) (ho : PIp X op ti) (hi : X.N[i]? = some x := by rfl) (hx : Loc X.env.scope x := by first | exact Or.inl rfl | exact Or.inr rfl)
    (hf : X.fn x = true ∨ X.env.scope.names.lookup x = some .local := by first | exact .inl rfl | exact .inr rfl) : PS X (.AugAssign (.Name x pos') op e pos) (tAug i te ti) := ps_aug hN hi hx he ho hf
/-- any of two ways -/
theorem OpR.or {f : Value → Value → Sem Value} {r r' : R2} (h : OpR X f r) (h' : OpR X f r') : OpR X f (fun x y H Q => r x y H Q ∨ r' x y H Q) := fun pins s σ H x y v u Q I rx ry q =>
  q.elim (h pins s σ H x y v u Q I rx ry) (h' pins s σ H x y v u Q I rx ry)
/-- reading xs[i] ahead of xs[i] op= -/
def gGetL (K : PySem.W.Frag) : V → V → Hp → VK → Prop := fun x y H Q => ∃ p xs, ∃ i : Nat, ∃ v, x = .ref p ∧ y = .int i ∧ SqL K H p xs ∧ xs[i]? = some v ∧ Q v H
theorem get_list : PGet X (gGetL X.K) := by
  intro pins s σ H o i ov iv Q I ro ri h
  obtain ⟨p, xs, j, v, rfl, rfl, hq, hv, q⟩ := h
  cases ro
  obtain ⟨t, rfl⟩ := ri
  obtain ⟨its, r, pl, hz⟩ := I.list hq
  obtain ⟨w, ew, rw'⟩ := r.get hv
  have hl := r.length
  have hn := line63
  have hj : j < xs.length := (List.getElem?_eq_some_iff.mp hv).1
  exact wpAny_getItem_list pl.isList (by omega) (by omega) (x := w) (by simpa using ew) ⟨v, H, I, rw', q⟩
def rAddS : R2 := fun x y H Q => ∃ i j, x = .str i ∧ y = .str j ∧ i.length + j.length ≤ sizeLine ∧ Q (.str (i ++ j)) H
def rPlus (K : PySem.W.Frag) : R2 := fun x y H Q => (rI0 (fun i j => .int (i + j)) x y H Q ∨ rCat x y H Q) ∨ (rAddS x y H Q ∨ rCatA K x y H Q)
theorem op_plus : OpR X (binaryOp .Add) (rPlus X.K) := OpR.or (OpR.or op_add op_cat) (OpR.or op_add_str op_catA)
/-! tuple * 0, * 1 -/
theorem tuple_mul0 (l : Addr) (items : Array Value) (n : Nat) (dd : Option Addr) (sl : Array (Option Value)) (u : Tok) (c1 : items.isEmpty = false) :
    Meets (Builtin.«tuple.__mul__» ⟨[.ref l, .int 0 u], []⟩) (fun _ R s => s.heap.get? l = some { cls := .type "tuple", dict := dd, data := .seq items n, slots := sl } ∧
      R (.ok (.ret (Value.ref s.heap.objs.size))) { s with heap := s.heap.push { cls := Value.type "tuple", data := Data.seq #[] }, toks := s.toks }) :=
  .of_wp fun prog w A R s h => by
    obtain ⟨hp, g, d, tk, os⟩ := s
    obtain ⟨hl, h⟩ := h
    have f1 := AutoSeq1.idx_int
    have c2 : (items.isEmpty || (0 : Int) == 1) = false := by rw [c1]; rfl
    have c0 : (decide ((0 : Int) < -(2 ^ 63)) || decide ((0 : Int) ≥ 2 ^ 63)) = false := by decide
    wp_walk using wpAny_loadPart' hl
    repeat (first
      | (refine wpAny_ite_false (decide_eq_false (by rw [c0]; exact Bool.false_ne_true)) ?_; wp_walk using wpAny_loadPart' hl)
      | (refine wpAny_ite_false (decide_eq_false (by rw [c2]; exact Bool.false_ne_true)) ?_; wp_walk using wpAny_loadPart' hl)
      | (refine wpAny_ite_true (by rw [c1]; rfl) ?_; wp_walk using wpAny_loadPart' hl))
    exact ⟨_, rfl, h⟩
theorem tuple_mul1 (l : Addr) (items : Array Value) (n : Nat) (dd : Option Addr) (sl : Array (Option Value)) (u : Tok) :
    Meets (Builtin.«tuple.__mul__» ⟨[.ref l, .int 1 u], []⟩) (fun _ R s => s.heap.get? l = some { cls := .type "tuple", dict := dd, data := .seq items n, slots := sl } ∧
      R (.ok (.ret (Value.ref l))) s) :=
  .of_wp fun prog w A R s h => by
    obtain ⟨hp, g, d, tk, os⟩ := s
    obtain ⟨hl, h⟩ := h
    have f1 := AutoSeq1.idx_int
    have c0 : (decide ((1 : Int) < -(2 ^ 63)) || decide ((1 : Int) ≥ 2 ^ 63)) = false := by decide
    have c1 : (items.isEmpty || (1 : Int) == 1) = true := by simp
    wp_walk using wpAny_loadPart' hl
    repeat (first
      | (refine wpAny_ite_false (decide_eq_false (by rw [c0]; exact Bool.false_ne_true)) ?_; wp_walk using wpAny_loadPart' hl)
      | (refine wpAny_ite_true (decide_eq_true c1) ?_; wp_walk using wpAny_loadPart' hl))
    exact ⟨_, rfl, h⟩
/-- a tuple 0 times, once -/
def rRepZ (K : PySem.W.Frag) : R2 := fun x y H Q => ∃ l xs, x = .ref l ∧ SqT K H l xs ∧ xs ≠ [] ∧ ((y = .int 0 ∧ ∀ p, H p = none → Q (.ref p) (upd H p (.tup []))) ∨ (y = .int 1 ∧ Q (.ref l) H))
theorem op_repZ : OpR X (binaryOp .Mult) (rRepZ X.K) := by
  intro pins s σ H x y v u Q I rx ry h
  obtain ⟨l, xs, rfl, hT, hne, h⟩ := h
  cases rx
  obtain ⟨its, r, ⟨⟨cls, dd, data, sl⟩, ho, hc, n, hd⟩, hs⟩ := I.tuple hT
  simp only at hc hd
  subst hc hd
  have hle : its.length = xs.length := r.length.symm
  have hn : its ≠ [] := fun e => hne (by
    rw [e] at hle
    exact List.eq_nil_of_length_eq_zero hle.symm)
  have hi : its.toArray.isEmpty = false := by
    cases its with
    | nil => exact absurd rfl hn
    | cons a b => rfl
  rcases h with ⟨rfl, q⟩ | ⟨rfl, q⟩
  · obtain ⟨t, rfl⟩ := ry
    refine wpAny_binaryOp_repeat_ref (T := "tuple") (U := "int") (by decide) ⟨_, ho, rfl⟩ (fun s' => typeIs_int s' 0 t) noFill_tuple_mul F.fills_int_mul F.slot_int_rmul repeat_tuple F.slot_int_index.lookup
      (call_meets F.slot_int_rmul (typeIs_int s 0 t) F.entry_int_rmul (F.args_int_rmul_2 _ _) (int_rmul_tuple 0 t l its.toArray n dd sl)
        ⟨ho, rfl, ⟨_, ho, rfl⟩, call_meets F.slot_tuple_mul ⟨_, ho, rfl⟩ F.entry_tuple_mul (F.args_tuple_mul_2 _ _) (tuple_mul0 l its.toArray n dd sl t hi) ⟨ho, ?_⟩⟩)
    refine ⟨.ref s.heap.objs.size, _, I.laid (t' := s.toks) (o := .tup []) (fun b ob q => Heap.get?_push_of_some _ q) (Nat.le_refl _) ?_, rfl, q _ (I.hok.fresh (Nat.le_refl _))⟩
    exact ⟨Nat.zero_le _, _, .nil, IsTup.new _ _⟩
  · obtain ⟨t, rfl⟩ := ry
    refine wpAny_binaryOp_repeat_ref (T := "tuple") (U := "int") (by decide) ⟨_, ho, rfl⟩ (fun s' => typeIs_int s' 1 t) noFill_tuple_mul F.fills_int_mul F.slot_int_rmul repeat_tuple F.slot_int_index.lookup
      (call_meets F.slot_int_rmul (typeIs_int s 1 t) F.entry_int_rmul (F.args_int_rmul_2 _ _) (int_rmul_tuple 1 t l its.toArray n dd sl)
        ⟨ho, rfl, ⟨_, ho, rfl⟩, call_meets F.slot_tuple_mul ⟨_, ho, rfl⟩ F.entry_tuple_mul (F.args_tuple_mul_2 _ _) (tuple_mul1 l its.toArray n dd sl t) ⟨ho, ?_⟩⟩)
    exact ⟨.ref l, H, I, rfl, q⟩
def rTimes (K : PySem.W.Frag) : R2 := fun x y H Q => (rI CMul (fun i j => .int (i * j)) x y H Q ∨ rRep x y H Q) ∨ (rRepT K x y H Q ∨ rRepZ K x y H Q)
theorem op_times : OpR X (binaryOp .Mult) (rTimes X.K) := OpR.or (OpR.or op_mul op_rep) (OpR.or op_repT op_repZ)
end
end FF
set_option Elab.async false
set_option linter.all false
set_option maxRecDepth 100000
set_option maxHeartbeats 1000000
namespace FF
open PySem PySem.Spec PyProof.Rows L2
open Evl (Ex sz_of sz_lt fresh_back)
/-! data as the library's data -/
mutual
def Dt.py : Dt → PyData
  | .non => .none | .bl b => .bool b | .int i => .int i | .str x => .str x
  | .lst ds => .list (pyL ds) | .tup ds => .tuple (pyL ds) | .dic ks => .dict (pyK ks)
  | .obj _ _ => .none | .ref _ => .none | .frl _ => .none | .ty _ => .none | .fdc _ => .none
def pyL : List Dt → List PyData
  | [] => []
  | d :: ds => d.py :: pyL ds
def pyK : List (Key × Dt) → List (PyData × PyData)
  | [] => []
  | (k, d) :: ds => ((match k with | .inl i => .int i | .inr x => .str x), d.py) :: pyK ds
end
mutual
/-- data without dicts and objects -/
def Dt.ok : Dt → Bool
  | .non => true | .bl _ => true | .int _ => true | .str x => PyData.strOk x
  | .lst ds => okL ds | .tup ds => okL ds
  | .dic _ => false | .obj _ _ => false | .ref _ => false | .frl _ => false | .ty _ => false | .fdc _ => false
def okL : List Dt → Bool
  | [] => true
  | d :: ds => d.ok && okL ds
end
theorem pyL_map : ∀ ds : List Dt, pyL ds = ds.map Dt.py
  | [] => rfl
  | d :: ds => by simp [pyL, pyL_map ds]
theorem okL_all : ∀ ds : List Dt, okL ds = ds.all Dt.ok
  | [] => rfl
  | d :: ds => by simp [okL, okL_all ds]
section
variable {K : PySem.W.Frag} {E E' : XK} {Ψ : XPost} {F F' F1 F2 H H' H1 H2 : Hp} {O O' O1 O2 R : Own} {σ : L2.St} {Δ : Env_} {D : Ends} {P : Post}
variable {te ta tb tc : TE} {tt : TT} {tas : TA} {Φ Φ' : Dt → Own → Prop} {d x y z : Dt} {ds es : List Dt} {r : R2} {t u t' : TS} {P' : Post} {M : Env_ → Own → Prop}
mutual
theorem Dat.dp (e : Ex F H) : ∀ (d : Dt) {v : V}, Dat K F v d → d.ok = true → Dp K H v d.py
  | .non, _, k, _ => by cases k; exact .non
  | .bl _, _, k, _ => by cases k; exact .bl _
  | .int _, _, k, _ => by cases k; exact .int _
  | .str _, _, k, _ => by cases k; exact .str _
  | .lst ds, _, k, h => by
    cases k with | lst a l => exact .lst (.of (e _ _ a)) (DatL.dp e ds l (by simpa only [Dt.ok] using h))
  | .tup ds, _, k, h => by
    cases k with | tup a l => exact .tup (Evl.ex_t e a) (DatL.dp e ds l (by simpa only [Dt.ok] using h))
  | .dic _, _, _, h => by simp [Dt.ok] at h
  | .obj _ _, _, _, h => by simp [Dt.ok] at h
  | .ref _, _, _, h => by simp [Dt.ok] at h
  | .frl _, _, _, h => by simp [Dt.ok] at h
  | .fdc _, _, _, h => by simp [Dt.ok] at h
  | .ty _, _, _, h => by simp [Dt.ok] at h
theorem DatL.dp (e : Ex F H) : ∀ (ds : List Dt) {v : List V}, DatL K F v ds → okL ds = true → DpAll K H v (pyL ds)
  | [], _, k, _ => by cases k; exact .nil
  | d :: ds, _, k, h => by
    simp only [okL, Bool.and_eq_true] at h
    cases k with | cons a l => exact .cons (Dat.dp e d a h.1) (DatL.dp e ds l h.2)
end
mutual
theorem Dt.canLay : ∀ d : Dt, d.ok = true → d.py.canLay0 = true
  | .non, _ => rfl
  | .bl _, _ => rfl
  | .int _, _ => rfl
  | .str x, h => by simpa only [Dt.py, Dt.ok, PyData.canLay0] using h
  | .lst ds, h => by
    simp only [Dt.py, PyData.canLay0]
    exact canLayL ds (by simpa only [Dt.ok] using h)
  | .tup ds, h => by
    simp only [Dt.py, PyData.canLay0]
    exact canLayL ds (by simpa only [Dt.ok] using h)
  | .dic _, h => by simp [Dt.ok] at h
  | .obj _ _, h => by simp [Dt.ok] at h
  | .ref _, h => by simp [Dt.ok] at h
  | .frl _, h => by simp [Dt.ok] at h
  | .fdc _, h => by simp [Dt.ok] at h
  | .ty _, h => by simp [Dt.ok] at h
theorem canLayL : ∀ ds : List Dt, okL ds = true → PyData.canLayAll0 (pyL ds) = true
  | [], _ => by simp only [pyL, PyData.canLayAll0]
  | d :: ds, h => by
    simp only [okL, Bool.and_eq_true] at h
    simp only [pyL, PyData.canLayAll0, Bool.and_eq_true]
    exact ⟨Dt.canLay d h.1, canLayL ds h.2⟩
end
/-- as deep as == goes -/
def Dt.eok (d : Dt) : Bool := d.ok && decide (d.py.depth ≤ 64)
theorem shaped_of (h : d.eok = true) : SeqAt.shaped d.py = true := by
  unfold Dt.eok at h
  simp only [Bool.and_eq_true] at h
  unfold SeqAt.shaped
  rw [Dt.canLay d h.1, h.2]
  rfl
theorem eok_ok (h : d.eok = true) : d.ok = true := by
  unfold Dt.eok at h
  simp only [Bool.and_eq_true] at h
  exact h.1
/-- == -/
def eqd (x y : Dt) : Bool := PyData.eqv x.py y.py
theorem opd_eq (hx : x.eok = true) (hy : y.eok = true) : OpD K E Ψ (rEqD K) x y O (ex (.bl (eqd x y)) O) := opd_val fun F H v u b c k1 k2 =>
  ⟨_, .bl _, fun Q q => ⟨x.py, y.py, Dat.dp c _ k1 (eok_ok hx), Dat.dp c _ k2 (eok_ok hy), shaped_of hx, shaped_of hy, q⟩⟩
theorem opd_ne (hx : x.eok = true) (hy : y.eok = true) : OpD K E Ψ (rNeD K) x y O (ex (.bl (!eqd x y)) O) := opd_val fun F H v u b c k1 k2 =>
  ⟨_, .bl _, fun Q q => ⟨x.py, y.py, Dat.dp c _ k1 (eok_ok hx), Dat.dp c _ k2 (eok_ok hy), shaped_of hx, shaped_of hy, q⟩⟩
theorem eqd_int {i j : Int} : eqd (.int i) (.int j) = decide (i = j) := by
  show (i == j) = _
  exact Bool.beq_eq_decide_eq i j
theorem opd_eqI {i j : Int} : OpD K E Ψ (rEqD K) (.int i) (.int j) O (ex (.bl (decide (i = j))) O) := by rw [← eqd_int]; exact opd_eq rfl rfl
theorem opd_neI {i j : Int} : OpD K E Ψ (rNeD K) (.int i) (.int j) O (ex (.bl (!decide (i = j))) O) := by rw [← eqd_int]; exact opd_ne rfl rfl
/-! whole numbers -/
theorem opd_I0 {f : Int → Int → Int} {i j : Int} : OpD K E Ψ (rI0 fun a b => .int (f a b)) (.int i) (.int j) O (ex (.int (f i j)) O) := opd_val fun F H v u b c k1 k2 => by
  cases k1; cases k2
  exact ⟨_, .int _, fun Q q => ⟨i, j, rfl, rfl, q⟩⟩
theorem opd_B0 {f : Int → Int → Bool} {i j : Int} : OpD K E Ψ (rI0 fun a b => .bl (f a b)) (.int i) (.int j) O (ex (.bl (f i j)) O) := opd_val fun F H v u b c k1 k2 => by
  cases k1; cases k2
  exact ⟨_, .bl _, fun Q q => ⟨i, j, rfl, rfl, q⟩⟩
theorem opd_I {C : Int → Int → Prop} {f : Int → Int → Int} {i j : Int} (h : C i j) : OpD K E Ψ (rI C fun a b => .int (f a b)) (.int i) (.int j) O (ex (.int (f i j)) O) := opd_val fun F H v u b c k1 k2 => by
  cases k1; cases k2
  exact ⟨_, .int _, fun Q q => ⟨i, j, rfl, rfl, h, q⟩⟩
theorem und_neg {i : Int} : UnD K E Ψ (rU fun i => .int (-i)) (.int i) O (ex (.int (-i)) O) := und_val fun F H v b c k1 => by
  cases k1
  exact ⟨_, .int _, fun Q q => ⟨i, rfl, q⟩⟩
theorem opd_or1 {r r' : R2} (h : OpD K E Ψ r x y O Φ) : OpD K E Ψ (fun a b H Q => r a b H Q ∨ r' a b H Q) x y O Φ := fun F H v u a b c k1 k2 Q q => .inl (h F H v u a b c k1 k2 Q q)
theorem opd_or2 {r r' : R2} (h : OpD K E Ψ r' x y O Φ) : OpD K E Ψ (fun a b H Q => r a b H Q ∨ r' a b H Q) x y O Φ := fun F H v u a b c k1 k2 Q q => .inr (h F H v u a b c k1 k2 Q q)
theorem opd_plusI {i j : Int} : OpD K E Ψ (rPlus K) (.int i) (.int j) O (ex (.int (i + j)) O) := opd_or1 (opd_or1 opd_I0)
theorem opd_timesI {i j : Int} (h : CMul i j) : OpD K E Ψ (rTimes K) (.int i) (.int j) O (ex (.int (i * j)) O) := opd_or1 (opd_or1 (opd_I h))
theorem opd_plusL (h1 : LstOf O x ds) (h2 : LstOf O y es) (hl : ds.length + es.length ≤ 100000) : OpD K E Ψ (rPlus K) x y O (nwl (ds ++ es) O) := opd_or1 (opd_or2 (opd_new fun F H v u b c k1 k2 => by
  obtain ⟨p, xs, rfl, e1, l1⟩ := h1.read b c k1
  obtain ⟨q, ys, rfl, e2, l2⟩ := h2.read b c k2
  exact ⟨_, l1.append l2, fun Q q => ⟨_, _, xs, ys, rfl, rfl, e1, e2, by rw [l1.length, l2.length]; exact sz_of hl, q⟩⟩))
theorem opd_plusT (hl : ds.length + es.length ≤ 100000) : OpD K E Ψ (rPlus K) (.tup ds) (.tup es) O (ex (.tup (ds ++ es)) O) := opd_or2 (opd_or2 (fun F H v u b c e k1 k2 Q q => by
  cases k1 with
  | tup a1 l1 =>
    cases k2 with
    | tup a2 l2 =>
      rename_i p1 xs p2 ys
      refine ⟨p1, p2, xs, ys, rfl, rfl, Evl.ex_t c a1, Evl.ex_t c a2, by rw [l1.length, l2.length]; exact sz_of hl, fun hx => ?_, fun hx hy => ?_, fun hx hy p hp => ?_⟩
      · subst hx
        cases l1
        exact q _ F H _ O (.refl c) b (.tup a2 l2) ⟨by simp, rfl⟩
      · subst hy
        cases l2
        exact q _ F H _ O (.refl c) b (.tup a1 l1) ⟨by simp, rfl⟩
      · exact q _ _ _ _ O (Gw.new c hp) (b.new c hp) (.tup (.of upd_same) ((l1.append l2).mono (Gw.new (O := O) c hp).ext)) ⟨rfl, rfl⟩))
theorem flat_rep : ∀ (n : Nat) (xs : List V) (ds : List Dt), DatL K F xs ds → DatL K F (List.replicate n xs).flatten (List.replicate n ds).flatten
  | 0, _, _, _ => .nil
  | n + 1, xs, ds, h => by
    rw [List.replicate_succ, List.replicate_succ, List.flatten_cons, List.flatten_cons]
    exact h.append (flat_rep n xs ds h)
/-! chains -/
theorem ev_chain {r r' : R2} {b1 b2 : Bool} (ha : Ev K E Ψ ta Δ O (ex x O)) (hb : Ev K E Ψ tb Δ O (ex y O)) (h1 : OpD K E Ψ r x y O (ex (.bl b1) O)) (hc : b1 = true → Ev K E Ψ tc Δ O (ex z O)) (h2 : b1 = true → OpD K E Ψ r' y z O (ex (.bl b2) O)) :
    Ev K E Ψ (tChain r r' ta tb tc) Δ O (ex (.bl (b1 && b2)) O) := fun σ F H a b c e Q q => ha σ F H a b c e _ fun v F1 H1 x1 O1 g1 b1' k1 p1 => by
  obtain ⟨rfl, rfl⟩ := p1
  refine hb σ F1 H1 (a.mono g1.ext) b1' g1.sub (e.step g1) _ fun u F2 H2 y2 O2 g2 b2' k2 p2 => ?_
  obtain ⟨rfl, rfl⟩ := p2
  refine h1 F2 H2 v u b2' g2.sub ((e.step g1).step g2) (k1.mono g2.ext) k2 _ fun w F3 H3 d3 O3 g3 b3 k3 p3 => ?_
  obtain ⟨rfl, rfl⟩ := p3
  cases k3
  refine ⟨_, rfl, ?_⟩
  cases b1 with
  | false => exact iteF (q _ F3 H3 _ _ ((g1.trans g2).trans g3) b3 (.bl _) ⟨rfl, rfl⟩)
  | true =>
    refine iteT (hc rfl σ F3 H3 (a.mono ((g1.trans g2).trans g3).ext) b3 g3.sub (((e.step g1).step g2).step g3) _ fun w4 F4 H4 d4 O4 g4 b4 k4 p4 => ?_)
    obtain ⟨rfl, rfl⟩ := p4
    exact h2 rfl F4 H4 u w4 b4 g4.sub ((((e.step g1).step g2).step g3).step g4) (k2.mono (g3.trans g4).ext) k4 Q fun w5 F5 H5 d5 O5 g5 b5 k5 p5 => q w5 F5 H5 d5 O5 ((((g1.trans g2).trans g3).trans g4).trans g5) b5 k5 p5
/-! subscripts -/
theorem DatL.atI {xs : List V} (l : DatL K F xs ds) {i : Int} (h : L2.atI ds i = some z) : ∃ v, L2.atI xs i = some v ∧ Dat K F v z := by
  unfold L2.atI at h ⊢
  rw [l.length]
  cases e : ixN ds.length i with
  | none => rw [e] at h; simp at h
  | some j =>
    rw [e] at h
    exact l.get h
theorem opd_ix (hs : SeqOf O x ds) {i : Int} (h : L2.atI ds i = some z) : OpD K E Ψ (rIx K) x (.int i) O (ex z O) := opd_val fun F H v u b c k1 k2 => by
  obtain ⟨p, xs, rfl, h1, l⟩ := hs.read b c k1
  cases k2
  obtain ⟨w, hw, kw⟩ := l.atI h
  refine ⟨w, kw, fun Q q => ?_⟩
  rcases h1 with h1 | h1
  · exact .inl ⟨p, xs, i, w, rfl, rfl, h1, hw, q⟩
  · exact .inr (.inl ⟨p, xs, i, w, rfl, rfl, h1, hw, q⟩)
theorem opd_ixN (hs : SeqOf O x ds) {i : Nat} (h : ds[i]? = some z) : OpD K E Ψ (rIx K) x (.int (i : Int)) O (ex z O) := opd_ix hs (L2.atI_nat h)
/-- an index that is not written -/
theorem opd_ixI (hs : SeqOf O x ds) {i : Int} (h0 : 0 ≤ i) (h : ds[i.toNat]? = some z) : OpD K E Ψ (rIx K) x (.int i) O (ex z O) := opd_ix hs (by
  have e : i = ((i.toNat : Nat) : Int) := by omega
  rw [e]
  exact L2.atI_nat h)
/-! built-in functions -/
theorem cad_len (hs : SeqOf O x ds) : CaD K E Ψ (fun xs H Q => ∃ x n, xs = [x] ∧ LenV K x H n ∧ Q (.int n) H) [x] O (ex (.int (ds.length : Int)) O) := cad_val fun F H vs b c k => by
  cases k with
  | cons k l =>
    cases l
    obtain ⟨p, xs, rfl, h, l⟩ := hs.read b c k
    refine ⟨_, .int _, fun Q q => ⟨_, ds.length, rfl, ?_, q⟩⟩
    rcases h with h | h
    · exact .inl ⟨xs, h, l.length.symm⟩
    · exact .inr ⟨xs, h, l.length.symm⟩
theorem cad_lenS {a : Str} (hl : a.length ≤ 100000) : CaD K E Ψ (fun xs H Q => ∃ x n, xs = [x] ∧ LenV K x H n ∧ Q (.int n) H) [.str a] O (ex (.int (a.length : Int)) O) := cad_val fun F H vs b c k => by
  cases k with
  | cons k l =>
    cases l; cases k
    exact ⟨_, .int _, fun Q q => ⟨_, a.length, rfl, ⟨sz_of hl, rfl⟩, q⟩⟩
theorem cad_abs {i : Int} : CaD K E Ψ (fun xs H Q => ∃ i, xs = [.int i] ∧ Q (.int (if i < 0 then -i else i)) H) [.int i] O (ex (.int (if i < 0 then -i else i)) O) := cad_val fun F H vs b c k => by
  cases k with
  | cons k l =>
    cases l; cases k
    exact ⟨_, .int _, fun Q q => ⟨i, rfl, q⟩⟩
theorem cad_int {i : Int} : CaD K E Ψ (fun xs H Q => (∃ i, xs = [.int i] ∧ Q (.int i) H) ∨ ∃ k, xs = [.bl k] ∧ Q (.int (if k then 1 else 0)) H) [.int i] O (ex (.int i) O) := cad_val fun F H vs b c k => by
  cases k with
  | cons k l =>
    cases l; cases k
    exact ⟨_, .int _, fun Q q => .inl ⟨i, rfl, q⟩⟩
theorem cad_all {bs : List Bool} (hs : LstOf O x (bs.map Dt.bl)) : CaD K E Ψ (rAll K) [x] O (ex (.bl (bs.all id)) O) := cad_val fun F H vs b c k => by
  cases k with
  | cons k l =>
    cases l
    obtain ⟨p, xs, rfl, h, l⟩ := hs.read b c k
    rw [l.bls_inv] at h
    exact ⟨_, .bl _, fun Q q => ⟨p, bs, rfl, .of h, q⟩⟩
theorem cad_any {bs : List Bool} (hs : LstOf O x (bs.map Dt.bl)) : CaD K E Ψ (rAny K) [x] O (ex (.bl (bs.any id)) O) := cad_val fun F H vs b c k => by
  cases k with
  | cons k l =>
    cases l
    obtain ⟨p, xs, rfl, h, l⟩ := hs.read b c k
    rw [l.bls_inv] at h
    exact ⟨_, .bl _, fun Q q => ⟨p, bs, rfl, .of h, q⟩⟩
/-- the name of a thing's built-in class -/
def tyN : Dt → Option String
  | .non => some "NoneType" | .bl _ => some "bool" | .int _ => some "int" | .str _ => some "str"
  | .lst _ => some "list" | .tup _ => some "tuple" | .dic _ => some "dict" | .fdc _ => some "dict" | _ => none
theorem tyx {n : String} (h : tyN d = some n) (c : Ex F H) {v : V} (k : Dat K F v d) : TyX K H v (.type n) := by
  cases k with
  | non => cases h; exact .base .non
  | bl b => cases h; exact .base (.bl b)
  | int i => cases h; exact .base (.int i)
  | str i => cases h; exact .base (.str i)
  | lst a l => cases h; exact .base (.lst (c _ _ a))
  | tup a l =>
    cases h
    rcases a with a | ⟨o, its, n, a, e, _⟩
    · rcases a with a | ⟨o, a⟩
      · exact .base (.tup (c _ _ a))
      · exact .fTuple (c _ _ a)
    · exact .kTuple a e
  | dic a l => cases h; exact .base (.dK (c _ _ a))
  | obj a l => cases h
  | ref a => cases h
  | frl a l => cases h
  | fdc a l => cases h; exact .fDict (c _ _ a)
  | ty a => cases h
theorem cad_isi {n m : String} {b : Bool} (h : tyN d = some n) (hb : kitB n m = some b) : CaD K E Ψ (rIsi K) [d, .ty m] O (ex (.bl b) O) := cad_val fun F H vs b' c k => by
  cases k with
  | cons k l =>
    cases l with
    | cons k2 l =>
      cases l; cases k2
      exact ⟨_, .bl _, fun Q q => ⟨_, _, _, _, b, rfl, .ty m, tyx h c k, kit_ty hb, q⟩⟩
theorem ev_ty {n : String} : Ev K E Ψ (tC (.ty n)) Δ O (ex (.ty n) O) := ev_c fun _ => .ty n
end
end FF
set_option Elab.async false
set_option linter.all false
set_option maxRecDepth 100000
set_option maxHeartbeats 1000000
namespace FF
open PySem PySem.Spec PyProof.Rows L2
open Evl (Ex sz_of sz_lt fresh_back)
/-! promises that hold where no repr is under way: so that repr may be asked -/
def NoG (A : Around) : Prop := A.guards = some []
structure FnG (P : Program) (w : World) (K : PySem.W.Frag) (mg : Str → Option Value) (base : Heap) (CX : CXT) (k : Nat)
    (f : Addr) (fd : FuncData) (ps : List Str) (sp : Sp) : Prop where
  len : ∀ vs H Q E, sp vs H Q E → vs.length = ps.length
  run : ∀ (A : Around) (outer : List Env) (s : Shared) (H : Hp) (args : Args) (us : List Value) (vs : List V) (Q : VK) (E : XK),
    NoG A → Room k A → Env0 P w K mg base A outer s H → BindsTo s fd args (ps.zip us) → Vals vs us → sp vs H Q E →
      codeAny (model P w) A (.call (.ref f) args) (CR CX outer P w H s Q E) s
section
variable {X : Cx} {CX : CXT} {k : Nat} {f C : Addr} {fd : FuncData} {ps : List Str} {sp : Sp} {E : XK} {x m : Str} {p pos apos : Pos}
variable {e o : Expr} {es : List Expr} {ta : TE} {t : TA} {dvs : List V} {ds : List Value}
theorem FnG.mono {P : Program} {w : World} {K : PySem.W.Frag} {mg : Str → Option Value} {base : Heap} {j : Nat}
    (F : FnG P w K mg base CX j f fd ps sp) (h : j ≤ k) : FnG P w K mg base CX k f fd ps sp :=
  ⟨F.len, fun A o s H a us vs Q E g r => F.run A o s H a us vs Q E g (r.mono h)⟩
theorem runG (F : FnG X.prog X.w X.K X.mg X.base CX k f fd ps sp) (g : NoG X.A) (hr : Room k X.A) (hb : Binds X.K fd ps ds) (hd : Vals dvs ds)
    (hx : Passes CX X E) {pins : List (Addr × Obj)} {σ : L2.St} {H : Hp} {s : Shared} {Q : VK} {us : List Value} {vs : List V}
    (I : Inv X pins σ H s) (r : Vals vs us) (h : sp (vs ++ dvs) H Q E) :
    wpAny (model X.prog X.w) X.A (call (.ref f) us) (EP X pins σ Q) X.xe s := by
  have rr : Vals (vs ++ dvs) (us ++ ds) := r.append hd
  have ll : (us ++ ds).length = ps.length := rr.length.symm.trans (F.len _ _ _ _ h)
  have c := F.run X.A X.stack s H ⟨us, []⟩ _ _ Q E g hr I.env0 (hb s us I.kIn ll) rr h
  refine wpAny_call (codeAny_mono c ?_)
  rintro (er | (u | _ | _ | _)) s' q
  · exact hx pins σ H s er s' I q
  all_goals first | exact I.after q | exact q.elim
end
/-- what stands at a name, by its promise -/
structure HasG (P : Program) (w : World) (K : PySem.W.Frag) (mg : Str → Option Value) (base : Heap) (CX : CXT) (k : Nat) (x : Str) (ps : List Str) (sp : Sp) : Prop where
  ex : ∃ f fd, FnG P w K mg base CX k f fd ps sp ∧ Binds K fd ps [] ∧ PySem.W.keepIn K (.ref f) = true ∧ mg x = some (.ref f)
section
variable {X : Cx} {CX : CXT} {k : Nat} {ps : List Str} {sp : Sp} {E : XK} {x : Str} {p pos : Pos} {e : Expr} {es : List Expr} {t : TA}
theorem pe_hasG (h : HasG X.prog X.w X.K X.mg X.base CX k x ps sp) (g : NoG X.A) (hr : Room k X.A) (hg : Gl X x) (hx : Passes CX X E) (ha : PA X (e :: es) t)
    (hd : (x == ("__debug__" : Str)) = false := by decide) (he : starEach (e :: es) X.env = (false, eval e X.env) :: starEach es X.env := by rfl)
    (hpl : (backTo pos (starEach es X.env)).any (·.1) = false := by rfl) : PE X (.Call (.Name x p) (e :: es) [] pos) (tCall sp [] E t) := by
  obtain ⟨f, fd, F, b, kp, hm⟩ := h.ex
  refine ⟨fun pins s σ H Q I q => wpAny_Call_Name_kw (ld_glob I hg hm ?_ hd)⟩
  refine PySem.W.callWith_K (h₀ := X.base) I.ok.mod.kin kp (thn (ha.run pos pins s σ H _ I q) ?_) he hpl
  rintro us s1 ⟨vs, H1, I1, r, q1⟩
  exact ⟨I1.kIn, runG F g hr b .nil hx I1 r q1⟩
theorem HasG.mono {P : Program} {w : World} {K : PySem.W.Frag} {mg : Str → Option Value} {base : Heap} {j : Nat} (h : HasG P w K mg base CX j x ps sp) (l : j ≤ k) : HasG P w K mg base CX k x ps sp := by
  obtain ⟨f, fd, a, b, c, d⟩ := h.ex
  exact ⟨f, fd, a.mono l, b, c, d⟩
end
section
variable {P : Program} {w : World} {K : PySem.W.Frag} {mg : Str → Option Value} {base : Heap} {CX : CXT}
/-- a def's promise by its body -/
theorem fnG {x qual : Str} {st : Stmt} {f : Addr} {fd : FuncData} {N ps : List Str} {k : Nat} {sp : Sp} (F : Fun K x qual st f fd) (S : FnScope N ps (defScope st))
    (len : ∀ vs H Q E, sp vs H Q E → vs.length = ps.length)
    (body : ∀ (cdv : Value) (A : Around) (outer : List Env) (s : Shared) (H : Hp) (vs : List V) (Q : VK) (E : XK), NoG A → Room k (A.deeper (envOfC qual (defScope st) s.heap.objs.size f cdv)) → sp vs H Q E →
      ∃ t, PSs (cxOf CX P w K mg base N qual (defScope st) f cdv A outer s H E) (defBody st) t ∧ t { nx := fun _ H' => Q .non H', rt := Q } (start N vs) H) :
    FnG P w K mg base CX (k + 1) f fd ps sp := by
  obtain ⟨oc, od, kV, doc, pm, an, cdv, ct, osl, rfl, lk, hcd⟩ := F.ex
  refine ⟨len, fun A outer s H args us vs Q E g hr e0 hb r q => ?_⟩
  have kept : ∀ b o, base.get? b = some o → s.heap.get? b = some o := fun b o z => (e0.bs b o z).1
  have KX : K.In s.heap := e0.mod.kin.keeps kept
  have kinds : ∀ y ∈ ps.zip us, (defScope st).names.lookup y.1 = some .local ∨
      ((defScope st).names.lookup y.1 = some .cell ∧ ((cellsFrom (s.heap.objs.size + 1) (defScope st).names []).lookup y.1).isSome = true) := by
    rintro ⟨n, v⟩ hy
    exact (S.par n (List.of_mem_zip hy).1).imp id fun z => ⟨z, PySem.W.cellsFrom_some _ _ _ (.inl z)⟩
  refine codeAny_call_function hr.depth (KX _ _ lk) rfl S.co S.gen rfl (PySem.W.codeRec_of KX hcd) (hb _ _ _ _ ?_)
  refine wpAny_newFunctionEnv_cells S.kind kinds ?_
  rintro env rfl s1 made
  refine ⟨(e0.mod.nolimit.keeps kept).keeps made.toInCall.keep, codeAny_func ?_⟩
  obtain ⟨t, ht, hq⟩ := body cdv A outer s H vs Q E g (hr.deeper _) q
  have I := inv_start (CX := CX) (E := E) S hr.hd e0 (len _ _ _ _ q) r made
  refine wpAny_mono (ht.run [] s1 _ H _ I hq) ?_ (fun _ _ z => z)
  rintro (_ | _ | _ | u) s' hs
  · obtain ⟨_, H', J, z⟩ := hs
    exact ⟨V.non, H', J.os, J.bare, J.base, J.hok, rfl, z⟩
  · obtain ⟨_, _, _, z⟩ := hs
    exact z.elim
  · obtain ⟨_, _, _, z⟩ := hs
    exact z.elim
  · obtain ⟨v, _, H', J, rv, z⟩ := hs
    exact ⟨v, H', J.os, J.bare, J.base, J.hok, rv, z⟩
/-! ### the law's own call -/
/-- the script alone is known, where it is no object of the text's -/
def scriptH (K : PySem.W.Frag) (a : Addr) (o : Obj) (xs : List V) : Hp := fun b => if b = a ∧ K.lookup a = none then some (.frz o (.lst xs)) else none
theorem scriptH_some {a b : Addr} {o : Obj} {xs : List V} {u : HO} (h : scriptH K a o xs b = some u) : b = a ∧ K.lookup a = none ∧ u = .frz o (.lst xs) := by
  unfold scriptH at h
  split at h
  · rename_i z
    exact ⟨z.1, z.2, (Option.some.inj h).symm⟩
  · cases h
theorem callG {mb : Str → Option Value} {k : Nat} {fa a : Addr} {fd : FuncData} {x : Str} {sp : Sp} {s : Shared} {vs : List Value} {ns : List Int}
    (KX : K.In s.heap) (hns : s.heap.Ns mainGlobals mg) (hb : s.heap.Ns builtinsNs mb) (hbb : ∀ x : Str, x ≠ "__name__" → mb x = bootBuiltins x)
    (hlim : s.heap.NoLimit) (hg : s.gens = #[]) (ha : s.heap.get? a = some { cls := .type "list", data := .seq vs.toArray })
    (hi : IntsAre vs ns) (hl : ns.length ≤ sizeLine) (hr : Room k callerA) (F : ∀ base : Heap, FnG P w K mg base CX k fa fd [x] sp)
    (bind : ∀ (s : Shared) (u : Value), BindsTo s fd ⟨[u], []⟩ [(x, u)])
    (hsp : ∀ H : Hp, SqL K H a (ns.map V.int) → sp [.ref a] H (fun v _ => v = .bl true) fun _ _ _ => False)
    (hCX : ∀ H e s', CX [] H s (fun _ _ _ => False) e s' → False) :
    codeAny (model P w) callerA (.call (.ref fa) ⟨[.ref a], []⟩) (fun r s' => r = .ok (.ret (.bool true)) ∧ OldK s.heap s'.heap ∧ s'.os = s.os ∧ AllBare s'.gens) s := by
  have rv := vals_ints hi
  generalize hH : scriptH K a { cls := .type "list", data := .seq vs.toArray } (ns.map V.int) = H
  have inv : ∀ {b u}, H b = some u → b = a ∧ K.lookup a = none ∧ u = .frz { cls := .type "list", data := .seq vs.toArray } (.lst (ns.map V.int)) := fun z => scriptH_some (hH ▸ z)
  have seq : SqL K H a (ns.map V.int) := by
    cases q : K.lookup a with
    | none => exact .inl (.inr ⟨_, by rw [← hH]; exact if_pos ⟨rfl, q⟩⟩)
    | some o =>
      have z := KX a o q
      rw [ha] at z
      cases z
      exact .inr ⟨_, vs.toArray, _, q, rfl, rfl, rfl, by rw [List.size_toArray, hi.length]; exact hl, by simpa using rv⟩
  have ok : HOk P w H s.heap := fun b u z => by
    obtain ⟨rfl, _, rfl⟩ := inv z
    exact ⟨ha, by rw [List.length_map]; exact hl, vs, _, rv, ha⟩
  have ns' : ∀ {b m}, s.heap.Ns b m → (hidT s.heap H).Ns b m := by
    rintro b m ⟨o, es, ep, e, d, r⟩
    refine ⟨o, es, ep, hidT_get e ?_, d, r⟩
    cases q : H b with
    | none => rfl
    | some u =>
      obtain ⟨rfl, _⟩ := inv q
      rw [ha] at e
      cases e
      cases d
  have kin : K.In (hidT s.heap H) := fun b o e => hidT_get (KX b o e) (by
    cases q : H b with
    | none => rfl
    | some u =>
      obtain ⟨rfl, h1, _⟩ := inv q
      rw [h1] at e
      cases e)
  have md : Mod K mg (hidT s.heap H) := ⟨kin, ns' hns, ⟨mb, ns' hb, hbb⟩, let ⟨mc, h1, h2⟩ := hlim; ⟨mc, ns' h1, h2⟩⟩
  have e0 : Env0 P w K mg (hidT s.heap H) callerA [] s H :=
    ⟨rfl, md, fun b o e => of_hidT e, Nat.le_of_eq (hidT_size _ _), trivial, (fun b m => by cases m), ok, .of_eq hg⟩
  refine codeAny_mono ((F _).run callerA [] s H ⟨[.ref a], []⟩ [.ref a] [.ref a] _ _ rfl hr e0 (bind s (.ref a)) (.cons rfl .nil) (hsp H seq)) ?_
  rintro (e | _ | _ | _ | u) s' h
  · exact (hCX H e s' h).elim
  · exact h.elim
  · exact h.elim
  · exact h.elim
  · obtain ⟨v, H', os, bare, un, ok', r', q⟩ := h
    have q2 : v = .bl true := q
    subst q2
    cases (show u = Value.bool true from r')
    refine ⟨rfl, OldK.of_keep fun b o e => ?_, os, bare⟩
    cases q : H b with
    | none => exact un.keep b o e q (fun z => by cases z) (fun z => by cases z)
    | some w' =>
      obtain ⟨rfl, _, rfl⟩ := inv q
      obtain ⟨e2, _⟩ := ok' _ _ (un.frzs _ _ _ q)
      rw [ha] at e
      cases e
      exact e2
/-! ### promises of data, as in FFC, where nothing is shown meanwhile -/
theorem hasG_of {x qual : Str} {st : Stmt} {N ps : List Str} {k : Nat} {pre : Pre} (D : DefAt K mg x qual st ps) (S : FnScope N ps (defScope st)) (hlen : ∀ ds O Φ Ψ, pre ds O Φ Ψ → ds.length = ps.length)
    (body : ∀ (f : Addr) (cdv : Value) (A : Around) (outer : List Env) (s : Shared) (H : Hp) (E : XK), NoG A → Room k (A.deeper (envOfC qual (defScope st) s.heap.objs.size f cdv)) →
      ∃ t, PSs (cxOf CX P w K mg base N qual (defScope st) f cdv A outer s H E).nox (defBody st) t ∧ ∀ ds O Φ Ψ, pre ds O Φ Ψ → Sv K E Ψ t (startD N.length ds) O { nx := fun _ O' => Φ .non O', rt := Φ }) : HasG P w K mg base CX (k + 1) x ps (mkSp K pre) := by
  obtain ⟨f, fd, F, b, hm⟩ := D.ex
  refine ⟨f, fd, fnG F S ?_ ?_, b, F.kp, hm⟩
  · rintro vs H Q E ⟨F', ds, O, Φ, Ψ, l, _, _, h, _⟩
    rw [l.length]
    exact hlen ds O Φ Ψ h
  · rintro cdv A outer s H vs Q E g hr ⟨F', ds, O, Φ, Ψ, l, ow, ex', h, hx, q⟩
    obtain ⟨t, ht, hsv⟩ := body f cdv A outer s H E g hr
    refine ⟨t, ht.nox, hsv ds O Φ Ψ h _ F' H _ (env_start l) ow ex' hx ⟨fun σ' F2 H2 Δ' O' g b2 a2 p => ?_, fun v F2 H2 d O' g b2 k2 p => q v F2 H2 d O' g b2 k2 p, fun _ _ _ _ _ _ _ _ z => z.elim, fun _ _ _ _ _ _ _ _ z => z.elim⟩⟩
    exact q .non F2 H2 .non O' g b2 .non p
def LawG (P : Program) (w : World) (K : PySem.W.Frag) (mg : Str → Option Value) (k : Nat) (qual : Str) (st : Stmt) (p : Str) : Prop :=
  ∀ base : Heap, ∀ f fd, Fun K "law" qual st f fd → FnG P w K mg base CX0 k f fd [p] (spLaw K)
theorem lawG_of {qual : Str} {st : Stmt} {N : List Str} {k : Nat} {p : Str} (S : FnScope N [p] (defScope st))
    (body : ∀ (base : Heap) (f : Addr) (cdv : Value) (A : Around) (outer : List Env) (s : Shared) (H : Hp) (E : XK), NoG A → Room k (A.deeper (envOfC qual (defScope st) s.heap.objs.size f cdv)) →
      ∃ t, PSs (cxOf CX0 P w K mg base N qual (defScope st) f cdv A outer s H E).nox (defBody st) t ∧ ∀ ns : List Int, ns.length ≤ 63 → Sv K E X0 t (startD N.length [.frl (ns.map .int)]) [] { nx := fun _ _ => False, rt := fun d _ => d = .bl true }) : LawG P w K mg (k + 1) qual st p := by
  intro base f fd F
  refine fnG F S ?_ ?_
  · rintro vs H Q E ⟨F', ds, O, Φ, Ψ, l, _, _, ⟨ns, rfl, _⟩, _⟩
    rw [l.length]
    rfl
  · rintro cdv A outer s H vs Q E g hr ⟨F', ds, O, Φ, Ψ, l, ow, ex', ⟨ns, rfl, hl, rfl, rfl, rfl⟩, hx, q⟩
    obtain ⟨t, ht, hsv⟩ := body base f cdv A outer s H E g hr
    refine ⟨t, ht.nox, hsv ns hl _ F' H _ (env_start l) ow ex' hx ⟨fun _ _ _ _ _ _ _ _ p => p.elim, fun v F2 H2 d O' g b2 k2 p => q v F2 H2 d O' g b2 k2 p, fun _ _ _ _ _ _ _ _ z => z.elim, fun _ _ _ _ _ _ _ _ z => z.elim⟩⟩
theorem law_walkG {l : PySem.W.OpenLaw} {q : Program} {loose : List Str} {XP : (Str → Option Value) → Heap → Prop} {YP : World → Heap → Prop} {d : DefRec} {K : Params → PySem.W.Frag} {k : Nat} {qual : Str} {st : Stmt} {p : Str} (hn : l.most = some 63) (hdf : d.params.defaults = [])
    (hnm : d.name = "law") (hr : Room k callerA) (hY : ∀ (w : World) (h : Heap), YP w h → (K w.params).In h)
    (F : ∀ (w : World) (h : Heap), (K w.params).In h → ∀ mg : Str → Option Value, h.Ns mainGlobals mg → LawAt (K w.params) mg qual st p ∧ LawG l.prog w (K w.params) mg k qual st p) :
    PySem.W.WalkO q loose XP YP l.row.toRowW d [] (fun f vs => PySem.call f vs) := by
  refine Att.attach_call hn hdf fun w s₀ s mg mb fa o pm cd doc a vs ns G Y ho hd hcd hmg hobj hints hlen hg => ?_
  have KX := hY w _ Y
  obtain ⟨T, L⟩ := F w _ KX mg G.T.g
  obtain ⟨f, fd, hF, hm, hb⟩ := T.ex
  rw [hnm, hm] at hmg
  cases hmg
  exact callG KX G.T.g G.T.b G.T.builtins G.T.nolimit hg hobj hints (Nat.le_trans hlen (by decide)) hr (fun base => L base _ fd hF) hb (fun H hS => spLaw_start hS hlen) fun H e s' z => z
end
end FF
set_option Elab.async false
set_option linter.all false
set_option maxRecDepth 100000
set_option maxHeartbeats 1000000
namespace FF
open PySem PySem.Spec PyProof.Rows L2
open Evl (Ex sz_of sz_lt fresh_back)
def Dt.flat : Dt → Bool
  | .non => true | .bl _ => true | .int _ => true | .str _ => true | _ => false
theorem flat_reads {K : PySem.W.Frag} {F : Hp} {h : Heap} {v : V} {d : Dt} {u : Value} (hf : d.flat = true) (k : Dat K F v d) (r : RelV v u) : Reads h u d.py [] := by
  cases k with
  | non => cases r; exact .none
  | bl b => cases r; exact .bool b
  | int i => obtain ⟨t, rfl⟩ := r; exact .int i t
  | str x => obtain ⟨t, rfl⟩ := r; exact .str x t
  | lst _ _ => cases hf
  | tup _ _ => cases hf
  | dic _ _ => cases hf
  | obj _ _ => cases hf
  | ref _ => cases hf
  | frl _ _ => cases hf
  | fdc _ _ => cases hf
  | ty _ => cases hf
/-- a dict of flat things as the heap has it -/
theorem pairs_reads {P : Program} {w : World} {K : PySem.W.Frag} {F : Hp} {h : Heap} : ∀ {es : List DictEntry} {vs : List (Key × Value)} {kvs : List (Key × V)} {ks : List (Key × Dt)},
    PySem.Pairs (mixKind P w) es vs → KV kvs vs → DatK K F kvs ks → (∀ p ∈ ks, p.2.flat = true) →
      ReadsAll h (es.map (·.key)) ((pyK ks).map (·.1)) [] ∧ ReadsAll h (es.map (·.val)) ((pyK ks).map (·.2)) []
  | _, _, _, _, .nil, r, k, _ => by
    cases r
    cases k
    exact ⟨.nil, .nil⟩
  | _, _, _, _, .cons h1 h2 t, r, k, hf => by
    cases r with
    | cons r1 r2 =>
      cases k with
      | @cons k0 v0 vs0 d0 ds0 k1 k2 =>
        obtain ⟨a, b⟩ := pairs_reads (h := h) t r2 k2 fun p m => hf p (List.mem_cons_of_mem _ m)
        obtain ⟨e1, e2⟩ := r1
        have f0 : d0.flat = true := hf (k0, d0) (List.mem_cons_self ..)
        have q := flat_reads (h := h) f0 k1 e2
        rw [← h2] at q
        refine ⟨?_, .cons q b⟩
        rw [← e1] at h1
        rcases keyIs_shape h1 with ⟨i, t', rfl, e⟩ | ⟨x, t', rfl, e⟩
        · refine ReadsAll.cons (as := []) (bs := []) ?_ a
          simp only [e]
          exact .int i t'
        · refine ReadsAll.cons (as := []) (bs := []) ?_ a
          simp only [e]
          exact .str x t'
/-- what repr is served of -/
def Dt.rok (d : Dt) : Bool := (d.ok || (match d with | .dic ks => ks.all (fun p => p.2.flat) | _ => false)) && d.py.showable && decide (d.py.depth ≤ 90)
def shw (d : Dt) : Str := d.py.shown
section
variable {K : PySem.W.Frag} {E E' : XK} {Ψ : XPost} {F F' F1 F2 H H' H1 H2 : Hp} {O O' O1 O2 R : Own} {σ : L2.St} {Δ : Env_} {D : Ends} {P : Post}
variable {d x y z : Dt} {ds es : List Dt}
mutual
theorem noDict : ∀ d : Dt, d.ok = true → d.py.hasDict = false
  | .non, _ => rfl
  | .bl _, _ => rfl
  | .int _, _ => rfl
  | .str _, _ => rfl
  | .lst ds, h => by
    simp only [Dt.py, PyData.hasDict]
    exact noDictL ds (by simpa only [Dt.ok] using h)
  | .tup ds, h => by
    simp only [Dt.py, PyData.hasDict]
    exact noDictL ds (by simpa only [Dt.ok] using h)
  | .dic _, h => by simp [Dt.ok] at h
  | .obj _ _, h => by simp [Dt.ok] at h
  | .ref _, h => by simp [Dt.ok] at h
  | .frl _, h => by simp [Dt.ok] at h
  | .fdc _, h => by simp [Dt.ok] at h
  | .ty _, h => by simp [Dt.ok] at h
theorem noDictL : ∀ ds : List Dt, okL ds = true → PyData.hasDictAll (pyL ds) = false
  | [], _ => by simp only [pyL, PyData.hasDictAll]
  | d :: ds, h => by
    simp only [okL, Bool.and_eq_true] at h
    simp only [pyL, PyData.hasDictAll, Bool.or_eq_false_iff]
    exact ⟨noDict d h.1, noDictL ds h.2⟩
end
def rRepr (K : PySem.W.Frag) : List V → Hp → VK → Prop := fun xs H Q => ∃ v d F, xs = [v] ∧ Dat K F v d ∧ Ex F H ∧ d.rok = true ∧ (shw d).length ≤ sizeLine ∧ Q (.str (shw d)) H
theorem call_reprD {X : Cx} (g : NoG X.A) (hu : X.A.units + 100 < cLine) : CallR X (.builtin "repr") (rRepr X.K) := by
  intro pins s σ H xs us Q I r h
  obtain ⟨v, d, F, rfl, k, e, hr, hz, q⟩ := h
  obtain ⟨u, rfl, rx⟩ := vals1 r
  simp only [Dt.rok, Bool.and_eq_true, decide_eq_true_eq] at hr
  obtain ⟨⟨ho, hs⟩, hd⟩ := hr
  have fin : ∀ (a : Addr) (as : List Addr), u = .ref a → Reads s.heap (.ref a) d.py as → (d.py.hasDict = true → sysModules ∉ as) → wpAny (model X.prog X.w) X.A (call (.builtin "repr") [u]) (EP X pins σ Q) X.xe s := by
    rintro a as rfl rd sm
    exact repr_of_reads' rd hs sm g (by omega) (fun _ _ z => z) (fun h' t tk hk => ⟨.str (shw d), H, I.kept hk, ⟨t, rfl⟩, q⟩) hz
  have viaDp : d.ok = true → ∀ a, u = .ref a → wpAny (model X.prog X.w) X.A (call (.builtin "repr") [u]) (EP X pins σ Q) X.xe s := fun hok a ea => by
    obtain ⟨as, rd⟩ := Dp.reads I d.py v u (Dat.dp e d k hok) rx
    subst ea
    exact fin a as rfl rd fun z => by rw [noDict d hok] at z; cases z
  cases k with
  | non => cases rx; exact PySem.P.repr_of_none ⟨.str _, H, I.tok _, ⟨_, rfl⟩, q⟩
  | bl b => cases rx; exact PySem.P.repr_of_bool ⟨.str _, H, I.tok _, ⟨_, by cases b <;> rfl⟩, q⟩
  | int i =>
    obtain ⟨t, rfl⟩ := rx
    exact PySem.P.repr_of_int (by simpa [Dt.py, PyData.showable] using hs) ⟨.str _, H, I.tok _, ⟨_, rfl⟩, q⟩
  | str z =>
    obtain ⟨t, rfl⟩ := rx
    exact PySem.P.repr_of_str ⟨.str _, H, I.tok _, ⟨_, rfl⟩, q⟩ hz
  | lst a l => exact viaDp (by simpa using ho) _ rx
  | tup a l => exact viaDp (by simpa using ho) _ rx
  | dic a l =>
    rename_i ad kvs ks
    have hf : ∀ p ∈ ks, p.2.flat = true := by
      have h1 : ks.all (fun p => p.2.flat) = true := by simpa [Dt.ok] using ho
      simpa [List.all_eq_true] using h1
    obtain ⟨_, ns, vs, kv, o, es, ep, e1, ⟨ec, edd⟩, ed, hko, hp, hnd⟩ := (show ObjOk X.prog X.w H s.heap ad (.dK kvs) from I.hok ad _ (e _ _ a))
    obtain ⟨r1, r2⟩ := pairs_reads (h := s.heap) hp kv l hf
    have rd : Reads s.heap (.ref ad) (.dict (pyK ks)) (ad :: [] ++ []) := .dict e1 ec ed r1 r2
    refine fin ad _ rx rd fun _ m => ?_
    have ea : sysModules = ad := by simpa using m
    rw [← ea] at ns
    simp at ns
  | obj _ _ => simp [Dt.ok] at ho
  | ref _ => simp [Dt.ok] at ho
  | frl _ _ => simp [Dt.ok] at ho
  | fdc _ _ => simp [Dt.ok] at ho
  | ty _ => simp [Dt.ok] at ho
theorem cad_repr (hr : d.rok = true) (hz : (shw d).length ≤ 100000) : CaD K E Ψ (rRepr K) [d] O (ex (.str (shw d)) O) := cad_val fun F H vs b c k => by
  cases k with
  | cons k l =>
    cases l
    exact ⟨_, .str _, fun Q q => ⟨_, d, F, rfl, k, c, hr, sz_of hz, q⟩⟩
end
end FF
set_option Elab.async false
set_option linter.all false
set_option maxRecDepth 100000
set_option maxHeartbeats 1000000
namespace FF
open PySem PySem.Spec PyProof.Rows L2
open Evl (Ex sz_of sz_lt fresh_back)
section
variable {K : PySem.W.Frag} {E E' : XK} {Ψ : XPost} {F F' F1 F2 H H' H1 H2 : Hp} {O O' O1 O2 R : Own} {σ : L2.St} {Δ : Env_} {D : Ends} {P : Post}
variable {te ta tb tc to ti : TE} {tt : TT} {tas : TA} {Φ Φ' : Dt → Own → Prop} {d x y z : Dt} {ds es : List Dt} {r : R2} {t u t' : TS} {P' : Post} {M : Env_ → Own → Prop} {p : Addr}
/-! slices -/
def EvO (K : PySem.W.Frag) (E : XK) (Ψ : XPost) (te : TO) (Δ : Env_) (O : Own) (o : Option Int) : Prop :=
  ∀ σ F H, EnvOk K F σ Δ → OwnOk K F H O → Ex F H → XOk K E Ψ O F H → ∀ Q : Option Int → Hp → Prop, (∀ F' H', Gw O F H O F' H' → OwnOk K F' H' O → Q o H') → te σ H Q
theorem eo_none : EvO K E Ψ tNoPart Δ O none := fun σ F H a b c e Q q => q F H (.refl c) b
theorem eo_some {i : Int} (h : Ev K E Ψ te Δ O (ex (.int i) O)) : EvO K E Ψ (tPart te) Δ O (some i) := fun σ F H a b c e Q q => h σ F H a b c e _ fun v F1 H1 d O1 g1 b1 k1 p1 => by
  obtain ⟨rfl, rfl⟩ := p1
  cases k1
  exact ⟨i, rfl, q F1 H1 g1 b1⟩
def SlD (K : PySem.W.Frag) (E : XK) (Ψ : XPost) (r : V → Option Int → Option Int → Hp → VK → Prop) (x : Dt) (lo hi : Option Int) (O : Own) (Φ : Dt → Own → Prop) : Prop :=
  ∀ F H v, OwnOk K F H O → Ex F H → XOk K E Ψ O F H → Dat K F v x → ∀ Q : VK, (∀ w F' H' d O', Gw O F H O' F' H' → OwnOk K F' H' O' → Dat K F' w d → Φ d O' → Q w H') → r v lo hi H Q
theorem ev_sl {r : V → Option Int → Option Int → Hp → VK → Prop} {tl th : TO} {lo hi : Option Int} (ha : Ev K E Ψ te Δ O (ex x O)) (hl : EvO K E Ψ tl Δ O lo) (hh : EvO K E Ψ th Δ O hi) (hr : SlD K E Ψ r x lo hi O Φ) : Ev K E Ψ (tSl r te tl th) Δ O Φ :=
  fun σ F H a b c e Q q => ha σ F H a b c e _ fun v F1 H1 d O1 g1 b1 k1 p1 => by
    obtain ⟨rfl, rfl⟩ := p1
    exact hl σ F1 H1 (a.mono g1.ext) b1 g1.sub (e.step g1) _ fun F2 H2 g2 b2 => hh σ F2 H2 (a.mono (g1.trans g2).ext) b2 g2.sub ((e.step g1).step g2) _ fun F3 H3 g3 b3 =>
      hr F3 H3 v b3 g3.sub (((e.step g1).step g2).step g3) (k1.mono (g2.trans g3).ext) Q fun w F4 H4 d4 O4 g4 b4 k4 p4 => q w F4 H4 d4 O4 (((g1.trans g2).trans g3).trans g4) b4 k4 p4
def cutD (xs : List Dt) (lo hi : Option Int) : List Dt := (xs.drop (HT.sIx xs.length 0 lo)).take (HT.sIx xs.length xs.length hi - HT.sIx xs.length 0 lo)
theorem DatL.cut {xs : List V} (l : DatL K F xs ds) (lo hi : Option Int) : DatL K F (cutV xs lo hi) (cutD ds lo hi) := by
  unfold cutV cutD
  rw [l.length]
  exact (l.drop _).take _
theorem sld_list {lo hi : Option Int} (hs : LstOf O x ds) : SlD K E Ψ (rSlL K) x lo hi O (nwl (cutD ds lo hi) O) := fun F H v b c e k Q q => by
  obtain ⟨a, xs, rfl, h, l⟩ := hs.read b c k
  exact ⟨a, xs, rfl, .of h, fun p hp => q _ F _ (.ref p) ((p, .lst (cutD ds lo hi)) :: O) (Gw.newOwn c hp) (b.newOwn c hp ⟨_, upd_same, l.cut lo hi⟩) (.ref p) ⟨p, rfl, rfl⟩⟩
theorem sld_frl {lo hi : Option Int} : SlD K E Ψ (rSlL K) (.frl ds) lo hi O (nwl (cutD ds lo hi) O) := fun F H v b c e k Q q => by
  cases k with
  | frl h l =>
    rename_i a xs
    exact ⟨a, xs, rfl, Evl.ex_l c h, fun p hp => q _ F _ (.ref p) ((p, .lst (cutD ds lo hi)) :: O) (Gw.newOwn c hp) (b.newOwn c hp ⟨_, upd_same, l.cut lo hi⟩) (.ref p) ⟨p, rfl, rfl⟩⟩
/-! an owned list's methods -/
def BmD (K : PySem.W.Frag) (E : XK) (Ψ : XPost) (r : V → List V → Hp → VK → Prop) (x : Dt) (xs : List Dt) (O : Own) (Φ : Dt → Own → Prop) : Prop :=
  ∀ F H v vs, OwnOk K F H O → Ex F H → XOk K E Ψ O F H → Dat K F v x → DatL K F vs xs → ∀ Q : VK, (∀ w F' H' d O', Gw O F H O' F' H' → OwnOk K F' H' O' → Dat K F' w d → Φ d O' → Q w H') → r v vs H Q
theorem ev_bmG {T : String} {r : V → List V → Hp → VK → Prop} {Θ : List Dt → Own → Prop} (ho : Ev K E Ψ to Δ O (ex x O)) (ht : ∀ F H v, OwnOk K F H O → Ex F H → Dat K F v x → tyV K T v H) (ha : EvA K E Ψ tas Δ O Θ) (hr : ∀ xs O1, Θ xs O1 → BmD K E Ψ r x xs O1 Φ) :
    Ev K E Ψ (tBM K T r to tas) Δ O Φ := fun σ F H a b c e Q q => ho σ F H a b c e _ fun v F1 H1 d O1 g1 b1 k1 p1 => by
  obtain ⟨rfl, rfl⟩ := p1
  refine ⟨ht F1 H1 v b1 g1.sub k1, ha σ F1 H1 (a.mono g1.ext) b1 g1.sub (e.step g1) _ fun vs F2 H2 xs O2 g2 b2 k2 p2 => ?_⟩
  exact hr xs O2 p2 F2 H2 v vs b2 g2.sub ((e.step g1).step g2) (k1.mono g2.ext) k2 Q fun w F3 H3 d3 O3 g3 b3 k3 p3 => q w F3 H3 d3 O3 ((g1.trans g2).trans g3) b3 k3 p3
theorem ty_list (hs : LstOf O x ds) : ∀ F H v, OwnOk K F H O → Ex F H → Dat K F v x → tyV K "list" v H := fun F H v b c k => by
  obtain ⟨a, xs, rfl, h, _⟩ := hs.read b c k
  exact .inl ⟨rfl, xs, .of h⟩
theorem ev_bmL {r : V → List V → Hp → VK → Prop} {Θ : List Dt → Own → Prop} (ho : Ev K E Ψ to Δ O (ex (.ref p) O)) (m : (p, Ow.lst ds) ∈ O) (ha : EvA K E Ψ tas Δ O Θ) (hr : ∀ xs O1, Θ xs O1 → BmD K E Ψ r (.ref p) xs O1 Φ) :
    Ev K E Ψ (tBM K "list" r to tas) Δ O Φ := ev_bmG ho (ty_list (lo_own m)) ha hr
/-- an owned list is set anew -/
theorem own_set {i : Nat} {xs : List V} (b : OwnOk K F H O) (c : Ex F H) (hi : O[i]? = some (p, .lst ds)) (l : DatL K F xs es) : Gw O F H (O.set i (p, .lst es)) F (upd H p (.lst xs)) ∧ OwnOk K F (upd H p (.lst xs)) (O.set i (p, .lst es)) := by
  obtain ⟨b2, hm⟩ := b.mut (u := .lst xs) (o' := .lst es) hi ⟨xs, upd_same, l⟩
  exact ⟨Gw.mut b c (mem_addr (List.mem_of_getElem? hi)) hm, b2⟩
theorem own_at {i : Nat} (b : OwnOk K F H O) (hi : O[i]? = some (p, .lst ds)) : ∃ xs, H p = some (.lst xs) ∧ DatL K F xs ds := (b.at_ p _ (List.mem_of_getElem? hi)).2
theorem bmd_append {i : Nat} (hi : O[i]? = some (p, .lst ds)) (hl : ds.length < 100000) : BmD K E Ψ rAppend (.ref p) [x] O (fun d O' => d = .non ∧ O' = O.set i (p, .lst (ds ++ [x]))) := fun F H v vs b c e k kl Q q => by
  cases k
  cases kl with
  | cons k1 kl =>
    cases kl
    obtain ⟨xs, h, l⟩ := own_at b hi
    obtain ⟨g, b2⟩ := own_set (xs := xs ++ [_]) b c hi (l.append (.one k1))
    exact ⟨p, xs, _, rfl, rfl, h, sz_lt (by rw [l.length]; exact hl), q .non F _ .non _ g b2 .non ⟨rfl, rfl⟩⟩
def rInsert : V → List V → Hp → VK → Prop := fun x vs H Q => ∃ (l : Addr) (xs : List V) (i : Int) (y : V), x = .ref l ∧ vs = [.int i, y] ∧ H l = some (.lst xs) ∧ xs.length < sizeLine ∧ 0 ≤ i ∧ i < 2 ^ 63 ∧ Q .non (upd H l (.lst (xs.take i.toNat ++ [y] ++ xs.drop i.toNat)))
theorem mt_ins {X : Cx} : MtR X "list.insert" rInsert := mt_insert
theorem bmd_insert {i : Nat} {n : Int} (hi : O[i]? = some (p, .lst ds)) (hl : ds.length < 100000) (h0 : 0 ≤ n) (h1 : n < 2 ^ 63) : BmD K E Ψ rInsert (.ref p) [.int n, x] O (fun d O' => d = .non ∧ O' = O.set i (p, .lst (ds.take n.toNat ++ [x] ++ ds.drop n.toNat))) := fun F H v vs b c e k kl Q q => by
  cases k
  cases kl with
  | cons k1 kl =>
    cases k1
    cases kl with
    | cons k1 kl =>
      cases kl
      obtain ⟨xs, h, l⟩ := own_at b hi
      obtain ⟨g, b2⟩ := own_set (xs := xs.take n.toNat ++ [_] ++ xs.drop n.toNat) b c hi (((l.take n.toNat).append (.one k1)).append (l.drop n.toNat))
      exact ⟨p, xs, n, _, rfl, rfl, h, sz_lt (by rw [l.length]; exact hl), h0, h1, q .non F _ .non _ g b2 .non ⟨rfl, rfl⟩⟩
theorem bmd_extend {i : Nat} (hi : O[i]? = some (p, .lst ds)) (hy : LstOf O y es) (hl : ds.length + es.length ≤ 100000) : BmD K E Ψ rExtend (.ref p) [y] O (fun d O' => d = .non ∧ O' = O.set i (p, .lst (ds ++ es))) := fun F H v vs b c e k kl Q q => by
  cases k
  cases kl with
  | cons k1 kl =>
    cases kl
    obtain ⟨xs, h, l⟩ := own_at b hi
    obtain ⟨a, ys, rfl, h2, l2⟩ := hy.read b c k1
    obtain ⟨g, b2⟩ := own_set (xs := xs ++ ys) b c hi (l.append l2)
    exact ⟨p, a, xs, ys, rfl, rfl, h, h2, by rw [l.length, l2.length]; exact sz_of hl, q .non F _ .non _ g b2 .non ⟨rfl, rfl⟩⟩
theorem bmd_reverse {i : Nat} (hi : O[i]? = some (p, .lst ds)) : BmD K E Ψ rReverse (.ref p) [] O (fun d O' => d = .non ∧ O' = O.set i (p, .lst ds.reverse)) := fun F H v vs b c e k kl Q q => by
  cases k
  cases kl
  obtain ⟨xs, h, l⟩ := own_at b hi
  obtain ⟨g, b2⟩ := own_set (xs := xs.reverse) b c hi l.reverse
  exact ⟨p, xs, rfl, rfl, h, q .non F _ .non _ g b2 .non ⟨rfl, rfl⟩⟩
theorem bmd_clear {i : Nat} (hi : O[i]? = some (p, .lst ds)) : BmD K E Ψ rClear (.ref p) [] O (fun d O' => d = .non ∧ O' = O.set i (p, .lst [])) := fun F H v vs b c e k kl Q q => by
  cases k
  cases kl
  obtain ⟨xs, h, l⟩ := own_at b hi
  obtain ⟨g, b2⟩ := own_set (xs := []) b c hi .nil
  exact ⟨p, xs, rfl, rfl, h, q .non F _ .non _ g b2 .non ⟨rfl, rfl⟩⟩
/-- p[n] = x -/
theorem sv_setL {i n : Nat} (he : Ev K E Ψ te Δ O (ex x O)) (ho : Ev K E Ψ to Δ O (ex (.ref p) O)) (hn : Ev K E Ψ ti Δ O (ex (.int (n : Int)) O)) (hi : O[i]? = some (p, .lst ds)) (hl : n < ds.length) (k : P.nx Δ (O.set i (p, .lst (ds.set n x)))) :
    Sv K E Ψ (tAsg te (gSub to ti rSetL)) Δ O P := fun σ F H D a b c e kk => he σ F H a b c e _ fun v F1 H1 d O1 g1 b1 k1 p1 => by
  obtain ⟨rfl, rfl⟩ := p1
  refine ho σ F1 H1 (a.mono g1.ext) b1 g1.sub (e.step g1) _ fun w F2 H2 d2 O2 g2 b2 k2 p2 => ?_
  obtain ⟨rfl, rfl⟩ := p2
  refine hn σ F2 H2 (a.mono (g1.trans g2).ext) b2 g2.sub ((e.step g1).step g2) _ fun w3 F3 H3 d3 O3 g3 b3 k3 p3 => ?_
  obtain ⟨rfl, rfl⟩ := p3
  cases k2
  cases k3
  obtain ⟨xs, h, l⟩ := own_at b3 hi
  obtain ⟨g, b4⟩ := own_set (xs := xs.set n v) b3 g3.sub hi (l.set n (k1.mono (g2.trans g3).ext))
  have g5 := ((g1.trans g2).trans g3).trans g
  refine ⟨p, xs, (n : Int), n, rfl, rfl, h, ?_, kk.nx σ F3 _ Δ _ g5 b4 (a.mono g5.ext) k⟩
  unfold ixN
  rw [l.length, if_pos (by omega), if_pos (by omega)]
  simp
theorem sv_setLS {i n : Nat} (he : Ev K E Ψ te Δ O (ex x O)) (ho : Ev K E Ψ to Δ O (ex (.ref p) O)) (hn : Ev K E Ψ ti Δ O (ex (.int (n : Int)) O)) (hi : O[i]? = some (p, .lst ds)) (hl : n < ds.length) (k : Sv K E Ψ u Δ (O.set i (p, .lst (ds.set n x))) P) :
    Sv K E Ψ (tSeq (tAsg te (gSub to ti rSetL)) u) Δ O P := sv_seq (M := fun Δ' O' => Sv K E Ψ u Δ' O' P) (sv_setL he ho hn hi hl k) fun _ _ m => m
/-- p[n] += e, whole numbers -/
theorem sv_augL {i n : Nat} {f : Int → Int → Int} {w w' : Int} (ho : Ev K E Ψ to Δ O (ex (.ref p) O)) (hn : Ev K E Ψ ti Δ O (ex (.int (n : Int)) O)) (he : Ev K E Ψ te Δ O (ex (.int w') O)) (hi : O[i]? = some (p, .lst ds)) (hw : ds[n]? = some (.int w)) (k : P.nx Δ (O.set i (p, .lst (ds.set n (.int (f w w')))))) :
    Sv K E Ψ (tAugS to ti te (gGetL K) (ipI f) rSetL) Δ O P := fun σ F H D a b c e kk => ho σ F H a b c e _ fun v F1 H1 d O1 g1 b1 k1 p1 => by
  obtain ⟨rfl, rfl⟩ := p1
  refine hn σ F1 H1 (a.mono g1.ext) b1 g1.sub (e.step g1) _ fun u2 F2 H2 d2 O2 g2 b2 k2 p2 => ?_
  obtain ⟨rfl, rfl⟩ := p2
  cases k1
  cases k2
  obtain ⟨xs, h, l⟩ := own_at b2 hi
  obtain ⟨vw, hvw, kvw⟩ := l.get hw
  cases kvw
  refine ⟨p, xs, n, _, rfl, rfl, .of h, hvw, ?_⟩
  refine he σ F2 H2 (a.mono (g1.trans g2).ext) b2 g2.sub ((e.step g1).step g2) _ fun w3 F3 H3 d3 O3 g3 b3 k3 p3 => ?_
  obtain ⟨rfl, rfl⟩ := p3
  cases k3
  refine ⟨w, w', rfl, rfl, ?_⟩
  obtain ⟨xs3, h3, l3⟩ := own_at b3 hi
  obtain ⟨g, b4⟩ := own_set (xs := xs3.set n (.int (f w w'))) b3 g3.sub hi (l3.set n (.int (f w w')))
  have g5 := ((g1.trans g2).trans g3).trans g
  have hl : n < ds.length := (List.getElem?_eq_some_iff.mp hw).1
  refine ⟨p, xs3, (n : Int), n, rfl, rfl, h3, ?_, kk.nx σ F3 _ Δ _ g5 b4 (a.mono g5.ext) k⟩
  unfold ixN
  rw [l3.length, if_pos (by omega), if_pos (by omega)]
  simp
theorem sv_augLS {i n : Nat} {f : Int → Int → Int} {w w' : Int} (ho : Ev K E Ψ to Δ O (ex (.ref p) O)) (hn : Ev K E Ψ ti Δ O (ex (.int (n : Int)) O)) (he : Ev K E Ψ te Δ O (ex (.int w') O)) (hi : O[i]? = some (p, .lst ds)) (hw : ds[n]? = some (.int w)) (k : Sv K E Ψ u Δ (O.set i (p, .lst (ds.set n (.int (f w w'))))) P) :
    Sv K E Ψ (tSeq (tAugS to ti te (gGetL K) (ipI f) rSetL) u) Δ O P := sv_seq (M := fun Δ' O' => Sv K E Ψ u Δ' O' P) (sv_augL ho hn he hi hw k) fun _ _ m => m
/-! texts -/
def sgn (c : Nat) : Dt := .str ⟨#[c]⟩
theorem iv_str {a : Str} (h : Ev K E Ψ te Δ O (ex (.str a) O)) : Iv K E Ψ (iStr te) Δ O (exl (a.cps.toList.map sgn) O) := fun σ F H ae b c e R q =>
  h σ F H ae b c e _ fun v F1 H1 d O1 g1 b1 k1 p1 => by
    obtain ⟨rfl, rfl⟩ := p1
    cases k1
    have w := L2.walk_str (z := a)
    refine ⟨a, rfl, q _ _ F1 H1 _ O1 g1 b1 (fun _ _ => trivial) ?_ ⟨rfl, rfl⟩⟩
    have hl : (a.cps.toList.map sgn).length = a.cps.size := by simp
    rw [hl]
    refine w.mono (fun _ z => z) fun i H x H' _ _ y => ?_
    obtain ⟨rfl, cc, hc, rfl⟩ := y
    intro F2 O2 d2 e2 e3 e4 b2
    have : (a.cps.toList.map sgn)[i]? = some (sgn cc) := by
      rw [List.getElem?_map, Array.getElem?_toList, hc]
      rfl
    rw [this] at e2
    cases e2
    exact ⟨F2, .refl e4, b2, .str _⟩
def rInC : R2 := fun x y H Q => ∃ (c : Nat) (z : Str), x = .str ⟨#[c]⟩ ∧ y = .str z ∧ Q (.bl (decide (c ∈ z.cps.toList))) H
theorem op_inC {X : Cx} : OpR X (compareOp .In) rInC := op_in_sign
theorem opd_inC {c : Nat} {a : Str} : OpD K E Ψ rInC (sgn c) (.str a) O (ex (.bl (decide (c ∈ a.cps.toList))) O) := opd_val fun F H v u b e k1 k2 => by
  cases k1; cases k2
  exact ⟨_, .bl _, fun Q q => ⟨c, a, rfl, rfl, q⟩⟩
/-! sorted -/
theorem cad_list (hs : SeqOf O x ds) : CaD K E Ψ (fun xs H Q => ∃ p ys, xs = [.ref p] ∧ (SqL K H p ys ∨ SqT K H p ys) ∧ ∀ l, H l = none → Q (.ref l) (upd H l (.lst ys))) [x] O (nwl ds O) := cad_new fun F H vs b c k => by
  cases k with
  | cons k l =>
    cases l
    obtain ⟨a, xs, rfl, h, l⟩ := hs.read b c k
    exact ⟨xs, l, fun Q q => ⟨a, xs, rfl, h, q⟩⟩
/-! dicts -/
theorem ev_dnew : Ev K E Ψ (fun _ H Q => ∀ d, H d = none → Q (.ref d) (upd H d (.dK []))) Δ O (ex (.dic []) O) := fun σ F H a b c e Q q d hd =>
  q _ _ _ (.dic []) O (Gw.new c hd) (b.new c hd) (.dic upd_same .nil) ⟨rfl, rfl⟩
end
end FF
set_option Elab.async false
set_option linter.all false
set_option maxRecDepth 100000
set_option maxHeartbeats 1000000
namespace FF
open PySem PySem.Spec PyProof.Rows L2
open Evl (Ex sz_of sz_lt fresh_back)
/-! the bag that draws come from -/
def BagL (L : List Dt) : Prop := ∃ (k s i : Int) (cells : List Int), L = [.int k, .int s, .int i, .lst (cells.map .int)] ∧ 0 ≤ k ∧ 0 ≤ s ∧ s < 2147483647 ∧ 0 ≤ i ∧ (∀ z ∈ cells, 0 ≤ z) ∧ cells.length ≤ 63
section
variable {K : PySem.W.Frag} {E E' : XK} {Ψ : XPost} {F F' F1 F2 H H' H1 H2 : Hp} {O O' O1 O2 R : Own} {σ : L2.St} {Δ : Env_} {D : Ends} {P : Post}
variable {te ta tb tc to ti : TE} {tt : TT} {tas : TA} {Φ Φ' : Dt → Own → Prop} {d x y z : Dt} {ds es : List Dt} {r : R2} {t u t' : TS} {P' : Post} {M : Env_ → Own → Prop} {p b : Addr}
theorem bag_open (h : OwAt K F H b .bag) : ∃ L, BagL L ∧ OwAt K F H b (.lst L) := by
  obtain ⟨k, s, i, c, cells, e1, e2, h1, h2, h3, h4, h5, h6⟩ := h
  exact ⟨_, ⟨k, s, i, cells, rfl, h1, h2, h3, h4, h5, h6⟩, _, e1, .cons (.int k) (.cons (.int s) (.cons (.int i) (.cons (.lst e2 .ints) .nil)))⟩
theorem bag_close {L : List Dt} (hL : BagL L) (h : OwAt K F H b (.lst L)) : OwAt K F H b .bag := by
  obtain ⟨k, s, i, cells, rfl, hb⟩ := hL
  obtain ⟨xs, e, l⟩ := h
  cases l with
  | cons k1 l =>
    cases k1
    cases l with
    | cons k1 l =>
      cases k1
      cases l with
      | cons k1 l =>
        cases k1
        cases l with
        | cons k1 l =>
          cases l
          cases k1 with
          | lst e2 l2 =>
            rw [l2.ints_inv] at e2
            exact ⟨k, s, i, _, cells, e, e2, hb⟩
theorem own_bagc {L : List Dt} (hL : BagL L) (h : OwnOk K F H ((b, .lst L) :: R)) : OwnOk K F H ((b, .bag) :: R) := by
  refine ⟨h.nd, fun q o m => ?_⟩
  rcases List.mem_cons.mp m with z | m
  · cases z
    have := h.at_ b (.lst L) (List.mem_cons_self ..)
    exact ⟨this.1, bag_close hL this.2⟩
  · exact h.at_ q o (List.mem_cons_of_mem _ m)
theorem own_bago {L : List Dt} (h : OwnOk K F H ((b, .bag) :: R)) (k : OwAt K F H b (.lst L)) : OwnOk K F H ((b, .lst L) :: R) := by
  refine ⟨h.nd, fun q o m => ?_⟩
  rcases List.mem_cons.mp m with z | m
  · cases z
    exact ⟨(h.at_ b .bag (List.mem_cons_self ..)).1, k⟩
  · exact h.at_ q o (List.mem_cons_of_mem _ m)
theorem Gw.sameR (g : Gw O F H O1 F1 H1) (e : O2.map (·.1) = O1.map (·.1)) : Gw O F H O2 F1 H1 := ⟨g.ext, g.sub, g.keep, g.dom, g.old, fun a m => g.addr a (by rw [← e]; exact m)⟩
theorem Gw.sameL (g : Gw O F H O1 F1 H1) (e : O2.map (·.1) = O.map (·.1)) : Gw O2 F H O1 F1 H1 :=
  ⟨g.ext, g.sub, fun a o m => g.keep a o (by rw [← e]; exact m), g.dom, fun a q m => g.old a q (by rw [← e]; exact m), fun a m => (g.addr a m).imp (fun z => by rw [e]; exact z) id⟩
theorem XOk.sameL (h : XOk K E Ψ O F H) (e : O2.map (·.1) = O.map (·.1)) : XOk K E Ψ O2 F H := fun C d F' H' O' fs g a b c => h C d F' H' O' fs (g.sameL e.symm) a b c
theorem DOk.sameL (h : DOk K O F H D P) (e : O2.map (·.1) = O.map (·.1)) : DOk K O2 F H D P :=
  ⟨fun σ' F' H' Δ' O' g => h.nx σ' F' H' Δ' O' (g.sameL e.symm), fun v F' H' d O' g => h.rt v F' H' d O' (g.sameL e.symm), fun σ' F' H' Δ' O' g => h.bk σ' F' H' Δ' O' (g.sameL e.symm), fun σ' F' H' Δ' O' g => h.ct σ' F' H' Δ' O' (g.sameL e.symm)⟩
/-- the bag's list, to be read and written -/
theorem sv_bago (h : ∀ L, BagL L → Sv K E Ψ t Δ ((b, .lst L) :: R) P) : Sv K E Ψ t Δ ((b, .bag) :: R) P := fun σ F H D a bb c e kk => by
  obtain ⟨L, hL, k⟩ := bag_open (bb.at_ b .bag (List.mem_cons_self ..)).2
  exact h L hL σ F H D a (own_bago bb k) c (e.sameL rfl) (kk.sameL rfl)
/-- a value behind which the bag's list is a bag again -/
theorem ev_bagc {L : List Dt} {Θ : Dt → Prop} (hL : BagL L) (h : Ev K E Ψ te Δ ((b, .lst L) :: R) (fun d O' => Θ d ∧ O' = (b, .lst L) :: R)) (hΦ : ∀ d, Θ d → Φ d ((b, .bag) :: R)) : Ev K E Ψ te Δ ((b, .lst L) :: R) Φ := fun σ F H a bb c e Q q =>
  h σ F H a bb c e Q fun v F1 H1 d O1 g1 b1 k1 p1 => by
    obtain ⟨hd, rfl⟩ := p1
    exact q v F1 H1 d ((b, .bag) :: R) (g1.sameR rfl) (own_bagc hL b1) k1 (hΦ d hd)
theorem hu100 {k : Nat} {A : Around} (hr : Room k A) : A.units + 100 < cLine := by have := hr.un; omega
/-! promises, often met -/
def preTake : Pre := fun ds O Φ Ψ => ∃ b n, ds = [.ref b, .int n] ∧ 0 < n ∧ n < 1073741824 ∧ O = [(b, .bag)] ∧ Φ = (fun d O' => (∃ r, d = .int r ∧ 0 ≤ r ∧ r < n) ∧ O' = [(b, .bag)]) ∧ Ψ = X0
/-- one thing of data gives one thing of data -/
def pre1 (C : Dt → Prop) (f : Dt → Dt) : Pre := fun ds O Φ Ψ => ∃ d, ds = [d] ∧ C d ∧ O = [] ∧ Φ = ex (f d) [] ∧ Ψ = X0
def pre2 (C : Dt → Dt → Prop) (f : Dt → Dt → Dt) : Pre := fun ds O Φ Ψ => ∃ d e, ds = [d, e] ∧ C d e ∧ O = [] ∧ Φ = ex (f d e) [] ∧ Ψ = X0
/-- .. drawn by a bag -/
def preB (C : List Dt → Prop) (S : List Dt → Dt → Prop) : Pre := fun ds O Φ Ψ => ∃ b es, ds = .ref b :: es ∧ C es ∧ O = [(b, .bag)] ∧ Φ = (fun d O' => S es d ∧ O' = [(b, .bag)]) ∧ Ψ = X0
theorem ev_call1 {C : Dt → Prop} {f : Dt → Dt} {ts : TA} (ha : EvA K E Ψ ts Δ O (exl [d] O)) (hc : C d) : Ev K E Ψ (tCall (mkSp K (pre1 C f)) [] E' ts) Δ O (ex (f d) O) := ev_callE ha ⟨d, rfl, hc, rfl, rfl, rfl⟩
theorem ev_call2 {C : Dt → Dt → Prop} {f : Dt → Dt → Dt} {ts : TA} (ha : EvA K E Ψ ts Δ O (exl [x, y] O)) (hc : C x y) : Ev K E Ψ (tCall (mkSp K (pre2 C f)) [] E' ts) Δ O (ex (f x y) O) := ev_callE ha ⟨x, y, rfl, hc, rfl, rfl, rfl⟩
theorem ev_take {n : Int} {ts : TA} (ha : EvA K E Ψ ts Δ ((b, .bag) :: R) (exl [.ref b, .int n] ((b, .bag) :: R))) (h0 : 0 < n) (h1 : n < 1073741824) :
    Ev K E Ψ (tCall (mkSp K preTake) [] E' ts) Δ ((b, .bag) :: R) (fun d O' => (∃ r, d = .int r ∧ 0 ≤ r ∧ r < n) ∧ O' = (b, .bag) :: R) :=
  ev_call0 ha fun ds O1 h => ⟨[(b, .bag)], R, (fun d O' => (∃ r, d = .int r ∧ 0 ≤ r ∧ r < n) ∧ O' = [(b, .bag)]), by rw [h.2]; rfl, by rw [h.1]; exact ⟨b, n, rfl, h0, h1, rfl, rfl, rfl⟩, fun d O2 p => ⟨p.1, by rw [p.2]; rfl⟩⟩
end
end FF
namespace FF
open PySem PySem.Spec PyProof.Rows L2
theorem cmul_l {i j : Int} (h1 : -18446744073709551616 < i) (h2 : i < 18446744073709551616) : CMul i j := .inl ⟨by omega, by omega⟩
theorem cmul_r {i j : Int} (h1 : -18446744073709551616 < j) (h2 : j < 18446744073709551616) : CMul i j := .inr ⟨by omega, by omega⟩
theorem cdiv {i j : Int} (h1 : 0 < j) (h2 : j < 1073741824) : CDiv i j := ⟨h1, h2⟩
end FF
namespace FF
open PySem PySem.Spec PyProof.Rows L2
theorem ev_intC {K : PySem.W.Frag} {E : XK} {Ψ : XPost} {Δ : Env_} {O : Own} {i j : Int} (h : i = j) : Ev K E Ψ (tC (.int i)) Δ O (ex (.int j) O) := by subst h; exact ev_int
end FF
set_option Elab.async false
set_option linter.all false
set_option maxRecDepth 100000
set_option maxHeartbeats 1000000
namespace FF
open PySem PySem.Spec PyProof.Rows L2
open Evl (Ex sz_of sz_lt fresh_back)
/-! kinds -/
def kd (d : Dt) : Bool := (tyN d).isSome
def isiInt : Dt → Bool | .int _ => true | .bl _ => true | _ => false
def isiBool : Dt → Bool | .bl _ => true | _ => false
def isiStr : Dt → Bool | .str _ => true | _ => false
def isiTup : Dt → Bool | .tup _ => true | _ => false
def isiList : Dt → Bool | .lst _ => true | _ => false
def isiDict : Dt → Bool | .dic _ => true | .fdc _ => true | _ => false
section
variable {X : Cx}
def rEqU (K : PySem.W.Frag) : R2 := fun x y H Q => rEq x y H Q ∨ rEqD K x y H Q
def rNeU (K : PySem.W.Frag) : R2 := fun x y H Q => rNe x y H Q ∨ rNeD K x y H Q
theorem op_eqU (hu : X.A.units + 64 < cLine) : OpR X (compareOp .Eq) (rEqU X.K) := OpR.or op_eq (op_eqD hu)
theorem op_neU (hu : X.A.units + 64 < cLine) : OpR X (compareOp .NotEq) (rNeU X.K) := OpR.or op_ne (op_neD hu)
end
section
variable {K : PySem.W.Frag} {E E' : XK} {Ψ : XPost} {F F' F1 F2 H H' H1 H2 : Hp} {O O' O1 O2 R : Own} {σ : L2.St} {Δ : Env_} {D : Ends} {P : Post}
variable {te ta tb tc to ti : TE} {tt : TT} {tas : TA} {Φ Φ' : Dt → Own → Prop} {d x y z : Dt} {ds es : List Dt} {r : R2} {t u t' : TS} {P' : Post} {M : Env_ → Own → Prop} {p b : Addr}
theorem cad_isiInt (h : kd d = true) : CaD K E Ψ (rIsi K) [d, .ty "int"] O (ex (.bl (isiInt d)) O) := by
  cases d <;> first | exact (cad_isi (b := true) rfl (by decide +kernel)) | exact (cad_isi (b := false) rfl (by decide +kernel)) | (simp [kd, tyN] at h)
theorem cad_isiBool (h : kd d = true) : CaD K E Ψ (rIsi K) [d, .ty "bool"] O (ex (.bl (isiBool d)) O) := by
  cases d <;> first | exact (cad_isi (b := true) rfl (by decide +kernel)) | exact (cad_isi (b := false) rfl (by decide +kernel)) | (simp [kd, tyN] at h)
theorem cad_isiStr (h : kd d = true) : CaD K E Ψ (rIsi K) [d, .ty "str"] O (ex (.bl (isiStr d)) O) := by
  cases d <;> first | exact (cad_isi (b := true) rfl (by decide +kernel)) | exact (cad_isi (b := false) rfl (by decide +kernel)) | (simp [kd, tyN] at h)
theorem cad_isiTup (h : kd d = true) : CaD K E Ψ (rIsi K) [d, .ty "tuple"] O (ex (.bl (isiTup d)) O) := by
  cases d <;> first | exact (cad_isi (b := true) rfl (by decide +kernel)) | exact (cad_isi (b := false) rfl (by decide +kernel)) | (simp [kd, tyN] at h)
theorem cad_isiList (h : kd d = true) : CaD K E Ψ (rIsi K) [d, .ty "list"] O (ex (.bl (isiList d)) O) := by
  cases d <;> first | exact (cad_isi (b := true) rfl (by decide +kernel)) | exact (cad_isi (b := false) rfl (by decide +kernel)) | (simp [kd, tyN] at h)
theorem cad_isiDict (h : kd d = true) : CaD K E Ψ (rIsi K) [d, .ty "dict"] O (ex (.bl (isiDict d)) O) := by
  cases d <;> first | exact (cad_isi (b := true) rfl (by decide +kernel)) | exact (cad_isi (b := false) rfl (by decide +kernel)) | (simp [kd, tyN] at h)
/-! == of anything -/
theorem opd_eqU (hx : x.eok = true) (hy : y.eok = true) : OpD K E Ψ (rEqU K) x y O (ex (.bl (eqd x y)) O) := opd_or2 (opd_eq hx hy)
theorem opd_neU (hx : x.eok = true) (hy : y.eok = true) : OpD K E Ψ (rNeU K) x y O (ex (.bl (!eqd x y)) O) := opd_or2 (opd_ne hx hy)
theorem opd_eqUI {i j : Int} : OpD K E Ψ (rEqU K) (.int i) (.int j) O (ex (.bl (decide (i = j))) O) := opd_or2 opd_eqI
theorem opd_neUI {i j : Int} : OpD K E Ψ (rNeU K) (.int i) (.int j) O (ex (.bl (!decide (i = j))) O) := opd_or2 opd_neI
theorem opd_eqUS {a b : Str} : OpD K E Ψ (rEqU K) (.str a) (.str b) O (ex (.bl (decide (a = b))) O) := opd_or1 (opd_val fun F H v u bb c k1 k2 => by
  cases k1; cases k2
  refine ⟨_, .bl _, fun Q q => ⟨rfl, ?_⟩⟩
  have e : decide (V.str a = V.str b) = decide (a = b) := by simp
  rw [e]
  exact q)
theorem opd_neUS {a b : Str} : OpD K E Ψ (rNeU K) (.str a) (.str b) O (ex (.bl (!decide (a = b))) O) := opd_or1 (opd_val fun F H v u bb c k1 k2 => by
  cases k1; cases k2
  refine ⟨_, .bl _, fun Q q => ⟨rfl, ?_⟩⟩
  have e : decide (V.str a = V.str b) = decide (a = b) := by simp
  rw [e]
  exact q)
theorem eqd_refl (h : d.ok = true) : eqd d d = true := SeqAt.eqv_refl d.py (Dt.canLay d h)
/-- any owned object is known from now on -/
theorem Gw.frzG {o : Ow} {u : HO} (h : OwnOk K F H ((p, o) :: O)) (e : Ex F H) (hp : H p = some u) : Gw ((p, o) :: O) F H O (upd F p u) H ∧ OwnOk K (upd F p u) H O := by
  have fp : F p = none := h.none_ (by simp)
  have ee : Ex F (upd F p u) := Ex.new fp
  refine ⟨⟨ee, fun a w z => ?_, fun a o _ z => z, fun a z => z, fun a z m => ?_, fun a m => .inl (List.mem_cons_of_mem _ m)⟩, ⟨(List.nodup_cons.mp h.nd).2, fun q o m => ?_⟩⟩
  · by_cases ha : a = p
    · subst ha; rw [upd_same] at z; cases z; exact hp
    · rw [upd_ne ha] at z; exact e a w z
  · rw [upd_ne (fun q => m (by simp [q]))]
  · have hq := h.at_ q o (List.mem_cons_of_mem _ m)
    have ne : q ≠ p := fun z => by
      subst z
      exact (List.nodup_cons.mp h.nd).1 (mem_addr m)
    exact ⟨by rw [upd_ne ne]; exact hq.1, hq.2.mono ee fun _ z => z⟩
def keyD : Key → Dt | .inl i => .int i | .inr s => .str s
theorem keyD_v {v : V} {k : Key} (h : Dat K F v (keyD k)) : v = kV k := by
  cases k <;> cases h <;> rfl
/-! a dict of one entry -/
theorem ev_dnewK : Ev K E Ψ tDNewK Δ O (ex (.dic []) O) := ev_dnew
theorem opd_pow {i j : Int} (h : CPow i j) : OpD K E Ψ (rI CPow fun i j => .int (i ^ j.toNat)) (.int i) (.int j) O (ex (.int (i ^ j.toNat)) O) := opd_I (f := fun i j => i ^ j.toNat) h
/-! how long a shown thing is at most -/
mutual
def Dt.sz : Dt → Nat
  | .non => 4 | .bl _ => 5 | .int i => (PyData.shown (.int i)).length | .str x => 10 * x.length + 2
  | .lst ds => szL ds + 5 | .tup ds => szL ds + 5 | .dic ks => szK ks + 5 | _ => 0
def szL : List Dt → Nat
  | [] => 0
  | d :: ds => d.sz + 2 + szL ds
def szK : List (Key × Dt) → Nat
  | [] => 0
  | (k, d) :: ds => (match k with | .inl i => (PyData.shown (.int i)).length | .inr s => 10 * s.length + 2) + 2 + d.sz + 2 + szK ds
end
mutual
/-- texts of signs -/
def Dt.sok : Dt → Bool
  | .non => true | .bl _ => true | .int _ => true | .str x => PyData.strOk x
  | .lst ds => sokL ds | .tup ds => sokL ds | .dic ks => sokK ks | _ => false
def sokL : List Dt → Bool
  | [] => true
  | d :: ds => d.sok && sokL ds
def sokK : List (Key × Dt) → Bool
  | [] => true
  | (k, d) :: ds => (match k with | .inl _ => true | .inr s => PyData.strOk s) && d.sok && sokK ds
end
theorem repr_len {a : Str} (h : PyData.strOk a = true) : (reprText a).length ≤ 10 * a.length + 2 := by
  refine StrLaws.reprText_len a fun c hc => ?_
  unfold PyData.strOk at h
  rw [Array.all_eq_true_iff_forall_mem] at h
  have := of_decide_eq_true (h c (by simpa using hc))
  omega
theorem sum_two : ∀ ts : List Str, (ts.map fun t => t.length + 2).sum = (ts.map (·.length)).sum + 2 * ts.length
  | [] => rfl
  | t :: ts => by
    simp only [List.map_cons, List.sum_cons, List.length_cons, sum_two ts]
    omega
theorem join_le (ts : List Str) : (Str.join ", " ts).length ≤ (ts.map (·.length)).sum + 2 * ts.length := by
  by_cases h : ts = []
  · subst h
    exact Nat.le_refl _
  · have := join_length_add ts h
    rw [← sum_two]
    unfold piled at this
    omega
theorem tuple_le (ts : List Str) : (tupleText ts).length ≤ (ts.map (·.length)).sum + 2 * ts.length + 5 := by
  have := join_le ts
  unfold tupleText
  rw [strLen_append, strLen_append]
  have e1 : ("(" : Str).length = 1 := by decide
  have e2 : ((if ts.length == 1 then ",)" else ")" : String) : Str).length ≤ 2 := by split <;> decide
  omega
theorem dict_le (ts : List Str) : (dictText ts).length ≤ (ts.map (·.length)).sum + 2 * ts.length + 5 := by
  have := join_le ts
  unfold dictText
  rw [strLen_append, strLen_append]
  have e1 : ("{" : Str).length = 1 := by decide
  have e2 : ("}" : Str).length = 1 := by decide
  omega
mutual
theorem shw_le : ∀ d : Dt, d.sok = true → d.py.shown.length ≤ d.sz
  | .non, _ => by show ("None" : Str).length ≤ 4; decide
  | .bl b, _ => by cases b <;> decide
  | .int i, _ => Nat.le_refl _
  | .str x, h => repr_len (by simpa only [Dt.sok] using h)
  | .lst ds, h => by
    have ⟨a, b⟩ := shwL_le ds (by simpa only [Dt.sok] using h)
    have := listText_len_le (PyData.shownAll (pyL ds))
    simp only [Dt.py, PyData.shown, Dt.sz]
    omega
  | .tup ds, h => by
    have ⟨a, b⟩ := shwL_le ds (by simpa only [Dt.sok] using h)
    have := tuple_le (PyData.shownAll (pyL ds))
    simp only [Dt.py, PyData.shown, Dt.sz]
    omega
  | .dic ks, h => by
    have := shwK_le ks (by simpa only [Dt.sok] using h)
    have := dict_le (PyData.shownKv (pyK ks))
    simp only [Dt.py, PyData.shown, Dt.sz]
    omega
  | .obj _ _, h => by simp [Dt.sok] at h
  | .ref _, h => by simp [Dt.sok] at h
  | .frl _, h => by simp [Dt.sok] at h
  | .fdc _, h => by simp [Dt.sok] at h
  | .ty _, h => by simp [Dt.sok] at h
theorem shwL_le : ∀ ds : List Dt, sokL ds = true → ((PyData.shownAll (pyL ds)).map (·.length)).sum + 2 * (PyData.shownAll (pyL ds)).length ≤ szL ds ∧ True
  | [], _ => by simp [pyL, PyData.shownAll, szL]
  | d :: ds, h => by
    simp only [sokL, Bool.and_eq_true] at h
    have a := shw_le d h.1
    have b := (shwL_le ds h.2).1
    refine ⟨?_, trivial⟩
    simp only [pyL, PyData.shownAll, szL, List.map_cons, List.sum_cons, List.length_cons]
    omega
theorem shwK_le : ∀ ks : List (Key × Dt), sokK ks = true → ((PyData.shownKv (pyK ks)).map (·.length)).sum + 2 * (PyData.shownKv (pyK ks)).length ≤ szK ks
  | [], _ => by simp [pyK, PyData.shownKv, szK]
  | (k, d) :: ds, h => by
    simp only [sokK, Bool.and_eq_true] at h
    have a := shw_le d h.1.2
    have b := shwK_le ds h.2
    have e : (": " : Str).length = 2 := by decide
    simp only [pyK, PyData.shownKv, szK, List.map_cons, List.sum_cons, List.length_cons, strLen_append]
    cases k with
    | inl i =>
      simp only
      omega
    | inr s =>
      have c : (PyData.shown (.str s)).length ≤ 10 * s.length + 2 := repr_len h.1.1
      simp only
      omega
end
end
end FF
namespace FF
open PySem PySem.Spec PyProof.Rows L2
theorem ev_is {K : PySem.W.Frag} {E : XK} {Ψ : XPost} {te : TE} {Δ : Env_} {O : Own} {d d' : Dt} (h : Ev K E Ψ te Δ O (ex d O)) (e : d = d') : Ev K E Ψ te Δ O (ex d' O) := e ▸ h
end FF
namespace FF
open PySem PySem.Spec PyProof.Rows L2
theorem sv_retE {K : PySem.W.Frag} {E : XK} {Ψ : XPost} {te : TE} {Δ : Env_} {O : Own} {d : Dt} {P : Post} (h : Ev K E Ψ te Δ O (ex d O)) (k : P.rt d O) : Sv K E Ψ (tRet te) Δ O P := sv_ret (h.imp fun d' O' p => by rw [p.1, p.2]; exact k)
end FF
namespace FF
open PySem PySem.Spec PyProof.Rows L2
theorem ev_bagn {K : PySem.W.Frag} {E : XK} {Ψ : XPost} {te : TE} {Δ : Env_} {O : Own} {L : List Dt} (hL : BagL L) (h : Ev K E Ψ te Δ O (nwl L O)) : Ev K E Ψ te Δ O (fun d O' => ∃ b, d = .ref b ∧ O' = (b, .bag) :: O) := fun σ F H a bb c e Q q =>
  h σ F H a bb c e Q fun v F1 H1 d O1 g1 b1 k1 p1 => by
    obtain ⟨b, rfl, rfl⟩ := p1
    exact q v F1 H1 (.ref b) ((b, .bag) :: O) (g1.sameR rfl) (own_bagc hL b1) k1 ⟨b, rfl, rfl⟩
/-- mixing: the same things in another order -/
def preMix : Pre := preB (fun es => ∃ ds, es = [.lst ds] ∧ ds.length ≤ 5000) (fun es d => ∃ ds fs, es = [.lst ds] ∧ d = .lst fs ∧ fs.Perm ds)
theorem mix_perm {α : Type} (acc : List α) (x : α) (n : Nat) : (acc.take n ++ [x] ++ acc.drop n).Perm (acc ++ [x]) := by
  have h1 : (acc.take n ++ [x] ++ acc.drop n).Perm (acc.take n ++ acc.drop n ++ [x]) := by
    rw [List.append_assoc, List.append_assoc]
    exact List.Perm.append_left _ List.perm_append_comm
  rwa [List.take_append_drop] at h1
end FF
namespace FF
open PySem PySem.Spec PyProof.Rows L2
/-- what is owned, in another order -/
theorem sv_perm {K : PySem.W.Frag} {E : XK} {Ψ : XPost} {t : TS} {Δ : Env_} {O O' : Own} {P : Post} (e : O'.Perm O) (h : Sv K E Ψ t Δ O' P) : Sv K E Ψ t Δ O P := fun σ F H D a b c x k =>
  h σ F H D a (b.perm e.symm) c (fun C d F' H' O2 fs g y z w => x C d F' H' O2 fs (g.permL e) y z w)
    ⟨fun σ' F' H' Δ' O2 g => k.nx σ' F' H' Δ' O2 (g.permL e), fun v F' H' d O2 g => k.rt v F' H' d O2 (g.permL e), fun σ' F' H' Δ' O2 g => k.bk σ' F' H' Δ' O2 (g.permL e), fun σ' F' H' Δ' O2 g => k.ct σ' F' H' Δ' O2 (g.permL e)⟩
end FF
namespace FF
open PySem PySem.Spec PyProof.Rows L2
end FF
set_option Elab.async false
set_option linter.all false
set_option maxRecDepth 100000
set_option maxHeartbeats 1000000
namespace FF
open PySem PySem.Spec PyProof.Rows L2
open Evl (Ex sz_of sz_lt fresh_back)
/-! objects of the program's own classes -/
section
variable {K : PySem.W.Frag} {E E' : XK} {Ψ : XPost} {F F' F1 F2 H H' H1 H2 : Hp} {O O' O1 O2 R : Own} {σ : L2.St} {Δ : Env_} {D : Ends} {P : Post}
variable {te ta tb tc to ti tv : TE} {tt : TT} {tas ts : TA} {Φ Φ' : Dt → Own → Prop} {d x y z : Dt} {ds es : List Dt} {r : R2} {t u t' : TS} {C p : Addr} {f m : Str} {fs : List (Str × Dt)}
theorem DatF.look {fvs : List (Str × V)} (h : DatF K F fvs fs) (e : fs.lookup f = some d) : ∃ v, fvs.lookup f = some v ∧ Dat K F v d := by
  induction fs generalizing fvs with
  | nil => simp [List.lookup] at e
  | cons a fs ih =>
    cases h with
    | cons h l =>
      rename_i k v vs d'
      simp only [List.lookup] at e ⊢
      cases hk : f == k with
      | true => rw [hk] at e; simp only at e; cases e; exact ⟨v, rfl, h⟩
      | false => rw [hk] at e; simp only at e; exact ih l e
theorem DatF.lookN {fvs : List (Str × V)} (h : DatF K F fvs fs) (e : fs.lookup f = none) : fvs.lookup f = none := by
  induction fs generalizing fvs with
  | nil => cases h; rfl
  | cons a fs ih =>
    cases h with
    | cons h l =>
      rename_i k v vs d'
      simp only [List.lookup] at e ⊢
      cases hk : f == k with
      | true => rw [hk] at e; simp at e
      | false => rw [hk] at e; simp only at e; exact ih l e
theorem DatF.length {fvs : List (Str × V)} (h : DatF K F fvs fs) : fvs.length = fs.length := by
  induction fs generalizing fvs with
  | nil => cases h; rfl
  | cons a fs ih => cases h with | cons h l => simp [ih l]
/-- a field that is not there yet, set -/
theorem DatF.put {fvs : List (Str × V)} {v : V} (h : DatF K F fvs fs) (k : Dat K F v d) (e : fs.lookup f = none) : DatF K F (putF f v fvs) (fs ++ [(f, d)]) := by
  induction fs generalizing fvs with
  | nil => cases h; exact .cons k .nil
  | cons a fs ih =>
    cases h with
    | cons h l =>
      rename_i k' v' vs d'
      simp only [List.lookup] at e
      cases hk : f == k' with
      | true => rw [hk] at e; simp at e
      | false =>
        rw [hk] at e; simp only at e
        have : putF f v ((k', v') :: vs) = (k', v') :: putF f v vs := by
          have hk' : (k' == f) = false := by
            cases q : k' == f with
            | false => rfl
            | true =>
              have : k' = f := by simpa using q
              subst this
              simp at hk
          simp only [putF]
          first | (rw [if_neg (by simpa using hk)]) | (rw [if_neg (by simpa using hk')]) | simp [hk, hk']
        rw [this]
        exact .cons h (ih l e)
/-- a new field of an owned object -/
theorem sv_fldG {i : Nat} {Θ : Dt → Own → Prop} (cl : Cls K C) (na : NoAttr K C f) (he : Ev K E Ψ tv Δ O Θ) (ho : ∀ d O1, Θ d O1 → Ev K E Ψ to Δ O1 (ex (.ref p) O1) ∧ ∃ fs, O1[i]? = some (p, .ins C fs) ∧ fs.lookup f = none ∧ fs.length < 1000 ∧ P.nx Δ (O1.set i (p, .ins C (fs ++ [(f, d)])))) :
    Sv K E Ψ (sFld K to tv f) Δ O P := fun σ F H D a b c e kk => he σ F H a b c e _ fun v F1 H1 d O1 g1 b1 k1 p1 => by
  obtain ⟨h1, fs, hi, hf, hl, hn⟩ := ho d O1 p1
  refine h1 σ F1 H1 (a.mono g1.ext) b1 g1.sub (e.step g1) _ fun w F2 H2 d2 O2 g2 b2 k2 p2 => ?_
  obtain ⟨rfl, rfl⟩ := p2
  cases k2
  have m : (p, Ow.ins C fs) ∈ O2 := List.mem_of_getElem? hi
  obtain ⟨_, dx, fvs, hx, l⟩ := b2.at_ p _ m
  refine ⟨p, C, dx, fvs, rfl, hx, cl, na, by rw [l.length]; exact hl, ?_⟩
  obtain ⟨b3, hm⟩ := b2.mut (u := .ins C dx (putF f v fvs)) (o' := .ins C (fs ++ [(f, d)])) hi ⟨dx, _, upd_same, l.put (k1.mono g2.ext) hf⟩
  have g3 := Gw.mut (u := .ins C dx (putF f v fvs)) b2 g2.sub (mem_addr m) hm
  have gg := (g1.trans g2).trans g3
  exact kk.nx σ F2 _ Δ _ gg b3 (a.mono gg.ext) hn
theorem sv_fld {i : Nat} (cl : Cls K C) (na : NoAttr K C f) (he : Ev K E Ψ tv Δ O (ex d O)) (ho : Ev K E Ψ to Δ O (ex (.ref p) O)) (hi : O[i]? = some (p, .ins C fs)) (hf : fs.lookup f = none) (hl : fs.length < 1000) (k : P.nx Δ (O.set i (p, .ins C (fs ++ [(f, d)])))) :
    Sv K E Ψ (sFld K to tv f) Δ O P := sv_fldG (i := i) (p := p) cl na he fun d' O1 q => by obtain ⟨rfl, rfl⟩ := q; exact ⟨ho, fs, hi, hf, hl, k⟩
/-- __init__'s promise: a new object gets its fields -/
def preI (C : Addr) (cond : List Dt → Prop) (fl : List Dt → List (Str × Dt)) : Pre := fun ds O Φ Ψ => ∃ x es, ds = .ref x :: es ∧ cond es ∧ O = [(x, .ins C [])] ∧ Φ = (fun d O' => d = .non ∧ O' = [(x, .ins C (fl es))]) ∧ Ψ = X0
/-- an object made, known from now on -/
theorem ev_makeG {cond : List Dt → Prop} {fl : List Dt → List (Str × Dt)} {Θ : List Dt → Prop} (ha : EvA K E Ψ ts Δ O (fun ds O' => Θ ds ∧ O' = O)) (hc : ∀ ds, Θ ds → cond ds) : Ev K E Ψ (tMake C (mkSp K (preI C cond fl)) [] E' ts) Δ O (fun d O' => (∃ ds, Θ ds ∧ d = .obj C (fl ds)) ∧ O' = O) := fun σ F H a b c e Q q =>
  ha σ F H a b c e _ fun vs F1 H1 ds O1 g1 b1 k1 p1 x dx hx hdx ne => by
    obtain ⟨hΘ, rfl⟩ := p1
    rw [List.append_nil]
    have gd : Gw O1 F1 H1 O1 F1 (upd H1 dx (.own x)) := by
      refine ⟨Ex.refl F1, fun a w h => ?_, fun a o _ h => ?_, fun a h => ?_, fun _ _ _ => rfl, fun _ m => .inl m⟩
      · rw [upd_ne (ne_of_none (g1.sub a w h) hdx)]; exact g1.sub a w h
      · rw [upd_ne (ne_of_none h hdx)]; exact h
      · by_cases hh : a = dx
        · subst hh; rw [upd_same]; simp
        · rw [upd_ne hh]; exact h
    have bd : OwnOk K F1 (upd H1 dx (.own x)) O1 := ⟨b1.nd, fun p o m => ⟨(b1.at_ p o m).1, (b1.at_ p o m).2.mono (Ex.refl F1) fun u z => by rw [upd_ne (ne_of_none z hdx)]; exact z⟩⟩
    have hx' : upd H1 dx (.own x) x = none := by rw [upd_ne (fun z => ne z.symm)]; exact hx
    have go := Gw.newOwn (O := O1) (o := .ins C []) (u := .ins C dx []) gd.sub hx'
    have bo := bd.newOwn (o := .ins C []) (u := .ins C dx []) gd.sub hx' ⟨dx, [], upd_same, .nil⟩
    have bo' : OwnOk K F1 (upd (upd H1 dx (.own x)) x (.ins C dx [])) ([(x, .ins C [])] ++ O1) := bo
    refine ⟨F1, .ref x :: ds, [(x, .ins C [])], (fun d O' => d = .non ∧ O' = [(x, .ins C (fl ds))]), X0, .cons (.ref x) k1, bo'.left, go.sub, ⟨x, ds, rfl, hc ds hΘ, rfl, rfl, rfl⟩, .zero, fun v F2 H2 d2 O2 g2 b2 k2 p2 => ?_⟩
    obtain ⟨rfl, rfl⟩ := p2
    cases k2
    refine ⟨rfl, ?_⟩
    have g3 := g2.frame (R := O1)
    have b3 := bo'.frame g2 b2
    have b3' : OwnOk K F2 H2 ((x, .ins C (fl ds)) :: O1) := b3
    obtain ⟨_, dx2, fvs, h2, l2⟩ := b3'.at_ x _ (List.mem_cons_self ..)
    obtain ⟨g4, b4⟩ := Gw.frzG b3' g3.sub h2
    have gg : Gw O1 F H O1 (upd F2 x (.ins C dx2 fvs)) H2 := (((g1.trans gd).trans go).trans g3).trans g4
    exact q _ _ _ _ _ gg b4 (.obj upd_same (l2.mono g4.ext)) ⟨⟨ds, hΘ, rfl⟩, rfl⟩
end
section
variable {K : PySem.W.Frag} {E E' : XK} {Ψ : XPost} {O : Own} {Δ : Env_} {ta tb : TE} {Φ : Dt → Own → Prop} {d : Dt}
/-- None or .. -/
theorem ev_orTN (h1 : Ev K E Ψ ta Δ O (ex .non O)) (h2 : Ev K E Ψ tb Δ O Φ) : Ev K E Ψ (tOrT K ta tb) Δ O Φ := fun σ F H a bb c e Q q => h1 σ F H a bb c e _ fun v F1 H1 x O1 g1 b1 k1 p1 => by
  obtain ⟨rfl, rfl⟩ := p1
  cases k1
  exact ⟨false, rfl, iteF (h2 σ F1 H1 (a.mono g1.ext) b1 g1.sub (e.step g1) Q fun w F2 H2 d2 O2 g2 b2 k2 p2 => q w F2 H2 d2 O2 (g1.trans g2) b2 k2 p2)⟩
def isNon : Dt → Bool | .non => true | _ => false
theorem non_dec {F : Hp} {v : V} (k : Dat K F v d) : decide (v = V.non) = isNon d := by cases k <;> simp [isNon]
theorem opd_notN : OpD K E Ψ (fun x y H Q => y = .non ∧ Q (.bl (!decide (x = .non))) H) d .non O (ex (.bl (!isNon d)) O) := opd_val fun F H v u b c k1 k2 => by
  cases k2
  rw [← non_dec k1]
  exact ⟨_, .bl _, fun Q q => ⟨rfl, q⟩⟩
theorem opd_isN : OpD K E Ψ (fun x y H Q => y = .non ∧ Q (.bl (decide (x = .non))) H) d .non O (ex (.bl (isNon d)) O) := opd_val fun F H v u b c k1 k2 => by
  cases k2
  rw [← non_dec k1]
  exact ⟨_, .bl _, fun Q q => ⟨rfl, q⟩⟩
end
/-- what stands at a method's name, by its promise -/
structure HasM (P : Program) (w : World) (K : PySem.W.Frag) (mg : Str → Option Value) (base : Heap) (CX : CXT) (k : Nat) (C : Addr) (m : Str) (ps : List Str) (sp : Sp) : Prop where
  ex : ∃ f fd, FnOk P w K mg base CX k f fd ps sp ∧ Binds K fd ps [] ∧ Meth K C m f
/-- .. a class, by its __init__'s -/
structure HasI (P : Program) (w : World) (K : PySem.W.Frag) (mg : Str → Option Value) (base : Heap) (CX : CXT) (k : Nat) (C : Addr) (x : Str) (ps : List Str) (sp : Sp) : Prop where
  ex : ∃ f fd, FnOk P w K mg base CX k f fd ps sp ∧ Binds K fd ps [] ∧ Mk K C f ∧ mg x = some (.ref C)
/-- a method's text -/
structure MethAt (K : PySem.W.Frag) (C : Addr) (m qual : Str) (st : Stmt) (ps : List Str) : Prop where
  ex : ∃ f fd, Fun K m qual st f fd ∧ Binds K fd ps [] ∧ Meth K C m f
structure InitAt (K : PySem.W.Frag) (mg : Str → Option Value) (C : Addr) (x qual : Str) (st : Stmt) (ps : List Str) : Prop where
  ex : ∃ f fd, Fun K "__init__" qual st f fd ∧ Binds K fd ps [] ∧ Mk K C f ∧ mg x = some (.ref C)
section
variable {P : Program} {w : World} {K : PySem.W.Frag} {mg : Str → Option Value} {base : Heap} {CX : CXT}
theorem fnOk_of {x qual : Str} {st : Stmt} {N ps : List Str} {k : Nat} {pre : Pre} {f : Addr} {fd : FuncData} (F : Fun K x qual st f fd) (S : FnScope N ps (defScope st)) (hlen : ∀ ds O Φ Ψ, pre ds O Φ Ψ → ds.length = ps.length)
    (hbody : ∀ (f : Addr) (cdv : Value) (A : Around) (outer : List Env) (s : Shared) (H : Hp) (E : XK), Room k (A.deeper (envOfC qual (defScope st) s.heap.objs.size f cdv)) →
      ∃ t, PSs (cxOf CX0 P w K mg base N qual (defScope st) f cdv A outer s H E).nox (defBody st) t ∧ ∀ ds O Φ Ψ, pre ds O Φ Ψ → Sv K E Ψ t (startD N.length ds) O { nx := fun _ O' => Φ .non O', rt := Φ }) : FnOk P w K mg base CX0 (k + 1) f fd ps (mkSp K pre) := by
  refine F.ok S ?_ ?_
  · rintro vs H Q E ⟨F', ds, O, Φ, Ψ, l, _, _, h, _⟩
    rw [l.length]
    exact hlen ds O Φ Ψ h
  · rintro cdv A outer s H vs Q E hr ⟨F', ds, O, Φ, Ψ, l, ow, ex', h, hx, q⟩
    obtain ⟨t, ht, hsv⟩ := hbody f cdv A outer s H E hr
    refine ⟨t, ht, hsv ds O Φ Ψ h _ F' H _ (env_start l) ow ex' hx ⟨fun σ' F2 H2 Δ' O' g b2 a2 p => ?_, fun v F2 H2 d O' g b2 k2 p => q v F2 H2 d O' g b2 k2 p, fun _ _ _ _ _ _ _ _ z => z.elim, fun _ _ _ _ _ _ _ _ z => z.elim⟩⟩
    exact q .non F2 H2 .non O' g b2 .non p
theorem hasM_of {C : Addr} {m qual : Str} {st : Stmt} {N ps : List Str} {k : Nat} {pre : Pre} (D : MethAt K C m qual st ps) (S : FnScope N ps (defScope st)) (hlen : ∀ ds O Φ Ψ, pre ds O Φ Ψ → ds.length = ps.length)
    (hbody : ∀ (f : Addr) (cdv : Value) (A : Around) (outer : List Env) (s : Shared) (H : Hp) (E : XK), Room k (A.deeper (envOfC qual (defScope st) s.heap.objs.size f cdv)) →
      ∃ t, PSs (cxOf CX0 P w K mg base N qual (defScope st) f cdv A outer s H E).nox (defBody st) t ∧ ∀ ds O Φ Ψ, pre ds O Φ Ψ → Sv K E Ψ t (startD N.length ds) O { nx := fun _ O' => Φ .non O', rt := Φ }) : HasM P w K mg base CX0 (k + 1) C m ps (mkSp K pre) := by
  obtain ⟨f, fd, F, b, hm⟩ := D.ex
  exact ⟨f, fd, fnOk_of F S hlen hbody, b, hm⟩
theorem hasI_of {C : Addr} {x qual : Str} {st : Stmt} {N ps : List Str} {k : Nat} {pre : Pre} (D : InitAt K mg C x qual st ps) (S : FnScope N ps (defScope st)) (hlen : ∀ ds O Φ Ψ, pre ds O Φ Ψ → ds.length = ps.length)
    (hbody : ∀ (f : Addr) (cdv : Value) (A : Around) (outer : List Env) (s : Shared) (H : Hp) (E : XK), Room k (A.deeper (envOfC qual (defScope st) s.heap.objs.size f cdv)) →
      ∃ t, PSs (cxOf CX0 P w K mg base N qual (defScope st) f cdv A outer s H E).nox (defBody st) t ∧ ∀ ds O Φ Ψ, pre ds O Φ Ψ → Sv K E Ψ t (startD N.length ds) O { nx := fun _ O' => Φ .non O', rt := Φ }) : HasI P w K mg base CX0 (k + 1) C x ps (mkSp K pre) := by
  obtain ⟨f, fd, F, b, hm, hg⟩ := D.ex
  exact ⟨f, fd, fnOk_of F S hlen hbody, b, hm, hg⟩
end
section
variable {X : Cx} {CX : CXT} {k : Nat} {C : Addr} {ps : List Str} {sp : Sp} {E : XK} {x m : Str} {p pos apos : Pos} {e o : Expr} {es : List Expr} {t : TA} {ta : TE} {pl : Sem Bool}
theorem pe_hasI (h : HasI X.prog X.w X.K X.mg X.base CX k C x ps sp) (hr : Room (k + 1) X.A) (hg : Gl X x) (hx : Passes CX X E) (ha : PA X (e :: es) t)
    (hd : (x == ("__debug__" : Str)) = false := by decide) (he : starEach (e :: es) X.env = (false, eval e X.env) :: starEach es X.env := by rfl)
    (hpl : (backTo pos (starEach es X.env)).any (·.1) = false := by rfl) : PE X (.Call (.Name x p) (e :: es) [] pos) (tMake C sp [] E t) := by
  obtain ⟨f, fd, F, b, M, hm⟩ := h.ex
  exact pe_make M F hr hg hm b .nil hx ha hd he hpl
theorem pe_hasM (he : PE X o ta) (c : Cls X.K C) (h : HasM X.prog X.w X.K X.mg X.base CX k C m ps sp) (hr : Room k X.A) (hx : Passes CX X E) (ha : PA X (e :: es) t)
    (hst : starEach (e :: es) X.env = (false, eval e X.env) :: starEach es X.env := by rfl) (hpl : (backTo pos (starEach es X.env)).any (·.1) = false := by rfl)
    (hev : eval ((o.Attribute m apos).Call (e :: es) [] pos) X.env = (do
      let ov ← eval o X.env
      standAt apos.atName
      let (f, first) ← holding [ov] (getMethod ov m pl)
      callWith pos f first (backTo pos (starEach (e :: es) X.env)) (backToKw pos (keywordEach [] X.env))) := by rfl) : PE X (.Call (.Attribute o m apos) (e :: es) [] pos) (tMeth C m sp [] E ta t) := by
  obtain ⟨f, fd, F, b, M⟩ := h.ex
  exact pe_meth he c M F hr b .nil hx ha hst hpl hev
theorem pe_hasM0 (he : PE X o ta) (c : Cls X.K C) (h : HasM X.prog X.w X.K X.mg X.base CX k C m ps sp) (hr : Room k X.A) (hx : Passes CX X E)
    (hev : eval ((o.Attribute m apos).Call [] [] pos) X.env = (do
      let ov ← eval o X.env
      standAt apos.atName
      let (f, first) ← holding [ov] (getMethod ov m pl)
      callWith pos f first (backTo pos (starEach [] X.env)) (backToKw pos (keywordEach [] X.env))) := by rfl) : PE X (.Call (.Attribute o m apos) [] [] pos) (tMeth C m sp [] E ta tNil) := by
  obtain ⟨f, fd, F, b, M⟩ := h.ex
  exact pe_meth0 he c M F hr b .nil hx hev
end
end FF
set_option Elab.async false
set_option linter.all false
set_option maxRecDepth 100000
set_option maxHeartbeats 1000000
namespace FF
open PySem PySem.Spec PyProof.Rows L2
open Evl (Ex sz_of sz_lt fresh_back)
section
variable {K : PySem.W.Frag} {E E' : XK} {Ψ : XPost} {F F' F1 F2 H H' H1 H2 : Hp} {O O' O1 O2 R : Own} {σ : L2.St} {Δ : Env_} {D : Ends} {P : Post}
variable {te ta tb tc to ti tv : TE} {tt : TT} {tas ts : TA} {Φ Φ' : Dt → Own → Prop} {d x y z : Dt} {ds es : List Dt} {r : R2} {t u t' : TS} {C p : Addr} {ks : List (Key × Dt)}
theorem hu1 {k : Nat} {A : Around} (hr : Room k A) : A.units + 1 < cLine := by have := hr.un; omega
/-! an owned dict, locked for a while -/
theorem DatK.length {kvs : List (Key × V)} (h : DatK K F kvs ks) : kvs.length = ks.length := by
  induction ks generalizing kvs with
  | nil => cases h; rfl
  | cons a ks ih => cases h with | cons h l => simp [ih l]
theorem keyD_dat {k : Key} : Dat K F (kV k) (keyD k) := by cases k <;> constructor
/-! a dict's entry stored -/
def putD (ks : List (Key × Dt)) (k : Key) (d : Dt) : List (Key × Dt) := if (ks.any fun w => decide (w.1 = k)) = true then ks.map fun w => if w.1 = k then (w.1, d) else w else ks ++ [(k, d)]
theorem DatK.keys {kvs : List (Key × V)} (h : DatK K F kvs ks) : kvs.map (·.1) = ks.map (·.1) := by
  induction ks generalizing kvs with
  | nil => cases h; rfl
  | cons a ks ih => cases h with | cons h l => simp [ih l]
theorem DatK.put {kvs : List (Key × V)} {k : Key} {v : V} (h : DatK K F kvs ks) (hv : Dat K F v d) : DatK K F (L2.putK kvs k v) (putD ks k d) := by
  have e : (kvs.any fun w => decide (w.1 = k)) = (ks.any fun w => decide (w.1 = k)) := by
    have q := h.keys
    have e1 : (kvs.any fun w => decide (w.1 = k)) = (kvs.map (·.1)).any fun w => decide (w = k) := by rw [List.any_map]; rfl
    have e2 : (ks.any fun w => decide (w.1 = k)) = (ks.map (·.1)).any fun w => decide (w = k) := by rw [List.any_map]; rfl
    rw [e1, e2, q]
  unfold L2.putK putD
  rw [e]
  split
  · have mp : ∀ {ws : List (Key × V)} {js : List (Key × Dt)}, DatK K F ws js → DatK K F (ws.map fun w => if w.1 = k then (w.1, v) else w) (js.map fun w => if w.1 = k then (w.1, d) else w) := fun {ws js} hh => by
      induction js generalizing ws with
      | nil => cases hh; exact .nil
      | cons a js ih =>
        cases hh with
        | cons h l =>
          simp only [List.map_cons]
          split
          · exact .cons hv (ih l)
          · exact .cons h (ih l)
    exact mp h
  · have app : ∀ {ws : List (Key × V)} {js : List (Key × Dt)}, DatK K F ws js → DatK K F (ws ++ [(k, v)]) (js ++ [(k, d)]) := fun {ws js} hh => by
      induction js generalizing ws with
      | nil => cases hh; exact .cons hv .nil
      | cons a js ih => cases hh with | cons h l => exact .cons h (ih l)
    exact app h
/-- list(d) of an owned dict -/
theorem cad_listD (m : (p, Ow.dic ks) ∈ O) : CaD K E Ψ L2.rListD [.ref p] O (nwl (ks.map fun w => keyD w.1) O) := cad_new fun F H vs b c k => by
  cases k with
  | cons k l =>
    cases l; cases k
    obtain ⟨_, kvs, hp, l⟩ := b.at_ p _ m
    refine ⟨kvs.map fun w => kV w.1, ?_, fun Q q => ⟨p, kvs, rfl, hp, q⟩⟩
    have e : kvs.map (fun w => kV w.1) = (kvs.map (·.1)).map kV := by rw [List.map_map]; rfl
    have e2 : ks.map (fun w => keyD w.1) = (ks.map (·.1)).map keyD := by rw [List.map_map]; rfl
    rw [e, e2, l.keys]
    induction ks.map (·.1) with
    | nil => exact .nil
    | cons a r ih => exact .cons keyD_dat ih
end
end FF
set_option Elab.async false
set_option linter.all false
set_option maxRecDepth 100000
set_option maxHeartbeats 1000000
namespace FF
open PySem PySem.Spec PyProof.Rows L2
open Evl (Ex sz_of sz_lt fresh_back)
/-! sorting data, any number of it -/
def leD (x y : Dt) : Bool := PySem.W.dataLe false Dt.py x y
def sortD (ds : List Dt) : List Dt := ds.mergeSort leD
structure SoOk (ds : List Dt) : Prop where
  ok : okL ds = true
  al : PySem.W.AllAlike (pyL ds)
  so : PySem.W.Sortable (pyL ds)
  dep : ∀ d ∈ ds, d.py.depth ≤ 60
def rSortD (K : PySem.W.Frag) : List V → Hp → VK → Prop := fun xs H Q => ∃ a zs ds F, xs = [.ref a] ∧ SqL K H a zs ∧ DatL K F zs ds ∧ Ex F H ∧ SoOk ds ∧
  ∀ p ys, DatL K F ys (sortD ds) → H p = none → Q (.ref p) (upd H p (.lst ys))
section
variable {K : PySem.W.Frag} {F H : Hp}
theorem zipD {zs : List V} {ds : List Dt} (l : DatL K F zs ds) : ∀ b ∈ zs.zip ds, Dat K F b.1 b.2 := by
  induction ds generalizing zs with
  | nil => cases l; simp
  | cons d ds ih =>
    cases l with
    | cons a b =>
      intro q m
      rw [List.zip_cons_cons] at m
      rcases List.mem_cons.mp m with rfl | m
      · exact a
      · exact ih b q m
theorem unzipD : ∀ {bs : List (V × Dt)}, (∀ b ∈ bs, Dat K F b.1 b.2) → DatL K F (bs.map (·.1)) (bs.map (·.2))
  | [], _ => .nil
  | b :: bs, h => .cons (h b (List.mem_cons_self ..)) (unzipD fun q m => h q (List.mem_cons_of_mem _ m))
theorem snds {zs : List V} {ds : List Dt} (l : DatL K F zs ds) : (zs.zip ds).map (·.2) = ds := by
  induction ds generalizing zs with
  | nil => cases l; rfl
  | cons d ds ih => cases l with | cons a b => simp [ih b]
theorem each_vals {zs : List V} {us : List Value} {ds : List Dt} (r : Vals zs us) (l : DatL K F zs ds) {R : Value → V × Dt → Prop} (h : ∀ u v d, v ∈ zs → d ∈ ds → RelV v u → Dat K F v d → R u (v, d)) : PySem.W.EachIs R us (zs.zip ds) := by
  induction ds generalizing zs us with
  | nil => cases l; cases r; exact .nil
  | cons d ds ih =>
    cases l with
    | cons a b =>
      cases r with
      | cons q r =>
        exact .cons (h _ _ _ (List.mem_cons_self ..) (List.mem_cons_self ..) q a) (ih r b fun u v d m1 m2 => h u v d (List.mem_cons_of_mem _ m1) (List.mem_cons_of_mem _ m2))
theorem vals_each : ∀ {us : List Value} {bs : List (V × Dt)}, PySem.W.EachIs (fun u b => RelV b.1 u) us bs → Vals (bs.map (·.1)) us
  | _, _, .nil => .nil
  | _, _, .cons a b => .cons a (vals_each b)
end
theorem call_sortD {X : Cx} (hu : X.A.units + 100 < cLine) : CallR X (.builtin "sorted") (rSortD X.K) := by
  intro pins s σ H xs us Q I r h
  obtain ⟨a, zs, ds, F, rfl, sq, l, e, so, q⟩ := h
  obtain ⟨u, rfl, rx⟩ := vals1 r
  cases rx
  obtain ⟨its, rv, pl, hl⟩ := I.list sq
  have hok : ∀ d ∈ ds, d.ok = true := fun d m => by
    have := so.ok
    rw [okL_all] at this
    exact List.all_eq_true.mp this d m
  have henc : (zs.zip ds).map (fun b => b.2.py) = pyL ds := by
    rw [pyL_map]
    conv => rhs; rw [← snds l]
    rw [List.map_map]
    rfl
  have hlen : (zs.zip ds).length = zs.length := by
    have := l.length
    rw [List.length_zip]
    omega
  refine PySem.W.sorted_data (bs := zs.zip ds) (enc := fun b => b.2.py) (R := fun u b => RelV b.1 u) pl.isList (each_vals rv l fun u v d _ _ h1 _ => h1) (each_vals rv l fun u v d _ m h1 h2 => Dp.reads I d.py v u (Dat.dp e d h2 (hok d m)) h1) (by rw [henc]; exact so.al) (by rw [henc]; exact so.so) (by rw [hlen]; exact hl) (fun b m => ?_) fun out ho he => ?_
  · have := so.dep b.2 (List.of_mem_zip m).2
    show X.A.units + 2 + b.2.py.depth < cLine
    omega
  · let ps := (zs.zip ds).mergeSort (PySem.W.dataLe false fun b => b.2.py)
    have hd : DatL X.K F (ps.map (·.1)) (ps.map (·.2)) := unzipD fun b m => zipD l b (List.mem_mergeSort.mp m)
    have hs : ps.map (·.2) = sortD ds := by
      have := PySem.W.sort_maps (r := PySem.W.dataLe false fun b : V × Dt => b.2.py) (s := leD) (fun b => b.2) (l := zs.zip ds) (fun a _ b _ => rfl)
      rw [snds l] at this
      exact this
    rw [hs] at hd
    obtain ⟨c, hc⟩ := PyProof.Rows.sortedAll_at s.heap its out.toArray
    refine ⟨.ref (s.heap.objs.size + 1), _, I.laid (fun b o hb => PyProof.Rows.sortedAll_old hb) (Nat.le_succ _) ?_, rfl, q _ _ hd (I.hok.fresh (Nat.le_succ _))⟩
    refine ⟨?_, out, c, vals_each he, hc⟩
    rw [List.length_map, List.length_mergeSort, hlen]
    exact hl
section
variable {K : PySem.W.Frag} {E E' : XK} {Ψ : XPost} {O : Own} {ds : List Dt} {x : Dt}
theorem cad_sortD (hs : LstOf O x ds) (so : SoOk ds) : CaD K E Ψ (rSortD K) [x] O (nwl (sortD ds) O) := fun F H vs b c e k Q q => by
  cases k with
  | cons k l =>
    cases l
    obtain ⟨a, xs, rfl, h, l⟩ := hs.read b c k
    exact ⟨a, xs, ds, F, rfl, .of h, l, c, so, fun p ys hy hp => q _ F _ (.ref p) ((p, .lst (sortD ds)) :: O) (Gw.newOwn c hp) (b.newOwn c hp ⟨ys, upd_same, hy⟩) (.ref p) ⟨p, rfl, rfl⟩⟩
theorem sortD_perm : (sortD ds).Perm ds := List.mergeSort_perm ..
end
/-! ints -/
theorem leD_int {i j : Int} : leD (.int i) (.int j) = decide (i ≤ j) := by
  have := congrFun (congrFun (PySem.W.dataLe_int (β := Int) fun i => i) i) j
  exact this
theorem sortD_ints (ns : List Int) : sortD (ns.map .int) = (ns.mergeSort fun a b => decide (a ≤ b)).map .int := by
  unfold sortD
  exact (PySem.W.sort_maps (r := fun a b => decide (a ≤ b)) (s := leD) Dt.int fun a _ b _ => leD_int.symm).symm
theorem so_ints (ns : List Int) : SoOk (ns.map .int) := by
  have hm : ∀ x ∈ pyL (ns.map Dt.int), ∃ i, x = .int i := fun x m => by
    rw [pyL_map, List.map_map] at m
    obtain ⟨i, _, rfl⟩ := List.mem_map.mp m
    exact ⟨i, rfl⟩
  refine ⟨?_, fun d m d' m' => ?_, .inr fun d m => ?_, fun d m => ?_⟩
  · rw [okL_all]
    simp [Dt.ok]
  · obtain ⟨i, rfl⟩ := hm d m
    obtain ⟨j, rfl⟩ := hm d' m'
    rfl
  · obtain ⟨i, rfl⟩ := hm d m
    exact ⟨by simp, by simp⟩
  · obtain ⟨i, _, rfl⟩ := List.mem_map.mp m
    exact Nat.zero_le _
end FF
set_option Elab.async false
set_option linter.all false
set_option maxRecDepth 100000
set_option maxHeartbeats 1000000
namespace FF
open PySem PySem.Spec PyProof.Rows L2
open Evl (Ex sz_of sz_lt fresh_back)
/-! sorted of anything that can be collected -/
theorem sorted_from {prog : Program} {w : World} {A : Around} {E : Value → Shared → Prop} {s : Shared} {src : Value} {Q : Value → Shared → Prop}
    (hc : wpAny (model prog w) A.in1 (collect src) (fun vs s' => vs.length ≤ sizeLine ∧
      ∀ h, h = s'.heap.push { cls := Value.type "list", data := Data.seq vs.toArray } → wpAny (model prog w) A.in1 (call (.builtin "list.sort") [.ref s'.heap.objs.size]) (fun _ s2 => Q (.ref s'.heap.objs.size) s2) E { s' with heap := h }) E s) :
    wpAny (model prog w) A (call (.builtin "sorted") [src]) Q E s := by
  refine PySem.Calls.call_function_entry PyProof.Rows.kind_sorted PyProof.Rows.plain_sorted PyProof.Rows.entry_sorted (PyProof.Rows.args_sorted1 _) ?_
  unfold Builtin.sorted
  refine wpAny_bind (wpAny_pure ?_)
  refine wpAny_bind (thn hc ?_)
  rintro vs s' ⟨hl, q⟩
  refine wpAny_bind (wpAny_newList ?_ hl)
  refine wpAny_bind (wpAny_holding ?_)
  refine thn (q _ rfl) ?_
  intro _ s2 hq
  exact wpAny_pure ⟨_, rfl, hq⟩
/-- sorted(d), d with whole numbers as its keys -/
def rSortK : List V → Hp → VK → Prop := fun xs H Q => ∃ a kvs, ∃ is : List Int, xs = [.ref a] ∧ L2.Rd H a (.dK kvs) ∧ kvs.map (·.1) = is.map Sum.inl ∧
  ∀ p, H p = none → Q (.ref p) (upd H p (.lst ((is.mergeSort fun a b => decide (a ≤ b)).map V.int)))
theorem each_ints : ∀ {us : List Value} {is : List Int}, IntsAre us is → PySem.W.EachIs (fun u i => ∃ t, u = Value.int i t) us is
  | _, _, .nil => .nil
  | _, _, .cons _ t h => .cons ⟨t, rfl⟩ (each_ints h)
theorem vals_ints : ∀ {us : List Value} {is : List Int}, PySem.W.EachIs (fun u i => ∃ t, u = Value.int i t) us is → Vals (is.map V.int) us
  | _, _, .nil => .nil
  | _, _, .cons h b => .cons h (vals_ints b)
theorem call_sortK {X : Cx} (hc : X.calm = true) (hu : X.A.units + 100 < cLine) : CallR X (.builtin "sorted") rSortK := by
  intro pins s σ H xs us Q I r h
  obtain ⟨a, kvs, is, rfl, rd, hk, q⟩ := h
  obtain ⟨u, rfl, rx⟩ := vals1 r
  cases rx
  obtain ⟨hl, ns, vs, kv, dof⟩ := L2.dk_rd I.hok rd
  obtain ⟨ep, dat⟩ := dof.dictAt
  have kk := kv.keys
  have ln : vs.length = is.length := by
    have := congrArg List.length kk
    have t := congrArg List.length hk
    simp only [List.length_map] at this t
    omega
  have ln2 : vs.length ≤ sizeLine := by
    have := congrArg List.length kk
    simp only [List.length_map] at this
    omega
  refine sorted_from ?_
  refine PySem.W.kdu_collect (PySem.W.kdl_dict ns) (I.ok.hd hc) dat ln2 ?_
  intro h' tk acc hkeep hit
  have hacc : IntsAre acc.toList is := by
    refine L2.ints_each (by rw [Array.length_toList, hit.1, ln]) fun j v hv => ?_
    obtain ⟨k, x, hkx, hi⟩ := hit.2 j v (by rw [← Array.getElem?_toList]; exact hv)
    have h1 : (vs.map (·.1))[j]? = some k := by rw [List.getElem?_map, hkx]; rfl
    rw [← kk, hk, List.getElem?_map] at h1
    cases hj : is[j]? with
    | none => rw [hj] at h1; cases h1
    | some i =>
      rw [hj] at h1
      cases h1
      rcases L2.keyIs_shape (show L2.keyIs (.inl i) v = true from hi) with ⟨i2, t, e1, e2⟩ | ⟨x2, t, e1, e2⟩
      · cases e1
        exact ⟨_, t, rfl, e2⟩
      · cases e1
  have hlen : acc.toList.length = is.length := by rw [Array.length_toList, hit.1, ln]
  refine ⟨by omega, ?_⟩
  rintro h rfl
  have hall : ∀ x ∈ is.map PyData.int, ∃ i, x = .int i := fun x m => by
    obtain ⟨i, _, rfl⟩ := List.mem_map.mp m
    exact ⟨i, rfl⟩
  have hget : (h'.push { cls := Value.type "list", data := Data.seq acc.toList.toArray }).get? h'.objs.size = some (seqObj "list" acc.toList.toArray 0) := PySem.Heap.get?_push_size _ rfl
  refine PySem.W.list_sort_data (bs := is) (enc := PyData.int) (R := fun u i => ∃ t, u = Value.int i t) hget (each_ints hacc) ((each_ints hacc).mono fun u i ⟨t, e⟩ => ⟨[], by rw [e]; exact .int i t, by simp⟩) (fun d m d' m' => ?_) (.inr fun d m => ?_) (by omega) (fun b _ => ?_) fun out ho he => ?_
  · obtain ⟨i, rfl⟩ := hall d m
    obtain ⟨j, rfl⟩ := hall d' m'
    rfl
  · obtain ⟨i, rfl⟩ := hall d m
    exact ⟨by simp, by simp⟩
  · show X.A.units + 1 + 1 + 0 < cLine
    omega
  · have he' : Vals ((is.mergeSort fun a b => decide (a ≤ b)).map V.int) out := by
      have e : PySem.W.dataLe false PyData.int = fun a b : Int => decide (a ≤ b) := PySem.W.dataLe_int (fun i : Int => i)
      rw [e] at he
      exact vals_ints he
    obtain ⟨c, hc2⟩ := PyProof.Rows.sortedHeap_at (out := out.toArray) hget
    have I' := I.kept (t' := tk) hkeep
    have old : ∀ (b : Addr) (o : Obj), h'.get? b = some o → (sortedHeap (h'.push { cls := Value.type "list", data := Data.seq acc.toList.toArray }) h'.objs.size acc.toList out.toArray).get? b = some o := fun b o h1 => by
      have h2 := PySem.Heap.lt_size h1
      rw [PyProof.Rows.sortedHeap_old (Nat.ne_of_lt h2) (by rw [PySem.Heap.size_push]; exact Nat.lt_succ_of_lt h2)]
      exact PySem.Heap.get?_push_of_some _ h1
    refine ⟨.ref h'.objs.size, _, I'.laid old (Nat.le_refl _) ?_, rfl, q _ (I'.hok.fresh (Nat.le_refl _))⟩
    exact ⟨by rw [List.length_map, List.length_mergeSort]; omega, out, c, he', hc2⟩
section
variable {K : PySem.W.Frag} {E E' : XK} {Ψ : XPost} {F F' H H' : Hp} {O O' O1 R : Own} {Δ : Env_} {te : TE} {Φ Φ' : Dt → Own → Prop} {p : Addr} {ks : List (Key × Dt)} {P : Post}
theorem cad_sortK {is : List Int} (m : (p, Ow.dic ks) ∈ O) (hk : ks.map (·.1) = is.map Sum.inl) : CaD K E Ψ rSortK [.ref p] O (nwl ((is.mergeSort fun a b => decide (a ≤ b)).map .int) O) := fun F H vs b c e k Q q => by
  cases k with
  | cons k l =>
    cases l; cases k
    obtain ⟨_, kvs, hp, l⟩ := b.at_ p _ m
    exact ⟨p, kvs, is, rfl, .inl hp, l.keys.trans hk, fun z hz => q _ F _ (.ref z) ((z, .lst ((is.mergeSort fun a b => decide (a ≤ b)).map .int)) :: O) (Gw.newOwn c hz) (b.newOwn c hz ⟨_, upd_same, .ints⟩) (.ref z) ⟨z, rfl, rfl⟩⟩
/-- what is owned may be forgotten -/
theorem Gw.forget (g : Gw O F H O1 F' H') (s : O'.Sublist O1) : Gw O F H O' F' H' := ⟨g.ext, g.sub, g.keep, g.dom, g.old, fun a m => g.addr a ((s.map _).subset m)⟩
theorem OwnOk.forget (b : OwnOk K F H O1) (s : O'.Sublist O1) : OwnOk K F H O' := ⟨b.nd.sublist (s.map _), fun p o m => b.at_ p o (s.subset m)⟩
theorem ev_forget (h : Ev K E Ψ te Δ O Φ) (k : ∀ d O1, Φ d O1 → ∃ O', O'.Sublist O1 ∧ Φ' d O') : Ev K E Ψ te Δ O Φ' := fun σ F H a b c e Q q => h σ F H a b c e Q fun v F1 H1 d O1 g1 b1 k1 p1 => by
  obtain ⟨O', s, p2⟩ := k d O1 p1
  exact q v F1 H1 d O' (g1.forget s) (b1.forget s) k1 p2
/-- a new dict, owned -/
theorem ev_dnewO : Ev K E Ψ tDNewK Δ O (fun d O' => ∃ q, d = .ref q ∧ O' = (q, .dic []) :: O) := fun σ F H a b c e Q q d hd =>
  q _ F _ (.ref d) ((d, .dic []) :: O) (Gw.newOwn c hd) (b.newOwn c hd ⟨[], upd_same, .nil⟩) (.ref d) ⟨d, rfl, rfl⟩
end
/-! dicts that stand for sets of numbers -/
def setD (ks : List Int) : List (Key × Dt) := ks.map fun k => (.inl k, .bl true)
def putN (ks : List Int) (k : Int) : List Int := if k ∈ ks then ks else ks ++ [k]
theorem putD_setD (ks : List Int) (k : Int) : putD (setD ks) (.inl k) (.bl true) = setD (putN ks k) := by
  have e : ((setD ks).any fun w => decide (w.1 = Sum.inl k)) = decide (k ∈ ks) := by
    unfold setD
    rw [List.any_map]
    induction ks with
    | nil => rfl
    | cons a ks ih =>
      rw [List.any_cons, ih]
      by_cases h : a = k
      · subst h; simp
      · have h' : ¬ k = a := fun z => h z.symm
        simp [h, h']
  unfold putD putN
  rw [e]
  by_cases h : k ∈ ks
  · simp only [h, decide_true, if_true]
    unfold setD
    rw [List.map_map]
    refine List.map_congr_left fun a _ => ?_
    simp only [Function.comp]
    split <;> rfl
  · simp only [h, decide_false, Bool.false_eq_true, if_false]
    simp [setD]
theorem setD_len (ks : List Int) : (setD ks).length = ks.length := by simp [setD]
end FF
set_option Elab.async false
set_option linter.all false
set_option maxRecDepth 100000
set_option maxHeartbeats 1000000
namespace FF
open PySem PySem.Spec PyProof.Rows L2
open Evl (Ex sz_of sz_lt fresh_back)
/-! sets of whole numbers, made of a tuple, and sorted at once -/
def rSetI (K : PySem.W.Frag) (w : World) : List V → Hp → VK → Prop := fun xs H Q => ∃ (p : Addr) (ns : List Int), xs = [.ref p] ∧ SqT K H p (ns.map V.int) ∧ ns.length ≤ 1000 ∧
  ∀ a c, H a = none → c ≤ ns.length → Q (.ref a) (upd H a (L2.SetO w a (fun j => decide (j ∈ ns)) c))
theorem setO_new {P : Program} {w : World} {H : Hp} {h : Heap} {a : Addr} {S : Int → Bool} {n : Nat} (hs : L2.SetR w h a S n) : ObjOk P w H h a (L2.SetO w a S n) := by
  obtain ⟨o, es, ep, t, e, r⟩ := id hs
  exact ⟨hs, ⟨o, e⟩, fun h1 h2 ⟨o, es, ep, t, e, r⟩ k => ⟨o, es, ep, t, k o e, r⟩⟩
theorem call_setI {X : Cx} (hc : X.calm = true) : CallR X (.type "set") (rSetI X.K X.w) := by
  intro pins s σ H xs us Q I r h
  obtain ⟨a, ns, rfl, sq, hl, q⟩ := h
  obtain ⟨u, rfl, rx⟩ := vals1 r
  cases rx
  obtain ⟨its, rv, tup, hl2⟩ := I.tuple sq
  have hsc : ns.length + 1 < scanBound := by
    have : 2000 < scanBound := by decide
    omega
  refine L2.call_set_tupI ns (I.ok.hd hc) (items := its.toArray) tup (L2.ints_of_vals rv) hsc fun h' tk c hs hcl hk => ?_
  exact ⟨.ref s.heap.objs.size, _, I.laid (o := L2.SetO X.w s.heap.objs.size (fun j => decide (j ∈ ns)) c) hk (Nat.le_refl _) (setO_new hs), rfl, q _ _ (I.hok.fresh (Nat.le_refl _)) hcl⟩
section
variable {K : PySem.W.Frag} {w : World} {E E' : XK} {Ψ : XPost} {O : Own} {Δ : Env_} {tas : TA} {ns : List Int} {H F : Hp}
/-- an object that nothing looks at any more -/
theorem Gw.junk {q : Addr} {u : HO} (e : Ex F H) (hq : H q = none) : Gw O F H O F (upd H q u) where
  ext := Ex.refl F
  sub := fun a w h => by rw [upd_ne (ne_of_none (e a w h) hq)]; exact e a w h
  keep := fun a o _ h => by rw [upd_ne (ne_of_none h hq)]; exact h
  dom := fun a h => by
    by_cases ha : a = q
    · subst ha; rw [upd_same]; simp
    · rw [upd_ne ha]; exact h
  old := fun a h _ => rfl
  addr := fun a m => .inl m
theorem OwnOk.junk {q : Addr} {u : HO} (h : OwnOk K F H O) (hq : H q = none) : OwnOk K F (upd H q u) O :=
  ⟨h.nd, fun p o m => ⟨(h.at_ p o m).1, (h.at_ p o m).2.mono (Ex.refl F) fun w z => by rw [upd_ne (ne_of_none z hq)]; exact z⟩⟩
/-- sorted(set(t)), t a tuple of whole numbers -/
theorem ev_sortset (ha : EvA K E Ψ tas Δ O (exl [.tup (ns.map .int)] O)) (hl : ns.length < 64) :
    Ev K E Ψ (tCB (L2.rSortedSet w) (tCons (tCB (rSetI K w) tas) tNil)) Δ O (fun d O' => ∃ q, ∃ ms : List Int, d = .ref q ∧ O' = (q, .lst (ms.map .int)) :: O ∧ ms.Pairwise (· < ·) ∧ ∀ k, k ∈ ms ↔ k ∈ ns) := fun σ F H a b c e Q q =>
  ha σ F H a b c e _ fun vs F1 H1 ds O1 g1 b1 k1 p1 => by
    obtain ⟨rfl, rfl⟩ := p1
    cases k1 with
    | cons k1 l1 =>
      cases l1
      cases k1 with
      | tup hs l =>
        have hv := l.ints_inv
        subst hv
        refine ⟨_, ns, rfl, Evl.ex_t g1.sub hs, by omega, fun z cc hz hcc => ?_⟩
        have g2 := Gw.junk (O := O1) (u := L2.SetO w z (fun j => decide (j ∈ ns)) cc) g1.sub hz
        refine ⟨z, _, cc, rfl, upd_same, by omega, fun ms p h1 h2 _ hp => ?_⟩
        have b2 := b1.junk (u := L2.SetO w z (fun j => decide (j ∈ ns)) cc) hz
        have g3 := Gw.newOwn (O := O1) (o := .lst (ms.map .int)) (u := .lst (ms.map V.int)) g2.sub hp
        have b3 := b2.newOwn (o := .lst (ms.map .int)) (u := .lst (ms.map V.int)) g2.sub hp ⟨_, upd_same, .ints⟩
        exact q _ F1 _ (.ref p) _ ((g1.trans g2).trans g3) b3 (.ref p) ⟨p, ms, rfl, rfl, h1, fun k => by rw [h2]; simp⟩
end
end FF
set_option Elab.async false
set_option linter.all false
set_option maxRecDepth 100000
set_option maxHeartbeats 1000000
namespace FF
open PySem PySem.Spec PyProof.Rows L2
open Evl (Ex sz_of sz_lt fresh_back)
/-! sorting tuples of whole numbers, the empty one too -/
abbrev tupP (ns : List Int) : PyData := .tuple (ns.map .int)
def IsTI (h : Heap) (v : Value) (ns : List Int) : Prop := ∃ a its, v = .ref a ∧ IsTup h a its ∧ IntsAre its.toList ns
theorem readsI {h : Heap} : ∀ {vs : List Value} {ns : List Int}, IntsAre vs ns → ReadsAll h vs (ns.map .int) []
  | _, _, .nil => .nil
  | _, _, .cons n t r => ReadsAll.cons (as := []) (bs := []) (.int n t) (readsI r)
theorem IsTI.reads {h : Heap} {v : Value} {ns : List Int} (t : IsTI h v ns) : Reads h v (tupP ns) [] := by
  obtain ⟨a, its, rfl, ⟨o, e, c, n, d⟩, r⟩ := t
  exact .tuple e c d (readsI r)
theorem al_ints : ∀ (ns ms : List Int), PySem.W.alikeAll (ns.map .int) (ms.map .int) = true
  | [], [] => rfl
  | [], _ :: _ => rfl
  | _ :: _, [] => rfl
  | n :: ns, m :: ms => by
    have := al_ints ns ms
    simp only [List.map_cons, PySem.W.alikeAll, this]
    rfl
theorem al_tups (ns ms : List Int) : PySem.W.alike (tupP ns) (tupP ms) = true := by
  have := al_ints ns ms
  simpa [tupP, PySem.W.alike] using this
theorem first_of {M : Model} {A : Around} {E : Value → Shared → Prop} {prog : Program} {w : World} {s : Shared} {v : Value} {ns : List Int} (t : IsTI s.heap v ns) :
    ∃ f : Option Value, f.isSome = !ns.isEmpty ∧ ∀ {Q : Option Value → Shared → Prop}, Q f s → wpAny (model prog w) A (firstOfTuple' v) Q E s := by
  obtain ⟨a, its, rfl, ⟨o, e, c, n, d⟩, r⟩ := t
  refine ⟨its[0]?, ?_, fun {Q} q => ?_⟩
  · cases ns with
    | nil =>
      have : its.toList = [] := by cases h : its.toList with | nil => rfl | cons x y => rw [h] at r; cases r
      have : its = #[] := by simpa using this
      subst this
      rfl
    | cons x y =>
      cases h : its.toList with
      | nil => rw [h] at r; cases r
      | cons p q =>
        rw [← Array.getElem?_toList, h]
        rfl
  · rw [PySem.W.kas_first_eq]
    refine wpAny_bind (wpAny_typeOf (T := "tuple") ⟨o, e, c⟩ ?_)
    refine wpAny_ite_false (by decide) ?_
    exact wpAny_bind (wpAny_listItems e d (wpAny_pure q))
theorem firsts_of {A : Around} {E : Value → Shared → Prop} {prog : Program} {w : World} {s : Shared} : ∀ {vs : List Value} {nss : List (List Int)}, PySem.W.EachIs (IsTI s.heap) vs nss →
    ∃ fs : List (Option Value), fs.map (·.isSome) = nss.map (fun ns => !ns.isEmpty) ∧ ∀ {Q : List (Option Value) → Shared → Prop}, Q fs s → wpAny (model prog w) A (List.mapM firstOfTuple' vs) Q E s
  | _, _, .nil => ⟨[], rfl, fun {Q} q => by rw [List.mapM_nil]; exact wpAny_pure q⟩
  | _, _, .cons t r => by
    obtain ⟨f, h1, h2⟩ := first_of (M := model prog w) (A := A) (E := E) (prog := prog) (w := w) t
    obtain ⟨fs, h3, h4⟩ := firsts_of r
    refine ⟨f :: fs, by rw [List.map_cons, List.map_cons, h1, h3], fun {Q} q => ?_⟩
    rw [List.mapM_cons]
    exact wpAny_bind (h2 (wpAny_bind (h4 (wpAny_pure q))))
theorem types_of {A : Around} {E : Value → Shared → Prop} {prog : Program} {w : World} {s : Shared} : ∀ {vs : List Value} {nss : List (List Int)}, PySem.W.EachIs (IsTI s.heap) vs nss →
    ∀ {Q : List Value → Shared → Prop}, Q (vs.map fun _ => Value.type "tuple") s → wpAny (model prog w) A (List.mapM typeOf vs) Q E s
  | _, _, .nil, Q, q => by rw [List.mapM_nil]; exact wpAny_pure q
  | _, _, .cons t r, Q, q => by
    obtain ⟨a, its, rfl, ⟨o, e, c, n, d⟩, r2⟩ := t
    rw [List.mapM_cons]
    exact wpAny_bind (wpAny_typeOf (T := "tuple") ⟨o, e, c⟩ (wpAny_bind (types_of r (wpAny_pure q))))
/-- what the sort takes the keys for, if one of them is empty -/
theorem kind_mixed {A : Around} {E : Value → Shared → Prop} {prog : Program} {w : World} {s : Shared} {vs : List Value} {ns : List Int} {nss : List (List Int)} (h : PySem.W.EachIs (IsTI s.heap) vs (ns :: nss)) (he : [] ∈ ns :: nss) {Q : SortKind → Shared → Prop}
    (q : Q (if ns.isEmpty then oneType' else general') s) : wpAny (model prog w) A (keyKind' vs.toArray) Q E s := by
  obtain ⟨fs, h1, h2⟩ := firsts_of (A := A) (E := E) (prog := prog) (w := w) h
  have hall : (fs.all fun x => x.isSome) = false := by
    have e : (fs.all fun x => x.isSome) = ((ns :: nss).map fun ns => !ns.isEmpty).all id := by rw [← h1, List.all_map]; rfl
    rw [e]
    simp only [List.all_eq_false, List.mem_map]
    exact ⟨false, ⟨[], he, rfl⟩, by simp⟩
  have hfirst : (fs.toArray[0]?.bind id).isSome = !ns.isEmpty := by
    cases fs with
    | nil => simp at h1
    | cons f fs =>
      simp only [List.map_cons, List.cons.injEq] at h1
      simpa using h1.1
  have hv : vs ≠ [] := by rintro rfl; cases h
  rw [keyKind'_eq]
  simp only [Array.mapM_eq_mapM_toList, map_eq_pure_bind]
  refine wpAny_bind (wpAny_bind (h2 (wpAny_pure ?_)))
  rw [if_neg (by simpa using (by simpa using hall))]
  cases hn : ns.isEmpty with
  | false =>
    rw [hn] at hfirst
    rw [if_pos (by simpa using hfirst)]
    rw [hn] at q
    exact wpAny_pure (by simpa using q)
  | true =>
    rw [hn] at hfirst q
    rw [if_neg (by simpa using hfirst), oneTypeOnly'_eq]
    simp only [Array.mapM_eq_mapM_toList, map_eq_pure_bind]
    refine wpAny_bind (wpAny_bind (wpAny_bind (types_of h (wpAny_pure ?_))))
    cases vs with
    | nil => exact absurd rfl hv
    | cons v vs =>
      refine wpAny_pure ?_
      have : wpAny (model prog w) A (pure oneType') Q E s := wpAny_pure (by simpa using q)
      simpa using this
theorem IsTI.keep {h h' : Heap} {v : Value} {ns : List Int} (t : IsTI h v ns) (k : ∀ b o, h.get? b = some o → h'.get? b = some o) : IsTI h' v ns := by
  obtain ⟨a, its, rfl, ⟨o, e, c, n, d⟩, r⟩ := t
  exact ⟨a, its, rfl, ⟨o, k _ _ e, c, n, d⟩, r⟩
theorem dataLt_lex (ns ms : List Int) : PySem.W.dataLt (tupP ns) (tupP ms) = HT.lexLt ns ms := by
  rw [PySem.W.dataLt_tuple]
  induction ns generalizing ms with
  | nil => cases ms <;> rfl
  | cons n ns ih =>
    cases ms with
    | nil => rfl
    | cons m ms =>
      have h1 : PyProof.Rows.lexLt PyProof.Rows.itemOrd (PySem.W.keyToksAll ((n :: ns).map .int)) (PySem.W.keyToksAll ((m :: ms).map .int)) = (decide (n < m) || !decide (m < n) && PyProof.Rows.lexLt PyProof.Rows.itemOrd (PySem.W.keyToksAll (ns.map .int)) (PySem.W.keyToksAll (ms.map .int))) := rfl
      rw [h1, ih ms]
      simp only [HT.lexLt]
      by_cases h : n = m
      · subst h; simp
      · by_cases h2 : n < m
        · simp [h, h2]
        · have h3 : m < n := by omega
          simp [h, h2, h3]
theorem lt_one {A : Around} {E : Value → Shared → Prop} {prog : Program} {w : World} {s : Shared} {x y : Value} {ns ms : List Int} (hx : IsTI s.heap x ns) (hy : IsTI s.heap y ms) (hu : A.units + 2 < cLine) {Q : Bool → Shared → Prop} (q : Q (PySem.W.dataLt (tupP ns) (tupP ms)) s) :
    wpAny (model prog w) A (oneLt' true x y) Q E s := by
  obtain ⟨a, its, rfl, ⟨o, e, c, n, d⟩, r⟩ := hx
  obtain ⟨b, its2, rfl, ⟨o2, e2, c2, n2, d2⟩, r2⟩ := hy
  rw [oneLt'_eq]
  simp only [if_true]
  refine wpAny_bind (wpAny_cRoomFor (by omega) ?_)
  refine wpAny_bind (wpAny_callSpecialIfBound?_slot (T := "tuple") ⟨o, e, c⟩ PySem.F.slot_tuple_lt ?_)
  obtain ⟨oc, od, odt, osl⟩ := o
  obtain ⟨oc2, od2, odt2, osl2⟩ := o2
  simp only at c d c2 d2
  subst c d c2 d2
  refine PySem.call_meets PySem.F.slot_tuple_lt ⟨_, e, rfl⟩ PySem.F.entry_tuple_lt (PySem.F.args_tuple_lt_2 _ _) (HT.tuple_lt_ints a b its its2 n n2 _ _ _ _ ns ms r r2) ⟨e, e2, ?_⟩
  show wpAny (model prog w) A (truthOfDropped (.bool (HT.lexLt ns ms))) Q E s
  unfold truthOfDropped
  exact wpAny_truthy_bool (by rw [← dataLt_lex]; exact q)
theorem each_mem {α β : Type} {R : α → β → Prop} : ∀ {as : List α} {bs : List β}, PySem.W.EachIs R as bs → ∀ a ∈ as, ∃ b ∈ bs, R a b
  | _, _, .nil, _, m => by simp at m
  | _, _, .cons h r, a, m => by
    rcases List.mem_cons.mp m with rfl | m
    · exact ⟨_, List.mem_cons_self .., h⟩
    · obtain ⟨b, mb, hb⟩ := each_mem r a m
      exact ⟨b, List.mem_cons_of_mem _ mb, hb⟩
theorem each_pl {h : Heap} : ∀ {vs : List Value} {nss : List (List Int)}, PySem.W.EachIs (IsTI h) vs nss → PySem.W.EachIs (fun v d => ∃ as, Reads h v d as) vs (nss.map tupP)
  | _, _, .nil => .nil
  | _, _, .cons t r => .cons ⟨_, t.reads⟩ (each_pl r)
theorem all_al (nss : List (List Int)) : PySem.W.AllAlike (nss.map tupP) := fun d m d' m' => by
  obtain ⟨ns, _, rfl⟩ := List.mem_map.mp m
  obtain ⟨ms, _, rfl⟩ := List.mem_map.mp m'
  exact al_tups ns ms
theorem dep_tup (ns : List Int) : (tupP ns).depth ≤ 1 := by
  have : PyData.depthAll (ns.map .int) = 0 := by
    induction ns with
    | nil => rfl
    | cons a b ih => simp [PyData.depthAll, ih, PyData.depth]
  simp [tupP, PyData.depth, this]
theorem reads_ints {h : Heap} : ∀ (us : List Value) (ns : List Int) (as : List Addr), ReadsAll h us (ns.map .int) as → IntsAre us ns
  | [], [], _, _ => .nil
  | [], _ :: _, _, r => by cases r
  | _ :: _, [], _, r => by cases r
  | u :: us, n :: ns, _, r => by
    cases r with
    | cons a b =>
      cases a with
      | int i t => exact .cons n t (reads_ints us ns _ b)
/-- the value that reads as d is one of ours -/
theorem read_inv {h : Heap} {v : Value} {ns : List Int} {as : List Addr} (r : Reads h v (tupP ns) as) : IsTI h v ns := by
  cases r with
  | tuple e c d l =>
    rename_i a o vs n
    exact ⟨a, vs, rfl, ⟨o, e, c, n, d⟩, reads_ints vs.toList ns _ l⟩
theorem sorts_ints {prog : Program} {w : World} {A : Around} {s : Shared} {vs : List Value} {nss : List (List Int)} (h : PySem.W.EachIs (IsTI s.heap) vs nss) (hu : A.units + 4 < cLine) : PySem.W.SortsAt prog w A s (PySem.W.dataKind s.heap (nss.map tupP)) vs := by
  by_cases he : [] ∈ nss
  · refine ⟨fun v m => ?_, ?_⟩
    · obtain ⟨ns, mn, t⟩ := each_mem h v m
      exact ⟨_, PySem.W.dataKind_some (all_al nss) (List.mem_map.mpr ⟨ns, mn, rfl⟩) t.reads⟩
    · cases nss with
      | nil => simp at he
      | cons ns nss =>
        refine ⟨if ns.isEmpty then oneType' else general', fun E x y a b Q hx hy q => ?_, fun _ E Q q => kind_mixed h he q⟩
        obtain ⟨d, as, hd, rd, rfl⟩ := PySem.W.dataKind_inv hx
        obtain ⟨d', as', hd', rd', rfl⟩ := PySem.W.dataKind_inv hy
        obtain ⟨ns1, _, rfl⟩ := List.mem_map.mp hd
        obtain ⟨ns2, _, rfl⟩ := List.mem_map.mp hd'
        have t1 := read_inv rd
        have t2 := read_inv rd'
        cases ns.isEmpty with
        | true =>
          show wpAny (model prog w) A (keyLt' oneType' x y) Q E s
          rw [keyLt'_oneType]
          exact lt_one t1 t2 (by omega) q
        | false =>
          show wpAny (model prog w) A (oneLt' false x y) Q E s
          have d1 := dep_tup ns1
          exact PySem.W.oneLt_alike (f := false) (by simp) rd rd' (al_tups ns1 ns2) (by simp) (by have := Nat.min_le_left (tupP ns1).depth (tupP ns2).depth; omega) q
  · refine PySem.W.SortsAt.data (each_pl h) (all_al nss) (.inl fun d m => ?_) fun d m => ?_
    · obtain ⟨ns, mn, rfl⟩ := List.mem_map.mp m
      cases ns with
      | nil => exact absurd mn he
      | cons a b => exact ⟨_, _, rfl⟩
    · obtain ⟨ns, mn, rfl⟩ := List.mem_map.mp m
      have := dep_tup ns
      omega
end FF
set_option Elab.async false
set_option linter.all false
set_option maxRecDepth 100000
set_option maxHeartbeats 1000000
namespace FF
open PySem PySem.Spec PyProof.Rows L2
open Evl (Ex sz_of sz_lt fresh_back)
/-! sets of tuples of whole numbers, sorted -/
theorem perm_map_inv {α β : Type} {f : α → β} {out xs : List β} (h : out.Perm xs) : ∀ {l : List α}, xs = l.map f → ∃ l' : List α, l'.Perm l ∧ out = l'.map f := by
  induction h with
  | nil => intro l e; cases l with | nil => exact ⟨[], .nil, rfl⟩ | cons a b => simp at e
  | cons x h ih =>
    intro l e
    cases l with
    | nil => simp at e
    | cons a b =>
      simp only [List.map_cons, List.cons.injEq] at e
      obtain ⟨rfl, e⟩ := e
      obtain ⟨l', p, rfl⟩ := ih e
      exact ⟨a :: l', .cons a p, rfl⟩
  | swap x y r =>
    intro l e
    match l, e with
    | [], e => simp at e
    | [a], e => simp at e
    | a :: b :: c, e =>
      simp only [List.map_cons, List.cons.injEq] at e
      obtain ⟨rfl, rfl, rfl⟩ := e
      exact ⟨b :: a :: c, .swap .., rfl⟩
  | trans h1 h2 i1 i2 =>
    intro l e
    obtain ⟨l', p, e'⟩ := i2 e
    obtain ⟨l2, p2, e2⟩ := i1 e'
    exact ⟨l2, p2.trans p, e2⟩
def leI (x y : List Int) : Bool := !HT.lexLt y x
theorem le_data (x y : List Int) : PySem.W.dataLe false tupP x y = leI x y := by
  rw [show PySem.W.dataLe false tupP x y = !PySem.W.dataLt (tupP y) (tupP x) from rfl, dataLt_lex]
  rfl
theorem le_trans (x y z : List Int) (h1 : leI x y = true) (h2 : leI y z = true) : leI x z = true := by
  rw [← le_data] at *
  have nt := (listOrd itemOrd).negTrans (PySem.W.keyToks (tupP z)) (PySem.W.keyToks (tupP y)) (PySem.W.keyToks (tupP x))
  simp only [PySem.W.dataLe, PySem.W.sortLe, cond_false, Bool.not_eq_true'] at *
  cases hh : (listOrd itemOrd).blt (PySem.W.keyToks (tupP z)) (PySem.W.keyToks (tupP x)) with
  | false => exact hh
  | true =>
    rcases nt hh with q | q
    · rw [h2] at q; cases q
    · rw [h1] at q; cases q
theorem le_total (x y : List Int) : (leI x y || leI y x) = true := by
  cases h : leI x y with
  | true => rfl
  | false =>
    rw [← le_data] at h
    rw [← le_data]
    simp only [PySem.W.dataLe, PySem.W.sortLe, cond_false, Bool.not_eq_false', Bool.false_or, Bool.not_eq_true'] at *
    cases hh : (listOrd itemOrd).blt (PySem.W.keyToks (tupP x)) (PySem.W.keyToks (tupP y)) with
    | false => exact hh
    | true =>
      have := (listOrd itemOrd).trans _ _ _ h hh
      rw [(listOrd itemOrd).irrefl] at this
      cases this
theorem each_TI {h : Heap} : ∀ {L : List (Addr × List Int)}, (∀ p ∈ L, IsTI h (.ref p.1) p.2) → PySem.W.EachIs (IsTI h) (L.map fun p => Value.ref p.1) (L.map (·.2))
  | [], _ => .nil
  | p :: L, k => .cons (k p (List.mem_cons_self ..)) (each_TI fun q m => k q (List.mem_cons_of_mem _ m))
theorem each_rf {h : Heap} : ∀ {L : List (Addr × List Int)}, (∀ p ∈ L, IsTI h (.ref p.1) p.2) → PySem.W.EachIs (fun v p => ∃ as, Reads h v (tupP p.2) as) (L.map fun p => Value.ref p.1) L
  | [], _ => .nil
  | p :: L, k => .cons ⟨_, (k p (List.mem_cons_self ..)).reads⟩ (each_rf fun q m => k q (List.mem_cons_of_mem _ m))
theorem each_eq : ∀ {L : List (Addr × List Int)}, PySem.W.EachIs (fun (v : Value) (p : Addr × List Int) => v = .ref p.1) (L.map fun p => Value.ref p.1) L
  | [] => .nil
  | _ :: _ => .cons rfl each_eq
theorem eq_each : ∀ {us : List Value} {L : List (Addr × List Int)}, PySem.W.EachIs (fun (v : Value) (p : Addr × List Int) => v = .ref p.1) us L → us = L.map fun p => Value.ref p.1
  | _, _, .nil => rfl
  | _, _, .cons h r => by rw [h, eq_each r]; rfl
theorem sorted_ST {P : Program} {w : World} {A : Around} {E : Value → Shared → Prop} {s : Shared} {a : Addr} {L : List (Addr × List Int)} {es : Array (Int × Value)} {ep : Nat} {t : SetTable} {Q : Value → Shared → Prop}
    (h : L2.SetTR P w s.heap a L es ep t) (hh : A.handled = none) (hi : ∀ p ∈ L, IsTI s.heap (.ref p.1) p.2) (hu : A.units + 100 < cLine)
    (q : ∀ (s' : Shared) (p : Nat) (out : List Value) (c : Nat) (L' : List (Addr × List Int)), (∀ b o, s.heap.get? b = some o → s'.heap.get? b = some o) → s'.gens = s.gens → s'.os = s.os → s.heap.objs.size ≤ p → s'.heap.get? p = some (seqObj "list" out.toArray c) →
      out = L'.map (fun p => Value.ref p.1) → L'.Perm L → L'.Pairwise (fun x y => leI x.2 y.2 = true) → Q (.ref p) s') :
    wpAny (model P w) A (call (.builtin "sorted") [.ref a]) Q E s := by
  obtain ⟨o, e1, e2, e3⟩ := h.ob
  have hfew := h.few
  have hes : es.size = L.length := by
    have := congrArg List.length h.rows
    simpa [L2.rowsOf] using this
  have hsc : es.size < scanBound := by
    have : 2000 < scanBound := by decide
    omega
  refine sorted_from ?_
  refine L2.collect_set hh ⟨o, e1, e2.1, e3⟩ h.fits hsc h.tab.ris h.led ?_
  intro s' out hk hsz hg hos hp
  have hrow : es.toList.map (fun x => x.2) = L.map fun p => Value.ref p.1 := by rw [h.rows]; unfold L2.rowsOf; rw [List.map_map]; rfl
  rw [hrow] at hp
  obtain ⟨L0, hL0, rfl⟩ := perm_map_inv hp rfl
  have hl0 : L0.length = L.length := hL0.length_eq
  refine ⟨by rw [List.length_map]; have := sizeLine_eq; omega, ?_⟩
  rintro hp2 rfl
  have hget : (s'.heap.push { cls := Value.type "list", data := Data.seq (L0.map fun p => Value.ref p.1).toArray }).get? s'.heap.objs.size = some (seqObj "list" (L0.map fun p => Value.ref p.1).toArray 0) := PySem.Heap.get?_push_size _ rfl
  have hi0 : ∀ {h' : Heap}, (∀ b o, s'.heap.get? b = some o → h'.get? b = some o) → ∀ p ∈ L0, IsTI h' (.ref p.1) p.2 := fun k p m => (hi p (hL0.mem_iff.mp m)).keep fun b o e => k b o (hk b o e)
  have ks : ∀ b o, s'.heap.get? b = some o → (PySem.W.sortingHeap (s'.heap.push { cls := Value.type "list", data := Data.seq (L0.map fun p => Value.ref p.1).toArray }) s'.heap.objs.size (L0.map fun p => Value.ref p.1)).get? b = some o := fun b o e =>
    PySem.W.sortingHeap_old (Nat.ne_of_lt (PySem.Heap.lt_size e)) (PySem.Heap.get?_push_of_some _ e)
  refine wpAny_call_entry PyProof.Rows.slot_list_sort ⟨_, hget, rfl⟩ PyProof.Rows.entry_list_sort ?_ (PyProof.Rows.args_list_sort _)
  have so := sorts_ints (prog := P) (w := w) (A := A.in1.in1) (s := { s' with heap := PySem.W.sortingHeap (s'.heap.push { cls := Value.type "list", data := Data.seq (L0.map fun p => Value.ref p.1).toArray }) s'.heap.objs.size (L0.map fun p => Value.ref p.1) }) (each_TI (hi0 ks)) (by show A.units + 1 + 1 + 4 < cLine; omega)
  rw [List.map_map] at so
  refine PySem.W.list_sort_vals hget so (by rw [List.length_map]; have := sizeLine_eq; omega) ?_
  refine ⟨_, rfl, ?_⟩
  have al : PySem.W.AllAlike (L0.map fun p => tupP p.2) := by
    have := all_al (L0.map (·.2))
    rw [List.map_map] at this
    exact this
  have sv := PySem.W.sortVals_data (enc := fun p : Addr × List Int => tupP p.2) false (each_eq (L := L0)) (each_rf (hi0 ks)) al
  obtain ⟨c, hc⟩ := PyProof.Rows.sortedHeap_at (out := (PySem.W.sortVals (PySem.W.dataKind _ (L0.map fun p => tupP p.2)) false (L0.map fun p => Value.ref p.1) (L0.map fun p => Value.ref p.1)).toArray) hget
  refine q _ _ _ c _ (fun b o e => ?_) hg hos hsz hc (eq_each sv) ((List.mergeSort_perm ..).trans hL0) ?_
  · have e2 := hk b o e
    have h2 := PySem.Heap.lt_size e2
    show (sortedHeap _ _ _ _).get? b = some o
    rw [PyProof.Rows.sortedHeap_old (Nat.ne_of_lt h2) (by rw [PySem.Heap.size_push]; exact Nat.lt_succ_of_lt h2)]
    exact PySem.Heap.get?_push_of_some _ e2
  · have := List.pairwise_mergeSort (le := PySem.W.dataLe false fun p : Addr × List Int => tupP p.2) (fun x y z h1 h2 => by
      have e := fun x y : Addr × List Int => le_data x.2 y.2
      exact (e x z).trans (le_trans _ _ _ ((e x y).symm.trans h1) ((e y z).symm.trans h2))) (fun x y => by
      have e := fun x y : Addr × List Int => le_data x.2 y.2
      have := le_total x.2 y.2
      rw [← e, ← e] at this
      exact this) L0
    exact this.imp fun {x y} h => (le_data x.2 y.2).symm.trans h
end FF
set_option Elab.async false
set_option linter.all false
set_option maxRecDepth 100000
set_option maxHeartbeats 1000000
namespace FF
open PySem PySem.Spec PyProof.Rows L2
open Evl (Ex sz_of sz_lt fresh_back)
def rSortST (K : PySem.W.Frag) (P : Program) (w : World) : List V → Hp → VK → Prop := fun xs H Q => ∃ (a : Addr) (L : List (Addr × List Int)), xs = [.ref a] ∧ H a = some (L2.SetTO P w a L) ∧ (∀ p ∈ L, SqT K H p.1 (p.2.map V.int)) ∧
  ∀ (L' : List (Addr × List Int)) (p : Addr), L'.Perm L → (L'.map (·.2)).Nodup → L'.Pairwise (fun x y => leI x.2 y.2 = true) → H p = none → Q (.ref p) (upd H p (.lst (L'.map fun q => V.ref q.1)))
theorem call_sortST {X : Cx} (hc : X.calm = true) (hu : X.A.units + 100 < cLine) : CallR X (.builtin "sorted") (rSortST X.K X.prog X.w) := by
  intro pins s σ H xs us Q I r h
  obtain ⟨a, L, rfl, ha, hsq, q⟩ := h
  obtain ⟨u, rfl, rx⟩ := vals1 r
  cases rx
  have st0 : L2.SetT0 X.prog X.w s.heap a L := (I.hok a _ ha).1
  obtain ⟨es, ep, t, tr⟩ := L2.SetT0.full st0 fun p m => I.isT (hsq p m)
  refine sorted_ST tr (I.ok.hd hc) (fun p m => ?_) hu ?_
  · obtain ⟨its, rv, tup, _⟩ := I.tuple (hsq p m)
    exact ⟨p.1, its.toArray, rfl, tup, L2.ints_of_vals rv⟩
  · rintro s' p out c L' hk hg hos hsz hget ho hp hpw
    obtain ⟨hp', gs', dr', tk', os'⟩ := s'
    simp only at hg hos hk hget
    subst hg hos
    have hn : (L'.map (·.2)).Nodup := (hp.map _).nodup_iff.mpr tr.nd
    have hnone : H p = none := I.hok.fresh hsz
    have hlen : (L'.map fun q => V.ref q.1).length ≤ sizeLine := by
      rw [List.length_map, hp.length_eq]
      have := tr.few
      have := sizeLine_eq
      omega
    have hob : ObjOk X.prog X.w (upd H p (.lst (L'.map fun q => V.ref q.1))) hp' p (.lst (L'.map fun q => V.ref q.1)) := ⟨hlen, out, c, by rw [ho]; exact L2.vals_of_refs L', hget⟩
    exact ⟨.ref p, _, I.call (ch := []) (L2.Un.laid hk hsz hnone) (L2.HOk.laid I.hok hk hsz hob) I.bare (fun b m => by simp at m), rfl, q L' p hp hn hpw hnone⟩
section
variable {K : PySem.W.Frag} {Pr : Program} {w : World} {E E' : XK} {Ψ : XPost} {O : Own} {Δ : Env_} {tas : TA} {H F : Hp}
theorem DatL.tups {zs : List V} : ∀ {nss : List (List Int)}, DatL K F zs (nss.map fun ns => .tup (ns.map .int)) → ∃ ks : List (Addr × List Int), zs = ks.map (fun p => V.ref p.1) ∧ ks.map (·.2) = nss ∧ ∀ p ∈ ks, SqT K F p.1 (p.2.map V.int) := by
  intro nss h
  induction nss generalizing zs with
  | nil => cases h; exact ⟨[], rfl, rfl, by simp⟩
  | cons ns nss ih =>
    cases h with
    | cons a b =>
      obtain ⟨ks, rfl, e, hs⟩ := ih b
      cases a with
      | tup h1 l1 =>
        rw [l1.ints_inv] at h1
        exact ⟨(_, ns) :: ks, rfl, by rw [List.map_cons, e], fun p m => by
          rcases List.mem_cons.mp m with rfl | m
          · exact h1
          · exact hs p m⟩
theorem DatL.ofTups : ∀ {ks : List (Addr × List Int)}, (∀ p ∈ ks, SqT K F p.1 (p.2.map V.int)) → DatL K F (ks.map fun p => V.ref p.1) ((ks.map (·.2)).map fun ns => .tup (ns.map .int))
  | [], _ => .nil
  | p :: ks, h => .cons (.tup (h p (List.mem_cons_self ..)) .ints) (DatL.ofTups fun q m => h q (List.mem_cons_of_mem _ m))
/-- sorted(set(xs)), xs a list of tuples of whole numbers -/
theorem ev_sortsetT {x : Dt} {nss : List (List Int)} (ha : EvA K E Ψ tas Δ O (fun ds O' => ds = [x] ∧ LstOf O' x (nss.map fun ns => .tup (ns.map .int)) ∧ O' = O)) (hl : nss.length < 64) :
    Ev K E Ψ (tCB (rSortST K Pr w) (tCons (tCB (L2.rSetOfT K Pr w) tas) tNil)) Δ O (fun d O' => ∃ q, ∃ mss : List (List Int), d = .ref q ∧ O' = (q, .lst (mss.map fun ns => .tup (ns.map .int))) :: O ∧ mss.Pairwise (fun x y => leI x y = true) ∧ mss.Nodup ∧ ∀ k, k ∈ mss ↔ k ∈ nss) := fun σ F H a b c e Q q =>
  ha σ F H a b c e _ fun vs F1 H1 ds O1 g1 b1 k1 p1 => by
    obtain ⟨rfl, hx, rfl⟩ := p1
    cases k1 with
    | cons k1 l1 =>
      cases l1
      obtain ⟨l, zs, rfl, hz, lz⟩ := hx.read b1 g1.sub k1
      obtain ⟨ks, rfl, hks, hsq⟩ := lz.tups
      have hkl : ks.length = nss.length := by rw [← hks, List.length_map]
      refine ⟨l, ks, rfl, .of hz, fun p m => Evl.ex_t g1.sub (hsq p m), by omega, fun z L hzn hL1 hL2 => ?_⟩
      have g2 := Gw.junk (O := O1) (u := L2.SetTO Pr w z L) g1.sub hzn
      have b2 := b1.junk (u := L2.SetTO Pr w z L) hzn
      refine ⟨z, L, rfl, upd_same, fun p m => Evl.ex_t g2.sub (hsq p (hL1 p m)), fun L' p hp hn hpw hpn => ?_⟩
      have hsq' : ∀ p ∈ L', SqT K F1 p.1 (p.2.map V.int) := fun p m => hsq p (hL1 p (hp.mem_iff.mp m))
      have g3 := Gw.newOwn (O := O1) (o := .lst ((L'.map (·.2)).map fun ns => .tup (ns.map .int))) (u := .lst (L'.map fun q => V.ref q.1)) g2.sub hpn
      have b3 := b2.newOwn (o := .lst ((L'.map (·.2)).map fun ns => .tup (ns.map .int))) (u := .lst (L'.map fun q => V.ref q.1)) g2.sub hpn ⟨_, upd_same, DatL.ofTups hsq'⟩
      refine q _ F1 _ (.ref p) _ ((g1.trans g2).trans g3) b3 (.ref p) ⟨p, L'.map (·.2), rfl, rfl, ?_, hn, fun k => ⟨fun m => ?_, fun m => ?_⟩⟩
      · rw [List.pairwise_map]
        exact hpw
      · obtain ⟨p, mp, rfl⟩ := List.mem_map.mp m
        rw [← hks]
        exact List.mem_map.mpr ⟨p, hL1 p (hp.mem_iff.mp mp), rfl⟩
      · rw [← hks] at m
        obtain ⟨p, mp, rfl⟩ := List.mem_map.mp m
        exact ((hp.map (·.2)).mem_iff).mpr (hL2 p mp)
end
end FF
set_option Elab.async false
set_option linter.all false
set_option maxRecDepth 100000
set_option maxHeartbeats 1000000
namespace FF
open PySem PySem.Spec PyProof.Rows L2
open Evl (Ex)
/-! small data -/
structure Nic (D S : Nat) (d : Dt) : Prop where
  ok : d.ok = true
  sh : d.py.showable = true
  dep : d.py.depth ≤ D
  sz : d.sz ≤ S
mutual
theorem sok_ok : ∀ d : Dt, d.ok = true → d.sok = true
  | .non, _ => rfl
  | .bl _, _ => rfl
  | .int _, _ => rfl
  | .str _, h => h
  | .lst ds, h => sokL_ok ds h
  | .tup ds, h => sokL_ok ds h
  | .dic _, h => by simp [Dt.ok] at h
  | .obj _ _, h => by simp [Dt.ok] at h
  | .ref _, h => by simp [Dt.ok] at h
  | .frl _, h => by simp [Dt.ok] at h
  | .fdc _, h => by simp [Dt.ok] at h
  | .ty _, h => by simp [Dt.ok] at h
theorem sokL_ok : ∀ ds : List Dt, okL ds = true → sokL ds = true
  | [], _ => rfl
  | d :: ds, h => by
    simp only [okL, Bool.and_eq_true] at h
    simp only [sokL, sok_ok d h.1, sokL_ok ds h.2]
    rfl
end
theorem Nic.mono {D D' S S' : Nat} {d : Dt} (h : Nic D S d) (hD : D ≤ D') (hS : S ≤ S') : Nic D' S' d := ⟨h.ok, h.sh, Nat.le_trans h.dep hD, Nat.le_trans h.sz hS⟩
theorem nicL {D S : Nat} : ∀ {ds : List Dt}, (∀ e ∈ ds, Nic D S e) → okL ds = true ∧ PyData.showableAll (pyL ds) = true ∧ PyData.depthAll (pyL ds) ≤ D ∧ szL ds ≤ ds.length * (S + 2)
  | [], _ => ⟨rfl, rfl, Nat.zero_le _, Nat.zero_le _⟩
  | d :: ds, h => by
    have a := h d (List.mem_cons_self ..)
    obtain ⟨b1, b2, b3, b4⟩ := nicL (ds := ds) fun e m => h e (List.mem_cons_of_mem _ m)
    have e1 : (ds.length + 1) * (S + 2) = ds.length * (S + 2) + (S + 2) := by rw [Nat.add_mul, Nat.one_mul]
    have := a.sz
    simp only [okL, pyL, PyData.showableAll, PyData.depthAll, szL, List.length_cons, a.ok, a.sh, b1, b2, e1]
    exact ⟨rfl, rfl, Nat.max_le.mpr ⟨a.dep, b3⟩, by omega⟩
theorem nic_lst {D S n : Nat} {ds : List Dt} (h : ∀ e ∈ ds, Nic D S e) (hn : ds.length ≤ n) : Nic (D + 1) (n * (S + 2) + 5) (.lst ds) := by
  obtain ⟨b1, b2, b3, b4⟩ := nicL h
  have := Nat.mul_le_mul_right (S + 2) hn
  refine ⟨b1, b2, ?_, ?_⟩
  · simp only [Dt.py, PyData.depth]; omega
  · simp only [Dt.sz]; omega
theorem nic_tup {D S n : Nat} {ds : List Dt} (h : ∀ e ∈ ds, Nic D S e) (hn : ds.length ≤ n) : Nic (D + 1) (n * (S + 2) + 5) (.tup ds) := by
  obtain ⟨b1, b2, b3, b4⟩ := nicL h
  have := Nat.mul_le_mul_right (S + 2) hn
  refine ⟨b1, b2, ?_, ?_⟩
  · simp only [Dt.py, PyData.depth]; omega
  · simp only [Dt.sz]; omega
theorem nic_str {s : Str} {n : Nat} (h : PyData.strOk s = true) (hn : s.length ≤ n) : Nic 0 (10 * n + 2) (.str s) := ⟨h, rfl, Nat.le_refl _, by simp only [Dt.sz]; omega⟩
theorem Nic.rok {D S : Nat} {d : Dt} (h : Nic D S d) (hD : D ≤ 60) : d.rok = true := by
  have := h.dep
  simp only [Dt.rok, h.ok, h.sh, Bool.true_or, Bool.true_and, decide_eq_true_eq]
  omega
theorem Nic.eok {D S : Nat} {d : Dt} (h : Nic D S d) (hD : D ≤ 60) : d.eok = true := by
  have := h.dep
  simp only [Dt.eok, h.ok, Bool.true_and, decide_eq_true_eq]
  omega
theorem small_len : ∀ n < 130, (PyData.shown (.int ((n : Nat) : Int))).length ≤ 4 := by decide +kernel
theorem small_show : ∀ n < 130, (PyData.int ((n : Nat) : Int)).showable = true := by decide +kernel
theorem nic_int {i : Int} (h0 : 0 ≤ i) (h1 : i < 130) : Nic 0 4 (.int i) := by
  obtain ⟨n, rfl⟩ := Int.eq_ofNat_of_zero_le h0
  exact ⟨rfl, small_show n (by omega), Nat.le_refl _, small_len n (by omega)⟩
end FF
set_option Elab.async false
set_option linter.all false
set_option maxRecDepth 100000
set_option maxHeartbeats 1000000
namespace FF
open PySem PySem.Spec PyProof.Rows L2
open Evl (Ex sz_of sz_lt fresh_back)
theorem ditO_new {P : Program} {w : World} {H : Hp} {h : Heap} {a : Addr} {kvs : List DE} (R : DitR P w h a kvs) : ObjOk P w H h a (DitO P w a kvs) := by
  obtain ⟨z, xs, pr, o, es, ep, ho, r⟩ := id R
  refine ⟨R, ⟨o, ho⟩, fun h1 h2 p k => ?_⟩
  obtain ⟨z, xs, pr, o, es, ep, ho, r⟩ := p
  exact ⟨z, xs, pr, o, es, ep, k o ho, r⟩
theorem Paired.getL {α β : Type} {F : α → β → Prop} : ∀ {l₁ : List α} {l₂ : List β}, Paired F l₁ l₂ → ∀ {i : Nat} {a : α}, l₁[i]? = some a → ∃ b, l₂[i]? = some b ∧ F a b
  | _, _, .nil, i, a, h => by simp at h
  | _, _, .cons f t, 0, a, h => by simp at h; subst h; exact ⟨_, rfl, f⟩
  | _, _, .cons f t, i + 1, a, h => by simpa using Paired.getL t (by simpa using h)
theorem Paired.getR {α β : Type} {F : α → β → Prop} : ∀ {l₁ : List α} {l₂ : List β}, Paired F l₁ l₂ → ∀ {i : Nat} {b : β}, l₂[i]? = some b → ∃ a, l₁[i]? = some a ∧ F a b
  | _, _, .nil, i, a, h => by simp at h
  | _, _, .cons f t, 0, a, h => by simp at h; subst h; exact ⟨_, rfl, f⟩
  | _, _, .cons f t, i + 1, a, h => by simpa using Paired.getR t (by simpa using h)
theorem Paired.len {α β : Type} {F : α → β → Prop} : ∀ {l₁ : List α} {l₂ : List β}, Paired F l₁ l₂ → l₁.length = l₂.length
  | _, _, .nil => rfl
  | _, _, .cons _ t => by simp [Paired.len t]
theorem Paired.keys {K : Type} {β γ : Type} {F : K × β → K × γ → Prop} (hF : ∀ a b, F a b → a.1 = b.1) : ∀ {l₁ : List (K × β)} {l₂ : List (K × γ)}, Paired F l₁ l₂ → l₁.map (·.1) = l₂.map (·.1)
  | _, _, .nil => rfl
  | _, _, .cons f t => by simp [hF _ _ f, Paired.keys hF t]
theorem storedAllH_nd {K : Type} [DecidableEq K] : ∀ (ps xs : List (K × Addr × Value)), ((xs ++ ps).map (·.1)).Nodup → storedAllH xs ps = xs ++ ps
  | [], xs, _ => by simp [storedAllH]
  | p :: ps, xs, h => by
    have hn : atKey xs p.1 = none := by
      unfold atKey
      rw [Option.map_eq_none_iff, List.find?_eq_none]
      intro x hx e
      have e := of_decide_eq_true e
      rw [List.map_append, List.nodup_append] at h
      exact h.2.2 x.1 (List.mem_map.mpr ⟨x, hx, rfl⟩) p.1 (by simp) e
    have ih := storedAllH_nd ps (xs ++ [p]) (by simpa using h)
    have e : storedAllH xs (p :: ps) = storedAllH (storedH xs p.1 p.2.1 p.2.2) ps := rfl
    rw [e, storedH_new hn]
    simpa using ih
def rDitMk (K : PySem.W.Frag) (P : Program) (w : World) : List V → Hp → VK → Prop := fun xs H Q => ∃ (a : Addr) (ps : List Addr) (kvs : List DE), xs = [.ref a] ∧ SqL K H a (ps.map V.ref) ∧
  Paired (fun p (kv : DE) => SqT K H p [.ref kv.2.1, kv.2.2] ∧ SqT K H kv.2.1 (kv.1.map V.int)) ps kvs ∧ (kvs.map (·.1)).Nodup ∧ ∀ p, H p = none → Q (.ref p) (upd H p (DitO P w p kvs))
theorem ditItems {X : Cx} {pins : List (Addr × Obj)} {σ : L2.St} {H : Hp} {s : Shared} (I : Inv X pins σ H s) : ∀ {ps : List Addr} {kvs : List DE}, Paired (fun p (kv : DE) => SqT X.K H p [.ref kv.2.1, kv.2.2] ∧ SqT X.K H kv.2.1 (kv.1.map V.int)) ps kvs →
    ∃ xs : List (List Int × Addr × Value), Paired (fun (p : DE) (q : List Int × Addr × Value) => p.1 = q.1 ∧ p.2.1 = q.2.1 ∧ RelV p.2.2 q.2.2) kvs xs ∧ xs.length = ps.length ∧
      (∀ x ∈ xs, (tupleKind (intKind X.prog X.w)).is s.heap x.1 x.2.1) ∧ ∀ (j : Nat) x, xs[j]? = some x → ∃ b, ps[j]? = some b ∧ IsTup s.heap b #[.ref x.2.1, x.2.2]
  | _, _, .nil => ⟨[], .nil, rfl, by simp, by simp⟩
  | _, _, .cons (a := p) (b := kv) h t => by
    obtain ⟨xs, pr, hl, his, hit⟩ := ditItems I t
    obtain ⟨its, rv, tup, _⟩ := I.tuple h.1
    cases rv with
    | cons r1 rr =>
      cases rr with
      | cons r2 rr =>
        cases rr
        cases r1
        rename_i u
        refine ⟨(kv.1, kv.2.1, u) :: xs, .cons ⟨rfl, rfl, r2⟩ pr, by simp [hl], fun x m => ?_, fun j x hj => ?_⟩
        · rcases List.mem_cons.mp m with rfl | m
          · exact I.isT h.2
          · exact his x m
        · cases j with
          | zero => simp at hj; subst hj; exact ⟨p, rfl, tup⟩
          | succ j => simpa using hit j x (by simpa using hj)
theorem call_ditMk {X : Cx} (hc : X.calm = true) (hu : X.A.units + 100 < cLine) : CallR X (.type "dict") (rDitMk X.K X.prog X.w) := by
  intro pins s σ H vs us Q I r h
  obtain ⟨a, ps, kvs, rfl, hl, hp, hnd, q⟩ := h
  obtain ⟨u, rfl, rx⟩ := vals1 r
  cases rx
  obtain ⟨its, rv, pl, hz⟩ := I.list hl
  have ei := L2.refs_at rv
  subst ei
  obtain ⟨xs, pr, hlen, his, hit⟩ := ditItems I hp
  have hk : xs.map (·.1) = kvs.map (·.1) := (Paired.keys (fun _ _ h => h.1) pr).symm
  obtain ⟨o, n, ho, hcl, hd, hdat⟩ := pl
  have hps : ps.length ≤ sizeLine := by simpa using hz
  let prs : List (Value × Value) := xs.map fun x => (Value.ref x.2.1, x.2.2)
  have hprs : prs.length = xs.length := by simp [prs]
  have hitem : PairItems s.heap (ps.map Value.ref).toArray (fun j => ps[j]?.getD 0) prs := by
    refine ⟨by simp [prs, hlen], fun j k v hj => ?_⟩
    simp only [prs, List.getElem?_map] at hj
    cases hx : xs[j]? with
    | none => rw [hx] at hj; cases hj
    | some x =>
      rw [hx] at hj
      cases hj
      obtain ⟨b, hb, tb⟩ := hit j x hx
      refine ⟨by simp [hb], .inl ?_⟩
      simp only [hb, Option.getD_some]
      obtain ⟨o2, ho2, hc2, n2, hd2⟩ := tb
      exact ⟨o2, ho2, hc2, n2, hd2⟩
  refine call_dict_pairsH (knd := tupleKind (intKind X.prog X.w)) (ps := xs) (PairArg.list a (ps.map Value.ref).toArray (fun j => ps[j]?.getD 0) prs) (I.ok.hd hc) (by show X.A.units + 1 + 1 < cLine; omega) ⟨⟨o, n, ho, hcl, hd, hdat⟩, hitem⟩ ?_ ?_ (by rw [hprs, hlen]; exact hps) ?_
  · refine ⟨hprs.symm, fun i k v hR => ?_⟩
    have hR : prs[i]? = some (k, v) := hR
    simp only [prs, List.getElem?_map] at hR
    cases hx : xs[i]? with
    | none => rw [hx] at hR; cases hR
    | some x =>
      rw [hx] at hR
      cases hR
      exact ⟨x.1, x.2.1, rfl, rfl⟩
  · intro h' hk' x hx
    exact (tupleKind_stays (knd := intKind X.prog X.w)).stays (fun b o' _ _ e _ => hk' b o' (Nat.ne_of_lt (Heap.lt_size e)) (fun z => nomatch z) e) (his x hx)
  · intro h' tk hd' hk'
    rw [storedAllH_nd xs [] (by simpa [hk] using hnd), List.nil_append] at hd'
    obtain ⟨o', es, ep, ho', hx', hdat', hes, _, hnd'⟩ := hd'
    have R : DitR X.prog X.w h' s.heap.objs.size kvs := ⟨by rw [Paired.len pr, hlen]; exact hps, xs, pr, o', es, ep, ho', hx', hdat', hes, hnd'⟩
    exact ⟨.ref s.heap.objs.size, _, I.laid (o := DitO X.prog X.w s.heap.objs.size kvs) (t' := tk) (fun b o e => hk' b o (fun z => nomatch z) e) (Nat.le_refl _) (ditO_new R), rfl, q _ (I.hok.fresh (Nat.le_refl _))⟩
def rDitIx (K : PySem.W.Frag) (P : Program) (w : World) : R2 := fun x y H Q => ∃ (a b : Addr) (kvs : List DE) (ns : List Int) (i : Nat) (c : Addr) (v : V), x = .ref a ∧ y = .ref b ∧ H a = some (DitO P w a kvs) ∧ (∀ kv ∈ kvs, SqT K H kv.2.1 (kv.1.map V.int)) ∧ SqT K H b (ns.map V.int) ∧ kvs[i]? = some (ns, c, v) ∧ Q v H
theorem atKey_nd {K : Type} [DecidableEq K] : ∀ (xs : List (K × Addr × Value)) (i : Nat) (k : K) (c : Addr) (v : Value), (xs.map (·.1)).Nodup → xs[i]? = some (k, c, v) → atKey xs k = some (c, v)
  | [], i, k, c, v, _, h => by simp at h
  | x :: xs, 0, k, c, v, _, h => by simp at h; subst h; simp [atKey]
  | x :: xs, i + 1, k, c, v, hn, h => by
    simp only [List.getElem?_cons_succ] at h
    have ih := atKey_nd xs i k c v (List.nodup_cons.mp (by simpa using hn)).2 h
    have hm : k ∈ xs.map (·.1) := List.mem_map.mpr ⟨_, List.mem_of_getElem? h, rfl⟩
    have hne : ¬ x.1 = k := fun e => (List.nodup_cons.mp (by simpa using hn : (x.1 :: xs.map (·.1)).Nodup)).1 (e ▸ hm)
    unfold atKey at ih ⊢
    rw [List.find?_cons]
    simp only [hne, decide_false]
    exact ih
theorem ix_dit {X : Cx} (hu : X.A.units + 100 < cLine) : IxR X (rDitIx X.K X.prog X.w) := by
  intro value slice pins s σ H x y v u Q I rx ry h hs
  obtain ⟨a, b, kvs, ns, i, c, z, rfl, rfl, ha, hks, hb, hi, q⟩ := h
  cases rx
  cases ry
  have R : DitR X.prog X.w s.heap a kvs := (I.hok a _ ha).1
  obtain ⟨z0, xs, pr, o, es, ep, ho, hx, hd, hes, hnd⟩ := R
  obtain ⟨x', hx', e1, e2, rv⟩ := Paired.getL pr hi
  simp only at e1 e2 rv
  have dh : s.heap.DictOfH (tupleKind (intKind X.prog X.w)) a xs := ⟨o, es, ep, ho, hx, hd, hes, fun y m => by
    obtain ⟨j, hj⟩ := List.getElem?_of_mem m
    obtain ⟨kv, hkv, f1, f2, f3⟩ := Paired.getR pr hj
    rw [← f1, ← f2]
    exact I.isT (hks kv (List.mem_of_getElem? hkv)), hnd⟩
  obtain ⟨k', c', u'⟩ := x'
  simp only at e1 e2 rv
  subst e1 e2
  have hat := atKey_nd xs i ns c u' hnd hx'
  refine subscriptTail_builtinR (x := u') dh.typeIs F.slot_dict_getitem.lookup ?_ hs
  exact getItem_keyed (knd := tupleKind (intKind X.prog X.w)) (kvs := pairsH xs) (k := ns) (v := u') (by show X.A.units + 1 < cLine; omega) (I.isT hb) ⟨xs, dh, rfl⟩ (by rw [valueAt_pairsH, hat]; rfl) ⟨rfl, z, H, I.tok _, rv, q⟩
end FF
set_option Elab.async false
set_option linter.all false
set_option maxRecDepth 100000
set_option maxHeartbeats 1000000
namespace FF
open PySem PySem.Spec PyProof.Rows L2
open Evl (Ex sz_of sz_lt fresh_back)
/-! the same rules, each with what follows as its post: one goal, from the left to the right -/
section
variable {K : PySem.W.Frag} {E E' : XK} {Ψ : XPost} {F F' F1 F2 H H' H1 H2 : Hp} {O O' O1 O2 R : Own} {σ : L2.St} {Δ : Env_} {D : Ends} {P : Post}
variable {te ta tb tc : TE} {tt : TT} {tas : TA} {Φ Φ' : Dt → Own → Prop} {d x y z : Dt} {ds : List Dt} {r r' : R2} {t u t' : TS} {P' : Post} {p b : Addr}
variable {nx bk ct : Env_ → Own → Prop} {rt k : Dt → Own → Prop} {kb : Bool → Own → Prop} {kl : List Dt → Own → Prop}
theorem XOk.permL (h : XOk K E Ψ O F H) (e : O.Perm O2) : XOk K E Ψ O2 F H := fun C d F' H' O' fs g a b c => h C d F' H' O' fs (g.permL e.symm) a b c
/-- a goal that the walk doesn't enter -/
def Pin (p : Prop) : Prop := p
theorem pin {p : Prop} (h : p) : Pin p := h
/-! expressions -/
theorem wv_var {i : Nat} (h : Δ[i]? = some (some d)) (q : k d O) : Ev K E Ψ (tVar i) Δ O k := (ev_var h).imp fun _ _ e => by rw [e.1, e.2]; exact q
theorem wv_int {i : Int} (q : k (.int i) O) : Ev K E Ψ (tC (.int i)) Δ O k := ev_int.imp fun _ _ e => by rw [e.1, e.2]; exact q
theorem wv_bl {i : Bool} (q : k (.bl i) O) : Ev K E Ψ (tC (.bl i)) Δ O k := ev_bl.imp fun _ _ e => by rw [e.1, e.2]; exact q
theorem wv_str {i : Str} (q : k (.str i) O) : Ev K E Ψ (tC (.str i)) Δ O k := ev_str.imp fun _ _ e => by rw [e.1, e.2]; exact q
theorem wv_non (q : k .non O) : Ev K E Ψ (tC .non) Δ O k := ev_non.imp fun _ _ e => by rw [e.1, e.2]; exact q
theorem wv_ty {n : String} (q : k (.ty n) O) : Ev K E Ψ (tC (.ty n)) Δ O k := ev_ty.imp fun _ _ e => by rw [e.1, e.2]; exact q
theorem wv_op (h : Ev K E Ψ ta Δ O fun x O1 => Ev K E Ψ tb Δ O1 fun y O2 => OpD K E Ψ r x y O2 k) : Ev K E Ψ (tOp r ta tb) Δ O k :=
  ev_opG (Θ := fun x O1 y O2 => OpD K E Ψ r x y O2 k) h (fun x O1 q => q) (fun x O1 y O2 _ q => q)
theorem wv_un {r : V → Hp → VK → Prop} (h : Ev K E Ψ ta Δ O fun x O1 => UnD K E Ψ r x O1 k) : Ev K E Ψ (tUn r ta) Δ O k := ev_unG h fun _ _ q => q
theorem wa_nil (q : kl [] O) : EvA K E Ψ tNil Δ O kl := ea_nil.imp fun _ _ e => by rw [e.1, e.2]; exact q
theorem wa_cons (h : Ev K E Ψ ta Δ O fun x O1 => EvA K E Ψ tas Δ O1 fun ys O2 => kl (x :: ys) O2) : EvA K E Ψ (tCons ta tas) Δ O kl :=
  ea_consG (Θ := fun x _ ys O2 => kl (x :: ys) O2) h (fun _ _ q => q) (fun _ _ _ _ _ q => q)
theorem wv_cb {r : List V → Hp → VK → Prop} (h : EvA K E Ψ tas Δ O fun xs O1 => CaD K E Ψ r xs O1 k) : Ev K E Ψ (tCB r tas) Δ O k := ev_cbG h fun _ _ q => q
theorem ko (h : OpD K E Ψ r x y O (ex z O)) (q : k z O) : OpD K E Ψ r x y O k := h.imp fun _ _ e => by rw [e.1, e.2]; exact q
theorem ku {r : V → Hp → VK → Prop} (h : UnD K E Ψ r x O (ex z O)) (q : k z O) : UnD K E Ψ r x O k := fun F H v b c e k1 Q q' => h F H v b c e k1 Q fun w F' H' d O' g b1 k2 p => q' w F' H' d O' g b1 k2 (by rw [p.1, p.2]; exact q)
theorem kc {r : List V → Hp → VK → Prop} {xs : List Dt} (h : CaD K E Ψ r xs O (ex z O)) (q : k z O) : CaD K E Ψ r xs O k := h.imp fun _ _ e => by rw [e.1, e.2]; exact q
theorem ev_frzK (h : Ev K E Ψ te Δ O (fun d O' => ∃ q ds O1, d = .ref q ∧ O' = (q, .lst ds) :: O1 ∧ k (.lst ds) O1)) : Ev K E Ψ te Δ O k := fun σ F H a b c e Q q =>
  h σ F H a b c e Q fun v F1 H1 d O1 g1 b1 k1 p1 => by
    obtain ⟨p, ds, O2, rfl, rfl, hp⟩ := p1
    cases k1
    obtain ⟨_, xs, e1, l1⟩ := b1.at_ p (.lst ds) (by simp)
    obtain ⟨g2, b2, k2⟩ := Gw.frz b1 g1.sub e1 l1
    exact q _ _ H1 _ O2 (g1.trans g2) b2 k2 hp
/-- a new list, frozen at once -/
theorem kcf {r : List V → Hp → VK → Prop} {xs : List Dt} (h : CaD K E Ψ r xs O (nwl ds O)) (q : k (.lst ds) O) : CaD K E Ψ r xs O k := fun F H vs b c e k1 Q q' => h F H vs b c e k1 Q fun w F1 H1 d O1 g1 b1 k2 p => by
  obtain ⟨p, rfl, rfl⟩ := p
  cases k2
  obtain ⟨_, ys, e1, l1⟩ := b1.at_ p (.lst ds) (by simp)
  obtain ⟨g2, b2, k2⟩ := Gw.frz b1 g1.sub e1 l1
  exact q' _ _ H1 _ O (g1.trans g2) b2 k2 q
theorem kof (h : OpD K E Ψ r x y O (nwl ds O)) (q : k (.lst ds) O) : OpD K E Ψ r x y O k := fun F H v u b c e k0 k1 Q q' => h F H v u b c e k0 k1 Q fun w F1 H1 d O1 g1 b1 k2 p => by
  obtain ⟨p, rfl, rfl⟩ := p
  cases k2
  obtain ⟨_, ys, e1, l1⟩ := b1.at_ p (.lst ds) (by simp)
  obtain ⟨g2, b2, k2⟩ := Gw.frz b1 g1.sub e1 l1
  exact q' _ _ H1 _ O (g1.trans g2) b2 k2 q
theorem wv_lst (h : EvA K E Ψ tas Δ O fun ds O1 => ds.length ≤ 100000 ∧ k (.lst ds) O1) : Ev K E Ψ (tLst tas) Δ O k :=
  ev_frzK ((ev_lstG h fun _ _ q => q.1).imp fun d O' ⟨q, ds, O1, a, b, c⟩ => ⟨q, ds, O1, a, b, c.2⟩)
theorem wv_lstO (h : EvA K E Ψ tas Δ O fun ds O1 => ds.length ≤ 100000 ∧ ∀ q, k (.ref q) ((q, .lst ds) :: O1)) : Ev K E Ψ (tLst tas) Δ O k :=
  (ev_lstG h fun _ _ q => q.1).imp fun d O' ⟨q, ds, O1, a, b, c⟩ => by rw [a, b]; exact c.2 q
theorem wv_tup (h : EvA K E Ψ tas Δ O fun ds O1 => ds.length ≤ 100000 ∧ k (.tup ds) O1) : Ev K E Ψ (tTup tas) Δ O k :=
  (ev_tupG h fun _ _ q => q.1).imp fun d O' ⟨ds, a, c⟩ => by rw [a]; exact c.2
theorem wv_fld {C : Addr} {f : Str} (cl : Cls K C) (na : NoAttr K C f) (h : Ev K E Ψ te Δ O fun x O1 => ∃ fs d, x = .obj C fs ∧ fs.lookup f = some d ∧ k d O1) : Ev K E Ψ (tFld K te f) Δ O k := fun σ F H a b c e Q q =>
  h σ F H a b c e _ fun v F1 H1 d O1 g1 b1 k1 p1 => by
    obtain ⟨fs, d', rfl, hf, p⟩ := p1
    cases k1 with
    | obj ho hfs =>
      obtain ⟨v', hv, kv⟩ := hfs.look hf
      exact ⟨_, C, _, _, v', rfl, g1.sub _ _ ho, cl, na, hv, q v' F1 H1 d' O1 g1 b1 kv p⟩
theorem wv_fldA {C : Addr} {f : Str} (na : NoAttr K C f) (cl : Cls K C) (h : Ev K E Ψ te Δ O fun x O1 => ∃ fs d, x = .obj C fs ∧ fs.lookup f = some d ∧ k d O1) : Ev K E Ψ (tFld K te f) Δ O k := wv_fld cl na h
theorem wv_andV (h : Ev K E Ψ ta Δ O fun x O1 => ∃ c, x = .bl c ∧ (c = true → Ev K E Ψ tb Δ O1 k) ∧ (c = false → k (.bl false) O1)) : Ev K E Ψ (tAndV ta tb) Δ O k :=
  ev_andVG (Φ1 := fun c O1 => (c = true → Ev K E Ψ tb Δ O1 k) ∧ (c = false → k (.bl false) O1)) h (fun _ q => q.1 rfl) (fun _ q => q.2 rfl)
theorem wv_orV (h : Ev K E Ψ ta Δ O fun x O1 => ∃ c, x = .bl c ∧ (c = false → Ev K E Ψ tb Δ O1 k) ∧ (c = true → k (.bl true) O1)) : Ev K E Ψ (tOrV ta tb) Δ O k :=
  ev_orVG (Φ1 := fun c O1 => (c = false → Ev K E Ψ tb Δ O1 k) ∧ (c = true → k (.bl true) O1)) h (fun _ q => q.1 rfl) (fun _ q => q.2 rfl)
/-- both sides pure: one value -/
theorem wv_andP {c c' : Bool} (h1 : Ev K E Ψ ta Δ O (ex (.bl c) O)) (h2 : c = true → Ev K E Ψ tb Δ O (ex (.bl c') O)) (q : k (.bl (c && c')) O) : Ev K E Ψ (tAndV ta tb) Δ O k := (ev_andV h1 h2).imp fun _ _ e => by rw [e.1, e.2]; exact q
theorem wv_orP {c c' : Bool} (h1 : Ev K E Ψ ta Δ O (ex (.bl c) O)) (h2 : c = false → Ev K E Ψ tb Δ O (ex (.bl c') O)) (q : k (.bl (c || c')) O) : Ev K E Ψ (tOrV ta tb) Δ O k := (ev_orV h1 h2).imp fun _ _ e => by rw [e.1, e.2]; exact q
theorem wv_notV (h : Ev K E Ψ ta Δ O fun x O1 => ∃ c, x = .bl c ∧ k (.bl (!c)) O1) : Ev K E Ψ (tNotV ta) Δ O k := fun σ F H a bb c e Q q => h σ F H a bb c e _ fun v F1 H1 x O1 g1 b1 k1 p1 => by
  obtain ⟨c, rfl, p⟩ := p1
  cases k1
  exact ⟨c, rfl, q _ F1 H1 _ _ g1 b1 (.bl _) p⟩
theorem wv_if (h : EvT K E Ψ tt Δ O fun c O1 => (c = true → Ev K E Ψ ta Δ O1 k) ∧ (c = false → Ev K E Ψ tb Δ O1 k)) : Ev K E Ψ (tIf tt ta tb) Δ O k := ev_ifG h (fun _ q => q.1 rfl) (fun _ q => q.2 rfl)
theorem wv_ifP {c : Bool} (h : EvT K E Ψ tt Δ O (exb c O)) (h1 : c = true → Ev K E Ψ ta Δ O (ex x O)) (h2 : c = false → Ev K E Ψ tb Δ O (ex y O)) (q : k (if c = true then x else y) O) : Ev K E Ψ (tIf tt ta tb) Δ O k :=
  ev_if h (fun hc => (h1 hc).imp fun d O' e => by rw [if_pos hc] at q; rw [e.1, e.2]; exact q) (fun hc => (h2 hc).imp fun d O' e => by rw [if_neg (by rw [hc]; decide)] at q; rw [e.1, e.2]; exact q)
theorem wv_chain {b1 : Bool} (h : Ev K E Ψ ta Δ O fun x O1 => Ev K E Ψ tb Δ O1 fun y O2 => OpD K E Ψ r x y O2 fun z O3 => ∃ c, z = .bl c ∧ (c = true → Ev K E Ψ tc Δ O3 fun w O4 => OpD K E Ψ r' y w O4 k) ∧ (c = false → k (.bl false) O3)) : Ev K E Ψ (tChain r r' ta tb tc) Δ O k :=
  fun σ F H a bb c e Q q => h σ F H a bb c e _ fun v F1 H1 x O1 g1 b1 k1 p1 => p1 σ F1 H1 (a.mono g1.ext) b1 g1.sub (e.step g1) _ fun u F2 H2 y O2 g2 b2 k2 p2 =>
    p2 F2 H2 v u b2 g2.sub (e.step (g1.trans g2)) (k1.mono g2.ext) k2 _ fun w F3 H3 z O3 g3 b3 k3 p3 => by
      obtain ⟨c', rfl, ht, hf⟩ := p3
      cases k3
      refine ⟨c', rfl, ?_⟩
      have g := (g1.trans g2).trans g3
      cases c' with
      | true =>
        refine iteT (ht rfl σ F3 H3 (a.mono g.ext) b3 g.sub (e.step g) _ fun w F4 H4 y' O4 g4 b4 k4 p4 => ?_)
        exact p4 F4 H4 u w b4 g4.sub (e.step (g.trans g4)) (k2.mono (g3.trans g4).ext) k4 Q fun w5 F5 H5 d5 O5 g5 b5 k5 p5 => q w5 F5 H5 d5 O5 ((g.trans g4).trans g5) b5 k5 p5
      | false => exact iteF (q _ F3 H3 _ O3 g b3 (.bl false) (hf rfl))
/-! tests -/
theorem wt_test (h : Ev K E Ψ te Δ O fun d O1 => ∃ c, d = .bl c ∧ kb c O1) : EvT K E Ψ (tTest te) Δ O kb := et_testG h
theorem wt_B (h : Ev K E Ψ te Δ O fun d O1 => ∃ c, d = .bl c ∧ kb c O1) : EvT K E Ψ (tB te) Δ O kb := et_testG h
theorem wt_not (h : EvT K E Ψ tt Δ O fun c O1 => kb (!c) O1) : EvT K E Ψ (tNot tt) Δ O kb := fun σ F H a bb c e Q q => h σ F H a bb c e _ fun v F1 H1 O1 g1 b1 p1 => q _ F1 H1 _ g1 b1 p1
theorem wt_and {t1 t2 : TT} (h : EvT K E Ψ t1 Δ O fun c O1 => (c = true → EvT K E Ψ t2 Δ O1 kb) ∧ (c = false → kb false O1)) : EvT K E Ψ (tAnd t1 t2) Δ O kb := et_andG h (fun _ q => q.1 rfl) (fun _ q => q.2 rfl)
theorem wt_or {t1 t2 : TT} (h : EvT K E Ψ t1 Δ O fun c O1 => (c = false → EvT K E Ψ t2 Δ O1 kb) ∧ (c = true → kb true O1)) : EvT K E Ψ (tOr t1 t2) Δ O kb := et_orG h (fun _ q => q.1 rfl) (fun _ q => q.2 rfl)
theorem wt_andP {t1 t2 : TT} {c c' : Bool} (h1 : EvT K E Ψ t1 Δ O (exb c O)) (h2 : c = true → EvT K E Ψ t2 Δ O (exb c' O)) (q : kb (c && c') O) : EvT K E Ψ (tAnd t1 t2) Δ O kb := (et_and h1 h2).imp fun _ _ e => by rw [e.1, e.2]; exact q
theorem wt_orP {t1 t2 : TT} {c c' : Bool} (h1 : EvT K E Ψ t1 Δ O (exb c O)) (h2 : c = false → EvT K E Ψ t2 Δ O (exb c' O)) (q : kb (c || c') O) : EvT K E Ψ (tOr t1 t2) Δ O kb := (et_or h1 h2).imp fun _ _ e => by rw [e.1, e.2]; exact q
/-! statements -/
theorem wp_seq (h : Sv K E Ψ t Δ O ⟨fun Δ' O' => Sv K E Ψ u Δ' O' ⟨nx, rt, bk, ct⟩, rt, bk, ct⟩) : Sv K E Ψ (tSeq t u) Δ O ⟨nx, rt, bk, ct⟩ := sv_seq (P := ⟨nx, rt, bk, ct⟩) (M := fun Δ' O' => Sv K E Ψ u Δ' O' ⟨nx, rt, bk, ct⟩) h fun _ _ m => m
theorem wp_next (h : nx Δ O) : Sv K E Ψ tNext Δ O ⟨nx, rt, bk, ct⟩ := sv_next h
theorem wp_brk (h : bk Δ O) : Sv K E Ψ tBreak Δ O ⟨nx, rt, bk, ct⟩ := sv_brk h
theorem wp_cont (h : ct Δ O) : Sv K E Ψ tCont Δ O ⟨nx, rt, bk, ct⟩ := sv_cont h
theorem wp_ret (h : Ev K E Ψ te Δ O rt) : Sv K E Ψ (tRet te) Δ O ⟨nx, rt, bk, ct⟩ := sv_ret h
theorem wp_retN (h : rt .non O) : Sv K E Ψ tRetN Δ O ⟨nx, rt, bk, ct⟩ := sv_retN h
theorem wp_set {i : Nat} (h : Ev K E Ψ te Δ O fun d O1 => nx (Δ.set i (some d)) O1) : Sv K E Ψ (tAsg te (gName i)) Δ O ⟨nx, rt, bk, ct⟩ := sv_set h fun _ _ q => q
theorem wp_asg {g : TG} (h : Ev K E Ψ te Δ O fun d O1 => ∃ js T, Gv K g d js T ∧ nx (T Δ) O1) : Sv K E Ψ (tAsg te g) Δ O ⟨nx, rt, bk, ct⟩ := fun σ F H D a b c e kk =>
  h σ F H a b c e _ fun v F1 H1 d O1 g1 b1 k1 p1 => by
    obtain ⟨js, T, hg, p⟩ := p1
    exact hg v σ H1 F1 Δ _ g1.sub k1 (a.mono g1.ext) fun σ' _ _ env => kk.nx σ' F1 H1 _ O1 g1 b1 env p
theorem wp_par {i j : Nat} (h : EvA K E Ψ tas Δ O fun ds O1 => ∃ a b, ds = [a, b] ∧ nx ((Δ.set i (some a)).set j (some b)) O1) : Sv K E Ψ (tPar i j tas) Δ O ⟨nx, rt, bk, ct⟩ := sv_par h fun _ _ q => q
theorem wp_par3 {i j l : Nat} (h : EvA K E Ψ tas Δ O fun ds O1 => ∃ a b c, ds = [a, b, c] ∧ nx (((Δ.set i (some a)).set j (some b)).set l (some c)) O1) : Sv K E Ψ (tPar3 i j l tas) Δ O ⟨nx, rt, bk, ct⟩ := fun σ F H D a b c e kk =>
  h σ F H a b c e _ fun v F1 H1 ds O1 g1 b1 k1 p1 => by
    obtain ⟨da, db, dc, rfl, q⟩ := p1
    cases k1 with
    | cons ka l =>
      cases l with
      | cons kb l =>
        cases l with
        | cons kc l =>
          cases l
          exact ⟨_, _, _, rfl, kk.nx _ F1 H1 _ O1 g1 b1 ((((a.mono g1.ext).set i ka).set j kb).set _ kc) q⟩
theorem wp_drop (h : Ev K E Ψ te Δ O fun _ O1 => nx Δ O1) : Sv K E Ψ (tDrop te) Δ O ⟨nx, rt, bk, ct⟩ := sv_drop h fun _ _ q => q
theorem wp_if (h : EvT K E Ψ tt Δ O fun c O1 => (c = true → Sv K E Ψ t Δ O1 ⟨nx, rt, bk, ct⟩) ∧ (c = false → Sv K E Ψ t' Δ O1 ⟨nx, rt, bk, ct⟩)) : Sv K E Ψ (tIfS tt t t') Δ O ⟨nx, rt, bk, ct⟩ := sv_ifG h (fun _ q => q.1 rfl) (fun _ q => q.2 rfl)
/-- a loop over the items ds -/
def ForOk (K : PySem.W.Frag) (E : XK) (Ψ : XPost) (tg : TG) (t : TS) (Δ : Env_) (O : Own) (ds : List Dt) (nx : Env_ → Own → Prop) (rt : Dt → Own → Prop) : Prop :=
  ∃ (α : Type) (us : List α) (g : α → Dt) (js : List Nat) (T : α → Env_ → Env_) (I : Nat → Env_ → Own → Prop), ds = us.map g ∧ (∀ u ∈ us, Gv K tg (g u) js (T u)) ∧ I 0 Δ O ∧
    (∀ (i : Nat) (u : α) (Δ' : Env_) (O' : Own), us[i]? = some u → I i Δ' O' → Sv K E Ψ t (T u Δ') O' ⟨I (i + 1), rt, nx, I (i + 1)⟩) ∧ ∀ Δ' O', I us.length Δ' O' → nx Δ' O'
theorem wp_for {wi : TI} {tg : TG} (h : Iv K E Ψ wi Δ O fun ds O1 => ForOk K E Ψ tg t Δ O1 ds nx rt) : Sv K E Ψ (tFor wi tg t) Δ O ⟨nx, rt, bk, ct⟩ := fun σ F H D a b c e kk =>
  h σ F H a b c e _ fun J G F1 H1 ds O1 g1 b1 hG hw hΘ => by
    obtain ⟨α, us, gg, js, T, I, rfl, hg, h0, hs, hd⟩ := hΘ
    refine L2.for_it hw (fun i σc Hc => ∃ Fc Oc Δc, Gw O1 F1 H1 Oc Fc Hc ∧ OwnOk K Fc Hc Oc ∧ EnvOk K Fc σc Δc ∧ I i Δc Oc) ⟨F1, O1, Δ, .refl g1.sub, b1, a.mono g1.ext, h0⟩
      (fun i σc Hc _ ⟨Fc, Oc, Δc, g, _⟩ => hG Hc (g.ext.trans g.sub)) ?_ (fun σc Hc ⟨Fc, Oc, Δc, g, bb, env, p⟩ => kk.nx σc Fc Hc Δc Oc (g1.trans g) bb env (hd Δc Oc (by rwa [List.length_map] at p)))
    rintro i x σc Hc Hc' hi ⟨Fc, Oc, Δc, g, bb, env, p⟩ y
    rw [List.length_map] at hi
    have hu : us[i]? = some us[i] := by simp [hi]
    have hd' : (us.map gg)[i]? = some (gg us[i]) := by rw [List.getElem?_map, hu]; rfl
    obtain ⟨F3, g3, b3, k3⟩ := y Fc Oc _ hd' g.ext g.sub bb
    refine hg us[i] (List.getElem_mem _) x σc Hc' F3 Δc _ g3.sub k3 (env.mono g3.ext) fun σ' _ _ env' => ?_
    have gg' := g.trans g3
    exact hs i us[i] Δc Oc hu p σ' F3 Hc' _ env' b3 g3.sub (e.step (g1.trans gg')) ⟨fun σ2 F4 H4 Δ2 O4 g4 b4 a4 m => ⟨F4, O4, Δ2, gg'.trans g4, b4, a4, m⟩, fun v F4 H4 d4 O4 g4 b4 k4 m => kk.rt v F4 H4 d4 O4 ((g1.trans gg').trans g4) b4 k4 m,
      fun σ2 F4 H4 Δ2 O4 g4 b4 a4 m => kk.nx σ2 F4 H4 Δ2 O4 ((g1.trans gg').trans g4) b4 a4 m, fun σ2 F4 H4 Δ2 O4 g4 b4 a4 m => ⟨F4, O4, Δ2, gg'.trans g4, b4, a4, m⟩⟩
theorem for_U {j : Nat} {α : Type} {us : List α} {g : α → Dt} (I : Nat → Env_ → Own → Prop) (h0 : I 0 Δ O) (hs : ∀ (i : Nat) (u : α) (Δ' : Env_) (O' : Own), us[i]? = some u → I i Δ' O' → Sv K E Ψ t (Δ'.set j (some (g u))) O' ⟨I (i + 1), rt, nx, I (i + 1)⟩)
    (hd : ∀ Δ' O', I us.length Δ' O' → nx Δ' O') : ForOk K E Ψ (gName j) t Δ O (us.map g) nx rt := ⟨α, us, g, [j], fun u Δ => Δ.set j (some (g u)), I, rfl, fun u _ => gv_name j, h0, hs, hd⟩
theorem for_R {j n : Nat} (I : Nat → Env_ → Own → Prop) (h0 : I 0 Δ O) (hs : ∀ (i : Nat) (Δ' : Env_) (O' : Own), i < n → I i Δ' O' → Sv K E Ψ t (Δ'.set j (some (.int (i : Int)))) O' ⟨I (i + 1), rt, nx, I (i + 1)⟩)
    (hd : ∀ Δ' O', I n Δ' O' → nx Δ' O') : ForOk K E Ψ (gName j) t Δ O ((List.range n).map fun (i : Nat) => Dt.int (i : Int)) nx rt := for_U I h0 (fun i u Δ' O' hu p => by
      have hi : i < n := by simpa using (List.getElem?_eq_some_iff.mp hu).1
      rw [List.getElem?_range hi] at hu
      cases hu
      exact hs i Δ' O' hi p) (fun Δ' O' p => hd Δ' O' (by rwa [List.length_range] at p))
theorem for_U2 {j l : Nat} {α : Type} {us : List α} {a b : α → Dt} (I : Nat → Env_ → Own → Prop) (h0 : I 0 Δ O) (hs : ∀ (i : Nat) (u : α) (Δ' : Env_) (O' : Own), us[i]? = some u → I i Δ' O' → Sv K E Ψ t ((Δ'.set j (some (a u))).set l (some (b u))) O' ⟨I (i + 1), rt, nx, I (i + 1)⟩)
    (hd : ∀ Δ' O', I us.length Δ' O' → nx Δ' O') : ForOk K E Ψ (gTup K 2 (gCons (gName j) (gCons (gName l) gNil))) t Δ O (us.map fun u => .tup [a u, b u]) nx rt := ⟨α, us, _, [j, l], fun u Δ => (Δ.set j (some (a u))).set l (some (b u)), I, rfl, fun u _ => gv_tup (gvs_cons (gv_name j) (gvs_cons (gv_name l) gvs_nil)) rfl, h0, hs, hd⟩
/-! what is walked -/
theorem Iv.imp {wi : TI} (h : Iv K E Ψ wi Δ O kl) {kl' : List Dt → Own → Prop} (q : ∀ ds O1, kl ds O1 → kl' ds O1) : Iv K E Ψ wi Δ O kl' := fun σ F H a b c e R w => h σ F H a b c e R fun J G F1 H1 ds O1 g1 b1 hG hw hΘ => w J G F1 H1 ds O1 g1 b1 hG hw (q ds O1 hΘ)
theorem wi_list (h : Ev K E Ψ te Δ O fun d O1 => ∃ ds, d = .lst ds ∧ kl ds O1) : Iv K E Ψ (iList K te) Δ O kl := iv_list h
theorem wi_tup (h : Ev K E Ψ te Δ O fun d O1 => ∃ ds, d = .tup ds ∧ kl ds O1) : Iv K E Ψ (iTup K te) Δ O kl := iv_tup h
def nt (n : Nat) : Dt := .int (n : Int)
abbrev rngN (n : Nat) : List Dt := (List.range n).map fun (i : Nat) => Dt.int (i : Int)
theorem rng_N (n : Nat) : rng 0 n = rngN n := by
  unfold rng rngN
  refine List.map_congr_left fun i _ => ?_
  rw [Int.zero_add]
theorem wi_rng1 (h : EvA K E Ψ tas Δ O fun xs O1 => ∃ n : Int, xs = [.int n] ∧ (0 ≤ n ∧ n < 100000) ∧ kl (rngN n.toNat) O1) : Iv K E Ψ (iRng1 tas) Δ O kl := fun σ F H a b c e R q =>
  h σ F H a b c e _ fun vs F1 H1 d O1 g1 b1 k1 p1 => by
    obtain ⟨n, rfl, hn, p⟩ := p1
    cases k1 with
    | cons k l =>
      cases k; cases l
      have w := L2.walk_range (lo := 0) (n := n.toNat)
      rw [← rng_len 0 n.toNat] at w
      refine ⟨n, rfl, by omega, by omega, q _ _ F1 H1 (rng 0 n.toNat) O1 g1 b1 (fun H2 e2 => trivial) ?_ (by rw [rng_N]; exact p)⟩
      rw [rng_len] at w ⊢
      exact w.mono (fun _ z => z) fun i H x H' _ _ y => yd_rng y
/-! comprehensions over typed items, frozen -/
def LcOk (K : PySem.W.Frag) (tg : TG) (tt : TT) (te : TE) (vs : List Nat) (Δ : Env_) (O : Own) (ds : List Dt) (k : Dt → Own → Prop) : Prop :=
  ∃ (α : Type) (us : List α) (g : α → Dt) (js : List Nat) (T : α → Env_ → Env_) (P : Nat → List Dt → Prop), ds = us.map g ∧ (∀ u ∈ us, Gv K tg (g u) js (T u)) ∧ (∀ j ∈ js, j ∈ vs) ∧ P 0 [] ∧
    (∀ (i : Nat) (u : α) (acc : List Dt), us[i]? = some u → P i acc → EvT K E0 X0 tt (T u (wipeD Δ vs)) O (fun b O1 => O1 = O ∧ (b = true → Ev K E0 X0 te (T u (wipeD Δ vs)) O (fun e O2 => O2 = O ∧ P (i + 1) (acc ++ [e]))) ∧ (b = false → P (i + 1) acc))) ∧
    ∀ res, P us.length res → k (.lst res) O
theorem ev_lcC {wi : TI} {tg : TG} {vs : List Nat} (hi : Iv K E Ψ wi Δ O fun ds O1 => ds.length ≤ 50000 ∧ LcOk K tg tt te vs Δ O1 ds k) : Ev K E Ψ (tLc wi tg tt te vs) Δ O (fun d O' => ∃ q ds O1, d = .ref q ∧ O' = (q, .lst ds) :: O1 ∧ k (.lst ds) O1) := fun σ F H a b c e Q q =>
  hi σ F H a b c e _ fun J G F1 H1 ds O1 g1 b1 hG hw hΘ => fun Dn hD => by
    obtain ⟨hl, α, us, g, js, T, P, rfl, hg, hj, h0, hs, hk⟩ := hΘ
    rw [List.length_map] at hl
    refine L2.lc_it hw (fun i Hc => ∃ Fc acc, Gw O1 F1 H1 (O1 ++ [(Dn, .lst acc)]) Fc Hc ∧ OwnOk K Fc Hc (O1 ++ [(Dn, .lst acc)]) ∧ acc.length ≤ i ∧ P i acc) ?_ ?_ ?_ ?_
    · have g2 := Gw.newOwn (O := O1) (o := .lst []) (u := .lst []) g1.sub hD
      have b2 := b1.newOwn (o := .lst []) (u := .lst []) g1.sub hD ⟨[], upd_same, .nil⟩
      exact ⟨F1, [], g2.permR (List.perm_append_comm (l₁ := [_])), b2.perm (List.perm_append_comm (l₁ := [_])), Nat.le_refl _, h0⟩
    · rintro i Hc _ ⟨Fc, acc, g, bb, _⟩
      exact hG Hc (g.ext.trans g.sub)
    · rintro i x Hc Hc' hi ⟨Fc, acc, gg, bb, hla, p⟩ y
      rw [List.length_map] at hi
      have hu : us[i]? = some us[i] := by simp [hi]
      have hd : (us.map g)[i]? = some (g us[i]) := by rw [List.getElem?_map, hu]; rfl
      obtain ⟨F3, g3, b3, k3⟩ := y Fc _ _ hd gg.ext gg.sub bb
      have env : EnvOk K F3 (L2.wipe σ vs) (wipeD Δ vs) := (a.mono (g1.ext.trans (gg.ext.trans g3.ext))).wipe vs
      refine hg us[i] (List.getElem_mem _) x (L2.wipe σ vs) Hc' F3 _ _ g3.sub k3 env fun σ' l1 m1 env' => ⟨?_, ?_⟩
      · rw [← wipe_wipe σ vs]
        exact wipe_eq l1 fun j hj' => m1 j fun z => hj' (hj j z)
      · refine et_frame (hs i us[i] acc hu p) (E' := E0) (Ψ := X0) σ' F3 Hc' env' b3 g3.sub .zero _ fun bt F4 H4 O4 g4 b4 p4 => ?_
        obtain ⟨O5, rfl, rfl, pt, pf⟩ := p4
        cases bt with
        | false => exact iteF ⟨F4, acc, (gg.trans g3).trans g4, b4, by omega, pf rfl⟩
        | true =>
          refine iteT (ev_frame (pt rfl) (E' := E0) (Ψ := X0) σ' F4 H4 (env'.mono g4.ext) b4 g4.sub .zero _ fun v F5 H5 de O6 g5 b5 k5 p5 => ?_)
          obtain ⟨O7, rfl, rfl, pn⟩ := p5
          have mem : (Dn, Ow.lst acc) ∈ O7 ++ [(Dn, Ow.lst acc)] := by simp
          obtain ⟨_, xs, hx, lx⟩ := b5.at_ _ _ mem
          have hi2 : (O7 ++ [(Dn, Ow.lst acc)])[O7.length]? = some (Dn, Ow.lst acc) := by simp
          have hset : (O7 ++ [(Dn, Ow.lst acc)]).set O7.length (Dn, Ow.lst (acc ++ [de])) = O7 ++ [(Dn, Ow.lst (acc ++ [de]))] := by simp
          obtain ⟨b6, hm⟩ := b5.mut (u := .lst (xs ++ [v])) (o' := .lst (acc ++ [de])) hi2 ⟨xs ++ [v], upd_same, lx.append (.one k5)⟩
          rw [hset] at b6 hm
          have g6 := Gw.mut (u := .lst (xs ++ [v])) b5 g5.sub (mem_addr mem) hm
          refine ⟨xs, hx, sz_lt (by rw [lx.length]; omega), F5, acc ++ [de], (((gg.trans g3).trans g4).trans g5).trans g6, b6, by simp; omega, pn⟩
    · rintro Hc ⟨Fc, acc, g, bb, hla, p⟩
      rw [List.length_map] at p
      exact q _ Fc Hc (.ref Dn) _ (g1.trans (g.permR (List.perm_append_comm (l₂ := [_])))) (bb.perm (List.perm_append_comm (l₂ := [_]))) (.ref Dn) ⟨Dn, acc, _, rfl, rfl, hk acc p⟩
theorem wv_lc {wi : TI} {tg : TG} {vs : List Nat} (hi : Iv K E Ψ wi Δ O fun ds O1 => ds.length ≤ 50000 ∧ LcOk K tg tt te vs Δ O1 ds k) : Ev K E Ψ (tLc wi tg tt te vs) Δ O k := ev_frzK (ev_lcC hi)
/-- .. the new list is owned -/
theorem wv_lcN {wi : TI} {tg : TG} {vs : List Nat} (hi : Iv K E Ψ wi Δ O fun ds O1 => ds.length ≤ 50000 ∧ LcOk K tg tt te vs Δ O1 ds (fun d O' => ∃ xs, d = .lst xs ∧ ∀ q, k (.ref q) ((q, .lst xs) :: O'))) : Ev K E Ψ (tLc wi tg tt te vs) Δ O k :=
  (ev_lcC hi).imp fun d O' ⟨q, ds, O1, e1, e2, xs, e3, h⟩ => by rw [e1, e2, Dt.lst.inj e3]; exact h q
section
variable {α β : Type} {us : List α} {g a b : α → Dt} {T : α → Env_ → Env_} {js vs : List Nat} {tg : TG} {j l : Nat}
theorem lc_G (T : α → Env_ → Env_) (js : List Nat) (f : β → Dt) (S : List α → List β → Prop) (hg : ∀ u, u ∈ us → Gv K tg (g u) js (T u)) (hj : ∀ j ∈ js, j ∈ vs) (h0 : S [] [])
    (hs : ∀ ps u bs, (ps ++ [u]) <+: us → S ps bs → EvT K E0 X0 tt (T u (wipeD Δ vs)) O (fun c O1 => O1 = O ∧ (c = true → Ev K E0 X0 te (T u (wipeD Δ vs)) O (fun d O2 => O2 = O ∧ ∃ b, d = f b ∧ S (ps ++ [u]) (bs ++ [b]))) ∧ (c = false → S (ps ++ [u]) bs)))
    (q : ∀ bs, S us bs → k (.lst (bs.map f)) O) : LcOk K tg tt te vs Δ O (us.map g) k := by
  refine ⟨α, us, g, js, T, fun i acc => ∃ bs : List β, acc = bs.map f ∧ S (us.take i) bs, rfl, hg, hj, ⟨[], rfl, h0⟩, ?_, ?_⟩
  · rintro i u acc hu ⟨bs, rfl, hS⟩
    have e : us.take (i + 1) = us.take i ++ [u] := by rw [List.take_add_one, hu]; rfl
    refine (hs (us.take i) u bs (by rw [← e]; exact List.take_prefix _ _) hS).imp fun c O1 hc => ⟨hc.1, fun hct => ?_, fun hcf => ⟨bs, rfl, by rw [e]; exact hc.2.2 hcf⟩⟩
    refine (hc.2.1 hct).imp fun d O2 hd => ?_
    obtain ⟨h1, b, rfl, h2⟩ := hd
    exact ⟨h1, bs ++ [b], by simp, by rw [e]; exact h2⟩
  · rintro _ ⟨bs, rfl, h4⟩
    rw [List.take_length] at h4
    exact q bs h4
theorem gv_two {i j : Nat} {a b : Dt} : Gv K (gTup K 2 (gCons (gName i) (gCons (gName j) gNil))) (.tup [a, b]) [i, j] (fun Δ => (Δ.set i (some a)).set j (some b)) := gv_tup (gvs_cons (gv_name i) (gvs_cons (gv_name j) gvs_nil)) rfl
/-- each item gives its element -/
theorem lc_X (T : α → Env_ → Env_) (js : List Nat) (f : α → Dt) (hg : ∀ u, u ∈ us → Gv K tg (g u) js (T u)) (hj : ∀ j ∈ js, j ∈ vs) (he : ∀ u, u ∈ us → Ev K E0 X0 te (T u (wipeD Δ vs)) O (ex (f u) O)) (q : k (.lst (us.map f)) O) : LcOk K tg tYes te vs Δ O (us.map g) k :=
  lc_G T js f (fun ps bs => bs = ps) hg hj rfl (fun ps u bs hp hS => et_yes.imp fun c O1 hc => ⟨hc.2, fun _ => (he u (hp.subset (by simp))).imp fun d O2 hd => ⟨hd.2, u, hd.1, by rw [hS]⟩, fun hf => by rw [hc.1] at hf; cases hf⟩) fun bs hS => by rw [hS]; exact q
theorem lc_U (f : α → Dt) (hj : j ∈ vs) (he : ∀ u, u ∈ us → Ev K E0 X0 te ((wipeD Δ vs).set j (some (g u))) O (ex (f u) O)) (q : k (.lst (us.map f)) O) : LcOk K (gName j) tYes te vs Δ O (us.map g) k :=
  lc_X (fun u Δ => Δ.set j (some (g u))) [j] f (fun u _ => gv_name j) (by simpa using hj) he q
theorem lc_U2 (f : α → Dt) (hj : j ∈ vs ∧ l ∈ vs) (he : ∀ u, u ∈ us → Ev K E0 X0 te (((wipeD Δ vs).set j (some (a u))).set l (some (b u))) O (ex (f u) O)) (q : k (.lst (us.map f)) O) : LcOk K (gTup K 2 (gCons (gName j) (gCons (gName l) gNil))) tYes te vs Δ O (us.map fun u => .tup [a u, b u]) k :=
  lc_X (fun u Δ => (Δ.set j (some (a u))).set l (some (b u))) [j, l] f (fun u _ => gv_two) (by simpa using hj) he q
theorem lc_FX (T : α → Env_ → Env_) (js : List Nat) (c : α → Bool) (f : α → Dt) (hg : ∀ u, u ∈ us → Gv K tg (g u) js (T u)) (hj : ∀ j ∈ js, j ∈ vs)
    (ht : ∀ u, u ∈ us → EvT K E0 X0 tt (T u (wipeD Δ vs)) O (exb (c u) O)) (he : ∀ u, u ∈ us → c u = true → Ev K E0 X0 te (T u (wipeD Δ vs)) O (ex (f u) O)) (q : k (.lst ((us.filter c).map f)) O) : LcOk K tg tt te vs Δ O (us.map g) k :=
  lc_G T js f (fun ps bs => bs = ps.filter c) hg hj rfl (fun ps u bs hp hS => by
    have hm := hp.subset (show u ∈ ps ++ [u] by simp)
    refine (ht u hm).imp fun b O1 hb => ⟨hb.2, fun hbt => ?_, fun hbf => ?_⟩
    · have hc : c u = true := by rw [← hb.1]; exact hbt
      exact (he u hm hc).imp fun d O2 hd => ⟨hd.2, u, hd.1, by rw [hS]; simp [List.filter_append, hc]⟩
    · have hc : c u = false := by rw [← hb.1]; exact hbf
      rw [hS]; simp [List.filter_append, hc]) fun bs hS => by rw [hS]; exact q
theorem lc_F (c : α → Bool) (f : α → Dt) (hj : j ∈ vs) (ht : ∀ u, u ∈ us → EvT K E0 X0 tt ((wipeD Δ vs).set j (some (g u))) O (exb (c u) O)) (he : ∀ u, u ∈ us → c u = true → Ev K E0 X0 te ((wipeD Δ vs).set j (some (g u))) O (ex (f u) O)) (q : k (.lst ((us.filter c).map f)) O) : LcOk K (gName j) tt te vs Δ O (us.map g) k :=
  lc_FX (fun u Δ => Δ.set j (some (g u))) [j] c f (fun u _ => gv_name j) (by simpa using hj) ht he q
theorem lc_F2 (c : α → Bool) (f : α → Dt) (hj : j ∈ vs ∧ l ∈ vs) (ht : ∀ u, u ∈ us → EvT K E0 X0 tt (((wipeD Δ vs).set j (some (a u))).set l (some (b u))) O (exb (c u) O)) (he : ∀ u, u ∈ us → c u = true → Ev K E0 X0 te (((wipeD Δ vs).set j (some (a u))).set l (some (b u))) O (ex (f u) O)) (q : k (.lst ((us.filter c).map f)) O) : LcOk K (gTup K 2 (gCons (gName j) (gCons (gName l) gNil))) tt te vs Δ O (us.map fun u => .tup [a u, b u]) k :=
  lc_FX (fun u Δ => (Δ.set j (some (a u))).set l (some (b u))) [j, l] c f (fun u _ => gv_two) (by simpa using hj) ht he q
/-- over a range -/
theorem lc_R {n : Nat} (f : Nat → Dt) (hj : j ∈ vs) (he : ∀ i, i < n → Ev K E0 X0 te ((wipeD Δ vs).set j (some (.int (i : Int)))) O (ex (f i) O)) (q : k (.lst ((List.range n).map f)) O) : LcOk K (gName j) tYes te vs Δ O ((List.range n).map fun (i : Nat) => Dt.int (i : Int)) k :=
  lc_U f hj (fun u hu => he u (List.mem_range.mp hu)) q
theorem lc_RF {n : Nat} (c : Nat → Bool) (f : Nat → Dt) (hj : j ∈ vs) (ht : ∀ i, i < n → EvT K E0 X0 tt ((wipeD Δ vs).set j (some (.int (i : Int)))) O (exb (c i) O)) (he : ∀ i, i < n → c i = true → Ev K E0 X0 te ((wipeD Δ vs).set j (some (.int (i : Int)))) O (ex (f i) O)) (q : k (.lst (((List.range n).filter c).map f)) O) : LcOk K (gName j) tt te vs Δ O ((List.range n).map fun (i : Nat) => Dt.int (i : Int)) k :=
  lc_F c f hj (fun u hu => ht u (List.mem_range.mp hu)) (fun u hu => he u (List.mem_range.mp hu)) q
/-- the test is drawn: some of the items -/
theorem lc_S (f : α → Dt) (hj : j ∈ vs) (ht : ∀ u, u ∈ us → EvT K E0 X0 tt ((wipeD Δ vs).set j (some (g u))) O (fun _ O1 => O1 = O)) (he : ∀ u, u ∈ us → Ev K E0 X0 te ((wipeD Δ vs).set j (some (g u))) O (ex (f u) O)) (q : ∀ bs : List α, bs.Sublist us → k (.lst (bs.map f)) O) : LcOk K (gName j) tt te vs Δ O (us.map g) k :=
  lc_G (fun u Δ => Δ.set j (some (g u))) [j] f (fun ps bs => bs.Sublist ps) (fun u _ => gv_name j) (by simpa using hj) (List.Sublist.refl _) (fun ps u bs hp hS => by
    have hm := hp.subset (show u ∈ ps ++ [u] by simp)
    exact (ht u hm).imp fun b O1 hb => ⟨hb, fun _ => (he u hm).imp fun d O2 hd => ⟨hd.2, u, hd.1, List.Sublist.append hS (List.Sublist.refl _)⟩, fun _ => List.Sublist.trans hS (List.sublist_append_left _ _)⟩) q
/-- what each item gives may be any: with a property -/
theorem lc_P (f : β → Dt) (S : α → β → Prop) (hj : j ∈ vs) (he : ∀ u, u ∈ us → Ev K E0 X0 te ((wipeD Δ vs).set j (some (g u))) O (fun d O' => O' = O ∧ ∃ b, d = f b ∧ S u b)) (q : ∀ bs : List β, Paired S us bs → k (.lst (bs.map f)) O) : LcOk K (gName j) tYes te vs Δ O (us.map g) k :=
  lc_G (fun u Δ => Δ.set j (some (g u))) [j] f (Paired S) (fun u _ => gv_name j) (by simpa using hj) .nil (fun ps u bs hp hS => et_yes.imp fun c O1 hc => ⟨hc.2, fun _ => (he u (hp.subset (by simp))).imp fun d O2 hd => by
    obtain ⟨h1, b, h2, h3⟩ := hd
    exact ⟨h1, b, h2, hS.snoc h3⟩, fun hf => by rw [hc.1] at hf; cases hf⟩) q
end
/-- enumerate, zip -/
abbrev enD (ds : List Dt) : List Dt := ds.zipIdx.map fun p => Dt.tup [.int (p.2 : Int), p.1]
abbrev zipD2 (ds es : List Dt) : List Dt := (ds.zip es).map fun p => Dt.tup [p.1, p.2]
theorem yd_pair {f g : Nat → Option V} {ds : List Dt} (hd : ∀ i d, ds[i]? = some d → ∃ a b, d = .tup [a, b] ∧ (∀ x, f i = some x → Dat K F1 x a) ∧ ∀ x, g i = some x → Dat K F1 x b) {i : Nat} {H H' : Hp} {x : V} (y : L2.YPair f g i H x H') : YD K F1 ds i H x H' := fun F2 O2 d e e1 e2 bb => by
  obtain ⟨T, u, v, rfl, hn, rfl, hu, hv⟩ := y
  obtain ⟨a, b', rfl, ha, hb⟩ := hd i d e
  have g := Gw.new (O := O2) (u := .tup [u, v]) e2 hn
  exact ⟨_, g, bb.new e2 hn, .tup (.of upd_same) (.cons ((ha u hu).mono (e1.trans g.ext)) (.cons ((hb v hv).mono (e1.trans g.ext)) .nil))⟩
theorem wi_enum (h : EvA K E Ψ tas Δ O fun xs O1 => ∃ ds, xs = [.lst ds] ∧ kl (enD ds) O1) : Iv K E Ψ (iEnum K tas) Δ O kl := fun σ F H a b c e R q =>
  h σ F H a b c e _ fun vs F1 H1 d O1 g1 b1 k1 p1 => by
    obtain ⟨ds, rfl, p⟩ := p1
    cases k1 with
    | cons k l =>
      cases l
      cases k with
      | lst hx l =>
        rename_i ad xs
        have w := L2.walk_enum (K := K) (a := ad) (xs := xs)
        have hlen : (enD ds).length = xs.length := by simp [enD, l.length]
        rw [← hlen] at w
        refine ⟨_, _, rfl, .of (g1.sub _ _ hx), q _ _ F1 H1 (enD ds) O1 g1 b1 (fun H2 e2 => SqL.of (e2 _ _ hx)) (w.mono (fun _ z => z) fun i H x H' _ _ y => yd_pair ?_ y) p⟩
        intro i d hd
        unfold enD at hd
        rw [List.getElem?_map, List.getElem?_zipIdx] at hd
        cases hdi : ds[i]? with
        | none => rw [hdi] at hd; cases hd
        | some z =>
          rw [hdi] at hd
          cases hd
          refine ⟨_, _, rfl, fun x hx' => ?_, fun x hx' => ?_⟩
          · cases hx'
            rw [Nat.zero_add]
            exact .int _
          · obtain ⟨v, hv, kv⟩ := l.get hdi
            rw [hv] at hx'
            cases hx'
            exact kv
theorem wi_zip (h : EvA K E Ψ tas Δ O fun xs O1 => ∃ ds es, xs = [.lst ds, .lst es] ∧ kl (zipD2 ds es) O1) : Iv K E Ψ (iZip K tas) Δ O kl := fun σ F H a b c e R q =>
  h σ F H a b c e _ fun vs F1 H1 d O1 g1 b1 k1 p1 => by
    obtain ⟨ds, es, rfl, p⟩ := p1
    cases k1 with
    | cons k l =>
      cases l with
      | cons k' l =>
        cases l
        cases k with
        | lst hx l =>
          cases k' with
          | lst hy l' =>
            rename_i ad xs ae ys
            have hlen : (zipD2 ds es).length = min xs.length ys.length := by simp [zipD2, l.length, l'.length]
            have w := L2.walk_zip (K := K) (a := ad) (b := ae) (xs := xs) (ys := ys) hlen
            refine ⟨_, _, _, _, rfl, .of (g1.sub _ _ hx), .of (g1.sub _ _ hy), q _ _ F1 H1 (zipD2 ds es) O1 g1 b1 (fun H2 e2 => ⟨SqL.of (e2 _ _ hx), SqL.of (e2 _ _ hy)⟩) (w.mono (fun _ z => z) fun i H x H' _ _ y => yd_pair ?_ y) p⟩
            intro i d hd
            unfold zipD2 at hd
            rw [List.getElem?_map] at hd
            cases hdi : (ds.zip es)[i]? with
            | none => rw [hdi] at hd; cases hd
            | some z =>
              rw [hdi] at hd
              cases hd
              obtain ⟨h1, h2⟩ := List.getElem?_zip_eq_some.mp hdi
              refine ⟨_, _, rfl, fun x hx' => ?_, fun x hx' => ?_⟩
              · obtain ⟨v, hv, kv⟩ := l.get h1
                rw [hv] at hx'
                cases hx'
                exact kv
              · obtain ⟨v, hv, kv⟩ := l'.get h2
                rw [hv] at hx'
                cases hx'
                exact kv
/-- dicts whose keys are tuples of whole numbers -/
abbrev tI (ns : List Int) : Dt := .tup (ns.map .int)
theorem cad_ditMk {Pr : Program} {w : World} {prs : List (List Int × Dt)} (hx : LstOf O x (prs.map fun p => .tup [tI p.1, p.2])) (hn : (prs.map (·.1)).Nodup) (q : ∀ p, k (.ref p) ((p, .dit Pr w prs) :: O)) : CaD K E Ψ (rDitMk K Pr w) [x] O k := fun F H vs b c e k1 Q qq => by
  cases k1 with
  | cons k1 l1 =>
    cases l1
    obtain ⟨l, zs, rfl, hz, lz⟩ := hx.read b c k1
    have key : ∀ (prs : List (List Int × Dt)) (zs : List V), DatL K F zs (prs.map fun p => .tup [tI p.1, p.2]) → ∃ (ps : List Addr) (kvs : List DE), zs = ps.map V.ref ∧ Paired (fun p (kv : DE) => SqT K H p [.ref kv.2.1, kv.2.2] ∧ SqT K H kv.2.1 (kv.1.map V.int)) ps kvs ∧ kvs.map (·.1) = prs.map (·.1) ∧ Paired (fun (kv : DE) (k : List Int × Dt) => kv.1 = k.1 ∧ SqT K F kv.2.1 (kv.1.map V.int) ∧ Dat K F kv.2.2 k.2) kvs prs := by
      intro prs
      induction prs with
      | nil => intro zs h; cases h; exact ⟨[], [], rfl, .nil, rfl, .nil⟩
      | cons p prs ih =>
        intro zs h
        cases h with
        | cons h1 h2 =>
          obtain ⟨ps, kvs, rfl, i1, i2, i3⟩ := ih _ h2
          cases h1 with
          | tup s1 l1 =>
            cases l1 with
            | cons m1 m2 =>
              cases m2 with
              | cons m3 m4 =>
                cases m4
                cases m1 with
                | tup s2 l2 =>
                  have := l2.ints_inv
                  subst this
                  exact ⟨_ :: ps, (p.1, _, _) :: kvs, rfl, .cons ⟨Evl.ex_t c s1, Evl.ex_t c s2⟩ i1, by simp [i2], .cons ⟨rfl, s2, m3⟩ i3⟩
    obtain ⟨ps, kvs, rfl, i1, i2, i3⟩ := key prs zs lz
    refine ⟨l, ps, kvs, rfl, .of hz, i1, by rw [i2]; exact hn, fun p hp => ?_⟩
    exact qq _ F _ (.ref p) ((p, .dit Pr w prs) :: O) (Gw.newOwn c hp) (b.newOwn c hp (o := .dit Pr w prs) ⟨kvs, upd_same, i3⟩) (.ref p) (q p)
theorem opd_ditIx {Pr : Program} {w : World} {ks : List (List Int × Dt)} {ns : List Int} {i : Nat} (m : (p, Ow.dit Pr w ks) ∈ O) (hi : ks[i]? = some (ns, z)) : OpD K E Ψ (rDitIx K Pr w) (.ref p) (tI ns) O (ex z O) := fun F H v u b c e k1 k2 Q qq => by
  cases k1
  cases k2 with
  | tup s l =>
    rw [l.ints_inv] at s
    obtain ⟨_, kvs, hp, pr⟩ := b.at_ p _ m
    obtain ⟨kv, hkv, e1, e2, e3⟩ := Paired.getR pr hi
    refine ⟨p, _, kvs, ns, i, kv.2.1, kv.2.2, rfl, rfl, hp, fun kv' m' => ?_, Evl.ex_t c s, ?_, qq _ F H z O (.refl c) b e3 ⟨rfl, rfl⟩⟩
    · obtain ⟨j, hj⟩ := List.getElem?_of_mem m'
      obtain ⟨k', _, _, f2, _⟩ := Paired.getL pr hj
      exact Evl.ex_t c f2
    · rw [hkv]
      simp only at e1
      rw [← e1]
/-! calls of the program's own defs -/
theorem wv_call {pre : Pre} {ts : TA} (h : EvA K E Ψ ts Δ O fun ds O1 => ∃ Oa R Φ1, O1.Perm (Oa ++ R) ∧ pre ds Oa Φ1 X0 ∧ ∀ d O2, Φ1 d O2 → ∃ O3, (O2 ++ R).Perm O3 ∧ k d O3) : Ev K E Ψ (tCall (mkSp K pre) [] E' ts) Δ O k := fun σ F H a b c e Q q => h σ F H a b c e _ fun vs F1 H1 ds O1 g1 b1 k1 p1 => by
  obtain ⟨Oa, R, Φ1, hp, h1, h3⟩ := p1
  rw [List.append_nil]
  have b1' := b1.perm hp
  have g1' := g1.permR hp
  refine ⟨F1, ds, Oa, Φ1, X0, k1, b1'.left, g1.sub, h1, .zero, fun v F' H' d O' g2 b2 k2 p2 => ?_⟩
  obtain ⟨O3, hO3, hk⟩ := h3 d O' p2
  exact q v F' H' d O3 ((g1'.trans g2.frame).permR hO3) ((b1'.frame g2 b2).perm hO3) k2 hk
/-- nothing owned -/
theorem wv_callE {pre : Pre} {ts : TA} (h : EvA K E Ψ ts Δ O fun ds O1 => ∃ z, pre ds [] (ex z []) X0 ∧ k z O1) : Ev K E Ψ (tCall (mkSp K pre) [] E' ts) Δ O k :=
  wv_call (h.imp fun ds O1 ⟨z, p, q⟩ => ⟨[], O1, ex z [], .refl _, p, fun d O2 e => ⟨O1, by rw [e.2]; exact .refl _, by rw [e.1]; exact q⟩⟩)
theorem wv_call1 {C : Dt → Prop} {f : Dt → Dt} {ts : TA} (h : EvA K E Ψ ts Δ O fun ds O1 => ∃ d, ds = [d] ∧ C d ∧ k (f d) O1) : Ev K E Ψ (tCall (mkSp K (pre1 C f)) [] E' ts) Δ O k :=
  wv_callE (h.imp fun ds O1 ⟨d, e, c, q⟩ => ⟨f d, ⟨d, e, c, rfl, rfl, rfl⟩, q⟩)
theorem wv_call2 {C : Dt → Dt → Prop} {f : Dt → Dt → Dt} {ts : TA} (h : EvA K E Ψ ts Δ O fun ds O1 => ∃ d e, ds = [d, e] ∧ C d e ∧ k (f d e) O1) : Ev K E Ψ (tCall (mkSp K (pre2 C f)) [] E' ts) Δ O k :=
  wv_callE (h.imp fun ds O1 ⟨d, e', e, c, q⟩ => ⟨f d e', ⟨d, e', e, c, rfl, rfl, rfl⟩, q⟩)
/-- with the bag; the rest stays as it stands -/
theorem wv_callB {C : List Dt → Prop} {S : List Dt → Dt → Prop} {ts : TA} (h : EvA K E Ψ ts Δ O fun ds O1 => ∃ b es, ds = .ref b :: es ∧ (b, Ow.bag) ∈ O1 ∧ C es ∧ ∀ d, S es d → k d O1) : Ev K E Ψ (tCall (mkSp K (preB C S)) [] E' ts) Δ O k :=
  wv_call (h.imp fun ds O1 ⟨b, es, e, m, c, q⟩ => by
    obtain ⟨A, B, rfl⟩ := List.append_of_mem m
    refine ⟨[(b, .bag)], A ++ B, _, List.perm_middle, ⟨b, es, e, c, rfl, rfl, rfl⟩, fun d O2 p => ⟨A ++ (b, .bag) :: B, ?_, q d p.1⟩⟩
    rw [p.2]
    exact (List.perm_middle (a := (b, Ow.bag)) (l₁ := A) (l₂ := B)).symm)
theorem wv_take {ts : TA} (h : EvA K E Ψ ts Δ O fun ds O1 => ∃ b n, ds = [.ref b, .int n] ∧ (b, Ow.bag) ∈ O1 ∧ (0 < n ∧ n < 1073741824) ∧ ∀ r : Nat, (r : Int) < n → k (.int (r : Int)) O1) : Ev K E Ψ (tCall (mkSp K preTake) [] E' ts) Δ O k :=
  wv_call (h.imp fun ds O1 ⟨b, n, e, m, c, q⟩ => by
    obtain ⟨A, B, rfl⟩ := List.append_of_mem m
    refine ⟨[(b, .bag)], A ++ B, _, List.perm_middle, ⟨b, n, e, c.1, c.2, rfl, rfl, rfl⟩, fun d O2 p => ⟨A ++ (b, .bag) :: B, ?_, ?_⟩⟩
    · rw [p.2]
      exact (List.perm_middle (a := (b, Ow.bag)) (l₁ := A) (l₂ := B)).symm
    · obtain ⟨⟨r, rfl, h0, h1⟩, _⟩ := p
      have := q r.toNat (by omega)
      rwa [Int.toNat_of_nonneg h0] at this)
/-- a new instance -/
theorem wv_make {C : Addr} {cond : List Dt → Prop} {fl : List Dt → List (Str × Dt)} {ts : TA} (h : EvA K E Ψ ts Δ O fun ds O1 => O1 = O ∧ cond ds ∧ k (.obj C (fl ds)) O) : Ev K E Ψ (tMake C (mkSp K (preI C cond fl)) [] E' ts) Δ O k :=
  (ev_makeG (Θ := fun ds => cond ds ∧ k (.obj C (fl ds)) O) (h.imp fun ds O1 ⟨a, b, c⟩ => ⟨⟨b, c⟩, a⟩) (fun _ q => q.1)).imp fun d O' ⟨⟨ds, q, e⟩, e2⟩ => by rw [e, e2]; exact q.2
/-! tuple(range(..)), list(range(..)), tuple(xs) -/
theorem rgV_dat {n : Int} : DatL K F (L2.rgV 0 n) (rngN n.toNat) := by
  have h : ∀ l : List Nat, DatL K F (l.map fun (i : Nat) => V.int (0 + (i : Int))) (l.map fun (i : Nat) => Dt.int (i : Int)) := fun l => by
    induction l with
    | nil => exact .nil
    | cons a l ih => simp only [List.map_cons, Int.zero_add] at ih ⊢; exact .cons (.int _) ih
  unfold L2.rgV rngN
  rw [Int.sub_zero]
  exact h _
theorem wv_tupRg (h : Ev K E Ψ te Δ O fun d O1 => ∃ n : Int, d = .int n ∧ (0 ≤ n ∧ n < 100000) ∧ k (.tup (rngN n.toNat)) O1) : Ev K E Ψ (L2.tTupRg (L2.tRg1 te)) Δ O k := fun σ F H a b c e Q q =>
  h σ F H a b c e _ fun v F1 H1 d O1 g1 b1 k1 p1 => by
    obtain ⟨n, rfl, hn, p⟩ := p1
    cases k1
    refine ⟨n, rfl, RgOk.of_le (by omega) (by omega) (by omega) (by omega), fun z hz => ?_⟩
    exact q _ _ _ (.tup _) O1 (g1.trans (Gw.new g1.sub hz)) (b1.new g1.sub hz) (.tup (.of upd_same) rgV_dat) p
theorem wv_lstRg (h : Ev K E Ψ te Δ O fun d O1 => ∃ n : Int, d = .int n ∧ (0 ≤ n ∧ n < 100000) ∧ k (.lst (rngN n.toNat)) O1) : Ev K E Ψ (L2.tLstRg (L2.tRg1 te)) Δ O k := fun σ F H a b c e Q q =>
  h σ F H a b c e _ fun v F1 H1 d O1 g1 b1 k1 p1 => by
    obtain ⟨n, rfl, hn, p⟩ := p1
    cases k1
    refine ⟨n, rfl, RgOk.of_le (by omega) (by omega) (by omega) (by omega), fun z hz => ?_⟩
    exact q _ _ _ (.lst _) O1 (g1.trans (Gw.new g1.sub hz)) (b1.new g1.sub hz) (.lst upd_same rgV_dat) p
theorem cad_tupleL (hs : LstOf O x ds) : CaD K E Ψ (fun xs H Q => ∃ p ys, xs = [V.ref p] ∧ ((SqL K H p ys ∧ ∀ l : Addr, H l = none → Q (V.ref l) (upd H l (HO.tup ys))) ∨ SqT K H p ys ∧ Q (V.ref p) H)) [x] O (ex (.tup ds) O) := cad_newT fun F H vs b c k => by
  cases k with
  | cons k l =>
    cases l
    obtain ⟨a, xs, rfl, h, l⟩ := hs.read b c k
    exact ⟨xs, l, fun Q q => ⟨a, xs, rfl, .inl ⟨.of h, q⟩⟩⟩
theorem wv_sortsetT {Pr : Program} {w : World} {nss : List (List Int)} (ha : EvA K E Ψ tas Δ O (fun xs O1 => xs = [.lst ds] ∧ O1 = O)) (he : ds = nss.map tI) (hl : nss.length < 64)
    (q : ∀ mss : List (List Int), mss.Nodup → (∀ a, a ∈ mss ↔ a ∈ nss) → k (.lst (mss.map tI)) O) : Ev K E Ψ (tCB (rSortST K Pr w) (tCons (tCB (L2.rSetOfT K Pr w) tas) tNil)) Δ O k := by
  subst he
  refine ev_frzK ((ev_sortsetT (Pr := Pr) (w := w) (x := .lst (nss.map tI)) (nss := nss) (ha.imp fun xs O1 e => ⟨e.1, lo_lst, e.2⟩) hl).imp ?_)
  rintro d O' ⟨z, mss, rfl, rfl, _, h2, h3⟩
  exact ⟨z, _, O, rfl, rfl, q mss h2 h3⟩
theorem gv_three {i j l : Nat} {a b c : Dt} : Gv K (gTup K 3 (gCons (gName i) (gCons (gName j) (gCons (gName l) gNil)))) (.tup [a, b, c]) [i, j, l] (fun Δ => ((Δ.set i (some a)).set j (some b)).set l (some c)) := gv_tup (gvs_cons (gv_name i) (gvs_cons (gv_name j) (gvs_cons (gv_name l) gvs_nil))) rfl
theorem wp_asg2 {i j : Nat} (h : Ev K E Ψ te Δ O fun d O1 => ∃ a b, d = .tup [a, b] ∧ nx ((Δ.set i (some a)).set j (some b)) O1) : Sv K E Ψ (tAsg te (gTup K 2 (gCons (gName i) (gCons (gName j) gNil)))) Δ O ⟨nx, rt, bk, ct⟩ :=
  wp_asg (h.imp fun d O1 ⟨a, b, e, q⟩ => by subst e; exact ⟨_, _, gv_two, q⟩)
theorem wp_asg3 {i j l : Nat} (h : Ev K E Ψ te Δ O fun d O1 => ∃ a b c, d = .tup [a, b, c] ∧ nx (((Δ.set i (some a)).set j (some b)).set l (some c)) O1) : Sv K E Ψ (tAsg te (gTup K 3 (gCons (gName i) (gCons (gName j) (gCons (gName l) gNil))))) Δ O ⟨nx, rt, bk, ct⟩ :=
  wp_asg (h.imp fun d O1 ⟨a, b, c, e, q⟩ => by subst e; exact ⟨_, _, gv_three, q⟩)
theorem sv_assoc2 {v : TS} (h : Sv K E Ψ (tSeq (tSeq t u) v) Δ O P) : Sv K E Ψ (tSeq t (tSeq u v)) Δ O P := h
/-- what is returned may leave owned objects behind -/
theorem sv_rtF (h : Sv K E Ψ t Δ O ⟨nx, fun d O' => ∃ O'', O''.Sublist O' ∧ rt d O'', bk, ct⟩) : Sv K E Ψ t Δ O ⟨nx, rt, bk, ct⟩ := fun σ F H D a b c e kk =>
  h σ F H D a b c e ⟨kk.nx, fun v F' H' d O' g b' k' ⟨O'', s, p⟩ => kk.rt v F' H' d O'' (g.forget s) (b'.forget s) k' p, kk.bk, kk.ct⟩
end
end FF
set_option Elab.async false
set_option linter.all false
set_option maxRecDepth 100000
set_option maxHeartbeats 1000000
namespace FF
open PySem PySem.Spec PyProof.Rows L2
/-! sets as ascending lists -/
def Asc (ns : List Int) : Prop := ns.Pairwise (· < ·)
theorem asc_ext : ∀ {xs ys : List Int}, Asc xs → Asc ys → (∀ k, k ∈ xs ↔ k ∈ ys) → xs = ys
  | [], [], _, _, _ => rfl
  | [], y :: ys, _, _, h => absurd ((h y).mpr (List.mem_cons_self ..)) (by simp)
  | x :: xs, [], _, _, h => absurd ((h x).mp (List.mem_cons_self ..)) (by simp)
  | x :: xs, y :: ys, hx, hy, h => by
    have hx' := List.pairwise_cons.mp hx
    have hy' := List.pairwise_cons.mp hy
    have e : x = y := by
      rcases List.mem_cons.mp ((h x).mp (List.mem_cons_self ..)) with e | m
      · exact e
      · rcases List.mem_cons.mp ((h y).mpr (List.mem_cons_self ..)) with e | m'
        · exact e.symm
        · have := hy'.1 x m
          have := hx'.1 y m'
          omega
    subst e
    refine congrArg _ (asc_ext hx'.2 hy'.2 fun k => ⟨fun m => ?_, fun m => ?_⟩)
    · rcases List.mem_cons.mp ((h k).mp (List.mem_cons_of_mem _ m)) with e | m'
      · subst e; exact absurd (hx'.1 k m) (by omega)
      · exact m'
    · rcases List.mem_cons.mp ((h k).mpr (List.mem_cons_of_mem _ m)) with e | m'
      · subst e; exact absurd (hy'.1 k m) (by omega)
      · exact m'
theorem Asc.nodup {xs : List Int} (h : Asc xs) : xs.Nodup := List.Pairwise.imp (fun h e => by omega) h
/-- an ascending list of the members of xs -/
def asc (xs : List Int) : List Int := xs.eraseDups.mergeSort fun a b => decide (a ≤ b)
theorem mem_asc {xs : List Int} {k : Int} : k ∈ asc xs ↔ k ∈ xs := by
  unfold asc
  rw [List.mem_mergeSort, List.mem_eraseDups]
theorem nodup_eraseDups : ∀ (n : Nat) (l : List Int), l.length ≤ n → l.eraseDups.Nodup
  | 0, [], _ => by simp
  | n + 1, [], _ => by simp
  | n + 1, a :: l, h => by
    rw [List.eraseDups_cons, List.nodup_cons]
    refine ⟨fun m => ?_, nodup_eraseDups n _ (Nat.le_trans (List.length_filter_le ..) (by simpa using h))⟩
    rw [List.mem_eraseDups, List.mem_filter] at m
    simp at m
theorem asc_asc (xs : List Int) : Asc (asc xs) := by
  have h1 : (asc xs).Pairwise (fun a b => decide (a ≤ b) = true) := List.pairwise_mergeSort (fun a b c => by simpa using fun h1 h2 => Int.le_trans h1 h2) (fun a b => by simpa using Int.le_total a b) _
  have h2 : (asc xs).Nodup := by
    unfold asc
    exact (List.mergeSort_perm _ _).nodup_iff.mpr (nodup_eraseDups _ _ (Nat.le_refl _))
  exact (List.Pairwise.and h1 h2).imp fun ⟨a, b⟩ => by
    have := of_decide_eq_true a
    omega
def uni (xs ys : List Int) : List Int := asc (xs ++ ys)
theorem mem_uni {xs ys : List Int} {k : Int} : k ∈ uni xs ys ↔ k ∈ xs ∨ k ∈ ys := by unfold uni; rw [mem_asc, List.mem_append]
theorem asc_uni (xs ys : List Int) : Asc (uni xs ys) := asc_asc _
theorem uni_self {xs : List Int} (h : Asc xs) : uni xs xs = xs := asc_ext (asc_uni ..) h fun k => by rw [mem_uni, or_self]
theorem uni_comm (xs ys : List Int) : uni xs ys = uni ys xs := asc_ext (asc_uni ..) (asc_uni ..) fun k => by rw [mem_uni, mem_uni, or_comm]
theorem uni_assoc (xs ys zs : List Int) : uni (uni xs ys) zs = uni xs (uni ys zs) := asc_ext (asc_uni ..) (asc_uni ..) fun k => by simp only [mem_uni, or_assoc]
/-- few members, if all lie below n -/
theorem nat_few : ∀ (n : Nat) (l : List Nat), l.Nodup → (∀ x ∈ l, x < n) → l.length ≤ n
  | 0, [], _, _ => Nat.le_refl _
  | 0, a :: l, _, h => absurd (h a (List.mem_cons_self ..)) (by omega)
  | n + 1, l, hn, h => by
    have ih := nat_few n (l.erase n) (hn.erase n) fun x m => by
      have := (hn.mem_erase_iff).mp m
      have := h x this.2
      omega
    have := List.length_erase (a := n) (l := l)
    split at this <;> omega
theorem int_few {n : Nat} {ks : List Int} (h : ∀ u ∈ ks, 0 ≤ u ∧ u < n) (hn : ks.Nodup) : ks.length ≤ n := by
  have h1 : (ks.map Int.toNat).Nodup := by
    rw [List.nodup_iff_pairwise_ne] at hn ⊢
    rw [List.pairwise_map]
    exact hn.imp_of_mem fun {a b} ma mb hab e => hab (by have := (h a ma).1; have := (h b mb).1; omega)
  have := nat_few n (ks.map Int.toNat) h1 fun x m => by
    obtain ⟨u, mu, rfl⟩ := List.mem_map.mp m
    have := h u mu
    omega
  simpa using this
/-! tables of joins -/
structure Jn (n : Nat) (f : Nat → Nat → Nat) : Prop where
  pos : 1 ≤ n
  few : n ≤ 64
  lt : ∀ u v, u < n → v < n → f u v < n
  idem : ∀ u, u < n → f u u = u
  comm : ∀ u v, u < n → v < n → f u v = f v u
  assoc : ∀ u v t, u < n → v < n → t < n → f (f u v) t = f u (f v t)
abbrev rowD (n : Nat) (f : Nat → Nat → Nat) (u : Nat) : List Dt := (List.range n).map fun v => Dt.int ((f u v : Nat) : Int)
abbrev tab (n : Nat) (f : Nat → Nat → Nat) : List Dt := (List.range n).map fun u => Dt.lst (rowD n f u)
theorem rg_get {n i : Nat} (h : i < n) : (List.range n)[i]? = some i := List.getElem?_range h
theorem map_get {α β : Type} {us : List α} {g : α → β} {i : Nat} {u : α} (h : us[i]? = some u) : (us.map g)[i]? = some (g u) := by rw [List.getElem?_map, h]; rfl
theorem rgm_get {β : Type} {n : Nat} {g : Nat → β} {i : Nat} (h : i < n) : ((List.range n).map g)[i]? = some (g i) := map_get (rg_get h)
theorem rg_mem {n u : Nat} (h : u ∈ List.range n) : u < n := List.mem_range.mp h
/-! a family of sets as a table -/
def Pl (nss : List (List Int)) (J : List Int → List Int → List Int) (u v : Nat) : Nat := nss.idxOf (J (nss.getD u []) (nss.getD v []))
structure Fam (nss : List (List Int)) (J : List Int → List Int → List Int) : Prop where
  nd : nss.Nodup
  pos : 1 ≤ nss.length
  few : nss.length ≤ 64
  cl : ∀ x ∈ nss, ∀ y ∈ nss, J x y ∈ nss
  idem : ∀ x ∈ nss, J x x = x
  comm : ∀ x ∈ nss, ∀ y ∈ nss, J x y = J y x
  assoc : ∀ x ∈ nss, ∀ y ∈ nss, ∀ z ∈ nss, J (J x y) z = J x (J y z)
theorem getD_mem {nss : List (List Int)} {u : Nat} (h : u < nss.length) : nss.getD u [] ∈ nss := by
  rw [List.getD_eq_getElem?_getD, List.getElem?_eq_getElem h]
  exact List.getElem_mem h
theorem idx_getD {nss : List (List Int)} {u : Nat} (hn : nss.Nodup) (h : u < nss.length) : nss.idxOf (nss.getD u []) = u := by
  rw [List.getD_eq_getElem?_getD, List.getElem?_eq_getElem h, Option.getD_some]
  exact hn.idxOf_getElem u h
theorem getD_idx {nss : List (List Int)} {x : List Int} (h : x ∈ nss) : nss.getD (nss.idxOf x) [] = x := by
  have hl := List.idxOf_lt_length_of_mem h
  rw [List.getD_eq_getElem?_getD, List.getElem?_eq_getElem hl, Option.getD_some]
  exact List.getElem_idxOf hl
theorem Fam.jn {nss : List (List Int)} {J : List Int → List Int → List Int} (h : Fam nss J) : Jn nss.length (Pl nss J) where
  pos := h.pos
  few := h.few
  lt := fun u v hu hv => List.idxOf_lt_length_of_mem (h.cl _ (getD_mem hu) _ (getD_mem hv))
  idem := fun u hu => by unfold Pl; rw [h.idem _ (getD_mem hu), idx_getD h.nd hu]
  comm := fun u v hu hv => by unfold Pl; rw [h.comm _ (getD_mem hu) _ (getD_mem hv)]
  assoc := fun u v t hu hv ht => by
    unfold Pl
    rw [getD_idx (h.cl _ (getD_mem hu) _ (getD_mem hv)), getD_idx (h.cl _ (getD_mem hv) _ (getD_mem ht)), h.assoc _ (getD_mem hu) _ (getD_mem hv) _ (getD_mem ht)]
theorem Fam.perm {nss mss : List (List Int)} {J : List Int → List Int → List Int} (h : Fam nss J) (e : mss.Perm nss) : Fam mss J where
  nd := e.nodup_iff.mpr h.nd
  pos := by rw [e.length_eq]; exact h.pos
  few := by rw [e.length_eq]; exact h.few
  cl := fun x hx y hy => e.mem_iff.mpr (h.cl x (e.mem_iff.mp hx) y (e.mem_iff.mp hy))
  idem := fun x hx => h.idem x (e.mem_iff.mp hx)
  comm := fun x hx y hy => h.comm x (e.mem_iff.mp hx) y (e.mem_iff.mp hy)
  assoc := fun x hx y hy z hz => h.assoc x (e.mem_iff.mp hx) y (e.mem_iff.mp hy) z (e.mem_iff.mp hz)
/-- the table of the family, as it is told by walking it twice -/
theorem tab_of {nss : List (List Int)} {J : List Int → List Int → List Int} : (nss.map fun x => Dt.lst (nss.map fun y => Dt.int ((nss.idxOf (J x y) : Nat) : Int))) = tab nss.length (Pl nss J) := by
  have e : ∀ {β : Type} (g : List Int → β), nss.map g = (List.range nss.length).map fun i => g (nss.getD i []) := fun g => by
    apply List.ext_getElem?
    intro i
    by_cases hi : i < nss.length
    · rw [rgm_get hi, List.getElem?_map, List.getD_eq_getElem?_getD, List.getElem?_eq_getElem hi]
      rfl
    · rw [List.getElem?_eq_none (by simpa using hi), List.getElem?_eq_none (by simpa using hi)]
  rw [e]
  unfold tab rowD
  refine List.map_congr_left fun u _ => ?_
  rw [e]
  rfl
/-- the families that are drawn -/
structure Sets (nss : List (List Int)) : Prop where
  nd : nss.Nodup
  asc : ∀ x ∈ nss, Asc x
  sm : ∀ x ∈ nss, ∀ k ∈ x, 0 ≤ k ∧ k < 12
  cl : ∀ x ∈ nss, ∀ y ∈ nss, uni x y ∈ nss
theorem Sets.fam {nss : List (List Int)} (h : Sets nss) (h1 : 1 ≤ nss.length) (h2 : nss.length ≤ 64) : Fam nss uni :=
  ⟨h.nd, h1, h2, h.cl, fun x hx => uni_self (h.asc x hx), fun x _ y _ => uni_comm x y, fun x _ y _ z _ => uni_assoc x y z⟩
theorem Sets.add {nss mss : List (List Int)} {s : List Int} (h : Sets nss) (hs : Asc s) (hk : ∀ k ∈ s, 0 ≤ k ∧ k < 12) (hn : mss.Nodup) (hm : ∀ a, a ∈ mss ↔ a ∈ nss ++ [s] ++ nss.map (fun x => uni s x)) : Sets mss := by
  have hm' : ∀ a, a ∈ mss ↔ a ∈ nss ∨ a = s ∨ ∃ x ∈ nss, uni s x = a := fun a => by rw [hm]; simp [or_assoc]
  refine ⟨hn, fun x hx => ?_, fun x hx => ?_, fun x hx y hy => ?_⟩
  · rcases (hm' x).mp hx with m | rfl | ⟨z, hz, rfl⟩
    · exact h.asc x m
    · exact hs
    · exact asc_uni ..
  · rcases (hm' x).mp hx with m | rfl | ⟨z, hz, rfl⟩
    · exact h.sm x m
    · exact hk
    · intro k hk'
      rcases mem_uni.mp hk' with m | m
      · exact hk k m
      · exact h.sm z hz k m
  · refine (hm' _).mpr ?_
    have a1 : ∀ z, uni s (uni s z) = uni s z := fun z => by rw [← uni_assoc, uni_self hs]
    rcases (hm' x).mp hx with m | rfl | ⟨z, hz, rfl⟩ <;> rcases (hm' y).mp hy with m' | rfl | ⟨z', hz', rfl⟩
    · exact .inl (h.cl x m y m')
    · exact .inr (.inr ⟨x, m, uni_comm ..⟩)
    · exact .inr (.inr ⟨uni x z', h.cl x m z' hz', by rw [← uni_assoc, uni_comm s x, uni_assoc]⟩)
    · exact .inr (.inr ⟨y, m', rfl⟩)
    · exact .inr (.inl (uni_self hs))
    · exact .inr (.inr ⟨z', hz', (a1 z').symm⟩)
    · exact .inr (.inr ⟨uni z y, h.cl z hz y m', by rw [uni_assoc]⟩)
    · exact .inr (.inr ⟨z, hz, by rw [uni_comm (uni y z) y, a1]⟩)
    · refine .inr (.inr ⟨uni z z', h.cl z hz z' hz', ?_⟩)
      rw [uni_assoc, ← uni_assoc z s z', uni_comm z s, uni_assoc s z z', a1]
def seg (m : Nat) : List Int := (List.range m).map fun (i : Nat) => (i : Int)
theorem mem_seg {m : Nat} {k : Int} : k ∈ seg m ↔ 0 ≤ k ∧ k < m := by
  unfold seg
  rw [List.mem_map]
  constructor
  · rintro ⟨i, hi, rfl⟩
    have := List.mem_range.mp hi
    omega
  · rintro ⟨h0, h1⟩
    exact ⟨k.toNat, List.mem_range.mpr (by omega), by omega⟩
theorem asc_seg (m : Nat) : Asc (seg m) := by
  unfold seg Asc
  rw [List.pairwise_map]
  exact List.pairwise_lt_range.imp fun h => by omega
theorem seg_len (m : Nat) : (seg m).length = m := by simp [seg]
theorem seg_inj {a b : Nat} (h : seg a = seg b) : a = b := by rw [← seg_len a, ← seg_len b, h]
theorem chain_sets {m : Nat} (hm : m ≤ 12) : Sets ((List.range m).map fun i => seg i) := by
  refine ⟨?_, fun x hx => ?_, fun x hx => ?_, fun x hx y hy => ?_⟩
  · rw [List.nodup_iff_pairwise_ne, List.pairwise_map]
    exact (List.nodup_iff_pairwise_ne.mp (List.nodup_range)).imp fun h e => h (seg_inj e)
  · obtain ⟨i, _, rfl⟩ := List.mem_map.mp hx
    exact asc_seg i
  · obtain ⟨i, hi, rfl⟩ := List.mem_map.mp hx
    have := List.mem_range.mp hi
    intro k hk
    have := mem_seg.mp hk
    omega
  · obtain ⟨i, hi, rfl⟩ := List.mem_map.mp hx
    obtain ⟨j, hj, rfl⟩ := List.mem_map.mp hy
    have hi := List.mem_range.mp hi
    have hj := List.mem_range.mp hj
    refine List.mem_map.mpr ⟨max i j, List.mem_range.mpr (by omega), asc_ext (asc_seg _) (asc_uni ..) fun k => ?_⟩
    rw [mem_uni, mem_seg, mem_seg, mem_seg]
    omega
def fanJ (top x y : List Int) : List Int := if x = y then x else top
theorem fan_fam {m b : Nat} (h : m < b) (hb : b ≤ 64) : Fam ((List.range m).map (fun (i : Nat) => [(i : Int)]) ++ [seg b]) (fanJ (seg b)) := by
  have ht : seg b ∈ (List.range m).map (fun (i : Nat) => [(i : Int)]) ++ [seg b] := by simp
  refine ⟨?_, by simp, by simp; omega, fun x hx y hy => ?_, fun x _ => by simp [fanJ], fun x _ y _ => ?_, fun x _ y _ z _ => ?_⟩
  · rw [List.nodup_append]
    refine ⟨?_, by simp, fun x hx y hy e => ?_⟩
    · rw [List.nodup_iff_pairwise_ne, List.pairwise_map]
      exact (List.nodup_iff_pairwise_ne.mp (List.nodup_range)).imp fun h e => h (by have e1 := (List.cons.inj e).1; omega)
    · obtain ⟨i, hi, rfl⟩ := List.mem_map.mp hx
      have hi := List.mem_range.mp hi
      rw [List.mem_singleton.mp hy] at e
      have := congrArg List.length e
      rw [seg_len] at this
      simp at this
      omega
  · unfold fanJ
    split
    · exact hx
    · exact ht
  · unfold fanJ
    split
    · rename_i e; rw [if_pos e.symm, e]
    · rename_i e; rw [if_neg fun z => e z.symm]
  · unfold fanJ
    by_cases h1 : x = y <;> by_cases h2 : y = z
    · subst h1 h2; simp
    · subst h1; simp [h2]
      intro e
      simp [e]
    · subst h2
      simp [h1]
    · simp only [h1, h2, if_false]
      by_cases h3 : x = seg b <;> by_cases h4 : seg b = z <;> simp_all
structure FamOk (m kind : Nat) (nss : List (List Int)) (J : List Int → List Int → List Int) : Prop where
  fam : Fam nss J
  le : nss.length ≤ m
  sm : ∀ x ∈ nss, x.length ≤ 12
  j : ∀ x ∈ nss, ∀ y ∈ nss, J x y = if kind ≠ 1 ∨ x = y then uni x y else seg m
  top : kind = 1 → seg m ∈ nss
theorem FamOk.perm {m kind : Nat} {nss mss : List (List Int)} {J : List Int → List Int → List Int} (h : FamOk m kind nss J) (e : mss.Perm nss) : FamOk m kind mss J :=
  ⟨h.fam.perm e, by rw [e.length_eq]; exact h.le, fun x m => h.sm x (e.mem_iff.mp m), fun x hx y hy => h.j x (e.mem_iff.mp hx) y (e.mem_iff.mp hy), fun hk => e.mem_iff.mpr (h.top hk)⟩
theorem sets_len {nss : List (List Int)} (h : Sets nss) {x : List Int} (hx : x ∈ nss) : x.length ≤ 12 := int_few (fun u hu => h.sm x hx u hu) (h.asc x hx).nodup
theorem Sets.ok {m kind : Nat} {nss : List (List Int)} (h : Sets nss) (h1 : 1 ≤ nss.length) (hl : nss.length ≤ m) (hm : m ≤ 64) (hk : kind ≠ 1) : FamOk m kind nss uni :=
  ⟨h.fam h1 (by omega), hl, fun x hx => sets_len h hx, fun x _ y _ => by rw [if_pos (.inl hk)], fun e => absurd e hk⟩
theorem fan_ok {m r : Nat} (hr : r < m) (hm : m ≤ 12) : FamOk m 1 ((List.range r).map (fun (i : Nat) => [(i : Int)]) ++ [seg m]) (fanJ (seg m)) := by
  have hA : ∀ x ∈ (List.range r).map (fun (i : Nat) => [(i : Int)]) ++ [seg m], Asc x ∧ x.length ≤ 12 := fun x hx => by
    rcases List.mem_append.mp hx with h | h
    · obtain ⟨i, _, rfl⟩ := List.mem_map.mp h
      exact ⟨by simp [Asc], by simp⟩
    · rw [List.mem_singleton.mp h]
      exact ⟨asc_seg m, by rw [seg_len]; exact hm⟩
  refine ⟨fan_fam hr (by omega), by simp; omega, fun x hx => (hA x hx).2, fun x hx y hy => ?_, fun _ => by simp⟩
  unfold fanJ
  by_cases h : x = y
  · subst h; simp [uni_self (hA x hx).1]
  · simp [h]
theorem perm_of_map {α β : Type} {f : α → β} {xs : List α} {ys : List β} (h : ys.Perm (xs.map f)) : ∃ zs : List α, zs.Perm xs ∧ ys = zs.map f := by
  have key : ∀ {l m : List β}, l.Perm m → ∀ xs : List α, m = xs.map f → ∃ zs : List α, zs.Perm xs ∧ l = zs.map f := by
    intro l m h
    induction h with
    | nil => intro xs e; cases xs with | nil => exact ⟨[], .refl _, rfl⟩ | cons => cases e
    | cons a h ih =>
      intro xs e
      cases xs with
      | nil => cases e
      | cons x xs =>
        simp only [List.map_cons, List.cons.injEq] at e
        obtain ⟨zs, h1, h2⟩ := ih xs e.2
        exact ⟨x :: zs, h1.cons x, by rw [h2, List.map_cons, e.1]⟩
    | swap a b l =>
      intro xs e
      cases xs with
      | nil => cases e
      | cons x xs =>
        cases xs with
        | nil => simp at e
        | cons y xs =>
          simp only [List.map_cons, List.cons.injEq] at e
          exact ⟨y :: x :: xs, .swap .., by simp [e.1, e.2.1, e.2.2]⟩
    | trans h1 h2 ih1 ih2 =>
      intro xs e
      obtain ⟨zs, a1, a2⟩ := ih2 xs e
      obtain ⟨ws, b1, b2⟩ := ih1 zs a2
      exact ⟨ws, b1.trans a1, b2⟩
  exact key h xs rfl
/-- a family with its numbers -/
def numd (mss : List (List Int)) : List (List Int × Dt) := mss.zipIdx.map fun p => (p.1, Dt.int (p.2 : Int))
theorem zip_rw {mss : List (List Int)} : ((mss.map tI).zipIdx.map fun x => Dt.tup [x.fst, Dt.int (x.snd : Int)]) = (numd mss).map fun p => Dt.tup [tI p.1, p.2] := by
  apply List.ext_getElem?
  intro i
  simp [numd, List.getElem?_zipIdx]
  cases mss[i]? <;> rfl
theorem numd_keys {mss : List (List Int)} : (numd mss).map (·.1) = mss := by
  apply List.ext_getElem?
  intro i
  simp only [numd, List.map_map, List.getElem?_map, List.getElem?_zipIdx]
  cases mss[i]? <;> rfl
theorem numd_at {mss : List (List Int)} {x : List Int} (h : x ∈ mss) : (numd mss)[mss.idxOf x]? = some (x, Dt.int ((mss.idxOf x : Nat) : Int)) := by
  have hl := List.idxOf_lt_length_of_mem h
  simp [numd, List.getElem?_zipIdx, List.getElem?_eq_getElem hl, List.getElem_idxOf hl]
/-! plain data: == is equality -/
mutual
def Dt.pl : Dt → Bool
  | .non => true | .bl _ => false | .int _ => true | .str x => PyData.strOk x
  | .lst ds => plL ds | .tup ds => plL ds
  | .dic _ => false | .obj _ _ => false | .ref _ => false | .frl _ => false | .ty _ => false | .fdc _ => false
def plL : List Dt → Bool
  | [] => true
  | d :: ds => d.pl && plL ds
end
mutual
theorem eqd_pl : ∀ x y : Dt, x.pl = true → y.pl = true → (PyData.eqv x.py y.py = true ↔ x = y)
  | .non, y, _, hy => by cases y <;> simp [Dt.pl, Dt.py, PyData.eqv] at hy ⊢
  | .int i, y, _, hy => by cases y <;> simp [Dt.pl, Dt.py, PyData.eqv] at hy ⊢
  | .str i, y, _, hy => by cases y <;> simp [Dt.pl, Dt.py, PyData.eqv] at hy ⊢
  | .lst ds, y, hx, hy => by
    cases y with
    | lst es =>
      have := eqd_plL ds es (by simpa [Dt.pl] using hx) (by simpa [Dt.pl] using hy)
      simp only [Dt.py, PyData.eqv, this, Dt.lst.injEq]
    | _ => simp [Dt.pl, Dt.py, PyData.eqv] at hy ⊢
  | .tup ds, y, hx, hy => by
    cases y with
    | tup es =>
      have := eqd_plL ds es (by simpa [Dt.pl] using hx) (by simpa [Dt.pl] using hy)
      simp only [Dt.py, PyData.eqv, this, Dt.tup.injEq]
    | _ => simp [Dt.pl, Dt.py, PyData.eqv] at hy ⊢
  | .bl _, _, hx, _ => by simp [Dt.pl] at hx
  | .dic _, _, hx, _ => by simp [Dt.pl] at hx
  | .obj _ _, _, hx, _ => by simp [Dt.pl] at hx
  | .ref _, _, hx, _ => by simp [Dt.pl] at hx
  | .frl _, _, hx, _ => by simp [Dt.pl] at hx
  | .fdc _, _, hx, _ => by simp [Dt.pl] at hx
  | .ty _, _, hx, _ => by simp [Dt.pl] at hx
theorem eqd_plL : ∀ xs ys : List Dt, plL xs = true → plL ys = true → (PyData.eqvAll (pyL xs) (pyL ys) = true ↔ xs = ys)
  | [], [], _, _ => by simp [pyL, PyData.eqvAll]
  | [], y :: ys, _, _ => by simp [pyL, PyData.eqvAll]
  | x :: xs, [], _, _ => by simp [pyL, PyData.eqvAll]
  | x :: xs, y :: ys, hx, hy => by
    simp only [plL, Bool.and_eq_true] at hx hy
    have h1 := eqd_pl x y hx.1 hy.1
    have h2 := eqd_plL xs ys hx.2 hy.2
    simp only [pyL, PyData.eqvAll, Bool.and_eq_true, h1, h2, List.cons.injEq]
end
theorem eqd_iff {x y : Dt} (hx : x.pl = true) (hy : y.pl = true) : eqd x y = true ↔ x = y := eqd_pl x y hx hy
theorem plL_all : ∀ ds : List Dt, plL ds = ds.all Dt.pl
  | [] => rfl
  | d :: ds => by simp [plL, plL_all ds]
theorem plL_map {α : Type} {us : List α} {g : α → Dt} (h : ∀ u ∈ us, (g u).pl = true) : plL (us.map g) = true := by
  rw [plL_all, List.all_map, List.all_eq_true]
  exact fun u m => h u m
theorem pl_tI (ns : List Int) : (tI ns).pl = true := plL_map fun _ _ => rfl
theorem map_int_inj : ∀ {xs ys : List Int}, xs.map Dt.int = ys.map Dt.int → xs = ys
  | [], [], _ => rfl
  | [], _ :: _, h => by cases h
  | _ :: _, [], h => by cases h
  | x :: xs, y :: ys, h => by
    simp only [List.map_cons, List.cons.injEq, Dt.int.injEq] at h
    rw [h.1, map_int_inj h.2]
theorem eqd_tI {xs ys : List Int} : eqd (tI xs) (tI ys) = decide (xs = ys) := by
  rw [Bool.eq_iff_iff, eqd_iff (pl_tI xs) (pl_tI ys), decide_eq_true_iff]
  constructor
  · intro h
    have h := Dt.tup.inj h
    exact map_int_inj h
  · intro h; rw [h]
theorem okL_map {α : Type} {us : List α} {g : α → Dt} (h : ∀ u ∈ us, (g u).ok = true) : okL (us.map g) = true := by
  rw [okL_all, List.all_map, List.all_eq_true]
  exact fun u m => h u m
theorem dep_ints : ∀ ns : List Int, PyData.depthAll (pyL (ns.map Dt.int)) = 0
  | [] => rfl
  | n :: ns => by simp only [List.map_cons, pyL, PyData.depthAll, dep_ints ns]; rfl
theorem eok_tI (ns : List Int) : (tI ns).eok = true := by
  have h1 : okL (ns.map Dt.int) = true := okL_map fun _ _ => rfl
  simp only [Dt.eok, Dt.ok, Dt.py, PyData.depth, h1, dep_ints, Bool.true_and]
  rfl
section
variable {K : PySem.W.Frag} {E : XK} {Ψ : XPost} {O : Own} {k : Dt → Own → Prop}
theorem opd_eqTI {xs ys : List Int} : OpD K E Ψ (rEqU K) (tI xs) (tI ys) O (ex (.bl (decide (xs = ys))) O) := by rw [← eqd_tI]; exact opd_eqU (eok_tI xs) (eok_tI ys)
theorem eok_lI (ns : List Int) : (Dt.lst (ns.map .int)).eok = true := by
  have h1 : okL (ns.map Dt.int) = true := okL_map fun _ _ => rfl
  simp only [Dt.eok, Dt.ok, Dt.py, PyData.depth, h1, dep_ints, Bool.true_and]
  rfl
theorem eqd_lI {xs ys : List Int} : eqd (.lst (xs.map .int)) (.lst (ys.map .int)) = decide (xs = ys) := by
  have pl : ∀ ns : List Int, (Dt.lst (ns.map .int)).pl = true := fun ns => plL_map fun _ _ => rfl
  rw [Bool.eq_iff_iff, eqd_iff (pl xs) (pl ys), decide_eq_true_iff]
  exact ⟨fun h => map_int_inj (Dt.lst.inj h), fun h => by rw [h]⟩
theorem opd_eqLI {xs ys : List Int} : OpD K E Ψ (rEqU K) (.lst (xs.map .int)) (.lst (ys.map .int)) O (ex (.bl (decide (xs = ys))) O) := by rw [← eqd_lI]; exact opd_eqU (eok_lI xs) (eok_lI ys)
theorem opd_neLI {xs ys : List Int} : OpD K E Ψ (rNeU K) (.lst (xs.map .int)) (.lst (ys.map .int)) O (ex (.bl (!decide (xs = ys))) O) := by rw [← eqd_lI]; exact opd_neU (eok_lI xs) (eok_lI ys)
theorem opd_neTI {xs ys : List Int} : OpD K E Ψ (rNeU K) (tI xs) (tI ys) O (ex (.bl (!decide (xs = ys))) O) := by rw [← eqd_tI]; exact opd_neU (eok_tI xs) (eok_tI ys)
end
end FF
set_option Elab.async false
set_option linter.all false
set_option maxRecDepth 100000
namespace FF
open PySem PySem.Spec PyProof.Rows L2
open Evl (Ex sz_of sz_lt fresh_back)
/-! the rules that name X.K, with K told: for the blocks of comprehensions -/
section
variable {X : Cx} {e : Expr} {te : TE}
theorem op_eqUB (K : PySem.W.Frag) (hu : X.A.units + 64 < cLine) (hK : X.K = K := by rfl) : OpR X (compareOp .Eq) (rEqU K) := by subst hK; exact op_eqU hu
theorem op_neUB (K : PySem.W.Frag) (hu : X.A.units + 64 < cLine) (hK : X.K = K := by rfl) : OpR X (compareOp .NotEq) (rNeU K) := by subst hK; exact op_neU hu
theorem pi_listB (K : PySem.W.Frag) {target : Expr} (h : PE X e te) (hK : X.K = K := by rfl) : PI X target e (iList K te) := by subst hK; exact pi_list h
theorem op_plusB (K : PySem.W.Frag) (hK : X.K = K := by rfl) : OpR X (binaryOp .Add) (rPlus K) := by subst hK; exact op_plus
end
/-! owned lists as they are read now -/
section
variable {K : PySem.W.Frag} {E E' : XK} {Ψ : XPost} {F F' F1 F2 H H' H1 H2 : Hp} {O O' O1 O2 R : Own} {Δ : Env_}
variable {te ta tb to : TE} {tas ts : TA} {x y x' y' z : Dt} {ds es : List Dt} {p q : Addr} {k : Dt → Own → Prop} {C : Addr} {m : Str}
def Seen (O : Own) (d d' : Dt) : Prop := d = d' ∨ ∃ p ds, d = .ref p ∧ (p, Ow.lst ds) ∈ O ∧ d' = .lst ds
theorem seen_self : Seen O x x := .inl rfl
theorem Seen.dat (h : Seen O x x') (b : OwnOk K F H O) (c : Ex F H) {v : V} (k : Dat K F v x) : ∃ F', Ex F' H ∧ Dat K F' v x' := by
  rcases h with rfl | ⟨p, ds, rfl, m, rfl⟩
  · exact ⟨F, c, k⟩
  · cases k
    obtain ⟨O1, O2, rfl⟩ := List.append_of_mem m
    have pm : (O1 ++ (p, Ow.lst ds) :: O2).Perm ((p, .lst ds) :: (O1 ++ O2)) := List.perm_middle
    have b' := b.perm pm
    obtain ⟨_, xs, hx, lx⟩ := b'.at_ p (.lst ds) (by simp)
    obtain ⟨g, b2, k2⟩ := Gw.frz b' c hx lx
    exact ⟨_, g.sub, k2⟩
theorem opd_eqS (sx : Seen O x x') (sy : Seen O y y') (hx : x'.eok = true) (hy : y'.eok = true) : OpD K E Ψ (rEqU K) x y O (ex (.bl (eqd x' y')) O) := opd_or2 (opd_val fun F H v u b c k1 k2 => by
  obtain ⟨F1, c1, d1⟩ := sx.dat b c k1
  obtain ⟨F2, c2, d2⟩ := sy.dat b c k2
  exact ⟨_, .bl _, fun Q q => ⟨x'.py, y'.py, Dat.dp c1 _ d1 (eok_ok hx), Dat.dp c2 _ d2 (eok_ok hy), shaped_of hx, shaped_of hy, q⟩⟩)
theorem opd_neS (sx : Seen O x x') (sy : Seen O y y') (hx : x'.eok = true) (hy : y'.eok = true) : OpD K E Ψ (rNeU K) x y O (ex (.bl (!eqd x' y')) O) := opd_or2 (opd_val fun F H v u b c k1 k2 => by
  obtain ⟨F1, c1, d1⟩ := sx.dat b c k1
  obtain ⟨F2, c2, d2⟩ := sy.dat b c k2
  exact ⟨_, .bl _, fun Q q => ⟨x'.py, y'.py, Dat.dp c1 _ d1 (eok_ok hx), Dat.dp c2 _ d2 (eok_ok hy), shaped_of hx, shaped_of hy, q⟩⟩)
/-! both told and due alike -/
def aOk (d : Dt) : Prop := d.eok = true ∧ d.rok = true ∧ d.sok = true ∧ d.sz ≤ 100000
theorem aOk_shw {d : Dt} (h : aOk d) : (shw d).length ≤ 100000 := Nat.le_trans (shw_le d h.2.2.1) h.2.2.2
theorem aOk_of {D S : Nat} {d : Dt} (h : Nic D S d) (hD : D ≤ 60) (hS : S ≤ 100000) : aOk d := ⟨h.eok hD, h.rok hD, sok_ok d h.ok, Nat.le_trans h.sz hS⟩
/-- alike, the first one owned or not -/
def alk (x y : Dt) : Bool := eqd x y && decide (shw x = shw y)
theorem alk_self {x : Dt} (h : aOk x) : alk x x = true := by
  unfold alk
  rw [eqd_refl (eok_ok h.1)]
  simp
/-! methods, and their owned results -/
theorem wv_meth {pre : Pre} (h : Ev K E Ψ to Δ O fun x O1 => ∃ fs, x = .obj C fs ∧ fs.lookup m = none ∧ EvA K E Ψ ts Δ O1 fun ds O2 => ∃ Oa R Φ1, O2.Perm (Oa ++ R) ∧ pre (.obj C fs :: ds) Oa Φ1 X0 ∧ ∀ d O3, Φ1 d O3 → ∃ O4, (O3 ++ R).Perm O4 ∧ k d O4) :
    Ev K E Ψ (tMeth C m (mkSp K pre) [] E' to ts) Δ O k := fun σ F H a b c e Q q => h σ F H a b c e _ fun v F1 H1 d1 O1 g1 b1 k1 p1 => by
  obtain ⟨fs, rfl, hm, ha⟩ := p1
  cases k1 with
  | obj hx l =>
    refine ⟨_, _, _, rfl, g1.sub _ _ hx, l.lookN hm, ?_⟩
    refine ha σ F1 H1 (a.mono g1.ext) b1 g1.sub (e.step g1) _ fun vs F2 H2 ds O2 g2 b2 k2 p2 => ?_
    obtain ⟨Oa, R, Φ1, hp, h1, h3⟩ := p2
    rw [List.append_nil]
    have b2' := b2.perm hp
    have g2' := g2.permR hp
    refine ⟨F2, _, Oa, Φ1, X0, .cons (.obj (g2.ext _ _ hx) (l.mono g2.ext)) k2, b2'.left, g2.sub, h1, .zero, fun v F' H' d O' g3 b3 k3 p3 => ?_⟩
    obtain ⟨O4, hO4, hk⟩ := h3 d O' p3
    exact q v F' H' d O4 ((g1.trans (g2'.trans g3.frame)).permR hO4) ((b2'.frame g3 b3).perm hO4) k3 hk
/-- a method that owns nothing and gives one thing -/
theorem wv_methE {pre : Pre} (h : Ev K E Ψ to Δ O fun x O1 => ∃ fs, x = .obj C fs ∧ fs.lookup m = none ∧ EvA K E Ψ ts Δ O1 fun ds O2 => ∃ z, pre (.obj C fs :: ds) [] (ex z []) X0 ∧ k z O2) : Ev K E Ψ (tMeth C m (mkSp K pre) [] E' to ts) Δ O k :=
  wv_meth (h.imp fun x O1 ⟨fs, e, hm, ha⟩ => ⟨fs, e, hm, ha.imp fun ds O2 ⟨z, p, q⟩ => ⟨[], O2, ex z [], .refl _, p, fun d O3 e => ⟨O2, by rw [e.2]; exact .refl _, by rw [e.1]; exact q⟩⟩⟩)
/-- .. that gives a new list: owned -/
theorem wv_methN {pre : Pre} (h : Ev K E Ψ to Δ O fun x O1 => ∃ fs, x = .obj C fs ∧ fs.lookup m = none ∧ EvA K E Ψ ts Δ O1 fun ds O2 => ∃ es, pre (.obj C fs :: ds) [] (nwl es []) X0 ∧ ∀ q, k (.ref q) ((q, .lst es) :: O2)) : Ev K E Ψ (tMeth C m (mkSp K pre) [] E' to ts) Δ O k :=
  wv_meth (h.imp fun x O1 ⟨fs, e, hm, ha⟩ => ⟨fs, e, hm, ha.imp fun ds O2 ⟨es, p, qq⟩ => ⟨[], O2, nwl es [], .refl _, p, fun d O3 e => by
    obtain ⟨z, rfl, rfl⟩ := e
    exact ⟨_, .refl _, qq z⟩⟩⟩)
/-- .. frozen -/
theorem wv_methF {pre : Pre} (h : Ev K E Ψ to Δ O fun x O1 => ∃ fs, x = .obj C fs ∧ fs.lookup m = none ∧ EvA K E Ψ ts Δ O1 fun ds O2 => ∃ es, pre (.obj C fs :: ds) [] (nwl es []) X0 ∧ k (.lst es) O2) : Ev K E Ψ (tMeth C m (mkSp K pre) [] E' to ts) Δ O k :=
  ev_frzK (wv_methN (h.imp fun x O1 ⟨fs, e, hm, ha⟩ => ⟨fs, e, hm, ha.imp fun ds O2 ⟨es, p, qq⟩ => ⟨es, p, fun q => ⟨q, es, O2, rfl, rfl, qq⟩⟩⟩))
/-- a def that gives a new list: owned, frozen -/
theorem wv_callN {pre : Pre} (h : EvA K E Ψ ts Δ O fun ds O2 => ∃ es, pre ds [] (nwl es []) X0 ∧ ∀ q, k (.ref q) ((q, .lst es) :: O2)) : Ev K E Ψ (tCall (mkSp K pre) [] E' ts) Δ O k :=
  wv_call (h.imp fun ds O2 ⟨es, p, qq⟩ => ⟨[], O2, nwl es [], .refl _, p, fun d O3 e => by
    obtain ⟨z, rfl, rfl⟩ := e
    exact ⟨_, .refl _, qq z⟩⟩)
theorem wv_callF {pre : Pre} (h : EvA K E Ψ ts Δ O fun ds O2 => ∃ es, pre ds [] (nwl es []) X0 ∧ k (.lst es) O2) : Ev K E Ψ (tCall (mkSp K pre) [] E' ts) Δ O k :=
  ev_frzK (wv_callN (h.imp fun ds O2 ⟨es, p, qq⟩ => ⟨es, p, fun q => ⟨q, es, O2, rfl, rfl, qq⟩⟩))
/-- a def with one owned list, which stays -/
def preO (Cc : List Dt → List Dt → Prop) (f : List Dt → List Dt → Dt) : Pre := fun ds O Φ Ψ => ∃ p xs es, ds = .ref p :: es ∧ Cc xs es ∧ O = [(p, .lst xs)] ∧ Φ = ex (f xs es) [(p, .lst xs)] ∧ Ψ = X0
theorem wv_callO {Cc : List Dt → List Dt → Prop} {f : List Dt → List Dt → Dt} (h : EvA K E Ψ ts Δ O fun ds O1 => ∃ p es xs, ds = .ref p :: es ∧ (p, Ow.lst xs) ∈ O1 ∧ Cc xs es ∧ k (f xs es) O1) : Ev K E Ψ (tCall (mkSp K (preO Cc f)) [] E' ts) Δ O k :=
  wv_call (h.imp fun ds O1 ⟨p, es, xs, e, m, c, q⟩ => by
    obtain ⟨A, B, rfl⟩ := List.append_of_mem m
    refine ⟨[(p, .lst xs)], A ++ B, _, List.perm_middle, ⟨p, xs, es, e, c, rfl, rfl, rfl⟩, fun d O2 z => ⟨A ++ (p, .lst xs) :: B, ?_, by rw [z.1]; exact q⟩⟩
    rw [z.2]
    exact (List.perm_middle (a := (p, Ow.lst xs)) (l₁ := A) (l₂ := B)).symm)
/-! methods of owned lists -/
theorem BmD.imp {r : V → List V → Hp → VK → Prop} {xs : List Dt} {Φ Φ' : Dt → Own → Prop} (h : BmD K E Ψ r x xs O Φ) (k : ∀ d O', Φ d O' → Φ' d O') : BmD K E Ψ r x xs O Φ' := fun F H v vs b c e k1 k2 Q q => h F H v vs b c e k1 k2 Q fun w F' H' d O' g w1 w2 w3 => q w F' H' d O' g w1 w2 (k d O' w3)
theorem kb {r : V → List V → Hp → VK → Prop} {xs : List Dt} {On : Own} (h : BmD K E Ψ r x xs O (fun d O' => d = z ∧ O' = On)) (q : k z On) : BmD K E Ψ r x xs O k := h.imp fun d O' e => by rw [e.1, e.2]; exact q
theorem wv_bm {r : V → List V → Hp → VK → Prop} (h : Ev K E Ψ to Δ O fun x O1 => ∃ p ds, x = .ref p ∧ (p, Ow.lst ds) ∈ O1 ∧ EvA K E Ψ tas Δ O1 fun xs O2 => BmD K E Ψ r (.ref p) xs O2 k) : Ev K E Ψ (tBM K "list" r to tas) Δ O k := fun σ F H a b c e Q q =>
  h σ F H a b c e _ fun v F1 H1 x O1 g1 b1 k1 p1 => by
    obtain ⟨p, ds, rfl, m, ha⟩ := p1
    refine ⟨ty_list (lo_own m) F1 H1 v b1 g1.sub k1, ha σ F1 H1 (a.mono g1.ext) b1 g1.sub (e.step g1) _ fun vs F2 H2 xs O2 g2 b2 k2 p2 => ?_⟩
    exact p2 F2 H2 v vs b2 g2.sub (e.step (g1.trans g2)) (k1.mono g2.ext) k2 Q fun w F3 H3 d O3 g3 b3 k3 p3 => q w F3 H3 d O3 ((g1.trans g2).trans g3) b3 k3 p3
theorem wv_bm0 {r : V → List V → Hp → VK → Prop} (h : Ev K E Ψ to Δ O fun x O1 => ∃ p ds, x = .ref p ∧ (p, Ow.lst ds) ∈ O1 ∧ BmD K E Ψ r (.ref p) [] O1 k) : Ev K E Ψ (tBM0 K "list" r to) Δ O k := fun σ F H a b c e Q q =>
  h σ F H a b c e _ fun v F1 H1 x O1 g1 b1 k1 p1 => by
    obtain ⟨p, ds, rfl, m, ha⟩ := p1
    refine ⟨ty_list (lo_own m) F1 H1 v b1 g1.sub k1, ?_⟩
    exact ha F1 H1 v [] b1 g1.sub (e.step g1) k1 .nil Q fun w F3 H3 d O3 g3 b3 k3 p3 => q w F3 H3 d O3 (g1.trans g3) b3 k3 p3
theorem wv_dnew (h : ∀ q, k (.ref q) ((q, .dic []) :: O)) : Ev K E Ψ tDNewK Δ O k := ev_dnewO.imp fun d O' ⟨q, e1, e2⟩ => by rw [e1, e2]; exact h q
/-- d[n] = v, whole-number keys -/
theorem wp_dput {tv ti : TE} {nx bk ct : Env_ → Own → Prop} {rt : Dt → Own → Prop} (h : Ev K E Ψ tv Δ O fun d O1 => Ev K E Ψ to Δ O1 fun x O2 => Ev K E Ψ ti Δ O2 fun y O3 => ∃ p n i ks, x = .ref p ∧ y = .int n ∧ O3[i]? = some (p, .dic ks) ∧ ks.length < 100000 ∧ nx Δ (O3.set i (p, .dic (putD ks (.inl n) d)))) :
    Sv K E Ψ (L2.sDPut to ti tv) Δ O ⟨nx, rt, bk, ct⟩ := fun σ F H D a b c e kk => h σ F H a b c e _ fun v F1 H1 d1 O1 g1 b1 k1 p1 => by
  refine p1 σ F1 H1 (a.mono g1.ext) b1 g1.sub (e.step g1) _ fun w F2 H2 d2 O2 g2 b2 k2 p2 => ?_
  refine p2 σ F2 H2 (a.mono (g1.trans g2).ext) b2 g2.sub ((e.step g1).step g2) _ fun w3 F3 H3 d3 O3 g3 b3 k3 p3 => ?_
  obtain ⟨p, n, i, ks, rfl, rfl, hi, hl, kn⟩ := p3
  cases k2
  cases k3
  have m : (p, Ow.dic ks) ∈ O3 := List.mem_of_getElem? hi
  obtain ⟨_, kvs, hp, l⟩ := b3.at_ p _ m
  obtain ⟨b4, hm⟩ := b3.mut (u := .dK (L2.putK kvs (.inl n) v)) (o' := .dic (putD ks (.inl n) d1)) hi ⟨_, upd_same, l.put (k1.mono (g2.trans g3).ext)⟩
  have g4 := Gw.mut (u := .dK (L2.putK kvs (.inl n) v)) b3 g3.sub (mem_addr m) hm
  have gg := ((g1.trans g2).trans g3).trans g4
  exact ⟨p, _, rfl, .inl ⟨kvs, .inl n, hp, rfl, sz_lt (by rw [l.length]; exact hl), rfl⟩, kk.nx σ F3 _ Δ _ gg b4 (a.mono gg.ext) kn⟩
/-- a dict as a set of whole numbers -/
theorem wp_sput {tv ti : TE} {nx bk ct : Env_ → Own → Prop} {rt : Dt → Own → Prop} (h : Ev K E Ψ tv Δ O fun d O1 => Ev K E Ψ to Δ O1 fun x O2 => Ev K E Ψ ti Δ O2 fun y O3 => ∃ p n i us, d = .bl true ∧ x = .ref p ∧ y = .int n ∧ O3[i]? = some (p, .dic (setD us)) ∧ us.length < 100000 ∧ nx Δ (O3.set i (p, .dic (setD (putN us n))))) :
    Sv K E Ψ (L2.sDPut to ti tv) Δ O ⟨nx, rt, bk, ct⟩ := wp_dput (h.imp fun d O1 h1 => h1.imp fun x O2 h2 => h2.imp fun y O3 ⟨p, n, i, us, e0, e1, e2, hi, hl, q⟩ => ⟨p, n, i, _, e1, e2, hi, by rw [setD_len]; exact hl, by rw [e0, putD_setD]; exact q⟩)
theorem cad_listSet {us : List Int} (m : (p, Ow.dic (setD us)) ∈ O) : CaD K E Ψ L2.rListD [.ref p] O (nwl (us.map .int) O) := by
  have h := cad_listD (K := K) (E := E) (Ψ := Ψ) m
  have e : (setD us).map (fun w => keyD w.1) = us.map .int := by unfold setD; rw [List.map_map]; rfl
  rwa [e] at h
/-- what goes on may leave owned objects behind -/
theorem sv_nxF {t : TS} {nx bk ct : Env_ → Own → Prop} {rt : Dt → Own → Prop} (h : Sv K E Ψ t Δ O ⟨fun Δ' O' => ∃ O'', O''.Sublist O' ∧ nx Δ' O'', rt, bk, ct⟩) : Sv K E Ψ t Δ O ⟨nx, rt, bk, ct⟩ := fun σ F H D a b c e kk =>
  h σ F H D a b c e ⟨fun σ' F' H' Δ' O' g b' a' ⟨O'', s, p⟩ => kk.nx σ' F' H' Δ' O'' (g.forget s) (b'.forget s) a' p, kk.rt, kk.bk, kk.ct⟩
end
end FF
set_option Elab.async false
set_option linter.all false
set_option maxRecDepth 100000
set_option maxHeartbeats 1000000
namespace FF
open PySem PySem.Spec PyProof.Rows L2
open Evl (Ex sz_of sz_lt fresh_back)
/-! len(o) by an own __len__ -/
def rLenI (C : Addr) (sp : Sp) (E : XK) : List V → Hp → VK → Prop := fun xs H Q => ∃ a dx fs, xs = [V.ref a] ∧ H a = some (.ins C dx fs) ∧ sp [V.ref a] H (fun v H' => ∃ n : Int, v = .int n ∧ (0 ≤ n ∧ n < 2 ^ 63) ∧ Q (.int n) H') E
section
variable {X : Cx} {CX : CXT} {k : Nat} {C : Addr} {ps : List Str} {sp : Sp} {E : XK}
theorem run_in1 {f : Addr} {fd : FuncData} {pins : List (Addr × Obj)} {σ : L2.St} {H : Hp} {s : Shared} {Q : VK} {us : List Value} {vs : List V} (F : FnOk X.prog X.w X.K X.mg X.base CX k f fd ps sp) (hr : Room (k + 1) X.A) (hb : Binds X.K fd ps []) (hx : Passes CX X E)
    (I : Inv X pins σ H s) (r : Vals vs us) (h : sp vs H Q E) : wpAny (model X.prog X.w) X.A.in1 (call (.ref f) us) (EP X pins σ Q) X.xe s := by
  have hl : us.length = ps.length := by rw [← r.length]; exact F.len _ _ _ _ h
  refine wpAny_call (codeAny_mono (F.run X.A.in1 X.stack s H ⟨us, []⟩ us vs Q E hr.in1 I.env0.in1 (by have := hb s us I.kIn (by simpa using hl); simpa using this) r h) fun r s' hq => ?_)
  cases r with
  | error e => exact hx pins σ H s e s' I hq
  | ok fl =>
    cases fl with
    | ret u => exact I.after hq
    | next => exact False.elim hq
    | brk => exact False.elim hq
    | cont => exact False.elim hq
theorem call_lenI (h : HasM X.prog X.w X.K X.mg X.base CX k C "__len__" ps sp) (hr : Room (k + 1) X.A) (hx : Passes CX X E) : CallR X (.builtin "len") (rLenI C sp E) := by
  intro pins s σ H xs us Q I r hh
  obtain ⟨a, dx, fs, rfl, ha, hsp⟩ := hh
  obtain ⟨u, rfl, rx⟩ := vals1 r
  cases rx
  obtain ⟨f, fd, F, b, M⟩ := h.ex
  obtain ⟨mA, J, _⟩ := ins_get I.hok ha
  obtain ⟨od, J, _⟩ := J.look
  obtain ⟨m, hF⟩ := I.fr
  refine PySem.W.len_K hF I.ok.mod.kin J M.at_ M.fn (wpAny_mono (run_in1 (vs := [V.ref a]) F hr b hx I (.cons rfl .nil) hsp) (fun r s' hq => ?_) fun _ _ y => y)
  obtain ⟨v, H', I', rv, n, rfl, hn, q⟩ := hq
  obtain ⟨t, rfl⟩ := rv
  exact ⟨hn, .int n, H', I'.tok _, ⟨_, rfl⟩, q⟩
end
section
variable {K : PySem.W.Frag} {E E' : XK} {Ψ : XPost} {O : Own} {C : Addr} {fs : List (Str × Dt)} {k : Dt → Own → Prop} {pre : Pre}
theorem cad_lenI {n : Int} (hp : pre [.obj C fs] [] (ex (.int n) []) X0) (hn : 0 ≤ n ∧ n < 9223372036854775808) : CaD K E Ψ (rLenI C (mkSp K pre) E') [.obj C fs] O (ex (.int n) O) := fun F H vs b c e k1 Q q => by
  cases k1 with
  | cons k1 l =>
    cases l
    cases k1 with
    | obj hx l =>
      refine ⟨_, _, _, rfl, c _ _ hx, ⟨F, _, [], ex (.int n) [], X0, .cons (.obj hx l) .nil, OwnOk.nil, c, hp, .zero, fun v F' H' d O' g b2 k2 p2 => ?_⟩⟩
      obtain ⟨rfl, rfl⟩ := p2
      cases k2
      exact ⟨n, rfl, hn, q (.int n) F' H' _ O (Gw.frame (O := []) (O' := []) (R := O) g) (OwnOk.frame (O := []) (O' := []) b g b2) (.int n) ⟨rfl, rfl⟩⟩
end
/-! promises by typed arguments -/
section
variable {K : PySem.W.Frag} {E E' : XK} {Ψ : XPost} {O : Own} {Δ : Env_} {k : Dt → Own → Prop} {ts : TA} {to : TE} {Cl : Addr} {m : Str} {α : Type}
/-- one thing, nothing owned -/
abbrev preF (A : α → List Dt) (C : α → Prop) (F : α → Dt) : Pre := fun ds O Φ Ψ => ∃ a, ds = A a ∧ C a ∧ O = [] ∧ Φ = ex (F a) [] ∧ Ψ = X0
/-- any thing with a property -/
abbrev preR (A : α → List Dt) (C : α → Prop) (S : α → Dt → Prop) : Pre := fun ds O Φ Ψ => ∃ a, ds = A a ∧ C a ∧ O = [] ∧ Φ = (fun d O' => S a d ∧ O' = []) ∧ Ψ = X0
/-- a new list -/
abbrev preN (A : α → List Dt) (C : α → Prop) (F : α → List Dt) : Pre := fun ds O Φ Ψ => ∃ a, ds = A a ∧ C a ∧ O = [] ∧ Φ = nwl (F a) [] ∧ Ψ = X0
/-- with the bag -/
abbrev preD (A : α → List Dt) (C : α → Prop) (S : α → Dt → Prop) : Pre := fun ds O Φ Ψ => ∃ b a, ds = .ref b :: A a ∧ C a ∧ O = [(b, .bag)] ∧ Φ = (fun d O' => S a d ∧ O' = [(b, .bag)]) ∧ Ψ = X0
variable {A : α → List Dt} {C : α → Prop} {F : α → Dt} {S : α → Dt → Prop} {G : α → List Dt} {n : Nat}
theorem lenF (h : ∀ a, (A a).length = n) : ∀ ds O Φ Ψ, preF A C F ds O Φ Ψ → ds.length = n := by rintro _ _ _ _ ⟨a, rfl, _⟩; exact h a
theorem lenR (h : ∀ a, (A a).length = n) : ∀ ds O Φ Ψ, preR A C S ds O Φ Ψ → ds.length = n := by rintro _ _ _ _ ⟨a, rfl, _⟩; exact h a
theorem lenN (h : ∀ a, (A a).length = n) : ∀ ds O Φ Ψ, preN A C G ds O Φ Ψ → ds.length = n := by rintro _ _ _ _ ⟨a, rfl, _⟩; exact h a
theorem lenD (h : ∀ a, (A a).length + 1 = n) : ∀ ds O Φ Ψ, preD A C S ds O Φ Ψ → ds.length = n := by rintro _ _ _ _ ⟨b, a, rfl, _⟩; exact h a
theorem wv_callP (h : EvA K E Ψ ts Δ O fun ds O1 => ∃ a, ds = A a ∧ C a ∧ k (F a) O1) : Ev K E Ψ (tCall (mkSp K (preF A C F)) [] E' ts) Δ O k :=
  wv_callE (h.imp fun ds O1 ⟨a, e, c, q⟩ => ⟨F a, ⟨a, e, c, rfl, rfl, rfl⟩, q⟩)
theorem wv_callR (h : EvA K E Ψ ts Δ O fun ds O1 => ∃ a, ds = A a ∧ C a ∧ ∀ d, S a d → k d O1) : Ev K E Ψ (tCall (mkSp K (preR A C S)) [] E' ts) Δ O k :=
  wv_call (h.imp fun ds O1 ⟨a, e, c, q⟩ => ⟨[], O1, _, .refl _, ⟨a, e, c, rfl, rfl, rfl⟩, fun d O2 p => ⟨O1, by rw [p.2]; exact .refl _, q d p.1⟩⟩)
theorem wv_callNF (h : EvA K E Ψ ts Δ O fun ds O1 => ∃ a, ds = A a ∧ C a ∧ k (.lst (G a)) O1) : Ev K E Ψ (tCall (mkSp K (preN A C G)) [] E' ts) Δ O k :=
  wv_callF (h.imp fun ds O1 ⟨a, e, c, q⟩ => ⟨_, ⟨a, e, c, rfl, rfl, rfl⟩, q⟩)
theorem wv_callD (h : EvA K E Ψ ts Δ O fun ds O1 => ∃ b a, ds = .ref b :: A a ∧ (b, Ow.bag) ∈ O1 ∧ C a ∧ ∀ d, S a d → k d O1) : Ev K E Ψ (tCall (mkSp K (preD A C S)) [] E' ts) Δ O k :=
  wv_call (h.imp fun ds O1 ⟨b, a, e, m, c, q⟩ => by
    obtain ⟨A1, B1, rfl⟩ := List.append_of_mem m
    refine ⟨[(b, .bag)], A1 ++ B1, _, List.perm_middle, ⟨b, a, e, c, rfl, rfl, rfl⟩, fun d O2 p => ⟨A1 ++ (b, .bag) :: B1, ?_, q d p.1⟩⟩
    rw [p.2]
    exact (List.perm_middle (a := (b, Ow.bag)) (l₁ := A1) (l₂ := B1)).symm)
theorem wv_methP (h : Ev K E Ψ to Δ O fun x O1 => ∃ fs, x = .obj Cl fs ∧ fs.lookup m = none ∧ EvA K E Ψ ts Δ O1 fun ds O2 => ∃ a, .obj Cl fs :: ds = A a ∧ C a ∧ k (F a) O2) : Ev K E Ψ (tMeth Cl m (mkSp K (preF A C F)) [] E' to ts) Δ O k :=
  wv_methE (h.imp fun x O1 ⟨fs, e, hm, ha⟩ => ⟨fs, e, hm, ha.imp fun ds O2 ⟨a, e2, c, q⟩ => ⟨F a, ⟨a, e2, c, rfl, rfl, rfl⟩, q⟩⟩)
theorem wv_methR (h : Ev K E Ψ to Δ O fun x O1 => ∃ fs, x = .obj Cl fs ∧ fs.lookup m = none ∧ EvA K E Ψ ts Δ O1 fun ds O2 => ∃ a, .obj Cl fs :: ds = A a ∧ C a ∧ ∀ d, S a d → k d O2) : Ev K E Ψ (tMeth Cl m (mkSp K (preR A C S)) [] E' to ts) Δ O k :=
  wv_meth (h.imp fun x O1 ⟨fs, e, hm, ha⟩ => ⟨fs, e, hm, ha.imp fun ds O2 ⟨a, e2, c, q⟩ => ⟨[], O2, _, .refl _, ⟨a, e2, c, rfl, rfl, rfl⟩, fun d O3 p => ⟨O2, by rw [p.2]; exact .refl _, q d p.1⟩⟩⟩)
theorem wv_methNN (h : Ev K E Ψ to Δ O fun x O1 => ∃ fs, x = .obj Cl fs ∧ fs.lookup m = none ∧ EvA K E Ψ ts Δ O1 fun ds O2 => ∃ a, .obj Cl fs :: ds = A a ∧ C a ∧ ∀ q, k (.ref q) ((q, .lst (G a)) :: O2)) : Ev K E Ψ (tMeth Cl m (mkSp K (preN A C G)) [] E' to ts) Δ O k :=
  wv_methN (h.imp fun x O1 ⟨fs, e, hm, ha⟩ => ⟨fs, e, hm, ha.imp fun ds O2 ⟨a, e2, c, q⟩ => ⟨_, ⟨a, e2, c, rfl, rfl, rfl⟩, q⟩⟩)
theorem wv_methNF (h : Ev K E Ψ to Δ O fun x O1 => ∃ fs, x = .obj Cl fs ∧ fs.lookup m = none ∧ EvA K E Ψ ts Δ O1 fun ds O2 => ∃ a, .obj Cl fs :: ds = A a ∧ C a ∧ k (.lst (G a)) O2) : Ev K E Ψ (tMeth Cl m (mkSp K (preN A C G)) [] E' to ts) Δ O k :=
  wv_methF (h.imp fun x O1 ⟨fs, e, hm, ha⟩ => ⟨fs, e, hm, ha.imp fun ds O2 ⟨a, e2, c, q⟩ => ⟨_, ⟨a, e2, c, rfl, rfl, rfl⟩, q⟩⟩)
theorem cad_lenF {fs : List (Str × Dt)} {F : α → Int} (a : α) (e : [.obj Cl fs] = A a) (hc : C a) (hn : 0 ≤ F a ∧ F a < 9223372036854775808) (q : k (.int (F a)) O) : CaD K E Ψ (rLenI Cl (mkSp K (preF A C (fun a => .int (F a)))) E') [.obj Cl fs] O k :=
  kc (cad_lenI ⟨a, e, hc, rfl, rfl, rfl⟩ hn) q
end
section
variable {K : PySem.W.Frag} {E : XK} {Ψ : XPost} {O : Own} {k : Dt → Own → Prop} {x z : Dt} {ds : List Dt}
theorem ko_ixN {i : Nat} (hs : SeqOf O x ds) (h : ds[i]? = some z) (q : k z O) : OpD K E Ψ (rIx K) x (.int (i : Int)) O k := ko (opd_ixN hs h) q
theorem ko_ixI {i : Int} (hs : SeqOf O x ds) (h0 : 0 ≤ i) (h : ds[i.toNat]? = some z) (q : k z O) : OpD K E Ψ (rIx K) x (.int i) O k := ko (opd_ixI hs h0 h) q
theorem kc_lenO {p : Addr} (m : (p, Ow.lst ds) ∈ O) (q : k (.int (ds.length : Int)) O) : CaD K E Ψ (fun xs H Q => ∃ x n, xs = [x] ∧ LenV K x H n ∧ Q (.int n) H) [.ref p] O k := kc (cad_len (so_own m)) q
end
section
variable {K : PySem.W.Frag} {E E' : XK} {Ψ : XPost} {O : Own} {k : Dt → Own → Prop} {x y z : Dt} {ds : List Dt} {Δ : Env_} {ta tb tc : TE} {r r' : R2} {t : TS} {P : Post} {p : Addr} {ts : TA}
theorem cad_intB {b : Bool} : CaD K E Ψ (fun xs H Q => (∃ i, xs = [.int i] ∧ Q (.int i) H) ∨ ∃ k, xs = [.bl k] ∧ Q (.int (if k then 1 else 0)) H) [.bl b] O (ex (.int (if b then 1 else 0)) O) := cad_val fun F H vs _ c k => by
  cases k with
  | cons k l =>
    cases l; cases k
    exact ⟨_, .int _, fun Q q => .inr ⟨b, rfl, q⟩⟩
theorem wv_chainP (h : Ev K E Ψ ta Δ O fun x O1 => Ev K E Ψ tb Δ O1 fun y O2 => ∃ c c', OpD K E Ψ r x y O2 (ex (.bl c) O2) ∧ (c = true → Ev K E Ψ tc Δ O2 fun w O4 => OpD K E Ψ r' y w O4 (ex (.bl c') O2)) ∧ k (.bl (c && c')) O2) : Ev K E Ψ (tChain r r' ta tb tc) Δ O k :=
  wv_chain (b1 := true) (h.imp fun x O1 h1 => h1.imp fun y O2 ⟨c, c', h2, h3, q⟩ => h2.imp fun z O3 e => by
    rw [e.1, e.2]
    refine ⟨c, rfl, fun hc => (h3 hc).imp fun w O4 hw => hw.imp fun d O5 e5 => ?_, fun hc => ?_⟩
    · rw [e5.1, e5.2]; rw [hc] at q; exact q
    · rw [hc] at q; exact q)
theorem opd_timesL {n : Int} (h0 : 0 ≤ n) (hn : n ≤ 10000) (hl : ds.length ≤ 100) : OpD K E Ψ (rTimes K) (.lst ds) (.int n) O (nwl (List.replicate n.toNat ds).flatten O) := opd_or1 (opd_or2 (opd_new fun F H a b bb c k1 k2 => by
  cases k2
  cases k1 with
  | lst hx l =>
    rename_i ad xs
    refine ⟨(List.replicate n.toNat xs).flatten, flat_rep _ _ _ l, fun Q q => ⟨ad, n, xs, rfl, rfl, c _ _ hx, by omega, by omega, ?_, q⟩⟩
    have := sizeLine_eq
    have h3 := l.length
    have : xs.length * n.toNat ≤ 100 * 10000 := Nat.mul_le_mul (by omega) (by omega)
    omega))
theorem flat_one {v : Dt} (n : Nat) : (List.replicate n [v]).flatten = List.replicate n v := by
  induction n with
  | zero => rfl
  | succ n ih => simp [List.replicate_succ, ih]
theorem cons_erase {β : Type} : ∀ (n : Nat) (l : List β) (h : n < l.length), (l[n] :: l.eraseIdx n).Perm l
  | _, [], h => by simp at h
  | 0, a :: l, _ => .refl _
  | n + 1, a :: l, h => by
    have ih := cons_erase n l (by simpa using h)
    simp only [List.getElem_cons_succ, List.eraseIdx_cons_succ]
    exact (List.Perm.swap ..).trans (ih.cons a)
/-- an owned list of a slot is known from now on -/
theorem sv_frzE {n i : Nat} (hO : O[n]? = some (p, .lst ds)) (hi : Δ[i]? = some (some (.ref p))) (h : Sv K E Ψ t (Δ.set i (some (.lst ds))) (O.eraseIdx n) P) : Sv K E Ψ t Δ O P :=
  sv_frz (List.mem_of_getElem? hO) hi fun O' hp => by
    have hl : n < O.length := (List.getElem?_eq_some_iff.mp hO).1
    have e : O[n] = (p, .lst ds) := by have := List.getElem?_eq_getElem hl; rw [hO] at this; exact (Option.some.inj this).symm
    have h2 := cons_erase n O hl
    rw [e] at h2
    exact sv_perm (List.Perm.cons_inv (h2.trans hp)) h
theorem getD_get {vs : List Nat} {u : Nat} (h : u < vs.length) : vs[u]? = some (vs.getD u 0) := by
  rw [List.getD_eq_getElem?_getD, List.getElem?_eq_getElem h]; rfl
theorem getD_in {vs : List Nat} {u n : Nat} (h : u < vs.length) (hv : ∀ v ∈ vs, v < n) : vs.getD u 0 < n := hv _ (List.mem_of_getElem? (getD_get h))
/-- the least pair with a property, or None -/
def LeastP (n : Nat) (Q : Nat → Nat → Prop) (d : Dt) : Prop := (d = .non ∧ ∀ u v, u < n → v < n → ¬ Q u v) ∨ ∃ u v, u < n ∧ v < n ∧ Q u v ∧ d = .tup [.int (u : Int), .int (v : Int)] ∧ ∀ u' v', u' < n → v' < n → Q u' v' → u < u' ∨ (u = u' ∧ v ≤ v')
theorem LeastP.uniq {n : Nat} {Q : Nat → Nat → Prop} {d e : Dt} (h : LeastP n Q d) (h' : LeastP n Q e) : d = e := by
  rcases h with ⟨rfl, h⟩ | ⟨u, v, hu, hv, hq, rfl, h⟩ <;> rcases h' with ⟨rfl, h'⟩ | ⟨u', v', hu', hv', hq', rfl, h'⟩
  · rfl
  · exact absurd hq' (h _ _ hu' hv')
  · exact absurd hq (h' _ _ hu hv)
  · have a := h u' v' hu' hv' hq'
    have b := h' u v hu hv hq
    have e1 : u = u' := by omega
    have e2 : v = v' := by omega
    rw [e1, e2]
theorem wv_lstNil (h : ∀ q, k (.ref q) ((q, .lst []) :: O)) : Ev K E Ψ (tLst tNil) Δ O k := wv_lstO (wa_nil ⟨by decide, h⟩)
theorem ko_ix2 {r u n : Nat} {b : Bool} (hr : r < n) (hu : u < n) (h : ∀ v : Nat, v < n → k (.int (v : Int)) O) : OpD K E Ψ (rIx K) (.lst [.int (r : Int), .int (u : Int)]) (.int (if b then 1 else 0)) O k := by
  cases b with
  | true => exact ko (opd_ixI so_lst (by decide) rfl) (h u hu)
  | false => exact ko (opd_ixI so_lst (by decide) rfl) (h r hr)
end
end FF
set_option Elab.async false
set_option linter.all false
set_option maxRecDepth 100000
set_option maxHeartbeats 1000000
namespace FF
open PySem PySem.Spec PyProof.Rows L2
open Evl (Ex sz_of sz_lt fresh_back)
abbrev intsD (vs : List Nat) : List Dt := vs.map fun (v : Nat) => Dt.int (v : Int)
/-- one number more -/
theorem ints_app {vs : List Nat} {n : Nat} (hv : ∀ v ∈ vs, v < n) {v : Nat} (h : v < n) : intsD vs ++ [.int (v : Int)] = intsD (vs ++ [v]) ∧ (vs ++ [v]).length = vs.length + 1 ∧ ∀ z ∈ vs ++ [v], z < n :=
  ⟨by rw [intsD, intsD, List.map_append]; rfl, by simp, fun z hz => by
    rcases List.mem_append.mp hz with h' | h'
    · exact hv z h'
    · rw [show z = v from by simpa using h']; exact h⟩
section
variable {K : PySem.W.Frag} {E : XK} {Ψ : XPost} {Δ : Env_} {O : Own}
/-- p[n] = e, with what follows as post -/
theorem wp_setL {te to ti : TE} {nx bk ct : Env_ → Own → Prop} {rt : Dt → Own → Prop} (h : Ev K E Ψ te Δ O fun d O1 => Ev K E Ψ to Δ O1 fun x O2 => Ev K E Ψ ti Δ O2 fun y O3 => ∃ (p : Addr) (n i : Nat) (ds : List Dt), x = .ref p ∧ y = .int (n : Int) ∧ O3[i]? = some (p, .lst ds) ∧ n < ds.length ∧ nx Δ (O3.set i (p, .lst (ds.set n d)))) :
    Sv K E Ψ (tAsg te (gSub to ti rSetL)) Δ O ⟨nx, rt, bk, ct⟩ := fun σ F H D a b c e kk => h σ F H a b c e _ fun v F1 H1 d1 O1 g1 b1 k1 p1 => by
  refine p1 σ F1 H1 (a.mono g1.ext) b1 g1.sub (e.step g1) _ fun w F2 H2 d2 O2 g2 b2 k2 p2 => ?_
  refine p2 σ F2 H2 (a.mono (g1.trans g2).ext) b2 g2.sub ((e.step g1).step g2) _ fun w3 F3 H3 d3 O3 g3 b3 k3 p3 => ?_
  obtain ⟨p, n, i, ds, rfl, rfl, hi, hl, kn⟩ := p3
  cases k2
  cases k3
  obtain ⟨xs, hx, l⟩ := own_at b3 hi
  obtain ⟨g, b4⟩ := own_set (xs := xs.set n v) b3 g3.sub hi (l.set n (k1.mono (g2.trans g3).ext))
  have g5 := ((g1.trans g2).trans g3).trans g
  refine ⟨p, xs, (n : Int), n, rfl, rfl, hx, ?_, kk.nx σ F3 _ Δ _ g5 b4 (a.mono g5.ext) kn⟩
  unfold ixN
  rw [l.length, if_pos (by omega), if_pos (by omega)]
  simp
end
/-! a list as a test -/
def tTru (K : PySem.W.Frag) (te : TE) : TT := fun σ H Q => te σ H fun x H' => ∃ k, L2.TruV K x H' k ∧ Q k H'
theorem pt_tru {X : Cx} {a : Expr} {ta : TE} (h : PE X a ta) (r : ∀ whole : Sem Value, PySem.isTrue a X.env whole = (do let v ← whole; standAt a.pos; holding [v] (truthy v))) : PT X a (tTru X.K ta) := pt_truth h r
section
variable {K : PySem.W.Frag} {E : XK} {Ψ : XPost} {Δ : Env_} {O : Own} {te : TE} {kb : Bool → Own → Prop}
theorem wt_tru (h : Ev K E Ψ te Δ O fun d O1 => ∃ ds, SeqOf O1 d ds ∧ kb (!ds.isEmpty) O1) : EvT K E Ψ (tTru K te) Δ O kb := fun σ F H a b c e Q q => h σ F H a b c e _ fun v F1 H1 x O1 g1 b1 k1 p1 => by
  obtain ⟨ds, hs, p⟩ := p1
  obtain ⟨p0, xs, rfl, h, l⟩ := hs.read b1 g1.sub k1
  have e0 : xs.isEmpty = ds.isEmpty := by cases l <;> rfl
  rcases h with h | h
  · exact ⟨_, .inl ⟨xs, h, rfl⟩, q _ F1 H1 O1 g1 b1 (by rw [e0]; exact p)⟩
  · exact ⟨_, .inr (.inl ⟨xs, h, rfl⟩), q _ F1 H1 O1 g1 b1 (by rw [e0]; exact p)⟩
theorem wt_truL (h : Ev K E Ψ te Δ O fun d O1 => ∃ ds, d = .lst ds ∧ kb (!ds.isEmpty) O1) : EvT K E Ψ (tTru K te) Δ O kb :=
  wt_tru (h.imp fun d O1 ⟨ds, e, q⟩ => ⟨ds, by rw [e]; exact so_lst, q⟩)
end
/-! an owned list lent as if it were known -/
section
variable {K : PySem.W.Frag} {E E' : XK} {Ψ : XPost} {Δ : Env_} {O O2 : Own} {to : TE} {ts : TA} {k : Dt → Own → Prop} {C : Addr} {m : Str}
def SnL (K : PySem.W.Frag) (O : Own) (ds ds' : List Dt) : Prop := ∀ F H vs, OwnOk K F H O → Ex F H → DatL K F vs ds → ∃ F', Ex F F' ∧ Ex F' H ∧ DatL K F' vs ds'
def AtomD (z : Dt) : Prop := ∀ (K : PySem.W.Frag) (F F' : Hp) (v : V), Dat K F v z → Dat K F' v z
theorem atom_bl {i : Bool} : AtomD (.bl i) := fun K F F' v h => by cases h; exact .bl _
theorem lend {F2 H2 F3 F' H' : Hp} (b2 : OwnOk K F2 H2 O2) (e : Ex F2 F3) (g : Gw [] F3 H2 [] F' H') : Gw O2 F2 H2 O2 F2 H' ∧ OwnOk K F2 H' O2 :=
  ⟨⟨fun _ _ h => h, fun a w h => g.sub _ _ (g.ext _ _ (e _ _ h)), fun a o _ h => g.keep a o (by simp) h, g.dom, fun _ _ _ => rfl, fun _ h => .inl h⟩,
   ⟨b2.nd, fun p o m => ⟨(b2.at_ p o m).1, (b2.at_ p o m).2.mono (fun _ _ h => h) fun u h => g.keep p u (by simp) h⟩⟩⟩
theorem own0 {F H : Hp} : OwnOk K F H [] := ⟨by simp, fun p o m => by cases m⟩
end
end FF
set_option Elab.async false
set_option linter.all false
set_option maxRecDepth 100000
set_option maxHeartbeats 1000000
/-! max(xs, default=d), xs a list of whole numbers -/
namespace FMaxW
open PySem
section
variable {prog : Program} {w : World} {A : Around} {R : Result → Shared → Prop} {I : Addr} {fp wr : List Addr} {n : Nat} {P : Nat → Value → Prop} {St : Nat → Heap → Prop} {bt : Nat → Nat → Bool}
theorem nm : (toString "max" ++ toString ".loop" : String) = "max.loop" := by decide
end
end FMaxW
namespace FF
open PySem PySem.Spec PyProof.Rows L2
open Evl (Ex sz_of sz_lt fresh_back)
def rMaxDf (K : PySem.W.Frag) : List V → List V → Hp → VK → Prop := fun vs zs H Q => ∃ (a : Addr) (ns : List Int) (d : Int), vs = [V.ref a] ∧ zs = [.int d] ∧ SqL K H a (ns.map V.int) ∧ ∀ m, (ns = [] ∧ m = d ∨ m ∈ ns ∧ ∀ y ∈ ns, y ≤ m) → Q (.int m) H
end FF
set_option Elab.async false
set_option linter.all false
set_option maxRecDepth 100000
set_option maxHeartbeats 1000000
namespace FF
open PySem PySem.Spec PyProof.Rows L2
open Evl (Ex sz_of sz_lt fresh_back)
section
variable {K : PySem.W.Frag} {E E' : XK} {Ψ : XPost} {F F' F1 F2 H H' H1 H2 : Hp} {O O' O1 O2 R : Own} {Δ : Env_} {te ta tb tc to td ty tx ti tv : TE} {tas ts tk : TA} {x y z : Dt} {ds es : List Dt} {k : Dt → Own → Prop} {p : Addr} {ks : List (Key × Dt)}
/-! whole numbers in lists, tuples -/
theorem flat_ints (ns : List Int) : (ns.map V.int).all flatV = true := by rw [List.all_map]; exact List.all_eq_true.mpr fun _ _ => rfl
theorem inV_ints {i : Int} (ns : List Int) : inV (.int i) (ns.map V.int) = decide (i ∈ ns) := by
  unfold inV
  rw [List.any_map]
  induction ns with
  | nil => rfl
  | cons n ns ih =>
    rw [List.any_cons, ih, Bool.eq_iff_iff]
    simp only [Function.comp, eqV, Bool.or_eq_true, beq_iff_eq, decide_eq_true_eq, List.mem_cons]
    exact ⟨fun h => h.imp Eq.symm id, fun h => h.imp Eq.symm id⟩
theorem opd_inI {i : Int} {ns : List Int} (hs : SeqOf O y (ns.map .int)) : OpD K E Ψ (rIn K false) (.int i) y O (ex (.bl (decide (i ∈ ns))) O) := opd_val fun F H v u b c k1 k2 => by
  cases k1
  obtain ⟨a, xs, rfl, hq, l⟩ := hs.read b c k2
  rw [l.ints_inv] at hq
  exact ⟨_, .bl _, fun Q q => ⟨a, _, rfl, hq, rfl, flat_ints ns, by rw [inV_ints]; exact q⟩⟩
theorem opd_notinI {i : Int} {ns : List Int} (hs : SeqOf O y (ns.map .int)) : OpD K E Ψ (rIn K true) (.int i) y O (ex (.bl (!decide (i ∈ ns))) O) := opd_val fun F H v u b c k1 k2 => by
  cases k1
  obtain ⟨a, xs, rfl, hq, l⟩ := hs.read b c k2
  rw [l.ints_inv] at hq
  exact ⟨_, .bl _, fun Q q => ⟨a, _, rfl, hq, rfl, flat_ints ns, by rw [inV_ints]; exact q⟩⟩
theorem nat_in {u : Nat} {vs : List Nat} : decide ((u : Int) ∈ vs.map fun (v : Nat) => (v : Int)) = decide (u ∈ vs) := by
  rw [Bool.eq_iff_iff, decide_eq_true_eq, decide_eq_true_eq, List.mem_map]
  exact ⟨fun ⟨v, m, e⟩ => by rw [← Int.ofNat_inj.mp e]; exact m, fun m => ⟨u, m, rfl⟩⟩
theorem ints_nat (vs : List Nat) : intsD vs = (vs.map fun (v : Nat) => (v : Int)).map Dt.int := by rw [List.map_map]; rfl
/-- whole numbers from 0 on, two written ones -/
theorem ko_in2 {u a b : Nat} (q : k (.bl (decide (u = a ∨ u = b))) O) : OpD K E Ψ (rIn K false) (.int (u : Int)) (.tup [.int (a : Int), .int (b : Int)]) O k :=
  ko (opd_inI (ns := [(a : Int), (b : Int)]) so_tup) (by rw [show decide ((u : Int) ∈ [(a : Int), (b : Int)]) = decide (u = a ∨ u = b) by simp [Int.ofNat_inj]]; exact q)
theorem ko_notin2 {u a b : Nat} (q : k (.bl (decide (¬(u = a ∨ u = b)))) O) : OpD K E Ψ (rIn K true) (.int (u : Int)) (.tup [.int (a : Int), .int (b : Int)]) O k :=
  ko (opd_notinI (ns := [(a : Int), (b : Int)]) so_tup) (by rw [show (!decide ((u : Int) ∈ [(a : Int), (b : Int)])) = decide (¬(u = a ∨ u = b)) by simp [Int.ofNat_inj]]; exact q)
theorem ko_notinL {u : Nat} {vs : List Nat} (hs : SeqOf O y (intsD vs)) (q : k (.bl (!decide (u ∈ vs))) O) : OpD K E Ψ (rIn K true) (.int (u : Int)) y O k := by
  rw [ints_nat] at hs
  exact ko (opd_notinI hs) (by rw [nat_in]; exact q)
/-! dicts, known or owned -/
def DicOf (O : Own) (d : Dt) (ks : List (Key × Dt)) : Prop := d = .dic ks ∨ (∃ p, d = .ref p ∧ (p, Ow.dic ks) ∈ O) ∨ d = .fdc ks
theorem do_own (m : (p, Ow.dic ks) ∈ O) : DicOf O (.ref p) ks := .inr (.inl ⟨p, rfl, m⟩)
theorem do_fdc : DicOf O (.fdc ks) ks := .inr (.inr rfl)
theorem DicOf.read (h : DicOf O x ks) (b : OwnOk K F H O) (c : Ex F H) {v : V} (k : Dat K F v x) : ∃ a kvs, v = .ref a ∧ L2.Rd H a (.dK kvs) ∧ DatK K F kvs ks := by
  rcases h with rfl | ⟨p, rfl, m⟩ | rfl
  · cases k with | dic e l => exact ⟨_, _, rfl, .inl (c _ _ e), l⟩
  · cases k
    obtain ⟨_, kvs, e, l⟩ := b.at_ _ _ m
    exact ⟨p, kvs, rfl, .inl e, l⟩
  · cases k with | fdc e l => exact ⟨_, _, rfl, .inr ⟨_, c _ _ e⟩, l⟩
def lookD (ks : List (Key × Dt)) (k : Key) : Option Dt := (ks.find? fun w => decide (w.1 = k)).map (·.2)
theorem DatK.val {kvs : List (Key × V)} (h : DatK K F kvs ks) (k : Key) : (∀ d, lookD ks k = some d → ∃ v, valV kvs k = some v ∧ Dat K F v d) ∧ (lookD ks k = none → valV kvs k = none) := by
  unfold lookD valV
  induction ks generalizing kvs with
  | nil => cases h; exact And.intro (fun d (z : none = some d) => nomatch z) (fun _ => rfl)
  | cons w ks ih =>
    cases h with
    | cons h1 h2 =>
      rename_i k0 v0 vs d0
      by_cases e : k0 = k
      · simp only [List.find?_cons, e, decide_true, Option.map_some]
        exact ⟨fun d z => by cases z; exact ⟨_, rfl, h1⟩, fun z => by cases z⟩
      · simp only [List.find?_cons, e, decide_false]
        exact ih h2
theorem DatK.some_ {kvs : List (Key × V)} (h : DatK K F kvs ks) (k : Key) : (valV kvs k).isSome = (lookD ks k).isSome := by
  obtain ⟨h1, h2⟩ := h.val k
  cases e : lookD ks k with
  | none => rw [h2 e]; rfl
  | some d => obtain ⟨v, ev, _⟩ := h1 d e; rw [ev]; rfl
theorem keyD_kV {kk : Key} {v : V} (h : Dat K F v (keyD kk)) : v = kV kk := by cases kk <;> cases h <;> rfl
theorem wv_dget (h : Ev K E Ψ td Δ O fun x O1 => Ev K E Ψ ty Δ O1 fun y O2 => ∃ ks kk d, DicOf O2 x ks ∧ y = keyD kk ∧ lookD ks kk = some d ∧ k d O2) : Ev K E Ψ (tDGet td ty) Δ O k := fun σ F H a b c e Q q =>
  h σ F H a b c e _ fun v F1 H1 x O1 g1 b1 k1 p1 => p1 σ F1 H1 (a.mono g1.ext) b1 g1.sub (e.step g1) _ fun u F2 H2 y O2 g2 b2 k2 p2 => by
    obtain ⟨ks, kk, d, hd, rfl, hl, hk⟩ := p2
    obtain ⟨ad, kvs, rfl, hp, l⟩ := hd.read b2 g2.sub (k1.mono g2.ext)
    obtain ⟨w, hw, kw⟩ := (l.val kk).1 d hl
    rw [keyD_kV k2]
    exact ⟨ad, w, rfl, by rw [← hw]; exact .inl ⟨_, _, hp, rfl, rfl⟩, q w F2 H2 d O2 (g1.trans g2) b2 kw hk⟩
theorem wv_din (h : Ev K E Ψ ty Δ O fun y O1 => Ev K E Ψ td Δ O1 fun x O2 => ∃ ks kk, DicOf O2 x ks ∧ y = keyD kk ∧ k (.bl (lookD ks kk).isSome) O2) : Ev K E Ψ (tDIn ty td) Δ O k := fun σ F H a b c e Q q =>
  h σ F H a b c e _ fun v F1 H1 x O1 g1 b1 k1 p1 => p1 σ F1 H1 (a.mono g1.ext) b1 g1.sub (e.step g1) _ fun u F2 H2 y O2 g2 b2 k2 p2 => by
    obtain ⟨ks, kk, hd, rfl, hk⟩ := p2
    obtain ⟨ad, kvs, rfl, hp, l⟩ := hd.read b2 g2.sub k2
    rw [keyD_kV k1]
    exact ⟨ad, _, rfl, .inl ⟨_, _, hp, rfl, rfl⟩, q _ F2 H2 _ O2 (g1.trans g2) b2 (.bl _) (by rw [l.some_]; exact hk)⟩
theorem wv_dnotin (h : Ev K E Ψ ty Δ O fun y O1 => Ev K E Ψ td Δ O1 fun x O2 => ∃ ks kk, DicOf O2 x ks ∧ y = keyD kk ∧ k (.bl (!(lookD ks kk).isSome)) O2) : Ev K E Ψ (tDNotIn ty td) Δ O k := fun σ F H a b c e Q q =>
  h σ F H a b c e _ fun v F1 H1 x O1 g1 b1 k1 p1 => p1 σ F1 H1 (a.mono g1.ext) b1 g1.sub (e.step g1) _ fun u F2 H2 y O2 g2 b2 k2 p2 => by
    obtain ⟨ks, kk, hd, rfl, hk⟩ := p2
    obtain ⟨ad, kvs, rfl, hp, l⟩ := hd.read b2 g2.sub k2
    rw [keyD_kV k1]
    exact ⟨ad, _, rfl, .inl ⟨_, _, hp, rfl, rfl⟩, q _ F2 H2 _ O2 (g1.trans g2) b2 (.bl _) (by rw [l.some_]; exact hk)⟩
theorem look_setD {us : List Int} {n : Int} : (lookD (setD us) (.inl n)).isSome = decide (n ∈ us) := by
  unfold lookD setD
  induction us with
  | nil => rfl
  | cons u us ih =>
    by_cases e : u = n
    · simp [e]
    · have e2 : ¬ (Sum.inl u : Key) = Sum.inl n := fun z => e (by cases z; rfl)
      simp only [List.map_cons, List.find?_cons, e2, decide_false] at ih ⊢
      rw [ih, Bool.eq_iff_iff, decide_eq_true_eq, decide_eq_true_eq, List.mem_cons]
      exact ⟨.inr, fun h => h.resolve_left fun z => e z.symm⟩
/-! max, index, [::-1] -/
theorem cad_max2 {i j : Int} : CaD K E Ψ (fun xs H Q => ∃ i j, xs = [.int i, .int j] ∧ Q (.int (if j > i then j else i)) H) [.int i, .int j] O (ex (.int (max i j)) O) := cad_val fun F H vs b c k => by
  cases k with
  | cons k l =>
    cases l with
    | cons k' l =>
      cases l; cases k; cases k'
      refine ⟨_, .int _, fun Q q => ⟨i, j, rfl, ?_⟩⟩
      rw [show (if j > i then j else i) = max i j from by omega]
      exact q
theorem wv_maxDf (h : EvA K E Ψ tas Δ O fun xs O1 => EvA K E Ψ tk Δ O1 fun zs O2 => Pin (∃ ns d, xs = [.lst (ns.map .int)] ∧ zs = [.int d] ∧ ∀ m, (ns = [] ∧ m = d ∨ m ∈ ns ∧ ∀ y ∈ ns, y ≤ m) → k (.int m) O2)) : Ev K E Ψ (tCKw (rMaxDf K) tas tk) Δ O k := fun σ F H a b c e Q q =>
  h σ F H a b c e _ fun v F1 H1 x O1 g1 b1 k1 p1 => p1 σ F1 H1 (a.mono g1.ext) b1 g1.sub (e.step g1) _ fun u F2 H2 y O2 g2 b2 k2 p2 => by
    obtain ⟨ns, d, rfl, rfl, hk⟩ := p2
    cases k1 with
    | cons k1 l1 =>
      cases l1
      cases k2 with
      | cons k2 l2 =>
        cases l2
        cases k2
        cases k1 with
        | lst hx l =>
          rw [l.ints_inv] at hx
          exact ⟨_, ns, d, rfl, rfl, .of (g2.sub _ _ (g2.ext _ _ hx)), fun m hm => q (.int m) F2 H2 _ O2 (g1.trans g2) b2 (.int m) (hk m hm)⟩
theorem eqd_nil {ds : List Dt} : eqd (.lst ds) (.lst []) = ds.isEmpty := by
  cases ds <;> simp [eqd, Dt.py, PyData.eqv, pyL, PyData.eqvAll]
theorem ko_eqNilI {vs : List Nat} (hv : ∀ v ∈ vs, v < 64) (hl : vs.length ≤ 64) (q : k (.bl vs.isEmpty) O) : OpD K E Ψ (rEqU K) (.lst (intsD vs)) (.lst []) O k := by
  have hn : Nic 1 500 (.lst (intsD vs)) := (nic_lst (D := 0) (S := 5) (n := 64) (fun e m => by
    obtain ⟨v, mv, rfl⟩ := List.mem_map.mp m
    exact (nic_int (by omega) (by have := hv v mv; omega)).mono (by omega) (by omega)) (by simp; exact hl)).mono (by omega) (by omega)
  refine ko (opd_eqS seen_self seen_self (hn.eok (by decide)) rfl) ?_
  rw [eqd_nil, List.isEmpty_map]
  exact q
theorem kc_any {α : Type} {us : List α} {c : α → Bool} (q : k (.bl (us.any c)) O) : CaD K E Ψ (rAny K) [.lst (us.map fun w => .bl (c w))] O k := by
  have h := cad_any (K := K) (E := E) (Ψ := Ψ) (O := O) (x := .lst (us.map fun w => .bl (c w))) (bs := us.map c) (by rw [List.map_map]; exact lo_lst)
  rw [List.any_map] at h
  exact kc h q
theorem kc_all {α : Type} {us : List α} {c : α → Bool} (q : k (.bl (us.all c)) O) : CaD K E Ψ (rAll K) [.lst (us.map fun w => .bl (c w))] O k := by
  have h := cad_all (K := K) (E := E) (Ψ := Ψ) (O := O) (x := .lst (us.map fun w => .bl (c w))) (bs := us.map c) (by rw [List.map_map]; exact lo_lst)
  rw [List.all_map] at h
  exact kc h q
end
/-! pairs of whole numbers -/
def prD (p : Nat × Nat) : Dt := .tup [.int (p.1 : Int), .int (p.2 : Int)]
/-- two rising lists of the same things are one -/
theorem perm_rise {α : Type} {le : α → α → Bool} (an : ∀ a b, le a b = true → le b a = true → a = b) : ∀ {xs ys : List α}, xs.Perm ys → xs.Pairwise (fun a b => le a b = true) → ys.Pairwise (fun a b => le a b = true) → xs = ys
  | [], ys, h, _, _ => (List.nil_perm.mp h).symm
  | x :: xs, [], h, _, _ => by have := h.length_eq; simp at this
  | x :: xs, y :: ys, h, h1, h2 => by
    rw [List.pairwise_cons] at h1 h2
    have e : x = y := by
      rcases List.mem_cons.mp (h.subset (List.mem_cons_self ..)) with e | m
      · exact e
      · rcases List.mem_cons.mp (h.symm.subset (List.mem_cons_self (a := y) (l := ys))) with e | m'
        · exact e.symm
        · exact an _ _ (h1.1 y m') (h2.1 x m)
    subst e
    rw [perm_rise an (List.Perm.cons_inv h) h1.2 h2.2]
section
variable {K : PySem.W.Frag} {E : XK} {Ψ : XPost} {O : Own} {k : Dt → Own → Prop}
theorem intsD_eok {vs : List Nat} (hv : ∀ v ∈ vs, v < 64) (hl : vs.length ≤ 64) : (Dt.lst (intsD vs)).eok = true :=
  ((nic_lst (D := 0) (S := 5) (n := 64) (fun e m => by
    obtain ⟨v, mv, rfl⟩ := List.mem_map.mp m
    exact (nic_int (by omega) (by have := hv v mv; omega)).mono (by omega) (by omega)) (by simp; exact hl)).mono (D' := 1) (S' := 500) (by omega) (by omega)).eok (by decide)
theorem ko_neNilI {vs : List Nat} (hv : ∀ v ∈ vs, v < 64) (hl : vs.length ≤ 64) (q : k (.bl (!vs.isEmpty)) O) : OpD K E Ψ (rNeU K) (.lst (intsD vs)) (.lst []) O k := by
  refine ko (opd_neS seen_self seen_self (intsD_eok hv hl) rfl) ?_
  rw [eqd_nil, List.isEmpty_map]
  exact q
/-- some of the first n numbers -/
theorem fl_lt {n : Nat} (hn : n ≤ 64) (c : Nat → Bool) : (∀ v ∈ (List.range n).filter c, v < 64) ∧ ((List.range n).filter c).length ≤ 64 :=
  ⟨fun v m => by have := List.mem_range.mp (List.mem_filter.mp m).1; omega, by have := List.length_filter_le c (List.range n); rw [List.length_range] at this; omega⟩
theorem ko_eqNilF {n : Nat} {c : Nat → Bool} (hn : n ≤ 64) (q : k (.bl ((List.range n).filter c).isEmpty) O) : OpD K E Ψ (rEqU K) (.lst (((List.range n).filter c).map fun (v : Nat) => Dt.int (v : Int))) (.lst []) O k := ko_eqNilI (fl_lt hn c).1 (fl_lt hn c).2 q
theorem ko_neNilF {n : Nat} {c : Nat → Bool} (hn : n ≤ 64) (q : k (.bl (!((List.range n).filter c).isEmpty)) O) : OpD K E Ψ (rNeU K) (.lst (((List.range n).filter c).map fun (v : Nat) => Dt.int (v : Int))) (.lst []) O k := ko_neNilI (fl_lt hn c).1 (fl_lt hn c).2 q
theorem ko_timesN {n : Nat} {z : Dt} (hn : n ≤ 10000) (q : ∀ p, k (.ref p) ((p, .lst (List.replicate n z)) :: O)) : OpD K E Ψ (rTimes K) (.lst [z]) (.int (n : Int)) O k :=
  (opd_timesL (by omega) (by omega) (by simp)).imp fun d O' ⟨p, e1, e2⟩ => by
    rw [e1, e2, Int.toNat_natCast, flat_one]
    exact q p
end
end FF
set_option Elab.async false
set_option linter.all false
set_option maxRecDepth 100000
set_option maxHeartbeats 1000000
namespace FF
open PySem PySem.Spec PyProof.Rows L2
open Evl (Ex sz_of sz_lt fresh_back)
/-! owned lists as they are read now, at any depth -/
mutual
inductive Rep (O : Own) : Dt → Dt → Prop
  | self {d : Dt} : Rep O d d
  | own {p : Addr} {xs : List Dt} {d : Dt} : (p, Ow.lst xs) ∈ O → Rep O (.lst xs) d → Rep O (.ref p) d
  | lst {ds es : List Dt} : RepL O ds es → Rep O (.lst ds) (.lst es)
  | tup {ds es : List Dt} : RepL O ds es → Rep O (.tup ds) (.tup es)
inductive RepL (O : Own) : List Dt → List Dt → Prop
  | nil : RepL O [] []
  | cons {d e : Dt} {ds es : List Dt} : Rep O d e → RepL O ds es → RepL O (d :: ds) (e :: es)
end
theorem rep_own {O : Own} {p : Addr} {xs : List Dt} (m : (p, Ow.lst xs) ∈ O) : Rep O (.ref p) (.lst xs) := .own m .self
section
variable {K : PySem.W.Frag} {E E' : XK} {Ψ : XPost} {F F' F1 F2 H H' H1 H2 : Hp} {Δ : Env_} {O O1 O2 : Own} {to : TE} {ts : TA} {k : Dt → Own → Prop} {C : Addr} {m : Str} {x y x' y' : Dt}
mutual
theorem Rep.dat (hF : ∀ p xs, (p, Ow.lst xs) ∈ O → Dat K F' (.ref p) (.lst xs)) : ∀ {d e : Dt} {v : V}, Rep O d e → Dat K F' v d → Dat K F' v e
  | _, _, _, .self, k => k
  | _, _, _, .own m r, .ref _ => Rep.dat hF r (hF _ _ m)
  | _, _, _, .lst r, .lst h l => .lst h (RepL.dat hF r l)
  | _, _, _, .tup r, .tup h l => .tup h (RepL.dat hF r l)
theorem RepL.dat (hF : ∀ p xs, (p, Ow.lst xs) ∈ O → Dat K F' (.ref p) (.lst xs)) : ∀ {ds es : List Dt} {vs : List V}, RepL O ds es → DatL K F' vs ds → DatL K F' vs es
  | _, _, _, .nil, l => l
  | _, _, _, .cons r rs, .cons k l => .cons (Rep.dat hF r k) (RepL.dat hF rs l)
end
theorem frzAll (b : OwnOk K F H O) (c : Ex F H) : ∃ F', Ex F F' ∧ Ex F' H ∧ ∀ p xs, (p, Ow.lst xs) ∈ O → Dat K F' (.ref p) (.lst xs) := by
  have e1 : Ex F (fun a => if a ∈ O.map (·.1) then H a else F a) := fun a u h => by
    show (if a ∈ O.map (·.1) then H a else F a) = some u
    rw [if_neg (b.notin h)]; exact h
  refine ⟨_, e1, fun a u h => ?_, fun p xs m => ?_⟩
  · have h' : (if a ∈ O.map (·.1) then H a else F a) = some u := h
    by_cases q : a ∈ O.map (·.1)
    · rwa [if_pos q] at h'
    · rw [if_neg q] at h'; exact c a u h'
  · obtain ⟨_, us, hx, lx⟩ := b.at_ p _ m
    refine .lst (xs := us) ?_ (lx.mono e1)
    show (if p ∈ O.map (·.1) then H p else F p) = _
    rw [if_pos (mem_addr m)]; exact hx
theorem RepL.snl {ds es : List Dt} (r : RepL O ds es) : SnL K O ds es := fun F H vs b c l => by
  obtain ⟨F', e1, e2, h⟩ := frzAll b c
  exact ⟨F', e1, e2, r.dat h (l.mono e1)⟩
theorem Rep.sn {v : V} (r : Rep O x x') (b : OwnOk K F H O) (c : Ex F H) (k : Dat K F v x) : ∃ F', Ex F' H ∧ Dat K F' v x' := by
  obtain ⟨F', e1, e2, h⟩ := frzAll b c
  exact ⟨F', e2, r.dat h (k.mono e1)⟩
theorem opd_neR (sx : Rep O x x') (sy : Rep O y y') (hx : x'.eok = true) (hy : y'.eok = true) : OpD K E Ψ (rNeU K) x y O (ex (.bl (!eqd x' y')) O) := opd_or2 (opd_val fun F H v u b c k1 k2 => by
  obtain ⟨F1, c1, d1⟩ := sx.sn b c k1
  obtain ⟨F2, c2, d2⟩ := sy.sn b c k2
  exact ⟨_, .bl _, fun Q q => ⟨x'.py, y'.py, Dat.dp c1 _ d1 (eok_ok hx), Dat.dp c2 _ d2 (eok_ok hy), shaped_of hx, shaped_of hy, q⟩⟩)
/-- a def that is promised for known data, with owned lists lent; the answer an atom -/
theorem wv_callL {pre : Pre} (h : EvA K E Ψ ts Δ O fun ds O1 => ∃ ds' z, RepL O1 ds ds' ∧ AtomD z ∧ pre ds' [] (ex z []) X0 ∧ k z O1) : Ev K E Ψ (tCall (mkSp K pre) [] E' ts) Δ O k := fun σ F H a b c e Q q => h σ F H a b c e _ fun vs F1 H1 ds O1 g1 b1 k1 p1 => by
  obtain ⟨ds', z, r, hz, h1, hk⟩ := p1
  rw [List.append_nil]
  obtain ⟨F3, e3, c3, k3⟩ := r.snl F1 H1 vs b1 g1.sub k1
  refine ⟨F3, ds', [], ex z [], X0, k3, own0, c3, h1, .zero, fun v F' H' d O' g3 b3 k4 p3 => ?_⟩
  obtain ⟨rfl, rfl⟩ := p3
  obtain ⟨g4, b4⟩ := lend b1 e3 g3
  exact q v F1 H' _ O1 (g1.trans g4) b4 (hz K F' F1 v k4) hk
end
/-! slices with one bound from 0 on -/
theorem cutD_hi {ds : List Dt} {n : Nat} : cutD ds none (some (n : Int)) = ds.take n := by
  unfold cutD
  have h0 : HT.sIx ds.length 0 none = 0 := rfl
  have h1 : HT.sIx ds.length ds.length (some (n : Int)) = min n ds.length := by unfold HT.sIx; simp only; split <;> omega
  rw [h0, h1, List.drop_zero, Nat.sub_zero]
  rcases Nat.le_total n ds.length with c | c
  · rw [Nat.min_eq_left c]
  · rw [Nat.min_eq_right c, List.take_of_length_le (Nat.le_refl _), List.take_of_length_le c]
theorem cutD_lo {ds : List Dt} {n : Nat} : cutD ds (some (n : Int)) none = ds.drop n := by
  unfold cutD
  have h0 : HT.sIx ds.length ds.length none = ds.length := rfl
  have h1 : HT.sIx ds.length 0 (some (n : Int)) = min n ds.length := by unfold HT.sIx; simp only; split <;> omega
  rw [h0, h1]
  rcases Nat.le_total n ds.length with c | c
  · rw [Nat.min_eq_left c, List.take_of_length_le (by simp)]
  · rw [Nat.min_eq_right c, List.drop_of_length_le (Nat.le_refl _), List.drop_of_length_le c]; simp
section
variable {K : PySem.W.Frag} {E : XK} {Ψ : XPost} {Δ : Env_} {O : Own} {ta tb : TE} {k : Dt → Own → Prop}
/-- xs[:n], frozen -/
theorem wv_slHi (h : Ev K E Ψ ta Δ O fun x O1 => ∃ ds n, LstOf O1 x ds ∧ Ev K E Ψ tb Δ O1 (ex (.int ((n : Nat) : Int)) O1) ∧ k (.lst (ds.take n)) O1) : Ev K E Ψ (tSl (rSlL K) ta tNoPart (tPart tb)) Δ O k := by
  refine ev_frzK (fun σ F H a b c e Q q => h σ F H a b c e _ fun v F1 H1 x O1 g1 b1 k1 p1 => ?_)
  obtain ⟨ds, n, hs, hb, hk⟩ := p1
  show tPart tb σ H1 fun u H3 => rSlL K v none u H3 Q
  refine eo_some hb σ F1 H1 (a.mono g1.ext) b1 g1.sub (e.step g1) _ fun F3 H3 g3 b3 => ?_
  refine sld_list (E := E) (Ψ := Ψ) (lo := none) (hi := some (n : Int)) hs F3 H3 v b3 g3.sub ((e.step g1).step g3) (k1.mono g3.ext) Q fun w F4 H4 d4 O4 g4 b4 k4 p4 => ?_
  obtain ⟨p, rfl, rfl⟩ := p4
  exact q w F4 H4 _ _ ((g1.trans g3).trans g4) b4 k4 ⟨p, _, O1, rfl, rfl, by rw [cutD_hi]; exact hk⟩
/-- xs[n:], frozen -/
theorem wv_slLo (h : Ev K E Ψ ta Δ O fun x O1 => ∃ ds n, LstOf O1 x ds ∧ Ev K E Ψ tb Δ O1 (ex (.int ((n : Nat) : Int)) O1) ∧ k (.lst (ds.drop n)) O1) : Ev K E Ψ (tSl (rSlL K) ta (tPart tb) tNoPart) Δ O k := by
  refine ev_frzK (fun σ F H a b c e Q q => h σ F H a b c e _ fun v F1 H1 x O1 g1 b1 k1 p1 => ?_)
  obtain ⟨ds, n, hs, hb, hk⟩ := p1
  refine eo_some hb σ F1 H1 (a.mono g1.ext) b1 g1.sub (e.step g1) _ fun F3 H3 g3 b3 => ?_
  show rSlL K v (some (n : Int)) none H3 Q
  refine sld_list (E := E) (Ψ := Ψ) (lo := some (n : Int)) (hi := none) hs F3 H3 v b3 g3.sub ((e.step g1).step g3) (k1.mono g3.ext) Q fun w F4 H4 d4 O4 g4 b4 k4 p4 => ?_
  obtain ⟨p, rfl, rfl⟩ := p4
  exact q w F4 H4 _ _ ((g1.trans g3).trans g4) b4 k4 ⟨p, _, O1, rfl, rfl, by rw [cutD_lo]; exact hk⟩
end
end FF
set_option Elab.async false
set_option linter.all false
set_option maxRecDepth 100000
set_option maxHeartbeats 1000000
/-! own comparisons: == and != of an instance, from either side -/
set_option Elab.async false
set_option linter.all false
set_option maxRecDepth 100000
set_option maxHeartbeats 1000000
namespace FF
open PySem PySem.Spec PyProof.Rows L2
open Evl (Ex sz_of sz_lt fresh_back)
/-! what of the text a class must have to be compared -/
structure CmpC (K : PySem.W.Frag) (C : Addr) : Prop where
  ne : PySem.W.findIn K (.ref C) "__ne__" = some (some (.builtin "object.__ne__"))
  ob : PySem.W.subIn K (.ref C) (.type "object") = some true
  rn : PySem.W.subIn K (.ref C) (.type "NoneType") = some false
  ri : PySem.W.subIn K (.ref C) (.type "int") = some false
  rs : PySem.W.subIn K (.ref C) (.type "str") = some false
  rl : PySem.W.subIn K (.ref C) (.type "list") = some false
  rt : PySem.W.subIn K (.ref C) (.type "tuple") = some false
  rd : PySem.W.subIn K (.ref C) (.type "dict") = some false
  ck : (PySem.W.clsIn K C).isSome = true
  tk : PySem.W.typeIn K (.ref C) = some (.type "type")
theorem kit_self {K : PySem.W.Frag} {C : Addr} : PySem.W.kitOne K (.ref C) (.ref C) = some true := by
  unfold PySem.W.kitOne
  rw [if_pos (by simp)]
/-! the rules -/
section
variable {K : PySem.W.Frag} {E E' : XK} {Ψ : XPost} {F F' H H' : Hp} {O O' : Own} {C : Addr} {fs : List (Str × Dt)} {x y d : Dt} {k : Dt → Own → Prop} {pre : Pre} {t : Value} {T : String}
/-- the type of data, as it stands -/
def TyD (K : PySem.W.Frag) (O : Own) (d : Dt) (t : Value) : Prop := ∀ F H v, OwnOk K F H O → Ex F H → Dat K F v d → TyX K H v t
/-- what an instance's type asks of the text -/
structure ClsT (K : PySem.W.Frag) (C : Addr) : Prop where
  cl : Cls K C
  ha : PySem.W.findIn K (.ref C) "__class__" = some (some (.builtin "object.__class__"))
  hn : PySem.W.specialIn K (.builtin "object.__class__") "__get__" = some (some (.builtin "getset_descriptor.__get__"))
  tk : PySem.W.takesIn K (.builtin "object.__class__") = some true
  hm : PySem.W.mroIn K C (.type "object") = some true
theorem ty_obj (c : ClsT K C) : TyD K O (.obj C fs) (.ref C) := fun F H v b e k => by
  cases k with | obj hx l => exact .base (.ins (e _ _ hx) c.cl c.ha c.hn c.tk c.hm)
theorem cad_isiC {b : Bool} (ht : TyD K O d t) (hb : PySem.W.kitOne K t (.ref C) = some b) : CaD K E Ψ (rIsi K) [d, .ref C] O (ex (.bl b) O) := cad_val fun F H vs b' c k => by
  cases k with
  | cons k l =>
    cases l with
    | cons k2 l =>
      cases l; cases k2
      exact ⟨_, .bl _, fun Q q => ⟨_, _, _, _, b, rfl, .own C, ht F H _ b' c k, hb, q⟩⟩
end
end FF
set_option Elab.async false
set_option linter.all false
set_option maxRecDepth 100000
set_option maxHeartbeats 1000000
namespace FF
open PySem PySem.Spec PyProof.Rows L2
open Evl (Ex sz_of sz_lt fresh_back)
/-! {x!r} of data -/
/-! methods in which repr may be asked -/
end FF
set_option Elab.async false
set_option linter.all false
set_option maxRecDepth 100000
set_option maxHeartbeats 1000000
namespace FF
open PySem PySem.Spec PyProof.Rows L2
open Evl (Ex sz_of sz_lt fresh_back)
/-! owned lists of owned lists -/
abbrev rowO (rs : List (Addr × List Dt)) : Own := rs.map fun p => (p.1, Ow.lst p.2)
abbrev refsD (rs : List (Addr × List Dt)) : List Dt := rs.map fun p => Dt.ref p.1
theorem repL_rows {O : Own} : ∀ {rs : List (Addr × List Dt)}, (∀ p ∈ rs, (p.1, Ow.lst p.2) ∈ O) → RepL O (refsD rs) (rs.map fun p => Dt.lst p.2)
  | [], _ => .nil
  | p :: rs, h => .cons (rep_own (h p (List.mem_cons_self ..))) (repL_rows fun q m => h q (List.mem_cons_of_mem _ m))
theorem rep_rows {O : Own} {q : Addr} {rs : List (Addr × List Dt)} (m : (q, Ow.lst (refsD rs)) ∈ O) (h : ∀ p ∈ rs, (p.1, Ow.lst p.2) ∈ O) : Rep O (.ref q) (.lst (rs.map fun p => Dt.lst p.2)) := .own m (.lst (repL_rows h))
theorem mem_rowO {rs : List (Addr × List Dt)} {p : Addr × List Dt} (h : p ∈ rs) : (p.1, Ow.lst p.2) ∈ rowO rs := List.mem_map.mpr ⟨p, h, rfl⟩
section
variable {K : PySem.W.Frag} {E E' : XK} {Ψ : XPost} {F F' F1 F2 H H' H1 H2 : Hp} {O O' O1 O2 R : Own} {Δ : Env_} {te : TE} {ts : TA} {k : Dt → Own → Prop} {C : Addr} {nx bk ct : Env_ → Own → Prop} {rt : Dt → Own → Prop} {t : TS}
/-- [e for x in ..], each element a new list of its own -/
theorem wv_lcO {wi : TI} {j : Nat} {vs : List Nat} (hi : Iv K E Ψ wi Δ O fun ds O1 => ds.length ≤ 50000 ∧ Pin (∃ (α : Type) (us : List α) (g : α → Dt) (f : α → List Dt), ds = us.map g ∧ j ∈ vs ∧
    (∀ u, u ∈ us → Ev K E0 X0 te ((wipeD Δ vs).set j (some (g u))) O1 (nwl (f u) O1)) ∧ ∀ q rs, rs.map (·.2) = us.map f → k (.ref q) ((q, .lst (refsD rs)) :: (rowO rs ++ O1)))) : Ev K E Ψ (tLc wi (gName j) tYes te vs) Δ O k := fun σ F H a b c e Q q =>
  hi σ F H a b c e _ fun J G F1 H1 ds O1 g1 b1 hG hw hΘ => fun Dn hD => by
    obtain ⟨hl, α, us, g, f, rfl, hj, he, hk⟩ := hΘ
    rw [List.length_map] at hl
    refine L2.lc_it hw (fun i Hc => ∃ Fc rs, Gw O1 F1 H1 (O1 ++ ((Dn, .lst (refsD rs)) :: rowO rs)) Fc Hc ∧ OwnOk K Fc Hc (O1 ++ ((Dn, .lst (refsD rs)) :: rowO rs)) ∧ rs.map (·.2) = (us.take i).map f) ?_ ?_ ?_ ?_
    · have g2 := Gw.newOwn (O := O1) (o := .lst []) (u := .lst []) g1.sub hD
      have b2 := b1.newOwn (o := .lst []) (u := .lst []) g1.sub hD ⟨[], upd_same, .nil⟩
      exact ⟨F1, [], g2.permR (List.perm_append_comm (l₁ := [_])), b2.perm (List.perm_append_comm (l₁ := [_])), by simp⟩
    · rintro i Hc _ ⟨Fc, rs, gg, bb, _⟩
      exact hG Hc (gg.ext.trans gg.sub)
    · rintro i x Hc Hc' hi ⟨Fc, rs, gg, bb, hrs⟩ y
      rw [List.length_map] at hi
      have hu : us[i]? = some us[i] := by simp [hi]
      have hd : (us.map g)[i]? = some (g us[i]) := by rw [List.getElem?_map, hu]; rfl
      obtain ⟨F3, g3, b3, k3⟩ := y Fc _ _ hd gg.ext gg.sub bb
      have env : EnvOk K F3 (L2.wipe σ vs) (wipeD Δ vs) := (a.mono (g1.ext.trans (gg.ext.trans g3.ext))).wipe vs
      refine gv_name j x (L2.wipe σ vs) Hc' F3 _ _ g3.sub k3 env fun σ' l1 m1 env' => ⟨?_, ?_⟩
      · rw [← wipe_wipe σ vs]
        exact wipe_eq l1 fun j' hj' => m1 j' fun z => hj' (by simp only [List.mem_singleton] at z; rw [z]; exact hj)
      · refine et_frame (et_yes (K := K) (E := E0) (Ψ := X0) (Δ := (wipeD Δ vs).set j (some (g us[i]))) (O := O1)) (E' := E0) (Ψ := X0) σ' F3 Hc' env' b3 g3.sub .zero _ fun bt F4 H4 O4 g4 b4 p4 => ?_
        obtain ⟨O5, rfl, rfl, rfl⟩ := p4
        refine iteT (ev_frame (he us[i] (List.getElem_mem _)) (E' := E0) (Ψ := X0) σ' F4 H4 (env'.mono g4.ext) b4 g4.sub .zero _ fun v F5 H5 de O6 g5 b5 k5 p5 => ?_)
        obtain ⟨O7, rfl, r, rfl, rfl⟩ := p5
        cases k5
        have pm : (((r, Ow.lst (f us[i])) :: O5) ++ ((Dn, Ow.lst (refsD rs)) :: rowO rs)).Perm ((Dn, .lst (refsD rs)) :: (r, .lst (f us[i])) :: (O5 ++ rowO rs)) := by
          refine List.perm_middle.trans ?_
          exact .refl _
        have b5' := b5.perm pm
        obtain ⟨_, xs, hx, lx⟩ := b5'.at_ Dn (.lst (refsD rs)) (List.mem_cons_self ..)
        obtain ⟨b6, hm⟩ := b5'.mut (i := 0) (u := .lst (xs ++ [.ref r])) (o' := .lst (refsD rs ++ [.ref r])) rfl ⟨xs ++ [.ref r], upd_same, lx.append (.one (.ref r))⟩
        have g6 := Gw.mut (u := .lst (xs ++ [.ref r])) b5' (g5.permR pm).sub (List.mem_map.mpr ⟨_, List.mem_cons_self .., rfl⟩) hm
        have pm2 : ((Dn, Ow.lst (refsD rs ++ [.ref r])) :: (r, .lst (f us[i])) :: (O5 ++ rowO rs)).Perm (O5 ++ ((Dn, .lst (refsD (rs ++ [(r, f us[i])]))) :: rowO (rs ++ [(r, f us[i])]))) := by
          have e1 : refsD (rs ++ [(r, f us[i])]) = refsD rs ++ [.ref r] := by simp [refsD]
          have e2 : rowO (rs ++ [(r, f us[i])]) = rowO rs ++ [(r, .lst (f us[i]))] := by simp [rowO]
          rw [e1, e2]
          refine (List.Perm.trans ?_ List.perm_middle.symm)
          refine List.Perm.cons _ ?_
          rw [← List.append_assoc]
          exact (List.perm_append_comm (l₁ := [_]))
        have hset : ((Dn, Ow.lst (refsD rs)) :: (r, Ow.lst (f us[i])) :: (O5 ++ rowO rs)).set 0 (Dn, Ow.lst (refsD rs ++ [.ref r])) = (Dn, .lst (refsD rs ++ [.ref r])) :: (r, .lst (f us[i])) :: (O5 ++ rowO rs) := rfl
        rw [hset] at b6 hm
        have hlen : rs.length ≤ i := by
          have := congrArg List.length hrs
          rw [List.length_map, List.length_map, List.length_take] at this
          omega
        refine ⟨xs, hx, sz_lt (by rw [lx.length, List.length_map]; omega), F5, rs ++ [(r, f us[i])], (((((gg.trans g3).trans g4).trans (g5.permR pm)).trans g6).permR pm2), b6.perm pm2, ?_⟩
        rw [List.map_append, hrs, List.take_add_one, hu, List.map_append]
        rfl
    · rintro Hc ⟨Fc, rs, gg, bb, hrs⟩
      rw [List.length_map, List.take_length] at hrs
      have pm : (O1 ++ ((Dn, Ow.lst (refsD rs)) :: rowO rs)).Perm ((Dn, .lst (refsD rs)) :: (rowO rs ++ O1)) := List.perm_middle.trans (List.Perm.cons _ List.perm_append_comm)
      exact q _ Fc Hc (.ref Dn) _ (g1.trans (gg.permR pm)) (bb.perm pm) (.ref Dn) (hk Dn rs hrs)
/-! an instance made of owned things, which stay -/
theorem wv_cls (q : k (.ref C) O) : Ev K E Ψ (tC (.ref C)) Δ O k := (ev_c (d := .ref C) fun _ => .ref C).imp fun _ _ e => by rw [e.1, e.2]; exact q
/-! owned lists lent to an expression that gives new lists of atoms -/
inductive RepE (O : Own) : Env_ → Env_ → Prop
  | nil : RepE O [] []
  | no {Δ Δ' : Env_} : RepE O Δ Δ' → RepE O (none :: Δ) (none :: Δ')
  | yes {d e : Dt} {Δ Δ' : Env_} : Rep O d e → RepE O Δ Δ' → RepE O (some d :: Δ) (some e :: Δ')
theorem RepE.len {Δ Δ' : Env_} (r : RepE O Δ Δ') : Δ.length = Δ'.length := by induction r <;> simp [*]
theorem RepE.get {Δ Δ' : Env_} (r : RepE O Δ Δ') : ∀ {i : Nat} {e : Dt}, Δ'[i]? = some (some e) → ∃ d, Δ[i]? = some (some d) ∧ Rep O d e := by
  induction r with
  | nil => intro i e h; simp at h
  | no r ih => intro i e h; cases i with
    | zero => simp at h
    | succ i => simpa using ih (by simpa using h)
  | yes q r ih => intro i e h; cases i with
    | zero => simp at h; subst h; exact ⟨_, rfl, q⟩
    | succ i => simpa using ih (by simpa using h)
theorem frz_rows : ∀ {rs : List (Addr × List Dt)} {F : Hp}, OwnOk K F H (rowO rs ++ R) → Ex F H → ∃ F', Gw (rowO rs ++ R) F H R F' H ∧ OwnOk K F' H R ∧ ∀ p ∈ rs, Dat K F' (.ref p.1) (.lst p.2)
  | [], F, b, c => ⟨F, .refl c, b, fun p m => nomatch m⟩
  | r :: rs, F, b, c => by
    have b' : OwnOk K F H ((r.1, Ow.lst r.2) :: (rowO rs ++ R)) := b
    obtain ⟨_, xs, hx, lx⟩ := b'.at_ r.1 (.lst r.2) (List.mem_cons_self ..)
    obtain ⟨g, b2, k2⟩ := Gw.frz b' c hx lx
    obtain ⟨F', g2, b3, h⟩ := frz_rows b2 g.sub
    refine ⟨F', g.trans g2, b3, fun p m => ?_⟩
    rcases List.mem_cons.mp m with rfl | m
    · exact k2.mono g2.ext
    · exact h p m
theorem refs_rows {rs : List (Addr × List Dt)} (h : ∀ p ∈ rs, Dat K F (.ref p.1) (.lst p.2)) {vs : List V} (l : DatL K F vs (refsD rs)) : DatL K F vs (rs.map fun p => Dt.lst p.2) := by
  induction rs generalizing vs with
  | nil => cases l; exact .nil
  | cons r rs ih =>
    cases l with
    | cons k l =>
      cases k
      exact .cons (h r (List.mem_cons_self ..)) (ih (fun p m => h p (List.mem_cons_of_mem _ m)) l)
end
end FF
set_option Elab.async false
set_option linter.all false
set_option maxRecDepth 100000
set_option maxHeartbeats 1000000
namespace FF
open PySem PySem.Spec PyProof.Rows L2
/-! what is shown is text again -/
end FF
set_option Elab.async false
set_option linter.all false
set_option maxRecDepth 100000
set_option maxHeartbeats 1000000
/-! errors of the program's own classes, whose making keeps one thing -/
namespace FExcW
open PySem PySem.W PySem.Calls PyProof.Rows PySem.HandSPX
theorem len1 (v : Value) : [v].length ≤ sizeLine := by
  rw [sizeLine_eq]
  exact (by decide : 1 ≤ 16777216)
theorem ld {M : Model} {s : Shared} {name : Str} {scope : Scope} {L a : Addr} {cd : Value} {m : Str → Option Value} {x : Str} {pos : Pos} {v : Value} {Q : Value → Shared → Prop} {A : Around} {E : Value → Shared → Prop} (hn : s.heap.Ns L m) (hv : m x = some v) (h : Q v s)
    (hk : scope.kind = .function) (hl : (envOfC name scope L a cd).kindOf x = some .local) (hd : (x == ("__debug__" : Str)) = false) :
    wpAny M A (eval (.Name x pos) (envOfC name scope L a cd)) Q E s := wpAny_Name (wpAny_loadName_local hk hl hn hv h) hd
end FExcW
namespace FF
open PySem PySem.Spec PyProof.Rows L2 FExcW
end FF
set_option Elab.async false
set_option linter.all false
set_option maxRecDepth 100000
set_option maxHeartbeats 1000000
/-! own errors: an object made by an __init__ that may raise, within a try; raising and catching over data -/
namespace L2
open PySem PySem.Spec PyProof.Rows
end L2
namespace FF
open PySem PySem.Spec PyProof.Rows L2 FExcW
/-! defs and __init__ that may raise -/
end FF
namespace L2
open PySem PySem.Spec PyProof.Rows FExcW
end L2
namespace FF
open PySem PySem.Spec PyProof.Rows L2 FExcW
end FF
namespace L2
open PySem PySem.Spec PyProof.Rows FExcW
end L2
namespace FF
open PySem PySem.Spec PyProof.Rows L2 FExcW
end FF
namespace L2
open PySem PySem.Spec PyProof.Rows FExcW
end L2
namespace FF
open PySem PySem.Spec PyProof.Rows L2 FExcW
/-- a class as data: one of the program, or a built-in one -/
inductive ClsD : Dt → Value → Prop
  | own (C : Addr) : ClsD (.ref C) (.ref C)
  | ty (n : String) : ClsD (.ty n) (.type n)
theorem ClsD.to {K : PySem.W.Frag} {F : Hp} {v : V} {z : Dt} {u : Value} (h : ClsD z u) (k : Dat K F v z) : ClsV v u := by
  cases h <;> cases k
  · exact .own _
  · exact .ty _
theorem ClsD.all {K : PySem.W.Frag} {F : Hp} : ∀ {vs : List V} {zs : List Dt} {us : List Value}, Paired ClsD zs us → DatL K F vs zs → Paired ClsV vs us
  | _, _, _, .nil, .nil => .nil
  | _, _, _, .cons h hs, .cons k ks => .cons (h.to k) (ClsD.all hs ks)
end FF
namespace FF
open PySem PySem.Spec PyProof.Rows L2 FExcW
end FF
namespace FF
open PySem PySem.Spec PyProof.Rows L2 FExcW
end FF
set_option Elab.async false
set_option linter.all false
set_option maxRecDepth 100000
set_option maxHeartbeats 1000000
namespace FF
open PySem PySem.Spec PyProof.Rows L2
open Evl (Ex sz_of sz_lt fresh_back)
/-! repr of data with dicts of flat things anywhere within -/
mutual
def Dt.okm : Dt → Bool
  | .non => true | .bl _ => true | .int _ => true | .str _ => true
  | .lst ds => okmL ds | .tup ds => okmL ds
  | .dic ks => ks.all (fun p => p.2.flat)
  | _ => false
def okmL : List Dt → Bool
  | [] => true
  | d :: ds => d.okm && okmL ds
end
/-- how the things of a row are shown -/
structure Shn (prog : Program) (w : World) (h : Heap) (us : List Value) (ds : List PyData) (bs : List Addr) : Prop where
  rd : ∃ as, ReadsAll h us ds as
  at_ : ReadAtMost h (PyData.depthAll ds) bs
  sh : ReprAllK prog w bs h (PyData.depthAll ds) us (PyData.shownAll ds)
structure Shn1 (prog : Program) (w : World) (h : Heap) (u : Value) (d : PyData) (bs : List Addr) : Prop where
  rd : ∃ as, Reads h u d as
  at_ : ReadAtMost h d.depth bs
  sh : ReprK prog w bs h d.depth u d.shown
section
variable {prog : Program} {w : World} {h : Heap} {u : Value} {us : List Value} {a : Addr} {bs : List Addr}
/-- the list at a of such things -/
theorem Shn.notin_l {o : Obj} {n : Nat} {ds : List PyData} (H : Shn prog w h us ds bs) (e1 : h.get? a = some o) (e2 : o.cls = .type "list") (e3 : o.data = .seq us.toArray n) : a ∉ bs ∧ ∃ as, Reads h (.ref a) (.list ds) as := by
  obtain ⟨as, r⟩ := H.rd
  have R : Reads h (.ref a) (.list ds) (a :: as) := .list e1 e2 e3 r
  refine ⟨not_mem_of_deeper R ?_ H.at_, _, R⟩
  show PyData.depthAll ds < PyData.depth (.list ds)
  simp only [PyData.depth]; omega
theorem Shn.lst {o : Obj} {n : Nat} {ds : List PyData} (H : Shn prog w h us ds bs) (e1 : h.get? a = some o) (e2 : o.cls = .type "list") (e3 : o.data = .seq us.toArray n) : Shn1 prog w h (.ref a) (.list ds) (a :: bs) := by
  obtain ⟨ni, as, R⟩ := H.notin_l e1 e2 e3
  have dp : PyData.depth (.list ds) = PyData.depthAll ds + 1 := by simp only [PyData.depth]
  refine ⟨⟨_, R⟩, ReadAtMost.cons R (by omega) H.at_, ?_⟩
  rw [dp]
  simp only [PyData.shown]
  have len := H.sh.length_eq
  cases us with
  | nil =>
    have e0 : PyData.shownAll ds = [] := List.eq_nil_of_length_eq_zero (by rw [len]; rfl)
    rw [e0, listText_nil]
    exact ReprK.listEmpty e1 e2 e3
  | cons y ys => exact ReprK.list e1 e2 e3 ni (by rw [len]; rfl) fun i z ez => H.sh.item i z (by rw [← ez]; simp)
theorem Shn.notin_t {o : Obj} {n : Nat} {ds : List PyData} (H : Shn prog w h us ds bs) (e1 : h.get? a = some o) (e2 : o.cls = .type "tuple") (e3 : o.data = .seq us.toArray n) : a ∉ bs ∧ ∃ as, Reads h (.ref a) (.tuple ds) as := by
  obtain ⟨as, r⟩ := H.rd
  have R : Reads h (.ref a) (.tuple ds) as := .tuple e1 e2 e3 r
  refine ⟨not_mem_of_deeper R ?_ H.at_, _, R⟩
  show PyData.depthAll ds < PyData.depth (.tuple ds)
  simp only [PyData.depth]; omega
theorem Shn.tup {o : Obj} {n : Nat} {ds : List PyData} (H : Shn prog w h us ds bs) (e1 : h.get? a = some o) (e2 : o.cls = .type "tuple") (e3 : o.data = .seq us.toArray n) : Shn1 prog w h (.ref a) (.tuple ds) (a :: bs) := by
  obtain ⟨ni, as, R⟩ := H.notin_t e1 e2 e3
  have dp : PyData.depth (.tuple ds) = PyData.depthAll ds + 1 := by simp only [PyData.depth]
  refine ⟨⟨_, R⟩, ReadAtMost.cons R (by omega) H.at_, ?_⟩
  rw [dp]
  simp only [PyData.shown]
  exact ReprK.tuple e1 e2 e3 ni H.sh
end
/-! l.count(x) over data -/
end FF
namespace FF
open PySem PySem.W
/-! isinstance and except of a class of the program, by what the written part says -/
end FF
set_option Elab.async false
set_option linter.all false
set_option maxRecDepth 100000
set_option maxHeartbeats 1000000
namespace FF
open PySem PySem.Spec PyProof.Rows L2
open Evl (Ex sz_of sz_lt fresh_back)
/-! min of a list of alike data -/
section
variable {X : Cx}
def rNeNil (K : PySem.W.Frag) : R2 := fun x y H Q => ∃ a b xs, x = .ref a ∧ y = .ref b ∧ SqL K H a xs ∧ SqL K H b [] ∧ Q (.bl (!xs.isEmpty)) H
theorem op_neNil (hu : X.A.units + 64 < cLine) : OpR X (compareOp .NotEq) (rNeNil X.K) := by
  intro pins s σ H x y v u Q I rx ry h
  obtain ⟨a, b, xs, rfl, rfl, ha, hb, q⟩ := h
  obtain rfl : v = .ref a := rx
  obtain rfl : u = .ref b := ry
  obtain ⟨its, rv, hl, _⟩ := I.list ha
  obtain ⟨its2, rv2, hl2, _⟩ := I.list hb
  cases rv2
  have hf : ∀ c : Bool, c = (!xs.isEmpty) → EP X pins σ Q (.bool c) s := fun c e => ⟨.bl c, H, I, rfl, by rw [e]; exact q⟩
  cases rv with
  | nil => exact SeqAt.RcNeAt.lists (e := fun _ => true) hl.isList hl2.isList rfl (by omega) (fun j h1 => absurd h1 (by simp)) X.prog X.w _ _ (hf _ rfl)
  | cons _ _ => exact SeqAt.RcNeAt.lists_lengths hl.isList hl2.isList rfl (by omega) X.prog X.w _ _ (hf _ rfl)
/-! "0" * n -/
end
section
variable {K : PySem.W.Frag} {E E' : XK} {Ψ : XPost} {F F' F1 F2 H H' H1 H2 : Hp} {O O' O1 O2 R Oz : Own} {Δ Δ' : Env_} {te ta tb tk tv : TE} {tas ts : TA} {x y z : Dt} {ds es : List Dt} {k : Dt → Own → Prop} {p : Addr} {t : TS} {P : Post}
theorem ko_neNil (h1 : LstOf O x ds) (h2 : LstOf O y []) (q : k (.bl (!ds.isEmpty)) O) : OpD K E Ψ (rNeNil K) x y O k := fun F H v u b c e k1 k2 Q qq => by
  obtain ⟨a, xs, rfl, e1, l1⟩ := h1.read b c k1
  obtain ⟨a2, xs2, rfl, e2, l2⟩ := h2.read b c k2
  cases l2
  have e0 : xs.isEmpty = ds.isEmpty := by cases l1 <;> rfl
  refine ⟨a, a2, xs, rfl, rfl, .of e1, .of e2, ?_⟩
  rw [e0]
  exact qq _ F H _ O (.refl c) b (.bl _) q
/-! a or b, by the truth of a: None, a list, a tuple -/
theorem ex_two {P : Bool → Prop} {Q R : Bool → Bool → Prop} {c c' : Bool} (h1 : P c) (h2 : c = true → Q c c') (h3 : R c c') : ∃ c c', P c ∧ (c = true → Q c c') ∧ R c c' := ⟨c, c', h1, h2, h3⟩
/-! some of what is owned: known from now on -/
theorem frzPart (b : OwnOk K F H (Oz ++ R)) (c : Ex F H) : ∃ F', Gw (Oz ++ R) F H R F' H ∧ OwnOk K F' H R ∧ ∀ p xs, (p, Ow.lst xs) ∈ Oz → Dat K F' (.ref p) (.lst xs) := by
  have e1 : Ex F (fun a => if a ∈ Oz.map (·.1) then H a else F a) := fun a u h => by
    show (if a ∈ Oz.map (·.1) then H a else F a) = some u
    rw [if_neg fun m => b.notin h (by rw [List.map_append]; exact List.mem_append_left _ m)]; exact h
  have nd := b.nd
  rw [List.map_append, List.nodup_append] at nd
  refine ⟨_, ⟨e1, fun a u h => ?_, fun _ _ _ z => z, fun _ z => z, fun a _ ha => ?_, fun a m => .inl (by rw [List.map_append]; exact List.mem_append_right _ m)⟩, ⟨nd.2.1, fun p o m => ?_⟩, fun p xs m => ?_⟩
  · have h' : (if a ∈ Oz.map (·.1) then H a else F a) = some u := h
    by_cases q : a ∈ Oz.map (·.1)
    · rwa [if_pos q] at h'
    · rw [if_neg q] at h'; exact c a u h'
  · show (if a ∈ Oz.map (·.1) then H a else F a) = F a
    rw [if_neg fun m => ha (by rw [List.map_append]; exact List.mem_append_left _ m)]
  · have hp := b.at_ p o (List.mem_append_right _ m)
    refine ⟨?_, hp.2.mono e1 fun _ z => z⟩
    show (if p ∈ Oz.map (·.1) then H p else F p) = none
    rw [if_neg fun m' => nd.2.2 p m' p (mem_addr m) rfl]
    exact hp.1
  · obtain ⟨_, us, hx, lx⟩ := b.at_ p _ (List.mem_append_left _ m)
    refine .lst (xs := us) ?_ (lx.mono e1)
    show (if p ∈ Oz.map (·.1) then H p else F p) = _
    rw [if_pos (mem_addr m)]; exact hx
theorem ev_frzP (h : Ev K E Ψ te Δ O fun d O1 => ∃ Oz R d', O1.Perm (Oz ++ R) ∧ Rep Oz d d' ∧ k d' R) : Ev K E Ψ te Δ O k := fun σ F H a b c e Q q =>
  h σ F H a b c e Q fun v F1 H1 d O1 g1 b1 k1 p1 => by
    obtain ⟨Oz, R, d', pm, r, hk⟩ := p1
    obtain ⟨F3, g, b3, hd⟩ := frzPart (b1.perm pm) g1.sub
    exact q v F3 H1 d' R (g1.trans (g.permL pm.symm)) b3 (r.dat hd (k1.mono g.ext)) hk
end
/-! tuples of whole numbers: what min finds -/
end FF
set_option Elab.async false
set_option linter.all false
set_option maxRecDepth 100000
set_option maxHeartbeats 1000000
namespace FF
open PySem PySem.Spec PyProof.Rows L2
open Evl (Ex)
/-! walks over any data -/
/-! small data with dicts of flat things -/
structure NicM (D S : Nat) (d : Dt) : Prop where
  ok : d.okm = true
  sh : d.py.showable = true
  dep : d.py.depth ≤ D
  tx : d.sok = true
  sz : d.sz ≤ S
theorem NicM.mono {D D' S S' : Nat} {d : Dt} (h : NicM D S d) (hD : D ≤ D') (hS : S ≤ S') : NicM D' S' d := ⟨h.ok, h.sh, Nat.le_trans h.dep hD, h.tx, Nat.le_trans h.sz hS⟩
theorem szL_len : ∀ ds : List Dt, 2 * ds.length ≤ szL ds
  | [] => Nat.zero_le _
  | d :: ds => by
    have := szL_len ds
    simp only [szL, List.length_cons]
    omega
theorem NicM.len {D S : Nat} {ds : List Dt} (h : NicM D S (.lst ds)) : 2 * ds.length ≤ S := by
  have h1 := szL_len ds
  have h2 := h.sz
  simp only [Dt.sz] at h2
  omega
/-! tables, whatever they hold -/
def inRg (n : Int) : Dt → Bool | .int i => decide (0 ≤ i) && decide (i < n) | _ => false
def isMp (n : Int) : Dt → Bool | .lst vs => decide ((vs.length : Int) = n) && vs.all (inRg n) | _ => false
def isRw : Dt → Bool | .lst rs => (decide ((1 : Int) ≤ (rs.length : Int)) && decide ((rs.length : Int) ≤ 64)) && rs.all (isMp rs.length) | _ => false
/-- a table of numbers below its length -/
structure Tb (n : Nat) (f : Nat → Nat → Nat) : Prop where
  pos : 1 ≤ n
  few : n ≤ 33
  lt : ∀ u v, u < n → v < n → f u v < n
theorem tab_isRw {n : Nat} {f : Nat → Nat → Nat} (h : Tb n f) : isRw (.lst (tab n f)) = true := by
  have h1 := h.pos
  have h2 := h.few
  simp only [isRw, Bool.and_eq_true, decide_eq_true_eq, List.all_eq_true, List.length_map, List.length_range]
  refine ⟨⟨by omega, by omega⟩, fun r hr => ?_⟩
  obtain ⟨u, hu, rfl⟩ := List.mem_map.mp hr
  have hu := rg_mem hu
  simp only [isMp, Bool.and_eq_true, decide_eq_true_eq, List.all_eq_true, List.length_map, List.length_range]
  refine ⟨trivial, fun c hc => ?_⟩
  obtain ⟨v, hv, rfl⟩ := List.mem_map.mp hc
  have := h.lt u v hu (rg_mem hv)
  simp only [inRg, Bool.and_eq_true, decide_eq_true_eq]
  omega
/-! the least of the rows of numbers with a property -/
abbrev tN (t : List Nat) : Dt := tI (t.map fun (v : Nat) => (v : Int))
def ltN : List Nat → List Nat → Prop
  | a :: as, b :: bs => a < b ∨ (a = b ∧ ltN as bs)
  | _, _ => False
structure LeastN (Q : List Nat → Prop) (t : List Nat) : Prop where
  has : Q t
  lst : ∀ s, Q s → ¬ ltN s t
theorem ltN_tri : ∀ s t : List Nat, s.length = t.length → s = t ∨ ltN s t ∨ ltN t s
  | [], [], _ => .inl rfl
  | [], _ :: _, h => by simp at h
  | _ :: _, [], h => by simp at h
  | a :: as, b :: bs, h => by
    simp only [ltN]
    rcases Nat.lt_trichotomy a b with c | rfl | c
    · exact .inr (.inl (.inl c))
    · rcases ltN_tri as bs (by simpa using h) with rfl | c | c
      · exact .inl rfl
      · exact .inr (.inl (.inr ⟨rfl, c⟩))
      · exact .inr (.inr (.inr ⟨rfl, c⟩))
    · exact .inr (.inr (.inl c))
theorem LeastN.uniq {Q : List Nat → Prop} {s t : List Nat} (h : LeastN Q s) (k : LeastN Q t) (e : s.length = t.length) : s = t := by
  rcases ltN_tri s t e with h1 | h1 | h1
  · exact h1
  · exact absurd h1 (k.lst s h.has)
  · exact absurd h1 (h.lst t k.has)
/-! where a table is not one of joins -/
def Q1 (n : Nat) (f : Nat → Nat → Nat) (t : List Nat) : Prop := ∃ u, t = [u] ∧ u < n ∧ f u u ≠ u
def Q2 (n : Nat) (f : Nat → Nat → Nat) (t : List Nat) : Prop := ∃ u v, t = [u, v] ∧ u < n ∧ v < n ∧ f u v ≠ f v u
def Q3 (n : Nat) (f : Nat → Nat → Nat) (t : List Nat) : Prop := ∃ u v w, t = [u, v, w] ∧ u < n ∧ v < n ∧ w < n ∧ f (f u v) w ≠ f u (f v w)
def NoN (Q : List Nat → Prop) : Prop := ∀ t, ¬ Q t
inductive BadT (n : Nat) (f : Nat → Nat → Nat) : List Nat → Prop
  | one {t : List Nat} : LeastN (Q1 n f) t → BadT n f t
  | two {t : List Nat} : NoN (Q1 n f) → LeastN (Q2 n f) t → BadT n f t
  | three {t : List Nat} : NoN (Q1 n f) → NoN (Q2 n f) → LeastN (Q3 n f) t → BadT n f t
def NoBad (n : Nat) (f : Nat → Nat → Nat) : Prop := NoN (Q1 n f) ∧ NoN (Q2 n f) ∧ NoN (Q3 n f)
theorem BadT.uniq {n : Nat} {f : Nat → Nat → Nat} {s t : List Nat} (h : BadT n f s) (k : BadT n f t) : s = t := by
  have l1 : ∀ {t}, Q1 n f t → t.length = 1 := fun ⟨_, e, _⟩ => by rw [e]; rfl
  have l2 : ∀ {t}, Q2 n f t → t.length = 2 := fun ⟨_, _, e, _⟩ => by rw [e]; rfl
  have l3 : ∀ {t}, Q3 n f t → t.length = 3 := fun ⟨_, _, _, e, _⟩ => by rw [e]; rfl
  cases h with
  | one h => cases k with
    | one k => exact h.uniq k (by rw [l1 h.has, l1 k.has])
    | two n1 _ => exact absurd h.has (n1 _)
    | three n1 _ _ => exact absurd h.has (n1 _)
  | two m1 h => cases k with
    | one k => exact absurd k.has (m1 _)
    | two _ k => exact h.uniq k (by rw [l2 h.has, l2 k.has])
    | three _ n2 _ => exact absurd h.has (n2 _)
  | three m1 m2 h => cases k with
    | one k => exact absurd k.has (m1 _)
    | two _ k => exact absurd k.has (m2 _)
    | three _ _ k => exact h.uniq k (by rw [l3 h.has, l3 k.has])
theorem BadT.no {n : Nat} {f : Nat → Nat → Nat} {s : List Nat} (h : BadT n f s) : ¬ NoBad n f := fun ⟨a, b, c⟩ => by
  cases h with
  | one h => exact a _ h.has
  | two _ h => exact b _ h.has
  | three _ _ h => exact c _ h.has
theorem BadT.few {n : Nat} {f : Nat → Nat → Nat} {s : List Nat} (h : BadT n f s) : s.length ≤ 3 ∧ ∀ v ∈ s, v < n := by
  cases h with
  | one h => obtain ⟨u, rfl, h1, _⟩ := h.has; simp; exact h1
  | two _ h => obtain ⟨u, v, rfl, h1, h2, _⟩ := h.has; simp; exact ⟨h1, h2⟩
  | three _ _ h => obtain ⟨u, v, w, rfl, h1, h2, h3, _⟩ := h.has; simp; exact ⟨h1, h2, h3⟩
/-- what is due of a thing: how it is refused, or that it is made -/
inductive Due (d : Dt) : Dt → Prop
  | wrong : isRw d = false → Due d (.tup [.str "wrong", .int 0])
  | bad {n : Nat} {f : Nat → Nat → Nat} {t : List Nat} : Tb n f → d = .lst (tab n f) → BadT n f t → Due d (.tup [.str "bad", tN t])
  | made {n : Nat} {f : Nat → Nat → Nat} : Tb n f → d = .lst (tab n f) → NoBad n f → Due d (.tup [.str "made"])
theorem tab_inj {n m : Nat} {f g : Nat → Nat → Nat} (h : tab n f = tab m g) : n = m ∧ ∀ u v, u < n → v < n → f u v = g u v := by
  have e : n = m := by have := congrArg List.length h; simpa using this
  subst e
  refine ⟨rfl, fun u v hu hv => ?_⟩
  have h1 := congrArg (fun l => l[u]?) h
  simp only [rgm_get hu] at h1
  have h2 := Dt.lst.inj (Option.some.inj h1)
  have h3 := congrArg (fun l => l[v]?) h2
  simp only [rgm_get hv] at h3
  have := Dt.int.inj (Option.some.inj h3)
  omega
theorem q_ext {n : Nat} {f g : Nat → Nat → Nat} (hl : ∀ u v, u < n → v < n → f u v < n) (h : ∀ u v, u < n → v < n → f u v = g u v) : (∀ t, Q1 n f t ↔ Q1 n g t) ∧ (∀ t, Q2 n f t ↔ Q2 n g t) ∧ ∀ t, Q3 n f t ↔ Q3 n g t := by
  refine ⟨fun t => ?_, fun t => ?_, fun t => ?_⟩
  · constructor
    · rintro ⟨u, rfl, a, b⟩; exact ⟨u, rfl, a, by rwa [← h u u a a]⟩
    · rintro ⟨u, rfl, a, b⟩; exact ⟨u, rfl, a, by rwa [h u u a a]⟩
  · constructor
    · rintro ⟨u, v, rfl, a, b, c⟩; exact ⟨u, v, rfl, a, b, by rwa [← h u v a b, ← h v u b a]⟩
    · rintro ⟨u, v, rfl, a, b, c⟩; exact ⟨u, v, rfl, a, b, by rwa [h u v a b, h v u b a]⟩
  · constructor
    · rintro ⟨u, v, w, rfl, a, b, c, e⟩
      exact ⟨u, v, w, rfl, a, b, c, by rwa [← h u v a b, ← h v w b c, ← h _ w (hl u v a b) c, ← h u _ a (hl v w b c)]⟩
    · rintro ⟨u, v, w, rfl, a, b, c, e⟩
      exact ⟨u, v, w, rfl, a, b, c, by rwa [h _ w (hl u v a b) c, h u _ a (hl v w b c), h u v a b, h v w b c]⟩
theorem LeastN.ext {Q R : List Nat → Prop} (h : ∀ t, Q t ↔ R t) {t : List Nat} (k : LeastN Q t) : LeastN R t := ⟨(h t).mp k.has, fun s hs => k.lst s ((h s).mpr hs)⟩
theorem NoN.ext {Q R : List Nat → Prop} (h : ∀ t, Q t ↔ R t) (k : NoN Q) : NoN R := fun t ht => k t ((h t).mpr ht)
theorem Due.uniq {d x y : Dt} (h : Due d x) (k : Due d y) : x = y := by
  have tb : ∀ {n m f g}, Tb n f → d = .lst (tab n f) → d = .lst (tab m g) → n = m ∧ (∀ t, Q1 n f t ↔ Q1 m g t) ∧ (∀ t, Q2 n f t ↔ Q2 m g t) ∧ ∀ t, Q3 n f t ↔ Q3 m g t := fun {n m f g} T e1 e2 => by
    obtain ⟨rfl, he⟩ := tab_inj (Dt.lst.inj (e1.symm.trans e2))
    exact ⟨rfl, q_ext T.lt he⟩
  cases h with
  | wrong h => cases k with
    | wrong k => rfl
    | bad T e _ => rw [e, tab_isRw T] at h; cases h
    | made T e _ => rw [e, tab_isRw T] at h; cases h
  | bad T e b => cases k with
    | wrong k => rw [e, tab_isRw T] at k; cases k
    | bad T' e' b' =>
      obtain ⟨rfl, a1, a2, a3⟩ := tb T e e'
      have b2 : BadT _ _ _ := match b with
        | .one h => BadT.one (h.ext a1)
        | .two m h => .two (m.ext a1) (h.ext a2)
        | .three m1 m2 h => .three (m1.ext a1) (m2.ext a2) (h.ext a3)
      rw [b2.uniq b']
    | made T' e' b' =>
      obtain ⟨rfl, a1, a2, a3⟩ := tb T' e' e
      exact absurd ⟨b'.1.ext a1, b'.2.1.ext a2, b'.2.2.ext a3⟩ b.no
  | made T e b => cases k with
    | wrong k => rw [e, tab_isRw T] at k; cases k
    | bad T' e' b' =>
      obtain ⟨rfl, a1, a2, a3⟩ := tb T e e'
      exact absurd ⟨b.1.ext a1, b.2.1.ext a2, b.2.2.ext a3⟩ b'.no
    | made T' e' b' => rfl
end FF
set_option Elab.async false
set_option linter.all false
set_option maxRecDepth 100000
set_option maxHeartbeats 1000000
namespace FF
open PySem PySem.Spec PyProof.Rows L2
open Evl (Ex sz_of sz_lt fresh_back)
/-! tables whose rows are owned -/
def RowsT (n : Nat) (f : Nat → Nat → Nat) (rs : List (Addr × List Dt)) : Prop := rs.map (·.2) = (List.range n).map fun u => rowD n f u
theorem RowsT.len {n : Nat} {f : Nat → Nat → Nat} {rs : List (Addr × List Dt)} (h : RowsT n f rs) : rs.length = n := by
  have := congrArg List.length h
  simpa using this
theorem RowsT.at_ {n u : Nat} {f : Nat → Nat → Nat} {rs : List (Addr × List Dt)} (h : RowsT n f rs) (hu : u < n) : ∃ p, rs[u]? = some (p, rowD n f u) := by
  have h1 := congrArg (fun l => l[u]?) h
  simp only [rgm_get hu, List.getElem?_map] at h1
  cases hr : rs[u]? with
  | none => rw [hr] at h1; cases h1
  | some p =>
    rw [hr] at h1
    have e := Option.some.inj h1
    exact ⟨p.1, by rw [← e]⟩
theorem RowsT.tab {n : Nat} {f : Nat → Nat → Nat} {rs : List (Addr × List Dt)} (h : RowsT n f rs) : (rs.map fun p => Dt.lst p.2) = tab n f := by
  have e : (rs.map fun p => Dt.lst p.2) = (rs.map (·.2)).map Dt.lst := by rw [List.map_map]; rfl
  rw [e, h, List.map_map]
  rfl
def updT (f : Nat → Nat → Nat) (u v x : Nat) : Nat → Nat → Nat := fun a b => if a = u ∧ b = v then x else f a b
theorem RowsT.set {n u v x : Nat} {f : Nat → Nat → Nat} {rs : List (Addr × List Dt)} (h : RowsT n f rs) (hu : u < n) (hv : v < n) {p : Addr} (hr : rs[u]? = some (p, rowD n f u)) : RowsT n (updT f u v x) (rs.set u (p, (rowD n f u).set v (.int (x : Int)))) := by
  unfold RowsT at h ⊢
  rw [List.map_set, h]
  apply List.ext_getElem?
  intro i
  by_cases hi : i < n
  · rw [rgm_get hi, List.getElem?_set]
    by_cases e : u = i
    · subst e
      rw [if_pos rfl, if_pos (by simpa using hi)]
      congr 1
      apply List.ext_getElem?
      intro j
      by_cases hj : j < n
      · rw [rgm_get hj, List.getElem?_set]
        by_cases e2 : v = j
        · subst e2
          rw [if_pos rfl, if_pos (by simpa using hj)]
          simp [updT]
        · rw [if_neg e2, rgm_get hj]
          have : ¬ j = v := fun z => e2 z.symm
          simp [updT, this]
      · rw [List.getElem?_eq_none (by simp; omega), List.getElem?_eq_none (by simp; omega)]
    · rw [if_neg e, rgm_get hi]
      have : ¬ i = u := fun z => e z.symm
      simp [updT, this]
  · rw [List.getElem?_eq_none (by simp; omega), List.getElem?_eq_none (by simp; omega)]
section
variable {K : PySem.W.Frag} {E E' : XK} {Ψ : XPost} {F F' F1 F2 H H' H1 H2 : Hp} {O O' O1 O2 R Oz : Own} {Δ Δ' : Env_} {te ta tb tk tv : TE} {tas ts : TA} {x y z : Dt} {ds es : List Dt} {k : Dt → Own → Prop} {p q : Addr} {t : TS} {P : Post} {nx bk ct : Env_ → Own → Prop} {rt : Dt → Own → Prop}
theorem wv_lst0 (q : k (.lst []) O) : Ev K E Ψ (tLst tNil) Δ O k := wv_lst (wa_nil ⟨by simp, q⟩)
end
/-! chains and unions -/
end FF
set_option Elab.async false
set_option linter.all false
set_option maxRecDepth 100000
set_option maxHeartbeats 1000000
namespace FF
open PySem PySem.Spec PyProof.Rows L2
open Evl (Ex sz_of sz_lt fresh_back)
/-! comprehensions with two for -/
end FF
set_option Elab.async false
set_option linter.all false
set_option maxRecDepth 100000
set_option maxHeartbeats 1000000
namespace L2
open PySem PySem.Spec PyProof.Rows FExcW
/-! a * b, a and b of one own class -/
end L2
namespace FF
open PySem PySem.Spec PyProof.Rows L2 FExcW
end FF
set_option Elab.async false
set_option linter.all false
set_option maxRecDepth 100000
set_option maxHeartbeats 1000000
namespace L2
open PySem PySem.Spec PyProof.Rows
/-! a thing that is sealed: from now on it is read alone -/
def tSeal (te : TE) : TE := fun σ H Q => te σ H fun v H1 => ∃ d u, v = .ref d ∧ H1 d = some u ∧ Mut (some u) ∧ ∀ od, Q (.ref d) (upd H1 d (.frz od u))
theorem pe_seal {X : Cx} {e : Expr} {te : TE} (h : PE X e te) : PE X e (tSeal te) := ⟨fun pins s σ H Q I hw => thn (h.run pins s σ H _ I hw) fun u s1 ⟨x, H1, I1, r1, d, w, ex, hd, mu, q⟩ => by
  subst ex
  obtain ⟨od, I2⟩ := I1.lock hd mu
  exact ⟨.ref d, _, I2, r1, q od⟩⟩
end L2
namespace FF
open PySem PySem.Spec PyProof.Rows L2
open Evl (Ex sz_of sz_lt fresh_back)
section
variable {K : PySem.W.Frag} {E E' : XK} {Ψ : XPost} {F F' F1 F2 H H' H1 H2 : Hp} {O O' O1 O2 R : Own} {Δ : Env_} {te td : TE} {k : Dt → Own → Prop} {p : Addr} {ks : List (Key × Dt)} {kvs : List (Key × V)} {ob : Obj}
theorem Gw.seal (h : OwnOk K F H ((p, .dic ks) :: R)) (e : Ex F H) (l : DatK K F kvs ks) : Gw ((p, .dic ks) :: R) F H R (upd F p (.frz ob (.dK kvs))) (upd H p (.frz ob (.dK kvs))) ∧ OwnOk K (upd F p (.frz ob (.dK kvs))) (upd H p (.frz ob (.dK kvs))) R ∧ Dat K (upd F p (.frz ob (.dK kvs))) (.ref p) (.fdc ks) := by
  have fp : F p = none := h.none_ (by simp)
  have ee : Ex F (upd F p (.frz ob (.dK kvs))) := Ex.new fp
  refine ⟨⟨ee, fun a w z => ?_, fun a o m z => ?_, fun a z => ?_, fun a z m => ?_, fun a m => .inl (List.mem_cons_of_mem _ m)⟩, ⟨(List.nodup_cons.mp h.nd).2, fun q o m => ?_⟩, .fdc upd_same (l.mono ee)⟩
  · by_cases ha : a = p
    · subst ha; rw [upd_same] at z ⊢; exact z
    · rw [upd_ne ha] at z ⊢; exact e a w z
  · rw [upd_ne (fun q => m (by simp [q]))]; exact z
  · by_cases ha : a = p
    · subst ha; rw [upd_same]; simp
    · rw [upd_ne ha]; exact z
  · rw [upd_ne (fun q => m (by simp [q]))]
  · have hq := h.at_ q o (List.mem_cons_of_mem _ m)
    have ne : q ≠ p := fun z => by
      subst z
      exact (List.nodup_cons.mp h.nd).1 (mem_addr m)
    exact ⟨by rw [upd_ne ne]; exact hq.1, hq.2.mono ee fun u z => by rw [upd_ne ne]; exact z⟩
/-- a dict just made, sealed -/
theorem wv_seal (h : Ev K E Ψ te Δ O fun d O1 => ∃ p ks R, d = .ref p ∧ O1 = (p, .dic ks) :: R ∧ k (.fdc ks) R) : Ev K E Ψ (tSeal te) Δ O k := fun σ F H a b c e Q q =>
  h σ F H a b c e _ fun v F1 H1 d O1 g1 b1 k1 p1 => by
    obtain ⟨p, ks, R, rfl, rfl, hk⟩ := p1
    cases k1
    obtain ⟨_, kvs, hx, l⟩ := b1.at_ p (.dic ks) (List.mem_cons_self ..)
    refine ⟨p, _, rfl, hx, trivial, fun od => ?_⟩
    obtain ⟨g2, b2, k2⟩ := Gw.seal (ob := od) b1 g1.sub l
    exact q _ _ _ _ R (g1.trans g2) b2 k2 hk
theorem DatK.at_ {kvs : List (Key × V)} (l : DatK K F kvs ks) {i : Nat} {kk : Key} {v : V} (h : kvs[i]? = some (kk, v)) : ∃ d, ks[i]? = some (kk, d) ∧ Dat K F v d := by
  induction ks generalizing kvs i with
  | nil => cases l; simp at h
  | cons w ks ih =>
    cases l with
    | cons a b =>
      cases i with
      | zero =>
        simp only [List.getElem?_cons_zero, Option.some.injEq, Prod.mk.injEq] at h
        obtain ⟨rfl, rfl⟩ := h
        exact ⟨_, rfl, a⟩
      | succ i =>
        rw [List.getElem?_cons_succ] at h
        obtain ⟨d, e, z⟩ := ih b h
        exact ⟨d, by rw [List.getElem?_cons_succ]; exact e, z⟩
theorem dat_key {kk : Key} : Dat K F (kV kk) (keyD kk) := by
  cases kk
  · exact .int _
  · exact .str _
/-- the keys of a sealed dict, one by one -/
theorem wi_keysF {Θ : List Dt → Own → Prop} (h : Ev K E Ψ td Δ O fun d O1 => ∃ ks, d = .fdc ks ∧ Θ (ks.map fun w => keyD w.1) O1) : Iv K E Ψ (iKeys td) Δ O Θ := fun σ F H a b c e R0 q =>
  h σ F H a b c e _ fun v F1 H1 d O1 g1 b1 k1 p1 => by
    obtain ⟨ks, rfl, hΘ⟩ := p1
    cases k1 with
    | fdc hx l =>
      rename_i ad ob kvs
      have w := L2.walk_keys (d := ad) (o := ob) (kvs := kvs)
      have hl : kvs.length = (ks.map fun w => keyD w.1).length := by rw [List.length_map, l.length]
      rw [hl] at w
      refine ⟨ad, ob, rfl, .inl ⟨kvs, g1.sub _ _ hx, q _ _ F1 H1 _ O1 g1 b1 (fun H2 e2 => e2 _ _ hx) (w.mono (fun _ z => z) fun i H x H' _ _ y => ?_) hΘ⟩⟩
      obtain ⟨rfl, kk, vv, e1, rfl⟩ := y
      intro F2 O2 d e2 x1 x2 b2
      obtain ⟨d', e3, _⟩ := l.at_ e1
      rw [List.getElem?_map, e3] at e2
      cases e2
      exact ⟨F2, .refl x2, b2, dat_key⟩
end
end FF
set_option Elab.async false
set_option linter.all false
set_option maxRecDepth 100000
set_option maxHeartbeats 1000000
namespace FF
open PySem PySem.Spec PyProof.Rows L2
open Evl (Ex sz_of sz_lt fresh_back)
/-! dict comprehensions over known things -/
section
variable {K : PySem.W.Frag} {E E' : XK} {Ψ : XPost} {F F' F1 F2 H H' H1 H2 : Hp} {O O' O1 O2 R : Own} {Δ : Env_} {te td tk tv : TE} {k : Dt → Own → Prop} {p : Addr} {ks : List (Key × Dt)}
theorem putD_new {kk : Key} {d : Dt} (h : kk ∉ ks.map (·.1)) : putD ks kk d = ks ++ [(kk, d)] := by
  unfold putD
  rw [if_neg]
  intro z
  obtain ⟨w, m, e⟩ := List.any_eq_true.mp z
  exact h (List.mem_map.mpr ⟨w, m, of_decide_eq_true e⟩)
theorem wv_dc {wi : TI} {j : Nat} {vs : List Nat} (hi : Iv K E Ψ wi Δ O fun ds O1 => ds.length ≤ 50000 ∧ Pin (∃ (α : Type) (us : List α) (g : α → Dt) (key : α → Key) (f : α → Dt), ds = us.map g ∧ j ∈ vs ∧ (us.map key).Nodup ∧
    (∀ u, u ∈ us → Ev K E0 X0 tk ((wipeD Δ vs).set j (some (g u))) O1 (ex (keyD (key u)) O1)) ∧ (∀ u, u ∈ us → Ev K E0 X0 tv ((wipeD Δ vs).set j (some (g u))) O1 (ex (f u) O1)) ∧ ∀ q, k (.ref q) ((q, .dic (us.map fun u => (key u, f u))) :: O1))) :
    Ev K E Ψ (tDc wi (gName j) tYes tk tv vs) Δ O k := fun σ F H a b c e Q q =>
  hi σ F H a b c e _ fun J G F1 H1 ds O1 g1 b1 hG hw hΘ => fun Dn hD => by
    obtain ⟨hl, α, us, g, key, f, rfl, hj, hnd, hk, hv, hq⟩ := hΘ
    rw [List.length_map] at hw hl
    let Pv : Nat → Hp → Prop := fun i Hc => ∃ Fc, Gw O1 F1 H1 (O1 ++ [(Dn, .dic ((us.take i).map fun u => (key u, f u)))]) Fc Hc ∧ OwnOk K Fc Hc (O1 ++ [(Dn, .dic ((us.take i).map fun u => (key u, f u)))])
    refine ⟨fun i m Hc => m = us.length - i ∧ i ≤ us.length ∧ Pv i Hc, ⟨us.length, by simp, Nat.zero_le _, ?_⟩, ?_⟩
    · have g2 := Gw.newOwn (O := O1) (o := .dic []) (u := .dK []) g1.sub hD
      have b2 := b1.newOwn (o := .dic []) (u := .dK []) g1.sub hD ⟨[], upd_same, .nil⟩
      exact ⟨F1, g2.permR (List.perm_append_comm (l₁ := [_])), b2.perm (List.perm_append_comm (l₁ := [_]))⟩
    · rintro i m Hc ⟨rfl, hi, Fc, gg, bb⟩
      have hGc := hG Hc (gg.ext.trans gg.sub)
      by_cases hlt : i < us.length
      · refine .inr ⟨hw.goes i Hc hlt hGc, Pv (i + 1), fun H' p' => ⟨us.length - (i + 1), by omega, rfl, hlt, p'⟩, fun x Hc' y => ?_⟩
        have hu : us[i]? = some us[i] := by simp [hlt]
        have hm : us[i] ∈ us := List.getElem_mem _
        have hd : (us.map g)[i]? = some (g us[i]) := by rw [List.getElem?_map, hu]; rfl
        obtain ⟨F3, g3, b3, k3⟩ := hw.yields i Hc x Hc' hlt hGc y Fc _ _ hd gg.ext gg.sub bb
        have env : EnvOk K F3 (L2.wipe σ vs) (wipeD Δ vs) := (a.mono (g1.ext.trans (gg.ext.trans g3.ext))).wipe vs
        refine gv_name j x (L2.wipe σ vs) Hc' F3 _ _ g3.sub k3 env fun σ2 l1 m1 env' => ⟨?_, ?_⟩
        · rw [← wipe_wipe σ vs]
          exact wipe_eq l1 fun j' hj' => m1 j' fun z => hj' (by simp only [List.mem_singleton] at z; rw [z]; exact hj)
        refine et_frame (et_yes (K := K) (E := E0) (Ψ := X0) (Δ := (wipeD Δ vs).set j (some (g us[i]))) (O := O1)) (E' := E0) (Ψ := X0) σ2 F3 Hc' env' b3 g3.sub .zero _ fun bt F4 H4 O4 g4 b4 p4 => ?_
        obtain ⟨O5, rfl, rfl, rfl⟩ := p4
        refine iteT (ev_frame (hk us[i] hm) (E' := E0) (Ψ := X0) σ2 F4 H4 (env'.mono g4.ext) b4 g4.sub .zero _ fun v F5 H5 dk O6 g5 b5 k5 p5 => ?_)
        obtain ⟨O7, rfl, rfl, rfl⟩ := p5
        refine ev_frame (hv us[i] hm) (E' := E0) (Ψ := X0) σ2 F5 H5 (env'.mono (g4.ext.trans g5.ext)) b5 g5.sub .zero _ fun z F6 H6 dv O8 g6 b6 k6 p6 => ?_
        obtain ⟨O9, rfl, rfl, rfl⟩ := p6
        have mem : (Dn, Ow.dic ((us.take i).map fun u => (key u, f u))) ∈ O9 ++ [(Dn, Ow.dic ((us.take i).map fun u => (key u, f u)))] := by simp
        obtain ⟨_, kvs, hx, lx⟩ := b6.at_ _ _ mem
        have hi2 : (O9 ++ [(Dn, Ow.dic ((us.take i).map fun u => (key u, f u)))])[O9.length]? = some (Dn, Ow.dic ((us.take i).map fun u => (key u, f u))) := by simp
        have hnew : key us[i] ∉ (((us.take i).map fun u => (key u, f u)).map (·.1)) := by
          rw [List.map_map]
          intro mm
          obtain ⟨u, mu, eu⟩ := List.mem_map.mp mm
          have h1 : (us.map key).Nodup := hnd
          obtain ⟨n, hn, en⟩ := List.getElem_of_mem mu
          rw [List.length_take] at hn
          have e1 : us[n]? = some u := by
            rw [← en, List.getElem_take]
            simp [show n < us.length by omega]
          have e2 : (us.map key)[n]? = some (key us[i]) := by rw [List.getElem?_map, e1]; exact congrArg some eu
          have e3 : (us.map key)[i]? = some (key us[i]) := by rw [List.getElem?_map, hu]; rfl
          have : n = i := (List.getElem?_inj (by simp; omega) h1).mp (e2.trans e3.symm)
          omega
        have hput : putD ((us.take i).map fun u => (key u, f u)) (key us[i]) (f us[i]) = (us.take (i + 1)).map fun u => (key u, f u) := by
          rw [putD_new hnew, List.take_add_one, hu, List.map_append]
          rfl
        obtain ⟨b7, hmt⟩ := b6.mut (u := .dK (L2.putK kvs (key us[i]) z)) (o' := .dic (putD ((us.take i).map fun u => (key u, f u)) (key us[i]) (f us[i]))) hi2 ⟨_, upd_same, lx.put k6⟩
        have hset : (O9 ++ [(Dn, Ow.dic ((us.take i).map fun u => (key u, f u)))]).set O9.length (Dn, Ow.dic (putD ((us.take i).map fun u => (key u, f u)) (key us[i]) (f us[i]))) = O9 ++ [(Dn, Ow.dic ((us.take (i + 1)).map fun u => (key u, f u)))] := by rw [hput]; simp
        rw [hset] at b7 hmt
        have g7 := Gw.mut (u := .dK (L2.putK kvs (key us[i]) z)) b6 g6.sub (mem_addr mem) hmt
        refine ⟨kvs, key us[i], keyD_kV k5, hx, sz_lt (by rw [lx.length, List.length_map, List.length_take]; omega), F6, ((((gg.trans g3).trans g4).trans g5).trans g6).trans g7, b7⟩
      · have ei : i = us.length := by omega
        subst ei
        rw [List.take_length] at gg bb
        have pm : (O1 ++ [(Dn, Ow.dic (us.map fun u => (key u, f u)))]).Perm ((Dn, .dic (us.map fun u => (key u, f u))) :: O1) := List.perm_append_comm (l₂ := [_])
        exact .inl ⟨hw.stops Hc hGc, q _ Fc Hc (.ref Dn) _ (g1.trans (gg.permR pm)) (bb.perm pm) (.ref Dn) (hq Dn)⟩
end
/-! len and list of dicts, sealed ones too -/
section
variable {K : PySem.W.Frag} {E E' : XK} {Ψ : XPost} {F H : Hp} {O : Own} {k : Dt → Own → Prop} {x : Dt} {ks : List (Key × Dt)}
def rLenR : List V → Hp → VK → Prop := fun xs H Q => ∃ a kvs, xs = [V.ref a] ∧ Rd H a (.dK kvs) ∧ Q (.int kvs.length) H
theorem call_lenR {X : Cx} : CallR X (.builtin "len") rLenR := by
  intro pins s σ H xs us Q I r h
  obtain ⟨a, kvs, rfl, ha, q⟩ := h
  obtain ⟨u, rfl, ru⟩ := vals1 r
  cases ru
  exact d_len I ha fun t s' I' => ⟨.int kvs.length, H, I', ⟨t, rfl⟩, q⟩
theorem kc_lenR (h : DicOf O x ks) (q : k (.int (ks.length : Int)) O) : CaD K E Ψ rLenR [x] O k := fun F H vs b c e k1 Q qq => by
  cases k1 with
  | cons k1 l =>
    cases l
    obtain ⟨a, kvs, rfl, hr, lk⟩ := h.read b c k1
    refine ⟨a, kvs, rfl, hr, ?_⟩
    rw [lk.length]
    exact qq _ F H _ O (.refl c) b (.int _) q
def rListR : List V → Hp → VK → Prop := fun xs H Q => ∃ (a : Addr) (kvs : List (Key × V)), xs = [.ref a] ∧ Rd H a (.dK kvs) ∧ ∀ p, H p = none → Q (.ref p) (upd H p (.lst (kvs.map fun kv => kV kv.1)))
theorem call_listR {X : Cx} (hc : X.calm = true) : CallR X (.type "list") rListR := call_listD hc
end
end FF
set_option Elab.async false
set_option linter.all false
set_option maxRecDepth 100000
set_option maxHeartbeats 1000000
namespace FF
open PySem PySem.Spec PyProof.Rows L2
open Evl (Ex sz_of sz_lt fresh_back)
/-! sorted(d), d with texts as its keys -/
abbrev leS : Str → Str → Bool := PySem.W.dataLe false PyData.str
def rSortKS : List V → Hp → VK → Prop := fun xs H Q => ∃ a kvs, ∃ is : List Str, xs = [.ref a] ∧ L2.Rd H a (.dK kvs) ∧ kvs.map (·.1) = is.map Sum.inr ∧
  ∀ p, H p = none → Q (.ref p) (upd H p (.lst ((is.mergeSort leS).map V.str)))
theorem each_strs : ∀ {us : List Value} {is : List Str}, us.length = is.length → (∀ (j : Nat) (v : Value), us[j]? = some v → ∀ s : Str, is[j]? = some s → ∃ t, v = Value.str s t) → PySem.W.EachIs (fun u i => ∃ t, u = Value.str i t) us is
  | [], [], _, _ => .nil
  | u :: us, i :: is, hl, h => .cons (h 0 u rfl i rfl) (each_strs (by simpa using hl) fun j v e s e' => h (j + 1) v (by simpa using e) s (by simpa using e'))
  | [], _ :: _, hl, _ => by simp at hl
  | _ :: _, [], hl, _ => by simp at hl
theorem vals_strs : ∀ {us : List Value} {is : List Str}, PySem.W.EachIs (fun u i => ∃ t, u = Value.str i t) us is → Vals (is.map V.str) us
  | _, _, .nil => .nil
  | _, _, .cons h b => .cons h (vals_strs b)
theorem call_sortKS {X : Cx} (hc : X.calm = true) (hu : X.A.units + 100 < cLine) : CallR X (.builtin "sorted") rSortKS := by
  intro pins s σ H xs us Q I r h
  obtain ⟨a, kvs, is, rfl, rd, hk, q⟩ := h
  obtain ⟨u, rfl, rx⟩ := vals1 r
  cases rx
  obtain ⟨hl, ns, vs, kv, dof⟩ := L2.dk_rd I.hok rd
  obtain ⟨ep, dat⟩ := dof.dictAt
  have kk := kv.keys
  have ln : vs.length = is.length := by
    have := congrArg List.length kk
    have t := congrArg List.length hk
    simp only [List.length_map] at this t
    omega
  have ln2 : vs.length ≤ sizeLine := by
    have := congrArg List.length kk
    simp only [List.length_map] at this
    omega
  refine sorted_from ?_
  refine PySem.W.kdu_collect (PySem.W.kdl_dict ns) (I.ok.hd hc) dat ln2 ?_
  intro h' tk acc hkeep hit
  have hlen : acc.toList.length = is.length := by rw [Array.length_toList, hit.1, ln]
  have hacc : PySem.W.EachIs (fun u i => ∃ t, u = Value.str i t) acc.toList is := by
    refine each_strs hlen fun j v hv z hz => ?_
    obtain ⟨k, x, hkx, hi⟩ := hit.2 j v (by rw [← Array.getElem?_toList]; exact hv)
    have h1 : (vs.map (·.1))[j]? = some k := by rw [List.getElem?_map, hkx]; rfl
    rw [← kk, hk, List.getElem?_map, hz] at h1
    cases h1
    rcases L2.keyIs_shape (show L2.keyIs (.inr z) v = true from hi) with ⟨i2, t, e1, e2⟩ | ⟨x2, t, e1, e2⟩
    · cases e1
    · cases e1
      exact ⟨t, e2⟩
  refine ⟨by omega, ?_⟩
  rintro h rfl
  have hall : ∀ x ∈ is.map PyData.str, ∃ i, x = .str i := fun x m => by
    obtain ⟨i, _, rfl⟩ := List.mem_map.mp m
    exact ⟨i, rfl⟩
  have hget : (h'.push { cls := Value.type "list", data := Data.seq acc.toList.toArray }).get? h'.objs.size = some (seqObj "list" acc.toList.toArray 0) := PySem.Heap.get?_push_size _ rfl
  refine PySem.W.list_sort_data (bs := is) (enc := PyData.str) (R := fun u i => ∃ t, u = Value.str i t) hget hacc (hacc.mono fun u i ⟨t, e⟩ => ⟨[], by rw [e]; exact .str i t, by simp⟩) (fun d m d' m' => ?_) (.inr fun d m => ?_) (by omega) (fun b _ => ?_) fun out ho he => ?_
  · obtain ⟨i, rfl⟩ := hall d m
    obtain ⟨j, rfl⟩ := hall d' m'
    rfl
  · obtain ⟨i, rfl⟩ := hall d m
    exact ⟨by simp, by simp⟩
  · show X.A.units + 1 + 1 + 0 < cLine
    omega
  · have he' : Vals ((is.mergeSort leS).map V.str) out := vals_strs he
    obtain ⟨c, hc2⟩ := PyProof.Rows.sortedHeap_at (out := out.toArray) hget
    have I' := I.kept (t' := tk) hkeep
    have old : ∀ (b : Addr) (o : Obj), h'.get? b = some o → (sortedHeap (h'.push { cls := Value.type "list", data := Data.seq acc.toList.toArray }) h'.objs.size acc.toList out.toArray).get? b = some o := fun b o h1 => by
      have h2 := PySem.Heap.lt_size h1
      rw [PyProof.Rows.sortedHeap_old (Nat.ne_of_lt h2) (by rw [PySem.Heap.size_push]; exact Nat.lt_succ_of_lt h2)]
      exact PySem.Heap.get?_push_of_some _ h1
    refine ⟨.ref h'.objs.size, _, I'.laid old (Nat.le_refl _) ?_, rfl, q _ (I'.hok.fresh (Nat.le_refl _))⟩
    exact ⟨by rw [List.length_map, List.length_mergeSort]; omega, out, c, he', hc2⟩
section
variable {K : PySem.W.Frag} {E : XK} {Ψ : XPost} {F H : Hp} {O : Own} {k : Dt → Own → Prop} {x : Dt} {ks : List (Key × Dt)}
theorem datL_strs {F : Hp} : ∀ {zs : List Str}, DatL K F (zs.map V.str) (zs.map Dt.str)
  | [] => .nil
  | _ :: _ => .cons (.str _) datL_strs
theorem cad_sortKS {is : List Str} (h : DicOf O x ks) (hk : ks.map (·.1) = is.map Sum.inr) : CaD K E Ψ rSortKS [x] O (nwl ((is.mergeSort leS).map .str) O) := fun F H vs b c e k1 Q qq => by
  cases k1 with
  | cons k1 l =>
    cases l
    obtain ⟨a, kvs, rfl, hr, lk⟩ := h.read b c k1
    exact ⟨a, kvs, is, rfl, hr, lk.keys.trans hk, fun z hz => qq _ F _ (.ref z) ((z, .lst ((is.mergeSort leS).map .str)) :: O) (Gw.newOwn c hz) (b.newOwn c hz ⟨_, upd_same, datL_strs⟩) (.ref z) ⟨z, rfl, rfl⟩⟩
/-- list(d): the keys in their order -/
theorem datL_keys {F : Hp} {kvs : List (Key × V)} (l : DatK K F kvs ks) : DatL K F (kvs.map fun kv => kV kv.1) (ks.map fun w => keyD w.1) := by
  induction ks generalizing kvs with
  | nil => cases l; exact .nil
  | cons w ks ih =>
    cases l with
    | cons a b => exact .cons dat_key (ih b)
theorem cad_listR (h : DicOf O x ks) : CaD K E Ψ rListR [x] O (nwl (ks.map fun w => keyD w.1) O) := fun F H vs b c e k1 Q qq => by
  cases k1 with
  | cons k1 l =>
    cases l
    obtain ⟨a, kvs, rfl, hr, lk⟩ := h.read b c k1
    exact ⟨a, kvs, rfl, hr, fun z hz => qq _ F _ (.ref z) ((z, .lst (ks.map fun w => keyD w.1)) :: O) (Gw.newOwn c hz) (b.newOwn c hz ⟨_, upd_same, datL_keys lk⟩) (.ref z) ⟨z, rfl, rfl⟩⟩
end
end FF
set_option Elab.async false
set_option linter.all false
set_option maxRecDepth 100000
set_option maxHeartbeats 1000000
namespace FF
open PySem PySem.Spec PyProof.Rows L2
open Evl (Ex sz_of sz_lt fresh_back)
/-! properties of one's own classes -/
structure HasP (P : Program) (w : World) (K : PySem.W.Frag) (mg : Str → Option Value) (base : Heap) (CX : CXT) (k : Nat) (C : Addr) (m : Str) (ps : List Str) (sp : Sp) : Prop where
  ex : ∃ p f fd, FnOk P w K mg base CX k f fd ps sp ∧ Binds K fd ps [] ∧ PropOf K C m p f
structure PropAt (K : PySem.W.Frag) (C : Addr) (m qual : Str) (st : Stmt) (ps : List Str) : Prop where
  ex : ∃ p f fd, Fun K m qual st f fd ∧ Binds K fd ps [] ∧ PropOf K C m p f
section
variable {P : Program} {w : World} {K : PySem.W.Frag} {mg : Str → Option Value} {base : Heap}
theorem hasP_of {C : Addr} {m qual : Str} {st : Stmt} {N ps : List Str} {k : Nat} {pre : Pre} (D : PropAt K C m qual st ps) (S : FnScope N ps (defScope st)) (hlen : ∀ ds O Φ Ψ, pre ds O Φ Ψ → ds.length = ps.length)
    (hbody : ∀ (f : Addr) (cdv : Value) (A : Around) (outer : List Env) (s : Shared) (H : Hp) (E : XK), Room k (A.deeper (envOfC qual (defScope st) s.heap.objs.size f cdv)) →
      ∃ t, PSs (cxOf CX0 P w K mg base N qual (defScope st) f cdv A outer s H E).nox (defBody st) t ∧ ∀ ds O Φ Ψ, pre ds O Φ Ψ → Sv K E Ψ t (startD N.length ds) O { nx := fun _ O' => Φ .non O', rt := Φ }) : HasP P w K mg base CX0 (k + 1) C m ps (mkSp K pre) := by
  obtain ⟨p, f, fd, F, b, hm⟩ := D.ex
  exact ⟨p, f, fd, fnOk_of F S hlen hbody, b, hm⟩
end
section
variable {X : Cx} {CX : CXT} {k : Nat} {C : Addr} {ps : List Str} {sp : Sp} {E : XK} {m : Str} {pos : Pos} {o : Expr} {ta : TE}
theorem pe_hasP (he : PE X o ta) (c : Cls X.K C) (h : HasP X.prog X.w X.K X.mg X.base CX k C m ps sp) (hr : Room (k + 1) X.A) (hx : Passes CX X.nox E)
    (hab : attributeBase o m X.env (eval o X.env) = eval o X.env := by rfl) : PE X (.Attribute o m pos) (tProp C sp [] E ta) := by
  obtain ⟨p, f, fd, F, b, M⟩ := h.ex
  exact pe_prop he c M F hr b .nil hx hab
end
section
variable {K : PySem.W.Frag} {E E' : XK} {Ψ : XPost} {O : Own} {Δ : Env_} {to : TE} {k : Dt → Own → Prop} {C : Addr}
theorem wv_prop {pre : Pre} (h : Ev K E Ψ to Δ O fun x O1 => ∃ fs, x = .obj C fs ∧ ∃ Oa R Φ1, O1.Perm (Oa ++ R) ∧ pre [.obj C fs] Oa Φ1 X0 ∧ ∀ d O3, Φ1 d O3 → ∃ O4, (O3 ++ R).Perm O4 ∧ k d O4) :
    Ev K E Ψ (tProp C (mkSp K pre) [] E' to) Δ O k := fun σ F H a b c e Q q => h σ F H a b c e _ fun v F1 H1 d1 O1 g1 b1 k1 p1 => by
  obtain ⟨fs, rfl, Oa, R, Φ1, hp, h1, h3⟩ := p1
  cases k1 with
  | obj hx l =>
    refine ⟨_, _, _, rfl, g1.sub _ _ hx, ?_⟩
    have b1' := b1.perm hp
    have g1' := g1.permR hp
    refine ⟨F1, _, Oa, Φ1, X0, .cons (.obj hx l) .nil, b1'.left, g1.sub, h1, .zero, fun v F' H' d O' g3 b3 k3 p3 => ?_⟩
    obtain ⟨O4, hO4, hk⟩ := h3 d O' p3
    exact q v F' H' d O4 ((g1'.trans g3.frame).permR hO4) ((b1'.frame g3 b3).perm hO4) k3 hk
theorem wv_propP {α : Type} {A : α → List Dt} {Cc : α → Prop} {Fv : α → Dt} (h : Ev K E Ψ to Δ O fun x O1 => ∃ fs, x = .obj C fs ∧ ∃ a, [.obj C fs] = A a ∧ Cc a ∧ k (Fv a) O1) : Ev K E Ψ (tProp C (mkSp K (preF A Cc Fv)) [] E' to) Δ O k :=
  wv_prop (h.imp fun x O1 ⟨fs, e, a, e2, c, q⟩ => ⟨fs, e, [], O1, ex (Fv a) [], .refl _, ⟨a, e2, c, rfl, rfl, rfl⟩, fun d O3 p => ⟨O1, by rw [p.2]; exact .refl _, by rw [p.1]; exact q⟩⟩)
end
end FF
set_option Elab.async false
set_option linter.all false
set_option maxRecDepth 100000
set_option maxHeartbeats 1000000
namespace FF
open PySem PySem.Spec PyProof.Rows L2
open Evl (Ex sz_of sz_lt fresh_back)
/-! classes whose __init__ has one keyword-only parameter more, with a default -/
structure HasK (P : Program) (w : World) (K : PySem.W.Frag) (mg : Str → Option Value) (base : Heap) (CX : CXT) (k : Nat) (C : Addr) (x : Str) (n : Nat) (ks ps : List Str) (dvs : List V) (sp : Sp) : Prop where
  ex : ∃ f fd, FnOk P w K mg base CX k f fd ps sp ∧ (∃ ds, Vals dvs ds ∧ Binds K fd ps ds) ∧ KBn K fd ps (n + 1) ks (fun us ws => us ++ ws) (fun vs zs => vs ++ zs) ∧ Mk K C f ∧ mg x = some (.ref C)
structure InitK (K : PySem.W.Frag) (mg : Str → Option Value) (C : Addr) (x qual : Str) (st : Stmt) (n : Nat) (ks ps : List Str) (dvs : List V) : Prop where
  ex : ∃ f fd, Fun K "__init__" qual st f fd ∧ (∃ ds, Vals dvs ds ∧ Binds K fd ps ds) ∧ KBn K fd ps (n + 1) ks (fun us ws => us ++ ws) (fun vs zs => vs ++ zs) ∧ Mk K C f ∧ mg x = some (.ref C)
section
variable {P : Program} {w : World} {K : PySem.W.Frag} {mg : Str → Option Value} {base : Heap}
theorem hasK_of {C : Addr} {x qual : Str} {st : Stmt} {N ks ps : List Str} {k n : Nat} {dvs : List V} {pre : Pre} (D : InitK K mg C x qual st n ks ps dvs) (S : FnScope N ps (defScope st)) (hlen : ∀ ds O Φ Ψ, pre ds O Φ Ψ → ds.length = ps.length)
    (hbody : ∀ (f : Addr) (cdv : Value) (A : Around) (outer : List Env) (s : Shared) (H : Hp) (E : XK), Room k (A.deeper (envOfC qual (defScope st) s.heap.objs.size f cdv)) →
      ∃ t, PSs (cxOf CX0 P w K mg base N qual (defScope st) f cdv A outer s H E).nox (defBody st) t ∧ ∀ ds O Φ Ψ, pre ds O Φ Ψ → Sv K E Ψ t (startD N.length ds) O { nx := fun _ O' => Φ .non O', rt := Φ }) : HasK P w K mg base CX0 (k + 1) C x n ks ps dvs (mkSp K pre) := by
  obtain ⟨f, fd, F, b, kb, hm, hg⟩ := D.ex
  exact ⟨f, fd, fnOk_of F S hlen hbody, b, kb, hm, hg⟩
end
section
variable {X : Cx} {CX : CXT} {k n : Nat} {C : Addr} {ks ps : List Str} {dvs : List V} {sp : Sp} {E : XK} {x : Str} {p pos : Pos} {e : Expr} {es : List Expr} {kws : List Keyword} {t tk : TA}
theorem pe_hasK0 (h : HasK X.prog X.w X.K X.mg X.base CX k C x n ks ps dvs sp) (hr : Room (k + 1) X.A) (hg : Gl X x) (hx : Passes CX X E) (ha : PA X (e :: es) t)
    (hd : (x == ("__debug__" : Str)) = false := by decide) (he : starEach (e :: es) X.env = (false, eval e X.env) :: starEach es X.env := by rfl)
    (hpl : (backTo pos (starEach es X.env)).any (·.1) = false := by rfl) : PE X (.Call (.Name x p) (e :: es) [] pos) (tMake C sp dvs E t) := by
  obtain ⟨f, fd, F, ⟨ds, rd, b⟩, _, M, hm⟩ := h.ex
  exact pe_make M F hr hg hm b rd hx ha hd he hpl
theorem pe_hasK (h : HasK X.prog X.w X.K X.mg X.base CX k C x n ks ps dvs sp) (hr : Room (k + 1) X.A) (hg : Gl X x) (hx : Passes CX X E) (ha : PA X (e :: es) t) (hkw : PK X kws tk)
    (hall : (backToKw pos (keywordEach kws X.env)).all (·.1.isSome) = true := by rfl) (hks : (backToKw pos (keywordEach kws X.env)).filterMap (·.1) = ks := by rfl) (hdb : (x == ("__debug__" : Str)) = false := by decide)
    (he : starEach (e :: es) X.env = (false, eval e X.env) :: starEach es X.env := by rfl) (hpl : ((backTo pos (starEach (e :: es) X.env)).any (·.1) || (backToKw pos (keywordEach kws X.env)).any (·.1.isNone)) = false := by rfl) :
    PE X (.Call (.Name x p) (e :: es) kws pos) (tMakeK C n ks.length sp (fun vs zs => vs ++ zs) E t tk) := by
  obtain ⟨f, fd, F, _, kb, M, hm⟩ := h.ex
  exact pe_makeK M F hr hg hm kb hx ha hkw hall hks hdb he hpl
end
section
variable {K : PySem.W.Frag} {E E' : XK} {Ψ : XPost} {F F' F1 F2 H H' H1 H2 : Hp} {O O' O1 O2 R : Own} {Δ : Env_} {ts tk : TA} {k : Dt → Own → Prop} {C : Addr} {cond : List Dt → Prop} {fl : List Dt → List (Str × Dt)}
theorem make_run {vs : List V} {ds : List Dt} {Q : VK} (e1 : Ex F1 H1) (b1 : OwnOk K F1 H1 O1) (k1 : DatL K F1 vs ds) (hc : cond ds) {x dx : Addr} (hx : H1 x = none) (hdx : H1 dx = none) (ne : dx ≠ x)
    (q : ∀ F' H', Gw O1 F1 H1 O1 F' H' → OwnOk K F' H' O1 → Dat K F' (.ref x) (.obj C (fl ds)) → Q (.ref x) H') :
    mkSp K (preI C cond fl) (.ref x :: vs) (upd (upd H1 dx (.own x)) x (.ins C dx [])) (fun v H3 => v = .non ∧ Q (.ref x) H3) E' := by
  have gd : Gw O1 F1 H1 O1 F1 (upd H1 dx (.own x)) := Gw.junk e1 hdx
  have bd : OwnOk K F1 (upd H1 dx (.own x)) O1 := b1.junk hdx
  have hx' : upd H1 dx (.own x) x = none := by rw [upd_ne (fun z => ne z.symm)]; exact hx
  have go := Gw.newOwn (O := O1) (o := .ins C []) (u := .ins C dx []) gd.sub hx'
  have bo := bd.newOwn (o := .ins C []) (u := .ins C dx []) gd.sub hx' ⟨dx, [], upd_same, .nil⟩
  have bo' : OwnOk K F1 (upd (upd H1 dx (.own x)) x (.ins C dx [])) ([(x, .ins C [])] ++ O1) := bo
  refine ⟨F1, .ref x :: ds, [(x, .ins C [])], (fun d O' => d = .non ∧ O' = [(x, .ins C (fl ds))]), X0, .cons (.ref x) k1, bo'.left, go.sub, ⟨x, ds, rfl, hc, rfl, rfl, rfl⟩, .zero, fun v F2 H2 d2 O2 g2 b2 k2 p2 => ?_⟩
  obtain ⟨rfl, rfl⟩ := p2
  cases k2
  refine ⟨rfl, ?_⟩
  have g3 := g2.frame (R := O1)
  have b3 : OwnOk K F2 H2 ((x, .ins C (fl ds)) :: O1) := bo'.frame g2 b2
  obtain ⟨_, dx2, fvs, h2, l2⟩ := b3.at_ x _ (List.mem_cons_self ..)
  obtain ⟨g4, b4⟩ := Gw.frzG b3 g3.sub h2
  exact q _ _ (((gd.trans go).trans g3).trans g4) b4 (.obj upd_same (l2.mono g4.ext))
theorem DatL.snoc {F : Hp} {vs ws : List V} {ds es : List Dt} (h : DatL K F vs ds) (h' : DatL K F ws es) : DatL K F (vs ++ ws) (ds ++ es) := by
  induction ds generalizing vs with
  | nil => cases h; exact h'
  | cons d ds ih => cases h with | cons a b => exact .cons a (ih b)
/-- C(..), the keyword-only parameter by its default, a whole number -/
theorem wv_makeI {i : Int} (h : EvA K E Ψ ts Δ O fun ds O1 => cond (ds ++ [.int i]) ∧ k (.obj C (fl (ds ++ [.int i]))) O1) : Ev K E Ψ (tMake C (mkSp K (preI C cond fl)) [.int i] E' ts) Δ O k := fun σ F H a b c e Q q =>
  h σ F H a b c e _ fun vs F1 H1 ds O1 g1 b1 k1 p1 x dx hx hdx ne => make_run g1.sub b1 (k1.snoc (.cons (.int i) .nil)) p1.1 hx hdx ne fun F' H' g2 b2 k2 => q _ F' H' _ O1 (g1.trans g2) b2 k2 p1.2
/-- C(.., k = v) -/
theorem wv_makeK {n m : Nat} (h : EvA K E Ψ ts Δ O fun ds O1 => ds.length = n ∧ EvA K E Ψ tk Δ O1 fun zs O2 => zs.length = m ∧ cond (ds ++ zs) ∧ k (.obj C (fl (ds ++ zs))) O2) : Ev K E Ψ (tMakeK C n m (mkSp K (preI C cond fl)) (fun vs zs => vs ++ zs) E' ts tk) Δ O k := fun σ F H a b c e Q q =>
  h σ F H a b c e _ fun vs F1 H1 ds O1 g1 b1 k1 p1 => p1.2 σ F1 H1 (a.mono g1.ext) b1 g1.sub (e.step g1) _ fun zs F2 H2 es O2 g2 b2 k2 p2 =>
    ⟨by rw [k1.length]; exact p1.1, by rw [k2.length]; exact p2.1, fun x dx hx hdx ne => by
      have := make_run (E' := E') (Q := Q) g2.sub b2 ((k1.mono g2.ext).snoc k2) p2.2.1 hx hdx ne fun F' H' g3 b3 k3 => q _ F' H' _ O2 ((g1.trans g2).trans g3) b3 k3 p2.2.2
      simpa using this⟩
end
end FF
set_option Elab.async false
set_option linter.all false
set_option maxRecDepth 100000
set_option maxHeartbeats 1000000
namespace FF
open PySem PySem.Spec PyProof.Rows L2
open Evl (Ex sz_of sz_lt fresh_back)
/-! methods that have one keyword-only parameter more, with a default -/
structure HasMK (P : Program) (w : World) (K : PySem.W.Frag) (mg : Str → Option Value) (base : Heap) (CX : CXT) (k : Nat) (C : Addr) (m : Str) (n : Nat) (ks ps : List Str) (dvs : List V) (sp : Sp) : Prop where
  ex : ∃ f fd, FnOk P w K mg base CX k f fd ps sp ∧ (∃ ds, Vals dvs ds ∧ Binds K fd ps ds) ∧ KBn K fd ps (n + 1) ks (fun us ws => us ++ ws) (fun vs zs => vs ++ zs) ∧ Meth K C m f
structure MethK (K : PySem.W.Frag) (C : Addr) (m qual : Str) (st : Stmt) (n : Nat) (ks ps : List Str) (dvs : List V) : Prop where
  ex : ∃ f fd, Fun K m qual st f fd ∧ (∃ ds, Vals dvs ds ∧ Binds K fd ps ds) ∧ KBn K fd ps (n + 1) ks (fun us ws => us ++ ws) (fun vs zs => vs ++ zs) ∧ Meth K C m f
section
variable {P : Program} {w : World} {K : PySem.W.Frag} {mg : Str → Option Value} {base : Heap}
theorem hasMK_of {C : Addr} {m qual : Str} {st : Stmt} {N ks ps : List Str} {k n : Nat} {dvs : List V} {pre : Pre} (D : MethK K C m qual st n ks ps dvs) (S : FnScope N ps (defScope st)) (hlen : ∀ ds O Φ Ψ, pre ds O Φ Ψ → ds.length = ps.length)
    (hbody : ∀ (f : Addr) (cdv : Value) (A : Around) (outer : List Env) (s : Shared) (H : Hp) (E : XK), Room k (A.deeper (envOfC qual (defScope st) s.heap.objs.size f cdv)) →
      ∃ t, PSs (cxOf CX0 P w K mg base N qual (defScope st) f cdv A outer s H E).nox (defBody st) t ∧ ∀ ds O Φ Ψ, pre ds O Φ Ψ → Sv K E Ψ t (startD N.length ds) O { nx := fun _ O' => Φ .non O', rt := Φ }) : HasMK P w K mg base CX0 (k + 1) C m n ks ps dvs (mkSp K pre) := by
  obtain ⟨f, fd, F, b, kb, hm⟩ := D.ex
  exact ⟨f, fd, fnOk_of F S hlen hbody, b, kb, hm⟩
end
section
variable {X : Cx} {CX : CXT} {k n : Nat} {C : Addr} {m : Str} {ks ps : List Str} {dvs : List V} {sp : Sp} {E : XK} {x : Str} {p pos apos : Pos} {o e : Expr} {es : List Expr} {kws : List Keyword} {ta : TE} {t tk : TA}
/-- o.m(e, ..), the keyword-only parameter by its default -/
theorem pe_hasMK0 {pl : Sem Bool} (he : PE X o ta) (c : Cls X.K C) (h : HasMK X.prog X.w X.K X.mg X.base CX k C m n ks ps dvs sp) (hr : Room k X.A) (hx : Passes CX X E) (ha : PA X (e :: es) t)
    (hst : starEach (e :: es) X.env = (false, eval e X.env) :: starEach es X.env := by rfl) (hpl : (backTo pos (starEach es X.env)).any (·.1) = false := by rfl)
    (ht : eval (.Call (.Attribute o m apos) (e :: es) [] pos) X.env = (do
      let ov ← eval o X.env
      standAt apos.atName
      let (f, first) ← holding [ov] (getMethod ov m pl)
      callWith pos f first (backTo pos (starEach (e :: es) X.env)) (backToKw pos (keywordEach [] X.env))) := by rfl) : PE X (.Call (.Attribute o m apos) (e :: es) [] pos) (tMeth C m sp dvs E ta t) := by
  obtain ⟨f, fd, F, ⟨ds, rd, b⟩, _, M⟩ := h.ex
  exact pe_meth (pl := pl) he c M F hr b rd hx ha hst hpl ht
end
section
variable {K : PySem.W.Frag} {E E' : XK} {Ψ : XPost} {F F' F1 F2 H H' H1 H2 : Hp} {O O' O1 O2 R : Own} {Δ : Env_} {to : TE} {ts tk : TA} {k : Dt → Own → Prop} {C : Addr} {m : Str} {pre : Pre}
/-- by its default z -/
theorem wv_methD {v : V} {z : Dt} (hz : ∀ F, Dat K F v z) (h : Ev K E Ψ to Δ O fun x O1 => ∃ fs, x = .obj C fs ∧ fs.lookup m = none ∧ EvA K E Ψ ts Δ O1 fun ds O2 => ∃ Oa R Φ1, O2.Perm (Oa ++ R) ∧ pre (.obj C fs :: (ds ++ [z])) Oa Φ1 X0 ∧ ∀ d O3, Φ1 d O3 → ∃ O4, (O3 ++ R).Perm O4 ∧ k d O4) :
    Ev K E Ψ (tMeth C m (mkSp K pre) [v] E' to ts) Δ O k := fun σ F H a b c e Q q => h σ F H a b c e _ fun v F1 H1 d1 O1 g1 b1 k1 p1 => by
  obtain ⟨fs, rfl, hm, ha⟩ := p1
  cases k1 with
  | obj hx l =>
    refine ⟨_, _, _, rfl, g1.sub _ _ hx, l.lookN hm, ?_⟩
    refine ha σ F1 H1 (a.mono g1.ext) b1 g1.sub (e.step g1) _ fun vs F2 H2 ds O2 g2 b2 k2 p2 => ?_
    obtain ⟨Oa, R, Φ1, hp, h1, h3⟩ := p2
    have b2' := b2.perm hp
    have g2' := g2.permR hp
    refine ⟨F2, _, Oa, Φ1, X0, .cons (.obj (g2.ext _ _ hx) (l.mono g2.ext)) (k2.snoc (.cons (hz F2) .nil)), b2'.left, g2.sub, h1, .zero, fun v F' H' d O' g3 b3 k3 p3 => ?_⟩
    obtain ⟨O4, hO4, hk⟩ := h3 d O' p3
    exact q v F' H' d O4 ((g1.trans (g2'.trans g3.frame)).permR hO4) ((b2'.frame g3 b3).perm hO4) k3 hk
/-- typed promises -/
theorem wv_methDP {α : Type} {A : α → List Dt} {Cc : α → Prop} {Fv : α → Dt} (h : Ev K E Ψ to Δ O fun x O1 => ∃ fs, x = .obj C fs ∧ fs.lookup m = none ∧ EvA K E Ψ ts Δ O1 fun ds O2 => ∃ a, .obj C fs :: (ds ++ [.non]) = A a ∧ Cc a ∧ k (Fv a) O2) : Ev K E Ψ (tMeth C m (mkSp K (preF A Cc Fv)) [.non] E' to ts) Δ O k :=
  wv_methD (z := .non) (fun _ => .non) (h.imp fun x O1 ⟨fs, e, hm, ha⟩ => ⟨fs, e, hm, ha.imp fun ds O2 ⟨a, e2, c, q⟩ => ⟨[], O2, ex (Fv a) [], .refl _, ⟨a, e2, c, rfl, rfl, rfl⟩, fun d O3 e => ⟨O2, by rw [e.2]; exact .refl _, by rw [e.1]; exact q⟩⟩⟩)
/-! d[x] = v, any key -/
theorem wp_dputK {tv ti : TE} {nx bk ct : Env_ → Own → Prop} {rt : Dt → Own → Prop} (h : Ev K E Ψ tv Δ O fun d O1 => Ev K E Ψ to Δ O1 fun x O2 => Ev K E Ψ ti Δ O2 fun y O3 => ∃ p kk i ks, x = .ref p ∧ y = keyD kk ∧ O3[i]? = some (p, .dic ks) ∧ ks.length < 100000 ∧ nx Δ (O3.set i (p, .dic (putD ks kk d)))) :
    Sv K E Ψ (L2.sDPut to ti tv) Δ O ⟨nx, rt, bk, ct⟩ := fun σ F H D a b c e kk => h σ F H a b c e _ fun v F1 H1 d1 O1 g1 b1 k1 p1 => by
  refine p1 σ F1 H1 (a.mono g1.ext) b1 g1.sub (e.step g1) _ fun w F2 H2 d2 O2 g2 b2 k2 p2 => ?_
  refine p2 σ F2 H2 (a.mono (g1.trans g2).ext) b2 g2.sub ((e.step g1).step g2) _ fun w3 F3 H3 d3 O3 g3 b3 k3 p3 => ?_
  obtain ⟨p, ky, i, ks, rfl, rfl, hi, hl, kn⟩ := p3
  cases k2
  have ek := keyD_kV k3
  have m : (p, Ow.dic ks) ∈ O3 := List.mem_of_getElem? hi
  obtain ⟨_, kvs, hp, l⟩ := b3.at_ p _ m
  obtain ⟨b4, hm⟩ := b3.mut (u := .dK (L2.putK kvs ky v)) (o' := .dic (putD ks ky d1)) hi ⟨_, upd_same, l.put (k1.mono (g2.trans g3).ext)⟩
  have g4 := Gw.mut (u := .dK (L2.putK kvs ky v)) b3 g3.sub (mem_addr m) hm
  have gg := ((g1.trans g2).trans g3).trans g4
  exact ⟨p, _, rfl, .inl ⟨kvs, ky, hp, ek, sz_lt (by rw [l.length]; exact hl), rfl⟩, kk.nx σ F3 _ Δ _ gg b4 (a.mono gg.ext) kn⟩
end
end FF
set_option Elab.async false
set_option linter.all false
set_option maxRecDepth 100000
set_option maxHeartbeats 1000000
namespace FF
open PySem PySem.Spec PyProof.Rows L2
open Evl (Ex sz_of sz_lt fresh_back)
/-! texts in their order -/
theorem leS_eq (a b : Str) : leS a b = decide (a.cps.toList ≤ b.cps.toList) := congrFun (congrFun (PySem.W.dataLe_str (fun s : Str => s)) a) b
theorem leS_trans (a b c : Str) (h : leS a b = true) (h' : leS b c = true) : leS a c = true := by
  rw [leS_eq, decide_eq_true_eq] at *
  exact List.le_trans h h'
theorem leS_total (a b : Str) : (leS a b || leS b a) = true := by
  rw [leS_eq, leS_eq, Bool.or_eq_true, decide_eq_true_eq, decide_eq_true_eq]
  exact List.le_total ..
theorem str_ext {a b : Str} (h : a.cps.toList = b.cps.toList) : a = b := by
  cases a with
  | mk x => cases b with
    | mk y =>
      have : x = y := Array.ext' h
      rw [this]
theorem leS_anti {a b : Str} (h : leS a b = true) (h' : leS b a = true) : a = b := by
  rw [leS_eq, decide_eq_true_eq] at *
  exact str_ext (List.le_antisymm h h')
abbrev sortS (ns : List Str) : List Str := ns.mergeSort leS
def RiseS (ns : List Str) : Prop := ns.Pairwise fun a b => leS a b = true
theorem sortS_pw (ns : List Str) : RiseS (sortS ns) := List.pairwise_mergeSort leS_trans leS_total ns
theorem sortS_perm (ns : List Str) : (sortS ns).Perm ns := List.mergeSort_perm ..
theorem sortS_of {ps qs : List Str} (h : ps.Perm qs) (hq : RiseS qs) : sortS ps = qs := perm_rise (fun _ _ => leS_anti) ((sortS_perm ps).trans h) (sortS_pw ps) hq
theorem leD_str {a b : Str} : leD (.str a) (.str b) = leS a b := rfl
theorem sortD_strs (ns : List Str) : sortD (ns.map .str) = (sortS ns).map .str := by
  unfold sortD
  exact (PySem.W.sort_maps (r := leS) (s := leD) Dt.str fun a _ b _ => leD_str.symm).symm
theorem so_strs {ns : List Str} (ho : ∀ s ∈ ns, PyData.strOk s = true) : SoOk (ns.map .str) := by
  have hm : ∀ x ∈ pyL (ns.map .str), ∃ i, x = .str i := fun x m => by
    rw [pyL_map, List.map_map] at m
    obtain ⟨i, _, rfl⟩ := List.mem_map.mp m
    exact ⟨i, rfl⟩
  refine ⟨?_, fun d m d' m' => ?_, .inr fun d m => ?_, fun d m => ?_⟩
  · rw [okL_all]
    simp [Dt.ok]
    exact ho
  · obtain ⟨i, rfl⟩ := hm d m
    obtain ⟨j, rfl⟩ := hm d' m'
    rfl
  · obtain ⟨i, rfl⟩ := hm d m
    exact ⟨by simp, by simp⟩
  · obtain ⟨p, _, rfl⟩ := List.mem_map.mp m
    simp [Dt.py, PyData.depth]
section
variable {K : PySem.W.Frag} {E E' : XK} {Ψ : XPost} {F F' F1 F2 H H' H1 H2 : Hp} {O O' O1 O2 R : Own} {Δ : Env_} {k : Dt → Own → Prop} {x : Dt}
theorem kcf_sortL {ns : List Str} {ds : List Dt} (hs : LstOf O x ds) (e : ds = ns.map .str) (ho : ∀ s ∈ ns, PyData.strOk s = true) (q : k (.lst ((sortS ns).map .str)) O) : CaD K E Ψ (rSortD K) [x] O k := by
  subst e
  refine kcf (cad_sortD hs (so_strs ho)) ?_
  rw [sortD_strs]
  exact q
/-- sorted(d), text keys, frozen -/
theorem kcf_sortKS {ks : List (Key × Dt)} {is : List Str} (h : DicOf O x ks) (hk : ks.map (·.1) = is.map Sum.inr) (q : k (.lst ((sortS is).map .str)) O) : CaD K E Ψ rSortKS [x] O k := kcf (cad_sortKS h hk) q
/-- dict(ps), ps a list of pairs: keys that differ -/
def rDicMk (K : PySem.W.Frag) : List V → Hp → VK → Prop := fun xs H Q => ∃ (a : Addr) (ps : List Addr) (kvs : List (Key × V)), xs = [.ref a] ∧ SqL K H a (ps.map V.ref) ∧ Paired (fun p kv => SqT K H p [kV kv.1, kv.2]) ps kvs ∧
    ∀ p, H p = none → Q (.ref p) (upd H p (.dK (mergeK [] kvs)))
theorem call_dicMk {X : Cx} (hc : X.calm = true) : CallR X (.type "dict") (rDicMk X.K) := call_dictP hc
theorem putK_new {kvs : List (Key × V)} {kk : Key} {v : V} (h : kk ∉ kvs.map (·.1)) : putK kvs kk v = kvs ++ [(kk, v)] := by
  unfold putK
  rw [if_neg]
  intro z
  obtain ⟨w, m, e⟩ := List.any_eq_true.mp z
  exact h (List.mem_map.mpr ⟨w, m, of_decide_eq_true e⟩)
theorem mergeK_new : ∀ {more kvs : List (Key × V)}, ((kvs ++ more).map (·.1)).Nodup → mergeK kvs more = kvs ++ more
  | [], kvs, _ => by simp [mergeK]
  | w :: more, kvs, h => by
    have h1 : w.1 ∉ kvs.map (·.1) := fun m => by
      rw [List.map_append, List.map_cons, List.nodup_append] at h
      exact h.2.2 _ m _ (List.mem_cons_self ..) rfl
    have e : putK kvs w.1 w.2 = kvs ++ [w] := putK_new h1
    show mergeK (putK kvs w.1 w.2) more = _
    rw [e, mergeK_new (by rwa [List.append_assoc]), List.append_assoc]
    rfl
theorem cad_dicMk {ks : List (Key × Dt)} {ds : List Dt} (hs : LstOf O x ds) (ed : ds = ks.map fun w => .tup [keyD w.1, w.2]) (hn : (ks.map (·.1)).Nodup) (q : ∀ p, k (.ref p) ((p, .dic ks) :: O)) : CaD K E Ψ (rDicMk K) [x] O k := fun F H vs b c e k1 Q qq => by
  subst ed
  cases k1 with
  | cons k1 l1 =>
    cases l1
    obtain ⟨l, zs, rfl, hz, lz⟩ := hs.read b c k1
    have key : ∀ (ks : List (Key × Dt)) (zs : List V), DatL K F zs (ks.map fun w => .tup [keyD w.1, w.2]) → ∃ (ps : List Addr) (kvs : List (Key × V)), zs = ps.map V.ref ∧ Paired (fun p (kv : Key × V) => SqT K H p [kV kv.1, kv.2]) ps kvs ∧ kvs.map (·.1) = ks.map (·.1) ∧ DatK K F kvs ks := by
      intro ks
      induction ks with
      | nil => intro zs h; cases h; exact ⟨[], [], rfl, .nil, rfl, .nil⟩
      | cons w ks ih =>
        intro zs h
        cases h with
        | cons h1 h2 =>
          obtain ⟨ps, kvs, rfl, i1, i2, i3⟩ := ih _ h2
          cases h1 with
          | tup s1 l1 =>
            cases l1 with
            | cons m1 m2 =>
              cases m2 with
              | cons m3 m4 =>
                cases m4
                have := keyD_kV m1
                subst this
                exact ⟨_ :: ps, (w.1, _) :: kvs, rfl, .cons (Evl.ex_t c s1) i1, by simp [i2], .cons m3 i3⟩
    obtain ⟨ps, kvs, rfl, i1, i2, i3⟩ := key ks zs lz
    have em : mergeK [] kvs = kvs := by
      rw [mergeK_new]
      · simp
      · rw [List.nil_append, i2]; exact hn
    refine ⟨l, ps, kvs, rfl, .of hz, i1, fun p hp => ?_⟩
    rw [em]
    exact qq _ F _ (.ref p) ((p, .dic ks) :: O) (Gw.newOwn c hp) (b.newOwn c hp (o := .dic ks) ⟨kvs, upd_same, i3⟩) (.ref p) (q p)
end
end FF
set_option Elab.async false
set_option linter.all false
set_option maxRecDepth 100000
set_option maxHeartbeats 1000000
namespace FF
open PySem PySem.Spec PyProof.Rows L2
open Evl (Ex sz_of sz_lt fresh_back)
/-! slices of tuples -/
end FF
set_option Elab.async false
set_option linter.all false
set_option maxRecDepth 100000
set_option maxHeartbeats 1000000
/-! sets of tuples whose items are keys of some kind (texts among them): what adding one more does -/
namespace SX
open PySem PySem.Spec PyProof.Rows L2
/-- the items say nothing of themselves when they are looked at -/
structure Calm {P : Program} {w : World} {κ : Type} [DecidableEq κ] (q : PySem.KeyKind P w κ) : Prop where
  noCls : ∀ (n : Nat) (k : κ) (v : Value), q.is k v = true → ofAClassStatement n v = pure false
  byVal : ∀ (n : Nat) (k : κ) (v : Value), q.is k v = true → ∃ c, hashByValue n v = pure c
theorem calm_mix (P : Program) (w : World) : Calm (mixKind P w) where
  noCls := fun n k v h => by
    rcases keyIs_shape h with ⟨i, t, _, rfl⟩ | ⟨x, t, _, rfl⟩ <;> cases n <;> rfl
  byVal := fun n k v h => by
    rcases keyIs_shape h with ⟨i, t, _, rfl⟩ | ⟨x, t, _, rfl⟩
    · exact ⟨true, by cases n <;> rfl⟩
    · exact ⟨false, by cases n <;> rfl⟩
section
variable {P : Program} {w : World} {κ : Type} [DecidableEq κ] {q : PySem.KeyKind P w κ} {A : Around} {E : Value → Shared → Prop} {s : Shared} {k : List κ} {b : Addr}
theorem items_all {vs : List Value} {R : Value → Prop} (h : ItemsAre q k vs) (r : ∀ (x : κ) (v : Value), q.is x v = true → R v) : ∀ v ∈ vs, R v := by
  induction h with
  | nil => exact fun v m => nomatch m
  | cons h1 _ ih => exact fun v m => (List.mem_cons.mp m).elim (fun e => e ▸ r _ _ h1) (ih v)
theorem cls_tup (c : Calm q) {Q : Bool → Shared → Prop} (hk : IsTupleKey q s.heap k b) (h : Q false s) : wpAny (model P w) A (ofAClassStatement 8 (.ref b)) Q E s := by
  have tt := hk.typeIs
  obtain ⟨ob, its, m, e1, e2, e3, e4⟩ := hk
  have all0 := items_all (R := fun v => ∀ n, ofAClassStatement n v = pure false) e4 fun x v hx n => c.noCls n x v hx
  unfold ofAClassStatement; refine wpAny_bind (wpAny_typeOf tt ?_); dsimp only
  simp only [show (("tuple" : String) == "tuple") = true from by decide, if_true, Bool.not_true, Bool.false_eq_true, if_false]
  try (refine wpAny_bind (wpAny_pure ?_); simp only [Bool.not_true, Bool.false_eq_true, if_false])
  show wpAny _ _ (seqItems? (.ref b) >>= _) _ _ s; refine wpAny_bind (wpAny_seqItems e1 e3 ?_); dsimp only; refine wpAny_bind ?_
  show wpAny _ _ (forIn its _ _) _ _ s; rw [← Array.forIn_toList]
  refine wpAny_forIn_list _ (fun rest r s' => (r.1 = none ∧ s' = s) ∧ ∀ v ∈ rest, ∀ n, ofAClassStatement n v = pure false) _ ?_ ?_ _ _ ⟨⟨rfl, rfl⟩, all0⟩
  · rintro v rest r s' ⟨⟨hr, rfl⟩, hall⟩; rw [hall v (.head _)]; refine wpAny_bind (wpAny_pure ?_); simp only [Bool.false_eq_true, if_false]
    exact wpAny_pure ⟨⟨rfl, rfl⟩, fun u m => hall u (.tail _ m)⟩
  · rintro ⟨r1, r2⟩ s' ⟨⟨hr, rfl⟩, _⟩; simp only at hr; subst hr; exact wpAny_pure h
/-- whether a tuple's hash is the same at each run: either answer will do -/
theorem byv_tup (c : Calm q) {Q : Bool → Shared → Prop} (hk : IsTupleKey q s.heap k b) (h : ∀ r, Q r s) : wpAny (model P w) A (hashByValue 8 (.ref b)) Q E s := by
  have tt := hk.typeIs
  obtain ⟨ob, its, m, e1, e2, e3, e4⟩ := hk
  have all0 := items_all (R := fun v => ∀ n, ∃ c, hashByValue n v = pure c) e4 fun x v hx n => c.byVal n x v hx
  unfold hashByValue; refine wpAny_bind (wpAny_specialOf tt F.slot_tuple_hash.lookup ?_)
  show wpAny _ _ (seqItems? (.ref b) >>= _) _ _ s; refine wpAny_bind (wpAny_seqItems e1 e3 ?_); refine wpAny_bind ?_
  show wpAny _ _ (forIn its _ _) _ _ s; rw [← Array.forIn_toList]
  refine wpAny_forIn_list _ (fun rest r s' => (r.1 = none ∧ s' = s) ∧ ∀ v ∈ rest, ∀ n, ∃ c, hashByValue n v = pure c) _ ?_ ?_ _ _ ⟨⟨rfl, rfl⟩, all0⟩
  · rintro v rest r s' ⟨⟨hr, rfl⟩, hall⟩
    obtain ⟨z, hz⟩ := hall v (.head _) 7
    rw [hz]; refine wpAny_bind (wpAny_pure ?_)
    cases z with
    | true => simp only [Bool.not_true, Bool.false_eq_true, if_false]; exact wpAny_pure ⟨⟨rfl, rfl⟩, fun u m => hall u (.tail _ m)⟩
    | false => simp only [Bool.not_false, if_true]; exact wpAny_pure (wpAny_pure (h _))
  · rintro ⟨r1, r2⟩ s' ⟨⟨hr, rfl⟩, _⟩; simp only at hr; subst hr; exact wpAny_pure (h _)
/-- a search among such tuples shows nothing -/
theorem seen_no (c : Calm q) {Q : Bool → Shared → Prop} (hk : IsTupleKey q s.heap k b) {ys : List Value} (hy : ∀ y ∈ ys, ∃ k' d, y = Value.ref d ∧ IsTupleKey q s.heap k' d) (h : Q false s) :
    wpAny (model P w) A (searchCouldBeSeen (.ref b) ys) Q E s := by
  unfold searchCouldBeSeen; refine wpAny_bind ?_
  refine wpAny_forIn_list _ (fun rest r s' => (r.1 = none ∧ s' = s) ∧ ∀ y ∈ rest, ∃ k' d, y = Value.ref d ∧ IsTupleKey q s.heap k' d) _ ?_ ?_ _ _ ⟨⟨rfl, rfl⟩, hy⟩
  · rintro v rest r s' ⟨⟨hr, rfl⟩, hall⟩
    have more : ∀ y ∈ rest, ∃ k' d, y = Value.ref d ∧ IsTupleKey q s'.heap k' d := fun u m => hall u (.tail _ m)
    obtain ⟨k', d, rfl, hd⟩ := hall v (.head _); dsimp only
    by_cases hv : (b == d || (carriedByValue (.ref b) && carriedByValue (.ref d))) = true
    · exact wp_if_pos hv (wpAny_pure ⟨⟨rfl, rfl⟩, more⟩)
    · refine wp_if_neg hv (wpAny_bind (wpAny_eqIsQuiet_tuple hk ?_)); simp only [Bool.not_true, Bool.false_eq_true, if_false]
      refine wpAny_bind (wpAny_eqIsQuiet_tuple hd ?_); simp only [Bool.not_true, Bool.false_eq_true, if_false]
      refine wpAny_bind (cls_tup c hk ?_); simp only [Bool.false_eq_true, if_false]
      refine wpAny_bind (cls_tup c hd ?_); simp only [Bool.false_eq_true, if_false]
      exact wpAny_pure ⟨⟨rfl, rfl⟩, more⟩
  · rintro ⟨r1, r2⟩ s' ⟨⟨hr, rfl⟩, _⟩; simp only at hr; subst hr; exact wpAny_pure h
/-- what stands of a member in the table: its hash and where it lies -/
def row (q : PySem.KeyKind P w κ) (e : Addr × List κ) : Int × Value := (tupleKeyHash q e.2, .ref e.1)
def hsh (q : PySem.KeyKind P w κ) (L : List (Addr × List κ)) : List Int := L.map fun e => tupleKeyHash q e.2
structure Held (q : PySem.KeyKind P w κ) (h : Heap) (a : Addr) (L : List (Addr × List κ)) (es : Array (Int × Value)) (ep : Nat) (t : SetTable) : Prop where
  ob : ∃ o, h.get? a = some o ∧ o.ExactSet ∧ o.data = .set es ep t
  rw_ : es.toList = L.map (row q)
  tb : TabOk t (hsh q L)
  nd : (L.map (·.2)).Nodup
  tp : ∀ e ∈ L, IsTupleKey q h e.2 e.1
  ld : w.params.followText "set-order" = true ∨ t.led = true
  rm : L.length * 5 < t.mask * 3
  fw : L.length < 64
variable {a : Addr} {L : List (Addr × List κ)} {es : Array (Int × Value)} {ep : Nat} {t : SetTable}
theorem size_of (h : es.toList = L.map (row q)) : es.size = L.length := by have := congrArg List.length h; simpa using this
theorem fits_of (h1 : t.place.size = es.size) (h2 : t.dummies = #[]) (h3 : es.size ≤ t.mask) : t.fits es.size = true := by
  unfold SetTable.fits SetTable.fill; rw [h2]; simp [h1]; exact h3
theorem Held.fits (R : Held q s.heap a L es ep t) : t.fits es.size = true := by
  have h1 := R.tb.sz
  have h2 := size_of R.rw_
  have h3 := R.rm
  unfold hsh at h1; rw [List.length_map] at h1
  exact fits_of (h1.trans h2.symm) R.tb.dm (by omega)
theorem Held.odd (R : Held q s.heap a L es ep t) : ¬ t.gaveWay = true := by unfold SetTable.gaveWay; rw [mask_odd R.tb.mok]; decide
theorem row_at (h : es.toList = L.map (row q)) {i : Nat} {e : Addr × List κ} (hi : L[i]? = some e) : es[i]? = some (row q e) := by
  rw [← Array.getElem?_toList, h, List.getElem?_map, hi]; rfl
theorem again_same (t : SetTable) : t.sameMemory t.moves t.mask = some true := by unfold SetTable.sameMemory; simp
/-- the places that a hash asks for, one after another -/
abbrev go0 (t : SetTable) (H : Int) : SetTable.Probe := runAt t.mask (SetTable.bits H % (t.mask + 1)) (SetTable.bits H)
theorem no_dummy (t : SetTable) (H : Int) (c : Nat) : (nth t.mask (go0 t H) c).dummy = none := by
  have all0 : ∀ (n : Nat) (p : SetTable.Probe), p.dummy = none → (nth t.mask p n).dummy = none := fun n => by
    induction n with
    | zero => exact fun p h => h
    | succ n ih => exact fun p h => ih _ (by unfold adv; split <;> exact h)
  exact all0 c _ rfl
/-- the search for k, from its c-th place on: none of the places ahead holds k -/
theorem search (cm : Calm q) (R : Held q s.heap a L es ep t) {x : Addr} (hx : IsTupleKey q s.heap k x) (hu : A.units < cLine) {N : Nat} (hN : N < 10 * SetTable.turns t.mask)
    (hfree : way t.mask (tupleKeyHash q k) N ∉ t.place.toList) (hfull : ∀ c, c < N → way t.mask (tupleKeyHash q k) c ∈ t.place.toList) {Q : SetFound → Shared → Prop}
    (yes : k ∈ L.map (·.2) → Q (.there none) s) (no : k ∉ L.map (·.2) → Q (.free (way t.mask (tupleKeyHash q k) N) false) s) :
    ∀ (fuel c : Nat) (st : Option SetTable.Probe), st.getD (t.probeStart (tupleKeyHash q k)) = nth t.mask (go0 t (tupleKeyHash q k)) c → c ≤ N → N < fuel + c →
      (∀ (i : Nat) (e : Addr × List κ) (c' : Nat), c' < c → L[i]? = some e → t.place.toList[i]? = some (way t.mask (tupleKeyHash q k) c') → e.2 ≠ k) →
      wpAny (model P w) A (setSearchFrom a (.ref x) (tupleKeyHash q k) true fuel st) Q E s := by
  intro fuel
  induction fuel with
  | zero => exact fun c st _ h1 h2 => absurd h2 (by omega)
  | succ fuel ih =>
    intro c st hst hc hf hpast
    obtain ⟨ob, e1, e2, e3⟩ := R.ob
    have cat : ∀ n, nth t.mask (nth t.mask (go0 t (tupleKeyHash q k)) c) n = nth t.mask (go0 t (tupleKeyHash q k)) (c + n) := fun n => (nth_add ..).symm
    have catj : ∀ n, (nth t.mask (nth t.mask (go0 t (tupleKeyHash q k)) c) n).j = way t.mask (tupleKeyHash q k) (c + n) := fun n => congrArg (·.j) (cat n)
    have hashes : ∀ (i : Nat) (e : Addr × List κ), L[i]? = some e → (es[i]?.map (·.1)).getD 0 = tupleKeyHash q e.2 := fun i e he => by rw [row_at R.rw_ he]; rfl
    have inL : ∀ (i j : Nat), t.place.toList[i]? = some j → ∃ e, L[i]? = some e := fun i j hj => by
      have h1 := (List.getElem?_eq_some_iff.mp hj).1
      have h2 := R.tb.sz
      unfold hsh at h2; rw [List.length_map] at h2; rw [Array.length_toList, h2] at h1
      exact ⟨_, List.getElem?_eq_getElem h1⟩
    rw [setSearchFrom_succ]; refine wpAny_bind (wpAny_setState_of e1 e3 R.fits ?_); dsimp only; refine wp_if_neg R.odd ?_
    try refine wpAny_bind (wpAny_pure ?_)
    have met := go_spec t R.tb.ris R.tb.dm (fun i => (es[i]?.map (·.1)).getD 0) (tupleKeyHash q k) (10 * SetTable.turns t.mask) (N - c) _ (no_dummy t (tupleKeyHash q k) c) (by omega)
      (fun n hn => by rw [catj]; exact hfull _ (by omega)) (by rw [catj, Nat.add_sub_cancel' hc]; exact hfree)
    rcases met with ⟨n, i, hn, hi, hh, hno, hpr⟩ | ⟨hno, hpr⟩
    · have pr : t.probe (fun i => (es[i]?.map (·.1)).getD 0) (tupleKeyHash q k) (st.getD (t.probeStart (tupleKeyHash q k))) = some (.candidate (way t.mask (tupleKeyHash q k) (c + n)) i (nth t.mask (go0 t (tupleKeyHash q k)) (c + (n + 1)))) := by
        rw [hst, ← catj, ← cat]; exact hpr
      rw [pr]; dsimp only; rw [catj] at hi
      obtain ⟨e, he⟩ := inL i _ hi
      have hm : e ∈ L := List.mem_of_getElem? he
      have slot : t.slot (way t.mask (tupleKeyHash q k) (c + n)) = .live i := slot_live R.tb.ris hi
      have tail : wpAny (model P w) A (searchRest a (.ref x) (tupleKeyHash q k) true fuel es t (way t.mask (tupleKeyHash q k) (c + n)) i (nth t.mask (go0 t (tupleKeyHash q k)) (c + (n + 1)))) Q E s := by
        unfold searchRest; rw [row_at R.rw_ he]; dsimp only [row]
        refine wpAny_bind (wpAny_holding (wpAny_eqBool_tuple hu (R.tp e hm) hx ?_)); refine wpAny_bind (wpAny_setState_of e1 e3 R.fits ?_); dsimp only
        by_cases same : e.2 = k
        · exact wp_if_pos (by simp [same]) (wpAny_pure (yes (List.mem_map.mpr ⟨e, hm, same⟩)))
        · refine wp_if_neg (by simp [same]) ?_
          try refine wpAny_bind (wpAny_pure ?_)
          rw [again_same]; dsimp only; simp only [if_true, slot, row_at R.rw_ he, row]
          refine wpAny_bind (wpAny_isSame_ref_self (wpAny_bind (wpAny_pure ?_))); simp only [if_true]; refine wp_if_neg (by simp [same]) ?_
          refine ih (c + (n + 1)) _ rfl (by omega) (by omega) fun i' e' c' hc' he' hp' ek => ?_
          by_cases z1 : c' < c
          · exact hpast i' e' c' z1 he' hp' ek
          by_cases z2 : c' < c + n
          · refine hno (c' - c) i' (by omega) ?_ ((hashes i' e' he').trans (by rw [ek]))
            rw [catj, Nat.add_sub_cancel' (by omega)]; exact hp'
          · have z3 : c' = c + n := by omega
            subst z3
            have sl := slot_live R.tb.ris hp'
            rw [slot] at sl
            injection sl with sl
            rw [← sl, he] at he'
            cases he'
            exact same ek
      by_cases led : t.led = true
      · refine wp_if_neg (by simp [led]) ?_
        try refine wpAny_bind (wpAny_pure ?_)
        exact tail
      · refine wp_if_pos (by simp [led]) (wpAny_bind (seen_no cm hx (fun y hy => ?_) (wp_if_neg (by decide) ?_)))
        · obtain ⟨r, hr, rfl⟩ := List.mem_map.mp hy
          have hr1 : r ∈ es.toList := by have : r ∈ es ∧ r.1 = tupleKeyHash q k := by simpa using hr
                                         simpa using this.1
          rw [R.rw_] at hr1
          obtain ⟨e', he', rfl⟩ := List.mem_map.mp hr1
          exact ⟨e'.2, e'.1, rfl, R.tp e' he'⟩
        · try refine wpAny_bind (wpAny_pure ?_)
          exact tail
    · have pr : t.probe (fun i => (es[i]?.map (·.1)).getD 0) (tupleKeyHash q k) (st.getD (t.probeStart (tupleKeyHash q k))) = some (.empty (way t.mask (tupleKeyHash q k) N) none) := by
        rw [catj, Nat.add_sub_cancel' hc] at hpr
        rw [hst]; exact hpr
      rw [pr]; dsimp only
      refine wpAny_pure (no fun hm => ?_)
      obtain ⟨e, he, ek⟩ := List.mem_map.mp hm
      obtain ⟨i, hi⟩ := List.getElem?_of_mem he
      have hz := R.tb.sz
      unfold hsh at hz; rw [List.length_map] at hz
      have hil : i < t.place.toList.length := by rw [Array.length_toList, hz]; exact (List.getElem?_eq_some_iff.mp hi).1
      have hj := List.getElem?_eq_getElem hil
      obtain ⟨c', c1, c2⟩ := R.tb.before hfree (i := i) (h := tupleKeyHash q k) (by unfold hsh; rw [List.getElem?_map, hi]; exact congrArg some (by rw [← ek])) hj
      rw [← c2] at hj
      by_cases z1 : c' < c
      · exact hpast i e c' z1 hi hj ek
      · refine hno (c' - c) i (by omega) ?_ ((hashes i e hi).trans (by rw [ek]))
        rw [catj, Nat.add_sub_cancel' (by omega)]; exact hj
/-- the search as adding asks for it -/
theorem search0 (cm : Calm q) (R : Held q s.heap a L es ep t) {x : Addr} (hx : IsTupleKey q s.heap k x) (hu : A.units < cLine) {Q : SetFound → Shared → Prop} (yes : k ∈ L.map (·.2) → Q (.there none) s)
    (no : ∀ N, k ∉ L.map (·.2) → way t.mask (tupleKeyHash q k) N ∉ t.place.toList → (∀ c, c < N → way t.mask (tupleKeyHash q k) c ∈ t.place.toList) → Q (.free (way t.mask (tupleKeyHash q k) N) false) s) :
    wpAny (model P w) A (setSearch a (.ref x) (tupleKeyHash q k) true) Q E s := by
  have rm := R.rm
  obtain ⟨N, h1, h2, h3⟩ := R.tb.first (by unfold hsh; rw [List.length_map]; omega) (tupleKeyHash q k)
  have few : 10 * SetTable.turns t.mask ≤ 1420 := by
    unfold SetTable.turns
    rcases R.tb.mok with m | m | m <;> omega
  exact search cm R hx hu h1 h2 h3 yes (fun nm => no N nm h2 h3) 100000 0 none rfl (Nat.zero_le _) (by omega) fun i e c' h => absurd h (Nat.not_lt_zero _)
theorem pick_all {α : Type} : ∀ (L : List α), (List.range L.length).filterMap (fun i => L[i]?) = L
  | [] => rfl
  | x :: L => by
    rw [List.length_cons, List.range_succ_eq_map, List.filterMap_cons]
    simp only [List.getElem?_cons_zero]
    rw [List.filterMap_map]
    exact congrArg (x :: ·) (pick_all L)
/-- the members in another order -/
theorem in_order {o : Array Nat} (h : es.toList = L.map (row q)) (hp : o.toList.Perm (List.range L.length)) :
    ∃ L2, (o.filterMap (es[·]?)).toList = L2.map (row q) ∧ L2.Perm L ∧ hsh q L2 = o.toList.map fun i => (es.map (·.1)).getD i 0 := by
  have look : ∀ i, es[i]? = (L[i]?).map (row q) := fun i => by rw [← Array.getElem?_toList, h, List.getElem?_map]
  refine ⟨o.toList.filterMap fun i => L[i]?, ?_, ?_, ?_⟩
  · rw [List.map_filterMap, show (fun i => Option.map (row q) L[i]?) = (fun i => es[i]?) from funext fun i => (look i).symm]
    simp
  · have := hp.filterMap fun i => L[i]?
    rwa [pick_all] at this
  · have small : ∀ i ∈ o.toList, i < L.length := fun i m => List.mem_range.mp (hp.mem_iff.mp m)
    generalize o.toList = l at small
    induction l with
    | nil => rfl
    | cons i l ih =>
      have hi := List.getElem?_eq_getElem (small i (.head _))
      rw [List.filterMap_cons_some hi]
      refine List.cons_eq_cons.mpr ⟨?_, ih fun j m => small j (.tail _ m)⟩
      have := look i
      rw [hi] at this
      simp [Array.getD_eq_getD_getElem?, Array.getElem?_map, this, row]
theorem other_cell {h h' : Heap} {o : Obj} (hb : IsTupleKey q h k b) (ho : h.get? a = some o) (hd : o.data = .set es ep t) (hs : Heap.SameBut a h h') : IsTupleKey q h' k b := by
  obtain ⟨o', its, n, e1, e2, e3, e4⟩ := hb
  refine ⟨o', its, n, (hs.2 b fun e => ?_).trans e1, e2, e3, e4⟩
  subst e
  cases e1.symm.trans ho
  rw [hd] at e3
  cases e3
/-- the table is laid anew, larger -/
theorem relay {o : Obj} (ho : s.heap.get? a = some o) (hx : o.ExactSet) (hd : o.data = .set es ep t) (hr : es.toList = L.map (row q)) (h1 : t.place.size = es.size) (h2 : t.dummies = #[]) (h3 : es.size ≤ t.mask) (nd : (L.map (·.2)).Nodup)
    (tp : ∀ e ∈ L, IsTupleKey q s.heap e.2 e.1) (ld : w.params.followText "set-order" = true ∨ t.led = true) (fw : L.length < 64) {want M : Nat} (m1 : SetTable.sizeAbove want - 1 = M) (m2 : MaskOk M) (m3 : SetTable.sizeAbove want ≤ 128) (m4 : L.length * 5 < M * 3) {Q : Unit → Shared → Prop}
    (hQ : ∀ h' L' es' ep' t', Heap.SameBut a s.heap h' → Held q h' a L' es' ep' t' → L'.Perm L → Q () { s with heap := h' }) : wpAny (model P w) A (setRelay a want) Q E s := by
  have sz := size_of hr
  obtain ⟨t', o', r1, r2, r3, r4, r5, _, _⟩ := relaid_ok t (hs := es.map (·.1)) (wanted := want) m1 m2 (by rw [Array.size_map]; omega)
  rw [Array.size_map, sz] at r2
  obtain ⟨L2, l1, l2, l3⟩ := in_order hr r2
  rw [← l3] at r3
  have sz2 : (o'.filterMap (es[·]?)).size = es.size := by rw [size_of l1, l2.length_eq, sz]
  rw [setRelay_eq]; refine wpAny_bind (wpAny_setState_of ho hd (fits_of h1 h2 h3) ?_); dsimp only; refine wp_if_neg (by rw [sizeLine_eq]; omega) ?_
  try refine wpAny_bind (wpAny_pure ?_)
  rw [r1]; dsimp only; refine wpAny_bind (wp_if_neg (by rw [sz2]; simp) ?_)
  try refine wpAny_bind (wpAny_pure ?_)
  refine wpAny_pure ?_; dsimp only
  have sb : Heap.SameBut a s.heap (s.heap.update a (Obj.putSet (o'.filterMap (es[·]?)) t')) := Heap.SameBut.update ..
  refine wpAny_storeSet_of ho hd (hQ _ L2 _ (ep + 1) t' sb ⟨⟨_, store_at ho hd, ⟨hx.1, hx.2.1, hx.2.2⟩, rfl⟩, l1, r3, (l2.map (·.2)).nodup_iff.mpr nd, fun e m => other_cell (tp e (l2.mem_iff.mp m)) ho hd sb, by rw [r5]; exact ld, by rw [l2.length_eq, r4]; exact m4, by rw [l2.length_eq]; exact fw⟩ l2) (by rw [sz2, sizeLine_eq]; omega)
theorem tab_of {t t' : SetTable} {hs : List Int} (T : TabOk t hs) (e1 : t'.place = t.place) (e2 : t'.dummies = t.dummies) (e3 : t'.mask = t.mask) : TabOk t' hs := by
  obtain ⟨T1, T2, T3, T4, T5, T6⟩ := T
  rw [← e1] at T1 T3 T5 T6
  rw [← e2] at T2
  rw [← e3] at T4 T5 T6
  exact ⟨T1, T2, T3, T4, T5, T6⟩
theorem ins_perm {α : Type} (L : List α) (p : Nat) (x : α) : (L.take p ++ x :: L.drop p).Perm (x :: L) := by
  have h := List.perm_middle (a := x) (l₁ := L.take p) (l₂ := L.drop p)
  rwa [List.take_append_drop] at h
/-- what is stored when one more is there, and laid anew where it must be -/
theorem store1 {o : Obj} {x : Addr} (ho : s.heap.get? a = some o) (hx : o.ExactSet) (hd : o.data = .set es ep t) (R : Held q s.heap a L es ep t) (hk : IsTupleKey q s.heap k x) (nm : k ∉ L.map (·.2)) (fw : L.length + 1 < 64)
    {t1 : SetTable} {p : Nat} (T : TabOk t1 (hsh q (L.take p ++ (x, k) :: L.drop p))) (e4 : t1.mask = t.mask) (e5 : t1.led = t.led) (e9 : t1.fill = L.length + 1) {Q : Bool → Shared → Prop}
    (hQ : ∀ h' L' es' ep' t', Heap.SameBut a s.heap h' → Held q h' a L' es' ep' t' → L'.Perm ((x, k) :: L) → Q true { s with heap := h' }) :
    wpAny (model P w) A (do
      storeSet a (SetTable.insertAt es p (tupleKeyHash q k, .ref x)) t1
      if !false && t1.tooFull then setRelay a (SetTable.grown (es.size + 1))
      return true) Q E s := by
  have sz := size_of R.rw_
  have rm := R.rm
  have hin : (SetTable.insertAt es p (tupleKeyHash q k, .ref x)).toList = (L.take p ++ (x, k) :: L.drop p).map (row q) := by
    rw [SetTable.toList_insertAt, R.rw_, List.map_append, List.map_cons, List.map_take, List.map_drop]; rfl
  have pm := ins_perm L p (x, k)
  generalize SetTable.insertAt es p (tupleKeyHash q k, .ref x) = es1 at hin ⊢
  generalize L.take p ++ (x, k) :: L.drop p = L1 at T hin pm
  have len : L1.length = L.length + 1 := pm.length_eq
  have sz1 := size_of hin
  have nd1 : (L1.map (·.2)).Nodup := by
    refine (pm.map (·.2)).nodup_iff.mpr ?_
    rw [List.map_cons]
    exact List.nodup_cons.mpr ⟨nm, R.nd⟩
  have sb : Heap.SameBut a s.heap (s.heap.update a (Obj.putSet es1 t1)) := Heap.SameBut.update ..
  have ho1 := store_at (es' := es1) (t' := t1) ho hd
  refine wpAny_bind (wpAny_storeSet_of ho hd ?_ (by rw [sz1, len, sizeLine_eq]; omega))
  generalize s.heap.update a (Obj.putSet es1 t1) = h1 at sb ho1 ⊢
  have tp1 : ∀ e ∈ L1, IsTupleKey q h1 e.2 e.1 := fun e m => by
    rcases List.mem_cons.mp (pm.mem_iff.mp m) with z | z
    · subst z; exact other_cell hk ho hd sb
    · exact other_cell (R.tp e z) ho hd sb
  have ld1 : w.params.followText "set-order" = true ∨ t1.led = true := by rw [e5]; exact R.ld
  have psz := T.sz
  unfold hsh at psz; rw [List.length_map, len] at psz
  by_cases full : t1.tooFull = true
  · simp only [full, Bool.not_false, Bool.and_true, if_true]
    have hf : (L.length + 1) * 5 ≥ t1.mask * 3 := by
      have h := full
      unfold SetTable.tooFull at h
      rwa [decide_eq_true_eq, e9] at h
    have two : (t.mask = 7 ∧ L.length = 4) ∨ (t.mask = 31 ∧ L.length = 18) := by
      rw [e4] at hf
      rcases R.tb.mok with m | m | m <;> rw [m] at hf rm
      · exact .inl ⟨m, by omega⟩
      · exact .inr ⟨m, by omega⟩
      · omega
    rw [sz]
    refine wpAny_bind ?_
    have again : ∀ M, SetTable.sizeAbove (SetTable.grown (L.length + 1)) - 1 = M → MaskOk M → SetTable.sizeAbove (SetTable.grown (L.length + 1)) ≤ 128 → (L.length + 1) * 5 < M * 3 →
        wpAny (model P w) A (setRelay a (SetTable.grown (L.length + 1))) (fun _ s' => wpAny (model P w) A (pure true) Q E s') E { s with heap := h1 } := fun M m1 m2 m3 m4 =>
      relay (s := { s with heap := h1 }) (L := L1) ho1 ⟨hx.1, hx.2.1, hx.2.2⟩ rfl hin (by rw [psz, sz1, len]) T.dm (by rw [sz1, len, e4]; rcases two with ⟨m, l⟩ | ⟨m, l⟩ <;> omega) nd1 tp1 ld1 (by omega) m1 m2 m3 (by rw [len]; exact m4)
        fun h2 L2 es2 ep2 t2 sb2 R2 pm2 => wpAny_pure (hQ h2 L2 es2 ep2 t2 (sb.trans sb2) R2 (pm2.trans pm))
    rcases two with ⟨_, l⟩ | ⟨_, l⟩
    · exact again 31 (by rw [l, size_20]) (.inr (.inl rfl)) (by rw [l, size_20]; decide) (by omega)
    · exact again 127 (by rw [l, size_76]) (.inr (.inr rfl)) (by rw [l, size_76]; decide) (by omega)
  · rw [Bool.not_eq_true] at full
    simp only [full, Bool.not_false, Bool.and_false, Bool.false_eq_true, if_false]
    try refine wpAny_bind (wpAny_pure ?_)
    refine wpAny_pure (hQ h1 L1 es1 (ep + 1) t1 sb ⟨⟨_, ho1, ⟨hx.1, hx.2.1, hx.2.2⟩, rfl⟩, hin, T, nd1, tp1, ld1, ?_, by omega⟩ pm)
    unfold SetTable.tooFull at full
    rw [decide_eq_false_iff_not, e9] at full
    omega
/-- one more member -/
theorem add1 (cm : Calm q) (R : Held q s.heap a L es ep t) {x : Addr} (hk : IsTupleKey q s.heap k x) (hu : A.units < cLine) (fw : L.length + 1 < 64) {Q : Bool → Shared → Prop}
    (hQ : ∀ b h' L' es' ep' t', Heap.SameBut a s.heap h' → Held q h' a L' es' ep' t' → (k ∈ L.map (·.2) → L' = L) → (k ∉ L.map (·.2) → L'.Perm ((x, k) :: L)) → Q b { s with heap := h' }) :
    wpAny (model P w) A (setAddHashed a (.ref x) (tupleKeyHash q k)) Q E s := by
  obtain ⟨o, ho, hx, hd⟩ := R.ob
  unfold setAddHashed; refine wpAny_holding ?_
  rw [show (100000 : Nat) = 99999 + 1 from rfl, setAddHashedIn_succ]; refine wpAny_bind (wpAny_setState_of ho hd R.fits ?_); dsimp only
  refine wp_if_neg (by simp [byScan, Value.scannable]) ?_
  try refine wpAny_bind (wpAny_pure ?_)
  refine wpAny_bind (search0 cm R hk hu (fun hm => ?_) fun N nm h1 h2 => ?_)
  · dsimp only
    exact wpAny_pure (hQ false s.heap L es ep t (Heap.SameBut.refl a s.heap) R (fun _ => rfl) fun z => absurd hm z)
  · dsimp only; refine wpAny_bind (wpAny_setState_of ho hd R.fits ?_); dsimp only
    obtain ⟨q1, q2, q3, q4, q5, q6, q7, q8, q9⟩ := R.tb.put h1 h2
    generalize hpt : t.put (way t.mask (tupleKeyHash q k) N) = pt at q1 q3 q4 q5 q6 q7 q8 q9 ⊢
    obtain ⟨t1, p⟩ := pt
    dsimp only at q1 q3 q4 q5 q6 q7 q8 q9 ⊢
    rw [← q1] at q2 q3
    have q3' : TabOk t1 (hsh q (L.take p ++ (x, k) :: L.drop p)) := by unfold hsh; rw [List.map_append, List.map_cons, List.map_take, List.map_drop]; exact q3
    have q9' : t1.fill = L.length + 1 := by rw [q9]; unfold hsh; rw [List.length_map]
    have fin : ∀ t2 : SetTable, t2.place = t1.place → t2.dummies = t1.dummies → t2.mask = t1.mask → t2.led = t1.led → wpAny (model P w) A (do
        storeSet a (SetTable.insertAt es p (tupleKeyHash q k, .ref x)) t2
        if !false && t2.tooFull then setRelay a (SetTable.grown (es.size + 1))
        return true) Q E s := fun t2 z1 z2 z3 z4 =>
      store1 ho hx hd R hk nm fw (tab_of q3' z1 z2 z3) (z3.trans q4) (z4.trans q5) (by rw [← q9']; unfold SetTable.fill; rw [z1, z2]) fun h' L' es' ep' t' a1 a2 a3 => hQ true h' L' es' ep' t' a1 a2 (fun z => absurd z nm) fun _ => a3
    by_cases pl : t1.plain = true
    · first | (refine wpAny_bind ?_; refine wp_if_pos pl ?_; refine byv_tup cm hk fun r => ?_) | (refine wp_if_pos pl (wpAny_bind (byv_tup cm hk fun r => ?_)))
      cases r with
      | true => exact fin t1 rfl rfl rfl rfl
      | false => exact fin _ rfl rfl rfl rfl
    · first | (refine wpAny_bind ?_; refine wp_if_neg pl ?_; refine wpAny_pure ?_) | (refine wp_if_neg pl (wpAny_bind (wpAny_pure ?_)))
      exact fin t1 rfl rfl rfl rfl
theorem cell_keep {h h' : Heap} (x : IsTupleKey q h k b) (hk : ∀ c o, h.get? c = some o → h'.get? c = some o) : IsTupleKey q h' k b := by
  obtain ⟨o, its, n, e1, e2⟩ := x
  exact ⟨o, its, n, hk _ _ e1, e2⟩
theorem Held.keep {h h' : Heap} (R : Held q h a L es ep t) (ha : ∀ o, h.get? a = some o → h'.get? a = some o) (ht : ∀ e ∈ L, IsTupleKey q h' e.2 e.1) : Held q h' a L es ep t := by
  obtain ⟨⟨o, ho, r⟩, r1, r2, r3, _, r5, r6, r7⟩ := R
  exact ⟨⟨o, ha o ho, r⟩, r1, r2, r3, ht, r5, r6, r7⟩
/-- a set just made -/
abbrev bare (w : World) : Obj := { cls := .type "set", dict := none, data := .set #[] 0 (.fresh 0 0 (!w.params.followText "set-order")) }
theorem held_bare {h : Heap} (ho : h.get? a = some (bare w)) : Held q h a [] #[] 0 (.fresh 0 0 (!w.params.followText "set-order")) := by
  refine ⟨⟨_, ho, ⟨rfl, rfl, rfl⟩, rfl⟩, rfl, ⟨.nil, rfl, rfl, .inl rfl, fun x m => (nomatch m), fun i h j hi => by simp [hsh] at hi⟩, .nil, fun e m => (nomatch m), ?_, (show 0 * 5 < 7 * 3 by decide), (show 0 < 64 by decide)⟩
  show _ ∨ (!w.params.followText "set-order") = true
  cases w.params.followText "set-order" <;> simp
/-- what is taken over of the first i ones -/
structure Took (xs : List (Addr × List κ)) (i : Nat) (L : List (Addr × List κ)) : Prop where
  from_ : ∀ e ∈ L, e ∈ xs
  has : ∀ e ∈ xs.take i, e.2 ∈ L.map (·.2)
  len : L.length ≤ i
theorem Took.next {xs L L' : List (Addr × List κ)} {i : Nat} {e : Addr × List κ} (T : Took xs i L) (he : xs[i]? = some e) (h1 : e.2 ∈ L.map (·.2) → L' = L) (h2 : e.2 ∉ L.map (·.2) → L'.Perm (e :: L)) : Took xs (i + 1) L' := by
  have cut : ∀ d, d ∈ xs.take (i + 1) → d ∈ xs.take i ∨ d = e := fun d m => by
    rw [List.take_add_one, he] at m
    simpa using m
  by_cases c : e.2 ∈ L.map (·.2)
  · rw [h1 c]
    exact ⟨T.from_, fun d m => (cut d m).elim (T.has d) fun z => z ▸ c, Nat.le_succ_of_le T.len⟩
  · have pm := h2 c
    refine ⟨fun d m => ?_, fun d m => (pm.map (·.2)).mem_iff.mpr ?_, by rw [pm.length_eq]; exact Nat.succ_le_succ T.len⟩
    · rcases List.mem_cons.mp (pm.mem_iff.mp m) with z | z
      · rw [z]; exact List.mem_of_getElem? he
      · exact T.from_ d z
    · rcases cut d m with z | z
      · exact .tail _ (T.has d z)
      · rw [z]; exact .head _
/-- set.add(x) of a set's own update -/
theorem setAdd1 (cm : Calm q) (R : Held q s.heap a L es ep t) {x : Addr} (hk : IsTupleKey q s.heap k x) (hu : A.units < cLine) (fw : L.length + 1 < 64) {Q : Bool → Shared → Prop}
    (hQ : ∀ b h' L' es' ep' t', Heap.SameBut a s.heap h' → Held q h' a L' es' ep' t' → (k ∈ L.map (·.2) → L' = L) → (k ∉ L.map (·.2) → L'.Perm ((x, k) :: L)) → Q b { s with heap := h', toks := s.toks + (k.length + 1) }) :
    wpAny (model P w) A (setAdd a (.ref x)) Q E s := by
  unfold setAdd
  refine wpAny_holding (wpAny_bind (wpAny_pyHash_tuple hu hk ?_))
  exact add1 (s := { s with toks := s.toks + (k.length + 1) }) cm R hk hu fw hQ
set_option maxHeartbeats 4000000 in
/-- set(xs), xs a list: what its own update does -/
theorem set_shell {l : Addr} {items : Array Value} {Z : Heap → Prop} {Q : Value → Shared → Prop} (hh : A.handled = none) (hl : s.heap.IsList l items) (hu : A.units + 3 < cLine)
    (loop : ∀ (A' : Around) (I : Addr) (G : Array GenState → Array GenState → Prop) (Pv : Nat → Value → Prop) (St : Nat → Shared → Prop) (s2 : Shared) (R : Result → Shared → Prop), WalksS P w A'.in1 I [I, l] [I] G items.size Pv St → (∀ i v, Pv i v → items[i]? = some v) → A'.in1.units < cLine → St 0 s2 →
      s2.heap.get? s.heap.objs.size = some (bare w) → s.heap.objs.size ∉ [I, l] → s.heap.get? I = none → (∀ c o, s.heap.get? c = some o → s2.heap.get? c = some o) →
      (∀ s', Moved (s.heap.objs.size :: [I]) G s2 s' → Z s'.heap → (∀ c o, s.heap.get? c = some o → s'.heap.get? c = some o) → R (.ok (.ret .none)) s') → codeAny (model P w) A' (.builtin "set.update.loop" ⟨[.ref s.heap.objs.size, .ref I], []⟩) R s2)
    (fin : ∀ (h' : Heap) (tk : Nat), Z h' → (∀ c o, s.heap.get? c = some o → h'.get? c = some o) → Q (.ref s.heap.objs.size) { s with heap := h', toks := tk }) :
    wpAny (model P w) A (call (.type "set") [.ref l]) Q E s := by
  obtain ⟨c, tl, hmro⟩ := F.called_set.mro
  have hmade := F.called_set.made; have hsub := F.called_set.sub
  refine wpAny_call (codeAny_of_tree ?_); show wpAny _ _ (callAny (.type "set") _) _ _ _
  refine wpAny_pure ⟨Code.quiet_builtin _ (by decide +kernel), codeAny_builtin F.entry_type_call ?_⟩; rw [Around.under_plain (weight_type_call_type "set" [.ref l] []) rfl]
  have h1 := F.called_set.notType; have h2 := F.called_set.canCreate; have hct := F.typeCall_set_1 (.ref l)
  repeat (any_goals (first | assumption | wp_step))
  have gone : ∀ n, s.heap.objs.size ≤ n → s.heap.get? n = none := fun n hn => by
    cases z : s.heap.get? n with
    | none => rfl
    | some o => exact absurd (Heap.lt_size z) (Nat.not_lt.mpr hn)
  refine codeAny_mono (code_set_led1 (.ref l) (E := E) (Q₁ := fun ob s1 => ob = .ref s.heap.objs.size ∧ s1 = { s with heap := s.heap.push (bare w) }) ⟨rfl, rfl⟩) fun r s1 hr => ?_
  match r, hr with
  | .error _, hr => exact hr
  | .ok (.ret ob), hr =>
    obtain ⟨rfl, rfl⟩ := hr
    have hS : (s.heap.push (bare w)).get? s.heap.objs.size = some (bare w) := Heap.get?_push_size _ rfl
    have hT : Shared.TypeIs { s with heap := s.heap.push (bare w) } (.ref s.heap.objs.size) "set" := ⟨_, hS, rfl⟩
    have hli := F.called_set.init.lookup; have hbi := F.called_set.init.bind (.ref s.heap.objs.size)
    repeat (any_goals (first | assumption | wp_step))
    refine codeAny_mono (codeAny_call_builtin (R := wants (fun r s2 => r = .none ∧ ∃ h' tk, s2 = { s with heap := h', toks := tk } ∧ Z h' ∧ ∀ c o, s.heap.get? c = some o → h'.get? c = some o) E)
      F.called_set.init.plain F.entry_set_init (check_set_init_1 hT ?_)) fun r2 s2 hr2 => ?_
    · obtain ⟨⟨oc, od, odt, osl⟩, e1, e2, n0, e3⟩ := hl
      simp only at e2 e3; subst e2; subst e3
      have e1' : (s.heap.push (bare w)).get? l = some { cls := .type "list", dict := od, data := .seq items n0, slots := osl } := Heap.get?_push_of_some _ e1
      have hl1 : (s.heap.push (bare w)).IsList l items := ⟨_, e1', rfl, n0, rfl⟩
      have s1 := F.sub_list_set; have s2 := F.sub_list_frozenset; have s3 : (Value.type "list" == Value.type "dict") = false := by decide
      unfold Builtin.«set.__init__» noKeywords Builtin.Frozenset.updateFrom
      generalize hPI : pyIter = PI
      wp_walk
      subst hPI
      refine wpAny_pyIter_list hl1 (wpAny_bind (wpAny_runValue ?_))
      have lS : l < s.heap.objs.size := Heap.lt_size e1
      have z1 : (s.heap.push (bare w)).objs.size = s.heap.objs.size + 1 := Heap.size_push ..
      have lI : l ≠ (s.heap.push (bare w)).objs.size := by rw [z1]; exact Nat.ne_of_lt (Nat.lt_succ_of_lt lS)
      have Sf : s.heap.objs.size ∉ [(s.heap.push (bare w)).objs.size, l] := by
        rw [z1]; simp only [List.mem_cons, List.not_mem_nil, or_false, not_or]
        exact ⟨Nat.ne_of_lt (Nat.lt_succ_self _), Nat.ne_of_gt lS⟩
      refine loop _ _ _ _ _ _ _ ((Walks.list (by simp [hh]) _ l lI items).toS) (fun i v h => h) hu ⟨⟨_, Heap.get?_push_size _ rfl, rfl, rfl⟩, (hl1.push _)⟩ (Heap.get?_push_of_some _ hS) Sf (gone _ (by rw [z1]; exact Nat.le_succ _)) (fun c o z => Heap.get?_push_of_some _ (Heap.get?_push_of_some _ z)) ?_
      intro s' mv hz hk'
      obtain ⟨h', g2, d', tk', os'⟩ := s'
      have a1 : g2 = s.gens := mv.gens
      have a2 : d' = s.drawn := mv.drawn
      have a3 : os' = s.os := mv.os
      subst a1 a2 a3
      show wpAny _ _ _ _ _ _; refine wpAny_pure ?_; show wpAny _ _ (ret Value.none) _ _ _
      exact wpAny_pure ⟨rfl, h', tk', rfl, hz, hk'⟩
    · match r2, hr2 with
      | .error _, hr2 => exact hr2
      | .ok (.ret r), hr2 =>
        obtain ⟨rfl, h', tk, rfl, hz, hk'⟩ := hr2
        repeat (any_goals (first | assumption | wp_step))
        exact fin _ _ hz hk'
      | .ok .next, hr2 => exact hr2.elim
      | .ok .brk, hr2 => exact hr2.elim
      | .ok .cont, hr2 => exact hr2.elim
  | .ok .next, hr => exact hr.elim
  | .ok .brk, hr => exact hr.elim
  | .ok .cont, hr => exact hr.elim
/-- set(xs), xs a list of whole numbers -/
theorem call_setIL {l : Addr} {items : Array Value} (ns : List Int) {Q : Value → Shared → Prop} (hh : A.handled = none) (hl : s.heap.IsList l items) (hit : IntsAre items.toList ns) (hb : ns.length + 1 < scanBound) (hu : A.units + 3 < cLine)
    (fin : ∀ (h' : Heap) (tk c : Nat), SetR w h' s.heap.objs.size (fun j => decide (j ∈ ns)) c → c ≤ ns.length → (∀ b o, s.heap.get? b = some o → h'.get? b = some o) → Q (.ref s.heap.objs.size) { s with heap := h', toks := tk }) :
    wpAny (model P w) A (call (.type "set") [.ref l]) Q E s := by
  have many : items.size = ns.length := by have := IntsAre.length hit; simpa using this
  refine set_shell (Z := fun h' => ∃ c, c ≤ ns.length ∧ SetR w h' s.heap.objs.size (fun j => decide (j ∈ ns)) c) hh hl hu ?_ fun h' tk ⟨c, hc, R⟩ k => fin h' tk c R hc k
  intro A' I G Pv St s2 R W hP hu' st0 hS Sf Inone hk2 fin2
  have val : ∀ (i : Nat) (v : Value), Pv i v → ∃ k t, ns[i]? = some k ∧ v = .int k t := fun i v hv => by
    have hi : i < ns.length := by rw [← many]; exact (Array.getElem?_eq_some_iff.mp (hP i v hv)).1
    obtain ⟨t, e⟩ := PyProof.Rows.IntsAre.int_at hit i v (by rw [Array.getElem?_toList]; exact hP i v hv)
    refine ⟨ns[i], t, List.getElem?_eq_getElem hi, ?_⟩
    rw [e, List.getD_eq_getElem?_getD, List.getElem?_eq_getElem hi] <;> rfl
  have Snone : s.heap.get? s.heap.objs.size = none := by
    cases z : s.heap.get? s.heap.objs.size with
    | none => rfl
    | some o => exact absurd (Heap.lt_size z) (Nat.lt_irrefl _)
  refine set_update_ints W s.heap.objs.size Sf ns many hb val (items.size - 0) 0 _ (by omega) (Nat.zero_le _) st0 ⟨0, Nat.le_refl 0, setR_new_at hS⟩ ?_
  intro s' c mv hc R1
  rw [many] at hc
  refine fin2 s' mv ⟨c, hc, R1⟩ fun b o e => ?_
  refine mv.heap b o (fun m => ?_) (hk2 b o e)
  rcases List.mem_cons.mp m with z | z
  · rw [z, Snone] at e; cases e
  · rw [List.mem_singleton.mp z, Inone] at e; cases e
end
end SX
set_option Elab.async false
set_option linter.all false
set_option maxRecDepth 100000
set_option maxHeartbeats 1000000
namespace SX
open PySem PySem.Spec PyProof.Rows L2
/-- such a set as a thing of the heap, its members apart -/
def SetQ0 (P : Program) (w : World) (h : Heap) (a : Addr) (L : List (Addr × List Key)) : Prop := ∃ (es : Array (Int × Value)) (ep : Nat) (t : SetTable), (∃ o, h.get? a = some o ∧ o.ExactSet ∧ o.data = .set es ep t) ∧ es.toList = L.map (row (mixKind P w)) ∧ TabOk t (hsh (mixKind P w) L) ∧
  (L.map (·.2)).Nodup ∧ (w.params.followText "set-order" = true ∨ t.led = true) ∧ L.length * 5 < t.mask * 3 ∧ L.length < 64
def SetQO (P : Program) (w : World) (a : Addr) (L : List (Addr × List Key)) : HO := .ext fun h => SetQ0 P w h a L
variable {P : Program} {w : World}
theorem Held.q0 {h : Heap} {a : Addr} {L : List (Addr × List Key)} {es : Array (Int × Value)} {ep : Nat} {t : SetTable} (R : Held (mixKind P w) h a L es ep t) : SetQ0 P w h a L := ⟨es, ep, t, R.ob, R.rw_, R.tb, R.nd, R.ld, R.rm, R.fw⟩
theorem SetQ0.held {h : Heap} {a : Addr} {L : List (Addr × List Key)} (R : SetQ0 P w h a L) (ht : ∀ e ∈ L, IsTupleKey (mixKind P w) h e.2 e.1) : ∃ es ep t, Held (mixKind P w) h a L es ep t := by
  obtain ⟨es, ep, t, h1, h2, h3, h4, h5, h6, h7⟩ := R
  exact ⟨es, ep, t, h1, h2, h3, h4, ht, h5, h6, h7⟩
theorem setQO_ok {H : Hp} {h : Heap} {a : Addr} {L : List (Addr × List Key)} (R : SetQ0 P w h a L) : ObjOk P w H h a (SetQO P w a L) := by
  have ⟨es, ep, t, ⟨o, ho, _⟩, _⟩ := R
  refine ⟨R, ⟨o, ho⟩, fun h1 h2 p k => ?_⟩
  obtain ⟨es, ep, t, ⟨o, ho, r⟩, q⟩ := p
  exact ⟨es, ep, t, ⟨o, k o ho, r⟩, q⟩
theorem items_q : ∀ {k : List Key} {us : List Value}, Vals (k.map kV) us → ItemsAre (mixKind P w) k us
  | [], _, .nil => .nil
  | x :: k, _, .cons r t => by
    refine .cons ?_ (items_q t)
    cases x with
    | inl i => obtain ⟨tk, rfl⟩ := r; show L2.keyIs (.inl i) (.int i tk) = true; simp [L2.keyIs, Value.isInt]
    | inr y => obtain ⟨tk, rfl⟩ := r; show L2.keyIs (.inr y) (.str y tk) = true; simp [L2.keyIs, Value.isStrOf]
theorem vals_q : ∀ (ks : List (Addr × List Key)), Vals (ks.map fun e => V.ref e.1) (ks.map fun e => Value.ref e.1)
  | [] => .nil
  | e :: ks => .cons rfl (vals_q ks)
section
variable {X : Cx} {pins : List (Addr × Obj)} {σ : L2.St} {H : Hp} {s : Shared}
theorem inv_q {b : Addr} {k : List Key} (I : Inv X pins σ H s) (h : SqT X.K H b (k.map kV)) : IsTupleKey (mixKind X.prog X.w) s.heap k b := by
  obtain ⟨its, r, ⟨o, ho, hc, n, hd⟩, _⟩ := I.tuple h
  exact ⟨o, its.toArray, n, ho, hc, hd, by simpa using items_q r⟩
/-! sorted(such a set) -/
def keyP : Key → PyData
  | .inl i => .int i
  | .inr x => .str x
def tupK (k : List Key) : PyData := .tuple (k.map keyP)
abbrev leT (x y : List Key) : Bool := PySem.W.dataLe false tupK x y
theorem reads_q {h : Heap} {b : Addr} {k : List Key} (t : IsTupleKey (mixKind P w) h k b) : Reads h (.ref b) (tupK k) [] := by
  obtain ⟨o, its, n, e1, e2, e3, e4⟩ := t
  refine .tuple e1 e2 e3 ?_
  generalize its.toList = vs at e4
  induction e4 with
  | nil => exact .nil
  | @cons x v ks vs h1 _ ih =>
    refine ReadsAll.cons (as := []) (bs := []) ?_ ih
    rcases keyIs_shape h1 with ⟨i, t, rfl, rfl⟩ | ⟨y, t, rfl, rfl⟩
    · exact .int i t
    · exact .str y t
/-- alike in their making: they can be put in an order -/
structure Same (kss : List (List Key)) : Prop where
  ne : ∀ k ∈ kss, k ≠ []
  al : ∀ k ∈ kss, ∀ k' ∈ kss, PySem.W.alike (tupK k) (tupK k') = true
theorem Same.sub {kss kss' : List (List Key)} (h : Same kss) (m : ∀ k ∈ kss', k ∈ kss) : Same kss' := ⟨fun k hk => h.ne k (m k hk), fun k hk k' hk' => h.al k (m k hk) k' (m k' hk')⟩
def rSortQ (K : PySem.W.Frag) (P : Program) (w : World) : List V → Hp → VK → Prop := fun xs H Q => ∃ (a : Addr) (L : List (Addr × List Key)), xs = [.ref a] ∧ H a = some (SetQO P w a L) ∧ (∀ e ∈ L, SqT K H e.1 (e.2.map kV)) ∧ Same (L.map (·.2)) ∧
  ∀ (L' : List (Addr × List Key)) (p : Addr), L'.Perm L → L'.Pairwise (fun e d => leT e.2 d.2 = true) → H p = none → Q (.ref p) (upd H p (.lst (L'.map fun e => V.ref e.1)))
theorem each_q : ∀ {L : List (Addr × List Key)}, PySem.W.EachIs (fun (v : Value) (e : Addr × List Key) => v = .ref e.1) (L.map fun e => Value.ref e.1) L
  | [] => .nil
  | _ :: _ => .cons rfl each_q
theorem each_q' : ∀ {us : List Value} {L : List (Addr × List Key)}, PySem.W.EachIs (fun (v : Value) (e : Addr × List Key) => v = .ref e.1) us L → us = L.map fun e => Value.ref e.1
  | _, _, .nil => rfl
  | _, _, .cons h r => by rw [h, each_q' r]; rfl
theorem each_r {h : Heap} : ∀ {L : List (Addr × List Key)}, (∀ e ∈ L, Reads h (.ref e.1) (tupK e.2) []) → PySem.W.EachIs (fun v e => Reads h v (tupK e.2) []) (L.map fun e => Value.ref e.1) L
  | [], _ => .nil
  | e :: L, k => .cons (k e (.head _)) (each_r fun d m => k d (.tail _ m))
theorem leT_trans (x y z : List Key) (h1 : leT x y = true) (h2 : leT y z = true) : leT x z = true := by
  have nt := (listOrd itemOrd).negTrans (PySem.W.keyToks (tupK z)) (PySem.W.keyToks (tupK y)) (PySem.W.keyToks (tupK x))
  simp only [leT, PySem.W.dataLe, PySem.W.sortLe, cond_false, Bool.not_eq_true'] at *
  cases hh : (listOrd itemOrd).blt (PySem.W.keyToks (tupK z)) (PySem.W.keyToks (tupK x)) with
  | false => exact hh
  | true =>
    rcases nt hh with q | q
    · rw [h2] at q; cases q
    · rw [h1] at q; cases q
theorem leT_total (x y : List Key) : (leT x y || leT y x) = true := by
  cases h : leT x y with
  | true => rfl
  | false =>
    simp only [leT, PySem.W.dataLe, PySem.W.sortLe, cond_false, Bool.not_eq_false', Bool.false_or, Bool.not_eq_true'] at *
    cases hh : (listOrd itemOrd).blt (PySem.W.keyToks (tupK x)) (PySem.W.keyToks (tupK y)) with
    | false => exact hh
    | true =>
      have := (listOrd itemOrd).trans _ _ _ h hh
      rw [(listOrd itemOrd).irrefl] at this
      cases this
theorem same_al {L : List (Addr × List Key)} (h : Same (L.map (·.2))) : PySem.W.AllAlike (L.map fun e => tupK e.2) ∧ PySem.W.Sortable (L.map fun e => tupK e.2) := by
  refine ⟨fun d m d' m' => ?_, .inl fun d m => ?_⟩
  · obtain ⟨e, me, rfl⟩ := List.mem_map.mp m
    obtain ⟨e', me', rfl⟩ := List.mem_map.mp m'
    exact h.al _ (List.mem_map.mpr ⟨e, me, rfl⟩) _ (List.mem_map.mpr ⟨e', me', rfl⟩)
  · obtain ⟨e, me, rfl⟩ := List.mem_map.mp m
    have := h.ne e.2 (List.mem_map.mpr ⟨e, me, rfl⟩)
    cases hk : e.2 with
    | nil => exact absurd hk this
    | cons x k => exact ⟨keyP x, k.map keyP, rfl⟩
theorem sorted_q {A : Around} {E : Value → Shared → Prop} {s : Shared} {a : Addr} {L : List (Addr × List Key)} {es : Array (Int × Value)} {ep : Nat} {t : SetTable} {Q : Value → Shared → Prop}
    (R : Held (mixKind P w) s.heap a L es ep t) (sm : Same (L.map (·.2))) (hh : A.handled = none) (hu : A.units + 100 < cLine)
    (q : ∀ (s' : Shared) (p : Nat) (out : List Value) (c : Nat) (L' : List (Addr × List Key)), (∀ b o, s.heap.get? b = some o → s'.heap.get? b = some o) → s'.gens = s.gens → s'.os = s.os → s.heap.objs.size ≤ p → s'.heap.get? p = some (seqObj "list" out.toArray c) →
      out = L'.map (fun e => Value.ref e.1) → L'.Perm L → L'.Pairwise (fun x y => leT x.2 y.2 = true) → Q (.ref p) s') :
    wpAny (model P w) A (call (.builtin "sorted") [.ref a]) Q E s := by
  obtain ⟨o, e1, e2, e3⟩ := R.ob
  have few := R.fw
  have hes := size_of R.rw_
  have hsc : es.size < scanBound := by
    have : 2000 < scanBound := by decide
    omega
  refine FF.sorted_from ?_
  refine L2.collect_set hh ⟨o, e1, e2.1, e3⟩ R.fits hsc R.tb.ris R.ld ?_
  intro s' out hk hsz hg hos hp
  have hrow : es.toList.map (fun x => x.2) = L.map fun e => Value.ref e.1 := by rw [R.rw_, List.map_map]; rfl
  rw [hrow] at hp
  obtain ⟨L0, hL0, rfl⟩ := FF.perm_map_inv hp rfl
  have hl0 : L0.length = L.length := hL0.length_eq
  refine ⟨by rw [List.length_map]; have := sizeLine_eq; omega, ?_⟩
  rintro hp2 rfl
  have hget : (s'.heap.push { cls := Value.type "list", data := Data.seq (L0.map fun e => Value.ref e.1).toArray }).get? s'.heap.objs.size = some (seqObj "list" (L0.map fun e => Value.ref e.1).toArray 0) := PySem.Heap.get?_push_size _ rfl
  have sm0 : Same (L0.map (·.2)) := sm.sub fun k m => (hL0.map _).mem_iff.mp m
  have rd : ∀ e ∈ L0, Reads (s'.heap.push { cls := Value.type "list", data := Data.seq (L0.map fun e => Value.ref e.1).toArray }) (.ref e.1) (tupK e.2) [] := fun e m =>
    reads_q (cell_keep (R.tp e (hL0.mem_iff.mp m)) fun c o z => PySem.Heap.get?_push_of_some _ (hk c o z))
  refine PySem.W.list_sort_data (bs := L0) (enc := fun e => tupK e.2) (R := fun v e => v = .ref e.1) hget each_q ((each_r rd).mono fun v e r => ⟨[], r, by simp⟩) (same_al sm0).1 (same_al sm0).2 (by have := sizeLine_eq; omega) (fun e m => ?_) fun out ho he => ?_
  · have dp : ∀ k : List Key, PyData.depthAll (k.map keyP) = 0 := fun k => by
      induction k with
      | nil => rfl
      | cons x k ih => cases x <;> simp [keyP, PyData.depthAll, PyData.depth, ih]
    have : (tupK e.2).depth ≤ 1 := by simp [tupK, PyData.depth, dp]
    show A.units + 1 + 1 + (tupK e.2).depth < cLine
    omega
  · obtain ⟨c, hc⟩ := PyProof.Rows.sortedHeap_at (out := out.toArray) hget
    refine q _ _ out c _ (fun b o e => ?_) hg hos hsz hc (each_q' he) ((List.mergeSort_perm ..).trans hL0) ?_
    · have z1 := hk b o e
      have z2 := PySem.Heap.lt_size z1
      show (sortedHeap _ _ _ _).get? b = some o
      rw [PyProof.Rows.sortedHeap_old (Nat.ne_of_lt z2) (by rw [PySem.Heap.size_push]; exact Nat.lt_succ_of_lt z2)]
      exact PySem.Heap.get?_push_of_some _ z1
    · exact List.pairwise_mergeSort (le := PySem.W.dataLe false fun e : Addr × List Key => tupK e.2) (fun x y z h1 h2 => leT_trans x.2 y.2 z.2 h1 h2) (fun x y => leT_total x.2 y.2) L0
section
variable {X : Cx} {pins : List (Addr × Obj)} {σ : L2.St} {H : Hp} {s : Shared}
theorem cr_sortQ (hc : X.calm = true) (hu : X.A.units + 100 < cLine) : CallR X (.builtin "sorted") (rSortQ X.K X.prog X.w) := by
  intro pins s σ H xs us Q I r h
  obtain ⟨a, L, rfl, ha, hsq, sm, q⟩ := h
  obtain ⟨u, rfl, rx⟩ := vals1 r
  cases rx
  obtain ⟨es, ep, t, R⟩ := SetQ0.held (I.hok a _ ha).1 fun e m => inv_q I (hsq e m)
  refine sorted_q R sm (I.ok.hd hc) hu ?_
  rintro ⟨hp', gs', dr', tk', os'⟩ p out c L' hk hg hos hsz hget ho hp hpw
  simp only at hg hos hk hget
  subst hg hos
  have hnone : H p = none := I.hok.fresh hsz
  have hlen : (L'.map fun e => V.ref e.1).length ≤ sizeLine := by
    rw [List.length_map, hp.length_eq]
    have := R.fw
    have := sizeLine_eq
    omega
  have hob : ObjOk X.prog X.w (upd H p (.lst (L'.map fun e => V.ref e.1))) hp' p (.lst (L'.map fun e => V.ref e.1)) := ⟨hlen, out, c, by rw [ho]; exact vals_q L', hget⟩
  exact ⟨.ref p, _, I.call (ch := []) (L2.Un.laid hk hsz hnone) (L2.HOk.laid I.hok hk hsz hob) I.bare (fun b m => by simp at m), rfl, q L' p hp hpw hnone⟩
/-- such a tuple is added to such a set -/
theorem add_q {E : Value → Shared → Prop} {D x : Addr} {L : List (Addr × List Key)} {k : List Key} {Q : Value → Shared → Prop} (I : Inv X pins σ H s) (hD : H D = some (SetQO X.prog X.w D L)) (ht : ∀ e ∈ L, SqT X.K H e.1 (e.2.map kV)) (hx : SqT X.K H x (k.map kV))
    (fw : L.length + 1 < 64) (hu : X.A.units + 10 < cLine) (h : ∀ L' s', (k ∈ L.map (·.2) → L' = L) → (k ∉ L.map (·.2) → L'.Perm ((x, k) :: L)) → Inv X pins σ (upd H D (SetQO X.prog X.w D L')) s' → Q .none s') : wpAny (model X.prog X.w) X.A (call (.builtin "set.add") [.ref D, .ref x]) Q E s := by
  obtain ⟨es, ep, t, R⟩ := SetQ0.held (I.hok D _ hD).1 fun e m => inv_q I (ht e m)
  have ty : s.TypeIs (.ref D) "set" := by
    obtain ⟨o, e1, e2, _⟩ := R.ob
    exact ⟨o, e1, e2.1⟩
  refine wpAny_call_entry F.slot_set_add ty F.entry_set_add ?_ (F.args_set_add_2 _ _)
  unfold Builtin.«set.add» Builtin.Frozenset.oneOther
  simp only [List.isEmpty_nil, bind_assoc]
  unfold Builtin.Frozenset.addrOf
  refine wpAny_bind (wpAny_pure ?_)
  try dsimp only
  refine wpAny_bind (wpAny_pure ?_)
  try dsimp only
  refine wpAny_bind (setAdd1 (calm_mix X.prog X.w) R (inv_q I hx) (by show X.A.units + 1 < cLine; omega) fw fun b h' L' es' ep' t' sb R' c1 c2 => ?_)
  have I' : Inv X pins σ (upd H D (SetQO X.prog X.w D L')) { s with heap := h', toks := s.toks + (k.length + 1) } := by
    obtain ⟨o, e1, _⟩ := R'.ob
    exact I.write (e := D) (t' := s.toks + (k.length + 1)) (by rw [hD]; trivial) (.inl rfl) (fun b u hb hu => (sb.2 b hb).trans hu) ⟨o, e1⟩ (setQO_ok R'.q0)
  exact wpAny_pure ⟨_, rfl, h L' _ c1 c2 I'⟩
end
end
end SX
set_option Elab.async false
set_option linter.all false
set_option maxRecDepth 100000
set_option maxHeartbeats 2000000
namespace SX
open PySem PySem.Spec PyProof.Rows L2 PpSet
/-! {elt for target in iter if ..}, elt such a tuple -/
def AddS (K : PySem.W.Frag) (P : Program) (w : World) (D : Addr) (y : V) (H : Hp) (Nx : Hp → Prop) : Prop := ∃ (L : List (Addr × List Key)) (x : Addr) (k : List Key), y = .ref x ∧ H D = some (SetQO P w D L) ∧ (∀ e ∈ L, SqT K H e.1 (e.2.map kV)) ∧ SqT K H x (k.map kV) ∧ L.length + 1 < 64 ∧
  ∀ L', (k ∈ L.map (·.2) → L' = L) → (k ∉ L.map (·.2) → L'.Perm ((x, k) :: L)) → Nx (upd H D (SetQO P w D L'))
/-- one turn of such a comprehension -/
def TurnS (K : PySem.W.Frag) (P : Program) (w : World) (D : Addr) (g : TG) (tt : TT) (te : TE) (vs : List Nat) (σ : L2.St) (Nx : Hp → Prop) (x : V) (H : Hp) : Prop := g x (wipe σ vs) H fun σ2 H2 => wipe σ2 vs = wipe σ vs ∧ tt σ2 H2 fun b H3 =>
  if b = true then te σ2 H3 fun y H4 => AddS K P w D y H4 Nx else Nx H3
def tScQ (K : PySem.W.Frag) (P : Program) (w : World) (wi : TI) (g : TG) (tt : TT) (te : TE) (vs : List Nat) : TE := fun σ H Q => wi σ H fun J H1 => ∀ D, H1 D = none → ∃ W : Nat → Nat → Hp → Prop, (∃ m, W 0 m (upd H1 D (SetQO P w D []))) ∧
  ∀ i m H, W i m H → (J.stop i H ∧ Q (.ref D) H) ∨ (J.go i H ∧ ∃ Nx : Hp → Prop, (∀ H', Nx H' → ∃ m', m' < m ∧ W (i + 1) m' H') ∧ ∀ x H', J.yld i H x H' → TurnS K P w D g tt te vs σ Nx x H')
section
variable {X : Cx} {pins : List (Addr × Obj)} {s : Shared} {σ : L2.St} {H : Hp} {elt tg iter : Expr} {ifs : List Expr} {scope : Scope} {own : List (PySem.Str × Nat)} {pos pos' : Pos} {wi : TI} {g : TG} {tt : TT} {te : TE}
abbrev BlkG (X : Cx) (scope : Scope) (R : Cx → Prop) : Prop := ∀ (s : Shared) (H : Hp) (C : Addr) (cl : List (PySem.Str × Addr)) (fp : List Addr), R (X.blk s H scope (compEnvC scope cl C X.env) fp)
theorem scq_run {Q : VK} {use : Option (Value → Sem Unit)} {Qf : Value → Shared → Prop} (hc : X.calm = true) (hu : X.A.units + 10 < cLine) (hN : X.N.Nodup) (I : Inv X pins σ H s) (hi : PI X tg iter wi) (ok : BlkOk X.N X.env.scope scope own)
    (hg : BlkG X scope fun Y => PG Y tg g) (ht : BlkG X scope fun Y => PTs Y ifs tt) (he : BlkG X scope fun Y => PE Y elt te) (hs : ∀ x, foldedSetIterable iter X.env x = pure x) (h : tScQ X.K X.prog X.w wi g tt te (own.map (·.2)) σ H Q)
    (fin : ∀ D C s' m H', Inv X pins σ H' s' → Q (.ref D) H' → s'.heap.Ns C m → FpOk X pins H' C → compPost (model X.prog X.w) X.A X.xe use Qf (.ref D) C (.ok .next) s') :
    wpAny (model X.prog X.w) X.A (comprehension (.SetComp elt [⟨tg, iter, ifs, 0⟩] scope pos) scope X.env pos' (newSet (.type "set")) false (eval iter X.env) use) Qf X.xe s := by
  have around : ∀ y ∈ scope.names, y.2 = .free → ∃ c, X.env.cells.lookup y.1 = some c := fun y m e => (ok.free y m e).elim (fun k => I.ok.has _ (.inl k)) fun k => I.ok.has _ (.inr k)
  refine wpAny_comprehension_free (use := use) rfl hs (closure_ok around) ok.kind (fun y m e => by rw [ok.uniq y m, e]) (thn (hi.run pins s σ H _ I h) fun xv s1 hx => thn hx fun itv s2 h2 => ?_)
  obtain ⟨it, fp, tn, J, H2, rfl, I2, T, st2, f2, q⟩ := h2
  refine newSet_ok (newEnv_comp ?_)
  generalize hD : s2.heap.objs.size = D
  have freeD : H2 D = none := I2.hok.fresh (Nat.le_of_eq hD)
  obtain ⟨W, ⟨m0, w0⟩, turn⟩ := q D freeD
  generalize h3 : s2.heap.push (bare X.w) = hp3
  have keep3 : ∀ b o, s2.heap.get? b = some o → hp3.get? b = some o := fun b o e => by rw [← h3]; exact Heap.get?_push_of_some _ e
  have size3 : hp3.objs.size = s2.heap.objs.size + 1 := by rw [← h3]; exact Heap.size_push ..
  generalize hs3 : ({ s2 with heap := hp3 } : Shared) = s3
  have es3 : s3.heap = hp3 := by rw [← hs3]
  generalize hH3 : upd H2 D (SetQO X.prog X.w D []) = H3 at w0
  have I3 : Inv X pins σ H3 s3 := by
    rw [← hs3, ← hH3]
    refine I2.laid (t' := s2.toks) keep3 (Nat.le_of_eq hD) (setQO_ok ?_)
    refine (held_bare (q := mixKind X.prog X.w) (P := X.prog) (w := X.w) ?_).q0
    rw [← h3, ← hD]
    exact Heap.get?_push_size _ rfl
  have small : ∀ b ∈ fp, b < s2.heap.objs.size := fun b m => by
    obtain ⟨o, e, _⟩ := T.obj _ _ st2 b m
    exact Heap.lt_size e
  have f3 : ∀ b ∈ fp, FpOk X pins H3 b ∧ b < s3.heap.objs.size := fun b m => by
    have lt := small b m
    refine ⟨⟨?_, (f2 b m).2⟩, by rw [es3, size3]; exact Nat.lt_succ_of_lt lt⟩
    rw [← hH3, upd_ne (by rw [← hD]; exact Nat.ne_of_lt lt)]
    exact (f2 b m).1
  have st3 : tn 0 s3.heap := T.keep _ _ _ st2 fun b _ o e => by rw [es3]; exact keep3 b o e
  have I4 := block_start I3 ok hN f3
  have pg := hg s3 H3 s3.heap.objs.size (cellsFrom (s3.heap.objs.size + 1) scope.names (cloFrom X.env.cells scope.names [])) fp
  have pt := ht s3 H3 s3.heap.objs.size (cellsFrom (s3.heap.objs.size + 1) scope.names (cloFrom X.env.cells scope.names [])) fp
  have pe := he s3 H3 s3.heap.objs.size (cellsFrom (s3.heap.objs.size + 1) scope.names (cloFrom X.env.cells scope.names [])) fp
  show codeAny _ _ (.compStart (.SetComp elt [⟨tg, iter, ifs, 0⟩] scope pos) 0 (.ref it) (.ref D) (compEnvC scope (cellsFrom (s3.heap.objs.size + 1) scope.names (cloFrom X.env.cells scope.names [])) s3.heap.objs.size X.env)) (compPost (model X.prog X.w) X.A X.xe use Qf (.ref D) s3.heap.objs.size) { s3 with heap := pushCells (s3.heap.push { cls := .type "dict", data := .dict #[] }) scope.names }
  generalize hB : compEnvC scope (cellsFrom (s3.heap.objs.size + 1) scope.names (cloFrom X.env.cells scope.names [])) s3.heap.objs.size X.env = B at I4 pg pt pe ⊢
  have locB : B.locals = s3.heap.objs.size := by rw [← hB]; rfl
  generalize hs4 : ({ s3 with heap := pushCells (s3.heap.push { cls := .type "dict", data := .dict #[] }) scope.names } : Shared) = s4 at I4 ⊢
  have st4 : tn 0 s4.heap := T.keep _ _ _ st3 fun b _ o e => by rw [← hs4]; exact pushCells_keeps _ _ _ _ (Heap.get?_push_of_some _ e)
  let Y := X.blk s3 H3 scope B fp
  have fpY : ∀ {σ' : L2.St} {H' : Hp} {s' : Shared}, Inv Y [] σ' H' s' → (∀ b ∈ fp, H' b = none) → ∀ b ∈ fp, FpOk Y [] H' b := fun I' no b m =>
    ⟨no b m, (I'.ok.exf b m).1, I'.ok.exfs b m, .inl m, fun x c e => (I'.ok.exf b m).2 x c e, fun p z => absurd (show p ∈ ([] : List (Addr × Obj)) ++ [] from z) (by simp)⟩
  -- what holds between the turns
  let Mid : Nat → Shared → Prop := fun n s' => ∃ i H', Inv Y [] (wipe σ (own.map (·.2))) H' s' ∧ tn i s'.heap ∧ (∀ b ∈ fp, H' b = none) ∧ W i n H'
  have loop : codeAny (model X.prog X.w) X.A (.compLoop (.SetComp elt [⟨tg, iter, ifs, 0⟩] scope pos) 0 (.ref it) (.ref D) B) (compPost (model X.prog X.w) X.A X.xe use Qf (.ref D) s3.heap.objs.size) s4 := by
    refine compLoopS_any Mid ?_ m0 ⟨0, H3, I4, st4, fun b m => (f3 b m).1.1, w0⟩
    rintro n s5 ⟨i, H5, I5, st5, no5, w5⟩
    rcases turn i n H5 w5 with ⟨stop, qq⟩ | ⟨go, Nx, hNx, step⟩
    · refine thnF (T.done Y rfl rfl rfl hc i [] s5 _ H5 (fun _ _ => False) I5 (fpY I5 no5) st5 stop) fun r s6 ⟨hr, I6⟩ => ?_
      subst hr
      have I7 : Inv X pins σ H5 s6 := I3.call' (ch := fp) I6.os I6.base I6.hok I6.bare fun b m => ⟨(f3 b m).1.2.2.2.1, (f3 b m).1.2.1, (f3 b m).1.2.2.2.2.1, (f3 b m).1.2.2.2.2.2⟩
      have noC : H5 B.locals = none := I6.free
      obtain ⟨m, hm, _⟩ := I6.loc
      have hm : s6.heap.Ns B.locals m := hm
      rw [locB] at noC hm
      exact fin D s3.heap.objs.size s6 m H5 I7 qq hm (I3.fpOk (Nat.le_refl _) noC)
    · refine thnF (T.item Y rfl rfl rfl hc i [] s5 _ H5 (fun _ _ => False) I5 (fpY I5 no5) st5 go) fun r s6 ⟨u, hr, h6⟩ => ?_
      subst hr
      refine thnF h6 fun _ s7 ⟨x, H7, I7, r7, y7, st7, no7⟩ => ?_
      have I7' := I7.pinned (fpY I7 no7) (T.obj _ _ st7)
      refine thnF (pg.run _ s7 _ H7 x u _ I7' r7 (step x H7 y7)) fun _ s8 ⟨σ8, H8, I8, hw8, q8⟩ => ?_
      refine thnF (pt.run _ s8 σ8 H8 _ I8 q8) fun b s9 ⟨H9, I9, q9⟩ => ?_
      have over : ∀ {s' : Shared} {H' : Hp}, Inv Y ([] ++ pinsAt fp s7.heap) σ8 H' s' → Nx H' → ∃ m, m < n ∧ Mid m s' := fun {s' H'} I' nx => by
        obtain ⟨m', lt, w'⟩ := hNx H' nx
        have pinned : ∀ b ∈ fp, ∀ o, s7.heap.get? b = some o → s'.heap.get? b = some o ∧ H' b = none := fun b m o e => by
          have z := I'.pin (b, o) (List.mem_append_right _ (List.mem_append_right _ (mem_pinsAt m e)))
          exact ⟨z.1, z.2.1⟩
        refine ⟨m', lt, i + 1, H', (I'.unpinned (pins := [])).weak (by rw [← hw8, wipe_length]) (fun j v e => ?_), T.keep _ _ _ st7 fun b m o e => (pinned b m o e).1, fun b m => ?_, w'⟩
        · rw [← hw8] at e
          exact (wipe_some e).1
        · obtain ⟨o, e, _⟩ := T.obj _ _ st7 b m
          exact (pinned b m o e).2
      cases b with
      | false =>
        simp only [Bool.false_eq_true, if_false] at q9 ⊢
        exact over I9 q9
      | true =>
        simp only [if_true] at q9 ⊢
        refine thnF (pe.run _ s9 σ8 H9 _ I9 q9) fun z s10 ⟨yv, H10, I10, r10, L, xa, k, ey, hDL, tL, tx, fw, nx⟩ => ?_
        subst ey
        cases (show z = Value.ref xa from r10)
        exact add_q (X := Y) I10 hDL tL tx fw hu fun L' s11 c1 c2 I11 => over I11 (nx L' c1 c2)
  exact codeAny_compStart_set loop (T.self X.A 0 _ _ _ st4 loop)
theorem pe_scQ (hc : X.calm = true) (hu : X.A.units + 10 < cLine) (hN : X.N.Nodup) (hi : PI X tg iter wi) (ok : BlkOk X.N X.env.scope scope own) (hg : BlkG X scope fun Y => PG Y tg g) (ht : BlkG X scope fun Y => PTs Y ifs tt) (he : BlkG X scope fun Y => PE Y elt te)
    (hs : ∀ x, foldedSetIterable iter X.env x = pure x := by intro _; rfl) : PE X (.SetComp elt [⟨tg, iter, ifs, 0⟩] scope pos) (tScQ X.K X.prog X.w wi g tt te (own.map (·.2))) := by
  refine ⟨fun pins s σ H Q I h => ?_⟩
  rw [eval_SetComp]
  refine scq_run hc hu hN I hi ok hg ht he hs h fun D C s' m H' I' q hn f => ⟨m, hn, fun h'' sb => ?_⟩
  obtain ⟨f0, f1, f2, f3, f4, f5⟩ := f
  exact ⟨.ref D, H', I'.turned (t' := s'.toks) (fun b o hb e => (sb.2 b hb).trans e) f0 f1 f3 f4 f5, rfl, q⟩
end
end SX
set_option Elab.async false
set_option linter.all false
set_option maxRecDepth 100000
set_option maxHeartbeats 1000000
namespace FF
open PySem PySem.Spec PyProof.Rows L2 SX
open Evl (Ex sz_of sz_lt fresh_back)
/-! sets of tuples of whole numbers and texts, sorted at once -/
abbrev tK (k : List Key) : Dt := .tup (k.map keyD)
section
variable {K : PySem.W.Frag} {Pr : Program} {w : World} {E E' : XK} {Ψ : XPost} {F F' H H' : Hp} {O : Own} {Δ : Env_} {tas : TA} {k : Dt → Own → Prop}
theorem keys_v {vs : List V} : ∀ {ks : List Key}, DatL K F vs (ks.map keyD) → vs = ks.map kV := by
  intro ks h
  induction ks generalizing vs with
  | nil => cases h; rfl
  | cons x ks ih =>
    cases h with
    | cons a b => rw [keyD_kV a, ih b]; rfl
theorem keys_d : ∀ {ks : List Key}, DatL K F (ks.map kV) (ks.map keyD)
  | [] => .nil
  | _ :: _ => .cons dat_key keys_d
theorem datK_tup {v : V} {ks : List Key} (h : Dat K F v (tK ks)) : ∃ x, v = .ref x ∧ SqT K F x (ks.map kV) := by
  cases h with
  | tup s l => rw [keys_v l] at s; exact ⟨_, rfl, s⟩
theorem DatL.ofK : ∀ {ks : List (Addr × List Key)}, (∀ e ∈ ks, SqT K F e.1 (e.2.map kV)) → DatL K F (ks.map fun e => V.ref e.1) ((ks.map (·.2)).map tK)
  | [], _ => .nil
  | e :: ks, h => .cons (.tup (h e (List.mem_cons_self ..)) keys_d) (DatL.ofK fun d m => h d (List.mem_cons_of_mem _ m))
def RiseT (kss : List (List Key)) : Prop := kss.Pairwise fun x y => leT x y = true
/-- the new list that sorted(set) gives -/
theorem sorted_to {Q : VK} {z : Addr} {L : List (Addr × List Key)} {kss : List (List Key)} (b : OwnOk K F H O) (c : Ex F H) (hz : H z = some (SetQO Pr w z L)) (ht : ∀ e ∈ L, SqT K F e.1 (e.2.map kV)) (nd : (L.map (·.2)).Nodup) (hm : ∀ x, x ∈ L.map (·.2) ↔ x ∈ kss) (sm : Same kss)
    (q : ∀ (mss : List (List Key)) F' H' v, mss.Nodup → (∀ x, x ∈ mss ↔ x ∈ kss) → RiseT mss → Gw O F H O F' H' → OwnOk K F' H' O → Dat K F' v (.lst (mss.map tK)) → Q v H') : rSortQ K Pr w [.ref z] H Q := by
  refine ⟨z, L, rfl, hz, fun e m => Evl.ex_t c (ht e m), sm.sub fun x m => (hm x).mp m, fun L' p hp hpw hpn => ?_⟩
  have ht' : ∀ e ∈ L', SqT K F e.1 (e.2.map kV) := fun e m => ht e (hp.mem_iff.mp m)
  have g := Gw.new (O := O) (u := .lst (L'.map fun e => V.ref e.1)) c hpn
  have b' := b.new (u := .lst (L'.map fun e => V.ref e.1)) c hpn
  refine q (L'.map (·.2)) _ _ _ ((hp.map _).nodup_iff.mpr nd) (fun x => ((hp.map _).mem_iff).trans (hm x)) ?_ g b' (.lst upd_same (DatL.ofK fun e m => Evl.ex_t g.ext (ht' e m)))
  exact List.pairwise_map.mpr hpw
/-- sorted({elt for target in iter}) -/
theorem wv_sortScQ {wi : TI} {tg : TG} {te : TE} {vs : List Nat} (hi : Iv K E Ψ wi Δ O fun ds O1 => Pin (∃ (α : Type) (us : List α) (g : α → Dt) (js : List Nat) (T : α → Env_ → Env_) (f : α → List Key), ds = us.map g ∧ us.length < 64 ∧ (∀ u ∈ us, Gv K tg (g u) js (T u)) ∧ (∀ j ∈ js, j ∈ vs) ∧ Same (us.map f) ∧
      (∀ u ∈ us, Ev K E0 X0 te (T u (wipeD Δ vs)) O1 (ex (tK (f u)) O1)) ∧ ∀ mss : List (List Key), mss.Nodup → (∀ a, a ∈ mss ↔ a ∈ us.map f) → RiseT mss → k (.lst (mss.map tK)) O1)) :
    Ev K E Ψ (tCB (rSortQ K Pr w) (tCons (tScQ K Pr w wi tg tYes te vs) tNil)) Δ O k := fun σ F H a b c e Q qq =>
  hi σ F H a b c e _ fun J G F1 H1 ds O1 g1 b1 hG hw hΘ => fun Dn hD => by
    obtain ⟨α, us, g, js, T, f, rfl, hl, hg, hj, sm, he, hk⟩ := hΘ
    rw [List.length_map] at hw
    let Pv : Nat → Hp → Prop := fun i Hc => ∃ (Fc : Hp) (L : List (Addr × List Key)), Gw O1 F1 H1 (O1 ++ [(Dn, .raw (SetQO Pr w Dn L))]) Fc Hc ∧ OwnOk K Fc Hc (O1 ++ [(Dn, .raw (SetQO Pr w Dn L))]) ∧ (∀ d ∈ L, SqT K Fc d.1 (d.2.map kV)) ∧ (L.map (·.2)).Nodup ∧ (∀ x, x ∈ L.map (·.2) ↔ x ∈ (us.take i).map f) ∧ L.length ≤ i
    refine ⟨fun i m Hc => m = us.length - i ∧ i ≤ us.length ∧ Pv i Hc, ⟨us.length, by simp, Nat.zero_le _, ?_⟩, ?_⟩
    · have g2 := Gw.newOwn (O := O1) (o := .raw (SetQO Pr w Dn [])) (u := SetQO Pr w Dn []) g1.sub hD
      have b2 := b1.newOwn (o := .raw (SetQO Pr w Dn [])) (u := SetQO Pr w Dn []) g1.sub hD upd_same
      exact ⟨F1, [], g2.permR (List.perm_append_comm (l₁ := [_])), b2.perm (List.perm_append_comm (l₁ := [_])), by simp, .nil, by simp, Nat.le_refl _⟩
    · rintro i m Hc ⟨rfl, hi, Fc, L, gg, bb, hL, nd, hm, hlen⟩
      have hGc := hG Hc (gg.ext.trans gg.sub)
      by_cases hlt : i < us.length
      · refine .inr ⟨hw.goes i Hc hlt hGc, Pv (i + 1), fun H' p' => ⟨us.length - (i + 1), by omega, rfl, hlt, p'⟩, fun x Hc' y => ?_⟩
        have hu : us[i]? = some us[i] := by simp [hlt]
        have hmem : us[i] ∈ us := List.getElem_mem _
        have hd : (us.map g)[i]? = some (g us[i]) := by rw [List.getElem?_map, hu]; rfl
        obtain ⟨F3, g3, b3, k3⟩ := hw.yields i Hc x Hc' hlt hGc y Fc _ _ hd gg.ext gg.sub bb
        have env : EnvOk K F3 (L2.wipe σ vs) (wipeD Δ vs) := (a.mono (g1.ext.trans (gg.ext.trans g3.ext))).wipe vs
        refine hg us[i] hmem x (L2.wipe σ vs) Hc' F3 _ _ g3.sub k3 env fun σ2 l1 m1 env' => ⟨?_, ?_⟩
        · rw [← wipe_wipe σ vs]
          exact wipe_eq l1 fun j' hj' => m1 j' fun z => hj' (hj j' z)
        refine et_frame (et_yes (K := K) (E := E0) (Ψ := X0) (Δ := T us[i] (wipeD Δ vs)) (O := O1)) (E' := E0) (Ψ := X0) σ2 F3 Hc' env' b3 g3.sub .zero _ fun bt F4 H4 O4 g4 b4 p4 => ?_
        obtain ⟨O5, rfl, rfl, rfl⟩ := p4
        refine iteT (ev_frame (he us[i] hmem) (E' := E0) (Ψ := X0) σ2 F4 H4 (env'.mono g4.ext) b4 g4.sub .zero _ fun v F5 H5 dk O6 g5 b5 k5 p5 => ?_)
        obtain ⟨O7, rfl, rfl, rfl⟩ := p5
        obtain ⟨xa, rfl, sx⟩ := datK_tup k5
        have mem : (Dn, Ow.raw (SetQO Pr w Dn L)) ∈ O7 ++ [(Dn, Ow.raw (SetQO Pr w Dn L))] := by simp
        have hx : H5 Dn = some (SetQO Pr w Dn L) := (b5.at_ _ _ mem).2
        have hi2 : (O7 ++ [(Dn, Ow.raw (SetQO Pr w Dn L))])[O7.length]? = some (Dn, Ow.raw (SetQO Pr w Dn L)) := by simp
        have ext5 : Ex Fc F5 := g3.ext.trans (g4.ext.trans g5.ext)
        have et : us.take (i + 1) = us.take i ++ [us[i]] := by rw [List.take_add_one, hu]; rfl
        refine ⟨L, xa, f us[i], rfl, hx, fun d m => Evl.ex_t g5.sub (Evl.ex_t ext5 (hL d m)), Evl.ex_t g5.sub sx, by omega, fun L' c1 c2 => ?_⟩
        obtain ⟨b7, hmt⟩ := b5.mut (u := SetQO Pr w Dn L') (o' := .raw (SetQO Pr w Dn L')) hi2 upd_same
        have hset : (O7 ++ [(Dn, Ow.raw (SetQO Pr w Dn L))]).set O7.length (Dn, Ow.raw (SetQO Pr w Dn L')) = O7 ++ [(Dn, Ow.raw (SetQO Pr w Dn L'))] := by simp
        rw [hset] at b7 hmt
        have g7 := Gw.mut (u := SetQO Pr w Dn L') b5 g5.sub (mem_addr mem) hmt
        have gall := ((((gg.trans g3).trans g4).trans g5).trans g7)
        by_cases hin : f us[i] ∈ L.map (·.2)
        · have e1 := c1 hin
          subst e1
          refine ⟨F5, L', gall, b7, fun d m => Evl.ex_t ext5 (hL d m), nd, fun y => ?_, Nat.le_succ_of_le hlen⟩
          rw [et, List.map_append, List.mem_append, ← hm y]
          constructor
          · exact .inl
          · rintro (z | z)
            · exact z
            · rw [List.map_cons, List.map_nil, List.mem_singleton] at z; rw [z]; exact hin
        · have pm := c2 hin
          refine ⟨F5, L', gall, b7, fun d m => ?_, ?_, fun y => ?_, by rw [pm.length_eq]; exact Nat.succ_le_succ hlen⟩
          · rcases List.mem_cons.mp (pm.mem_iff.mp m) with z | z
            · rw [z]; exact sx
            · exact Evl.ex_t ext5 (hL d z)
          · exact (pm.map (·.2)).nodup_iff.mpr (List.nodup_cons.mpr ⟨hin, nd⟩)
          · rw [(pm.map (·.2)).mem_iff, List.map_cons, List.mem_cons, et, List.map_append, List.mem_append, ← hm y, List.map_cons, List.map_nil, List.mem_singleton, or_comm]
      · have ei : i = us.length := by omega
        subst ei
        rw [List.take_length] at hm
        have mem : (Dn, Ow.raw (SetQO Pr w Dn L)) ∈ O1 ++ [(Dn, Ow.raw (SetQO Pr w Dn L))] := by simp
        have hz : Hc Dn = some (SetQO Pr w Dn L) := (bb.at_ _ _ mem).2
        have gf := gg.forget (List.sublist_append_left O1 [(Dn, Ow.raw (SetQO Pr w Dn L))])
        have bf := bb.forget (List.sublist_append_left O1 [(Dn, Ow.raw (SetQO Pr w Dn L))])
        refine .inl ⟨hw.stops Hc hGc, ?_⟩
        exact sorted_to (kss := us.map f) bf gf.sub hz hL nd hm sm fun mss F' H' v h1 h2 h3 g3 b3 k3 => qq v F' H' _ O1 ((g1.trans gf).trans g3) b3 k3 (hk mss h1 h2 h3)
end
end FF
set_option Elab.async false
set_option linter.all false
set_option maxRecDepth 100000
set_option maxHeartbeats 1000000
namespace FF
open PySem PySem.Spec PyProof.Rows L2
open Evl (Ex sz_of sz_lt fresh_back)
theorem hu10 {k : Nat} {A : Around} (hr : Room k A) : A.units + 10 < cLine := by have := hr.un; omega
/-! sorted(set(xs)), xs a list of whole numbers -/
def rSetIL (K : PySem.W.Frag) (w : World) : List V → Hp → VK → Prop := fun xs H Q => ∃ (p : Addr) (ns : List Int), xs = [.ref p] ∧ SqL K H p (ns.map V.int) ∧ ns.length ≤ 1000 ∧
  ∀ a c, H a = none → c ≤ ns.length → Q (.ref a) (upd H a (L2.SetO w a (fun j => decide (j ∈ ns)) c))
theorem call_setIL {X : Cx} (hc : X.calm = true) (hu : X.A.units + 64 < cLine) : CallR X (.type "set") (rSetIL X.K X.w) := by
  intro pins s σ H xs us Q I r h
  obtain ⟨a, ns, rfl, sq, hl, q⟩ := h
  obtain ⟨u, rfl, rx⟩ := vals1 r
  cases rx
  obtain ⟨its, rv, pl, _⟩ := I.list sq
  have hsc : ns.length + 1 < scanBound := by
    have : 2000 < scanBound := by decide
    omega
  refine SX.call_setIL ns (I.ok.hd hc) pl.isList (L2.ints_of_vals rv) hsc (by omega) fun h' tk c hs hcl hk => ?_
  exact ⟨.ref s.heap.objs.size, _, I.laid (o := L2.SetO X.w s.heap.objs.size (fun j => decide (j ∈ ns)) c) hk (Nat.le_refl _) (setO_new hs), rfl, q _ _ (I.hok.fresh (Nat.le_refl _)) hcl⟩
section
variable {K : PySem.W.Frag} {w : World} {E E' : XK} {Ψ : XPost} {F F' F1 F2 H H' H1 H2 : Hp} {O O' O1 O2 R : Own} {Δ : Env_} {te td tk tv : TE} {tas : TA} {k : Dt → Own → Prop} {x : Dt} {p : Addr} {ks : List (Key × Dt)}
theorem wv_sortsetL {ds : List Dt} {ns : List Int} (ha : EvA K E Ψ tas Δ O (fun xs O1 => ∃ x, xs = [x] ∧ LstOf O1 x ds ∧ O1 = O)) (he : ds = ns.map .int) (hl : ns.length < 64) (q : ∀ ms : List Int, ms.Pairwise (· < ·) → (∀ z, z ∈ ms ↔ z ∈ ns) → k (.lst (ms.map .int)) O) :
    Ev K E Ψ (tCB (L2.rSortedSet w) (tCons (tCB (rSetIL K w) tas) tNil)) Δ O k := fun σ F H a b c e Q qq =>
  ha σ F H a b c e _ fun vs F1 H1 xs O1 g1 b1 k1 p1 => by
    obtain ⟨x, rfl, hx, rfl⟩ := p1
    subst he
    cases k1 with
    | cons k1 l1 =>
      cases l1
      obtain ⟨l, zs, rfl, hz, lz⟩ := hx.read b1 g1.sub k1
      have hv := lz.ints_inv
      subst hv
      refine ⟨l, ns, rfl, .of hz, by omega, fun z cc hzn hcc => ?_⟩
      have g2 := Gw.junk (O := O1) (u := L2.SetO w z (fun j => decide (j ∈ ns)) cc) g1.sub hzn
      have b2 := b1.junk (u := L2.SetO w z (fun j => decide (j ∈ ns)) cc) hzn
      refine ⟨z, _, cc, rfl, upd_same, by omega, fun ms p h1 h2 _ hp => ?_⟩
      have g3 := Gw.new (O := O1) (u := .lst (ms.map V.int)) g2.sub hp
      have b3 := b2.new (u := .lst (ms.map V.int)) g2.sub hp
      exact qq _ _ _ (.lst (ms.map .int)) O1 ((g1.trans g2).trans g3) b3 (.lst upd_same .ints) (q ms h1 fun z => by rw [h2]; simp)
/-! xs.pop() -/
/-! {k: v for x in ..}: later ones win -/
/-! targets of three names -/
theorem for_U3 {nx : Env_ → Own → Prop} {rt : Dt → Own → Prop} {t : TS} {j l r : Nat} {α : Type} {us : List α} {a b d : α → Dt} (I : Nat → Env_ → Own → Prop) (h0 : I 0 Δ O) (hs : ∀ (i : Nat) (u : α) (Δ' : Env_) (O' : Own), us[i]? = some u → I i Δ' O' → Sv K E Ψ t (((Δ'.set j (some (a u))).set l (some (b u))).set r (some (d u))) O' ⟨I (i + 1), rt, nx, I (i + 1)⟩)
    (hd : ∀ Δ' O', I us.length Δ' O' → nx Δ' O') : ForOk K E Ψ (gTup K 3 (gCons (gName j) (gCons (gName l) (gCons (gName r) gNil)))) t Δ O (us.map fun u => .tup [a u, b u, d u]) nx rt := ⟨α, us, _, [j, l, r], fun u Δ => ((Δ.set j (some (a u))).set l (some (b u))).set r (some (d u)), I, rfl, fun u _ => gv_three, h0, hs, hd⟩
/-- a new list of new lists, wherever it stands, known from now on -/
theorem wv_frzRows (h : Ev K E Ψ te Δ O (fun d O' => ∃ q rs R, d = .ref q ∧ O' = (q, .lst (refsD rs)) :: (rowO rs ++ R) ∧ k (.lst (rs.map fun p => Dt.lst p.2)) R)) : Ev K E Ψ te Δ O k := fun σ F H a b c e Q qq =>
  h σ F H a b c e Q fun v F1 H1 d O1 g1 b1 k1 p1 => by
    obtain ⟨q, rs, R, rfl, rfl, hk⟩ := p1
    cases k1
    have pm : ((q, Ow.lst (refsD rs)) :: (rowO rs ++ R)).Perm (rowO rs ++ ((q, .lst (refsD rs)) :: R)) := List.perm_middle.symm
    obtain ⟨F2, g2, b2, h2⟩ := frz_rows (b1.perm pm) g1.sub
    obtain ⟨_, xs, hx, lx⟩ := b2.at_ q _ (List.mem_cons_self ..)
    have lx' := refs_rows h2 lx
    have b2' : OwnOk K F2 H1 ((q, .lst (rs.map fun p => Dt.lst p.2)) :: R) := ⟨b2.nd, fun p o m => by
      rcases List.mem_cons.mp m with z | m
      · cases z; exact ⟨(b2.at_ q _ (List.mem_cons_self ..)).1, xs, hx, lx'⟩
      · exact b2.at_ p o (List.mem_cons_of_mem _ m)⟩
    obtain ⟨g3, b3, k3⟩ := Gw.frz b2' g2.sub hx lx'
    have ga : Gw O F H ((q, .lst (rs.map fun p => Dt.lst p.2)) :: R) F2 H1 := by
      have g := g1.trans (((Gw.refl g1.sub).permR pm).trans g2)
      exact ⟨g.ext, g.sub, g.keep, g.dom, g.old, fun x m => g.addr x (by simpa using m)⟩
    exact qq _ _ H1 _ R (ga.trans g3) b3 k3 hk
/-- one row of an owned list of owned lists is changed -/
theorem rows_set {q p : Addr} {rs : List (Addr × List Dt)} {R : Own} {t : Nat} {row row' : List Dt} (h : rs[t]? = some (p, row)) : ((q, Ow.lst (refsD rs)) :: (rowO rs ++ R)).set (t + 1) (p, .lst row') = (q, .lst (refsD (rs.set t (p, row')))) :: (rowO (rs.set t (p, row')) ++ R) := by
  have hl : t < rs.length := (List.getElem?_eq_some_iff.mp h).1
  have e1 : refsD (rs.set t (p, row')) = refsD rs := by
    unfold refsD
    rw [List.map_set]
    apply List.ext_getElem?
    intro j
    by_cases hj : t = j
    · subst hj
      rw [List.getElem?_set_self (by simpa using hl), List.getElem?_map, h]
      rfl
    · rw [List.getElem?_set_ne hj]
  have e2 : rowO (rs.set t (p, row')) = (rowO rs).set t (p, .lst row') := by unfold rowO; rw [List.map_set]
  rw [e1, e2, List.set_cons_succ, List.set_append_left _ _ (by simpa using hl)]
theorem rows_at {q p : Addr} {rs : List (Addr × List Dt)} {R : Own} {t : Nat} {row : List Dt} (h : rs[t]? = some (p, row)) : ((q, Ow.lst (refsD rs)) :: (rowO rs ++ R))[t + 1]? = some (p, .lst row) ∧ (refsD rs)[t]? = some (.ref p) := by
  have hl : t < rs.length := (List.getElem?_eq_some_iff.mp h).1
  refine ⟨?_, by unfold refsD; rw [List.getElem?_map, h]; rfl⟩
  rw [List.getElem?_cons_succ, List.getElem?_append_left (by simpa using hl)]
  unfold rowO
  rw [List.getElem?_map, h]
  rfl
theorem kcnF {r : List V → Hp → VK → Prop} {xs : List Dt} {ds : List Dt} (h : CaD K E Ψ r xs O (nwl ds O)) (q : ∀ p, k (.ref p) ((p, .lst ds) :: O)) : CaD K E Ψ r xs O k := h.imp fun d O' ⟨p, e1, e2⟩ => by rw [e1, e2]; exact q p
/-! a new instance, told by a property -/
abbrev preIT {α : Type} (Cc : Addr) (A : α → List Dt) (C : α → Prop) (S : α → List (Str × Dt) → Prop) : Pre := fun ds O Φ Ψ => ∃ x a, ds = .ref x :: A a ∧ C a ∧ O = [(x, .ins Cc [])] ∧ Φ = (fun d O' => d = .non ∧ ∃ fs, S a fs ∧ O' = [(x, .ins Cc fs)]) ∧ Ψ = X0
theorem wv_makeT {α : Type} {Cc : Addr} {A : α → List Dt} {C : α → Prop} {S : α → List (Str × Dt) → Prop} {ts : TA} (h : EvA K E Ψ ts Δ O fun ds O1 => ∃ a, ds = A a ∧ C a ∧ ∀ fs, S a fs → k (.obj Cc fs) O1) : Ev K E Ψ (tMake Cc (mkSp K (preIT Cc A C S)) [] E' ts) Δ O k := fun σ F H a b c e Q q =>
  h σ F H a b c e _ fun vs F1 H1 ds O1 g1 b1 k1 p1 x dx hx hdx ne => by
    obtain ⟨a, rfl, hc, hk⟩ := p1
    rw [List.append_nil]
    have gd : Gw O1 F1 H1 O1 F1 (upd H1 dx (.own x)) := Gw.junk g1.sub hdx
    have bd : OwnOk K F1 (upd H1 dx (.own x)) O1 := b1.junk hdx
    have hx' : upd H1 dx (.own x) x = none := by rw [upd_ne (fun z => ne z.symm)]; exact hx
    have go := Gw.newOwn (O := O1) (o := .ins Cc []) (u := .ins Cc dx []) gd.sub hx'
    have bo := bd.newOwn (o := .ins Cc []) (u := .ins Cc dx []) gd.sub hx' ⟨dx, [], upd_same, .nil⟩
    have bo' : OwnOk K F1 (upd (upd H1 dx (.own x)) x (.ins Cc dx [])) ([(x, .ins Cc [])] ++ O1) := bo
    refine ⟨F1, .ref x :: A a, [(x, .ins Cc [])], (fun d O' => d = .non ∧ ∃ fs, S a fs ∧ O' = [(x, .ins Cc fs)]), X0, .cons (.ref x) k1, bo'.left, go.sub, ⟨x, a, rfl, hc, rfl, rfl, rfl⟩, .zero, fun v F2 H2 d2 O2 g2 b2 k2 p2 => ?_⟩
    obtain ⟨rfl, fs, hS, rfl⟩ := p2
    cases k2
    refine ⟨rfl, ?_⟩
    have g3 := g2.frame (R := O1)
    have b3 : OwnOk K F2 H2 ((x, .ins Cc fs) :: O1) := bo'.frame g2 b2
    obtain ⟨_, dx2, fvs, h2, l2⟩ := b3.at_ x _ (List.mem_cons_self ..)
    obtain ⟨g4, b4⟩ := Gw.frzG b3 g3.sub h2
    exact q _ _ _ _ O1 (g1.trans (((gd.trans go).trans g3).trans g4)) b4 (.obj upd_same (l2.mono g4.ext)) (hk fs hS)
/-- a field of an instance that is being made -/
theorem wv_fldO {C : Addr} {f : Str} (cl : Cls K C) (na : NoAttr K C f) (h : Ev K E Ψ te Δ O fun x O1 => ∃ p fs d, x = .ref p ∧ (p, Ow.ins C fs) ∈ O1 ∧ fs.lookup f = some d ∧ k d O1) : Ev K E Ψ (tFld K te f) Δ O k := fun σ F H a b c e Q q =>
  h σ F H a b c e _ fun v F1 H1 x O1 g1 b1 k1 p1 => by
    obtain ⟨p, fs, d, rfl, m, hf, hk⟩ := p1
    cases k1
    obtain ⟨_, dx, fvs, hx, l⟩ := b1.at_ p _ m
    obtain ⟨v', hv, kv⟩ := l.look hf
    exact ⟨_, C, dx, fvs, v', rfl, hx, cl, na, hv, q v' F1 H1 d O1 g1 b1 kv hk⟩
end
/-! y = {k: v for ..}: the new dict is stored as it is made -/
end FF
set_option Elab.async false
set_option linter.all false
/-! facts: least solutions over a program's edges (begun for k30) -/
namespace FF
open PySem
/-- a place's fact: none, or a value below n -/
abbrev Fact : Type := Option Nat
def FIn (n : Nat) (a : Fact) : Prop := ∀ u, a = some u → u < n
/-- none is below all; a value is below another where their join is the other -/
def ole (f : Nat → Nat → Nat) (a b : Fact) : Prop := a = none ∨ ∃ u v, a = some u ∧ b = some v ∧ f u v = v
/-- what comes of a fact and a brought value -/
def jto (f : Nat → Nat → Nat) (a : Fact) (v : Nat) : Nat := match a with | none => v | some u => f u v
section
variable {n : Nat} {f : Nat → Nat → Nat} {a b c : Fact}
theorem ole_refl (J : Jn n f) (h : FIn n a) : ole f a a := by
  cases a with
  | none => exact .inl rfl
  | some u => exact .inr ⟨u, u, rfl, rfl, J.idem u (h u rfl)⟩
theorem ole_trans (J : Jn n f) (ha : FIn n a) (hb : FIn n b) (hc : FIn n c) (h1 : ole f a b) (h2 : ole f b c) : ole f a c := by
  rcases h1 with rfl | ⟨u, v, rfl, rfl, h1⟩
  · exact .inl rfl
  · rcases h2 with h2 | ⟨v', t, e, rfl, h2⟩
    · cases h2
    · cases e
      have hu := ha u rfl
      have hv := hb v rfl
      have ht := hc t rfl
      exact .inr ⟨u, t, rfl, rfl, by rw [← h2, ← J.assoc u v t hu hv ht, h1]⟩
theorem ole_anti (J : Jn n f) (ha : FIn n a) (hb : FIn n b) (h1 : ole f a b) (h2 : ole f b a) : a = b := by
  rcases h1 with rfl | ⟨u, v, rfl, rfl, h1⟩
  · rcases h2 with rfl | ⟨u, v, rfl, h, h2⟩
    · rfl
    · cases h
  · rcases h2 with h | ⟨v', u', e, e', h2⟩
    · cases h
    · cases e; cases e'
      rw [J.comm v u (hb v rfl) (ha u rfl), h1] at h2
      rw [h2]
theorem jto_lt (J : Jn n f) (ha : FIn n a) {v : Nat} (hv : v < n) : jto f a v < n := by
  cases a with
  | none => exact hv
  | some u => exact J.lt u v (ha u rfl) hv
theorem ole_jto (J : Jn n f) (ha : FIn n a) {v : Nat} (hv : v < n) : ole f a (some (jto f a v)) := by
  cases a with
  | none => exact .inl rfl
  | some u =>
    have hu := ha u rfl
    exact .inr ⟨u, f u v, rfl, rfl, by rw [← J.assoc u u v hu hu hv, J.idem u hu]⟩
theorem jto_up (J : Jn n f) (ha : FIn n a) {v : Nat} (hv : v < n) : ole f (some v) (some (jto f a v)) := by
  cases a with
  | none => exact .inr ⟨v, v, rfl, rfl, J.idem v hv⟩
  | some u =>
    have hu := ha u rfl
    exact .inr ⟨v, f u v, rfl, rfl, by rw [J.comm u v hu hv, ← J.assoc v v u hv hv hu, J.idem v hv]⟩
theorem jto_le (J : Jn n f) (ha : FIn n a) (hc : FIn n c) {v : Nat} (hv : v < n) (h1 : ole f a c) (h2 : ole f (some v) c) : ole f (some (jto f a v)) c := by
  rcases h2 with h2 | ⟨v', t, e, rfl, h2⟩
  · cases h2
  · cases e
    rcases h1 with rfl | ⟨u, t', rfl, e, h1⟩
    · exact .inr ⟨v, t, rfl, rfl, h2⟩
    · cases e
      have hu := ha u rfl
      have ht := hc t rfl
      exact .inr ⟨f u v, t, rfl, rfl, by rw [J.assoc u v t hu hv ht, h2, h1]⟩
end
/-- a solution: begin's value at the begin places, and what each edge brings -/
structure Sol (n : Nat) (f : Nat → Nat → Nat) (mp : Str → Nat → Nat) (b0 : Nat) (bs : List Nat) (es : List (Nat × Str × Nat)) (X : Nat → Fact) : Prop where
  lt : ∀ p, FIn n (X p)
  beg : ∀ p ∈ bs, ole f (some b0) (X p)
  edge : ∀ e ∈ es, ∀ u, X e.1 = some u → ole f (some (mp e.2.1 u)) (X e.2.2)
/-- below every solution -/
def Low (n : Nat) (f : Nat → Nat → Nat) (mp : Str → Nat → Nat) (b0 : Nat) (bs : List Nat) (es : List (Nat × Str × Nat)) (X : Nat → Fact) : Prop := ∀ Y, Sol n f mp b0 bs es Y → ∀ p, ole f (X p) (Y p)
section
variable {n : Nat} {f : Nat → Nat → Nat} {mp : Str → Nat → Nat} {b0 : Nat} {bs : List Nat} {es : List (Nat × Str × Nat)} {X Y : Nat → Fact}
theorem sol_uniq (J : Jn n f) (h1 : Sol n f mp b0 bs es X) (l1 : Low n f mp b0 bs es X) (h2 : Sol n f mp b0 bs es Y) (l2 : Low n f mp b0 bs es Y) (p : Nat) : X p = Y p :=
  ole_anti J (h1.lt p) (h2.lt p) (l1 Y h2 p) (l2 X h1 p)
/-- a step along an edge stays below the solutions, where the maps rise -/
theorem low_step (J : Jn n f) (hm : ∀ s u, u < n → mp s u < n) (hr : ∀ s u v, u < n → v < n → f u v = v → f (mp s u) (mp s v) = mp s v) (hX : ∀ p, FIn n (X p)) (l : Low n f mp b0 bs es X) {e : Nat × Str × Nat} (he : e ∈ es) {u : Nat} (hu : X e.1 = some u) :
    Low n f mp b0 bs es (fun p => if p = e.2.2 then some (jto f (X e.2.2) (mp e.2.1 u)) else X p) := fun Y S p => by
  by_cases hp : p = e.2.2
  · subst hp
    dsimp only
    rw [if_pos rfl]
    have hun := hX e.1 u hu
    refine jto_le J (hX _) (S.lt _) (hm _ _ hun) (l Y S _) ?_
    rcases l Y S e.1 with z | ⟨u', v, e1, e2, e3⟩
    · rw [hu] at z; cases z
    · rw [hu] at e1; cases e1
      have hv := S.lt e.1 v e2
      have h1 := hr e.2.1 u v hun hv e3
      have h2 := S.edge e he v e2
      refine ole_trans J (b := some (mp e.2.1 v)) (fun _ z => by cases z; exact hm _ _ hun) (fun _ z => by cases z; exact hm _ _ hv) (S.lt _) (.inr ⟨_, _, rfl, rfl, h1⟩) h2
  · dsimp only
    rw [if_neg hp]
    exact l Y S p
end
/-! how often facts can change -/
section
variable {n : Nat} {f : Nat → Nat → Nat} {a b : Fact} {N : Nat} {X Y : Nat → Fact}
def lev (n : Nat) (f : Nat → Nat → Nat) : Fact → Nat
  | none => 0
  | some u => ((List.range n).filter fun w => decide (f w u = u)).length
theorem lev_le : lev n f a ≤ n := by
  cases a with
  | none => exact Nat.zero_le _
  | some u => exact Nat.le_trans (List.length_filter_le ..) (by simp)
theorem flt_le {α : Type} (us : List α) (p q : α → Bool) (h : ∀ u ∈ us, p u = true → q u = true) : (us.filter p).length ≤ (us.filter q).length := by
  induction us with
  | nil => simp
  | cons u us ih =>
    have ih := ih fun v m => h v (List.mem_cons_of_mem _ m)
    have h0 := h u (List.mem_cons_self ..)
    rw [List.filter_cons, List.filter_cons]
    cases hp : p u <;> cases hq : q u <;> simp_all <;> omega
theorem flt_lt {α : Type} (us : List α) (p q : α → Bool) (h : ∀ u ∈ us, p u = true → q u = true) {v : α} (hv : v ∈ us) (hq : q v = true) (hp : p v = false) : (us.filter p).length < (us.filter q).length := by
  induction us with
  | nil => cases hv
  | cons u us ih =>
    rw [List.filter_cons, List.filter_cons]
    rcases List.mem_cons.mp hv with rfl | m
    · have := flt_le us p q fun w m => h w (List.mem_cons_of_mem _ m)
      rw [hp, hq]
      simp
      omega
    · have ih := ih (fun w m => h w (List.mem_cons_of_mem _ m)) m
      have h0 := h u (List.mem_cons_self ..)
      cases hp' : p u <;> cases hq' : q u <;> simp_all <;> omega
theorem lev_up (J : Jn n f) (ha : FIn n a) (hb : FIn n b) (h : ole f a b) : lev n f a ≤ lev n f b := by
  rcases h with rfl | ⟨u, v, rfl, rfl, h⟩
  · exact Nat.zero_le _
  · refine flt_le _ _ _ fun w m hw => ?_
    have hw := of_decide_eq_true hw
    have hwn := List.mem_range.mp m
    refine decide_eq_true ?_
    rw [← h, ← J.assoc w u v hwn (ha u rfl) (hb v rfl), hw]
theorem lev_lt (J : Jn n f) (ha : FIn n a) (hb : FIn n b) (h : ole f a b) (ne : a ≠ b) : lev n f a < lev n f b := by
  rcases h with rfl | ⟨u, v, rfl, rfl, h⟩
  · cases b with
    | none => exact absurd rfl ne
    | some v =>
      have hv := hb v rfl
      have m : v ∈ (List.range n).filter fun w => decide (f w v = v) := List.mem_filter.mpr ⟨List.mem_range.mpr hv, decide_eq_true (J.idem v hv)⟩
      exact List.length_pos_of_mem m
  · have hu := ha u rfl
    have hv := hb v rfl
    refine flt_lt _ _ _ (fun w m hw => ?_) (List.mem_range.mpr hv) (decide_eq_true (J.idem v hv)) (decide_eq_false fun z => ne ?_)
    · have hw := of_decide_eq_true hw
      have hwn := List.mem_range.mp m
      refine decide_eq_true ?_
      rw [← h, ← J.assoc w u v hwn hu hv, hw]
    · rw [J.comm v u hv hu, h] at z
      rw [z]
/-- the sum of the levels of N places -/
def pot (n : Nat) (f : Nat → Nat → Nat) (X : Nat → Fact) : Nat → Nat
  | 0 => 0
  | N + 1 => pot n f X N + lev n f (X N)
theorem pot_le : pot n f X N ≤ N * n := by
  induction N with
  | zero => simp [pot]
  | succ N ih =>
    have := lev_le (n := n) (f := f) (a := X N)
    rw [pot, Nat.succ_mul]
    omega
theorem pot_up (J : Jn n f) (hX : ∀ p, FIn n (X p)) (hY : ∀ p, FIn n (Y p)) (h : ∀ p, p < N → ole f (X p) (Y p)) : pot n f X N ≤ pot n f Y N := by
  induction N with
  | zero => exact Nat.le_refl _
  | succ N ih =>
    have := ih fun p hp => h p (by omega)
    have := lev_up J (hX N) (hY N) (h N (by omega))
    rw [pot, pot]
    omega
theorem pot_lt (J : Jn n f) (hX : ∀ p, FIn n (X p)) (hY : ∀ p, FIn n (Y p)) (h : ∀ p, p < N → ole f (X p) (Y p)) {q : Nat} (hq : q < N) (ne : X q ≠ Y q) : pot n f X N < pot n f Y N := by
  induction N with
  | zero => omega
  | succ N ih =>
    rw [pot, pot]
    rcases Nat.lt_or_ge q N with z | z
    · have := ih (fun p hp => h p (by omega)) z
      have := lev_up J (hX N) (hY N) (h N (by omega))
      omega
    · obtain rfl : q = N := by omega
      have := pot_up (N := q) J hX hY fun p hp => h p (by omega)
      have := lev_lt J (hX q) (hY q) (h q (by omega)) ne
      omega
end
/-! finding facts step by step -/
structure Ax (n : Nat) (f : Nat → Nat → Nat) (mp : Str → Nat → Nat) : Prop where
  J : Jn n f
  lt : ∀ s u, u < n → mp s u < n
  rise : ∀ s u v, u < n → v < n → f u v = v → f (mp s u) (mp s v) = mp s v
def Stl (f : Nat → Nat → Nat) (mp : Str → Nat → Nat) (X : Nat → Fact) (e : Nat × Str × Nat) : Prop := ∀ u, X e.1 = some u → ole f (some (mp e.2.1 u)) (X e.2.2)
def setF (X : Nat → Fact) (t v : Nat) : Nat → Fact := fun p => if p = t then some v else X p
theorem setF_self {X : Nat → Fact} {t v : Nat} : setF X t v t = some v := if_pos rfl
theorem setF_ne {X : Nat → Fact} {t v p : Nat} (h : p ≠ t) : setF X t v p = X p := if_neg h
/-- what holds of facts that are being found -/
structure Fd (n : Nat) (f : Nat → Nat → Nat) (mp : Str → Nat → Nat) (b0 : Nat) (bs : List Nat) (es : List (Nat × Str × Nat)) (X : Nat → Fact) : Prop where
  bg : b0 < n
  lt : ∀ p, FIn n (X p)
  low : Low n f mp b0 bs es X
  beg : ∀ p ∈ bs, ole f (some b0) (X p)
section
variable {n N : Nat} {f : Nat → Nat → Nat} {mp : Str → Nat → Nat} {b0 : Nat} {bs : List Nat} {es : List (Nat × Str × Nat)} {X X0 Y : Nat → Fact} {e d : Nat × Str × Nat} {u k j : Nat}
theorem fin_some {v : Nat} (h : v < n) : FIn n (some v) := fun w e => by cases e; exact h
def begF (b0 : Nat) (bs : List Nat) : Nat → Fact := fun p => if p ∈ bs then some b0 else none
theorem fd_start (J : Jn n f) (hb : b0 < n) : Fd n f mp b0 bs es (begF b0 bs) := by
  refine ⟨hb, fun p v h => ?_, fun Y S p => ?_, fun p m => ?_⟩
  · unfold begF at h
    split at h
    · cases h; exact hb
    · cases h
  · unfold begF
    split
    · exact S.beg p (by assumption)
    · exact .inl rfl
  · unfold begF
    rw [if_pos m]
    exact .inr ⟨b0, b0, rfl, rfl, J.idem b0 hb⟩
theorem Fd.sol (h : Fd n f mp b0 bs es X) (hs : ∀ e ∈ es, Stl f mp X e) : Sol n f mp b0 bs es X := ⟨h.lt, h.beg, hs⟩
theorem fd_uniq (J : Jn n f) (h : Fd n f mp b0 bs es X) (hs : ∀ e ∈ es, Stl f mp X e) (h2 : Fd n f mp b0 bs es Y) (hs2 : ∀ e ∈ es, Stl f mp Y e) : X = Y := funext fun p => sol_uniq J (h.sol hs) h.low (h2.sol hs2) h2.low p
abbrev stp (f : Nat → Nat → Nat) (mp : Str → Nat → Nat) (X : Nat → Fact) (e : Nat × Str × Nat) (u : Nat) : Nat := jto f (X e.2.2) (mp e.2.1 u)
theorem stp_lt (A : Ax n f mp) (h : Fd n f mp b0 bs es X) (hu : X e.1 = some u) : stp f mp X e u < n := jto_lt A.J (h.lt _) (A.lt _ _ (h.lt _ u hu))
theorem stp_up (A : Ax n f mp) (h : Fd n f mp b0 bs es X) (hu : X e.1 = some u) (p : Nat) : ole f (X p) (setF X e.2.2 (stp f mp X e u) p) := by
  by_cases hp : p = e.2.2
  · rw [hp, setF_self]
    exact ole_jto A.J (h.lt _) (A.lt _ _ (h.lt _ u hu))
  · rw [setF_ne hp]
    exact ole_refl A.J (h.lt _)
theorem stp_fin (A : Ax n f mp) (h : Fd n f mp b0 bs es X) (hu : X e.1 = some u) (p : Nat) : FIn n (setF X e.2.2 (stp f mp X e u) p) := by
  by_cases hp : p = e.2.2
  · rw [hp, setF_self]
    exact fin_some (stp_lt A h hu)
  · rw [setF_ne hp]
    exact h.lt p
theorem stp_fd (A : Ax n f mp) (h : Fd n f mp b0 bs es X) (he : e ∈ es) (hu : X e.1 = some u) : Fd n f mp b0 bs es (setF X e.2.2 (stp f mp X e u)) :=
  ⟨h.bg, stp_fin A h hu, low_step A.J A.lt A.rise h.lt h.low he hu, fun p m => ole_trans A.J (fin_some h.bg) (h.lt p) (stp_fin A h hu p) (h.beg p m) (stp_up A h hu p)⟩
/-- another edge that does not begin where the step ends stays settled -/
theorem stp_keep (A : Ax n f mp) (h : Fd n f mp b0 bs es X) (hu : X e.1 = some u) (hd : Stl f mp X d) (ne : d.1 ≠ e.2.2) : Stl f mp (setF X e.2.2 (stp f mp X e u)) d := fun v hv => by
  rw [setF_ne ne] at hv
  exact ole_trans A.J (fin_some (A.lt _ _ (h.lt _ v hv))) (h.lt _) (stp_fin A h hu _) (hd v hv) (stp_up A h hu _)
theorem stp_own (A : Ax n f mp) (h : Fd n f mp b0 bs es X) (hu : X e.1 = some u) (ne : e.1 ≠ e.2.2) : Stl f mp (setF X e.2.2 (stp f mp X e u)) e := fun v hv => by
  rw [setF_ne ne] at hv
  rw [hu] at hv
  cases hv
  rw [setF_self]
  exact jto_up A.J (h.lt _) (A.lt _ _ (h.lt _ u hu))
theorem stl_same (A : Ax n f mp) (h : Fd n f mp b0 bs es X) (hu : X e.1 = some u) (hx : X e.2.2 = some (stp f mp X e u)) : Stl f mp X e := fun v hv => by
  rw [hu] at hv
  cases hv
  rw [hx]
  exact jto_up A.J (h.lt _) (A.lt _ _ (h.lt _ u hu))
theorem stp_pot (A : Ax n f mp) (h : Fd n f mp b0 bs es X) (hu : X e.1 = some u) (hN : e.2.2 < N) (hx : X e.2.2 ≠ some (stp f mp X e u)) : pot n f X N < pot n f (setF X e.2.2 (stp f mp X e u)) N :=
  pot_lt A.J h.lt (stp_fin A h hu) (fun p _ => stp_up A h hu p) hN (by rw [setF_self]; exact hx)
/-! by rounds over all edges -/
theorem take_snoc {α : Type} {us : List α} {j : Nat} {u : α} (h : us[j]? = some u) : us.take (j + 1) = us.take j ++ [u] := by rw [List.take_add_one, h]; rfl
/-! by what has changed -/
/-- places that wait: all other edges are settled -/
structure Wai (n N : Nat) (f : Nat → Nat → Nat) (mp : Str → Nat → Nat) (b0 : Nat) (bs : List Nat) (es : List (Nat × Str × Nat)) (ws : List Nat) (X : Nat → Fact) : Prop where
  fd : Fd n f mp b0 bs es X
  nd : ws.Nodup
  lt : ∀ p ∈ ws, p < N
  has : ∀ p ∈ ws, X p ≠ none
  st : ∀ e ∈ es, e.1 ∈ ws ∨ Stl f mp X e
/-- within a round: ws waited, i of them are done, of the next one's edges os those in rest are not looked at yet; cs have changed -/
structure Wro (n N : Nat) (f : Nat → Nat → Nat) (mp : Str → Nat → Nat) (b0 : Nat) (bs : List Nat) (es : List (Nat × Str × Nat)) (X0 : Nat → Fact) (ws : List Nat) (rest : List (Nat × Str × Nat)) (cs : List Nat) (X : Nat → Fact) : Prop where
  fd : Fd n f mp b0 bs es X
  nd : cs.Nodup
  lt : ∀ p ∈ cs, p < N
  has : ∀ p, p ∈ cs ∨ p ∈ ws → X p ≠ none
  pt : pot n f X0 N ≤ pot n f X N
  up : cs ≠ [] → pot n f X0 N < pot n f X N
  st : ∀ e ∈ es, e.1 ∈ cs ∨ e.1 ∈ ws ∨ e ∈ rest ∨ Stl f mp X e
theorem wro_start (W : Wai n N f mp b0 bs es ws X) : Wro n N f mp b0 bs es X ws [] [] X :=
  ⟨W.fd, .nil, fun p m => (nomatch m), fun p m => m.elim (fun m => (nomatch m)) (W.has p), Nat.le_refl _, fun h => absurd rfl h, fun e m => .inr ((W.st e m).imp id .inr)⟩
theorem wro_end {ws cs : List Nat} (R : Wro n N f mp b0 bs es X0 [] [] cs X) : Wai n N f mp b0 bs es cs X :=
  ⟨R.fd, R.nd, R.lt, fun p m => R.has p (.inl m), fun e m => by
    rcases R.st e m with h | h | h | h
    · exact .inl h
    · cases h
    · cases h
    · exact .inr h⟩
/-- the next waiting place is taken up -/
theorem wro_take {ws cs : List Nat} {p : Nat} (R : Wro n N f mp b0 bs es X0 (p :: ws) [] cs X) : Wro n N f mp b0 bs es X0 ws (es.filter fun e => decide (e.1 = p)) cs X :=
  ⟨R.fd, R.nd, R.lt, fun q m => R.has q (m.imp id (List.mem_cons_of_mem _)), R.pt, R.up, fun e m => by
    rcases R.st e m with h | h | h | h
    · exact .inl h
    · rcases List.mem_cons.mp h with h | h
      · exact .inr (.inr (.inl (List.mem_filter.mpr ⟨m, decide_eq_true h⟩)))
      · exact .inr (.inl h)
    · cases h
    · exact .inr (.inr (.inr h))⟩
theorem wro_same (A : Ax n f mp) {ws cs : List Nat} {rest : List (Nat × Str × Nat)} (R : Wro n N f mp b0 bs es X0 ws (e :: rest) cs X) (hu : X e.1 = some u) (hx : X e.2.2 = some (stp f mp X e u)) : Wro n N f mp b0 bs es X0 ws rest cs X :=
  ⟨R.fd, R.nd, R.lt, R.has, R.pt, R.up, fun d m => by
    rcases R.st d m with h | h | h | h
    · exact .inl h
    · exact .inr (.inl h)
    · rcases List.mem_cons.mp h with h | h
      · rw [h]; exact .inr (.inr (.inr (stl_same A R.fd hu hx)))
      · exact .inr (.inr (.inl h))
    · exact .inr (.inr (.inr h))⟩
def addN (cs : List Nat) (t : Nat) : List Nat := if t ∈ cs then cs else cs ++ [t]
theorem mem_addN {cs : List Nat} {t p : Nat} : p ∈ addN cs t ↔ p ∈ cs ∨ p = t := by
  unfold addN
  split
  · rename_i h
    exact ⟨.inl, fun z => z.elim id fun e => by rw [e]; exact h⟩
  · rw [List.mem_append, List.mem_singleton]
theorem wro_new (A : Ax n f mp) {ws cs : List Nat} {rest : List (Nat × Str × Nat)} (R : Wro n N f mp b0 bs es X0 ws (e :: rest) cs X) (he : e ∈ es) (hN : e.2.2 < N) (hu : X e.1 = some u) (hx : X e.2.2 ≠ some (stp f mp X e u)) :
    Wro n N f mp b0 bs es X0 ws rest (addN cs e.2.2) (setF X e.2.2 (stp f mp X e u)) ∧ pot n f X N < pot n f (setF X e.2.2 (stp f mp X e u)) N := by
  have hp := stp_pot A R.fd hu hN hx
  have hpt := R.pt
  refine ⟨⟨stp_fd A R.fd he hu, ?_, fun p m => ?_, fun p m => ?_, by omega, fun _ => by omega, fun d m => ?_⟩, hp⟩
  · unfold addN
    split
    · exact R.nd
    · rename_i h
      rw [List.nodup_append]
      exact ⟨R.nd, by simp, fun a ha b hb e => h (by rw [List.mem_singleton] at hb; rw [← hb, ← e]; exact ha)⟩
  · rcases mem_addN.mp m with h | h
    · exact R.lt p h
    · rw [h]; exact hN
  · by_cases hq : p = e.2.2
    · rw [hq, setF_self]; simp
    · rw [setF_ne hq]
      refine R.has p (m.imp (fun m => ?_) id)
      exact (mem_addN.mp m).resolve_right hq
  · by_cases hq : d.1 = e.2.2
    · exact .inl (mem_addN.mpr (.inr hq))
    · rcases R.st d m with h | h | h | h
      · exact .inl (mem_addN.mpr (.inl h))
      · exact .inr (.inl h)
      · rcases List.mem_cons.mp h with h | h
        · rw [h] at hq ⊢
          exact .inr (.inr (.inr (stp_own A R.fd hu hq)))
        · exact .inr (.inr (.inl h))
      · exact .inr (.inr (.inr (stp_keep A R.fd hu h hq)))
theorem wai_end {ws : List Nat} (W : Wai n N f mp b0 bs es [] X) : ∀ e ∈ es, Stl f mp X e := fun e m => (W.st e m).resolve_left fun h => nomatch h
end
/-! facts as data -/
section
def oD : Fact → Dt
  | none => .non
  | some v => .int (v : Int)
abbrev fcD (N : Nat) (X : Nat → Fact) : List Dt := (List.range N).map fun p => oD (X p)
theorem fc_get {N p : Nat} {X : Nat → Fact} (h : p < N) : (fcD N X)[p]? = some (oD (X p)) := by simp [fcD, h]
theorem fc_set {N t v : Nat} {X : Nat → Fact} : (fcD N X).set t (oD (some v)) = fcD N (setF X t v) := by
  apply List.ext_getElem?
  intro j
  by_cases hj : t = j
  · subst hj
    by_cases ht : t < N
    · rw [List.getElem?_set_self (by simpa using ht), fc_get ht, setF_self]
    · rw [List.getElem?_eq_none (by simp; omega), List.getElem?_eq_none (by simp; omega)]
  · rw [List.getElem?_set_ne hj]
    by_cases h : j < N
    · rw [fc_get h, fc_get h, setF_ne (fun z => hj z.symm)]
    · rw [List.getElem?_eq_none (by simp; omega), List.getElem?_eq_none (by simp; omega)]
end
end FF
set_option Elab.async false
set_option linter.all false
set_option maxRecDepth 100000
set_option maxHeartbeats 2000000
/-! sets of texts: {elt for target in iter}, sorted(it) -/
namespace SX
open PySem PySem.Spec PyProof.Rows L2 PpSet
def sKey (e : Int × Value) : Str := match e.2 with | .str s _ => s | _ => Str.empty
def SetS0 (P : Program) (w : World) (h : Heap) (a : Addr) (L : List Str) : Prop := ∃ (o : Obj) (es : Array (Int × Value)) (ep : Nat) (t : SetTable), h.get? a = some o ∧ o.ExactSet ∧ o.data = .set es ep t ∧ ElemsOf (strKind P w) es.toList ∧
  es.toList.map sKey = L ∧ L.Nodup ∧ es.size < scanBound ∧ t.fits es.size = true ∧ Ris t.place.toList ∧ (w.params.followText "set-order" = true ∨ t.led = true)
def SetSO (P : Program) (w : World) (a : Addr) (L : List Str) : HO := .ext fun h => SetS0 P w h a L
section
variable {P : Program} {w : World}
theorem setSO_ok {H : Hp} {h : Heap} {a : Addr} {L : List Str} (R : SetS0 P w h a L) : ObjOk P w H h a (SetSO P w a L) := by
  have ⟨o, es, ep, t, ho, _⟩ := R
  refine ⟨R, ⟨o, ho⟩, fun h1 h2 p k => ?_⟩
  obtain ⟨o, es, ep, t, ho, r⟩ := p
  exact ⟨o, es, ep, t, k o ho, r⟩
theorem sets_bare {h : Heap} {a : Addr} (ho : h.get? a = some (bare w)) : SetS0 P w h a [] := by
  refine ⟨_, _, _, _, ho, ⟨rfl, rfl, rfl⟩, rfl, fun e m => by simp at m, rfl, .nil, by decide, rfl, .nil, ?_⟩
  by_cases hp : w.params.followText "set-order" = true
  · exact .inl hp
  · exact .inr (by simp [SetTable.fresh, hp])
theorem el_key {e : Int × Value} (h : (∃ k, (strKind P w).is k e.2 = true ∧ e.1 = (strKind P w).hash k) ∧ e.2.scannable = true) : ∃ t, e.2 = .str (sKey e) t := by
  obtain ⟨⟨k, hk, _⟩, _⟩ := h
  have hk : Value.isStrOf k e.2 = true := hk
  cases hv : e.2 with
  | str s t => exact ⟨t, by unfold sKey; rw [hv]⟩
  | _ => rw [hv] at hk; simp [Value.isStrOf] at hk
theorem is_key {v : Value} {k s : Str} {t : Tok} (h : v = .str s t) : (strKind P w).is k v = true ↔ k = s := by
  show Value.isStrOf k v = true ↔ _
  subst h
  unfold Value.isStrOf
  simp
  exact eq_comm
variable {A : Around} {E : Value → Shared → Prop} {s : Shared} {a : Addr} {L : List Str} {k : Str} {tk : Tok}
theorem adds_tail {g : Bool → Sem Unit} (hg : ∀ (b : Bool) (s1 : Shared) (Q' : Unit → Shared → Prop), Q' () s1 → wpAny (model P w) A (g b) Q' E s1) {o : Obj} {es : Array (Int × Value)} {ep : Nat} {t : SetTable} (ho : s.heap.get? a = some o) (hx : o.ExactSet) (hd : o.data = .set es ep t)
    {es1 : Array (Int × Value)} {t2 : SetTable} (hel : ElemsOf (strKind P w) es1.toList) (nd : (es1.toList.map sKey).Nodup) (hsz : es1.size < scanBound) (hfit : t2.fits es1.size = true) (hris : Ris t2.place.toList) (hled : w.params.followText "set-order" = true ∨ t2.led = true) {wasDummy : Bool} {R : Option Bool → Shared → Prop}
    (hR : ∀ h' L', Heap.SameBut a s.heap h' → SetS0 P w h' a L' → L'.Perm (es1.toList.map sKey) → R (some true) { s with heap := h' }) :
    wpAny (model P w) A (do
      storeSet a es1 t2
      if (!wasDummy && t2.tooFull) = true then do
          g (relayAll t2 es1 (SetTable.grown es1.size)).2.2
          storeSet a (relayAll t2 es1 (SetTable.grown es1.size)).1 (relayAll t2 es1 (SetTable.grown es1.size)).2.1
          pure (some true)
        else pure (some true)) R E s := by
  have sb : Heap.SameBut a s.heap (s.heap.update a (Obj.putSet es1 t2)) := Heap.SameBut.update ..
  have ho1 := store_at (es' := es1) (t' := t2) ho hd
  have hx1 : ({ o with data := .set es1 (ep + 1) t2 } : Obj).ExactSet := ⟨hx.1, hx.2.1, hx.2.2⟩
  refine wpAny_bind (wpAny_storeSet_of ho hd ?_ (fits_of_scanBound hsz))
  by_cases full : (!wasDummy && t2.tooFull) = true
  · refine wp_if_pos full (wpAny_bind (hg _ _ _ ?_))
    have pm := relayAll_perm t2 es1 (SetTable.grown es1.size)
    have h2 := relayAll_fits t2 es1 (SetTable.grown es1.size)
    have h3 := relayAll_ris t2 es1 (SetTable.grown es1.size)
    have h4 := relayAll_led t2 es1 (SetTable.grown es1.size)
    generalize relayAll t2 es1 (SetTable.grown es1.size) = ra at pm h2 h3 h4 ⊢
    have sz2 : ra.1.size < scanBound := by
      have := pm.length_eq
      rw [Array.length_toList, Array.length_toList] at this
      omega
    have sb2 : Heap.SameBut a s.heap ((s.heap.update a (Obj.putSet es1 t2)).update a (Obj.putSet ra.1 ra.2.1)) := sb.trans (Heap.SameBut.update ..)
    have ho2 := store_at (es' := ra.1) (t' := ra.2.1) ho1 rfl
    refine wpAny_bind (wpAny_storeSet_of (s := { s with heap := s.heap.update a (Obj.putSet es1 t2) }) ho1 rfl ?_ (fits_of_scanBound sz2))
    refine wpAny_pure (hR _ (ra.1.toList.map sKey) sb2 ⟨_, ra.1, _, ra.2.1, ho2, ⟨hx.1, hx.2.1, hx.2.2⟩, rfl, fun e m => hel e (pm.mem_iff.mp m), rfl, (pm.map _).nodup_iff.mpr nd, sz2, h2, h3, by rw [h4]; exact hled⟩ (pm.map _))
  · refine wp_if_neg full (wpAny_pure (hR _ _ sb ⟨_, es1, _, t2, ho1, hx1, rfl, hel, rfl, nd, hsz, hfit, hris, hled⟩ (.refl _)))
theorem gway {g : Bool → Sem Unit} (hg : ∀ (b : Bool) (s1 : Shared) (Q' : Unit → Shared → Prop), Q' () s1 → wpAny (model P w) A (g b) Q' E s1) (b : Bool) {Q' : Unit → Shared → Prop} (h : Q' () s) : wpAny (model P w) A (g b) Q' E s := hg b s Q' h
theorem adds_hashed {Q : Bool → Shared → Prop} (R : SetS0 P w s.heap a L) (hn : L.length + 1 < scanBound)
    (hQ : ∀ b h' L', Heap.SameBut a s.heap h' → SetS0 P w h' a L' → (k ∈ L → L' = L) → (k ∉ L → L'.Perm (k :: L)) → Q b { s with heap := h' }) : wpAny (model P w) A (setAddHashed a (.str k tk) ((strKind P w).hash k)) Q E s := by
  obtain ⟨o, es, ep, t, ho, hx, hd, hel, rfl, nd, hsz, hfit, hris, hled⟩ := R
  rw [List.length_map, Array.length_toList] at hn
  unfold setAddHashed; refine wpAny_holding ?_
  rw [show (100000 : Nat) = 99999 + 1 from rfl, setAddHashedIn_succ]; refine wpAny_bind (wpAny_setState_of ho hd hfit ?_); dsimp only
  have hk : (strKind P w).is k (.str k tk) = true := strKind_is P w k tk
  refine wp_if_pos (byScan_of rfl hsz hel) ?_
  unfold setAddByScan
  refine wpAny_bind (wpAny_bind (wpAny_rule ?_))
  refine wpAny_bind (wpAny_setScan_of hk ho hd hfit hel ?_)
  have one : ∀ e ∈ es.toList, ((strKind P w).is k e.2 = true ↔ k = sKey e) := fun e m => by
    obtain ⟨t, ht⟩ := el_key (hel e m)
    exact is_key ht
  cases hf : List.findIdx? (fun e => (strKind P w).is k e.2) es.toList with
  | some j =>
    dsimp only
    have hin : k ∈ es.toList.map sKey := by
      obtain ⟨h1, h2, _⟩ := List.findIdx?_eq_some_iff_getElem.mp hf
      have hm : es.toList[j] ∈ es.toList := List.getElem_mem _
      exact List.mem_map.mpr ⟨_, hm, ((one _ hm).mp h2).symm⟩
    refine wpAny_pure ?_
    dsimp only
    exact wpAny_pure (hQ false s.heap _ (Heap.SameBut.refl a s.heap) ⟨o, es, ep, t, ho, hx, hd, hel, rfl, nd, hsz, hfit, hris, hled⟩ (fun _ => rfl) fun z => absurd hin z)
  | none =>
    dsimp only
    have hno : k ∉ es.toList.map sKey := fun m => by
      obtain ⟨e, me, he⟩ := List.mem_map.mp m
      have := List.findIdx?_eq_none_iff.mp hf e me
      rw [(one e me).mpr he.symm] at this
      cases this
    have pm := layNew_perm t es ((strKind P w).hash k) (.str k tk)
    have h2 := layNew_fits t es ((strKind P w).hash k) (.str k tk)
    have h3 := layNew_ris t es ((strKind P w).hash k) (.str k tk) hris
    have h4 := layNew_led t es ((strKind P w).hash k) (.str k tk)
    generalize layNew t es ((strKind P w).hash k) (.str k tk) = ln at pm h2 h3 h4 ⊢
    rw [Array.toList_push] at pm
    have pk : (ln.1.toList.map sKey).Perm (k :: es.toList.map sKey) := by
      have h := pm.map sKey
      rw [List.map_append] at h
      exact h.trans List.perm_append_comm
    have sz2 : ln.1.size < scanBound := by
      have := pm.length_eq
      simp only [Array.length_toList, List.length_append, List.length_singleton] at this
      omega
    have el2 : ElemsOf (strKind P w) ln.1.toList := fun e m => by
      rcases List.mem_append.mp (pm.mem_iff.mp m) with m | m
      · exact hel e m
      · rw [List.mem_singleton.mp m]
        exact ⟨⟨k, hk, rfl⟩, rfl⟩
    have nd2 : (ln.1.toList.map sKey).Nodup := pk.nodup_iff.mpr (List.nodup_cons.mpr ⟨hno, nd⟩)
    have fin : ∀ (g : Bool → Sem Unit) (t2 : SetTable), (∀ (b : Bool) (s1 : Shared) (Q' : Unit → Shared → Prop), Q' () s1 → wpAny (model P w) A (g b) Q' E s1) → t2.place = ln.2.1.place → t2.dummies = ln.2.1.dummies → t2.mask = ln.2.1.mask → t2.led = ln.2.1.led → wpAny (model P w) A (do
      storeSet a ln.1 t2
      if (!ln.2.2.1 && t2.tooFull) = true then do
          g (relayAll t2 ln.1 (SetTable.grown ln.1.size)).2.2
          storeSet a (relayAll t2 ln.1 (SetTable.grown ln.1.size)).1 (relayAll t2 ln.1 (SetTable.grown ln.1.size)).2.1
          pure (some true)
        else pure (some true)) (fun r s' => wpAny (model P w) A (match r with | some added => pure added | none => setAddHashedIn a (Value.str k tk) ((strKind P w).hash k) 99999) Q E s') E s := fun g t2 hg e1 e2 e3 e4 => by
      refine adds_tail hg ho hx hd el2 nd2 sz2 ?_ (by rw [e1]; exact h3) (by rw [e4, h4]; exact hled) fun h' L' sb R' pm' => ?_
      · have := h2
        unfold SetTable.fits SetTable.fill at this ⊢
        rw [e1, e2, e3]; exact this
      · exact wpAny_pure (hQ true h' L' sb R' (fun z => absurd z hno) fun _ => pm'.trans pk)
    refine wpAny_bind (gway (by
      intro b s1 Q' h
      cases b with
      | false => exact wpAny_pure h
      | true => exact wpAny_rule h) _ ?_)
    rw [hashByValue_scannable 8 (x := .str k tk) rfl]
    by_cases pl : ln.2.1.plain = true
    · refine wp_if_pos pl (wpAny_bind (wpAny_pure ?_))
      refine fin _ _ ?_ ?_ ?_ ?_ ?_
      · intro b s1 Q' h
        cases b with
        | false => exact wpAny_pure h
        | true => exact wpAny_rule h
      all_goals (split <;> rfl)
    · refine wp_if_neg pl (wpAny_bind (wpAny_pure ?_))
      refine fin _ _ ?_ rfl rfl rfl rfl
      intro b s1 Q' h
      cases b with
      | false => exact wpAny_pure h
      | true => exact wpAny_rule h
end
section
variable {X : Cx} {pins : List (Addr × Obj)} {σ : L2.St} {H : Hp} {s : Shared}
theorem add_s {E : Value → Shared → Prop} {D : Addr} {L : List Str} {k : Str} {tk : Tok} {Q : Value → Shared → Prop} (I : Inv X pins σ H s) (hD : H D = some (SetSO X.prog X.w D L))
    (fw : L.length + 1 < 64) (hu : X.A.units + 10 < cLine) (h : ∀ L' s', (k ∈ L → L' = L) → (k ∉ L → L'.Perm (k :: L)) → Inv X pins σ (upd H D (SetSO X.prog X.w D L')) s' → Q .none s') : wpAny (model X.prog X.w) X.A (call (.builtin "set.add") [.ref D, .str k tk]) Q E s := by
  have R : SetS0 X.prog X.w s.heap D L := (I.hok D _ hD).1
  have hb : L.length + 1 < scanBound := by
    have : 2000 < scanBound := by decide
    omega
  have ty : s.TypeIs (.ref D) "set" := by
    obtain ⟨o, es, ep, t, e1, e2, _⟩ := R
    exact ⟨o, e1, e2.1⟩
  refine wpAny_call_entry F.slot_set_add ty F.entry_set_add ?_ (F.args_set_add_2 _ _)
  unfold Builtin.«set.add» Builtin.Frozenset.oneOther
  simp only [List.isEmpty_nil, bind_assoc]
  unfold Builtin.Frozenset.addrOf
  refine wpAny_bind (wpAny_pure ?_)
  try dsimp only
  refine wpAny_bind (wpAny_pure ?_)
  try dsimp only
  refine wpAny_bind ?_
  unfold setAdd
  refine wpAny_holding (wpAny_bind ((strKind X.prog X.w).pyHash (strKind_is _ _ k tk) ?_))
  refine adds_hashed (s := { s with toks := s.toks + 1 }) R hb fun b h' L' sb R' c1 c2 => ?_
  have I' : Inv X pins σ (upd H D (SetSO X.prog X.w D L')) { s with heap := h', toks := s.toks + 1 } := by
    have ⟨o, es, ep, t, e1, _⟩ := R'
    exact I.write (e := D) (t' := s.toks + 1) (by rw [hD]; trivial) (.inl rfl) (fun b u hb hu => (sb.2 b hb).trans hu) ⟨o, e1⟩ (setSO_ok R')
  exact wpAny_pure ⟨_, rfl, h L' _ c1 c2 I'⟩
end
/-! {elt for target in iter} -/
def AddX (P : Program) (w : World) (D : Addr) (y : V) (H : Hp) (Nx : Hp → Prop) : Prop := ∃ (L : List Str) (k : Str), y = .str k ∧ H D = some (SetSO P w D L) ∧ L.length + 1 < 64 ∧
  ∀ L', (k ∈ L → L' = L) → (k ∉ L → L'.Perm (k :: L)) → Nx (upd H D (SetSO P w D L'))
/-- one turn of such a comprehension -/
def TurnX (K : PySem.W.Frag) (P : Program) (w : World) (D : Addr) (g : TG) (tt : TT) (te : TE) (vs : List Nat) (σ : L2.St) (Nx : Hp → Prop) (x : V) (H : Hp) : Prop := g x (wipe σ vs) H fun σ2 H2 => wipe σ2 vs = wipe σ vs ∧ tt σ2 H2 fun b H3 =>
  if b = true then te σ2 H3 fun y H4 => AddX P w D y H4 Nx else Nx H3
def tScX (K : PySem.W.Frag) (P : Program) (w : World) (wi : TI) (g : TG) (tt : TT) (te : TE) (vs : List Nat) : TE := fun σ H Q => wi σ H fun J H1 => ∀ D, H1 D = none → ∃ W : Nat → Nat → Hp → Prop, (∃ m, W 0 m (upd H1 D (SetSO P w D []))) ∧
  ∀ i m H, W i m H → (J.stop i H ∧ Q (.ref D) H) ∨ (J.go i H ∧ ∃ Nx : Hp → Prop, (∀ H', Nx H' → ∃ m', m' < m ∧ W (i + 1) m' H') ∧ ∀ x H', J.yld i H x H' → TurnX K P w D g tt te vs σ Nx x H')
section
variable {X : Cx} {pins : List (Addr × Obj)} {s : Shared} {σ : L2.St} {H : Hp} {elt tg iter : Expr} {ifs : List Expr} {scope : Scope} {own : List (PySem.Str × Nat)} {pos pos' : Pos} {wi : TI} {g : TG} {tt : TT} {te : TE}
theorem scx_run {Q : VK} {use : Option (Value → Sem Unit)} {Qf : Value → Shared → Prop} (hc : X.calm = true) (hu : X.A.units + 10 < cLine) (hN : X.N.Nodup) (I : Inv X pins σ H s) (hi : PI X tg iter wi) (ok : BlkOk X.N X.env.scope scope own)
    (hg : BlkG X scope fun Y => PG Y tg g) (ht : BlkG X scope fun Y => PTs Y ifs tt) (he : BlkG X scope fun Y => PE Y elt te) (hs : ∀ x, foldedSetIterable iter X.env x = pure x) (h : tScX X.K X.prog X.w wi g tt te (own.map (·.2)) σ H Q)
    (fin : ∀ D C s' m H', Inv X pins σ H' s' → Q (.ref D) H' → s'.heap.Ns C m → FpOk X pins H' C → compPost (model X.prog X.w) X.A X.xe use Qf (.ref D) C (.ok .next) s') :
    wpAny (model X.prog X.w) X.A (comprehension (.SetComp elt [⟨tg, iter, ifs, 0⟩] scope pos) scope X.env pos' (newSet (.type "set")) false (eval iter X.env) use) Qf X.xe s := by
  have around : ∀ y ∈ scope.names, y.2 = .free → ∃ c, X.env.cells.lookup y.1 = some c := fun y m e => (ok.free y m e).elim (fun k => I.ok.has _ (.inl k)) fun k => I.ok.has _ (.inr k)
  refine wpAny_comprehension_free (use := use) rfl hs (closure_ok around) ok.kind (fun y m e => by rw [ok.uniq y m, e]) (thn (hi.run pins s σ H _ I h) fun xv s1 hx => thn hx fun itv s2 h2 => ?_)
  obtain ⟨it, fp, tn, J, H2, rfl, I2, T, st2, f2, q⟩ := h2
  refine newSet_ok (newEnv_comp ?_)
  generalize hD : s2.heap.objs.size = D
  have freeD : H2 D = none := I2.hok.fresh (Nat.le_of_eq hD)
  obtain ⟨W, ⟨m0, w0⟩, turn⟩ := q D freeD
  generalize h3 : s2.heap.push (bare X.w) = hp3
  have keep3 : ∀ b o, s2.heap.get? b = some o → hp3.get? b = some o := fun b o e => by rw [← h3]; exact Heap.get?_push_of_some _ e
  have size3 : hp3.objs.size = s2.heap.objs.size + 1 := by rw [← h3]; exact Heap.size_push ..
  generalize hs3 : ({ s2 with heap := hp3 } : Shared) = s3
  have es3 : s3.heap = hp3 := by rw [← hs3]
  generalize hH3 : upd H2 D (SetSO X.prog X.w D []) = H3 at w0
  have I3 : Inv X pins σ H3 s3 := by
    rw [← hs3, ← hH3]
    refine I2.laid (t' := s2.toks) keep3 (Nat.le_of_eq hD) (setSO_ok ?_)
    refine sets_bare ?_
    rw [← h3, ← hD]
    exact Heap.get?_push_size _ rfl
  have small : ∀ b ∈ fp, b < s2.heap.objs.size := fun b m => by
    obtain ⟨o, e, _⟩ := T.obj _ _ st2 b m
    exact Heap.lt_size e
  have f3 : ∀ b ∈ fp, FpOk X pins H3 b ∧ b < s3.heap.objs.size := fun b m => by
    have lt := small b m
    refine ⟨⟨?_, (f2 b m).2⟩, by rw [es3, size3]; exact Nat.lt_succ_of_lt lt⟩
    rw [← hH3, upd_ne (by rw [← hD]; exact Nat.ne_of_lt lt)]
    exact (f2 b m).1
  have st3 : tn 0 s3.heap := T.keep _ _ _ st2 fun b _ o e => by rw [es3]; exact keep3 b o e
  have I4 := block_start I3 ok hN f3
  have pg := hg s3 H3 s3.heap.objs.size (cellsFrom (s3.heap.objs.size + 1) scope.names (cloFrom X.env.cells scope.names [])) fp
  have pt := ht s3 H3 s3.heap.objs.size (cellsFrom (s3.heap.objs.size + 1) scope.names (cloFrom X.env.cells scope.names [])) fp
  have pe := he s3 H3 s3.heap.objs.size (cellsFrom (s3.heap.objs.size + 1) scope.names (cloFrom X.env.cells scope.names [])) fp
  show codeAny _ _ (.compStart (.SetComp elt [⟨tg, iter, ifs, 0⟩] scope pos) 0 (.ref it) (.ref D) (compEnvC scope (cellsFrom (s3.heap.objs.size + 1) scope.names (cloFrom X.env.cells scope.names [])) s3.heap.objs.size X.env)) (compPost (model X.prog X.w) X.A X.xe use Qf (.ref D) s3.heap.objs.size) { s3 with heap := pushCells (s3.heap.push { cls := .type "dict", data := .dict #[] }) scope.names }
  generalize hB : compEnvC scope (cellsFrom (s3.heap.objs.size + 1) scope.names (cloFrom X.env.cells scope.names [])) s3.heap.objs.size X.env = B at I4 pg pt pe ⊢
  have locB : B.locals = s3.heap.objs.size := by rw [← hB]; rfl
  generalize hs4 : ({ s3 with heap := pushCells (s3.heap.push { cls := .type "dict", data := .dict #[] }) scope.names } : Shared) = s4 at I4 ⊢
  have st4 : tn 0 s4.heap := T.keep _ _ _ st3 fun b _ o e => by rw [← hs4]; exact pushCells_keeps _ _ _ _ (Heap.get?_push_of_some _ e)
  let Y := X.blk s3 H3 scope B fp
  have fpY : ∀ {σ' : L2.St} {H' : Hp} {s' : Shared}, Inv Y [] σ' H' s' → (∀ b ∈ fp, H' b = none) → ∀ b ∈ fp, FpOk Y [] H' b := fun I' no b m =>
    ⟨no b m, (I'.ok.exf b m).1, I'.ok.exfs b m, .inl m, fun x c e => (I'.ok.exf b m).2 x c e, fun p z => absurd (show p ∈ ([] : List (Addr × Obj)) ++ [] from z) (by simp)⟩
  -- what holds between the turns
  let Mid : Nat → Shared → Prop := fun n s' => ∃ i H', Inv Y [] (wipe σ (own.map (·.2))) H' s' ∧ tn i s'.heap ∧ (∀ b ∈ fp, H' b = none) ∧ W i n H'
  have loop : codeAny (model X.prog X.w) X.A (.compLoop (.SetComp elt [⟨tg, iter, ifs, 0⟩] scope pos) 0 (.ref it) (.ref D) B) (compPost (model X.prog X.w) X.A X.xe use Qf (.ref D) s3.heap.objs.size) s4 := by
    refine compLoopS_any Mid ?_ m0 ⟨0, H3, I4, st4, fun b m => (f3 b m).1.1, w0⟩
    rintro n s5 ⟨i, H5, I5, st5, no5, w5⟩
    rcases turn i n H5 w5 with ⟨stop, qq⟩ | ⟨go, Nx, hNx, step⟩
    · refine thnF (T.done Y rfl rfl rfl hc i [] s5 _ H5 (fun _ _ => False) I5 (fpY I5 no5) st5 stop) fun r s6 ⟨hr, I6⟩ => ?_
      subst hr
      have I7 : Inv X pins σ H5 s6 := I3.call' (ch := fp) I6.os I6.base I6.hok I6.bare fun b m => ⟨(f3 b m).1.2.2.2.1, (f3 b m).1.2.1, (f3 b m).1.2.2.2.2.1, (f3 b m).1.2.2.2.2.2⟩
      have noC : H5 B.locals = none := I6.free
      obtain ⟨m, hm, _⟩ := I6.loc
      have hm : s6.heap.Ns B.locals m := hm
      rw [locB] at noC hm
      exact fin D s3.heap.objs.size s6 m H5 I7 qq hm (I3.fpOk (Nat.le_refl _) noC)
    · refine thnF (T.item Y rfl rfl rfl hc i [] s5 _ H5 (fun _ _ => False) I5 (fpY I5 no5) st5 go) fun r s6 ⟨u, hr, h6⟩ => ?_
      subst hr
      refine thnF h6 fun _ s7 ⟨x, H7, I7, r7, y7, st7, no7⟩ => ?_
      have I7' := I7.pinned (fpY I7 no7) (T.obj _ _ st7)
      refine thnF (pg.run _ s7 _ H7 x u _ I7' r7 (step x H7 y7)) fun _ s8 ⟨σ8, H8, I8, hw8, q8⟩ => ?_
      refine thnF (pt.run _ s8 σ8 H8 _ I8 q8) fun b s9 ⟨H9, I9, q9⟩ => ?_
      have over : ∀ {s' : Shared} {H' : Hp}, Inv Y ([] ++ pinsAt fp s7.heap) σ8 H' s' → Nx H' → ∃ m, m < n ∧ Mid m s' := fun {s' H'} I' nx => by
        obtain ⟨m', lt, w'⟩ := hNx H' nx
        have pinned : ∀ b ∈ fp, ∀ o, s7.heap.get? b = some o → s'.heap.get? b = some o ∧ H' b = none := fun b m o e => by
          have z := I'.pin (b, o) (List.mem_append_right _ (List.mem_append_right _ (mem_pinsAt m e)))
          exact ⟨z.1, z.2.1⟩
        refine ⟨m', lt, i + 1, H', (I'.unpinned (pins := [])).weak (by rw [← hw8, wipe_length]) (fun j v e => ?_), T.keep _ _ _ st7 fun b m o e => (pinned b m o e).1, fun b m => ?_, w'⟩
        · rw [← hw8] at e
          exact (wipe_some e).1
        · obtain ⟨o, e, _⟩ := T.obj _ _ st7 b m
          exact (pinned b m o e).2
      cases b with
      | false =>
        simp only [Bool.false_eq_true, if_false] at q9 ⊢
        exact over I9 q9
      | true =>
        simp only [if_true] at q9 ⊢
        refine thnF (pe.run _ s9 σ8 H9 _ I9 q9) fun z s10 ⟨yv, H10, I10, r10, L, k, ey, hDL, fw, nx⟩ => ?_
        subst ey
        obtain ⟨tk10, rfl⟩ := r10
        exact add_s (X := Y) I10 hDL fw hu fun L' s11 c1 c2 I11 => over I11 (nx L' c1 c2)
  exact codeAny_compStart_set loop (T.self X.A 0 _ _ _ st4 loop)
theorem pe_scX (hc : X.calm = true) (hu : X.A.units + 10 < cLine) (hN : X.N.Nodup) (hi : PI X tg iter wi) (ok : BlkOk X.N X.env.scope scope own) (hg : BlkG X scope fun Y => PG Y tg g) (ht : BlkG X scope fun Y => PTs Y ifs tt) (he : BlkG X scope fun Y => PE Y elt te)
    (hs : ∀ x, foldedSetIterable iter X.env x = pure x := by intro _; rfl) : PE X (.SetComp elt [⟨tg, iter, ifs, 0⟩] scope pos) (tScX X.K X.prog X.w wi g tt te (own.map (·.2))) := by
  refine ⟨fun pins s σ H Q I h => ?_⟩
  rw [eval_SetComp]
  refine scx_run hc hu hN I hi ok hg ht he hs h fun D C s' m H' I' q hn f => ⟨m, hn, fun h'' sb => ?_⟩
  obtain ⟨f0, f1, f2, f3, f4, f5⟩ := f
  exact ⟨.ref D, H', I'.turned (t' := s'.toks) (fun b o hb e => (sb.2 b hb).trans e) f0 f1 f3 f4 f5, rfl, q⟩
end
/-! sorted of such a set -/
theorem sorted_s {P : Program} {w : World} {A : Around} {E : Value → Shared → Prop} {s : Shared} {a : Addr} {L : List Str} {Q : Value → Shared → Prop} (R : SetS0 P w s.heap a L) (hh : A.handled = none) (hu : A.units + 100 < cLine)
    (q : ∀ (s' : Shared) (p : Nat) (out : List Value) (c : Nat), (∀ b o, s.heap.get? b = some o → s'.heap.get? b = some o) → s'.gens = s.gens → s'.os = s.os → s.heap.objs.size ≤ p → s'.heap.get? p = some (seqObj "list" out.toArray c) →
      Vals ((L.mergeSort FF.leS).map V.str) out → Q (.ref p) s') : wpAny (model P w) A (call (.builtin "sorted") [.ref a]) Q E s := by
  obtain ⟨o, es, ep, t, e1, e2, e3, hel, rfl, nd, hsc, hfit, hris, hled⟩ := R
  refine FF.sorted_from ?_
  refine L2.collect_set hh ⟨o, e1, e2.1, e3⟩ hfit hsc hris hled ?_
  intro s' out hk hsz hg hos hp
  obtain ⟨es0, hes, rfl⟩ := FF.perm_map_inv hp rfl
  have hl0 : es0.length = es.toList.length := hes.length_eq
  have hb : es0.length ≤ sizeLine := by
    have := fits_of_scanBound hsc
    rw [hl0, Array.length_toList]
    omega
  refine ⟨by rw [List.length_map]; exact hb, ?_⟩
  rintro hp2 rfl
  have hget : (s'.heap.push { cls := Value.type "list", data := Data.seq (es0.map fun x => x.2).toArray }).get? s'.heap.objs.size = some (seqObj "list" (es0.map fun x => x.2).toArray 0) := PySem.Heap.get?_push_size _ rfl
  have hacc : PySem.W.EachIs (fun u i => ∃ t, u = Value.str i t) (es0.map fun x => x.2) (es0.map sKey) := by
    have hall : ∀ e ∈ es0, ∃ t, e.2 = .str (sKey e) t := fun e m => el_key (hel e (hes.mem_iff.mp m))
    clear hes hl0 hp hget hb
    induction es0 with
    | nil => exact .nil
    | cons e es0 ih => exact .cons (hall e (.head _)) (ih fun d m => hall d (.tail _ m))
  have hall : ∀ x ∈ (es0.map sKey).map PyData.str, ∃ i, x = .str i := fun x m => by
    obtain ⟨i, _, rfl⟩ := List.mem_map.mp m
    exact ⟨i, rfl⟩
  have hsame : (es0.map sKey).mergeSort FF.leS = (es.toList.map sKey).mergeSort FF.leS := FF.sortS_of ((hes.map sKey).trans (FF.sortS_perm _).symm) (FF.sortS_pw _)
  refine PySem.W.list_sort_data (bs := es0.map sKey) (enc := PyData.str) (R := fun u i => ∃ t, u = Value.str i t) hget hacc (hacc.mono fun u i ⟨t, e⟩ => ⟨[], by rw [e]; exact .str i t, by simp⟩) (fun d m d' m' => ?_) (.inr fun d m => ?_) (by rw [List.length_map]; omega) (fun b _ => ?_) fun out ho he => ?_
  · obtain ⟨i, rfl⟩ := hall d m
    obtain ⟨j, rfl⟩ := hall d' m'
    rfl
  · obtain ⟨i, rfl⟩ := hall d m
    exact ⟨by simp, by simp⟩
  · show A.units + 1 + 1 + 0 < cLine
    omega
  · have he' : Vals (((es0.map sKey).mergeSort FF.leS).map V.str) out := FF.vals_strs he
    rw [hsame] at he'
    obtain ⟨c, hc2⟩ := PyProof.Rows.sortedHeap_at (out := out.toArray) hget
    refine q _ _ out c (fun b o e => ?_) hg hos hsz hc2 he'
    have z1 := hk b o e
    have z2 := PySem.Heap.lt_size z1
    show (sortedHeap _ _ _ _).get? b = some o
    rw [PyProof.Rows.sortedHeap_old (Nat.ne_of_lt z2) (by rw [PySem.Heap.size_push]; exact Nat.lt_succ_of_lt z2)]
    exact PySem.Heap.get?_push_of_some _ z1
def rSortX (P : Program) (w : World) : List V → Hp → VK → Prop := fun xs H Q => ∃ (a : Addr) (L : List Str), xs = [.ref a] ∧ H a = some (SetSO P w a L) ∧ L.length < 64 ∧ ∀ p, H p = none → Q (.ref p) (upd H p (.lst ((L.mergeSort FF.leS).map V.str)))
theorem cr_sortX {X : Cx} (hc : X.calm = true) (hu : X.A.units + 100 < cLine) : CallR X (.builtin "sorted") (rSortX X.prog X.w) := by
  intro pins s σ H xs us Q I r h
  obtain ⟨a, L, rfl, ha, hl, q⟩ := h
  obtain ⟨u, rfl, rx⟩ := vals1 r
  cases rx
  refine sorted_s (I.hok a _ ha).1 (I.ok.hd hc) hu ?_
  rintro ⟨hp', gs', dr', tk', os'⟩ p out c hk hg hos hsz hget ho
  simp only at hg hos hk hget
  subst hg hos
  have hnone : H p = none := I.hok.fresh hsz
  have hlen : ((L.mergeSort FF.leS).map V.str).length ≤ sizeLine := by
    rw [List.length_map, List.length_mergeSort]
    have := sizeLine_eq
    omega
  have hob : ObjOk X.prog X.w (upd H p (.lst ((L.mergeSort FF.leS).map V.str))) hp' p (.lst ((L.mergeSort FF.leS).map V.str)) := ⟨hlen, out, c, ho, hget⟩
  exact ⟨.ref p, _, I.call (ch := []) (L2.Un.laid hk hsz hnone) (L2.HOk.laid I.hok hk hsz hob) I.bare (fun b m => by simp at m), rfl, q p hnone⟩
end SX
namespace FF
open PySem PySem.Spec PyProof.Rows L2 SX
open Evl (Ex sz_of sz_lt fresh_back)
section
variable {K : PySem.W.Frag} {E : XK} {Ψ : XPost} {F H : Hp} {O : Own} {Δ : Env_} {k : Dt → Own → Prop} {Pr : Program} {w : World}
/-- sorted({elt for target in iter}), texts -/
theorem wv_sortScX {wi : TI} {tg : TG} {te : TE} {vs : List Nat} (hi : Iv K E Ψ wi Δ O fun ds O1 => Pin (∃ (α : Type) (us : List α) (g : α → Dt) (js : List Nat) (T : α → Env_ → Env_) (f : α → Str), ds = us.map g ∧ us.length < 63 ∧ (∀ u ∈ us, Gv K tg (g u) js (T u)) ∧ (∀ j ∈ js, j ∈ vs) ∧
      (∀ u ∈ us, Ev K E0 X0 te (T u (wipeD Δ vs)) O1 (ex (.str (f u)) O1)) ∧ ∀ ms : List Str, ms.Nodup → (∀ a, a ∈ ms ↔ a ∈ us.map f) → RiseS ms → ∀ q, k (.ref q) ((q, .lst (ms.map .str)) :: O1))) :
    Ev K E Ψ (tCB (rSortX Pr w) (tCons (tScX K Pr w wi tg tYes te vs) tNil)) Δ O k := fun σ F H a b c e Q qq =>
  hi σ F H a b c e _ fun J G F1 H1 ds O1 g1 b1 hG hw hΘ => fun Dn hD => by
    obtain ⟨α, us, g, js, T, f, rfl, hl, hg, hj, he, hk⟩ := hΘ
    rw [List.length_map] at hw
    let Pv : Nat → Hp → Prop := fun i Hc => ∃ (Fc : Hp) (L : List Str), Gw O1 F1 H1 (O1 ++ [(Dn, .raw (SetSO Pr w Dn L))]) Fc Hc ∧ OwnOk K Fc Hc (O1 ++ [(Dn, .raw (SetSO Pr w Dn L))]) ∧ L.Nodup ∧ (∀ x, x ∈ L ↔ x ∈ (us.take i).map f) ∧ L.length ≤ i
    refine ⟨fun i m Hc => m = us.length - i ∧ i ≤ us.length ∧ Pv i Hc, ⟨us.length, by simp, Nat.zero_le _, ?_⟩, ?_⟩
    · have g2 := Gw.newOwn (O := O1) (o := .raw (SetSO Pr w Dn [])) (u := SetSO Pr w Dn []) g1.sub hD
      have b2 := b1.newOwn (o := .raw (SetSO Pr w Dn [])) (u := SetSO Pr w Dn []) g1.sub hD upd_same
      exact ⟨F1, [], g2.permR (List.perm_append_comm (l₁ := [_])), b2.perm (List.perm_append_comm (l₁ := [_])), .nil, by simp, Nat.le_refl _⟩
    · rintro i m Hc ⟨rfl, hi, Fc, L, gg, bb, nd, hm, hlen⟩
      have hGc := hG Hc (gg.ext.trans gg.sub)
      by_cases hlt : i < us.length
      · refine .inr ⟨hw.goes i Hc hlt hGc, Pv (i + 1), fun H' p' => ⟨us.length - (i + 1), by omega, rfl, hlt, p'⟩, fun x Hc' y => ?_⟩
        have hu : us[i]? = some us[i] := by simp [hlt]
        have hmem : us[i] ∈ us := List.getElem_mem _
        have hd : (us.map g)[i]? = some (g us[i]) := by rw [List.getElem?_map, hu]; rfl
        obtain ⟨F3, g3, b3, k3⟩ := hw.yields i Hc x Hc' hlt hGc y Fc _ _ hd gg.ext gg.sub bb
        have env : EnvOk K F3 (L2.wipe σ vs) (wipeD Δ vs) := (a.mono (g1.ext.trans (gg.ext.trans g3.ext))).wipe vs
        refine hg us[i] hmem x (L2.wipe σ vs) Hc' F3 _ _ g3.sub k3 env fun σ2 l1 m1 env' => ⟨?_, ?_⟩
        · rw [← wipe_wipe σ vs]
          exact wipe_eq l1 fun j' hj' => m1 j' fun z => hj' (hj j' z)
        refine et_frame (et_yes (K := K) (E := E0) (Ψ := X0) (Δ := T us[i] (wipeD Δ vs)) (O := O1)) (E' := E0) (Ψ := X0) σ2 F3 Hc' env' b3 g3.sub .zero _ fun bt F4 H4 O4 g4 b4 p4 => ?_
        obtain ⟨O5, rfl, rfl, rfl⟩ := p4
        refine iteT (ev_frame (he us[i] hmem) (E' := E0) (Ψ := X0) σ2 F4 H4 (env'.mono g4.ext) b4 g4.sub .zero _ fun v F5 H5 dk O6 g5 b5 k5 p5 => ?_)
        obtain ⟨O7, rfl, rfl, rfl⟩ := p5
        cases k5
        have mem : (Dn, Ow.raw (SetSO Pr w Dn L)) ∈ O7 ++ [(Dn, Ow.raw (SetSO Pr w Dn L))] := by simp
        have hx : H5 Dn = some (SetSO Pr w Dn L) := (b5.at_ _ _ mem).2
        have hi2 : (O7 ++ [(Dn, Ow.raw (SetSO Pr w Dn L))])[O7.length]? = some (Dn, Ow.raw (SetSO Pr w Dn L)) := by simp
        have et : us.take (i + 1) = us.take i ++ [us[i]] := by rw [List.take_add_one, hu]; rfl
        refine ⟨L, f us[i], rfl, hx, by omega, fun L' c1 c2 => ?_⟩
        obtain ⟨b7, hmt⟩ := b5.mut (u := SetSO Pr w Dn L') (o' := .raw (SetSO Pr w Dn L')) hi2 upd_same
        have hset : (O7 ++ [(Dn, Ow.raw (SetSO Pr w Dn L))]).set O7.length (Dn, Ow.raw (SetSO Pr w Dn L')) = O7 ++ [(Dn, Ow.raw (SetSO Pr w Dn L'))] := by simp
        rw [hset] at b7 hmt
        have g7 := Gw.mut (u := SetSO Pr w Dn L') b5 g5.sub (mem_addr mem) hmt
        have gall := ((((gg.trans g3).trans g4).trans g5).trans g7)
        by_cases hin : f us[i] ∈ L
        · have e1 := c1 hin
          subst e1
          refine ⟨F5, L', gall, b7, nd, fun y => ?_, Nat.le_succ_of_le hlen⟩
          rw [et, List.map_append, List.mem_append, ← hm y]
          constructor
          · exact .inl
          · rintro (z | z)
            · exact z
            · rw [List.map_cons, List.map_nil, List.mem_singleton] at z; rw [z]; exact hin
        · have pm := c2 hin
          refine ⟨F5, L', gall, b7, ?_, fun y => ?_, by rw [pm.length_eq]; exact Nat.succ_le_succ hlen⟩
          · exact pm.nodup_iff.mpr (List.nodup_cons.mpr ⟨hin, nd⟩)
          · rw [pm.mem_iff, List.mem_cons, et, List.map_append, List.mem_append, ← hm y, List.map_cons, List.map_nil, List.mem_singleton, or_comm]
      · have ei : i = us.length := by omega
        subst ei
        rw [List.take_length] at hm
        have mem : (Dn, Ow.raw (SetSO Pr w Dn L)) ∈ O1 ++ [(Dn, Ow.raw (SetSO Pr w Dn L))] := by simp
        have hz : Hc Dn = some (SetSO Pr w Dn L) := (bb.at_ _ _ mem).2
        have gf := gg.forget (List.sublist_append_left O1 [(Dn, Ow.raw (SetSO Pr w Dn L))])
        have bf := bb.forget (List.sublist_append_left O1 [(Dn, Ow.raw (SetSO Pr w Dn L))])
        refine .inl ⟨hw.stops Hc hGc, ?_⟩
        refine ⟨Dn, L, rfl, hz, by omega, fun p hpn => ?_⟩
        have nd2 : (sortS L).Nodup := (sortS_perm L).nodup_iff.mpr nd
        refine qq _ Fc _ (.ref p) ((p, .lst ((sortS L).map .str)) :: O1) ((g1.trans gf).trans (Gw.newOwn gf.sub hpn)) (bf.newOwn gf.sub hpn ⟨_, upd_same, datL_strs⟩) (.ref p) ?_
        exact hk (sortS L) nd2 (fun x => (sortS_perm L).mem_iff.trans (hm x)) (sortS_pw L) p
end
end FF
set_option Elab.async false
set_option linter.all false
set_option maxRecDepth 100000
set_option maxHeartbeats 1000000
/-! {x!r} of dicts of data, of own instances, of whole numbers -/
namespace FF
open PySem PySem.Spec PyProof.Rows L2
open Evl (Ex sz_of sz_lt fresh_back)
end FF
set_option Elab.async false
set_option linter.all false
set_option maxRecDepth 100000
set_option maxHeartbeats 1000000
/-! what is shown is text, whatever the data -/
namespace FF
open PySem PySem.Spec PyProof.Rows L2
/-! texts in lists of texts -/
section
variable {K : PySem.W.Frag} {E : XK} {Ψ : XPost} {O : Own} {k : Dt → Own → Prop} {y : Dt}
theorem flat_strs (ns : List Str) : (ns.map V.str).all flatV = true := by rw [List.all_map]; exact List.all_eq_true.mpr fun _ _ => rfl
theorem inV_strs {i : Str} (ns : List Str) : inV (.str i) (ns.map V.str) = decide (i ∈ ns) := by
  unfold inV
  rw [List.any_map]
  induction ns with
  | nil => rfl
  | cons n ns ih =>
    rw [List.any_cons, ih, Bool.eq_iff_iff]
    simp only [Function.comp, eqV, Bool.or_eq_true, beq_iff_eq, decide_eq_true_eq, List.mem_cons]
    exact ⟨fun h => h.imp Eq.symm id, fun h => h.imp Eq.symm id⟩
theorem ko_notinS {i : Str} {ns : List Str} (hs : SeqOf O y (ns.map .str)) (q : k (.bl (!decide (i ∈ ns))) O) : OpD K E Ψ (rIn K true) (.str i) y O k := ko (opd_val fun F H v u b c k1 k2 => by
  cases k1
  obtain ⟨a, xs, rfl, hq, l⟩ := hs.read b c k2
  rw [l.strs_inv] at hq
  exact ⟨_, .bl _, fun Q q => ⟨a, _, rfl, hq, rfl, flat_strs ns, by rw [inV_strs]; exact q⟩⟩) q
end
end FF
set_option Elab.async false
set_option linter.all false
set_option maxRecDepth 100000
set_option maxHeartbeats 1000000
namespace FF
open PySem PySem.Spec PyProof.Rows L2
open Evl (Ex sz_of sz_lt fresh_back)
section
variable {K : PySem.W.Frag} {E : XK} {Ψ : XPost} {Δ : Env_} {O : Own} {t : TS} {nx bk ct : Env_ → Own → Prop} {rt : Dt → Own → Prop}
/-- a loop with a number that gets less -/
theorem sv_whileN {tc : TT} (I : Nat → Env_ → Own → Prop) {m0 : Nat} (h0 : I m0 Δ O)
    (hs : ∀ m Δ' O', I m Δ' O' → EvT K E Ψ tc Δ' O' (fun b O2 => (b = true → Sv K E Ψ t Δ' O2 ⟨fun Δ2 O3 => ∃ m', m' < m ∧ I m' Δ2 O3, rt, nx, fun Δ2 O3 => ∃ m', m' < m ∧ I m' Δ2 O3⟩) ∧ (b = false → nx Δ' O2))) : Sv K E Ψ (tWhile tc t) Δ O ⟨nx, rt, bk, ct⟩ := fun σ F H D a b c e kk =>
  ⟨fun m σc Hc => ∃ Fc Oc Δc, Gw O F H Oc Fc Hc ∧ OwnOk K Fc Hc Oc ∧ EnvOk K Fc σc Δc ∧ I m Δc Oc, ⟨m0, F, O, Δ, .refl c, b, a, h0⟩, fun m σc Hc ⟨Fc, Oc, Δc, g, bb, env, p⟩ =>
    hs m Δc Oc p σc Fc Hc env bb g.sub (e.step g) _ fun bt F2 H2 O2 g2 b2 p2 => by
      cases bt with
      | false => exact iteF (kk.nx σc F2 H2 Δc O2 (g.trans g2) b2 (env.mono g2.ext) (p2.2 rfl))
      | true =>
        refine iteT ⟨fun σ' H' => ∃ Fc' Oc' Δc', Gw O F H Oc' Fc' H' ∧ OwnOk K Fc' H' Oc' ∧ EnvOk K Fc' σ' Δc' ∧ ∃ m', m' < m ∧ I m' Δc' Oc', fun σ' H' ⟨Fc', Oc', Δc', h1, h2, h3, m', h5, h4⟩ => ⟨m', h5, Fc', Oc', Δc', h1, h2, h3, h4⟩, ?_⟩
        have gg := g.trans g2
        refine (p2.1 rfl) σc F2 H2 _ (env.mono g2.ext) b2 g2.sub (e.step gg) ⟨fun σ2 F4 H4 Δ2 O4 g4 b4 a4 q => ⟨F4, O4, Δ2, gg.trans g4, b4, a4, q⟩, fun v F4 H4 d4 O4 g4 b4 k4 q => kk.rt v F4 H4 d4 O4 (gg.trans g4) b4 k4 q,
          fun σ2 F4 H4 Δ2 O4 g4 b4 a4 q => kk.nx σ2 F4 H4 Δ2 O4 (gg.trans g4) b4 a4 q, fun σ2 F4 H4 Δ2 O4 g4 b4 a4 q => ⟨F4, O4, Δ2, gg.trans g4, b4, a4, q⟩⟩⟩
end
end FF
set_option Elab.async false
set_option linter.all false
set_option maxRecDepth 100000
set_option maxHeartbeats 1000000
/-! sorted(d.items()), d from whole numbers to tuples of texts -/
namespace FF
open PySem PySem.Spec PyProof.Rows L2
open Evl (Ex sz_of sz_lt fresh_back)
def rItemsK : V → List V → Hp → VK → Prop := fun x xs H Q => ∃ (a : Addr) (kvs : List (Key × V)), x = .ref a ∧ xs = [] ∧ H a = some (.dK kvs) ∧ ∀ p, H p = none → Q (.ref p) (upd H p (DX.itemsO p a))
theorem mt_itemsK {X : Cx} : MtR X "dict.items" rItemsK := by
  intro pins s σ H x xs v us Q I rx rxs h
  obtain ⟨a, kvs, rfl, rfl, ha, q⟩ := h
  cases rx
  cases rxs
  obtain ⟨hl, ns, vs, kv, dof⟩ := dk_rd I.hok (.inl ha)
  refine call_meetsIn F.slot_dict_items dof.typeIs F.entry_dict_items (F.args_dict_items_1 _) (meets_dict_items (mixKind X.prog X.w) a ns) ⟨⟨vs, dof⟩, ?_⟩
  exact ⟨.ref _, _, I.laid (fun b o e => Heap.get?_push_of_some _ e) (Nat.le_refl _) (DX.itemsO_ok (Heap.get?_push_size _ rfl)), rfl, q _ (I.hok.fresh (Nat.le_refl _))⟩
/-- several new tuples -/
theorem laidT {X : Cx} {pins : List (Addr × Obj)} {σ : L2.St} {H : Hp} {s : Shared} {h' : Heap} {tk : Nat} {as : List Addr} {kvs : List (Key × V)} (I : Inv X pins σ H s) (hk : ∀ b o, s.heap.get? b = some o → h'.get? b = some o) (hsz : ∀ a ∈ as, s.heap.objs.size ≤ a) (nd : as.Nodup) (hl : as.length = kvs.length)
    (hob : ∀ (j : Nat) (a : Addr) (p : Key × V), as[j]? = some a → kvs[j]? = some p → ∃ key x, h'.get? a = some { cls := .type "tuple", data := .seq #[key, x] } ∧ RelV (kV p.1) key ∧ RelV p.2 x) : Inv X pins σ (LiI.putT H as kvs) { s with heap := h', toks := tk } := by
  have fr : ∀ a ∈ as, H a = none := fun a m => I.hok.fresh (hsz a m)
  have off : ∀ b, b ∉ as → LiI.putT H as kvs b = H b := fun b m => LiI.putT_off as kvs H m
  have some_off : ∀ b u, H b = some u → LiI.putT H as kvs b = some u := fun b u e => by
    rw [off b (fun m => by rw [fr b m] at e; cases e)]; exact e
  have at_ := LiI.putT_at as kvs H hl nd
  refine I.call (ch := []) ⟨fun b o e _ _ _ => hk b o e, fun b o e _ _ _ => ⟨o.slots, hk b o e⟩, fun b o e hn _ => ?_, fun b o e _ => ⟨o, hk b o e⟩, fun b xs e => some_off b _ e, fun b o u e => some_off b _ e, fun b ps e => ⟨#[], by rw [Array.append_empty]; exact some_off b _ e⟩⟩ ?_ I.bare (fun b m => by simp at m)
  · rw [off b (fun m => absurd (Nat.lt_of_lt_of_le (Heap.lt_size e) (hsz b m)) (Nat.lt_irrefl _))]; exact hn
  · intro a o ho
    by_cases m : a ∈ as
    · obtain ⟨j, y, h1, h2, h3⟩ := LiI.paired_ix at_ m
      rw [h3] at ho
      cases ho
      obtain ⟨key, x, g1, g2, g3⟩ := hob j a y h1 h2
      show (_ ≤ sizeLine ∧ ∃ its, Vals _ its ∧ IsTup h' a its.toArray)
      exact ⟨by show 2 ≤ sizeLine; decide, [key, x], .cons g2 (.cons g3 .nil), _, g1, rfl, 0, rfl⟩
    · rw [off a m] at ho
      refine (I.hok a o ho).stay (fun b u _ e => hk b u e) (fun b e => some_off b _ e) (fun b xs e => some_off b _ e)
abbrev wdV (ws : List Str) : Dt := .tup (ws.map .str)
abbrev itK (p : Int × List Str) : Key × Dt := (.inl p.1, wdV p.2)
abbrev itD (p : Int × List Str) : Dt := .tup [.int p.1, wdV p.2]
def itP (p : Int × List Str) : PyData := .tuple [.int p.1, .tuple (p.2.map .str)]
abbrev leIt (p q : Int × List Str) : Bool := PySem.W.dataLe false itP p q
def rSortItK (K : PySem.W.Frag) : List V → Hp → VK → Prop := fun xs H Q => ∃ (p a : Addr) (kvs : List (Key × V)) (prs : List (Int × List Str)) (F : Hp), xs = [.ref p] ∧ H p = some (DX.itemsO p a) ∧ H a = some (.dK kvs) ∧ DatK K F kvs (prs.map itK) ∧ Ex F H ∧
  ∀ (q : Addr) (ts : List Addr) (ps : List (Key × V)) (prs' : List (Int × List Str)) (H' : Hp), prs'.Perm prs → prs'.Pairwise (fun x y => leIt x y = true) → DatK K F ps (prs'.map itK) → (∀ b, b ∉ q :: ts → H' b = H b) → (∀ b ∈ q :: ts, H b = none) → (q :: ts).Nodup → H' q = some (.lst (ts.map V.ref)) → Paired (fun t p => H' t = some (.tup [kV p.1, p.2])) ts ps → Q (.ref q) H'
theorem sok_len {prs : List (Int × List Str)} : PySem.W.AllAlike (prs.map itP) ∧ PySem.W.Sortable (prs.map itP) := by
  have al : ∀ (u v : List Str), PySem.W.alikeAll (u.map PyData.str) (v.map PyData.str) = true := fun u => by
    induction u with
    | nil => intro v; cases v <;> rfl
    | cons a u ih =>
      intro v
      cases v with
      | nil => rfl
      | cons b v =>
        have := ih v
        simp only [List.map_cons, PySem.W.alikeAll, this]
        rfl
  refine ⟨fun d m d' m' => ?_, .inl fun d m => ?_⟩
  · obtain ⟨p, _, rfl⟩ := List.mem_map.mp m
    obtain ⟨q, _, rfl⟩ := List.mem_map.mp m'
    have := al p.2 q.2
    simp only [itP, PySem.W.alike, PySem.W.alikeAll, this]
    rfl
  · obtain ⟨p, _, rfl⟩ := List.mem_map.mp m
    exact ⟨_, _, rfl⟩
theorem itP_dep (p : Int × List Str) : (itP p).depth ≤ 2 := by
  have : ∀ u : List Str, PyData.depthAll (u.map PyData.str) = 0 := fun u => by
    induction u with
    | nil => rfl
    | cons a u ih => simp [PyData.depthAll, PyData.depth, ih]
  simp only [itP, PyData.depth, PyData.depthAll, this]
  omega
theorem datK_it {K : PySem.W.Frag} {F : Hp} : ∀ {kvs : List (Key × V)} {prs : List (Int × List Str)}, DatK K F kvs (prs.map itK) → ∃ ts : List Addr, ts.length = prs.length ∧ kvs = (prs.zip ts).map (fun b => ((.inl b.1.1 : Key), V.ref b.2)) ∧ ∀ b ∈ prs.zip ts, SqT K F b.2 (b.1.2.map V.str)
  | _, [], h => by
    cases h
    exact ⟨[], rfl, rfl, fun b m => by simp at m⟩
  | _, p :: prs, h => by
    cases h with
    | cons h1 h2 =>
      obtain ⟨ts, e1, e2, e3⟩ := datK_it h2
      cases h1 with
      | @tup a xs ds sq l =>
        have := l.strs_inv
        subst this
        refine ⟨a :: ts, by simp [e1], by rw [e2]; rfl, fun b m => ?_⟩
        rw [List.zip_cons_cons] at m
        rcases List.mem_cons.mp m with rfl | m
        · exact sq
        · exact e3 b m
abbrev B3 : Type := Addr × (Int × List Str) × Addr
theorem each_b {R : Value → B3 → Prop} : ∀ {us : List Value} {bs : List B3}, (∀ b ∈ bs, R (.ref b.1) b) → us = bs.map (fun b => Value.ref b.1) → PySem.W.EachIs R us bs
  | _, [], _, e => by subst e; exact .nil
  | _, b :: bs, h, e => by subst e; exact .cons (h b (.head _)) (each_b (fun d m => h d (.tail _ m)) rfl)
theorem b_each : ∀ {us : List Value} {bs : List B3}, PySem.W.EachIs (fun (v : Value) (b : B3) => v = .ref b.1) us bs → us = bs.map fun b => Value.ref b.1
  | _, _, .nil => rfl
  | _, _, .cons r t => by rw [r, b_each t]; rfl
theorem paired_maps {α β γ : Type} {R : β → γ → Prop} {f : α → β} {g : α → γ} : ∀ {l : List α}, (∀ x ∈ l, R (f x) (g x)) → Paired R (l.map f) (l.map g)
  | [], _ => .nil
  | x :: l, h => .cons (h x (.head _)) (paired_maps fun y m => h y (.tail _ m))
theorem datK_maps {K : PySem.W.Frag} {F : Hp} : ∀ {l : List B3}, (∀ b ∈ l, SqT K F b.2.2 (b.2.1.2.map V.str)) → DatK K F (l.map fun b => ((.inl b.2.1.1 : Key), V.ref b.2.2)) ((l.map fun b => b.2.1).map itK)
  | [], _ => .nil
  | b :: l, h => .cons (.tup (h b (.head _)) datL_strs) (datK_maps fun y m => h y (.tail _ m))
theorem leIt_trans (x y z : Int × List Str) (h1 : leIt x y = true) (h2 : leIt y z = true) : leIt x z = true := by
  have nt := (listOrd itemOrd).negTrans (PySem.W.keyToks (itP z)) (PySem.W.keyToks (itP y)) (PySem.W.keyToks (itP x))
  simp only [leIt, PySem.W.dataLe, PySem.W.sortLe, cond_false, Bool.not_eq_true'] at *
  cases hh : (listOrd itemOrd).blt (PySem.W.keyToks (itP z)) (PySem.W.keyToks (itP x)) with
  | false => exact hh
  | true =>
    rcases nt hh with q | q
    · rw [h2] at q; cases q
    · rw [h1] at q; cases q
theorem leIt_total (x y : Int × List Str) : (leIt x y || leIt y x) = true := by
  cases h : leIt x y with
  | true => rfl
  | false =>
    simp only [leIt, PySem.W.dataLe, PySem.W.sortLe, cond_false, Bool.not_eq_false', Bool.false_or, Bool.not_eq_true'] at *
    cases hh : (listOrd itemOrd).blt (PySem.W.keyToks (itP x)) (PySem.W.keyToks (itP y)) with
    | false => exact hh
    | true =>
      have := (listOrd itemOrd).trans (PySem.W.keyToks (itP y)) (PySem.W.keyToks (itP x)) (PySem.W.keyToks (itP y)) h hh
      rw [(listOrd itemOrd).irrefl] at this
      cases this
theorem call_sortItK {X : Cx} (hc : X.calm = true) (hu : X.A.units + 100 < cLine) : CallR X (.builtin "sorted") (rSortItK X.K) := by
  intro pins s σ H xs us Q I r h
  obtain ⟨p, a, kvs, prs, F, rfl, hp, ha, hd, ex, q⟩ := h
  obtain ⟨u, rfl, rx⟩ := vals1 r
  cases rx
  obtain ⟨hl, ns, vs, kv, dof⟩ := dk_rd I.hok (.inl ha)
  obtain ⟨ep, dat⟩ := dof.dictAt
  have hview : s.heap.IsItemsView p a := (I.hok p _ hp).1
  have lkv : kvs.length = vs.length := kv.length
  obtain ⟨tt, e1, e2, e3⟩ := datK_it hd
  have lpr : kvs.length = prs.length := by rw [e2, List.length_map, List.length_zip, e1, Nat.min_self]
  refine sorted_from ?_
  refine PySem.W.kdx_collect (I.ok.hd hc) hview dat (by omega) ?_
  intro h' tk as hkeep hal G
  have lap : as.length = prs.length := by omega
  have lz : (prs.zip tt).length = prs.length := by rw [List.length_zip, e1, Nat.min_self]
  have I1 : Inv X pins σ H { s with heap := h', toks := tk } := I.kept (t' := tk) hkeep
  refine ⟨by rw [List.length_map]; omega, ?_⟩
  rintro q0 rfl
  have hget : (h'.push { cls := Value.type "list", data := Data.seq (as.map Value.ref).toArray }).get? h'.objs.size = some (seqObj "list" (as.map Value.ref).toArray 0) := PySem.Heap.get?_push_size _ rfl
  have I2 : Inv X pins σ H { s with heap := h'.push { cls := Value.type "list", data := Data.seq (as.map Value.ref).toArray }, toks := tk } := I.kept (t' := tk) fun b o e => Heap.get?_push_of_some _ (hkeep b o e)
  -- the tuple at as[j]
  have tup : ∀ (j : Nat) (x : Addr) (y : Key × V), as[j]? = some x → kvs[j]? = some y → ∃ key z, h'.get? x = some { cls := .type "tuple", data := .seq #[key, z] } ∧ RelV (kV y.1) key ∧ RelV y.2 z := fun j x y hx hy => by
    obtain ⟨key, k, z, h1, h2, h3⟩ := G.pairs j x hx
    obtain ⟨y2, hy2, r1, r2⟩ := Paired.getL kv hy
    rw [h1] at hy2
    cases hy2
    refine ⟨key, z, h3, ?_, r2⟩
    have h2 : L2.keyIs k key = true := h2
    have r1 : y.1 = k := r1
    rw [r1]
    rcases L2.keyIs_shape h2 with ⟨i, t, rfl, e⟩ | ⟨i, t, rfl, e⟩
    · exact ⟨t, e⟩
    · exact ⟨t, e⟩
  have nd : as.Nodup := G.rise.imp fun h => Nat.ne_of_lt h
  have at_b : ∀ b ∈ as.zip (prs.zip tt), ∃ j, as[j]? = some b.1 ∧ kvs[j]? = some ((.inl b.2.1.1 : Key), V.ref b.2.2) ∧ b.2 ∈ prs.zip tt := fun b m => by
    obtain ⟨j, hj⟩ := List.getElem?_of_mem m
    obtain ⟨hj1, hj2⟩ := List.getElem?_zip_eq_some.mp hj
    refine ⟨j, hj1, ?_, List.mem_of_getElem? hj2⟩
    have : ((prs.zip tt).map fun b => ((.inl b.1.1 : Key), V.ref b.2))[j]? = some ((.inl b.2.1.1 : Key), V.ref b.2.2) := by rw [List.getElem?_map, hj2]; rfl
    rw [← e2] at this
    exact this
  have rd : ∀ b ∈ as.zip (prs.zip tt), Reads (h'.push { cls := Value.type "list", data := Data.seq (as.map Value.ref).toArray }) (.ref b.1) (itP b.2.1) [] := fun b m => by
    obtain ⟨j, hj1, hk, hm⟩ := at_b b m
    have sq := e3 b.2 hm
    obtain ⟨key, z, g1, g2, g3⟩ := tup j b.1 _ hj1 hk
    obtain ⟨t, rfl⟩ := g2
    have g3 : z = Value.ref b.2.2 := g3
    subst g3
    obtain ⟨its, rv, ⟨o, f1, f2, n, f3⟩, _⟩ := I2.tuple (Evl.ex_t ex sq)
    have strR : ∀ {us : List Value} {ws : List Str}, Vals (ws.map V.str) us → ReadsAll (h'.push { cls := Value.type "list", data := Data.seq (as.map Value.ref).toArray }) us (ws.map PyData.str) [] := fun {us ws} => by
      induction ws generalizing us with
      | nil => intro r; cases r; exact .nil
      | cons w ws ih =>
        intro r
        cases r with
        | cons r1 r2 =>
          obtain ⟨t, rfl⟩ := r1
          exact ReadsAll.cons (as := []) (bs := []) (.str w t) (ih r2)
    have rin : Reads (h'.push { cls := Value.type "list", data := Data.seq (as.map Value.ref).toArray }) (.ref b.2.2) (.tuple (b.2.1.2.map .str)) [] := .tuple f1 f2 f3 (strR rv)
    exact .tuple (Heap.get?_push_of_some _ g1) rfl rfl (ReadsAll.cons (as := []) (bs := []) (.int _ t) (ReadsAll.cons (as := []) (bs := []) rin .nil))
  have hfst : (as.zip (prs.zip tt)).map (·.1) = as := List.map_fst_zip (by omega)
  have hsnd : (as.zip (prs.zip tt)).map (fun b => b.2.1) = prs := by
    have h1 : (as.zip (prs.zip tt)).map (·.2) = prs.zip tt := List.map_snd_zip (by omega)
    have h2 : (prs.zip tt).map (·.1) = prs := List.map_fst_zip (by omega)
    rw [← h1, List.map_map] at h2
    exact h2
  have henc : (as.zip (prs.zip tt)).map (fun b => itP b.2.1) = prs.map itP := by
    conv => rhs; rw [← hsnd]
    rw [List.map_map]
    rfl
  refine PySem.W.list_sort_data (bs := as.zip (prs.zip tt)) (enc := fun b => itP b.2.1) (R := fun v b => v = .ref b.1) hget (each_b (fun b m => rfl) ?_) (each_b (fun b m => ⟨[], rd b m, by simp⟩) ?_) (by rw [henc]; exact sok_len.1) (by rw [henc]; exact sok_len.2) (by rw [List.length_zip]; omega) (fun b m => ?_) fun out ho he => ?_
  · conv => lhs; rw [← hfst]
    rw [List.map_map]
    rfl
  · conv => lhs; rw [← hfst]
    rw [List.map_map]
    rfl
  · have := itP_dep b.2.1
    show X.A.units + 1 + 1 + (itP b.2.1).depth < cLine
    omega
  have he' := b_each he
  have hs : ((as.zip (prs.zip tt)).mergeSort (PySem.W.dataLe false fun b => itP b.2.1)).map (fun b => b.2.1) = prs.mergeSort leIt := by
    have := PySem.W.sort_maps (r := PySem.W.dataLe false fun b : B3 => itP b.2.1) (s := leIt) (fun b => b.2.1) (l := as.zip (prs.zip tt)) (fun a _ b _ => rfl)
    rw [hsnd] at this
    exact this
  have pmb : ((as.zip (prs.zip tt)).mergeSort (PySem.W.dataLe false fun b => itP b.2.1)).Perm (as.zip (prs.zip tt)) := List.mergeSort_perm ..
  generalize (as.zip (prs.zip tt)).mergeSort (PySem.W.dataLe false fun b => itP b.2.1) = sb at he' hs pmb
  obtain ⟨c, hc2⟩ := PyProof.Rows.sortedHeap_at (out := out.toArray) hget
  have I3 := laidT (tk := tk) I hkeep (fun x m => Nat.le_of_lt (G.above x m)) nd (by omega) tup
  have old : ∀ (b : Addr) (o : Obj), h'.get? b = some o → (sortedHeap (h'.push { cls := Value.type "list", data := Data.seq (as.map Value.ref).toArray }) h'.objs.size (as.map Value.ref) out.toArray).get? b = some o := fun b o h1 => by
    have h2 := PySem.Heap.lt_size h1
    rw [PyProof.Rows.sortedHeap_old (Nat.ne_of_lt h2) (by rw [PySem.Heap.size_push]; exact Nat.lt_succ_of_lt h2)]
    exact PySem.Heap.get?_push_of_some _ h1
  have pa : (sb.map (·.1)).Perm as := by rw [← hfst]; exact pmb.map _
  have inh : ∀ x ∈ as, x < h'.objs.size := fun x m => by
    obtain ⟨j, hj⟩ := List.getElem?_of_mem m
    have hjl := (List.getElem?_eq_some_iff.mp hj).1
    obtain ⟨key, z, g1, _, _⟩ := tup j x kvs[j] hj (List.getElem?_eq_getElem (by omega))
    exact Heap.lt_size g1
  have hq : h'.objs.size ∉ as := fun m => Nat.lt_irrefl _ (inh _ m)
  refine ⟨.ref h'.objs.size, _, I3.laid (t' := tk) old (Nat.le_refl _) (o := .lst ((sb.map (·.1)).map V.ref)) ?_, rfl, ?_⟩
  · refine ⟨?_, out, c, ?_, hc2⟩
    · rw [List.length_map, pa.length_eq]; omega
    · have h := LiI.vals_refs (sb.map fun b => b.1)
      rw [show (sb.map fun b => b.1).map Value.ref = sb.map fun b => Value.ref b.1 from by rw [List.map_map]; rfl] at h
      rw [he']
      exact h
  · have at2 := LiI.putT_at as kvs H (by omega) nd
    refine q h'.objs.size (sb.map (·.1)) (sb.map fun b => ((.inl b.2.1.1 : Key), V.ref b.2.2)) (sb.map fun b => b.2.1) _ ?_ ?_ (datK_maps fun b m => e3 b.2 (at_b b (pmb.mem_iff.mp m)).choose_spec.2.2) (fun b m => ?_) (fun b m => ?_) ?_ upd_same ?_
    · rw [hs]; exact List.mergeSort_perm ..
    · rw [hs]; exact List.pairwise_mergeSort leIt_trans leIt_total prs
    · have h1 : b ≠ h'.objs.size := fun e => m (by rw [e]; exact List.mem_cons_self ..)
      have h2 : b ∉ as := fun z => m (List.mem_cons_of_mem _ (pa.mem_iff.mpr z))
      rw [upd_ne h1, LiI.putT_off as kvs H h2]
    · rcases List.mem_cons.mp m with rfl | m
      · exact I1.hok.fresh (Nat.le_refl _)
      · exact I.hok.fresh (Nat.le_of_lt (G.above b (pa.mem_iff.mp m)))
    · exact List.nodup_cons.mpr ⟨fun m => hq (pa.mem_iff.mp m), pa.nodup_iff.mpr nd⟩
    · refine paired_maps fun b m => ?_
      obtain ⟨j, hj1, hk, _⟩ := at_b b (pmb.mem_iff.mp m)
      have hb : b.1 ∈ as := List.mem_of_getElem? hj1
      rw [upd_ne (fun e => hq (by rw [← e]; exact hb))]
      obtain ⟨y, hy, h3⟩ := LiI.paired_get at2 hj1
      rw [hk] at hy
      cases hy
      exact h3
theorem leIt_int {p q : Int × List Str} (h : leIt p q = true) : p.1 ≤ q.1 := by
  rcases Int.lt_or_le q.1 p.1 with z | z
  · exfalso
    simp only [leIt, PySem.W.dataLe, PySem.W.sortLe, cond_false, Bool.not_eq_true'] at h
    have e : ∀ r : Int × List Str, PySem.W.keyToks (itP r) = (.inl 1 : Int ⊕ List Nat) :: (.inl r.1 : Int ⊕ List Nat) :: PySem.W.keyToksAll [.tuple (r.2.map .str)] := fun r => by
      simp only [itP, PySem.W.keyToks, PySem.W.keyToksAll]
      rfl
    rw [e, e] at h
    have h : PyProof.Rows.lexLt itemOrd ((.inl 1 : Int ⊕ List Nat) :: (.inl q.1 : Int ⊕ List Nat) :: PySem.W.keyToksAll [.tuple (q.2.map .str)]) ((.inl 1 : Int ⊕ List Nat) :: (.inl p.1 : Int ⊕ List Nat) :: PySem.W.keyToksAll [.tuple (p.2.map .str)]) = false := h
    simp only [PyProof.Rows.lexLt, PyProof.Rows.itemLt, decide_eq_true z] at h
    simp at h
  · exact z
section
variable {K : PySem.W.Frag} {E : XK} {Ψ : XPost} {O : Own} {Δ : Env_} {k : Dt → Own → Prop} {te : TE}
/-- {key: value}: a new dict of one entry, owned -/
theorem wv_disp1N {tk tv : TE} {kk : Key} {x : Dt} (hk : Ev K E0 X0 tk Δ O (ex (keyD kk) O)) (hv : Ev K E0 X0 tv Δ O (ex x O)) (qk : ∀ p, k (.ref p) ((p, .dic [(kk, x)]) :: O)) : Ev K E Ψ (tDisp [(tk, tv)]) Δ O k := fun σ F H a bb c e Q q p hp => by
  have g0 := Gw.newOwn (O := O) (o := .dic []) (u := .dK []) c hp
  have b0 := (bb.newOwn (o := .dic []) (u := .dK []) c hp ⟨[], upd_same, .nil⟩).perm (List.perm_append_comm (l₁ := [_]))
  refine ev_frame (R := [(p, .dic [])]) hk (E' := E0) (Ψ := X0) σ F _ a b0 g0.sub .zero _ fun v1 F1 H1 d1 O1 g1 b1 k1 p1 => ?_
  obtain ⟨O2, rfl, rfl, rfl⟩ := p1
  refine ev_frame (R := [(p, .dic [])]) hv (E' := E0) (Ψ := X0) σ F1 H1 (a.mono g1.ext) b1 g1.sub .zero _ fun v2 F2 H2 d2 O3 g2 b2 k2 p2 => ?_
  obtain ⟨O4, rfl, rfl, rfl⟩ := p2
  have b3 := b2.perm (List.perm_append_comm (l₂ := [_]))
  have h2 : H2 p = some (.dK []) := by
    obtain ⟨_, kvs, e1, l⟩ := b3.at_ p (.dic []) (List.mem_cons_self ..)
    cases l
    exact e1
  obtain rfl := keyD_v k1
  refine ⟨h2, [(kk, v2)], rfl, by show 1 ≤ 15; decide, ?_⟩
  obtain ⟨b4, hm⟩ := b3.mut (i := 0) (u := .dK [(kk, v2)]) (o' := .dic [(kk, d2)]) rfl ⟨_, upd_same, .cons k2 .nil⟩
  have g4 := Gw.mut (u := .dK [(kk, v2)]) b3 g2.sub (p := p) (by simp) hm
  have gg := ((((g0.permR (List.perm_append_comm (l₁ := [_]))).trans g1).trans g2).permR (List.perm_append_comm (l₂ := [_]))).trans g4
  exact q _ _ _ _ _ gg b4 (.ref p) (qk p)
theorem datK_back {F : Hp} : ∀ {ts : List Addr} {ps : List (Key × V)} {prs : List (Int × List Str)} {H' : Hp}, Paired (fun t p => H' t = some (.tup [kV p.1, p.2])) ts ps → DatK K F ps (prs.map itK) → (∀ t ∈ ts, F t = H' t) → DatL K F (ts.map V.ref) (prs.map itD)
  | [], _, prs, _, pr, d, _ => by
    cases pr
    cases prs with
    | nil => exact .nil
    | cons p prs => cases d
  | t :: ts, _, prs, H', pr, d, hf => by
    cases pr with
    | cons h1 h2 =>
      cases prs with
      | nil => cases d
      | cons p prs =>
        cases d with
        | cons d1 d2 =>
          refine .cons (.tup (.of (by rw [hf t (.head _)]; exact h1)) (.cons (.int p.1) (.cons d1 .nil))) (datK_back h2 d2 fun x m => hf x (.tail _ m))
/-- sorted(d.items()) -/
theorem wv_sortItK (h : Ev K E Ψ te Δ O fun x O1 => ∃ p prs, x = .ref p ∧ (p, Ow.dic (prs.map itK)) ∈ O1 ∧ ∀ q (prs' : List (Int × List Str)), prs'.Perm prs → prs'.Pairwise (fun x y => leIt x y = true) → k (.ref q) ((q, .lst (prs'.map itD)) :: O1)) : Ev K E Ψ (tCB (rSortItK K) (tCons (tBM0 K "dict" rItemsK te) tNil)) Δ O k := fun σ F H a b c e Q qq => by
  refine h σ F H a b c e _ fun v F1 H1 x O1 g1 b1 k1 p1 => ?_
  obtain ⟨p, prs, rfl, m, hk⟩ := p1
  cases k1
  obtain ⟨_, kvs, hx, lx⟩ := b1.at_ p _ m
  refine ⟨?_, p, kvs, rfl, rfl, hx, fun r hr => ?_⟩
  · exact .inr (.inr (.inl ⟨rfl, .inl ⟨kvs, hx⟩⟩))
  show rSortItK K [.ref r] (upd H1 r (DX.itemsO r p)) Q
  have gj : Gw O1 F1 H1 O1 F1 (upd H1 r (DX.itemsO r p)) := Gw.junk g1.sub hr
  have bj : OwnOk K F1 (upd H1 r (DX.itemsO r p)) O1 := b1.junk hr
  have npr : p ≠ r := fun z => by rw [z, hr] at hx; cases hx
  refine ⟨r, p, kvs, prs, F1, rfl, upd_same, by rw [upd_ne npr]; exact hx, lx, gj.sub, fun q ts ps prs' H' hp hw hd hoff hno hnd hq hts => ?_⟩
  have qn : q ∉ ts := (List.nodup_cons.mp hnd).1
  let F' : Hp := fun a => if a ∈ ts then H' a else F1 a
  have fts : ∀ t ∈ ts, F' t = H' t := fun t m => if_pos m
  have foff : ∀ t, t ∉ ts → F' t = F1 t := fun t m => if_neg m
  have hold : ∀ a u, (upd H1 r (DX.itemsO r p)) a = some u → H' a = some u := fun a u e => by
    rw [hoff a fun m => by rw [hno a m] at e; cases e]; exact e
  have ext : Ex F1 F' := fun a u e => by
    rw [foff a fun m => by have := hno a (List.mem_cons_of_mem _ m); rw [gj.sub a u e] at this; cases this]; exact e
  have sub : Ex F' H' := fun a u e => by
    by_cases m : a ∈ ts
    · rw [fts a m] at e; exact e
    · rw [foff a m] at e; exact hold a u (gj.sub a u e)
  have hqn : (upd H1 r (DX.itemsO r p)) q = none := hno q (List.mem_cons_self ..)
  have gn : Gw O1 F1 (upd H1 r (DX.itemsO r p)) ((q, .lst (prs'.map itD)) :: O1) F' H' := by
    refine ⟨ext, sub, fun a o _ e => hold a o e, fun a e => ?_, fun a e _ => ?_, fun a m => ?_⟩
    · cases hh : (upd H1 r (DX.itemsO r p)) a with
      | none => exact absurd hh e
      | some u => rw [hold a u hh]; simp
    · exact foff a fun m => e (hno a (List.mem_cons_of_mem _ m))
    · simp only [List.map_cons, List.mem_cons] at m
      rcases m with rfl | m
      · exact .inr hqn
      · exact .inl m
  have bn : OwnOk K F' H' ((q, .lst (prs'.map itD)) :: O1) := by
    refine ⟨?_, fun a o m => ?_⟩
    · simp only [List.map_cons, List.nodup_cons]
      exact ⟨fun m => bj.there m hqn, bj.nd⟩
    · rcases List.mem_cons.mp m with z | m
      · cases z
        refine ⟨?_, ts.map V.ref, hq, ?_⟩
        · rw [foff q qn]
          cases z : F1 q with
          | none => rfl
          | some w => rw [gj.sub q w z] at hqn; cases hqn
        · exact datK_back hts (DatK.mono ext hd) fts
      · have hp := bj.at_ a o m
        have ha : a ∉ ts := fun z => hp.2.there (hno a (List.mem_cons_of_mem _ z))
        exact ⟨by rw [foff a ha]; exact hp.1, hp.2.mono ext fun u e => hold a u e⟩
  exact qq _ F' H' (.ref q) _ ((g1.trans gj).trans gn) bn (.ref q) (hk q prs' hp hw)
end
end FF
set_option Elab.async false
set_option linter.all false
set_option maxRecDepth 100000
set_option maxHeartbeats 1000000
/-! words in their order: the shorter ones ahead, those of one length by their names -/
namespace FF
open PySem PySem.Spec PyProof.Rows L2
abbrev Wd : Type := List Str
def lxW : Wd → Wd → Prop
  | a :: u, b :: v => (leS a b = true ∧ a ≠ b) ∨ (a = b ∧ lxW u v)
  | _, _ => False
def slW (u v : Wd) : Prop := u.length < v.length ∨ (u.length = v.length ∧ lxW u v)
def sleW (u v : Wd) : Prop := u = v ∨ slW u v
theorem lx_irr : ∀ {u : Wd}, ¬ lxW u u
  | [], h => h
  | a :: u, h => h.elim (fun h => h.2 rfl) fun h => lx_irr h.2
theorem lx_trans : ∀ {u v w : Wd}, lxW u v → lxW v w → lxW u w
  | a :: u, b :: v, c :: w, h1, h2 => by
    rcases h1 with ⟨h1, n1⟩ | ⟨rfl, h1⟩ <;> rcases h2 with ⟨h2, n2⟩ | ⟨rfl, h2⟩
    · refine .inl ⟨leS_trans _ _ _ h1 h2, fun e => ?_⟩
      subst e
      exact n1 (leS_anti h1 h2)
    · exact .inl ⟨h1, n1⟩
    · exact .inl ⟨h2, n2⟩
    · exact .inr ⟨rfl, lx_trans h1 h2⟩
  | [], _, _, h1, _ => h1.elim
  | _ :: _, [], _, h1, _ => h1.elim
  | _ :: _, _ :: _, [], _, h2 => h2.elim
theorem lx_tri : ∀ {u v : Wd}, u.length = v.length → lxW u v ∨ u = v ∨ lxW v u
  | [], [], _ => .inr (.inl rfl)
  | a :: u, b :: v, h => by
    by_cases e : a = b
    · subst e
      rcases lx_tri (u := u) (v := v) (by simpa using h) with h | h | h
      · exact .inl (.inr ⟨rfl, h⟩)
      · exact .inr (.inl (by rw [h]))
      · exact .inr (.inr (.inr ⟨rfl, h⟩))
    · rcases Bool.or_eq_true_iff.mp (leS_total a b) with h | h
      · exact .inl (.inl ⟨h, e⟩)
      · exact .inr (.inr (.inl ⟨h, fun z => e z.symm⟩))
  | [], _ :: _, h => by simp at h
  | _ :: _, [], h => by simp at h
theorem sl_irr {u : Wd} (h : slW u u) : False := h.elim (fun h => Nat.lt_irrefl _ h) fun h => lx_irr h.2
theorem sl_trans {u v w : Wd} (h1 : slW u v) (h2 : slW v w) : slW u w := by
  rcases h1 with h1 | ⟨e1, h1⟩ <;> rcases h2 with h2 | ⟨e2, h2⟩
  · exact .inl (by omega)
  · exact .inl (by omega)
  · exact .inl (by omega)
  · exact .inr ⟨by omega, lx_trans h1 h2⟩
theorem sle_trans {u v w : Wd} (h1 : sleW u v) (h2 : sleW v w) : sleW u w := by
  rcases h1 with rfl | h1
  · exact h2
  · rcases h2 with rfl | h2
    · exact .inr h1
    · exact .inr (sl_trans h1 h2)
theorem sle_anti {u v : Wd} (h1 : sleW u v) (h2 : sleW v u) : u = v := by
  rcases h1 with h1 | h1
  · exact h1
  · rcases h2 with h2 | h2
    · exact h2.symm
    · exact (sl_irr (sl_trans h1 h2)).elim
theorem lx_snoc : ∀ {u v : Wd} {s t : Str}, lxW u v → lxW (u ++ [s]) (v ++ [t])
  | a :: u, b :: v, s, t, h => h.elim (fun h => .inl h) fun h => .inr ⟨h.1, lx_snoc h.2⟩
  | [], _, _, _, h => h.elim
  | _ :: _, [], _, _, h => h.elim
theorem lx_last : ∀ {u : Wd} {s t : Str}, leS s t = true → s ≠ t → lxW (u ++ [s]) (u ++ [t])
  | [], s, t, h, n => .inl ⟨h, n⟩
  | a :: u, s, t, h, n => .inr ⟨rfl, lx_last h n⟩
theorem sl_snoc {u v : Wd} {s t : Str} (h : slW u v) : slW (u ++ [s]) (v ++ [t]) := by
  rcases h with h | ⟨e, h⟩
  · exact .inl (by simp; omega)
  · exact .inr ⟨by simp [e], lx_snoc h⟩
theorem sle_snoc {u v : Wd} {s : Str} (h : sleW u v) : sleW (u ++ [s]) (v ++ [s]) := h.elim (fun h => .inl (by rw [h])) fun h => .inr (sl_snoc h)
/-! sorting (word, value) pairs of one length -/
abbrev wvD (c : Wd × Nat) : Dt := .tup [wdV c.1, .int (c.2 : Int)]
theorem lex_w {l l' : List (Int ⊕ List Nat)} : ∀ {u v : Wd}, u.length = v.length → lxW u v → PyProof.Rows.lexLt itemOrd (PySem.W.keyToksAll (u.map .str) ++ l) (PySem.W.keyToksAll (v.map .str) ++ l') = true
  | [], _, _, h => h.elim
  | _ :: _, [], _, h => h.elim
  | a :: u, b :: v, e, h => by
    have ih := fun h => lex_w (l := l) (l' := l') (u := u) (v := v) (by simpa using e) h
    have k : ∀ (c : Str) (w : Wd) (m : List (Int ⊕ List Nat)), PySem.W.keyToksAll ((c :: w).map .str) ++ m = (.inl 1 : Int ⊕ List Nat) :: (.inr c.cps.toList : Int ⊕ List Nat) :: (PySem.W.keyToksAll (w.map .str) ++ m) := fun c w m => by
      simp only [List.map_cons, PySem.W.keyToksAll, PySem.W.keyToks]
      rfl
    rw [k, k]
    simp only [PyProof.Rows.lexLt, PyProof.Rows.itemLt]
    rcases h with ⟨h1, h2⟩ | ⟨rfl, h1⟩
    · have h3 : a.cps.toList ≤ b.cps.toList := by rw [leS_eq] at h1; exact of_decide_eq_true h1
      have h4 : a.cps.toList < b.cps.toList := by
        rcases List.le_iff_lt_or_eq.mp h3 with z | z
        · exact z
        · exact absurd (str_ext z) h2
      simp [h4]
    · have h4 : ¬ a.cps.toList < a.cps.toList := List.lt_irrefl _
      simp [h4, ih h1]
theorem leD_w {c d : Wd × Nat} (e : c.1.length = d.1.length) (h : leD (wvD c) (wvD d) = true) : sleW c.1 d.1 := by
  rcases lx_tri e with z | z | z
  · exact .inr (.inr ⟨e, z⟩)
  · exact .inl z
  · exfalso
    have k : ∀ c : Wd × Nat, PySem.W.keyToks (wvD c).py = (.inl 1 : Int ⊕ List Nat) :: (PySem.W.keyToksAll (c.1.map .str) ++ PySem.W.keyToksAll [.int (c.2 : Int)]) := fun c => by
      have e1 : pyL (c.1.map Dt.str) = c.1.map PyData.str := by rw [pyL_map, List.map_map]; rfl
      show PySem.W.keyToks (.tuple [.tuple (pyL (c.1.map Dt.str)), .int (c.2 : Int)]) = _
      rw [e1]
      simp only [PySem.W.keyToks, PySem.W.keyToksAll]
    have h1 := lex_w (l := PySem.W.keyToksAll [.int (d.2 : Int)]) (l' := PySem.W.keyToksAll [.int (c.2 : Int)]) e.symm z
    simp only [leD, PySem.W.dataLe, PySem.W.sortLe, cond_false, Bool.not_eq_true'] at h
    rw [k, k] at h
    have h : PyProof.Rows.lexLt itemOrd ((.inl 1 : Int ⊕ List Nat) :: (PySem.W.keyToksAll (d.1.map .str) ++ PySem.W.keyToksAll [.int (d.2 : Int)])) ((.inl 1 : Int ⊕ List Nat) :: (PySem.W.keyToksAll (c.1.map .str) ++ PySem.W.keyToksAll [.int (c.2 : Int)])) = false := h
    simp only [PyProof.Rows.lexLt] at h
    rw [h1] at h
    simp [PyProof.Rows.itemLt] at h
theorem so_wv {cs : List (Wd × Nat)} (ho : ∀ c ∈ cs, ∀ s ∈ c.1, PyData.strOk s = true) : SoOk (cs.map wvD) := by
  have al : ∀ (u v : List Str), PySem.W.alikeAll (pyL (u.map Dt.str)) (pyL (v.map Dt.str)) = true := fun u => by
    induction u with
    | nil => intro v; cases v <;> rfl
    | cons a u ih =>
      intro v
      cases v with
      | nil => rfl
      | cons b v =>
        have := ih v
        simp only [List.map_cons, pyL, PySem.W.alikeAll, this]
        rfl
  have hm : ∀ x ∈ pyL (cs.map wvD), ∃ c ∈ cs, x = (wvD c).py := fun x m => by
    rw [pyL_map, List.map_map] at m
    obtain ⟨c, mc, rfl⟩ := List.mem_map.mp m
    exact ⟨c, mc, rfl⟩
  have dp : ∀ u : List Str, PyData.depthAll (pyL (u.map Dt.str)) = 0 := fun u => by
    induction u with
    | nil => rfl
    | cons a u ih => simp [pyL, Dt.py, PyData.depthAll, PyData.depth, ih]
  refine ⟨?_, fun d m d' m' => ?_, .inl fun d m => ?_, fun d m => ?_⟩
  · rw [okL_all, List.all_eq_true]
    intro d m
    obtain ⟨c, mc, rfl⟩ := List.mem_map.mp m
    simp only [Dt.ok, okL, okL_all, Bool.and_true, List.all_map]
    exact List.all_eq_true.mpr fun s hs => ho c mc s hs
  · obtain ⟨c, _, rfl⟩ := hm d m
    obtain ⟨c', _, rfl⟩ := hm d' m'
    have := al c.1 c'.1
    simp only [Dt.py, pyL, PySem.W.alike, PySem.W.alikeAll, this]
    rfl
  · obtain ⟨c, _, rfl⟩ := hm d m
    exact ⟨_, _, by simp only [Dt.py, pyL]; rfl⟩
  · obtain ⟨c, _, rfl⟩ := List.mem_map.mp m
    simp only [Dt.py, pyL, PyData.depth, PyData.depthAll, dp]
    omega
/-! the least of the shortest words -/
section
variable {ns : List Str} {stp : Str → Nat → Nat} {b : Nat}
def rn (stp : Str → Nat → Nat) (b : Nat) (w : Wd) : Nat := w.foldl (fun v s => stp s v) b
theorem rn_snoc {w : Wd} {s : Str} : rn stp b (w ++ [s]) = stp s (rn stp b w) := by unfold rn; rw [List.foldl_append]; rfl
abbrev okW (ns : List Str) (w : Wd) : Prop := ∀ s ∈ w, s ∈ ns
def LW (ns : List Str) (stp : Str → Nat → Nat) (b : Nat) (v : Nat) (w : Wd) : Prop := okW ns w ∧ rn stp b w = v ∧ ∀ w', okW ns w' → rn stp b w' = v → sleW w w'
theorem ok_snoc {w : Wd} {s : Str} (h : okW ns w) (hs : s ∈ ns) : okW ns (w ++ [s]) := fun t m => by
  rcases List.mem_append.mp m with m | m
  · exact h t m
  · rw [List.mem_singleton.mp m]; exact hs
theorem lw_of {ws : List (Nat × Wd)} (nd : (ws.map (·.1)).Nodup) (ok : ∀ p ∈ ws, okW ns p.2 ∧ rn stp b p.2 = p.1) (all : ∀ w, okW ns w → ∃ p ∈ ws, p.1 = rn stp b w ∧ sleW p.2 w) (v : Nat) (w : Wd) : (v, w) ∈ ws ↔ LW ns stp b v w := by
  have uniq : ∀ p ∈ ws, ∀ q ∈ ws, p.1 = q.1 → p = q := fun p hp q hq e => by
    obtain ⟨i, hi⟩ := List.getElem?_of_mem hp
    obtain ⟨j, hj⟩ := List.getElem?_of_mem hq
    have h1 : (ws.map (·.1))[i]? = some p.1 := by rw [List.getElem?_map, hi]; rfl
    have h2 : (ws.map (·.1))[j]? = some p.1 := by rw [List.getElem?_map, hj, e]; rfl
    have hl : i < (ws.map (·.1)).length := (List.getElem?_eq_some_iff.mp h1).1
    have : i = j := (List.getElem?_inj hl nd).mp (h1.trans h2.symm)
    subst this
    rw [hi] at hj
    exact Option.some.inj hj
  constructor
  · intro m
    obtain ⟨h1, h2⟩ := ok _ m
    refine ⟨h1, h2, fun w' hw' e => ?_⟩
    obtain ⟨p, hp, e1, h3⟩ := all w' hw'
    have := uniq p hp _ m (e1.trans e)
    rw [this] at h3
    exact h3
  · rintro ⟨h1, h2, h3⟩
    obtain ⟨p, hp, e1, h4⟩ := all w h1
    have h5 := h3 p.2 (ok p hp).1 ((ok p hp).2.trans (e1.trans h2))
    have e2 : p.2 = w := sle_anti h4 h5
    have : p = (v, w) := by
      cases p
      simp only at e1 e2
      rw [e1, e2, h2]
    rw [← this]
    exact hp
/-- pairs ascending -/
structure WVs (ns : List Str) (stp : Str → Nat → Nat) (b : Nat) (ps : List (Nat × Wd)) : Prop where
  asc : ps.Pairwise fun p q => p.1 < q.1
  mem : ∀ v w, (v, w) ∈ ps ↔ LW ns stp b v w
theorem wvs_uniq {ps qs : List (Nat × Wd)} (h : WVs ns stp b ps) (k : WVs ns stp b qs) : ps = qs := by
  have pm : ps.Perm qs := (List.perm_ext_iff_of_nodup (h.asc.imp fun h e => by rw [e] at h; exact Nat.lt_irrefl _ h) (k.asc.imp fun h e => by rw [e] at h; exact Nat.lt_irrefl _ h)).mpr fun p => by
    obtain ⟨v, w⟩ := p
    rw [h.mem, k.mem]
  refine pm.eq_of_pairwise (le := fun p q => p.1 < q.1) ?_ h.asc k.asc
  intro p q _ _ h1 h2
  exact absurd h1 (by omega)
/-! by a queue -/
structure Qu (ns : List Str) (stp : Str → Nat → Nat) (b : Nat) (ws : List (Nat × Wd)) (a j : Nat) : Prop where
  hd : ws[0]? = some (b, [])
  nd : (ws.map (·.1)).Nodup
  inc : ws.Pairwise fun p q => slW p.2 q.2
  ok : ∀ p ∈ ws, okW ns p.2 ∧ rn stp b p.2 = p.1
  src : ∀ p ∈ ws, p.2 = [] ∨ ∃ i q s l, ws[i]? = some q ∧ ns[l]? = some s ∧ p.2 = q.2 ++ [s] ∧ (i < a ∨ (i = a ∧ l < j))
  dn : ∀ i q l s, ws[i]? = some q → ns[l]? = some s → (i < a ∨ (i = a ∧ l < j)) → ∃ p ∈ ws, p.1 = stp s q.1 ∧ sleW p.2 (q.2 ++ [s])
theorem qu_start : Qu ns stp b [(b, [])] 0 0 :=
  ⟨rfl, by simp, List.pairwise_singleton .., fun p m => by rw [List.mem_singleton.mp m]; exact ⟨fun s m => (nomatch m), rfl⟩, fun p m => by rw [List.mem_singleton.mp m]; exact .inl rfl, fun i q l s _ _ h => by omega⟩
theorem qu_bound {ws : List (Nat × Wd)} {a j : Nat} {q : Nat × Wd} {s : Str} (Q : Qu ns stp b ws a j) (hr : RiseS ns) (nn : ns.Nodup) (ha : ws[a]? = some q) (hj : ns[j]? = some s) : ∀ p ∈ ws, slW p.2 (q.2 ++ [s]) := fun p m => by
  rcases Q.src p m with h | ⟨i, q', s', l, h1, h2, h3, h4⟩
  · rw [h]; exact .inl (by simp)
  · rw [h3]
    rcases h4 with h4 | ⟨rfl, h4⟩
    · refine sl_snoc ?_
      have hl := (List.getElem?_eq_some_iff.mp ha).1
      have := List.pairwise_iff_getElem.mp Q.inc i a (by omega) hl h4
      rw [List.getElem?_eq_getElem (by omega)] at h1
      rw [List.getElem?_eq_getElem hl] at ha
      rw [Option.some.inj h1, Option.some.inj ha] at this
      exact this
    · rw [ha] at h1
      cases h1
      have hl := (List.getElem?_eq_some_iff.mp hj).1
      have := List.pairwise_iff_getElem.mp (hr.and nn) l j (by omega) hl h4
      rw [List.getElem?_eq_getElem (by omega)] at h2
      rw [List.getElem?_eq_getElem hl] at hj
      rw [Option.some.inj h2, Option.some.inj hj] at this
      exact .inr ⟨by simp, lx_last this.1 this.2⟩
theorem qu_old {ws : List (Nat × Wd)} {a j : Nat} {q : Nat × Wd} {s : Str} (Q : Qu ns stp b ws a j) (hr : RiseS ns) (nn : ns.Nodup) (ha : ws[a]? = some q) (hj : ns[j]? = some s) (h : stp s q.1 ∈ ws.map (·.1)) : Qu ns stp b ws a (j + 1) := by
  have hb := qu_bound Q hr nn ha hj
  refine ⟨Q.hd, Q.nd, Q.inc, Q.ok, fun p m => (Q.src p m).imp id fun ⟨i, q, s, l, h1, h2, h3, h4⟩ => ⟨i, q, s, l, h1, h2, h3, h4.imp id fun h => ⟨h.1, by omega⟩⟩, fun i q' l s' h1 h2 h3 => ?_⟩
  by_cases e : i = a ∧ l = j
  · obtain ⟨rfl, rfl⟩ := e
    rw [ha] at h1
    rw [hj] at h2
    cases h1; cases h2
    obtain ⟨p, hp, e⟩ := List.mem_map.mp h
    exact ⟨p, hp, e, .inr (hb p hp)⟩
  · exact Q.dn i q' l s' h1 h2 (h3.imp id fun h => ⟨h.1, by omega⟩)
theorem qu_new {ws : List (Nat × Wd)} {a j : Nat} {q : Nat × Wd} {s : Str} (Q : Qu ns stp b ws a j) (hr : RiseS ns) (nn : ns.Nodup) (ha : ws[a]? = some q) (hj : ns[j]? = some s) (h : stp s q.1 ∉ ws.map (·.1)) : Qu ns stp b (ws ++ [(stp s q.1, q.2 ++ [s])]) a (j + 1) := by
  have hb := qu_bound Q hr nn ha hj
  have hl := (List.getElem?_eq_some_iff.mp ha).1
  have hsn := List.mem_of_getElem? hj
  have hok := Q.ok q (List.mem_of_getElem? ha)
  have at_ : ∀ i, i < ws.length → (ws ++ [(stp s q.1, q.2 ++ [s])])[i]? = ws[i]? := fun i hi => List.getElem?_append_left hi
  refine ⟨by rw [at_ 0 (by omega)]; exact Q.hd, ?_, ?_, fun p m => ?_, fun p m => ?_, fun i q' l s' h1 h2 h3 => ?_⟩
  · rw [List.map_append, List.nodup_append]
    exact ⟨Q.nd, by simp, fun x hx y hy e => h (by simp at hy; rw [← hy, ← e]; exact hx)⟩
  · rw [List.pairwise_append]
    exact ⟨Q.inc, List.pairwise_singleton .., fun p hp y hy => by rw [List.mem_singleton.mp hy]; exact hb p hp⟩
  · rcases List.mem_append.mp m with m | m
    · exact Q.ok p m
    · rw [List.mem_singleton.mp m]
      exact ⟨ok_snoc hok.1 hsn, by rw [rn_snoc, hok.2]⟩
  · rcases List.mem_append.mp m with m | m
    · refine (Q.src p m).imp id fun ⟨i, q', s', l, h1, h2, h3, h4⟩ => ⟨i, q', s', l, ?_, h2, h3, h4.imp id fun h => ⟨h.1, by omega⟩⟩
      rw [at_ i (List.getElem?_eq_some_iff.mp h1).1]; exact h1
    · rw [List.mem_singleton.mp m]
      exact .inr ⟨a, q, s, j, by rw [at_ a hl]; exact ha, hj, rfl, .inr ⟨rfl, by omega⟩⟩
  · have hi : i < ws.length := by omega
    rw [at_ i hi] at h1
    by_cases e : i = a ∧ l = j
    · obtain ⟨rfl, rfl⟩ := e
      rw [ha] at h1
      rw [hj] at h2
      cases h1; cases h2
      exact ⟨_, List.mem_append_right _ (List.mem_singleton.mpr rfl), rfl, .inl rfl⟩
    · obtain ⟨p, hp, h4⟩ := Q.dn i q' l s' h1 h2 (h3.imp id fun h => ⟨h.1, by omega⟩)
      exact ⟨p, List.mem_append_left _ hp, h4⟩
theorem qu_next {ws : List (Nat × Wd)} {a : Nat} (Q : Qu ns stp b ws a ns.length) : Qu ns stp b ws (a + 1) 0 :=
  ⟨Q.hd, Q.nd, Q.inc, Q.ok, fun p m => (Q.src p m).imp id fun ⟨i, q, s, l, h1, h2, h3, h4⟩ => ⟨i, q, s, l, h1, h2, h3, .inl (by omega)⟩, fun i q l s h1 h2 h3 => Q.dn i q l s h1 h2 (by
    have := (List.getElem?_eq_some_iff.mp h2).1
    omega)⟩
theorem qu_all {ws : List (Nat × Wd)} (Q : Qu ns stp b ws ws.length 0) : ∀ w, okW ns w → ∃ p ∈ ws, p.1 = rn stp b w ∧ sleW p.2 w := by
  have key : ∀ n (w : Wd), w.length = n → okW ns w → ∃ p ∈ ws, p.1 = rn stp b w ∧ sleW p.2 w := fun n => by
    induction n with
    | zero =>
      intro w hw _
      obtain rfl := List.eq_nil_of_length_eq_zero hw
      exact ⟨_, List.mem_of_getElem? Q.hd, rfl, .inl rfl⟩
    | succ n ih =>
      intro w hw hok
      rcases List.eq_nil_or_concat w with rfl | ⟨u, s, rfl⟩
      · simp at hw
      · rw [List.concat_eq_append] at hw hok ⊢
        obtain ⟨q, hq, e1, h1⟩ := ih u (by simpa using hw) fun t m => hok t (List.mem_append_left _ m)
        obtain ⟨i, hi⟩ := List.getElem?_of_mem hq
        obtain ⟨l, hl⟩ := List.getElem?_of_mem (hok s (List.mem_append_right _ (List.mem_singleton.mpr rfl)))
        obtain ⟨p, hp, e2, h2⟩ := Q.dn i q l s hi hl (.inl (List.getElem?_eq_some_iff.mp hi).1)
        exact ⟨p, hp, by rw [e2, e1, rn_snoc], sle_trans h2 (sle_snoc h1)⟩
  exact fun w => key w.length w rfl
theorem qu_lw {ws : List (Nat × Wd)} (Q : Qu ns stp b ws ws.length 0) (v : Nat) (w : Wd) : (v, w) ∈ ws ↔ LW ns stp b v w := lw_of Q.nd Q.ok (qu_all Q) v w
/-! by lengths -/
structure Lv (ns : List Str) (stp : Str → Nat → Nat) (b : Nat) (fs : List (Nat × Wd)) (cs : List (Wd × Nat)) (k : Nat) : Prop where
  nd : (fs.map (·.1)).Nodup
  ok : ∀ p ∈ fs, okW ns p.2 ∧ rn stp b p.2 = p.1
  len : ∀ p ∈ fs, p.2.length ≤ k
  cur : ∀ c, c ∈ cs ↔ (c.2, c.1) ∈ fs ∧ c.1.length = k
  all : ∀ w, okW ns w → w.length ≤ k → ∃ p ∈ fs, p.1 = rn stp b w ∧ sleW p.2 w
theorem lv_start : Lv ns stp b [(b, [])] [([], b)] 0 := by
  refine ⟨by simp, fun p m => by rw [List.mem_singleton.mp m]; exact ⟨fun s m => (nomatch m), rfl⟩, fun p m => by rw [List.mem_singleton.mp m]; exact Nat.le_refl _, fun c => ?_, fun w h hl => ?_⟩
  · rw [List.mem_singleton, List.mem_singleton]
    constructor
    · rintro rfl; exact ⟨rfl, rfl⟩
    · rintro ⟨h, _⟩
      cases c
      simp only [Prod.mk.injEq] at h
      rw [h.1, h.2]
  · obtain rfl : w = [] := List.eq_nil_of_length_eq_zero (by omega)
    exact ⟨_, List.mem_singleton.mpr rfl, rfl, .inl rfl⟩
theorem lv_end {fs : List (Nat × Wd)} {k : Nat} (L : Lv ns stp b fs [] k) : ∀ w, okW ns w → ∃ p ∈ fs, p.1 = rn stp b w ∧ sleW p.2 w := by
  have key : ∀ n (w : Wd), w.length = n → okW ns w → ∃ p ∈ fs, p.1 = rn stp b w ∧ sleW p.2 w := fun n => by
    induction n with
    | zero => exact fun w hw h => L.all w h (by omega)
    | succ n ih =>
      intro w hw hok
      rcases List.eq_nil_or_concat w with rfl | ⟨u, s, rfl⟩
      · simp at hw
      · rw [List.concat_eq_append] at hw hok ⊢
        have hs := hok s (List.mem_append_right _ (List.mem_singleton.mpr rfl))
        obtain ⟨p, hp, e1, h1⟩ := ih u (by simpa using hw) fun t m => hok t (List.mem_append_left _ m)
        have hl := L.len p hp
        have hk : p.2.length ≠ k := fun e => by
          have := (L.cur (p.2, p.1)).mpr ⟨hp, e⟩
          cases this
        obtain ⟨p', hp', e2, h2⟩ := L.all (p.2 ++ [s]) (ok_snoc (L.ok p hp).1 hs) (by simp; omega)
        exact ⟨p', hp', by rw [e2, rn_snoc, rn_snoc, (L.ok p hp).2, e1], sle_trans h2 (sle_snoc h1)⟩
  exact fun w => key w.length w rfl
theorem lv_lw {fs : List (Nat × Wd)} {k : Nat} (L : Lv ns stp b fs [] k) (v : Nat) (w : Wd) : (v, w) ∈ fs ↔ LW ns stp b v w := lw_of L.nd L.ok (lv_end L) v w
/-- within a round -/
structure Ls (ns : List Str) (stp : Str → Nat → Nat) (b : Nat) (fs : List (Nat × Wd)) (k : Nat) (ls : List (Wd × Nat)) (i : Nat) (fs' : List (Nat × Wd)) (cs' : List (Wd × Nat)) : Prop where
  nd : (fs'.map (·.1)).Nodup
  ok : ∀ p ∈ fs', okW ns p.2 ∧ rn stp b p.2 = p.1
  len : ∀ p ∈ fs', p.2.length ≤ k + 1
  cur : ∀ c, c ∈ cs' ↔ (c.2, c.1) ∈ fs' ∧ c.1.length = k + 1
  old : ∀ p ∈ fs, p ∈ fs'
  seen : ∀ c ∈ ls.take i, ∃ p ∈ fs', p.1 = c.2 ∧ sleW p.2 c.1
  new : ∀ p ∈ fs', p.2.length = k + 1 → (p.2, p.1) ∈ ls.take i
  few : fs'.length = fs.length + cs'.length
theorem ls_start {fs : List (Nat × Wd)} {cs : List (Wd × Nat)} {k : Nat} {ls : List (Wd × Nat)} (L : Lv ns stp b fs cs k) : Ls ns stp b fs k ls 0 fs [] :=
  ⟨L.nd, L.ok, fun p m => by have := L.len p m; omega, fun c => ⟨fun m => (nomatch m), fun ⟨m, e⟩ => by have := L.len _ m; simp only at this; omega⟩, fun p m => m, fun c m => by simp at m, fun p m e => by have := L.len p m; omega, by simp⟩
theorem ls_old {fs : List (Nat × Wd)} {k i : Nat} {ls : List (Wd × Nat)} {fs' : List (Nat × Wd)} {cs' : List (Wd × Nat)} {c : Wd × Nat} (S : Ls ns stp b fs k ls i fs' cs') (hs : ls.Pairwise fun c d => sleW c.1 d.1) (hl : ∀ c ∈ ls, c.1.length = k + 1) (hi : ls[i]? = some c) (h : c.2 ∈ fs'.map (·.1)) : Ls ns stp b fs k ls (i + 1) fs' cs' := by
  have et : ls.take (i + 1) = ls.take i ++ [c] := take_snoc hi
  refine ⟨S.nd, S.ok, S.len, S.cur, S.old, fun d m => ?_, fun p m e => by rw [et]; exact List.mem_append_left _ (S.new p m e), S.few⟩
  rw [et] at m
  rcases List.mem_append.mp m with m | m
  · exact S.seen d m
  · rw [List.mem_singleton.mp m]
    obtain ⟨p, hp, e⟩ := List.mem_map.mp h
    refine ⟨p, hp, e, ?_⟩
    have hc := hl c (List.mem_of_getElem? hi)
    by_cases hk : p.2.length = k + 1
    · obtain ⟨j, hj⟩ := List.getElem?_of_mem (S.new p hp hk)
      have hji : j < i := by
        have := (List.getElem?_eq_some_iff.mp hj).1
        rw [List.length_take] at this
        omega
      rw [List.getElem?_take_of_lt hji] at hj
      have hil := (List.getElem?_eq_some_iff.mp hi).1
      have := List.pairwise_iff_getElem.mp hs j i (by omega) hil hji
      rw [List.getElem?_eq_getElem (by omega)] at hj
      rw [List.getElem?_eq_getElem hil] at hi
      rw [Option.some.inj hj, Option.some.inj hi] at this
      exact this
    · have := S.len p hp
      exact .inr (.inl (by omega))
theorem ls_new {fs : List (Nat × Wd)} {k i : Nat} {ls : List (Wd × Nat)} {fs' : List (Nat × Wd)} {cs' : List (Wd × Nat)} {c : Wd × Nat} (S : Ls ns stp b fs k ls i fs' cs') (hl : ∀ c ∈ ls, c.1.length = k + 1) (ho : ∀ c ∈ ls, okW ns c.1 ∧ rn stp b c.1 = c.2) (hi : ls[i]? = some c) (h : c.2 ∉ fs'.map (·.1)) : Ls ns stp b fs k ls (i + 1) (fs' ++ [(c.2, c.1)]) (cs' ++ [c]) := by
  have et : ls.take (i + 1) = ls.take i ++ [c] := take_snoc hi
  have hm := List.mem_of_getElem? hi
  refine ⟨?_, fun p m => ?_, fun p m => ?_, fun d => ?_, fun p m => List.mem_append_left _ (S.old p m), fun d m => ?_, fun p m e => ?_, by have := S.few; simp; omega⟩
  · rw [List.map_append, List.nodup_append]
    exact ⟨S.nd, by simp, fun x hx y hy e => h (by simp at hy; rw [← hy, ← e]; exact hx)⟩
  · rcases List.mem_append.mp m with m | m
    · exact S.ok p m
    · rw [List.mem_singleton.mp m]; exact ho c hm
  · rcases List.mem_append.mp m with m | m
    · exact S.len p m
    · rw [List.mem_singleton.mp m]; exact Nat.le_of_eq (hl c hm)
  · rw [List.mem_append, List.mem_append, List.mem_singleton, List.mem_singleton, S.cur]
    constructor
    · rintro (⟨h1, h2⟩ | rfl)
      · exact ⟨.inl h1, h2⟩
      · exact ⟨.inr rfl, hl _ hm⟩
    · rintro ⟨h1 | h1, h2⟩
      · exact .inl ⟨h1, h2⟩
      · refine .inr ?_
        cases d; cases c
        simp only [Prod.mk.injEq] at h1 ⊢
        exact ⟨h1.2, h1.1⟩
  · rw [et] at m
    rcases List.mem_append.mp m with m | m
    · obtain ⟨p, hp, h1⟩ := S.seen d m
      exact ⟨p, List.mem_append_left _ hp, h1⟩
    · rw [List.mem_singleton.mp m]
      exact ⟨_, List.mem_append_right _ (List.mem_singleton.mpr rfl), rfl, .inl rfl⟩
  · rw [et]
    rcases List.mem_append.mp m with m | m
    · exact List.mem_append_left _ (S.new p m e)
    · rw [List.mem_singleton.mp m]; exact List.mem_append_right _ (List.mem_singleton.mpr rfl)
theorem ls_end {fs : List (Nat × Wd)} {cs : List (Wd × Nat)} {k : Nat} {ls : List (Wd × Nat)} {fs' : List (Nat × Wd)} {cs' : List (Wd × Nat)} (L : Lv ns stp b fs cs k) (hls : ∀ c ∈ cs, ∀ s ∈ ns, (c.1 ++ [s], stp s c.2) ∈ ls) (S : Ls ns stp b fs k ls ls.length fs' cs') : Lv ns stp b fs' cs' (k + 1) := by
  refine ⟨S.nd, S.ok, S.len, S.cur, fun w hok hw => ?_⟩
  have lift : (∃ p ∈ fs, p.1 = rn stp b w ∧ sleW p.2 w) → ∃ p ∈ fs', p.1 = rn stp b w ∧ sleW p.2 w := fun ⟨p, hp, h⟩ => ⟨p, S.old p hp, h⟩
  by_cases hk : w.length ≤ k
  · exact lift (L.all w hok hk)
  · rcases List.eq_nil_or_concat w with rfl | ⟨u, s, rfl⟩
    · simp at hk
    · rw [List.concat_eq_append] at hw hok hk lift ⊢
      simp at hw hk
      have hs := hok s (List.mem_append_right _ (List.mem_singleton.mpr rfl))
      obtain ⟨p, hp, e1, h1⟩ := L.all u (fun t m => hok t (List.mem_append_left _ m)) (by omega)
      by_cases hpk : p.2.length = k
      · have hc := (L.cur (p.2, p.1)).mpr ⟨hp, hpk⟩
        have hm := hls _ hc s hs
        have hsn := S.seen
        rw [List.take_length] at hsn
        obtain ⟨p', hp', e2, h2⟩ := hsn _ hm
        exact ⟨p', hp', by rw [e2, rn_snoc, e1], sle_trans h2 (sle_snoc h1)⟩
      · have := L.len p hp
        obtain ⟨p', hp', e2, h2⟩ := L.all (p.2 ++ [s]) (ok_snoc (L.ok p hp).1 hs) (by simp; omega)
        exact lift ⟨p', hp', by rw [e2, rn_snoc, rn_snoc, (L.ok p hp).2, e1], sle_trans h2 (sle_snoc h1)⟩
end
end FF
set_option Elab.async false
set_option linter.all false
set_option maxRecDepth 100000
set_option maxHeartbeats 1000000
/-! enumerate(..) over a tuple: the new rule for its walk -/
namespace FF
open PySem PySem.Spec PyProof.Rows L2
section
theorem enB_new {v : Value} {o : Obj} {H : Heap → Prop} (B : Begins v o H) :
    Meets (Builtin.«enumerate.__new__» ⟨[.type "enumerate", v], []⟩) (fun _ R s => H s.heap ∧
      R (.ok (.ret (.ref (s.heap.push o).objs.size))) { s with heap := (s.heap.push o).push { cls := .type "enumerate", data := .fields #[.none, .bool false, .ref s.heap.objs.size, rawInt 0, .none, .none] } }) :=
  .of_wp fun prog w A R s h => by
    obtain ⟨hp, g, d, tk, os⟩ := s; obtain ⟨h1, h⟩ := h
    have hsub := sub_enumerate
    have q1 : ∀ {A' : Around} {E : Value → Shared → Prop} {Q : Value → Shared → Prop}, Q (.ref hp.objs.size) ⟨hp.push o, g, d, tk, os⟩ → wpAny (model prog w) A' (pyIter v) Q E ⟨hp, g, d, tk, os⟩ :=
      fun q => B.iter prog w _ _ ⟨hp, g, d, tk, os⟩ _ h1 q
    wp_walk using q1
    refine wpAny_stack_any fun st => wpAny_pure ?_
    split
    · rename_i c _ _ _ _ _
      cases (c == Value.type "enumerate")
      · wp_walk using q1
        exact ⟨_, rfl, h⟩
      · wp_walk using q1
        exact ⟨_, rfl, h⟩
    · wp_walk using q1
      exact ⟨_, rfl, h⟩
theorem enB_call {prog : Program} {w : World} {A : Around} {E : Value → Shared → Prop} {s : Shared} {v : Value} {o : Obj} {H : Heap → Prop} {Q : Value → Shared → Prop} (B : Begins v o H) (h1 : H s.heap)
    (h : ∀ h', IsEnum h' (s.heap.objs.size + 1) s.heap.objs.size 0 .none → h'.get? s.heap.objs.size = some o → h'.objs.size = s.heap.objs.size + 2 →
      (∀ b o, s.heap.get? b = some o → h'.get? b = some o) → Q (.ref (s.heap.objs.size + 1)) { s with heap := h' }) :
    wpAny (model prog w) A (call (.type "enumerate") [v]) Q E s := by
  refine callType_new F.called_enumerate (by decide) (F.typeCall_enumerate_1 _) (F.newCall_enumerate_1 _) (fun obj => F.args_object_init_2 obj _) F.entry_enumerate_new (enB_new B) ⟨h1, ?_⟩
  have hz : (s.heap.push o).objs.size = s.heap.objs.size + 1 := Heap.size_push ..
  show _ ∧ _
  rw [hz]
  have he : IsEnum ((s.heap.push o).push { cls := .type "enumerate", data := .fields #[.none, .bool false, .ref s.heap.objs.size, rawInt 0, .none, .none] }) (s.heap.objs.size + 1) s.heap.objs.size 0 .none := by
    have := Heap.get?_push_size (s.heap.push o) (o := { cls := .type "enumerate", data := .fields #[.none, .bool false, .ref s.heap.objs.size, rawInt 0, .none, .none] }) rfl
    rw [hz] at this; exact this
  exact ⟨⟨_, he, rfl⟩, h _ he (Heap.get?_push_of_some _ (Heap.get?_push_size _ B.free)) (by rw [Heap.size_push, hz]) fun b o x => Heap.get?_push_of_some _ (Heap.get?_push_of_some _ x)⟩
end
/-- the tuple at a, each item in a new pair with its number -/
def IetT (K : PySem.W.Frag) (a : Addr) : It :=
  ⟨fun i H => ∃ (xs : List V) (x : V), SqT K H a xs ∧ xs[i]? = some x, fun i H v H' => ∃ T x, v = .ref T ∧ H T = none ∧ H' = upd H T (.tup [.int (i : Nat), x]) ∧ ∀ xs, SqT K H a xs → xs[i]? = some x, fun i H => ∃ xs : List V, SqT K H a xs ∧ xs.length ≤ i⟩
theorem turn_enumT {P : Program} {w : World} {K : PySem.W.Frag} {elts : List Expr} {kk : Nat} {tpos : Pos} (a e it : Addr) :
    Turn P w K (.Tuple elts kk tpos) (IetT K a) [e, it] e (fun i h => (∃ old, IsEnum h e it ((i : Nat) : Int) old) ∧ h.IsTupleIter it a i ∧ e ≠ it) where
  mem := by simp
  obj := fun i h st b hb => by
    obtain ⟨⟨old, he⟩, ⟨o, ho, hc, hd⟩, _⟩ := st
    have e' : b = e ∨ b = it := by simpa using hb
    rcases e' with z | z
    · rw [z]; exact ⟨_, he, fun v q => nomatch q⟩
    · rw [z]; exact ⟨o, ho, fun v q => by rw [hd] at q; cases q⟩
  keep := fun i h h' st k => let ⟨⟨old, he⟩, hi, hne⟩ := st; ⟨⟨old, k e (by simp) _ he⟩, hi.at fun o q => k it (by simp) o q, hne⟩
  item := by
    intro X hP hw hK hc i pins s σ H E I hf st hg
    subst hP hw hK
    obtain ⟨⟨old, he⟩, hit, hne⟩ := st
    obtain ⟨xs, x, hq, hx⟩ := hg
    obtain ⟨its, rv, p, hz⟩ := I.tuple hq
    obtain ⟨u, hu, ru⟩ := rv.get hx
    have p' : s.heap.IsTuple a its.toArray := p
    have hel : e < s.heap.objs.size := Heap.lt_size he
    have hil : it < s.heap.objs.size := by obtain ⟨_, q, _⟩ := hit; exact Heap.lt_size q
    have hae : e ≠ a := fun z => by
      obtain ⟨o, ho, hcl, _⟩ := p'
      rw [← z, show s.heap.get? e = _ from he] at ho
      cases ho
      exact absurd (show Value.type "enumerate" = Value.type "tuple" from hcl) (by decide)
    have hai : a ≠ it := fun z => by
      obtain ⟨o, ho, hcl, _⟩ := p'
      obtain ⟨o2, ho2, hc2, _⟩ := hit
      rw [z, ho2] at ho
      cases ho
      rw [hc2] at hcl
      exact absurd hcl (by decide)
    have hi : i < its.toArray.size := by
      have := (List.getElem?_eq_some_iff.mp hu).1
      simpa using this
    refine wpAny_pyNext_enum_itemC (D := Draws.tuple (A := X.A.in1) (I.ok.hd hc) it a hai its.toArray) he ⟨hit, p'⟩ hi hne (by simp [hne, hae]) fun y h' tk hy ho hit' hT hsz hk => ?_
    have ey : y = u := by
      have : its.toArray[i]? = some u := by simpa using hu
      rw [this] at hy
      exact (Option.some.inj hy).symm
    subst ey
    refine ⟨_, rfl, wpAny_letOwnedTupleGo_enum (s := { s with heap := h', toks := tk + 1 }) ho fun h'' he' sb => ?_⟩
    have hT2 : h''.get? s.heap.objs.size = some { cls := .type "tuple", data := .seq #[.int i tk, y] } := (sb.2 _ (Nat.ne_of_gt hel)).trans hT
    have new : ObjOk X.prog X.w (upd H s.heap.objs.size (.tup [.int (i : Nat), x])) h'' s.heap.objs.size (.tup [.int (i : Nat), x]) :=
      ⟨by show 2 ≤ sizeLine; decide, [.int i tk, y], .cons ⟨_, rfl⟩ (.cons ru .nil), ⟨_, hT2, rfl, _, rfl⟩⟩
    have I1 : Inv X pins σ (upd H s.heap.objs.size (.tup [.int (i : Nat), x])) { s with heap := h'', toks := tk + 1 } :=
      I.turnedNew (ch := [e, it]) (fun b ob hb q => (sb.2 b (fun z => hb (by simp [z]))).trans (hk b ob (fun z => hb (by simp [z])) (fun z => hb (by simp [z])) q)) hf (Nat.le_refl _) new
    refine ⟨.ref s.heap.objs.size, _, I1, rfl, ⟨_, x, rfl, I.hok.fresh (Nat.le_refl _), rfl, fun ys hy => by rw [I.tuple_inj hy hq]; exact hx⟩, ⟨⟨y, ?_⟩, hit'.1.at fun o q => (sb.2 it (Ne.symm hne)).trans q, hne⟩, fun b hb => ?_⟩
    · have e1 : ((i + 1 : Nat) : Int) = (i : Int) + 1 := by omega
      rw [e1]; exact he'
    · have hb' : b < s.heap.objs.size := by
        have e' : b = e ∨ b = it := by simpa using hb
        rcases e' with z | z
        · rw [z]; exact hel
        · rw [z]; exact hil
      rw [upd_ne (Nat.ne_of_lt hb')]
      exact (hf b hb).1
  done := by
    intro X hP hw hK hc i pins s σ H E I hf st hg
    subst hP hw hK
    obtain ⟨⟨old, he⟩, hit, hne⟩ := st
    obtain ⟨xs, hq, hx⟩ := hg
    obtain ⟨its, rv, p, hz⟩ := I.tuple hq
    have p' : s.heap.IsTuple a its.toArray := p
    obtain ⟨f0, f1, f2, f3, f4, f5⟩ := hf it (by simp)
    have hl := rv.length
    have D : Draws X.prog X.w X.A.in1 it [it, a] 0 (fun _ _ => False) (fun _ h => h.IsTupleIter it a i ∧ h.IsTuple a its.toArray) :=
      { live := fun _ _ st => let ⟨o, ho, _⟩ := st.1; ⟨o, ho⟩
        frame := fun _ _ _ st hk => ⟨st.1.at fun o e => hk it (by simp) o e, st.2.at fun o e => hk a (by simp) o e⟩
        item := fun _ _ _ _ h => absurd h (Nat.not_lt_zero _)
        done := fun s Q E st hE => wpAny_nextOf_tuple_end (I.ok.hd hc) st.1 st.2 (by simp; omega) hE }
    exact wpAny_pyNext_enum_endD D he ⟨hit, p'⟩ fun h' eb => ⟨rfl, I.turned (t' := s.toks) (fun b o hb q => eb b o hb q) f0 f1 f3 f4 f5⟩
  self := fun A i s Q E st h => let ⟨⟨_, he⟩, _⟩ := st; wpAny_pyIter_enum he h
def iEnumT (K : PySem.W.Frag) (ta : TA) : TI := fun σ H R => ta σ H fun vs H1 => ∃ a xs, vs = [.ref a] ∧ SqT K H1 a xs ∧ R (IetT K a) H1
theorem pi_enumT {X : Cx} {e : Expr} {ta : TA} {p pos tpos : Pos} {elts : List Expr} {kk : Nat} (hg : Gl X "enumerate") (hm : X.mg "enumerate" = none) (ha : PA X [e] ta) (hs : starEach [e] X.env = [(false, eval e X.env)] := by rfl) :
    PI X (.Tuple elts kk tpos) (.Call (.Name "enumerate" p) [e] [] pos) (iEnumT X.K ta) := by
  refine ⟨fun pins s σ H R I h => ?_⟩
  refine Call_ (ld_blt I hg hm boot_enumerate (PyProof.Rows.callWith_type1 (thn (ha.run pos pins s σ H _ I h) fun us s1 ⟨vs, H1, I1, r1, q1⟩ => ?_) hs rfl))
  obtain ⟨a, xs, ex, hq, q⟩ := q1
  subst ex
  cases r1 with
  | cons r rr =>
    cases rr
    cases r
    obtain ⟨its, rv, p', hz⟩ := I1.tuple hq
    have p2 : s1.heap.IsTuple a its.toArray := p'
    refine enB_call (begins_tuple a its.toArray) p2 fun h' he hit hsz hk => wpAny_pyIter_enum he ?_
    have I2 : Inv X pins σ H1 { s1 with heap := h' } := I1.kept (t' := s1.toks) hk
    refine ⟨s1.heap.objs.size + 1, [s1.heap.objs.size + 1, s1.heap.objs.size], _, _, H1, rfl, I2, turn_enumT a (s1.heap.objs.size + 1) s1.heap.objs.size, ⟨⟨.none, he⟩, ⟨_, hit, rfl, rfl⟩, Nat.succ_ne_self _⟩, fun b hb => ?_, q⟩
    have e' : b = s1.heap.objs.size + 1 ∨ b = s1.heap.objs.size := by simpa using hb
    have hle : s1.heap.objs.size ≤ b := by
      rcases e' with z | z
      · rw [z]; exact Nat.le_add_right _ _
      · rw [z]; exact Nat.le_refl _
    exact I1.fpOk hle (I1.hok.fresh hle)
theorem walk_enumT {K : PySem.W.Frag} {a : Addr} {xs : List V} : Walk (IetT K a) xs.length (fun H => SqT K H a xs) (YPair (fun i => some (.int (i : Nat))) (fun i => xs[i]?)) := by
  refine ⟨fun i _ hi q => ⟨xs, xs[i], q, by simp [hi]⟩, fun _ q => ⟨xs, q, Nat.le_refl _⟩, fun i H v H' _ q y => ?_⟩
  obtain ⟨T, x, h1, h2, h3, h4⟩ := y
  exact ⟨T, .int (i : Nat), x, h1, h2, h3, rfl, h4 xs q⟩
theorem wi_enumT {K : PySem.W.Frag} {E : XK} {Ψ : XPost} {tas : TA} {Δ : Env_} {O : Own} {kl : List Dt → Own → Prop} (h : EvA K E Ψ tas Δ O fun xs O1 => ∃ ds, xs = [.tup ds] ∧ kl (enD ds) O1) : Iv K E Ψ (iEnumT K tas) Δ O kl := fun σ F H a b c e R q =>
  h σ F H a b c e _ fun vs F1 H1 d O1 g1 b1 k1 p1 => by
    obtain ⟨ds, rfl, p⟩ := p1
    cases k1 with
    | cons k l =>
      cases l
      cases k with
      | tup hx l =>
        rename_i ad xs
        have w := walk_enumT (K := K) (a := ad) (xs := xs)
        have hlen : (enD ds).length = xs.length := by simp [enD, l.length]
        rw [← hlen] at w
        refine ⟨_, _, rfl, Evl.ex_t g1.sub hx, q _ _ F1 H1 (enD ds) O1 g1 b1 (fun H2 e2 => Evl.ex_t e2 hx) (w.mono (fun _ z => z) fun i H x H' _ _ y => yd_pair ?_ y) p⟩
        intro i d hd
        unfold enD at hd
        rw [List.getElem?_map, List.getElem?_zipIdx] at hd
        cases hdi : ds[i]? with
        | none => rw [hdi] at hd; cases hd
        | some z =>
          rw [hdi] at hd
          cases hd
          refine ⟨_, _, rfl, fun x hx' => ?_, fun x hx' => ?_⟩
          · cases hx'
            rw [Nat.zero_add]
            exact .int _
          · obtain ⟨v, hv, kv⟩ := l.get hdi
            rw [hv] at hx'
            cases hx'
            exact kv
end FF
set_option Elab.async false
set_option linter.all false
set_option maxRecDepth 100000
set_option maxHeartbeats 1000000
/-! the values that come -/
namespace FF
open PySem PySem.Spec PyProof.Rows L2
open Evl (Ex)
inductive Cm (f : Nat → Nat → Nat) (gs : List (List Nat)) (b : Nat) : Nat → Prop
  | base : Cm f gs b b
  | map {v : Nat} {g : List Nat} : Cm f gs b v → g ∈ gs → Cm f gs b (g.getD v 0)
  | join {u v : Nat} : Cm f gs b u → Cm f gs b v → Cm f gs b (f u v)
structure Fv (n : Nat) (f : Nat → Nat → Nat) (gs : List (List Nat)) (b : Nat) (vs : List Nat) (a : Nat) : Prop where
  nd : vs.Nodup
  lt : ∀ v ∈ vs, v < n
  cm : ∀ v ∈ vs, Cm f gs b v
  bg : b ∈ vs
  le : a ≤ vs.length
  mp : ∀ i v, i < a → vs[i]? = some v → ∀ g ∈ gs, g.getD v 0 ∈ vs
  jn : ∀ i j u v, j < i → i < a → vs[i]? = some v → vs[j]? = some u → f u v ∈ vs
theorem fv_start {n : Nat} {f : Nat → Nat → Nat} {gs : List (List Nat)} {b : Nat} (h : b < n) : Fv n f gs b [b] 0 :=
  ⟨by simp, fun v m => by rw [List.mem_singleton.mp m]; exact h, fun v m => by rw [List.mem_singleton.mp m]; exact .base, by simp, by simp, fun i v h => absurd h (Nat.not_lt_zero _), fun i j u v _ h => absurd h (Nat.not_lt_zero _)⟩
/-- what a value makes: by each map, and with the values ahead of it -/
def fvU (f : Nat → Nat → Nat) (gs : List (List Nat)) (vs : List Nat) (a v : Nat) : List Nat := gs.map (fun g => g.getD v 0) ++ (vs.take a).map fun u => f u v
structure Fi (n : Nat) (f : Nat → Nat → Nat) (gs : List (List Nat)) (b : Nat) (vs us ws : List Nat) : Prop where
  nd : ws.Nodup
  lt : ∀ v ∈ ws, v < n
  cm : ∀ v ∈ ws, Cm f gs b v
  pre : ∃ t, ws = vs ++ t
  has : ∀ u ∈ us, u ∈ ws
theorem fi_start {n : Nat} {f : Nat → Nat → Nat} {gs : List (List Nat)} {b a : Nat} {vs : List Nat} (h : Fv n f gs b vs a) : Fi n f gs b vs [] vs := ⟨h.nd, h.lt, h.cm, ⟨[], by simp⟩, by simp⟩
theorem fi_old {n : Nat} {f : Nat → Nat → Nat} {gs : List (List Nat)} {b u : Nat} {vs us ws : List Nat} (h : Fi n f gs b vs us ws) (hu : u ∈ ws) : Fi n f gs b vs (us ++ [u]) ws := ⟨h.nd, h.lt, h.cm, h.pre, fun v m => by
  rcases List.mem_append.mp m with z | z
  · exact h.has v z
  · rw [List.mem_singleton.mp z]; exact hu⟩
theorem fi_new {n : Nat} {f : Nat → Nat → Nat} {gs : List (List Nat)} {b u : Nat} {vs us ws : List Nat} (h : Fi n f gs b vs us ws) (hu : u ∉ ws) (hn : u < n) (hc : Cm f gs b u) : Fi n f gs b vs (us ++ [u]) (ws ++ [u]) := by
  refine ⟨?_, fun v m => ?_, fun v m => ?_, ?_, fun v m => ?_⟩
  · rw [List.nodup_append]
    exact ⟨h.nd, by simp, fun x hx y hy e => by rw [List.mem_singleton.mp hy] at e; rw [e] at hx; exact hu hx⟩
  · rcases List.mem_append.mp m with z | z
    · exact h.lt v z
    · rw [List.mem_singleton.mp z]; exact hn
  · rcases List.mem_append.mp m with z | z
    · exact h.cm v z
    · rw [List.mem_singleton.mp z]; exact hc
  · obtain ⟨t, e⟩ := h.pre
    exact ⟨t ++ [u], by rw [e, List.append_assoc]⟩
  · rcases List.mem_append.mp m with z | z
    · exact List.mem_append_left _ (h.has v z)
    · exact List.mem_append_right _ z
theorem fvU_ok {n : Nat} {f : Nat → Nat → Nat} {gs : List (List Nat)} {b a v : Nat} {vs : List Nat} (J : Jn n f) (hg : ∀ g ∈ gs, g.length = n ∧ ∀ v ∈ g, v < n) (h : Fv n f gs b vs a) (hv : vs[a]? = some v) : ∀ u ∈ fvU f gs vs a v, u < n ∧ Cm f gs b u := fun u m => by
  have mv := List.mem_of_getElem? hv
  rcases List.mem_append.mp m with z | z
  · obtain ⟨g, mg, rfl⟩ := List.mem_map.mp z
    obtain ⟨h1, h2⟩ := hg g mg
    exact ⟨getD_in (by have := h.lt v mv; omega) h2, .map (h.cm v mv) mg⟩
  · obtain ⟨u, mu, rfl⟩ := List.mem_map.mp z
    have mu := List.mem_of_mem_take mu
    exact ⟨J.lt u v (h.lt u mu) (h.lt v mv), .join (h.cm u mu) (h.cm v mv)⟩
theorem fv_next {n : Nat} {f : Nat → Nat → Nat} {gs : List (List Nat)} {b a v : Nat} {vs ws : List Nat} (h : Fv n f gs b vs a) (hv : vs[a]? = some v) (k : Fi n f gs b vs (fvU f gs vs a v) ws) : Fv n f gs b ws (a + 1) := by
  obtain ⟨t, e⟩ := k.pre
  have ha : a < vs.length := (List.getElem?_eq_some_iff.mp hv).1
  have at_ : ∀ i u, i ≤ a → ws[i]? = some u → vs[i]? = some u := fun i u hi hu => by
    rw [e, List.getElem?_append_left (by omega)] at hu
    exact hu
  have up : ∀ u, u ∈ vs → u ∈ ws := fun u m => by rw [e]; exact List.mem_append_left _ m
  refine ⟨k.nd, k.lt, k.cm, up _ h.bg, by rw [e, List.length_append]; omega, fun i u hi hu g hg => ?_, fun i j u x hj hi hx hu => ?_⟩
  · have hu' := at_ i u (by omega) hu
    by_cases hia : i = a
    · subst hia
      rw [hv] at hu'
      cases hu'
      exact k.has _ (List.mem_append_left _ (List.mem_map.mpr ⟨g, hg, rfl⟩))
    · exact up _ (h.mp i u (by omega) hu' g hg)
  · have hx' := at_ i x (by omega) hx
    have hu' := at_ j u (by omega) hu
    by_cases hia : i = a
    · subst hia
      rw [hv] at hx'
      cases hx'
      refine k.has _ (List.mem_append_right _ (List.mem_map.mpr ⟨u, ?_, rfl⟩))
      refine List.mem_of_getElem? (i := j) ?_
      rw [List.getElem?_take_of_lt hj]
      exact hu'
    · exact up _ (h.jn i j u x hj (by omega) hx' hu')
theorem fv_end {n : Nat} {f : Nat → Nat → Nat} {gs : List (List Nat)} {b : Nat} {vs : List Nat} (J : Jn n f) (h : Fv n f gs b vs vs.length) (v : Nat) : v ∈ vs ↔ Cm f gs b v := by
  refine ⟨h.cm v, fun c => ?_⟩
  induction c with
  | base => exact h.bg
  | map c hg ih =>
    obtain ⟨i, hi⟩ := List.mem_iff_getElem?.mp ih
    exact h.mp i _ (List.getElem?_eq_some_iff.mp hi).1 hi _ hg
  | @join u v c d ih ih2 =>
    obtain ⟨i, hi⟩ := List.mem_iff_getElem?.mp ih
    obtain ⟨j, hj⟩ := List.mem_iff_getElem?.mp ih2
    have hil := (List.getElem?_eq_some_iff.mp hi).1
    have hjl := (List.getElem?_eq_some_iff.mp hj).1
    rcases Nat.lt_trichotomy i j with z | z | z
    · exact h.jn j i u v z hjl hj hi
    · subst z
      rw [hi] at hj
      cases hj
      rw [J.idem u (h.lt u ih)]
      exact ih
    · rw [J.comm u v (h.lt u ih) (h.lt v ih2)]
      exact h.jn i j v u z hil hi hj
theorem fv_few {n : Nat} {f : Nat → Nat → Nat} {gs : List (List Nat)} {b a : Nat} {vs : List Nat} (h : Fv n f gs b vs a) : vs.length ≤ n := nat_few n vs h.nd h.lt
section
variable {K : PySem.W.Frag} {E : XK} {Ψ : XPost} {Δ : Env_} {O : Own} {ta tb : TE} {k : Dt → Own → Prop}
/-- xs[:n], n drawn -/
theorem wv_slHiV (h : Ev K E Ψ ta Δ O fun x O1 => ∃ ds, LstOf O1 x ds ∧ Ev K E Ψ tb Δ O1 fun y O2 => O2 = O1 ∧ ∃ n : Nat, y = .int (n : Int) ∧ k (.lst (ds.take n)) O1) : Ev K E Ψ (tSl (rSlL K) ta tNoPart (tPart tb)) Δ O k := by
  refine ev_frzK (fun σ F H a b c e Q q => h σ F H a b c e _ fun v F1 H1 x O1 g1 b1 k1 p1 => ?_)
  obtain ⟨ds, hs, hb⟩ := p1
  show tPart tb σ H1 fun u H3 => rSlL K v none u H3 Q
  refine hb σ F1 H1 (a.mono g1.ext) b1 g1.sub (e.step g1) _ fun v3 F3 H3 d3 O3 g3 b3 k3 p3 => ?_
  obtain ⟨rfl, n, rfl, hk⟩ := p3
  cases k3
  refine ⟨_, rfl, ?_⟩
  refine sld_list (E := E) (Ψ := Ψ) (lo := none) (hi := some (n : Int)) hs F3 H3 v b3 g3.sub ((e.step g1).step g3) (k1.mono g3.ext) Q fun w F4 H4 d4 O4 g4 b4 k4 p4 => ?_
  obtain ⟨p, rfl, rfl⟩ := p4
  exact q w F4 H4 _ _ ((g1.trans g3).trans g4) b4 k4 ⟨p, _, _, rfl, rfl, by rw [cutD_hi]; exact hk⟩
end
end FF
set_option Elab.async false
set_option linter.all false
set_option maxRecDepth 100000
set_option maxHeartbeats 1000000
/-! sorted(..) leaves its things ascending -/
namespace FF
open PySem PySem.Spec PyProof.Rows L2
theorem leD_trans (x y z : Dt) (h1 : leD x y = true) (h2 : leD y z = true) : leD x z = true := by
  have nt := (listOrd itemOrd).negTrans (PySem.W.keyToks z.py) (PySem.W.keyToks y.py) (PySem.W.keyToks x.py)
  simp only [leD, PySem.W.dataLe, PySem.W.sortLe, cond_false, Bool.not_eq_true'] at *
  cases hh : (listOrd itemOrd).blt (PySem.W.keyToks z.py) (PySem.W.keyToks x.py) with
  | false => exact hh
  | true =>
    rcases nt hh with q | q
    · rw [h2] at q; cases q
    · rw [h1] at q; cases q
theorem leD_total (x y : Dt) : (leD x y || leD y x) = true := by
  cases h : leD x y with
  | true => rfl
  | false =>
    simp only [leD, PySem.W.dataLe, PySem.W.sortLe, cond_false, Bool.not_eq_false', Bool.false_or, Bool.not_eq_true'] at *
    cases hh : (listOrd itemOrd).blt (PySem.W.keyToks x.py) (PySem.W.keyToks y.py) with
    | false => exact hh
    | true =>
      have := (listOrd itemOrd).trans (PySem.W.keyToks y.py) (PySem.W.keyToks x.py) (PySem.W.keyToks y.py) h hh
      rw [(listOrd itemOrd).irrefl] at this
      cases this
theorem sortD_pw (ds : List Dt) : (sortD ds).Pairwise fun x y => leD x y = true := List.pairwise_mergeSort leD_trans leD_total ds
/-- the sorted things are things of the same kind -/
theorem sortD_of {α : Type} {g : α → Dt} (us : List α) : ∃ vs : List α, vs.Perm us ∧ sortD (us.map g) = vs.map g ∧ vs.Pairwise fun x y => leD (g x) (g y) = true := by
  obtain ⟨vs, h1, h2⟩ := perm_of_map (f := g) (sortD_perm (ds := us.map g))
  refine ⟨vs, h1, h2, ?_⟩
  have := sortD_pw (us.map g)
  rw [h2] at this
  exact List.pairwise_map.mp this
end FF
set_option Elab.async false
set_option linter.all false
set_option maxRecDepth 100000
set_option maxHeartbeats 4000000
namespace LK
open PySem PySem.Spec PyProof.Rows L2 FF
open Evl (Ex)
def topS (i : Nat) : Stmt := PySem.Challenge.pw_factflows_k24_whole_values_of_words.main.body.getD i (.Pass ⟨0, 0, 0, 0⟩)
abbrev s_is_integer : Stmt := topS 13
theorem sc_is_integer : FnScope ["thing"] ["thing"] (defScope s_is_integer) := ⟨rfl, rfl, rfl, by decide +kernel, rfl, by decide +kernel, by decide +kernel⟩
abbrev s_is_number : Stmt := topS 14
theorem sc_is_number : FnScope ["many", "thing"] ["many", "thing"] (defScope s_is_number) := ⟨rfl, rfl, rfl, by decide +kernel, rfl, by decide +kernel, by decide +kernel⟩
abbrev s_is_name : Stmt := topS 15
theorem sc_is_name : FnScope ["thing", "letter"] ["thing"] (defScope s_is_name) := ⟨rfl, rfl, rfl, by decide +kernel, rfl, by decide +kernel, by decide +kernel⟩
abbrev s_is_map : Stmt := topS 18
theorem sc_is_map : FnScope ["many", "thing", "value"] ["many", "thing"] (defScope s_is_map) := ⟨rfl, rfl, rfl, by decide +kernel, rfl, by decide +kernel, by decide +kernel⟩
abbrev s_are_rows : Stmt := topS 19
theorem sc_are_rows : FnScope ["thing", "row"] ["thing"] (defScope s_are_rows) := ⟨rfl, rfl, rfl, by decide +kernel, rfl, by decide +kernel, by decide +kernel⟩
abbrev s_unlike_itself : Stmt := topS 20
theorem sc_unlike_itself : FnScope ["rows", "u"] ["rows"] (defScope s_unlike_itself) := ⟨rfl, rfl, rfl, by decide +kernel, rfl, by decide +kernel, by decide +kernel⟩
abbrev s_unlike_turned : Stmt := topS 21
theorem sc_unlike_turned : FnScope ["rows", "u", "v"] ["rows"] (defScope s_unlike_turned) := ⟨rfl, rfl, rfl, by decide +kernel, rfl, by decide +kernel, by decide +kernel⟩
abbrev s_unlike_shifted : Stmt := topS 22
theorem sc_unlike_shifted : FnScope ["rows", "u", "v", "left", "right", "value"] ["rows"] (defScope s_unlike_shifted) := ⟨rfl, rfl, rfl, by decide +kernel, rfl, by decide +kernel, by decide +kernel⟩
abbrev s_first_unlike : Stmt := topS 23
abbrev s_bad_join : Stmt := topS 24
theorem sc_bad_join : FnScope ["rows"] ["rows"] (defScope s_bad_join) := ⟨rfl, rfl, rfl, by decide +kernel, rfl, by decide +kernel, by decide +kernel⟩
abbrev s_first_fall : Stmt := topS 27
theorem sc_first_fall : FnScope ["joins", "values", "low", "high"] ["joins", "values"] (defScope s_first_fall) := ⟨rfl, rfl, rfl, by decide +kernel, rfl, by decide +kernel, by decide +kernel⟩
abbrev s_are_maps : Stmt := topS 30
theorem sc_are_maps : FnScope ["many", "thing", "name"] ["many", "thing"] (defScope s_are_maps) := ⟨rfl, rfl, rfl, by decide +kernel, rfl, by decide +kernel, by decide +kernel⟩
abbrev s_check_rise : Stmt := topS 31
theorem sc_check_rise : FnScope ["joins", "maps", "name", "fall"] ["joins", "maps"] (defScope s_check_rise) := ⟨rfl, rfl, rfl, by decide +kernel, rfl, by decide +kernel, by decide +kernel⟩
abbrev s_found_values : Stmt := topS 33
theorem sc_found_values : FnScope ["joins", "maps", "begin", "found", "values", "at", "made", "joined", "value", "name"] ["joins", "maps", "begin"] (defScope s_found_values) := ⟨rfl, rfl, rfl, by decide +kernel, rfl, by decide +kernel, by decide +kernel⟩
abbrev s_check_fits : Stmt := topS 36
theorem sc_check_fits : FnScope ["analysis", "program", "known", "name"] ["analysis", "program"] (defScope s_check_fits) := ⟨rfl, rfl, rfl, by decide +kernel, rfl, by decide +kernel, by decide +kernel⟩
abbrev s_check_place : Stmt := topS 37
theorem sc_check_place : FnScope ["program", "place"] ["program", "place"] (defScope s_check_place) := ⟨rfl, rfl, rfl, by decide +kernel, rfl, by decide +kernel, by decide +kernel⟩
abbrev s_all_maps : Stmt := topS 38
theorem sc_all_maps : FnScope ["analysis", "name"] ["analysis"] (defScope s_all_maps) := ⟨rfl, rfl, rfl, by decide +kernel, rfl, by decide +kernel, by decide +kernel⟩
abbrev s_all_outs : Stmt := topS 39
theorem sc_all_outs : FnScope ["program", "place"] ["program"] (defScope s_all_outs) := ⟨rfl, rfl, rfl, by decide +kernel, rfl, by decide +kernel, by decide +kernel⟩
abbrev s_joined_to : Stmt := topS 41
theorem sc_joined_to : FnScope ["rows", "value", "brought"] ["rows", "value", "brought"] (defScope s_joined_to) := ⟨rfl, rfl, rfl, by decide +kernel, rfl, by decide +kernel, by decide +kernel⟩
abbrev s_found_facts : Stmt := topS 42
theorem sc_found_facts : FnScope ["analysis", "program", "rows", "maps", "outs", "waiting", "steps", "facts", "place", "changed", "name", "to", "fact"] ["analysis", "program"] (defScope s_found_facts) := ⟨rfl, rfl, rfl, by decide +kernel, rfl, by decide +kernel, by decide +kernel⟩
abbrev s_facts_of : Stmt := topS 43
theorem sc_facts_of : FnScope ["analysis", "program", "facts", "_"] ["analysis", "program"] (defScope s_facts_of) := ⟨rfl, rfl, rfl, by decide +kernel, rfl, by decide +kernel, by decide +kernel⟩
abbrev s_are_begins : Stmt := topS 46
theorem sc_are_begins : FnScope ["places", "thing", "place"] ["places", "thing"] (defScope s_are_begins) := ⟨rfl, rfl, rfl, by decide +kernel, rfl, by decide +kernel, by decide +kernel⟩
abbrev s_is_edge : Stmt := topS 47
theorem sc_is_edge : FnScope ["places", "thing"] ["places", "thing"] (defScope s_is_edge) := ⟨rfl, rfl, rfl, by decide +kernel, rfl, by decide +kernel, by decide +kernel⟩
abbrev s_are_edges : Stmt := topS 48
theorem sc_are_edges : FnScope ["places", "thing", "edge"] ["places", "thing"] (defScope s_are_edges) := ⟨rfl, rfl, rfl, by decide +kernel, rfl, by decide +kernel, by decide +kernel⟩
abbrev s_rows_into : Stmt := topS 49
theorem sc_rows_into : FnScope ["places", "edges", "rows", "m", "s", "n", "_"] ["places", "edges"] (defScope s_rows_into) := ⟨rfl, rfl, rfl, by decide +kernel, rfl, by decide +kernel, by decide +kernel⟩
abbrev s_rows_out : Stmt := topS 50
theorem sc_rows_out : FnScope ["places", "edges", "rows", "m", "s", "n", "_"] ["places", "edges"] (defScope s_rows_out) := ⟨rfl, rfl, rfl, by decide +kernel, rfl, by decide +kernel, by decide +kernel⟩
abbrev s_spread : Stmt := topS 51
abbrev s_line_program : Stmt := topS 53
theorem sc_line_program : FnScope ["word", "at", "name"] ["word"] (defScope s_line_program) := ⟨rfl, rfl, rfl, by decide +kernel, rfl, by decide +kernel, by decide +kernel⟩
abbrev s_l_bag : Stmt := topS 55
theorem sc_l_bag : FnScope ["_law_script", "_law_cell"] ["_law_script"] (defScope s_l_bag) := ⟨rfl, rfl, rfl, by decide +kernel, rfl, by decide +kernel, by decide +kernel⟩
abbrev s_l_take : Stmt := topS 56
theorem sc_l_take : FnScope ["_law_bag_here", "_law_many", "_law_cell", "_law_mixed_here", "_law_drawn", "_law_early", "_law_second"] ["_law_bag_here", "_law_many"] (defScope s_l_take) := ⟨rfl, rfl, rfl, by decide +kernel, rfl, by decide +kernel, by decide +kernel⟩
abbrev s_l_alike : Stmt := topS 57
theorem sc_l_alike : FnScope ["_law_found", "_law_due"] ["_law_found", "_law_due"] (defScope s_l_alike) := ⟨rfl, rfl, rfl, by decide +kernel, rfl, by decide +kernel, by decide +kernel⟩
abbrev s_l_mixed : Stmt := topS 58
theorem sc_l_mixed : FnScope ["_law_bag_here", "_law_things", "_law_found", "_law_thing"] ["_law_bag_here", "_law_things"] (defScope s_l_mixed) := ⟨rfl, rfl, rfl, by decide +kernel, rfl, by decide +kernel, by decide +kernel⟩
abbrev s_l_names : Stmt := topS 59
theorem sc_l_names : FnScope ["_law_bag_here", "_law_many", "_law_words_here", "_law_some"] ["_law_bag_here", "_law_many"] (defScope s_l_names) := ⟨rfl, rfl, rfl, by decide +kernel, rfl, by decide +kernel, by decide +kernel⟩
abbrev s_l_both : Stmt := topS 60
theorem sc_l_both : FnScope ["_law_one", "_law_other"] ["_law_one", "_law_other"] (defScope s_l_both) := ⟨rfl, rfl, rfl, by decide +kernel, rfl, by decide +kernel, by decide +kernel⟩
abbrev s_l_rows : Stmt := topS 61
theorem sc_l_rows : FnScope ["_law_bag_here", "_law_bound", "_law_found", "_law_wide", "_law_kind", "_law_k", "_law_some", "_law_later", "_law_index", "_law_top", "_law_part", "_law_one", "_law_at", "_law_other"] ["_law_bag_here", "_law_bound"] (defScope s_l_rows) := ⟨rfl, rfl, rfl, by decide +kernel, rfl, by decide +kernel, by decide +kernel⟩
abbrev s_l_map : Stmt := topS 62
theorem sc_l_map : FnScope ["_law_bag_here", "_law_rows_here", "_law_many", "_law_found", "_law_kind", "_law_drawn", "_law_u", "_law_v", "_law_told"] ["_law_bag_here", "_law_rows_here"] (defScope s_l_map) := ⟨rfl, rfl, rfl, by decide +kernel, rfl, by decide +kernel, by decide +kernel⟩
abbrev s_l_maps : Stmt := topS 63
theorem sc_l_maps : FnScope ["_law_bag_here", "_law_rows_here", "_law_names_here", "_law_name"] ["_law_bag_here", "_law_rows_here", "_law_names_here"] (defScope s_l_maps) := ⟨rfl, rfl, rfl, by decide +kernel, rfl, by decide +kernel, by decide +kernel⟩
abbrev s_l_analysis : Stmt := topS 64
theorem sc_l_analysis : FnScope ["_law_bag_here", "_law_bound", "_law_rows_here", "_law_names_here"] ["_law_bag_here", "_law_bound"] (defScope s_l_analysis) := ⟨rfl, rfl, rfl, by decide +kernel, rfl, by decide +kernel, by decide +kernel⟩
abbrev s_l_built : Stmt := topS 65
theorem sc_l_built : FnScope ["_law_bag_here", "_law_parts", "_law_rows_here", "_law_maps_here", "_law_begun", "_law_handed", "_law_name"] ["_law_bag_here", "_law_parts"] (defScope s_l_built) := ⟨rfl, rfl, rfl, by decide +kernel, rfl, by decide +kernel, by decide +kernel⟩
abbrev s_l_words : Stmt := topS 66
theorem sc_l_words : FnScope ["_law_maps_here", "_law_begun", "_law_found", "_law_words_here", "_law_longer", "_law_word", "_law_value", "_law_name"] ["_law_maps_here", "_law_begun"] (defScope s_l_words) := ⟨rfl, rfl, rfl, by decide +kernel, rfl, by decide +kernel, by decide +kernel⟩
abbrev s_law : Stmt := topS 67
theorem sc_law : FnScope ["_law_script", "_law_bag_here", "_law_turn", "_law_parts", "_law_rows_here", "_law_maps_here", "_law_begun", "_law_some", "_law_due", "_law_again", "_law_found", "_law_value", "_law_word"] ["_law_script"] (defScope s_law) := ⟨rfl, rfl, rfl, by decide +kernel, rfl, by decide +kernel, by decide +kernel⟩
abbrev s_Joins___init__ : Stmt := inClass (topS 26) 0
theorem sc_Joins___init__ : FnScope ["self", "rows", "which", "row"] ["self", "rows"] (defScope s_Joins___init__) := ⟨rfl, rfl, rfl, by decide +kernel, rfl, by decide +kernel, by decide +kernel⟩
abbrev s_Joins___len__ : Stmt := inClass (topS 26) 2
theorem sc_Joins___len__ : FnScope ["self"] ["self"] (defScope s_Joins___len__) := ⟨rfl, rfl, rfl, by decide +kernel, rfl, by decide +kernel, by decide +kernel⟩
abbrev s_Joins_join : Stmt := inClass (topS 26) 6
theorem sc_Joins_join : FnScope ["self", "u", "v"] ["self", "u", "v"] (defScope s_Joins_join) := ⟨rfl, rfl, rfl, by decide +kernel, rfl, by decide +kernel, by decide +kernel⟩
abbrev s_Joins_is_below : Stmt := inClass (topS 26) 8
theorem sc_Joins_is_below : FnScope ["self", "u", "v"] ["self", "u", "v"] (defScope s_Joins_is_below) := ⟨rfl, rfl, rfl, by decide +kernel, rfl, by decide +kernel, by decide +kernel⟩
abbrev s_Joins_above : Stmt := inClass (topS 26) 10
theorem sc_Joins_above : FnScope ["self", "u", "v"] ["self", "u"] (defScope s_Joins_above) := ⟨rfl, rfl, rfl, by decide +kernel, rfl, by decide +kernel, by decide +kernel⟩
abbrev s_Joins_rows : Stmt := inClass (topS 26) 5
theorem sc_Joins_rows : FnScope ["self", "row"] ["self"] (defScope s_Joins_rows) := ⟨rfl, rfl, rfl, by decide +kernel, rfl, by decide +kernel, by decide +kernel⟩
abbrev s_Analysis___init__ : Stmt := inClass (topS 34) 0
theorem sc_Analysis___init__ : FnScope ["self", "joins", "maps", "begin", "name"] ["self", "joins", "maps", "begin"] (defScope s_Analysis___init__) := ⟨rfl, rfl, rfl, by decide +kernel, rfl, by decide +kernel, by decide +kernel⟩
abbrev s_Analysis_map_of : Stmt := inClass (topS 34) 8
theorem sc_Analysis_map_of : FnScope ["self", "name"] ["self", "name"] (defScope s_Analysis_map_of) := ⟨rfl, rfl, rfl, by decide +kernel, rfl, by decide +kernel, by decide +kernel⟩
abbrev s_Analysis_statements : Stmt := inClass (topS 34) 7
theorem sc_Analysis_statements : FnScope ["self"] ["self"] (defScope s_Analysis_statements) := ⟨rfl, rfl, rfl, by decide +kernel, rfl, by decide +kernel, by decide +kernel⟩
abbrev s_Analysis_do : Stmt := inClass (topS 34) 9
theorem sc_Analysis_do : FnScope ["self", "word", "value", "done", "name"] ["self", "word", "value"] (defScope s_Analysis_do) := ⟨rfl, rfl, rfl, by decide +kernel, rfl, by decide +kernel, by decide +kernel⟩
abbrev s_Analysis_coming : Stmt := inClass (topS 34) 12
theorem sc_Analysis_coming : FnScope ["self"] ["self"] (defScope s_Analysis_coming) := ⟨rfl, rfl, rfl, by decide +kernel, rfl, by decide +kernel, by decide +kernel⟩
abbrev s_Analysis_word_values : Stmt := inClass (topS 34) 13
theorem sc_Analysis_word_values : FnScope ["self", "words", "values", "at", "name", "made"] ["self"] (defScope s_Analysis_word_values) := ⟨rfl, rfl, rfl, by decide +kernel, rfl, by decide +kernel, by decide +kernel⟩
abbrev s_Analysis_joins : Stmt := inClass (topS 34) 1
theorem sc_Analysis_joins : FnScope ["self"] ["self"] (defScope s_Analysis_joins) := ⟨rfl, rfl, rfl, by decide +kernel, rfl, by decide +kernel, by decide +kernel⟩
abbrev s_Analysis_begin : Stmt := inClass (topS 34) 2
theorem sc_Analysis_begin : FnScope ["self"] ["self"] (defScope s_Analysis_begin) := ⟨rfl, rfl, rfl, by decide +kernel, rfl, by decide +kernel, by decide +kernel⟩
abbrev s_Program___init__ : Stmt := inClass (topS 52) 0
theorem sc_Program___init__ : FnScope ["self", "places", "begins", "edges", "m", "s", "n"] ["self", "places", "begins", "edges"] (defScope s_Program___init__) := ⟨rfl, rfl, rfl, by decide +kernel, rfl, by decide +kernel, by decide +kernel⟩
abbrev s_Program_begins : Stmt := inClass (topS 52) 5
theorem sc_Program_begins : FnScope ["self"] ["self"] (defScope s_Program_begins) := ⟨rfl, rfl, rfl, by decide +kernel, rfl, by decide +kernel, by decide +kernel⟩
abbrev s_Program_out_of : Stmt := inClass (topS 52) 9
theorem sc_Program_out_of : FnScope ["self", "place"] ["self", "place"] (defScope s_Program_out_of) := ⟨rfl, rfl, rfl, by decide +kernel, rfl, by decide +kernel, by decide +kernel⟩
abbrev s_Program_statements : Stmt := inClass (topS 52) 7
theorem sc_Program_statements : FnScope ["self", "edge"] ["self"] (defScope s_Program_statements) := ⟨rfl, rfl, rfl, by decide +kernel, rfl, by decide +kernel, by decide +kernel⟩
abbrev s_Program_places : Stmt := inClass (topS 52) 1
theorem sc_Program_places : FnScope ["self"] ["self"] (defScope s_Program_places) := ⟨rfl, rfl, rfl, by decide +kernel, rfl, by decide +kernel, by decide +kernel⟩
structure Top (K : PySem.W.Frag) (mg : Str → Option Value) (C_Joins : Addr) (C_Analysis : Addr) (C_Program : Addr) : Prop where
  d_is_integer : FF.DefAt K mg "is_integer" "is_integer" s_is_integer ["thing"]
  d_is_number : FF.DefAt K mg "is_number" "is_number" s_is_number ["many", "thing"]
  d_is_name : FF.DefAt K mg "is_name" "is_name" s_is_name ["thing"]
  d_is_map : FF.DefAt K mg "is_map" "is_map" s_is_map ["many", "thing"]
  d_are_rows : FF.DefAt K mg "_are_rows" "_are_rows" s_are_rows ["thing"]
  d_unlike_itself : FF.DefAt K mg "_unlike_itself" "_unlike_itself" s_unlike_itself ["rows"]
  d_unlike_turned : FF.DefAt K mg "_unlike_turned" "_unlike_turned" s_unlike_turned ["rows"]
  d_unlike_shifted : FF.DefAt K mg "_unlike_shifted" "_unlike_shifted" s_unlike_shifted ["rows"]
  d_first_unlike : FF.DefAt K mg "_first_unlike" "_first_unlike" s_first_unlike ["left", "right"]
  d_bad_join : FF.DefAt K mg "_bad_join" "_bad_join" s_bad_join ["rows"]
  d_first_fall : FF.DefAt K mg "first_fall" "first_fall" s_first_fall ["joins", "values"]
  d_are_maps : FF.DefAt K mg "_are_maps" "_are_maps" s_are_maps ["many", "thing"]
  d_check_rise : FF.DefAt K mg "_check_rise" "_check_rise" s_check_rise ["joins", "maps"]
  d_found_values : FF.DefAt K mg "found_values" "found_values" s_found_values ["joins", "maps", "begin"]
  d_check_fits : FF.DefAt K mg "check_fits" "check_fits" s_check_fits ["analysis", "program"]
  d_check_place : FF.DefAt K mg "check_place" "check_place" s_check_place ["program", "place"]
  d_all_maps : FF.DefAt K mg "all_maps" "all_maps" s_all_maps ["analysis"]
  d_all_outs : FF.DefAt K mg "all_outs" "all_outs" s_all_outs ["program"]
  d_joined_to : FF.DefAt K mg "joined_to" "joined_to" s_joined_to ["rows", "value", "brought"]
  d_found_facts : FF.DefAt K mg "found_facts" "found_facts" s_found_facts ["analysis", "program"]
  d_facts_of : FF.DefAt K mg "facts_of" "facts_of" s_facts_of ["analysis", "program"]
  d_are_begins : FF.DefAt K mg "_are_begins" "_are_begins" s_are_begins ["places", "thing"]
  d_is_edge : FF.DefAt K mg "_is_edge" "_is_edge" s_is_edge ["places", "thing"]
  d_are_edges : FF.DefAt K mg "_are_edges" "_are_edges" s_are_edges ["places", "thing"]
  d_rows_into : FF.DefAt K mg "_rows_into" "_rows_into" s_rows_into ["places", "edges"]
  d_rows_out : FF.DefAt K mg "_rows_out" "_rows_out" s_rows_out ["places", "edges"]
  d_spread : FF.DefAt K mg "_spread" "_spread" s_spread ["starts", "rows"]
  d_line_program : FF.DefAt K mg "line_program" "line_program" s_line_program ["word"]
  d_l_bag : FF.DefAt K mg "_law_bag" "_law_bag" s_l_bag ["_law_script"]
  d_l_take : FF.DefAt K mg "_law_take" "_law_take" s_l_take ["_law_bag_here", "_law_many"]
  d_l_alike : FF.DefAt K mg "_law_alike" "_law_alike" s_l_alike ["_law_found", "_law_due"]
  d_l_mixed : FF.DefAt K mg "_law_mixed" "_law_mixed" s_l_mixed ["_law_bag_here", "_law_things"]
  d_l_names : FF.DefAt K mg "_law_names" "_law_names" s_l_names ["_law_bag_here", "_law_many"]
  d_l_both : FF.DefAt K mg "_law_both" "_law_both" s_l_both ["_law_one", "_law_other"]
  d_l_rows : FF.DefAt K mg "_law_rows" "_law_rows" s_l_rows ["_law_bag_here", "_law_bound"]
  d_l_map : FF.DefAt K mg "_law_map" "_law_map" s_l_map ["_law_bag_here", "_law_rows_here"]
  d_l_maps : FF.DefAt K mg "_law_maps" "_law_maps" s_l_maps ["_law_bag_here", "_law_rows_here", "_law_names_here"]
  d_l_analysis : FF.DefAt K mg "_law_analysis" "_law_analysis" s_l_analysis ["_law_bag_here", "_law_bound"]
  d_l_built : FF.DefAt K mg "_law_built" "_law_built" s_l_built ["_law_bag_here", "_law_parts"]
  d_l_words : FF.DefAt K mg "_law_words" "_law_words" s_l_words ["_law_maps_here", "_law_begun"]
  cl_Joins : Cls K C_Joins
  na_Joins__rows : NoAttr K C_Joins "_rows"
  cm_Joins : FF.CmpC K C_Joins
  ct_Joins : FF.ClsT K C_Joins
  gc_Joins : mg "Joins" = some (.ref C_Joins)
  sf_Joins : PySem.W.selfFirst K C_Joins = true
  cl_Analysis : Cls K C_Analysis
  na_Analysis__joins : NoAttr K C_Analysis "_joins"
  na_Analysis__maps : NoAttr K C_Analysis "_maps"
  na_Analysis__begin : NoAttr K C_Analysis "_begin"
  cl_Program : Cls K C_Program
  na_Program__places : NoAttr K C_Program "_places"
  na_Program__begins : NoAttr K C_Program "_begins"
  na_Program__edges : NoAttr K C_Program "_edges"
  na_Program__into : NoAttr K C_Program "_into"
  na_Program__out : NoAttr K C_Program "_out"
  i_Joins : FF.InitAt K mg C_Joins "Joins" "Joins.__init__" s_Joins___init__ ["self", "rows"]
  m_Joins___len__ : FF.MethAt K C_Joins "__len__" "Joins.__len__" s_Joins___len__ ["self"]
  m_Joins_join : FF.MethAt K C_Joins "join" "Joins.join" s_Joins_join ["self", "u", "v"]
  m_Joins_is_below : FF.MethAt K C_Joins "is_below" "Joins.is_below" s_Joins_is_below ["self", "u", "v"]
  m_Joins_above : FF.MethAt K C_Joins "above" "Joins.above" s_Joins_above ["self", "u"]
  m_Joins_rows : FF.MethAt K C_Joins "rows" "Joins.rows" s_Joins_rows ["self"]
  i_Analysis : FF.InitK K mg C_Analysis "Analysis" "Analysis.__init__" s_Analysis___init__ 2 ["begin"] ["self", "joins", "maps", "begin"] [.int 0]
  m_Analysis_map_of : FF.MethAt K C_Analysis "map_of" "Analysis.map_of" s_Analysis_map_of ["self", "name"]
  m_Analysis_statements : FF.MethAt K C_Analysis "statements" "Analysis.statements" s_Analysis_statements ["self"]
  m_Analysis_do : FF.MethK K C_Analysis "do" "Analysis.do" s_Analysis_do 1 ["value"] ["self", "word", "value"] [.non]
  m_Analysis_coming : FF.MethAt K C_Analysis "coming" "Analysis.coming" s_Analysis_coming ["self"]
  m_Analysis_word_values : FF.MethAt K C_Analysis "word_values" "Analysis.word_values" s_Analysis_word_values ["self"]
  p_Analysis_joins : FF.PropAt K C_Analysis "joins" "Analysis.joins" s_Analysis_joins ["self"]
  p_Analysis_begin : FF.PropAt K C_Analysis "begin" "Analysis.begin" s_Analysis_begin ["self"]
  i_Program : FF.InitAt K mg C_Program "Program" "Program.__init__" s_Program___init__ ["self", "places", "begins", "edges"]
  m_Program_begins : FF.MethAt K C_Program "begins" "Program.begins" s_Program_begins ["self"]
  m_Program_out_of : FF.MethAt K C_Program "out_of" "Program.out_of" s_Program_out_of ["self", "place"]
  m_Program_statements : FF.MethAt K C_Program "statements" "Program.statements" s_Program_statements ["self"]
  p_Program_places : FF.PropAt K C_Program "places" "Program.places" s_Program_places ["self"]
  z_isinstance : mg "isinstance" = none
  z_len : mg "len" = none
  z_all : mg "all" = none
  z_abs : mg "abs" = none
  z_int : mg "int" = none
  z_repr : mg "repr" = none
  z_range : mg "range" = none
  z_sorted : mg "sorted" = none
  z_list : mg "list" = none
  z_bool : mg "bool" = none
  z_tuple : mg "tuple" = none
  z_set : mg "set" = none
  z_dict : mg "dict" = none
  z_enumerate : mg "enumerate" = none
  z_str : mg "str" = none
  g_MOST_VALUES : ∃ t, mg "MOST_VALUES" = some (.int 64 t)
  g_MOST_STATEMENTS : ∃ t, mg "MOST_STATEMENTS" = some (.int 6 t)
  g_MOST_PLACES : ∃ t, mg "MOST_PLACES" = some (.int 2000 t)
  g_LONGEST_NAME : ∃ t, mg "LONGEST_NAME" = some (.int 8 t)
  g_LETTERS : ∃ t, mg "LETTERS" = some (.str "abcdefghijklmnopqrstuvwxyz" t)
end LK
namespace LK
open PySem PySem.Spec PyProof.Rows L2 FF
open Evl (Ex)
local macro_rules | `(tactic| walk_at "ev") => `(tactic| repeat' (first
  | (with_reducible exact ev_int) | (with_reducible exact ev_bl) | (with_reducible exact ev_str) | (with_reducible exact ev_non) | (with_reducible exact ev_ty)
  | ((with_reducible apply ev_var); exact rfl) | (with_reducible exact ea_nil)
  | (with_reducible apply ev_op) | (with_reducible apply ev_un) | (with_reducible apply ev_cb) | (with_reducible apply ea_cons)
  | (with_reducible refine' ev_andV ?_ (fun _ => ?_)) | (with_reducible refine' ev_orV ?_ (fun _ => ?_)) | (with_reducible apply ev_notV)
  | ((with_reducible apply cad_isiInt); first | assumption | rfl) | ((with_reducible apply cad_isiBool); first | assumption | rfl) | ((with_reducible apply cad_isiStr); first | assumption | rfl) | ((with_reducible apply cad_isiTup); first | assumption | rfl) | ((with_reducible apply cad_isiList); first | assumption | rfl) | ((with_reducible apply cad_isiDict); first | assumption | rfl)
  | (with_reducible apply et_test) | (with_reducible apply et_B) | (with_reducible apply et_not)
  | (with_reducible exact opd_plusI) | (with_reducible exact opd_I0) | (with_reducible exact opd_B0) | (with_reducible exact opd_eqUI) | (with_reducible exact opd_neUI) | (with_reducible exact opd_eqUS) | (with_reducible exact opd_neUS) | (with_reducible exact und_neg)
  | (with_reducible exact cad_int) | (with_reducible exact cad_abs)
  | ((with_reducible apply opd_ix (so_own (List.mem_cons_self ..))); exact rfl) | (with_reducible exact cad_len so_lst)
  | ((with_reducible apply ev_intC); first | rfl | omega) | (with_reducible apply opd_timesI) | (with_reducible apply opd_I)
  | (with_reducible apply ev_lst) | (with_reducible apply ev_tup) | (with_reducible exact ev_dnewK) | ((with_reducible show List.length _ ≤ 100000); first | decide | simp) | ((with_reducible apply opd_pow); exact ⟨by decide, by decide, by decide⟩)
  | ((with_reducible apply cmul_l) <;> omega) | ((with_reducible apply cmul_r) <;> omega) | ((with_reducible apply cdiv) <;> omega)
  | ((with_reducible show (0 : Int) < _); omega)))
local macro_rules | `(tactic| walk_at "nm") => `(tactic| (try simp only [List.set_cons_zero, List.set_cons_succ, List.nil_append, List.cons_append]))
local macro_rules | `(tactic| walk_at "go") => `(tactic| (simp only [Cx.nox, Cx.wish, cxOf, startD, List.length_cons, List.length_nil, List.map_cons, List.map_nil, Nat.reduceAdd, Nat.reduceSub, List.replicate_succ, List.replicate_zero, List.cons_append, List.nil_append]))
section
set_option maxRecDepth 100000
set_option maxHeartbeats 400000
open PySem PySem.Spec PyProof.Rows L2 FF
open Evl (Ex)
section
variable {P : Program} {w : World} {K : PySem.W.Frag} {mg : Str → Option Value} {base : Heap} {CJ CA CP : Addr}
theorem len1 {C : Dt → Prop} {f : Dt → Dt} {x : Str} : ∀ ds O Φ Ψ, pre1 C f ds O Φ Ψ → ds.length = [x].length := by
  rintro ds O Φ Ψ ⟨d, rfl, _⟩
  rfl
theorem len2 {C : Dt → Dt → Prop} {f : Dt → Dt → Dt} {x y : Str} : ∀ ds O Φ Ψ, pre2 C f ds O Φ Ψ → ds.length = [x, y].length := by
  rintro ds O Φ Ψ ⟨d, e, rfl, _⟩
  rfl
/-! tables of joins -/
theorem tab_len {n : Nat} {f : Nat → Nat → Nat} : (tab n f).length = n := by simp [tab]
theorem row_len {n : Nat} {f : Nat → Nat → Nat} {u : Nat} : (rowD n f u).length = n := by simp [rowD]
theorem tab_get {n : Nat} {f : Nat → Nat → Nat} {u : Nat} (h : u < n) : (tab n f)[u]? = some (.lst (rowD n f u)) := by
  unfold tab
  rw [List.getElem?_map, List.getElem?_range h]
  rfl
theorem row_get {n : Nat} {f : Nat → Nat → Nat} {u v : Nat} (h : v < n) : (rowD n f u)[v]? = some (.int ((f u v : Nat) : Int)) := by
  unfold rowD
  rw [List.getElem?_map, List.getElem?_range h]
  rfl
theorem rng0 {n i : Nat} {d : Dt} (h : (rng 0 n)[i]? = some d) : i < n ∧ d = .int (i : Int) := by
  obtain ⟨a, b⟩ := rng_get h
  exact ⟨a, by rw [b, Int.zero_add]⟩
def isInt (d : Dt) : Bool := isiInt d && !isiBool d
abbrev spInt : Pre := pre1 (fun d => kd d = true) (fun d => .bl (isInt d))
theorem ok_is_integer (T : Top K mg CJ CA CP) : Has P w K mg base CX0 1 "is_integer" ["thing"] (mkSp K spInt) := by
  refine has_of T.d_is_integer sc_is_integer len1 ?_
  intro f cdv A outer s H E hr
  have z_isinstance := T.z_isinstance
  have z_int := T.z_int
  have z_bool := T.z_bool
  refine ⟨_, (pss_one (ps_ret (pe_and (pe_callB call_isi (by rfl) z_isinstance (by decide +kernel) (pa_cons (pv 0) (pa_cons (pe_bltn (v := .ty "int") (u := .type "int") (by rfl) z_int (by decide +kernel) rfl) pa_nil))) (pe_one (pe_not (pe_callB call_isi (by rfl) z_isinstance (by decide +kernel) (pa_cons (pv 0) (pa_cons (pe_bltn (v := .ty "bool") (u := .type "bool") (by rfl) z_bool (by decide +kernel) rfl) pa_nil)))))))), ?_⟩
  rintro _ _ _ _ ⟨d, rfl, hd, rfl, rfl, rfl⟩
  walk_at "go"
  refine' sv_retE (d := .bl (isiInt d && !isiBool d)) (by walk_at "ev") ⟨rfl, rfl⟩
def inRange (n d : Dt) : Bool := match n, d with | .int n, .int i => decide (0 ≤ i) && decide (i < n) | _, _ => false
abbrev spNum : Pre := pre2 (fun n d => kd d = true ∧ ∃ i, n = .int i) (fun n d => .bl (isInt d && inRange n d))
theorem ok_is_number (T : Top K mg CJ CA CP) : Has P w K mg base CX0 2 "is_number" ["many", "thing"] (mkSp K spNum) := by
  refine has_of T.d_is_number sc_is_number len2 ?_
  intro f cdv A outer s H E hr
  have h_is_integer := ok_is_integer (P := P) (w := w) (base := base) T
  refine ⟨_, (pss_one (ps_ret (pe_and (pe_has h_is_integer (hr.mono (by decide)) (by rfl) pass0 (pa_cons (pv 1) pa_nil)) (pe_one (pe_chain op_le op_lt pe_int (pv 1) (pv 0)))))), ?_⟩
  rintro _ _ _ _ ⟨n, d, rfl, ⟨hd, i, rfl⟩, rfl, rfl, rfl⟩
  walk_at "go"
  refine sv_ret ?_
  refine' ev_andV (b := isInt d) (ev_call1 (by walk_at "ev") hd) (fun hi => ?_)
  cases d with
  | int j =>
    refine' ev_chain (x := .int 0) (y := .int j) (by walk_at "ev") (by walk_at "ev") (by walk_at "ev") (fun _ => by walk_at "ev") (fun _ => by walk_at "ev")
  | _ => simp [isInt, isiInt, isiBool] at hi
abbrev spMap : Pre := pre2 (fun n d => ∃ (m : Nat) (ns : List Int), n = .int m ∧ d = .lst (ns.map .int) ∧ ns.length = m ∧ m ≤ 64 ∧ ∀ i ∈ ns, 0 ≤ i ∧ i < m) (fun _ _ => .bl true)
theorem ok_is_map (T : Top K mg CJ CA CP) : Has P w K mg base CX0 3 "is_map" ["many", "thing"] (mkSp K spMap) := by
  refine has_of T.d_is_map sc_is_map len2 ?_
  intro f cdv A outer s H E hr
  have z_isinstance := T.z_isinstance
  have z_list := T.z_list
  have z_len := T.z_len
  have z_all := T.z_all
  have h_is_number := ok_is_number (P := P) (w := w) (base := base) T
  refine ⟨_, (pss_cons (ps_if (PW.pt (pw_or (pt_not (pt_val (pe_callB call_isi (by rfl) z_isinstance (by decide +kernel) (pa_cons (pv 1) (pa_cons (pe_bltn (v := .ty "list") (u := .type "list") (by rfl) z_list (by decide +kernel) rfl) pa_nil))))) (pw_or1 (pt_cmpR (op_neU (hu64 hr)) (pe_callB call_len (by rfl) z_len (by decide +kernel) (pa_cons (pv 1) pa_nil)) (pv 0) (nomark _)))))
       (pss_one (ps_ret pe_bl))
       pss_nil)
       (pss_one (ps_ret (pe_callB (cr_all rfl) (by rfl) z_all (by decide +kernel) (pa_cons (pe_lc (own := [("value", 2)]) rfl sc_is_map.nd (pi_list (pv 1)) (blkOk_by (own := [("value", 2)]) (N := ["many", "thing", "value"]) (sc := defScope s_is_map) (by decide +kernel)) (fun _ _ _ _ _ => (pgn 2 sc_is_map.nd)) (fun _ _ _ _ _ => pts_nil) (fun _ _ _ _ _ => (pe_has h_is_number (hr.mono (by decide)) (by rfl) pass0 (pa_cons (pv 0) (pa_cons (pv 2) pa_nil))))) pa_nil))))), ?_⟩
  rintro _ _ _ _ ⟨_, _, rfl, ⟨m, ns, rfl, rfl, hl, hm, hns⟩, rfl, rfl, rfl⟩
  walk_at "go"
  refine sv_ifS (b := !true || !decide (((ns.map Dt.int).length : Int) = (m : Int))) ?_ (fun h => ?_) (fun _ => ?_)
  · exact et_or (et_not (et_B (ev_cb (by walk_at "ev") (cad_isiList rfl)))) (fun _ => et_test (ev_op (ev_cb (by walk_at "ev") (cad_len so_lst)) (ev_var rfl) opd_neUI))
  · simp [hl] at h
  · refine sv_nextS ?_
    refine sv_retE (d := .bl true) ?_ ⟨rfl, rfl⟩
    refine ev_is (ev_cb (ea_cons (ev_frz (ev_lcM (E' := E0) (fun _ => .bl true) (iv_listE (by walk_at "ev")) (by rw [List.length_map]; omega) (fun d _ => gv_name 2) (by simp) (fun d hd => ?_))) ea_nil) (cad_all (bs := ns.map fun _ => true) ?_)) ?_
    · obtain ⟨i, hi, rfl⟩ := List.mem_map.mp hd
      have := hns i hi
      refine ev_is (ev_call2 (ea_cons (ev_var rfl) (ea_cons (ev_var rfl) ea_nil)) ⟨rfl, _, rfl⟩) ?_
      simp [isInt, isiInt, isiBool, inRange, this.1, this.2]
    · have : ((ns.map Dt.int).map fun _ => Dt.bl true) = (ns.map fun _ => true).map Dt.bl := by simp
      rw [this]; exact lo_lst
    · simp
def isTab (d : Dt) : Prop := ∃ n f, Jn n f ∧ d = .lst (tab n f)
abbrev spRows : Pre := pre1 isTab (fun _ => .bl true)
theorem ok_are_rows (T : Top K mg CJ CA CP) : Has P w K mg base CX0 4 "_are_rows" ["thing"] (mkSp K spRows) := by
  refine has_of T.d_are_rows sc_are_rows len1 ?_
  intro f cdv A outer s H E hr
  have z_isinstance := T.z_isinstance
  have z_list := T.z_list
  have z_len := T.z_len
  have z_all := T.z_all
  obtain ⟨tm, g_MOST_VALUES⟩ := T.g_MOST_VALUES
  have h_is_map := ok_is_map (P := P) (w := w) (base := base) T
  refine ⟨_, (pss_cons (ps_if (PW.pt (pw_or (pt_not (pt_val (pe_callB call_isi (by rfl) z_isinstance (by decide +kernel) (pa_cons (pv 0) (pa_cons (pe_bltn (v := .ty "list") (u := .type "list") (by rfl) z_list (by decide +kernel) rfl) pa_nil))))) (pw_or1 (pt_not (pt_chain op_le op_le pe_int (pe_callB call_len (by rfl) z_len (by decide +kernel) (pa_cons (pv 0) pa_nil)) (pe_glob (v := .int 64) (by rfl) g_MOST_VALUES ⟨_, rfl⟩))))))
       (pss_one (ps_ret pe_bl))
       pss_nil)
       (pss_one (ps_ret (pe_callB (cr_all rfl) (by rfl) z_all (by decide +kernel) (pa_cons (pe_lc (own := [("row", 1)]) rfl sc_are_rows.nd (pi_list (pv 0)) (blkOk_by (own := [("row", 1)]) (N := ["thing", "row"]) (sc := defScope s_are_rows) (by decide +kernel)) (fun _ _ _ _ _ => (pgn 1 sc_are_rows.nd)) (fun _ _ _ _ _ => pts_nil) (fun _ _ _ _ _ => (pe_has h_is_map (hr.mono (by decide)) (by rfl) pass0 (pa_cons (pe_callB (show CallR _ (.builtin "len") (fun xs H Q => ∃ x n, xs = [x] ∧ LenV K x H n ∧ Q (.int n) H) from call_len) (by rfl) z_len (by decide +kernel) (pa_cons (pv 0) pa_nil)) (pa_cons (pv 1) pa_nil))))) pa_nil))))), ?_⟩
  rintro _ _ _ _ ⟨_, rfl, ⟨n, f, J, rfl⟩, rfl, rfl, rfl⟩
  walk_at "go"
  have hp := J.pos
  have hf := J.few
  refine sv_ifS (b := !true || !(decide ((1 : Int) ≤ ((tab n f).length : Int)) && decide (((tab n f).length : Int) ≤ 64))) ?_ (fun h => ?_) (fun _ => ?_)
  · refine et_or (et_not (et_B (ev_cb (by walk_at "ev") (cad_isiList rfl)))) (fun _ => et_not ?_)
    refine et_test (ev_chain (x := .int 1) (y := .int ((tab n f).length : Int)) (by walk_at "ev") (ev_cb (by walk_at "ev") (cad_len so_lst)) (by walk_at "ev") (fun _ => by walk_at "ev") (fun _ => by walk_at "ev"))
  · rw [tab_len] at h
    have h1 : (1 : Int) ≤ (n : Int) := by omega
    have h2 : (n : Int) ≤ 64 := by omega
    simp [h1, h2] at h
  · refine sv_nextS ?_
    refine sv_retE (d := .bl true) ?_ ⟨rfl, rfl⟩
    refine ev_is (ev_cb (ea_cons (ev_frz (ev_lcM (E' := E0) (fun _ => .bl true) (iv_listE (by walk_at "ev")) (by rw [tab_len]; omega) (fun d _ => gv_name 1) (by simp) (fun d hd => ?_))) ea_nil) (cad_all (bs := (tab n f).map fun _ => true) ?_)) ?_
    · unfold tab at hd
      obtain ⟨u, hu, rfl⟩ := List.mem_map.mp hd
      have hu := List.mem_range.mp hu
      refine ev_call2 (ea_cons (ev_cb (ea_cons (ev_var rfl) ea_nil) (cad_len so_lst)) (ea_cons (ev_var rfl) ea_nil)) ⟨n, (List.range n).map fun v => ((f u v : Nat) : Int), by rw [tab_len], ?_, by simp, hf, ?_⟩
      · unfold rowD
        rw [List.map_map]
        rfl
      · intro i hi
        obtain ⟨v, hv, rfl⟩ := List.mem_map.mp hi
        have := J.lt u v hu (List.mem_range.mp hv)
        omega
    · have : ((tab n f).map fun _ => Dt.bl true) = ((tab n f).map fun _ => true).map Dt.bl := by simp
      rw [this]; exact lo_lst
    · simp
end
end
section
set_option maxRecDepth 100000
set_option maxHeartbeats 400000
open PySem PySem.Spec PyProof.Rows L2 FF
open Evl (Ex)
section
variable {P : Program} {w : World} {K : PySem.W.Frag} {mg : Str → Option Value} {base : Heap} {CJ CA CP : Addr}
abbrev spNone : Pre := pre1 isTab (fun _ => .non)
theorem ok_unlike_itself (T : Top K mg CJ CA CP) : Has P w K mg base CX0 1 "_unlike_itself" ["rows"] (mkSp K spNone) := by
  refine has_of T.d_unlike_itself sc_unlike_itself len1 ?_
  intro f cdv A outer s H E hr
  have z_range := T.z_range
  have z_len := T.z_len
  refine ⟨_, (pss_cons (ps_for PassesOwn.never rfl (pi_range1 rfl z_range (pa_cons (pe_callB call_len (by rfl) z_len (by decide +kernel) (pa_cons (pv 0) pa_nil)) pa_nil)) (pgn 1 sc_unlike_itself.nd)
       (pss_one (ps_if (pt_cmpR (op_neU (hu64 hr)) (pe_ix ix_seq (pe_ix ix_seq (pv 0) (pv 1) (fun _ _ => rfl)) (pv 1) (fun _ _ => rfl)) (pv 1) (nomark _))
       (pss_one ps_never)
       pss_nil)))
       (pss_one (ps_ret pe_non))), ?_⟩
  rintro _ _ _ _ ⟨_, rfl, ⟨n, f, J, rfl⟩, rfl, rfl, rfl⟩
  have hf := J.few
  walk_at "go"
  refine sv_forS (T := fun d Δ => Δ.set 1 (some d)) (js := [1]) (iv_range1 (n := ((tab n f).length : Int)) (ea_cons (ev_cb (ea_cons (ev_var rfl) ea_nil) (cad_len so_lst)) ea_nil) (by rw [tab_len]; omega) (by rw [tab_len]; omega)) (fun i d _ => gv_name 1) (fun i Δ' O' => ∃ x1, Δ' = [some (.lst (tab n f)), x1] ∧ O' = []) ⟨none, rfl, rfl⟩ ?_ ?_
  · rintro i d _ _ hd ⟨x1, rfl, rfl⟩
    obtain ⟨hi, rfl⟩ := rng0 hd
    rw [tab_len, Int.toNat_natCast] at hi
    walk_at "nm"
    refine sv_if (b := !decide (((f i i : Nat) : Int) = (i : Int))) (et_test (ev_op (ev_op (ev_op (ev_var rfl) (ev_var rfl) (opd_ixN so_lst (tab_get hi))) (ev_var rfl) (opd_ixN so_lst (row_get hi))) (ev_var rfl) opd_neUI)) (fun h => ?_) (fun _ => sv_next ⟨_, rfl, rfl⟩)
    rw [J.idem i hi] at h
    simp at h
  · rintro _ _ ⟨x1, rfl, rfl⟩
    exact sv_retE ev_non ⟨rfl, rfl⟩
theorem ok_unlike_turned (T : Top K mg CJ CA CP) : Has P w K mg base CX0 1 "_unlike_turned" ["rows"] (mkSp K spNone) := by
  refine has_of T.d_unlike_turned sc_unlike_turned len1 ?_
  intro f cdv A outer s H E hr
  have z_range := T.z_range
  have z_len := T.z_len
  refine ⟨_, (pss_cons (ps_for PassesOwn.never rfl (pi_range1 rfl z_range (pa_cons (pe_callB call_len (by rfl) z_len (by decide +kernel) (pa_cons (pv 0) pa_nil)) pa_nil)) (pgn 1 sc_unlike_turned.nd)
       (pss_one (ps_for PassesOwn.never rfl (pi_range1 rfl z_range (pa_cons (pe_callB call_len (by rfl) z_len (by decide +kernel) (pa_cons (pv 0) pa_nil)) pa_nil)) (pgn 2 sc_unlike_turned.nd)
       (pss_one (ps_if (pt_cmpR (op_neU (hu64 hr)) (pe_ix ix_seq (pe_ix ix_seq (pv 0) (pv 1) (fun _ _ => rfl)) (pv 2) (fun _ _ => rfl)) (pe_ix ix_seq (pe_ix ix_seq (pv 0) (pv 2) (fun _ _ => rfl)) (pv 1) (fun _ _ => rfl)) (nomark _))
       (pss_one ps_never)
       pss_nil)))))
       (pss_one (ps_ret pe_non))), ?_⟩
  rintro _ _ _ _ ⟨_, rfl, ⟨n, f, J, rfl⟩, rfl, rfl, rfl⟩
  have hf := J.few
  walk_at "go"
  have hrng : ∀ {Δ : Env_}, Δ[0]? = some (some (.lst (tab n f))) → Iv K E X0 (iRng1 (tCons (tCB (fun xs H Q => ∃ x n, xs = [x] ∧ LenV K x H n ∧ Q (.int n) H) (tCons (tVar 0) tNil)) tNil)) Δ [] (exl (rng 0 n) []) := fun {Δ} h0 => by
    have := iv_range1 (K := K) (E := E) (Ψ := X0) (Δ := Δ) (O := []) (n := ((tab n f).length : Int)) (tas := tCons (tCB (fun xs H Q => ∃ x n, xs = [x] ∧ LenV K x H n ∧ Q (.int n) H) (tCons (tVar 0) tNil)) tNil) (ea_cons (ev_cb (ea_cons (ev_var h0) ea_nil) (cad_len so_lst)) ea_nil) (by rw [tab_len]; omega) (by rw [tab_len]; omega)
    rwa [tab_len, Int.toNat_natCast] at this
  refine sv_forS (T := fun d Δ => Δ.set 1 (some d)) (js := [1]) (hrng rfl) (fun i d _ => gv_name 1) (fun i Δ' O' => ∃ x1 x2, Δ' = [some (.lst (tab n f)), x1, x2] ∧ O' = []) ⟨none, none, rfl, rfl⟩ ?_ ?_
  · rintro i d _ _ hd ⟨x1, x2, rfl, rfl⟩
    obtain ⟨hi, rfl⟩ := rng0 hd
    walk_at "nm"
    refine sv_for (T := fun d Δ => Δ.set 2 (some d)) (js := [2]) (hrng rfl) (fun _ _ i d _ _ => gv_name 2) (fun _ _ Δ' O' => ∃ x2, Δ' = [some (.lst (tab n f)), some (.int (i : Int)), x2] ∧ O' = []) (fun _ _ h => ⟨_, rfl, h.2⟩) ?_ ?_
    · rintro _ _ j d _ _ ⟨rfl, rfl⟩ hd2 ⟨x2, rfl, rfl⟩
      obtain ⟨hj, rfl⟩ := rng0 hd2
      walk_at "nm"
      refine sv_if (b := !decide (((f i j : Nat) : Int) = ((f j i : Nat) : Int))) (et_test (ev_op (ev_op (ev_op (ev_var rfl) (ev_var rfl) (opd_ixN so_lst (tab_get hi))) (ev_var rfl) (opd_ixN so_lst (row_get hj))) (ev_op (ev_op (ev_var rfl) (ev_var rfl) (opd_ixN so_lst (tab_get hj))) (ev_var rfl) (opd_ixN so_lst (row_get hi))) opd_neUI)) (fun h => ?_) (fun _ => sv_next ⟨_, rfl, rfl⟩)
      rw [J.comm i j hi hj] at h
      simp at h
    · rintro _ _ _ _ _ ⟨x2, rfl, rfl⟩
      exact ⟨_, _, rfl, rfl⟩
  · rintro _ _ ⟨x1, x2, rfl, rfl⟩
    exact sv_retE ev_non ⟨rfl, rfl⟩
theorem row_ok {n : Nat} {f : Nat → Nat → Nat} {u : Nat} : (Dt.lst (rowD n f u)).eok = true := by
  have h : ∀ ns : List Int, okL (ns.map Dt.int) = true ∧ PyData.depthAll (pyL (ns.map Dt.int)) = 0 := fun ns => by
    induction ns with
    | nil => exact ⟨rfl, rfl⟩
    | cons a b ih =>
      simp only [List.map_cons, okL, pyL, PyData.depthAll, ih.1, ih.2]
      exact ⟨rfl, rfl⟩
  have e : rowD n f u = ((List.range n).map fun v => ((f u v : Nat) : Int)).map Dt.int := by
    unfold rowD
    rw [List.map_map]
    rfl
  have q := h ((List.range n).map fun v => ((f u v : Nat) : Int))
  rw [← e] at q
  simp only [Dt.eok, Dt.ok, Dt.py, PyData.depth, q.1, q.2, Bool.true_and]
  rfl
theorem ok_unlike_shifted (T : Top K mg CJ CA CP) : Has P w K mg base CX0 1 "_unlike_shifted" ["rows"] (mkSp K spNone) := by
  refine has_of T.d_unlike_shifted sc_unlike_shifted len1 ?_
  intro f cdv A outer s H E hr
  have z_range := T.z_range
  have z_len := T.z_len
  refine ⟨_, (pss_cons (ps_for PassesOwn.never rfl (pi_range1 rfl z_range (pa_cons (pe_callB call_len (by rfl) z_len (by decide +kernel) (pa_cons (pv 0) pa_nil)) pa_nil)) (pgn 1 sc_unlike_shifted.nd)
       (pss_one (ps_for PassesOwn.never rfl (pi_range1 rfl z_range (pa_cons (pe_callB call_len (by rfl) z_len (by decide +kernel) (pa_cons (pv 0) pa_nil)) pa_nil)) (pgn 2 sc_unlike_shifted.nd)
       (pss_cons (pset 3 sc_unlike_shifted.nd (pe_ix ix_seq (pv 0) (pe_ix ix_seq (pe_ix ix_seq (pv 0) (pv 1) (fun _ _ => rfl)) (pv 2) (fun _ _ => rfl)) (fun _ _ => rfl)))
       (pss_cons (ps_setLc (i := 4) (own := [("value", 5)]) rfl sc_unlike_shifted.nd rfl rfl (sw_true rfl rfl rfl (by decide +kernel)) (pi_list (pe_ix ix_seq (pv 0) (pv 2) (fun _ _ => rfl))) (blkOk_by (own := [("value", 5)]) (N := ["rows", "u", "v", "left", "right", "value"]) (sc := defScope s_unlike_shifted) (by decide +kernel)) (fun _ _ _ _ _ => (pgn 5 sc_unlike_shifted.nd)) (fun _ _ _ _ _ => pts_nil) (fun _ _ _ _ _ => (pe_ix (show IxR _ (rIx K) from ix_seq) (pe_ix (show IxR _ (rIx K) from ix_seq) (pv 0) (pv 1) (fun _ _ => rfl)) (pv 5) (fun _ _ => rfl))))
       (pss_one (ps_if (pt_cmpR (op_neU (hu64 hr)) (pv 3) (pv 4) (nomark _))
       (pss_one ps_never)
       pss_nil)))))))
       (pss_one (ps_ret pe_non))), ?_⟩
  rintro _ _ _ _ ⟨_, rfl, ⟨n, f, J, rfl⟩, rfl, rfl, rfl⟩
  have hf := J.few
  walk_at "go"
  have hrng : ∀ {Δ : Env_}, Δ[0]? = some (some (.lst (tab n f))) → Iv K E X0 (iRng1 (tCons (tCB (fun xs H Q => ∃ x n, xs = [x] ∧ LenV K x H n ∧ Q (.int n) H) (tCons (tVar 0) tNil)) tNil)) Δ [] (exl (rng 0 n) []) := fun {Δ} h0 => by
    have := iv_range1 (K := K) (E := E) (Ψ := X0) (Δ := Δ) (O := []) (n := ((tab n f).length : Int)) (tas := tCons (tCB (fun xs H Q => ∃ x n, xs = [x] ∧ LenV K x H n ∧ Q (.int n) H) (tCons (tVar 0) tNil)) tNil) (ea_cons (ev_cb (ea_cons (ev_var h0) ea_nil) (cad_len so_lst)) ea_nil) (by rw [tab_len]; omega) (by rw [tab_len]; omega)
    rwa [tab_len, Int.toNat_natCast] at this
  refine sv_forS (T := fun d Δ => Δ.set 1 (some d)) (js := [1]) (hrng rfl) (fun i d _ => gv_name 1) (fun i Δ' O' => ∃ x1 x2 x3 x4 x5, Δ' = [some (.lst (tab n f)), x1, x2, x3, x4, x5] ∧ O' = []) ⟨none, none, none, none, none, rfl, rfl⟩ ?_ ?_
  · rintro i d _ _ hd ⟨x1, x2, x3, x4, x5, rfl, rfl⟩
    obtain ⟨hi, rfl⟩ := rng0 hd
    walk_at "nm"
    refine sv_for (T := fun d Δ => Δ.set 2 (some d)) (js := [2]) (hrng rfl) (fun _ _ i d _ _ => gv_name 2) (fun _ _ Δ' O' => ∃ x2 x3 x4 x5, Δ' = [some (.lst (tab n f)), some (.int (i : Int)), x2, x3, x4, x5] ∧ O' = []) (fun _ _ h => ⟨_, _, _, _, rfl, h.2⟩) ?_ ?_
    · rintro _ _ j d _ _ ⟨rfl, rfl⟩ hd2 ⟨x2, x3, x4, x5, rfl, rfl⟩
      obtain ⟨hj, rfl⟩ := rng0 hd2
      have hij := J.lt i j hi hj
      walk_at "nm"
      refine sv_setE (ev_op (ev_var rfl) (ev_op (ev_op (ev_var rfl) (ev_var rfl) (opd_ixN so_lst (tab_get hi))) (ev_var rfl) (opd_ixN so_lst (row_get hj))) (opd_ixN so_lst (tab_get hij))) ?_
      walk_at "nm"
      refine sv_setE (d := .lst (rowD n f (f i j))) ?_ ?_
      · refine ev_is (ev_frz (ev_lcM (E' := E0) (fun d => match d with | .int v => .int ((f i v.toNat : Nat) : Int) | d => d) (iv_listE (ev_op (ev_var rfl) (ev_var rfl) (opd_ixN so_lst (tab_get hj)))) (by rw [row_len]; omega) (fun d _ => gv_name 5) (by simp) (fun d hd => ?_))) ?_
        · unfold rowD at hd
          obtain ⟨t, ht, rfl⟩ := List.mem_map.mp hd
          have ht := List.mem_range.mp ht
          have hjt := J.lt j t hj ht
          exact ev_is (ev_op (ev_op (ev_var rfl) (ev_var rfl) (opd_ixN so_lst (tab_get hi))) (ev_var rfl) (opd_ixN so_lst (row_get hjt))) (by simp)
        · congr 1
          unfold rowD
          rw [List.map_map]
          refine List.map_congr_left fun t ht => ?_
          have ht := List.mem_range.mp ht
          simp [J.assoc i j t hi hj ht]
      walk_at "nm"
      refine sv_if (b := !eqd (.lst (rowD n f (f i j))) (.lst (rowD n f (f i j)))) (et_test (ev_op (ev_var rfl) (ev_var rfl) (opd_neU row_ok row_ok))) (fun h => ?_) (fun _ => sv_next ⟨_, _, _, _, rfl, rfl⟩)
      rw [eqd_refl (eok_ok row_ok)] at h
      simp at h
    · rintro _ _ _ _ _ ⟨x2, x3, x4, x5, rfl, rfl⟩
      exact ⟨_, _, _, _, _, rfl, rfl⟩
  · rintro _ _ ⟨x1, x2, x3, x4, x5, rfl, rfl⟩
    exact sv_retE ev_non ⟨rfl, rfl⟩
theorem ok_bad_join (T : Top K mg CJ CA CP) : Has P w K mg base CX0 2 "_bad_join" ["rows"] (mkSp K spNone) := by
  refine has_of T.d_bad_join sc_bad_join len1 ?_
  intro f cdv A outer s H E hr
  have h_unlike_itself := ok_unlike_itself (P := P) (w := w) (base := base) T
  have h_unlike_turned := ok_unlike_turned (P := P) (w := w) (base := base) T
  have h_unlike_shifted := ok_unlike_shifted (P := P) (w := w) (base := base) T
  refine ⟨_, (pss_one (ps_ret (pe_orT (pe_has h_unlike_itself (hr.mono (by decide)) (by rfl) pass0 (pa_cons (pv 0) pa_nil)) (pe_orT (pe_has h_unlike_turned (hr.mono (by decide)) (by rfl) pass0 (pa_cons (pv 0) pa_nil)) (pe_one (pe_has h_unlike_shifted (hr.mono (by decide)) (by rfl) pass0 (pa_cons (pv 0) pa_nil))))))), ?_⟩
  rintro _ _ _ _ ⟨_, rfl, hT, rfl, rfl, rfl⟩
  walk_at "go"
  exact sv_retE (ev_orTN (ev_call1 (ea_cons (ev_var rfl) ea_nil) hT) (ev_orTN (ev_call1 (ea_cons (ev_var rfl) ea_nil) hT) (ev_call1 (ea_cons (ev_var rfl) ea_nil) hT))) ⟨rfl, rfl⟩
abbrev preJoins (CJ : Addr) : Pre := preI CJ (fun es => ∃ d, es = [d] ∧ isTab d) (fun es => [("_rows", es.headD .non)])
theorem ok_Joins (T : Top K mg CJ CA CP) : HasI P w K mg base CX0 5 CJ "Joins" ["self", "rows"] (mkSp K (preJoins CJ)) := by
  refine hasI_of T.i_Joins sc_Joins___init__ ?_ ?_
  · rintro ds O Φ Ψ ⟨x, es, rfl, ⟨d, rfl, _⟩, _⟩
    rfl
  intro f cdv A outer s H E hr
  have z_list := T.z_list
  have h_are_rows := ok_are_rows (P := P) (w := w) (base := base) T
  have h_bad_join := ok_bad_join (P := P) (w := w) (base := base) T
  refine ⟨_, (pss_cons (ps_if (pt_not (pt_val (pe_has h_are_rows (hr.mono (by decide)) (by rfl) pass0 (pa_cons (pv 1) pa_nil))))
       (pss_one ps_never)
       pss_nil)
       (pss_cons (pset 2 sc_Joins___init__.nd (pe_has h_bad_join (hr.mono (by decide)) (by rfl) pass0 (pa_cons (pv 1) pa_nil)))
       (pss_cons (ps_if (pt_cmpR op_notN (pv 2) pe_non (nomark _))
       (pss_one ps_never)
       pss_nil)
       (pss_one (ps_fld (pv 0) (pe_lc (own := [("row", 3)]) rfl sc_Joins___init__.nd (pi_list (pv 1)) (blkOk_by (own := [("row", 3)]) (N := ["self", "rows", "which", "row"]) (sc := defScope s_Joins___init__) (by decide +kernel)) (fun _ _ _ _ _ => (pgn 3 sc_Joins___init__.nd)) (fun _ _ _ _ _ => pts_nil) (fun _ _ _ _ _ => (pe_callTy (show CallR _ (.type "list") (fun xs H Q => ∃ p ys, xs = [.ref p] ∧ (SqL K H p ys ∨ SqT K H p ys) ∧ ∀ l, H l = none → Q (.ref l) (upd H l (.lst ys))) from call_list_of) (by rfl) z_list (by decide +kernel) (pa_cons (pv 3) pa_nil)))) rfl))))), ?_⟩
  rintro _ _ _ _ ⟨x, _, rfl, ⟨_, rfl, hT⟩, rfl, rfl, rfl⟩
  obtain ⟨n, f, J, rfl⟩ := id hT
  have hf := J.few
  walk_at "go"
  refine sv_ifS (b := !true) (et_not (et_B (ev_call1 (ea_cons (ev_var rfl) ea_nil) hT))) (fun h => by cases h) (fun _ => sv_nextS ?_)
  refine sv_setE (ev_call1 (ea_cons (ev_var rfl) ea_nil) hT) ?_
  walk_at "nm"
  refine sv_ifS (b := !FF.isNon .non) (et_test (ev_op (ev_var rfl) ev_non opd_notN)) (fun h => by cases h) (fun _ => sv_nextS ?_)
  refine sv_fld (i := 0) (fs := []) (d := .lst (tab n f)) T.cl_Joins T.na_Joins__rows ?_ (ev_var rfl) rfl rfl (by simp) ⟨trivial, rfl⟩
  refine ev_is (ev_frz (ev_lcM (E' := E0) id (iv_listE (ev_var rfl)) (by rw [tab_len]; omega) (fun d _ => gv_name 3) (by simp) (fun d hd => ?_))) (by rw [List.map_id])
  unfold tab at hd
  obtain ⟨u, hu, rfl⟩ := List.mem_map.mp hd
  exact ev_frz (ev_cb (ea_cons (ev_var rfl) ea_nil) (cad_list so_lst))
abbrev jo (CJ : Addr) (n : Nat) (f : Nat → Nat → Nat) : Dt := .obj CJ [("_rows", .lst (tab n f))]
end
end
section
set_option maxRecDepth 100000
set_option maxHeartbeats 400000
open PySem PySem.Spec PyProof.Rows L2 FF
open Evl (Ex)
section
variable {P : Program} {w : World} {K : PySem.W.Frag} {mg : Str → Option Value} {base : Heap} {CJ CA CP : Addr}
theorem mod_in {a m : Int} (h : 0 < m) : 0 ≤ a % m ∧ a % m < m := ⟨Int.emod_nonneg a (by omega), Int.emod_lt_of_pos a h⟩
theorem ok_l_take (T : Top K mg CJ CA CP) : HasG P w K mg base CX0 1 "_law_take" ["_law_bag_here", "_law_many"] (mkSp K preTake) := by
  refine hasG_of T.d_l_take sc_l_take ?_ ?_
  · rintro ds O Φ Ψ ⟨b, n, rfl, _⟩
    rfl
  · intro f cdv A outer s H E g hr
    have z_len := T.z_len
    have z_int := T.z_int
    refine ⟨_, (pss_cons (ps_if (pt_cmpR (op_eqU (hu64 hr)) (pe_ix ix_seq (pv 0) pe_int (fun _ _ => rfl)) pe_int (nomark _))
       (pss_cons (pset 2 sc_l_take.nd pe_int)
       (pss_cons (ps_if (pt_cmpR op_lt (pe_ix ix_seq (pv 0) pe_int (fun _ _ => rfl)) (pe_callB call_len (by rfl) z_len (by decide +kernel) (pa_cons (pe_ix ix_seq (pv 0) pe_int (fun _ _ => rfl)) pa_nil)) (nomark _))
       (pss_one (pset 2 sc_l_take.nd (pe_ix ix_seq (pe_ix ix_seq (pv 0) pe_int (fun _ _ => rfl)) (pe_ix ix_seq (pv 0) pe_int (fun _ _ => rfl)) (fun _ _ => rfl))))
       pss_nil)
       (pss_cons (ps_augS (pv 0) pe_int get_list pe_int ip_add set_list)
       (pss_cons (ps_if (pt_cmpR op_ge (pv 2) pe_int (nomark _))
       (pss_one (ps_asg (pv 2) (pg_sub (pv 0) pe_int set_list)))
       pss_nil)
       (pss_cons (pset 3 sc_l_take.nd (pe_op op_plus (pe_op op_plus (pe_op op_times (pe_ix ix_seq (pv 0) pe_int (fun _ _ => rfl)) pe_int) (pe_op op_mod (pe_callTy call_int1 (by rfl) z_int (by decide +kernel) (pa_cons (pv 2) pa_nil)) pe_int)) (pe_op op_times pe_int (pe_ix ix_seq (pv 0) pe_int (fun _ _ => rfl)))))
       (pss_one (ps_asg (pe_op op_mod (pe_callTy call_int1 (by rfl) z_int (by decide +kernel) (pa_cons (pv 3) pa_nil)) pe_int) (pg_sub (pv 0) pe_int set_list))))))))
       pss_nil)
       (pss_cons (ps_if (pt_cmpR op_gt (pe_ix ix_seq (pv 0) pe_int (fun _ _ => rfl)) pe_int (nomark _))
       (pss_cons (pset 4 sc_l_take.nd (pe_op op_mod (pe_callTy call_int1 (by rfl) z_int (by decide +kernel) (pa_cons (pe_ix ix_seq (pv 0) pe_int (fun _ _ => rfl)) pa_nil)) (pv 1)))
       (pss_cons (ps_asg (pe_op op_fdiv (pe_callTy call_int1 (by rfl) z_int (by decide +kernel) (pa_cons (pe_ix ix_seq (pv 0) pe_int (fun _ _ => rfl)) pa_nil)) (pv 1)) (pg_sub (pv 0) pe_int set_list))
       (pss_one (ps_ret (pv 4)))))
       pss_nil)
       (pss_cons (pset 5 sc_l_take.nd (pe_op op_mod (pe_callTy call_int1 (by rfl) z_int (by decide +kernel) (pa_cons (pe_op op_times (pe_op op_plus (pe_ix ix_seq (pv 0) pe_int (fun _ _ => rfl)) pe_int) pe_int) pa_nil)) pe_int))
       (pss_cons (pset 6 sc_l_take.nd (pe_op op_mod (pe_callTy call_int1 (by rfl) z_int (by decide +kernel) (pa_cons (pe_op op_times (pe_op op_mod (pe_callTy call_int1 (by rfl) z_int (by decide +kernel) (pa_cons (pe_op op_times (pv 5) (pv 5)) pa_nil)) pe_int) pe_int) pa_nil)) pe_int))
       (pss_cons (ps_if (pt_cmpR op_gt (pv 1) pe_int (nomark _))
       (pss_one (ps_ret (pe_op op_mod (pe_callTy call_int1 (by rfl) z_int (by decide +kernel) (pa_cons (pe_op op_plus (pe_op op_times (pv 6) pe_int) (pv 5)) pa_nil)) (pv 1))))
       pss_nil)
       (pss_one (ps_ret (pe_op op_mod (pe_callTy call_int1 (by rfl) z_int (by decide +kernel) (pa_cons (pe_op op_fdiv (pv 6) pe_int) pa_nil)) (pv 1))))))))), ?_⟩
    rintro _ _ _ _ ⟨b, n, rfl, h0, h1, rfl, rfl, rfl⟩
    walk_at "go"
    refine sv_bago fun L hL => ?_
    refine sv_seq (M := fun Δ' O' => ∃ L x2 x3, BagL L ∧ O' = [(b, .lst L)] ∧ Δ' = [some (.ref b), some (.int n), x2, x3, none, none, none]) ?_ ?_
    · obtain ⟨k, s', i, cells, rfl, hk, hs0, hs1, hi0, hcells, hcl⟩ := hL
      refine' sv_if (by walk_at "ev") (fun _ => ?_) (fun _ => ?_)
      · refine sv_setE ev_int ?_
        refine sv_seq (M := fun Δ' O' => ∃ z : Int, 0 ≤ z ∧ O' = [(b, .lst [.int k, .int s', .int i, .lst (cells.map .int)])] ∧ Δ' = [some (.ref b), some (.int n), some (.int z), none, none, none, none]) ?_ ?_
        · refine' sv_if (by walk_at "ev") (fun hlt => ?_) (fun _ => ?_)
          · have hlt' := of_decide_eq_true hlt
            rw [List.length_map] at hlt'
            have hget : (cells.map Dt.int)[i.toNat]? = some (.int cells[i.toNat]) := by
              rw [List.getElem?_map, List.getElem?_eq_getElem (by omega)]
              rfl
            refine sv_set (Φ := ex (.int cells[i.toNat]) _) ?_ fun d O' p => ⟨cells[i.toNat], hcells _ (List.getElem_mem _), p.2, by rw [p.1]; rfl⟩
            refine' ev_op (y := .int i) (by walk_at "ev") (by walk_at "ev") (opd_ixI so_lst hi0 hget)
          · exact sv_next ⟨0, by omega, rfl, rfl⟩
        · rintro Δ' O' ⟨z, hz, rfl, rfl⟩
          refine' sv_augLS (n := 2) (i := 0) (by walk_at "ev") (by walk_at "ev") (by walk_at "ev") rfl rfl ?_
          walk_at "nm"
          refine sv_seq (M := fun Δ' O' => ∃ k' : Int, 0 ≤ k' ∧ O' = [(b, .lst [.int k', .int s', .int (i + 1), .lst (cells.map .int)])] ∧ Δ' = [some (.ref b), some (.int n), some (.int z), none, none, none, none]) ?_ ?_
          · refine' sv_if (by walk_at "ev") (fun _ => ?_) (fun _ => ?_)
            · refine' sv_setL (x := .int z) (n := 0) (i := 0) (by walk_at "ev") (by walk_at "ev") (by walk_at "ev") rfl (by simp) ?_
              exact ⟨z, hz, rfl, rfl⟩
            · exact sv_next ⟨k, hk, rfl, rfl⟩
          · rintro Δ' O' ⟨k', hk', rfl, rfl⟩
            refine' sv_setE (by walk_at "ev") ?_
            walk_at "nm"
            refine' sv_setL (n := 1) (i := 0) (by walk_at "ev") (by walk_at "ev") (by walk_at "ev") rfl (by simp) ?_
            exact ⟨_, _, _, ⟨k', _, i + 1, cells, rfl, hk', (mod_in (by decide)).1, (mod_in (by decide)).2, by omega, hcells, hcl⟩, rfl, rfl⟩
      · exact sv_next ⟨_, none, none, ⟨k, s', i, cells, rfl, hk, hs0, hs1, hi0, hcells, hcl⟩, rfl, rfl⟩
    · rintro Δ' O' ⟨L, x2, x3, hL, rfl, rfl⟩
      obtain ⟨k, s', i, cells, rfl, hk, hs0, hs1, hi0, hcells, hcl⟩ := id hL
      refine' sv_ifS (by walk_at "ev") (fun _ => ?_) (fun _ => ?_)
      · refine sv_assoc ?_
        refine' sv_setE (by walk_at "ev") ?_
        walk_at "nm"
        refine sv_assoc ?_
        refine' sv_setLS (n := 0) (i := 0) (by walk_at "ev") (by walk_at "ev") (by walk_at "ev") rfl (by simp) ?_
        walk_at "nm"
        refine sv_retS (sv_ret ?_)
        refine' ev_bagc (Θ := fun d => d = .int (k % n)) ⟨k / n, s', i, cells, rfl, Int.ediv_nonneg hk (by omega), hs0, hs1, hi0, hcells, hcl⟩ (by walk_at "ev") ?_
        rintro d rfl
        exact ⟨⟨_, rfl, mod_in h0⟩, rfl⟩
      · refine sv_nextS ?_
        refine' sv_setE (by walk_at "ev") ?_
        walk_at "nm"
        refine' sv_setE (by walk_at "ev") ?_
        walk_at "nm"
        refine' sv_ifS (by walk_at "ev") (fun _ => ?_) (fun _ => ?_)
        · refine sv_retS (sv_ret ?_)
          refine' ev_bagc (Θ := fun d => ∃ r, d = .int r ∧ 0 ≤ r ∧ r < n) hL ?_ (fun d hd => ⟨hd, rfl⟩)
          refine' (show Ev _ _ _ _ _ _ (ex _ _) by walk_at "ev").imp fun d O' p => ⟨⟨_, p.1, mod_in h0⟩, p.2⟩
        · refine sv_nextS (sv_ret ?_)
          refine' ev_bagc (Θ := fun d => ∃ r, d = .int r ∧ 0 ≤ r ∧ r < n) hL ?_ (fun d hd => ⟨hd, rfl⟩)
          refine' (show Ev _ _ _ _ _ _ (ex _ _) by walk_at "ev").imp fun d O' p => ⟨⟨_, p.1, mod_in h0⟩, p.2⟩
abbrev spAlike : Pre := pre2 (fun x y => aOk x ∧ aOk y) (fun x y => .bl (alk x y))
theorem ok_l_alike (T : Top K mg CJ CA CP) : HasG P w K mg base CX0 1 "_law_alike" ["_law_found", "_law_due"] (mkSp K spAlike) := by
  refine hasG_of T.d_l_alike sc_l_alike len2 ?_
  intro f cdv A outer s H E g hr
  have z_repr := T.z_repr
  refine ⟨_, (pss_one (ps_ret (pe_and (pe_cmpR (op_eqU (hu64 hr)) (pv 0) (pv 1) (nomark _)) (pe_one (pe_cmpR (op_eqU (hu64 hr)) (pe_callB (call_reprD g (hu100 hr)) (by rfl) z_repr (by decide +kernel) (pa_cons (pv 0) pa_nil)) (pe_callB (call_reprD g (hu100 hr)) (by rfl) z_repr (by decide +kernel) (pa_cons (pv 1) pa_nil)) (nomark _)))))), ?_⟩
  rintro _ _ _ _ ⟨x, y, rfl, ⟨hx, hy⟩, rfl, rfl, rfl⟩
  walk_at "go"
  refine' sv_retE (d := .bl (eqd x y && decide (shw x = shw y))) ?_ ⟨rfl, rfl⟩
  refine' ev_andV (ev_op (by walk_at "ev") (by walk_at "ev") (opd_eqU hx.1 hy.1)) (fun _ => ?_)
  exact ev_op (ev_cb (ea_cons (by walk_at "ev") ea_nil) (cad_repr hx.2.1 (aOk_shw hx))) (ev_cb (ea_cons (by walk_at "ev") ea_nil) (cad_repr hy.2.1 (aOk_shw hy))) opd_eqUS
/-! the bag itself -/
def preBag : Pre := fun ds O Φ Ψ => ∃ ns : List Int, ds = [.frl (ns.map .int)] ∧ ns.length ≤ 63 ∧ O = [] ∧ Φ = (fun d O' => ∃ b, d = .ref b ∧ O' = [(b, .bag)]) ∧ Ψ = X0
theorem wv_bag {E E' : XK} {Ψ : XPost} {Δ : Env_} {O : Own} {k : Dt → Own → Prop} {ts : TA} (h : EvA K E Ψ ts Δ O fun ds O1 => ∃ ns : List Int, ds = [.frl (ns.map .int)] ∧ ns.length ≤ 63 ∧ ∀ b, k (.ref b) ((b, .bag) :: O1)) : Ev K E Ψ (tCall (mkSp K preBag) [] E' ts) Δ O k :=
  wv_call (h.imp fun ds O1 ⟨ns, e, hl, q⟩ => ⟨[], O1, _, .refl _, ⟨ns, e, hl, rfl, rfl, rfl⟩, fun d O2 ⟨b, e1, e2⟩ => ⟨_, .refl _, by rw [e1, e2]; exact q b⟩⟩)
def absI (i : Int) : Int := if i < 0 then -i else i
theorem ok_l_bag (T : Top K mg CJ CA CP) : HasG P w K mg base CX0 1 "_law_bag" ["_law_script"] (mkSp K preBag) := by
  refine hasG_of T.d_l_bag sc_l_bag ?_ ?_
  · rintro ds O Φ Ψ ⟨d, rfl, _⟩
    rfl
  intro f cdv A outer s H E g hr
  have z_abs := T.z_abs
  refine ⟨_, (pss_one (ps_ret (pe_lst (pa_cons pe_int (pa_cons pe_int (pa_cons pe_int (pa_cons (pe_lc (own := [("_law_cell", 1)]) rfl sc_l_bag.nd (pi_list (pe_slice sl_list (pv 0) po_none (po_some pe_int))) (blkOk_by (own := [("_law_cell", 1)]) (N := ["_law_script", "_law_cell"]) (sc := defScope s_l_bag) (by decide +kernel)) (fun _ _ _ _ _ => (pgn 1 sc_l_bag.nd)) (fun _ _ _ _ _ => pts_nil) (fun _ _ _ _ _ => (pe_callB call_abs (by rfl) z_abs (by decide +kernel) (pa_cons (pv 1) pa_nil)))) pa_nil))))))), ?_⟩
  rintro _ _ _ _ ⟨ns, rfl, hl, rfl, rfl, rfl⟩
  walk_at "go"
  have hcut : FF.cutD (ns.map Dt.int) none (some 63) = ns.map Dt.int := by
    unfold FF.cutD
    rw [HT.sIx_none, show HT.sIx (ns.map Dt.int).length (ns.map Dt.int).length (some 63) = min 63 (ns.map Dt.int).length from HT.sIx_nat _ _ 63]
    exact List.take_of_length_le (by rw [List.length_drop, List.length_map]; omega)
  refine sv_ret (ev_bagn (L := [.int 0, .int 1234567891, .int 0, .lst ((ns.map absI).map .int)]) ⟨0, 1234567891, 0, ns.map absI, rfl, by decide, by decide, by decide, by decide, ?_, by simpa using hl⟩ ?_)
  · intro z hz
    obtain ⟨i, _, rfl⟩ := List.mem_map.mp hz
    unfold absI
    split <;> omega
  refine' ev_lstN (ea_cons ev_int (ea_cons ev_int (ea_cons ev_int (ea_cons ?_ ea_nil)))) (by simp)
  refine' ev_is (ev_frz (ev_lcM (E' := E0) (fun d => match d with | .int i => .int (absI i) | d => d) (iv_listE (ev_frz (ev_sl (x := .frl (ns.map .int)) (lo := none) (hi := some 63) (by walk_at "ev") eo_none (eo_some ev_int) sld_frl))) ?_ (fun d _ => gv_name 1) (by simp) (fun d m => ?_))) ?_
  · rw [hcut]; simp; omega
  · rw [hcut] at m
    obtain ⟨i, _, rfl⟩ := List.mem_map.mp m
    exact ev_cb (ea_cons (by walk_at "ev") ea_nil) cad_abs
  · rw [hcut]; simp
theorem lenB {C : List Dt → Prop} {S : List Dt → Dt → Prop} {ps : List Str} (h : ∀ es, C es → es.length + 1 = ps.length) : ∀ ds O Φ Ψ, preB C S ds O Φ Ψ → ds.length = ps.length := by
  rintro ds O Φ Ψ ⟨b, es, rfl, hc, _⟩
  exact h es hc
theorem ok_l_mixed (T : Top K mg CJ CA CP) : HasG P w K mg base CX0 2 "_law_mixed" ["_law_bag_here", "_law_things"] (mkSp K preMix) := by
  refine hasG_of T.d_l_mixed sc_l_mixed (lenB (by rintro es ⟨ds, rfl, _⟩; rfl)) ?_
  intro f cdv A outer s H E g hr
  have z_len := T.z_len
  have h_l_take := ok_l_take (P := P) (w := w) (base := base) T
  refine ⟨_, (pss_cons (pset 2 sc_l_mixed.nd (pe_lst pa_nil))
       (pss_cons (ps_for PassesOwn.never rfl (pi_list (pv 1)) (pgn 3 sc_l_mixed.nd)
       (pss_one (ps_expr (pe_bm PySem.F.plainAttrs_list PySem.F.slot_list_insert PySem.F.type_list_insert mt_ins (pv 2) (pa_cons (pe_hasG h_l_take g (hr.mono (by decide)) (by rfl) pass0 (pa_cons (pv 0) (pa_cons (pe_op op_plus (pe_callB call_len (by rfl) z_len (by decide +kernel) (pa_cons (pv 2) pa_nil)) pe_int) pa_nil))) (pa_cons (pv 3) pa_nil))))))
       (pss_one (ps_ret (pv 2))))), ?_⟩
  rintro _ _ _ _ ⟨b, _, rfl, ⟨ds, rfl, hl⟩, rfl, rfl, rfl⟩
  walk_at "go"
  refine sv_setS (ev_lstN ea_nil (by simp)) ?_
  rintro _ _ ⟨p, rfl, rfl⟩
  walk_at "nm"
  refine sv_perm (List.Perm.swap (p, Ow.lst []) (b, Ow.bag) []) ?_
  refine sv_forS (T := fun d Δ => Δ.set 3 (some d)) (js := [3]) (iv_listE (by walk_at "ev")) (fun i d _ => gv_name 3) (fun i Δ' O' => ∃ acc x3, Δ' = [some (.ref b), some (.lst ds), some (.ref p), x3] ∧ O' = [(b, .bag), (p, .lst acc)] ∧ acc.Perm (ds.take i)) ⟨[], none, rfl, rfl, by simp⟩ ?_ ?_
  · rintro i d _ O' hd ⟨acc, x3, rfl, rfl, hp⟩
    walk_at "nm"
    have hlen : acc.length ≤ 5000 := by rw [hp.length_eq, List.length_take]; omega
    refine' sv_drop (Φ := fun d' O' => ∃ acc', O' = [(b, .bag), (p, .lst acc')] ∧ acc'.Perm (ds.take (i + 1))) ?_ (fun d' O' q => ?_)
    · refine' ev_bmL (Θ := fun xs O1 => (∃ n, xs = [.int n, d] ∧ 0 ≤ n ∧ n < 10000) ∧ O1 = [(b, .bag), (p, .lst acc)]) (by walk_at "ev") (List.mem_cons_of_mem _ (List.mem_cons_self ..)) ?_ ?_
      · refine' ea_consG (Θ := fun _ _ => exl [d] [(b, .bag), (p, .lst acc)]) (ev_take (R := [(p, .lst acc)]) (n := (acc.length : Int) + 1) ?_ (by omega) (by omega)) ?_ ?_
        · refine' ea_cons (by walk_at "ev") (ea_cons ?_ ea_nil)
          refine' ev_op (ev_cb (by walk_at "ev") (cad_len (so_own (List.mem_cons_of_mem _ (List.mem_cons_self ..))))) (by walk_at "ev") opd_plusI
        · rintro x O1 ⟨_, rfl⟩
          walk_at "ev"
        · rintro x O1 ys O2 ⟨⟨r, rfl, h0, h1⟩, rfl⟩ ⟨rfl, rfl⟩
          exact ⟨⟨r, rfl, h0, by omega⟩, rfl⟩
      · rintro xs O1 ⟨⟨n, rfl, h0, h1⟩, rfl⟩ F2 H2 v vs k1 k2 k3 k4 k5 Q q
        refine bmd_insert (i := 1) rfl (by omega) h0 (by omega) F2 H2 v vs k1 k2 k3 k4 k5 Q fun w F' H' d' O' g b1 kk pp => q w F' H' d' O' g b1 kk ⟨_, pp.2, ?_⟩
        rw [List.take_add_one, hd]
        exact (mix_perm acc d n.toNat).trans (hp.append_right _)
    · obtain ⟨acc', rfl, hp'⟩ := q
      exact ⟨acc', some d, rfl, rfl, hp'⟩
  · rintro _ O' ⟨acc, x3, rfl, rfl, hp⟩
    rw [List.take_length] at hp
    refine sv_frz (p := p) (i := 2) (ds := acc) (by simp) rfl fun O' hO => ?_
    have hO' : O' = [(b, .bag)] := by
      have h1 : [(b, Ow.bag), (p, Ow.lst acc)].Perm ((p, .lst acc) :: [(b, .bag)]) := List.Perm.swap ..
      have h2 := (List.Perm.cons_inv (hO.symm.trans h1))
      exact List.perm_singleton.mp h2
    subst hO'
    walk_at "nm"
    exact sv_retE (by walk_at "ev") ⟨⟨ds, acc, rfl, rfl, hp⟩, rfl⟩
def preBoth : Pre := fun ds O Φ Ψ => ∃ xs ys : List Int, ds = [tI xs, tI ys] ∧ xs.length + ys.length < 64 ∧ O = [] ∧ Φ = ex (tI (uni xs ys)) [] ∧ Ψ = X0
theorem ok_l_both (T : Top K mg CJ CA CP) : HasG P w K mg base CX0 1 "_law_both" ["_law_one", "_law_other"] (mkSp K preBoth) := by
  refine hasG_of T.d_l_both sc_l_both ?_ ?_
  · rintro ds O Φ Ψ ⟨xs, ys, rfl, _⟩
    rfl
  intro f cdv A outer s H E g hr
  have z_tuple := T.z_tuple
  have z_sorted := T.z_sorted
  have z_set := T.z_set
  refine ⟨_, (pss_one (ps_ret (pe_callTy call_tuple_of (by rfl) z_tuple (by decide +kernel) (pa_cons (pe_callB (L2.cr_sortedSet rfl) (by rfl) z_sorted (by decide +kernel) (pa_cons (pe_callTy (call_setI rfl) (by rfl) z_set (by decide +kernel) (pa_cons (pe_op op_plus (pv 0) (pv 1)) pa_nil)) pa_nil)) pa_nil)))), ?_⟩
  rintro _ _ _ _ ⟨xs, ys, rfl, hl, rfl, rfl, rfl⟩
  walk_at "go"
  refine sv_ret (ev_forget (Φ := fun d O' => ∃ q, ∃ ms : List Int, d = tI ms ∧ O' = [(q, .lst (ms.map .int))] ∧ Asc ms ∧ ∀ k, k ∈ ms ↔ k ∈ xs ∨ k ∈ ys) ?_ ?_)
  · refine ev_cbG (Θ := fun ds O' => ∃ q, ∃ ms : List Int, ds = [.ref q] ∧ O' = [(q, .lst (ms.map .int))] ∧ Asc ms ∧ ∀ k, k ∈ ms ↔ k ∈ xs ∨ k ∈ ys) ?_ ?_
    · refine ea_consG (Θ := fun _ O1 => exl [] O1) (ev_sortset (w := w) (ns := xs ++ ys) (ea_cons ?_ ea_nil) (by rw [List.length_append]; exact hl)) (fun _ _ _ => ea_nil) ?_
      · refine ev_is (ev_op (x := tI xs) (y := tI ys) (ev_var rfl) (ev_var rfl) (opd_plusT (by rw [List.length_map, List.length_map]; omega))) (by rw [List.map_append])
      · rintro _ _ _ _ ⟨q, ms, rfl, rfl, h1, h2⟩ ⟨rfl, rfl⟩
        exact ⟨q, ms, rfl, rfl, h1, fun k => by rw [h2, List.mem_append]⟩
    · rintro _ _ ⟨q, ms, rfl, rfl, h1, h2⟩
      exact (cad_tupleL (lo_own (List.mem_cons_self ..))).imp fun d O' p => ⟨q, ms, p.1, p.2, h1, h2⟩
  · rintro d _ ⟨q, ms, rfl, rfl, h1, h2⟩
    have e : uni xs ys = ms := asc_ext (asc_uni xs ys) h1 fun k => by rw [mem_uni, h2]
    exact ⟨[], by simp, by rw [e], rfl⟩
end
end
section
set_option maxRecDepth 100000
set_option maxHeartbeats 400000
open PySem PySem.Spec PyProof.Rows L2 FF
open Evl (Ex)
section
variable {P : Program} {w : World} {K : PySem.W.Frag} {mg : Str → Option Value} {base : Heap} {CJ CA CP : Addr}
/-! names -/
def LET : List Nat := ("abcdefghijklmnopqrstuvwxyz" : Str).cps.toList
def inLet : Dt → Bool
  | .str s => s.cps.toList.all fun c => decide (c ∈ LET)
  | _ => false
theorem inLet_sgn (c : Nat) : inLet (sgn c) = decide (c ∈ LET) := by simp [inLet, sgn]
def signs (x : Str) : List Dt := x.cps.toList.map sgn
def isName : Dt → Bool
  | .str x => (decide ((1 : Int) ≤ (x.length : Int)) && decide ((x.length : Int) ≤ 8)) && (signs x).all inLet
  | _ => false
/-- what is_name may be asked of -/
def nOk (d : Dt) : Prop := kd d = true ∧ d.sok = true ∧ d.sz ≤ 100000
theorem nOk_len {x : Str} (h : nOk (.str x)) : x.length ≤ 10000 := by
  have := h.2.2
  simp only [Dt.sz] at this
  omega
abbrev spName : Pre := pre1 nOk (fun d => .bl (isName d))
theorem ok_is_name (T : Top K mg CJ CA CP) : Has P w K mg base CX0 1 "is_name" ["thing"] (mkSp K spName) := by
  refine has_of T.d_is_name sc_is_name len1 ?_
  intro f cdv A outer s H E hr
  have z_isinstance := T.z_isinstance
  have z_str := T.z_str
  have z_len := T.z_len
  have z_all := T.z_all
  obtain ⟨tl, g_LETTERS⟩ := T.g_LETTERS
  obtain ⟨tn, g_LONGEST_NAME⟩ := T.g_LONGEST_NAME
  refine ⟨_, (pss_cons (ps_if (PW.pt (pw_or (pt_not (pt_val (pe_callB call_isi (by rfl) z_isinstance (by decide +kernel) (pa_cons (pv 0) (pa_cons (pe_bltn (v := .ty "str") (u := .type "str") (by rfl) z_str (by decide +kernel) rfl) pa_nil))))) (pw_or1 (pt_not (pt_chain op_le op_le pe_int (pe_callB call_len (by rfl) z_len (by decide +kernel) (pa_cons (pv 0) pa_nil)) (pe_glob (v := .int 8) (by rfl) g_LONGEST_NAME ⟨_, rfl⟩))))))
       (pss_one (ps_ret pe_bl))
       pss_nil)
       (pss_one (ps_ret (pe_callB (cr_all rfl) (by rfl) z_all (by decide +kernel) (pa_cons (pe_lc (own := [("letter", 1)]) rfl sc_is_name.nd (pi_str (pv 0)) (blkOk_by (own := [("letter", 1)]) (N := ["thing", "letter"]) (sc := defScope s_is_name) (by decide +kernel)) (fun _ _ _ _ _ => (pgn 1 sc_is_name.nd)) (fun _ _ _ _ _ => pts_nil) (fun _ _ _ _ _ => (pe_cmpR op_inC (pv 1) (pe_glob (v := .str "abcdefghijklmnopqrstuvwxyz") (by rfl) g_LETTERS ⟨_, rfl⟩) (by rfl)))) pa_nil))))), ?_⟩
  rintro _ _ _ _ ⟨d, rfl, hd, rfl, rfl, rfl⟩
  walk_at "go"
  have hk : kd d = true := hd.1
  cases d with
  | str x =>
    have hl := nOk_len hd
    refine' sv_ifS (b := !true || !(decide ((1 : Int) ≤ (x.length : Int)) && decide ((x.length : Int) ≤ 8))) ?_ (fun h => ?_) (fun h => ?_)
    · refine' et_or (et_not (et_B (ev_cb (by walk_at "ev") (cad_isiStr hk)))) (fun _ => et_not ?_)
      refine' et_test (ev_chain (x := .int 1) (y := .int (x.length : Int)) (by walk_at "ev") (ev_cb (by walk_at "ev") (cad_lenS (by omega))) (by walk_at "ev") (fun _ => by walk_at "ev") (fun _ => by walk_at "ev"))
    · refine sv_retS (sv_retE ev_bl ⟨?_, rfl⟩)
      simp only [Bool.not_true, Bool.false_or, Bool.not_eq_true'] at h
      simp [isName, h]
    · refine sv_nextS ?_
      simp only [Bool.not_true, Bool.false_or, Bool.not_eq_false'] at h
      refine' sv_retE (d := .bl ((signs x).all inLet)) ?_ ⟨by simp only [isName, h, Bool.true_and], rfl⟩
      refine' ev_cb (ea_cons (ev_frz (ev_lcM (E' := E0) (fun d => .bl (inLet d)) (iv_str (by walk_at "ev")) ?_ (fun d _ => gv_name 1) (by simp) (fun d hd => ?_))) ea_nil) ?_
      · simp; have : x.cps.size = x.length := rfl; omega
      · obtain ⟨c, _, rfl⟩ := List.mem_map.mp hd
        refine' ev_is (ev_op (x := sgn c) (y := .str "abcdefghijklmnopqrstuvwxyz") (by walk_at "ev") (by walk_at "ev") opd_inC) (by rw [inLet_sgn]; rfl)
      · have e : (x.cps.toList.map sgn).map (fun d => Dt.bl (inLet d)) = ((signs x).map inLet).map Dt.bl := by simp [signs]
        rw [e]
        have := @cad_all K E X0 [] (.lst (((signs x).map inLet).map Dt.bl)) ((signs x).map inLet) lo_lst
        rwa [List.all_map] at this
  | _ =>
    refine' sv_ifS (b := true) ?_ (fun _ => sv_retS (sv_retE ev_bl ⟨rfl, rfl⟩)) (fun h => by cases h)
    refine' et_orG (et_not (et_B (ev_cb (by walk_at "ev") (cad_isiStr hk)))) (fun O1 p => ?_) (fun O1 p => ⟨rfl, p.2⟩)
    exact absurd p.1 (by simp [isiStr])
end
end
end LK
namespace LK
open PySem PySem.Spec PyProof.Rows L2 FF
open Evl (Ex)
local macro_rules | `(tactic| walk_at "sc") => `(tactic| first | assumption | omega | (with_reducible rfl))
local macro_rules | `(tactic| walk_at "ix") => `(tactic| first | assumption | (with_reducible exact map_get (by assumption)) | (with_reducible exact rgm_get (by omega)) | (exact rfl))
local macro_rules | `(tactic| walk_at "ca") => `(tactic| fail)
local macro_rules | `(tactic| walk_at "pr") => `(tactic| first
  | (with_reducible refine' ko opd_plusI ?_) | (with_reducible refine' ko opd_I0 ?_) | (with_reducible refine' ko opd_B0 ?_) | (with_reducible refine' ko opd_eqUI ?_) | (with_reducible refine' ko opd_neUI ?_) | (with_reducible refine' ko opd_eqTI ?_) | (with_reducible refine' ko opd_neTI ?_) | (with_reducible refine' ko opd_eqLI ?_) | (with_reducible refine' ko opd_neLI ?_) | (with_reducible refine' ko opd_eqUS ?_) | (with_reducible refine' ko opd_neUS ?_)
  | (with_reducible refine' ko opd_notN ?_) | (with_reducible refine' ko opd_isN ?_) | (with_reducible refine' ku und_neg ?_)
  | ((with_reducible apply ko_ixN); (focus (first | (with_reducible exact so_lst) | (with_reducible exact so_tup) | ((with_reducible apply so_own); walk_at "mem"))); (focus (walk_at "ix")))
  | ((with_reducible apply ko_ixI); (focus (first | (with_reducible exact so_lst) | (with_reducible exact so_tup) | ((with_reducible apply so_own); walk_at "mem"))); (focus (walk_at "sc")); (focus (walk_at "ix")))
  | ((with_reducible refine' ko (opd_timesI ?_) ?_); focus (first | (exact cmul_l (by omega) (by omega)) | (exact cmul_r (by omega) (by omega))))
  | (with_reducible refine' kof (opd_plusL lo_lst lo_lst ?_) ?_)
  | ((with_reducible refine' kb (bmd_append (i := 0) rfl ?_) ?_)) | ((with_reducible refine' kb (bmd_append (i := 1) rfl ?_) ?_)) | ((with_reducible refine' kb (bmd_reverse (i := 0) rfl) ?_)) | ((with_reducible refine' kb (bmd_reverse (i := 1) rfl) ?_)) | ((with_reducible refine' kb (bmd_clear (i := 0) rfl) ?_)) | ((with_reducible refine' kb (bmd_clear (i := 1) rfl) ?_))
  | (with_reducible refine' kc cad_int ?_) | (with_reducible refine' kc cad_abs ?_) | (with_reducible refine' kc (cad_len so_lst) ?_) | (with_reducible refine' kc (cad_len so_tup) ?_) | ((with_reducible apply kc_lenO); focus (walk_at "mem"))
  | ((with_reducible refine' kc (cad_isiInt ?_) ?_); focus (walk_at "kd")) | ((with_reducible refine' kc (cad_isiBool ?_) ?_); focus (walk_at "kd")) | ((with_reducible refine' kc (cad_isiStr ?_) ?_); focus (walk_at "kd")) | ((with_reducible refine' kc (cad_isiTup ?_) ?_); focus (walk_at "kd")) | ((with_reducible refine' kc (cad_isiList ?_) ?_); focus (walk_at "kd")) | ((with_reducible refine' kc (cad_isiDict ?_) ?_); focus (walk_at "kd"))
  | (with_reducible refine' kcf (cad_list so_lst) ?_) | ((with_reducible refine' kcf (cad_list (so_own ?_)) ?_); focus (walk_at "mem")) | (with_reducible refine' kcf (cad_list so_tup) ?_) | (with_reducible refine' kc (cad_tupleL lo_lst) ?_))
local macro_rules | `(tactic| walk_at "kd") => `(tactic| first | assumption | rfl)
local macro_rules | `(tactic| walk_at "mem") => `(tactic| first | assumption | ((repeat (first | (with_reducible exact List.mem_cons_self ..) | (with_reducible apply List.mem_cons_of_mem))); done))
local macro_rules | `(tactic| walk_at "an") => `(tactic| first | assumption | omega | ((simp only [List.length_cons, List.length_nil, List.length_map, List.length_range, List.length_append]); omega) | (with_reducible exact List.mem_cons_self ..) | (walk_at "mem") | (constructor <;> omega) | fail)
local macro_rules | `(tactic| walk_at "w1") => `(tactic| first
  | ((with_reducible apply wv_var); focus (exact rfl)) | (with_reducible apply wv_op) | (with_reducible apply wv_int) | (with_reducible apply wa_cons) | (with_reducible apply wa_nil) | ((with_reducible apply wv_cb); (with_reducible show EvA _ _ _ _ _ _ fun _ _ => CaD _ _ _ _ _ _ _); (fail_if_success (with_reducible show EvA _ _ _ _ _ _ fun _ _ => CaD _ _ _ (rSortST _ _ _) _ _ _)))
  | (walk_at "pr") | (walk_at "ca")
  | (with_reducible exact ⟨rfl, rfl⟩)
  | (with_reducible refine' ⟨(_, _), rfl, ?_, ?_⟩) | (with_reducible refine' ⟨(_, _, _), rfl, ?_, ?_⟩) | (with_reducible refine' ⟨(_, _, _, _), rfl, ?_, ?_⟩) | (with_reducible refine' ⟨_, (_, _), rfl, ?_, ?_, ?_⟩) | (with_reducible refine' ⟨_, (_, _, _), rfl, ?_, ?_, ?_⟩)
  | (with_reducible refine' ⟨_, rfl, ?_⟩) | (with_reducible refine' ⟨_, _, rfl, ?_⟩) | (with_reducible refine' ⟨_, _, _, rfl, ?_⟩)
  | (with_reducible apply wp_seq) | ((with_reducible apply wp_set)) | (with_reducible apply wp_ret) | (with_reducible apply wp_if) | (with_reducible apply wp_drop) | (with_reducible apply wp_next) | (with_reducible apply wp_par) | (with_reducible apply wp_par3) | (with_reducible apply wp_asg2) | (with_reducible apply wp_asg3) | (with_reducible apply wp_retN) | (with_reducible apply wp_brk) | (with_reducible apply wp_cont)
  | (with_reducible apply wt_test) | (with_reducible apply wt_B) | (with_reducible apply wt_not)
  | (with_reducible refine' wt_andP ?_ (fun _ => ?_) ?_) | (with_reducible refine' wt_orP ?_ (fun _ => ?_) ?_) | (with_reducible refine' wv_andP ?_ (fun _ => ?_) ?_) | (with_reducible refine' wv_orP ?_ (fun _ => ?_) ?_) | (with_reducible apply wv_notV) | (with_reducible refine' wv_ifP ?_ (fun _ => ?_) (fun _ => ?_) ?_)
  | (with_reducible apply wv_bl) | (with_reducible apply wv_str) | (with_reducible apply wv_non) | (with_reducible apply wv_ty) | (with_reducible apply wv_un) | (with_reducible apply wv_dnew) | (with_reducible apply wv_bm) | (with_reducible apply wv_bm0)
  | ((with_reducible apply wv_lst); (with_reducible show EvA _ _ _ _ _ _ _)) | (with_reducible apply wv_tup)
  | (with_reducible apply wp_for) | (with_reducible apply wv_lc) | (with_reducible apply wi_list) | (with_reducible apply wi_tup) | (with_reducible apply wi_rng1) | (with_reducible apply wi_enum) | (with_reducible apply wi_zip) | (with_reducible apply wv_tupRg) | (with_reducible apply wv_lstRg)
  | ((with_reducible apply wv_fldA); (focus assumption); (focus assumption))
  | ((with_reducible show List.lookup _ _ = some _); exact rfl) | ((with_reducible show List.lookup _ _ = none); exact rfl)
  | (with_reducible apply wv_callP) | (with_reducible apply wv_methP) | (with_reducible apply wv_callNF) | (with_reducible apply wv_methNF) | (with_reducible apply wv_callR) | (with_reducible apply wv_methR) | (with_reducible apply wv_callD)
  | (with_reducible apply wv_take) | (with_reducible apply wv_call1) | (with_reducible apply wv_call2) | (with_reducible apply wv_callO) | (with_reducible apply wv_make)
  | ((with_reducible show (_ : Nat) ≤ _); (try simp only [List.length_cons, List.length_nil, List.length_map, List.length_range, List.length_append, List.length_zipIdx, List.length_zip]); omega)
  | ((with_reducible show (_ : Int) < _); omega) | ((with_reducible show (_ : Int) ≤ _); omega) | ((with_reducible show (_ : Nat) < _); (try simp only [List.length_cons, List.length_nil, List.length_map, List.length_range, List.length_append, List.length_zipIdx, List.length_zip]); omega)
  | ((with_reducible show (_ : Nat) ∈ (_ : List Nat)); decide)
  | ((with_reducible show aOk _); assumption)
  | ((with_reducible show (_ : Addr × Ow) ∈ _); walk_at "mem")
  | ((with_reducible apply And.intro); focus (walk_at "an"))
  | (dsimp only [List.set_cons_zero, List.set_cons_succ])
  | (with_reducible apply And.intro) | fail)
local macro_rules | `(tactic| walk_at "wp") => `(tactic| repeat' (walk_at "w1"))
local macro_rules | `(tactic| walk_at "go") => `(tactic| (simp only [Cx.nox, Cx.wish, cxOf, startD, List.length_cons, List.length_nil, List.map_cons, List.map_nil, Nat.reduceAdd, Nat.reduceSub, List.replicate_succ, List.replicate_zero, List.cons_append, List.nil_append]))
local macro_rules | `(tactic| walk_at "lc") => `(tactic| first
  | ((with_reducible refine' lc_R ?f ?_ (fun _ _ => ?_) ?_); rotate_left) | ((with_reducible refine' lc_RF ?c ?f ?_ (fun _ _ => ?_) (fun _ _ _ => ?_) ?_); rotate_left 2)
  | ((with_reducible refine' lc_U2 ?f ?_ (fun _ _ => ?_) ?_); rotate_left) | ((with_reducible refine' lc_U ?f ?_ (fun _ _ => ?_) ?_); rotate_left) | ((with_reducible refine' lc_F2 ?c ?f ?_ (fun _ _ => ?_) (fun _ _ _ => ?_) ?_); rotate_left 2) | ((with_reducible refine' lc_F ?c ?f ?_ (fun _ _ => ?_) (fun _ _ _ => ?_) ?_); rotate_left 2)
  | (with_reducible exact List.mem_cons_self ..) | ((with_reducible refine' ⟨List.mem_cons_self .., List.mem_cons_of_mem _ (List.mem_cons_self ..)⟩))
  | fail)
local macro_rules | `(tactic| walk_at "wq") => `(tactic| repeat' (first | (walk_at "w1") | (walk_at "lc") | fail))
section
set_option maxRecDepth 100000
set_option maxHeartbeats 1000000
open PySem PySem.Spec PyProof.Rows L2 FF
open Evl (Ex)
section
variable {P : Program} {w : World} {K : PySem.W.Frag} {mg : Str → Option Value} {base : Heap} {CJ CA CP : Addr}
theorem wv_both {E E' : XK} {Ψ : XPost} {Δ : Env_} {O : Own} {k : Dt → Own → Prop} {ts : TA} (h : EvA K E Ψ ts Δ O fun ds O1 => ∃ xs ys, ds = [tI xs, tI ys] ∧ xs.length + ys.length < 64 ∧ k (tI (uni xs ys)) O1) : Ev K E Ψ (tCall (mkSp K preBoth) [] E' ts) Δ O k :=
  wv_callE (h.imp fun ds O1 ⟨xs, ys, e, hl, q⟩ => ⟨_, ⟨xs, ys, e, hl, rfl, rfl, rfl⟩, q⟩)
theorem sub_seg {ss : List Nat} {n : Nat} (h : ss.Sublist (List.range n)) : Asc (ss.map fun (u : Nat) => (u : Int)) ∧ ∀ k ∈ ss.map (fun (u : Nat) => (u : Int)), 0 ≤ k ∧ k < n := by
  refine ⟨?_, fun k hk => ?_⟩
  · unfold Asc
    rw [List.pairwise_map]
    exact (List.pairwise_lt_range.sublist h).imp fun h => by omega
  · obtain ⟨u, hu, rfl⟩ := List.mem_map.mp hk
    have := List.mem_range.mp (h.subset hu)
    omega
local macro_rules | `(tactic| walk_at "ca") => `(tactic| (with_reducible apply wv_both))
def preRows : Pre := preB (fun es => ∃ m : Nat, es = [.int (m : Int)] ∧ 1 ≤ m ∧ m ≤ 12) (fun es d => ∃ n f, Jn n f ∧ (∃ m : Nat, es = [.int (m : Int)] ∧ n ≤ m) ∧ d = .lst (tab n f))
theorem ok_l_rows (T : Top K mg CJ CA CP) : HasG P w K mg base CX0 3 "_law_rows" ["_law_bag_here", "_law_bound"] (mkSp K preRows) := by
  refine hasG_of T.d_l_rows sc_l_rows ?_ ?_
  · rintro ds O Φ Ψ ⟨b, es, rfl, ⟨m, rfl, _⟩, _⟩
    rfl
  intro f cdv A outer s H E g hr
  have z_len := T.z_len
  have z_tuple := T.z_tuple
  have z_range := T.z_range
  have z_sorted := T.z_sorted
  have z_set := T.z_set
  have z_dict := T.z_dict
  have z_enumerate := T.z_enumerate
  have h_l_take := ok_l_take (P := P) (w := w) (base := base) T
  have h_l_both := ok_l_both (P := P) (w := w) (base := base) T
  have h_l_mixed := ok_l_mixed (P := P) (w := w) (base := base) T
  refine ⟨_, (pss_cons (ps_asg (pe_tup (pa_cons (pe_lst pa_nil) (pa_cons (pe_op op_plus pe_int (pe_hasG h_l_take g (hr.mono (by decide)) (by rfl) pass0 (pa_cons (pv 0) (pa_cons pe_int pa_nil)))) (pa_cons (pe_hasG h_l_take g (hr.mono (by decide)) (by rfl) pass0 (pa_cons (pv 0) (pa_cons pe_int pa_nil))) pa_nil)))) (show PG _ _ (gTup K 3 (gCons (gName 2) (gCons (gName 3) (gCons (gName 4) gNil)))) from (pg_tup rfl (pgs_cons (pgn 2 sc_l_rows.nd) (pgs_cons (pgn 3 sc_l_rows.nd) (pgs_cons (pgn 4 sc_l_rows.nd) pgs_nil))))))
       (pss_cons (ps_for PassesOwn.never rfl (pi_range1 rfl z_range (pa_cons (pe_op op_plus pe_int (pe_hasG h_l_take g (hr.mono (by decide)) (by rfl) pass0 (pa_cons (pv 0) (pa_cons pe_int pa_nil)))) pa_nil)) (pgn 5 sc_l_rows.nd)
       (pss_cons (pset 6 sc_l_rows.nd (pe_callTy call_tuple_of (by rfl) z_tuple (by decide +kernel) (pa_cons (pe_lc (own := [("_law_part", 10)]) rfl sc_l_rows.nd (pi_range1 rfl z_range (pa_cons (pv 3) pa_nil)) (blkOk_by (own := [("_law_part", 10)]) (N := ["_law_bag_here", "_law_bound", "_law_found", "_law_wide", "_law_kind", "_law_k", "_law_some", "_law_later", "_law_index", "_law_top", "_law_part", "_law_one", "_law_at", "_law_other"]) (sc := defScope s_l_rows) (by decide +kernel)) (fun _ _ _ _ _ => (pgn 10 sc_l_rows.nd)) (fun _ _ _ _ _ => (pts_one (pt_cmpR (op_eqUB K (hu64 hr)) (pe_hasG h_l_take g (hr.mono (by decide)) (by rfl) pass0 (pa_cons (pv 0) (pa_cons pe_int pa_nil))) pe_int (nomark _)))) (fun _ _ _ _ _ => (pv 10))) pa_nil)))
       (pss_cons (pset 7 sc_l_rows.nd (pe_callB (call_sortST rfl (hu100 hr)) (by rfl) z_sorted (by decide +kernel) (pa_cons (pe_callTy (cr_setOfT rfl (hu64 hr)) (by rfl) z_set (by decide +kernel) (pa_cons (pe_op op_plus (pe_op op_plus (pv 2) (pe_lst (pa_cons (pv 6) pa_nil))) (pe_lc (own := [("_law_one", 11)]) rfl sc_l_rows.nd (pi_list (pv 2)) (blkOk_by (own := [("_law_one", 11)]) (N := ["_law_bag_here", "_law_bound", "_law_found", "_law_wide", "_law_kind", "_law_k", "_law_some", "_law_later", "_law_index", "_law_top", "_law_part", "_law_one", "_law_at", "_law_other"]) (sc := defScope s_l_rows) (by decide +kernel)) (fun _ _ _ _ _ => (pgn 11 sc_l_rows.nd)) (fun _ _ _ _ _ => pts_nil) (fun _ _ _ _ _ => (pe_hasG h_l_both g (hr.mono (by decide)) (by rfl) pass0 (pa_cons (pv 6) (pa_cons (pv 11) pa_nil)))))) pa_nil)) pa_nil)))
       (pss_one (ps_if (pt_cmpR op_le (pe_callB call_len (by rfl) z_len (by decide +kernel) (pa_cons (pv 7) pa_nil)) (pv 1) (nomark _))
       (pss_one (pset 2 sc_l_rows.nd (pv 7)))
       pss_nil)))))
       (pss_cons (ps_if (pt_cmpR (op_eqU (hu64 hr)) (pv 4) pe_int (nomark _))
       (pss_one (pset 2 sc_l_rows.nd (pe_lc (own := [("_law_part", 10)]) rfl sc_l_rows.nd (pi_range1 rfl z_range (pa_cons (pe_op op_plus pe_int (pe_hasG h_l_take g (hr.mono (by decide)) (by rfl) pass0 (pa_cons (pv 0) (pa_cons (pv 1) pa_nil)))) pa_nil)) (blkOk_by (own := [("_law_part", 10)]) (N := ["_law_bag_here", "_law_bound", "_law_found", "_law_wide", "_law_kind", "_law_k", "_law_some", "_law_later", "_law_index", "_law_top", "_law_part", "_law_one", "_law_at", "_law_other"]) (sc := defScope s_l_rows) (by decide +kernel)) (fun _ _ _ _ _ => (pgn 10 sc_l_rows.nd)) (fun _ _ _ _ _ => pts_nil) (fun _ _ _ _ _ => (pe_tupRg rfl (by rfl) z_tuple (prg_1 (by rfl) z_range (pv 10)))))))
       pss_nil)
       (pss_cons (ps_if (pt_cmpR (op_eqU (hu64 hr)) (pv 4) pe_int (nomark _))
       (pss_cons (pset 2 sc_l_rows.nd (pe_lc (own := [("_law_part", 10)]) rfl sc_l_rows.nd (pi_range1 rfl z_range (pa_cons (pe_hasG h_l_take g (hr.mono (by decide)) (by rfl) pass0 (pa_cons (pv 0) (pa_cons (pv 1) pa_nil))) pa_nil)) (blkOk_by (own := [("_law_part", 10)]) (N := ["_law_bag_here", "_law_bound", "_law_found", "_law_wide", "_law_kind", "_law_k", "_law_some", "_law_later", "_law_index", "_law_top", "_law_part", "_law_one", "_law_at", "_law_other"]) (sc := defScope s_l_rows) (by decide +kernel)) (fun _ _ _ _ _ => (pgn 10 sc_l_rows.nd)) (fun _ _ _ _ _ => pts_nil) (fun _ _ _ _ _ => (pe_tup (pa_cons (pv 10) pa_nil)))))
       (pss_one (pset 2 sc_l_rows.nd (pe_op op_plus (pv 2) (pe_lst (pa_cons (pe_tupRg rfl (by rfl) z_tuple (prg_1 (by rfl) z_range (pv 1))) pa_nil))))))
       pss_nil)
       (pss_cons (pset 2 sc_l_rows.nd (pe_hasG h_l_mixed g (hr.mono (by decide)) (by rfl) pass0 (pa_cons (pv 0) (pa_cons (pv 2) pa_nil))))
       (pss_cons (pset 8 sc_l_rows.nd (pe_callTy (call_ditMk rfl (hu100 hr)) (by rfl) z_dict (by decide +kernel) (pa_cons (pe_lc (own := [("_law_at", 12), ("_law_some", 6)]) rfl sc_l_rows.nd (pi_enum (by rfl) z_enumerate (pa_cons (pv 2) pa_nil)) (blkOk_by (own := [("_law_at", 12), ("_law_some", 6)]) (N := ["_law_bag_here", "_law_bound", "_law_found", "_law_wide", "_law_kind", "_law_k", "_law_some", "_law_later", "_law_index", "_law_top", "_law_part", "_law_one", "_law_at", "_law_other"]) (sc := defScope s_l_rows) (by decide +kernel)) (fun _ _ _ _ _ => (show PG _ _ (gTup K 2 (gCons (gName 12) (gCons (gName 6) gNil))) from (pg_tup rfl (pgs_cons (pgn 12 sc_l_rows.nd) (pgs_cons (pgn 6 sc_l_rows.nd) pgs_nil))))) (fun _ _ _ _ _ => pts_nil) (fun _ _ _ _ _ => (pe_tup (pa_cons (pv 6) (pa_cons (pv 12) pa_nil))))) pa_nil)))
       (pss_cons (pset 9 sc_l_rows.nd (pe_tupRg rfl (by rfl) z_tuple (prg_1 (by rfl) z_range (pv 1))))
       (pss_one (ps_ret (pe_lc (own := [("_law_one", 11)]) rfl sc_l_rows.nd (pi_list (pv 2)) (blkOk_by (own := [("_law_one", 11)]) (N := ["_law_bag_here", "_law_bound", "_law_found", "_law_wide", "_law_kind", "_law_k", "_law_some", "_law_later", "_law_index", "_law_top", "_law_part", "_law_one", "_law_at", "_law_other"]) (sc := defScope s_l_rows) (by decide +kernel)) (fun _ _ _ _ _ => (pgn 11 sc_l_rows.nd)) (fun _ _ _ _ _ => pts_nil) (fun _ _ _ _ _ => (pe_lc (own := [("_law_other", 13)]) rfl sc_l_rows.nd (pi_listB K (pv 2)) (blkOk_by (own := [("_law_other", 13)]) (by kernel_rfl)) (fun _ _ _ _ _ => (pgn 13 sc_l_rows.nd)) (fun _ _ _ _ _ => pts_nil) (fun _ _ _ _ _ => (pe_ix (show IxR _ (rDitIx K P w) from ix_dit (hu100 hr)) (pv 8) (pe_ifExp (PW.pt (pw_or (pt_cmpR (op_neUB K (hu64 hr)) (pv 4) pe_int (nomark _)) (pw_or1 (pt_cmpR (op_eqUB K (hu64 hr)) (pv 11) (pv 13) (nomark _))))) (pe_hasG h_l_both g (hr.mono (by decide)) (by rfl) pass0 (pa_cons (pv 11) (pa_cons (pv 13) pa_nil))) (pv 9)) (fun _ _ => rfl))))))))))))))), ?_⟩
  rintro _ _ _ _ ⟨b, _, rfl, ⟨m, rfl, hm1, hm8⟩, rfl, rfl, rfl⟩
  refine sv_rtF ?_
  walk_at "go"
  walk_at "wp"
  intro wide hw
  walk_at "wp"
  intro kind hk
  walk_at "wp"
  intro rounds hr5
  walk_at "wp"
  refine for_R (fun i Δ' O' => Pin (∃ nss x5 x6 x7, Δ' = [some (.ref b), some (.int m), some (.lst (nss.map tI)), some (.int (1 + wide)), some (.int kind), x5, x6, x7, none, none, none, none, none, none] ∧ O' = [(b, .bag)] ∧ Sets nss ∧ nss.length ≤ m ∧ (0 < i → 1 ≤ nss.length))) (pin ⟨[], none, none, none, rfl, rfl, ⟨by simp, by simp, by simp, by simp⟩, by simp, by simp⟩) ?_ ?_
  · rintro i _ _ hi ⟨nss, x5, x6, x7, rfl, rfl, hS, hl, h1⟩
    walk_at "wp"
    refine lc_S (fun (u : Nat) => .int u) (by simp) (fun u _ => ?_) (fun u _ => ?_) ?_
    · walk_at "wp"
      intro r hr
      walk_at "wp"
    · walk_at "wp"
    intro ss hss
    obtain ⟨ha, hb⟩ := sub_seg hss
    have e : (ss.map fun (u : Nat) => Dt.int (u : Int)) = (ss.map fun (u : Nat) => (u : Int)).map Dt.int := by rw [List.map_map]; rfl
    rw [e]
    have hb8 : ∀ k ∈ ss.map (fun (u : Nat) => (u : Int)), 0 ≤ k ∧ k < 12 := fun k hk => by
      have := hb k hk
      omega
    generalize ss.map (fun (u : Nat) => (u : Int)) = s at ha hb hb8 ⊢
    have hsl : s.length ≤ 12 := int_few hb8 ha.nodup
    walk_at "wp"
    refine' wv_sortsetT (nss := nss ++ [s] ++ nss.map fun x => uni s x) ?h1 ?h2 ?h3 ?h4
    case h1 =>
      walk_at "wq"
      rename_i x hx
      have := sets_len hS hx
      show s.length + x.length < 64
      omega
    case h2 => simp [List.map_map]
    case h3 => simp; omega
    case h4 =>
      intro mss hnd hmem
      have hS' := hS.add ha hb8 hnd hmem
      walk_at "wp"
      · intro hc
        have hc := of_decide_eq_true hc
        rw [List.length_map] at hc
        walk_at "wp"
        refine pin ⟨mss, _, _, _, rfl, rfl, hS', by omega, fun _ => ?_⟩
        exact List.length_pos_of_mem ((hmem s).mpr (by simp))
      · intro hc
        have hc := of_decide_eq_false hc
        rw [List.length_map] at hc
        walk_at "wp"
        refine pin ⟨nss, _, _, _, rfl, rfl, hS, hl, fun _ => ?_⟩
        cases nss with
        | nil =>
          have h1 : mss.length ≤ 1 := by
            have : ∀ a ∈ mss, a = s := fun a m => by simpa using (hmem a).mp m
            cases mss with
            | nil => simp
            | cons x l => cases l with
              | nil => simp
              | cons y l => 
                exfalso
                have e1 := this x (by simp)
                have e2 := this y (by simp)
                subst e1
                simp [e2] at hnd
          omega
        | cons x l => simp
  · rintro _ _ ⟨nss, x5, x6, x7, rfl, rfl, hS, hl, h1⟩
    have h1 : 1 ≤ nss.length := h1 (by omega)
    refine sv_assoc2 (sv_seq (M := fun Δ' O' => Pin (∃ nss J, Δ' = [some (.ref b), some (.int m), some (.lst (nss.map tI)), some (.int (1 + wide)), some (.int kind), x5, x6, x7, none, none, none, none, none, none] ∧ O' = [(b, .bag)] ∧ FamOk m kind nss J)) ?_ ?_)
    · walk_at "wp"
      · intro h0
        have h0 : kind = 0 := by have := of_decide_eq_true h0; omega
        walk_at "wp"
        intro r hr
        walk_at "wq"
        · intro h
          have := of_decide_eq_true h
          omega
        · intro _
          walk_at "wq"
          refine pin ⟨(List.range (1 + r)).map fun i => seg i, uni, ?_, rfl, (chain_sets (by omega)).ok (by simp; try omega) (by simp; try omega) (by omega) (by omega)⟩
          have e : (1 + (r : Int)).toNat = 1 + r := by omega
          rw [e, List.map_map]
          simp only [Int.toNat_natCast]
          congr 6
          funext i
          simp [seg, tI, List.map_map, Function.comp_def]
      · intro h0
        have h0 : kind ≠ 0 := by have := of_decide_eq_false h0; omega
        walk_at "wp"
        · intro hk1
          have hk1 : kind = 1 := by have := of_decide_eq_true hk1; omega
          walk_at "wp"
          intro r hr
          walk_at "wq"
          refine pin ⟨_, fanJ (seg m), ?_, rfl, by rw [hk1]; exact fan_ok (r := r) (by omega) hm8⟩
          simp only [Int.toNat_natCast]
          congr 6
          simp [seg, tI, List.map_map, Function.comp_def]
        · intro hk1
          have hk1 : kind ≠ 1 := by have := of_decide_eq_false hk1; omega
          walk_at "wp"
          exact pin ⟨nss, uni, rfl, rfl, hS.ok h1 hl (by omega) hk1⟩
    · rintro _ _ ⟨nss, J, rfl, rfl, hF⟩
      walk_at "wp"
      refine wv_callB ?_
      walk_at "wp"
      · have := hF.le
        simp; omega
      rintro _ ⟨ds, fs, e, rfl, hp⟩
      have e := (Dt.lst.inj (List.cons.inj e).1).symm
      subst e
      obtain ⟨mss, hpm, rfl⟩ := perm_of_map hp
      have hG := hF.perm hpm
      clear hF hp hS hl h1
      have hml := hG.le
      walk_at "wq"
      refine cad_ditMk (prs := numd mss) (by rw [zip_rw]; exact lo_lst) (by rw [numd_keys]; exact hG.fam.nd) fun p => ?_
      walk_at "wp"
      refine lc_U (fun x => .lst (mss.map fun y => .int ((mss.idxOf (J x y) : Nat) : Int))) (by simp) (fun x hx => ?_) ?_
      · walk_at "wp"
        refine lc_U (fun y => .int ((mss.idxOf (J x y) : Nat) : Int)) (by simp) (fun y hy => ?_) ⟨rfl, rfl⟩
        have hJ := hG.j x hx y hy
        have hc := hG.fam.cl x hx y hy
        have hat := numd_at hc
        have hk1 : ((kind : Int) = 1) ↔ kind = 1 := by omega
        have hx8 := hG.sm x hx
        have hy8 := hG.sm y hy
        refine wv_op (wv_var rfl (wv_if ?_))
        walk_at "wp"
        · intro h
          walk_at "wp"
          rw [if_pos (by simpa [hk1] using h)] at hJ
          rw [← hJ]
          refine ko (opd_ditIx (by walk_at "mem") hat) ?_
          walk_at "wp"
        · intro h
          have h' : ¬(kind ≠ 1 ∨ x = y) := by simpa [hk1] using h
          rw [if_neg h'] at hJ
          walk_at "wp"
          have e : Dt.tup (rngN (m : Int).toNat) = tI (seg m) := by simp [seg, tI, List.map_map, Function.comp_def]
          rw [e, ← hJ]
          refine ko (opd_ditIx (by walk_at "mem") hat) ?_
          walk_at "wp"
      · refine ⟨[(b, .bag)], by simp, ⟨mss.length, Pl mss J, hG.fam.jn, ⟨m, rfl, hml⟩, ?_⟩, rfl⟩
        rw [tab_of]
end
end
end LK
namespace LK
open PySem PySem.Spec PyProof.Rows L2 FF
open Evl (Ex)
local macro_rules | `(tactic| walk_at "sc") => `(tactic| first | assumption | omega | (with_reducible rfl))
local macro_rules | `(tactic| walk_at "ix") => `(tactic| first | assumption | (with_reducible exact map_get (by assumption)) | (with_reducible exact rgm_get (by omega)) | (exact rfl))
local macro_rules | `(tactic| walk_at "ca") => `(tactic| fail)
local macro_rules | `(tactic| walk_at "pr") => `(tactic| first
  | (with_reducible refine' ko opd_plusI ?_) | (with_reducible refine' ko opd_I0 ?_) | (with_reducible refine' ko opd_B0 ?_) | (with_reducible refine' ko opd_eqUI ?_) | (with_reducible refine' ko opd_neUI ?_) | (with_reducible refine' ko opd_eqTI ?_) | (with_reducible refine' ko opd_neTI ?_) | (with_reducible refine' ko opd_eqLI ?_) | (with_reducible refine' ko opd_neLI ?_) | (with_reducible refine' ko opd_eqUS ?_) | (with_reducible refine' ko opd_neUS ?_)
  | (with_reducible refine' ko opd_notN ?_) | (with_reducible refine' ko opd_isN ?_) | (with_reducible refine' ku und_neg ?_)
  | ((with_reducible apply ko_ixN); (focus (first | (with_reducible exact so_lst) | (with_reducible exact so_tup) | ((with_reducible apply so_own); walk_at "mem"))); (focus (walk_at "ix")))
  | ((with_reducible apply ko_ixI); (focus (first | (with_reducible exact so_lst) | (with_reducible exact so_tup) | ((with_reducible apply so_own); walk_at "mem"))); (focus (walk_at "sc")); (focus (walk_at "ix")))
  | ((with_reducible refine' ko (opd_timesI ?_) ?_); focus (first | (exact cmul_l (by omega) (by omega)) | (exact cmul_r (by omega) (by omega))))
  | (with_reducible refine' kof (opd_plusL lo_lst lo_lst ?_) ?_)
  | ((with_reducible refine' kb (bmd_append (i := 0) rfl ?_) ?_)) | ((with_reducible refine' kb (bmd_append (i := 1) rfl ?_) ?_)) | ((with_reducible refine' kb (bmd_reverse (i := 0) rfl) ?_)) | ((with_reducible refine' kb (bmd_reverse (i := 1) rfl) ?_)) | ((with_reducible refine' kb (bmd_clear (i := 0) rfl) ?_)) | ((with_reducible refine' kb (bmd_clear (i := 1) rfl) ?_))
  | (with_reducible refine' kc cad_int ?_) | (with_reducible refine' kc cad_intB ?_) | (with_reducible refine' kc cad_abs ?_) | (with_reducible refine' kc (cad_len so_lst) ?_) | (with_reducible refine' kc (cad_len so_tup) ?_) | ((with_reducible apply kc_lenO); focus (walk_at "mem"))
  | ((with_reducible refine' kc (cad_isiInt ?_) ?_); focus (walk_at "kd")) | ((with_reducible refine' kc (cad_isiBool ?_) ?_); focus (walk_at "kd")) | ((with_reducible refine' kc (cad_isiStr ?_) ?_); focus (walk_at "kd")) | ((with_reducible refine' kc (cad_isiTup ?_) ?_); focus (walk_at "kd")) | ((with_reducible refine' kc (cad_isiList ?_) ?_); focus (walk_at "kd")) | ((with_reducible refine' kc (cad_isiDict ?_) ?_); focus (walk_at "kd"))
  | (with_reducible refine' kcf (cad_list so_lst) ?_) | ((with_reducible refine' kcf (cad_list (so_own ?_)) ?_); focus (walk_at "mem")) | (with_reducible refine' kcf (cad_list so_tup) ?_) | (with_reducible refine' kc (cad_tupleL lo_lst) ?_))
local macro_rules | `(tactic| walk_at "kd") => `(tactic| first | assumption | rfl)
local macro_rules | `(tactic| walk_at "mem") => `(tactic| first | assumption | ((repeat (first | (with_reducible exact List.mem_cons_self ..) | (with_reducible apply List.mem_cons_of_mem))); done))
local macro_rules | `(tactic| walk_at "an") => `(tactic| first | assumption | omega | ((simp only [List.length_cons, List.length_nil, List.length_map, List.length_range, List.length_append]); omega) | (with_reducible exact List.mem_cons_self ..) | (walk_at "mem") | (constructor <;> omega) | fail)
local macro_rules | `(tactic| walk_at "w1") => `(tactic| first
  | ((with_reducible apply wv_var); focus (exact rfl)) | (with_reducible apply wv_op) | (with_reducible apply wv_int) | (with_reducible apply wa_cons) | (with_reducible apply wa_nil) | ((with_reducible apply wv_cb); (with_reducible show EvA _ _ _ _ _ _ fun _ _ => CaD _ _ _ _ _ _ _); (fail_if_success (with_reducible show EvA _ _ _ _ _ _ fun _ _ => CaD _ _ _ (rSortST _ _ _) _ _ _)))
  | (walk_at "pr") | (walk_at "ca")
  | (with_reducible exact ⟨rfl, rfl⟩)
  | (with_reducible refine' ⟨(_, _), rfl, ?_, ?_⟩) | (with_reducible refine' ⟨(_, _, _), rfl, ?_, ?_⟩) | (with_reducible refine' ⟨(_, _, _, _), rfl, ?_, ?_⟩) | (with_reducible refine' ⟨_, (_, _), rfl, ?_, ?_, ?_⟩) | (with_reducible refine' ⟨_, (_, _, _), rfl, ?_, ?_, ?_⟩)
  | (with_reducible refine' ⟨_, rfl, ?_⟩) | (with_reducible refine' ⟨_, _, rfl, ?_⟩) | (with_reducible refine' ⟨_, _, _, rfl, ?_⟩)
  | (with_reducible apply wp_seq) | ((with_reducible apply wp_set)) | (with_reducible apply wp_ret) | (with_reducible apply wp_if) | (with_reducible apply wp_drop) | (with_reducible apply wp_next) | (with_reducible apply wp_par) | (with_reducible apply wp_par3) | (with_reducible apply wp_asg2) | (with_reducible apply wp_asg3) | (with_reducible apply wp_retN) | (with_reducible apply wp_brk) | (with_reducible apply wp_cont)
  | (with_reducible apply wt_test) | (with_reducible apply wt_B) | (with_reducible apply wt_not)
  | (with_reducible apply wv_notV)
  | (with_reducible apply wv_bl) | (with_reducible apply wv_str) | (with_reducible apply wv_non) | (with_reducible apply wv_ty) | (with_reducible apply wv_un) | (with_reducible apply wv_dnew) | (with_reducible apply wv_bm) | (with_reducible apply wv_bm0)
  | (with_reducible apply wv_lstNil) | ((with_reducible apply wv_lst); (with_reducible show EvA _ _ _ _ _ _ _)) | (with_reducible apply wv_tup)
  | (with_reducible apply wp_for) | (with_reducible apply wv_lc) | (with_reducible apply wi_list) | (with_reducible apply wi_tup) | (with_reducible apply wi_rng1) | (with_reducible apply wi_enum) | (with_reducible apply wi_zip) | (with_reducible apply wv_tupRg) | (with_reducible apply wv_lstRg)
  | ((with_reducible apply wv_fldA); (focus assumption); (focus assumption))
  | ((with_reducible show List.lookup _ _ = some _); exact rfl) | ((with_reducible show List.lookup _ _ = none); exact rfl)
  | (with_reducible apply wv_callP) | (with_reducible apply wv_methP) | (with_reducible apply wv_callNF) | (with_reducible apply wv_methNF) | (with_reducible apply wv_callR) | (with_reducible apply wv_methR) | (with_reducible apply wv_callD)
  | (with_reducible apply wv_take) | (with_reducible apply wv_call1) | (with_reducible apply wv_call2) | (with_reducible apply wv_callO) | (with_reducible apply wv_make)
  | ((with_reducible show (_ : Nat) ≤ _); (try simp only [List.length_cons, List.length_nil, List.length_map, List.length_range, List.length_append, List.length_zipIdx, List.length_zip]); omega)
  | ((with_reducible show (_ : Int) < _); omega) | ((with_reducible show (_ : Int) ≤ _); omega) | ((with_reducible show (_ : Nat) < _); (try simp only [List.length_cons, List.length_nil, List.length_map, List.length_range, List.length_append, List.length_zipIdx, List.length_zip]); omega)
  | ((with_reducible show (_ : Nat) ∈ (_ : List Nat)); decide)
  | ((with_reducible show aOk _); assumption)
  | ((with_reducible show (_ : Addr × Ow) ∈ _); walk_at "mem")
  | ((with_reducible apply And.intro); focus (walk_at "an"))
  | (dsimp only [List.set_cons_zero, List.set_cons_succ])
  | (with_reducible apply And.intro) | fail)
local macro_rules | `(tactic| walk_at "pp") => `(tactic| first | (with_reducible refine' wt_andP ?_ (fun _ => ?_) ?_) | (with_reducible refine' wt_orP ?_ (fun _ => ?_) ?_) | (with_reducible refine' wv_andP ?_ (fun _ => ?_) ?_) | (with_reducible refine' wv_orP ?_ (fun _ => ?_) ?_) | (with_reducible refine' wv_ifP ?_ (fun _ => ?_) (fun _ => ?_) ?_) | (with_reducible refine' wv_chainP ?_) | (with_reducible refine' ⟨_, _, ?_, fun _ => ?_, ?_⟩) | fail)
local macro_rules | `(tactic| walk_at "vv") => `(tactic| first | (with_reducible apply wt_and) | (with_reducible apply wt_or) | (with_reducible apply wv_andV) | (with_reducible apply wv_orV) | (with_reducible apply wv_if) | fail)
local macro_rules | `(tactic| walk_at "wp") => `(tactic| repeat' (first | (walk_at "w1") | (walk_at "pp") | fail))
local macro_rules | `(tactic| walk_at "wn") => `(tactic| repeat' (first | (walk_at "w1") | (walk_at "vv") | fail))
local macro_rules | `(tactic| walk_at "go") => `(tactic| (simp only [Cx.nox, Cx.wish, cxOf, startD, List.length_cons, List.length_nil, List.map_cons, List.map_nil, Nat.reduceAdd, Nat.reduceSub, List.replicate_succ, List.replicate_zero, List.cons_append, List.nil_append]))
local macro_rules | `(tactic| walk_at "lc") => `(tactic| first
  | ((with_reducible refine' lc_R ?f ?_ (fun _ _ => ?_) ?_); rotate_left) | ((with_reducible refine' lc_RF ?c ?f ?_ (fun _ _ => ?_) (fun _ _ _ => ?_) ?_); rotate_left 2)
  | ((with_reducible refine' lc_U2 ?f ?_ (fun _ _ => ?_) ?_); rotate_left) | ((with_reducible refine' lc_U ?f ?_ (fun _ _ => ?_) ?_); rotate_left) | ((with_reducible refine' lc_F2 ?c ?f ?_ (fun _ _ => ?_) (fun _ _ _ => ?_) ?_); rotate_left 2) | ((with_reducible refine' lc_F ?c ?f ?_ (fun _ _ => ?_) (fun _ _ _ => ?_) ?_); rotate_left 2)
  | (with_reducible exact List.mem_cons_self ..) | ((with_reducible refine' ⟨List.mem_cons_self .., List.mem_cons_of_mem _ (List.mem_cons_self ..)⟩))
  | fail)
local macro_rules | `(tactic| walk_at "wq") => `(tactic| repeat' (first | (walk_at "w1") | (walk_at "lc") | (walk_at "pp") | fail))
local macro_rules | `(tactic| walk_at "nm") => `(tactic| (try simp only [List.set_cons_zero, List.set_cons_succ, List.eraseIdx_cons_zero, List.eraseIdx_cons_succ, List.nil_append, List.cons_append]))
section
set_option maxRecDepth 100000
set_option maxHeartbeats 1000000
open PySem PySem.Spec PyProof.Rows L2 FF
open Evl (Ex)
section
variable {P : Program} {w : World} {K : PySem.W.Frag} {mg : Str → Option Value} {base : Heap} {CJ CA CP : Addr}
abbrev spLen (CJ : Addr) : Pre := preF (fun (a : Nat × (Nat → Nat → Nat)) => [jo CJ a.1 a.2]) (fun a => Jn a.1 a.2) (fun a => .int ((a.1 : Nat) : Int))
theorem ok_len (T : Top K mg CJ CA CP) : HasM P w K mg base CX0 1 CJ "__len__" ["self"] (mkSp K (spLen CJ)) := by
  refine hasM_of T.m_Joins___len__ sc_Joins___len__ (lenF fun _ => rfl) ?_
  intro f cdv A outer s H E hr
  have z_len := T.z_len
  refine ⟨_, (pss_one (ps_ret (pe_callB call_len (by rfl) z_len (by decide +kernel) (pa_cons (pe_fld (pv 0) rfl) pa_nil)))), ?_⟩
  rintro _ _ _ _ ⟨⟨n, f⟩, rfl, J, rfl, rfl, rfl⟩
  walk_at "go"
  have cl := T.cl_Joins
  have na := T.na_Joins__rows
  dsimp only at J ⊢
  walk_at "wp"
  rw [tab_len]
theorem ok_join (T : Top K mg CJ CA CP) : HasM P w K mg base CX0 1 CJ "join" ["self", "u", "v"] (mkSp K (preF (fun (a : Nat × (Nat → Nat → Nat) × Nat × Nat) => [jo CJ a.1 a.2.1, .int a.2.2.1, .int a.2.2.2]) (fun a => Jn a.1 a.2.1 ∧ a.2.2.1 < a.1 ∧ a.2.2.2 < a.1) (fun a => .int (a.2.1 a.2.2.1 a.2.2.2 : Nat)))) := by
  refine hasM_of T.m_Joins_join sc_Joins_join (lenF fun _ => rfl) ?_
  intro f cdv A outer s H E hr
  have cl := T.cl_Joins
  have na := T.na_Joins__rows
  refine ⟨_, (pss_one (ps_ret (pe_ix ix_seq (pe_ix ix_seq (pe_fld (pv 0) rfl) (pv 1) (fun _ _ => rfl)) (pv 2) (fun _ _ => rfl)))), ?_⟩
  rintro _ _ _ _ ⟨⟨n, f, u, v⟩, rfl, ⟨J, hu, hv⟩, rfl, rfl, rfl⟩
  walk_at "go"
  dsimp only at J hu hv ⊢
  walk_at "wp"
abbrev preBelow (CJ : Addr) : Pre := preF (fun (a : Nat × (Nat → Nat → Nat) × Nat × Nat) => [jo CJ a.1 a.2.1, .int a.2.2.1, .int a.2.2.2]) (fun a => Jn a.1 a.2.1 ∧ a.2.2.1 < a.1 ∧ a.2.2.2 < a.1) (fun a => .bl (decide (a.2.1 a.2.2.1 a.2.2.2 = a.2.2.2)))
theorem ok_is_below (T : Top K mg CJ CA CP) : HasM P w K mg base CX0 1 CJ "is_below" ["self", "u", "v"] (mkSp K (preBelow CJ)) := by
  refine hasM_of T.m_Joins_is_below sc_Joins_is_below (lenF fun _ => rfl) ?_
  intro f cdv A outer s H E hr
  have cl := T.cl_Joins
  have na := T.na_Joins__rows
  refine ⟨_, (pss_one (ps_ret (pe_cmpR (op_eqU (hu64 hr)) (pe_ix ix_seq (pe_ix ix_seq (pe_fld (pv 0) rfl) (pv 1) (fun _ _ => rfl)) (pv 2) (fun _ _ => rfl)) (pv 2) (nomark _)))), ?_⟩
  rintro _ _ _ _ ⟨⟨n, f, u, v⟩, rfl, ⟨J, hu, hv⟩, rfl, rfl, rfl⟩
  walk_at "go"
  dsimp only at J hu hv ⊢
  walk_at "wp"
  simp [Int.ofNat_inj]
abbrev preAbove (CJ : Addr) : Pre := preN (fun (a : Nat × (Nat → Nat → Nat) × Nat) => [jo CJ a.1 a.2.1, .int a.2.2]) (fun a => Jn a.1 a.2.1 ∧ a.2.2 < a.1) (fun a => ((List.range a.1).filter fun v => decide (a.2.1 a.2.2 v = v)).map fun (v : Nat) => .int (v : Int))
theorem ok_above (T : Top K mg CJ CA CP) : HasM P w K mg base CX0 3 CJ "above" ["self", "u"] (mkSp K (preAbove CJ)) := by
  refine hasM_of T.m_Joins_above sc_Joins_above (lenN fun _ => rfl) ?_
  intro f cdv A outer s H E hr
  have cl := T.cl_Joins
  have cl_Joins := T.cl_Joins
  have z_range := T.z_range
  have z_len := T.z_len
  have m_Joins_is_below := ok_is_below (P := P) (w := w) (base := base) T
  have m_Joins___len__ := ok_len (P := P) (w := w) (base := base) T
  refine ⟨_, (pss_one (ps_ret (pe_lc (own := [("v", 2)]) rfl sc_Joins_above.nd (pi_range1 rfl z_range (pa_cons (pe_callB (call_lenI m_Joins___len__ (hr.mono (by decide)) pass0) (by rfl) z_len (by decide +kernel) (pa_cons (pv 0) pa_nil)) pa_nil)) (blkOk_by (own := [("v", 2)]) (N := ["self", "u", "v"]) (sc := defScope s_Joins_above) (by decide +kernel)) (fun _ _ _ _ _ => (pgn 2 sc_Joins_above.nd)) (fun _ _ _ _ _ => (pts_one (pt_val (pe_hasM (pv 0) cl_Joins m_Joins_is_below (hr.mono (by decide)) pass0 (pa_cons (pv 1) (pa_cons (pv 2) pa_nil)))))) (fun _ _ _ _ _ => (pv 2))))), ?_⟩
  rintro _ _ _ _ ⟨⟨n, f, u⟩, rfl, ⟨J, hu⟩, rfl, rfl, rfl⟩
  have hn := J.few
  walk_at "go"
  dsimp only at J hu ⊢
  refine wp_ret (wv_lcN ?_)
  walk_at "wp"
  refine cad_lenF (n, f) rfl J (by dsimp only at hn ⊢; omega) ?_
  dsimp only at hn
  walk_at "wp"
  refine lc_RF (fun v => decide (f u v = v)) (fun (v : Nat) => .int (v : Int)) (by simp) (fun v hv => ?_) (fun v hv _ => ?_) ?_
  · walk_at "wp"
  · walk_at "wp"
  · rw [Int.toNat_natCast]
    exact ⟨_, rfl, fun q => ⟨q, rfl, rfl⟩⟩
end
end
section
set_option maxRecDepth 100000
set_option maxHeartbeats 1000000
open PySem PySem.Spec PyProof.Rows L2 FF
open Evl (Ex)
section
variable {P : Program} {w : World} {K : PySem.W.Frag} {mg : Str → Option Value} {base : Heap} {CJ CA CP : Addr}
abbrev mpD (vs : List Nat) : Dt := .lst (vs.map fun (v : Nat) => Dt.int (v : Int))
def QF (f : Nat → Nat → Nat) (vs : List Nat) (u v : Nat) : Prop := f u v = v ∧ f (vs.getD u 0) (vs.getD v 0) ≠ vs.getD v 0
abbrev MpA : Type := Nat × (Nat → Nat → Nat) × List Nat
def MpOk (a : MpA) : Prop := Jn a.1 a.2.1 ∧ a.2.2.length = a.1 ∧ ∀ v ∈ a.2.2, v < a.1
abbrev preFall (CJ : Addr) : Pre := preR (fun (a : MpA) => [jo CJ a.1 a.2.1, mpD a.2.2]) MpOk (fun a d => LeastP a.1 (QF a.2.1 a.2.2) d)
local macro_rules | `(tactic| walk_at "ix") => `(tactic| first | assumption | (with_reducible exact map_get (getD_get (by omega))) | (with_reducible exact map_get (by assumption)) | (with_reducible exact rgm_get (by omega)) | (exact rfl))
theorem ok_first_fall (T : Top K mg CJ CA CP) : Has P w K mg base CX0 5 "first_fall" ["joins", "values"] (mkSp K (preFall CJ)) := by
  refine has_of T.d_first_fall sc_first_fall (lenR fun _ => rfl) ?_
  intro f0 cdv A outer s H E hr
  have z_range := T.z_range
  have z_len := T.z_len
  have cl_Joins := T.cl_Joins
  have m_Joins_above := ok_above (P := P) (w := w) (base := base) T
  have m_Joins_is_below := ok_is_below (P := P) (w := w) (base := base) T
  have m_Joins___len__ := ok_len (P := P) (w := w) (base := base) T
  refine ⟨_, (pss_cons (ps_for PassesOwn.never rfl (pi_range1 rfl z_range (pa_cons (pe_callB (call_lenI m_Joins___len__ (hr.mono (by decide)) pass0) (by rfl) z_len (by decide +kernel) (pa_cons (pv 0) pa_nil)) pa_nil)) (pgn 2 sc_first_fall.nd)
       (pss_one (ps_for PassesOwn.never rfl (pi_list (pe_hasM (pv 0) cl_Joins m_Joins_above (hr.mono (by decide)) pass0 (pa_cons (pv 2) pa_nil))) (pgn 3 sc_first_fall.nd)
       (pss_one (ps_if (pt_not (pt_val (pe_hasM (pv 0) cl_Joins m_Joins_is_below (hr.mono (by decide)) pass0 (pa_cons (pe_ix ix_seq (pv 1) (pv 2) (fun _ _ => rfl)) (pa_cons (pe_ix ix_seq (pv 1) (pv 3) (fun _ _ => rfl)) pa_nil)))))
       (pss_one (ps_ret (pe_tup (pa_cons (pv 2) (pa_cons (pv 3) pa_nil)))))
       pss_nil)))))
       (pss_one (ps_ret pe_non))), ?_⟩
  rintro _ _ _ _ ⟨⟨n, f, vs⟩, rfl, ⟨J, hl, hv⟩, rfl, rfl, rfl⟩
  dsimp only at J hl hv
  have hn := J.few
  walk_at "go"
  walk_at "wp"
  refine cad_lenF (n, f) rfl J (by dsimp only; omega) ?_
  try dsimp only
  walk_at "wp"
  refine for_R (fun i Δ' O' => Pin (∃ x2 x3, Δ' = [some (jo CJ n f), some (mpD vs), x2, x3] ∧ O' = [] ∧ ∀ u v, u < i → v < n → ¬ QF f vs u v)) (pin ⟨_, _, rfl, rfl, fun u v h => by omega⟩) ?_ ?_
  · rintro u _ _ hu ⟨x2, x3, rfl, rfl, hI⟩
    rw [Int.toNat_natCast] at hu
    have hfl : ((List.range n).filter fun v => decide (f u v = v)).length ≤ n := by
      have := List.length_filter_le (fun v => decide (f u v = v)) (List.range n)
      rwa [List.length_range] at this
    walk_at "wp"
    refine for_U (us := (List.range n).filter fun v => decide (f u v = v)) (g := fun (v : Nat) => .int (v : Int)) (fun i Δ' O' => Pin (∃ x3, Δ' = [some (jo CJ n f), some (mpD vs), some (.int (u : Int)), x3] ∧ O' = [] ∧ ∀ v, v ∈ ((List.range n).filter fun v => decide (f u v = v)).take i → ¬ QF f vs u v)) (pin ⟨_, rfl, rfl, fun v h => by simp at h⟩) ?_ ?_
    · rintro j v _ _ hj ⟨x3, rfl, rfl, hI2⟩
      have hm := List.mem_filter.mp (List.mem_of_getElem? hj)
      have hv' := List.mem_range.mp hm.1
      have hb := of_decide_eq_true hm.2
      have h2 : vs.getD u 0 < n := getD_in (by omega) hv
      have h3 : vs.getD v 0 < n := getD_in (by omega) hv
      walk_at "wp"
      · intro h
        have hQ : QF f vs u v := ⟨hb, by simpa using h⟩
        walk_at "wp"
        refine .inr ⟨u, v, hu, hv', hQ, rfl, fun u' v' hu' hv2 hq => ?_⟩
        by_cases e1 : u' < u
        · exact absurd hq (hI u' v' e1 hv2)
        · by_cases e2 : u' = u
          · subst e2
            have hm' : v' ∈ (List.range n).filter fun v => decide (f u' v = v) := List.mem_filter.mpr ⟨List.mem_range.mpr hv2, decide_eq_true hq.1⟩
            obtain ⟨j', hj'⟩ := List.getElem?_of_mem hm'
            by_cases e3 : j' < j
            · exact absurd hq (hI2 v' (List.mem_of_getElem? (by rw [List.getElem?_take_of_lt e3]; exact hj')))
            · refine .inr ⟨rfl, ?_⟩
              have hp : ((List.range n).filter fun v => decide (f u' v = v)).Pairwise (· < ·) := List.pairwise_lt_range.sublist (List.filter_sublist ..)
              obtain ⟨l1, g1⟩ := List.getElem?_eq_some_iff.mp hj
              obtain ⟨l2, g2⟩ := List.getElem?_eq_some_iff.mp hj'
              by_cases e4 : j = j'
              · subst e4; rw [g1] at g2; omega
              · have := List.pairwise_iff_getElem.mp hp j j' l1 l2 (by omega)
                rw [g1, g2] at this
                omega
          · omega
      · intro h
        have hQ : ¬ QF f vs u v := fun q => by
          have := q.2
          simp at h
          exact this h
        walk_at "wp"
        refine pin ⟨_, rfl, rfl, fun v' h' => ?_⟩
        rw [List.take_add_one, hj] at h'
        rcases List.mem_append.mp h' with h' | h'
        · exact hI2 v' h'
        · rw [show v' = v from by simpa using h']; exact hQ
    · rintro _ _ ⟨x3, rfl, rfl, hI2⟩
      rw [List.take_length] at hI2
      refine pin ⟨_, _, rfl, rfl, fun u' v' h' hv' => ?_⟩
      by_cases e : u' = u
      · subst e
        exact fun q => hI2 v' (List.mem_filter.mpr ⟨List.mem_range.mpr hv', decide_eq_true q.1⟩) q
      · exact hI u' v' (by omega) hv'
  · rintro _ _ ⟨x2, x3, rfl, rfl, hI⟩
    rw [Int.toNat_natCast] at hI
    walk_at "wp"
    exact .inl ⟨rfl, hI⟩
/-! the law's own looking -/
end
end
section
set_option maxRecDepth 100000
set_option maxHeartbeats 1000000
open PySem PySem.Spec PyProof.Rows L2 FF
open Evl (Ex)
/-! the law's own maps: they rise -/
def Cov (n : Nat) (f : Nat → Nat → Nat) (vs : List Nat) (v t : Nat) : Prop :=
  (∀ u, u < n → f u v = v → f (vs.getD u 0) t = t) ∧ ∀ z, z < n → (∀ u, u < n → f u v = v → f (vs.getD u 0) z = z) → f t z = z
theorem cov_rise {n : Nat} {f : Nat → Nat → Nat} {vs ws : List Nat} (J : Jn n f) (hw : ∀ v ∈ ws, v < n) (hl : ws.length = n) (h : ∀ j, j < n → Cov n f vs j (ws.getD j 0)) : ∀ u v, u < n → v < n → ¬ QF f ws u v := fun u v hu hv q => q.2 <| by
  have h1 := h u hu
  have h2 := h v hv
  refine h1.2 _ (getD_in (by omega) hw) fun u' hu' e => h2.1 u' hu' ?_
  have e1 := q.1
  rw [← e1, ← J.assoc u' u v hu' hu hv, e]
theorem cov_step {n : Nat} {f : Nat → Nat → Nat} {a t z : Nat} (J : Jn n f) (ha : a < n) (ht : t < n) (hz : z < n) : (f a t = t → f a (f t z) = f t z) ∧ f z (f t z) = f t z ∧ (f z a = a → f t a = a → f (f t z) a = a) :=
  ⟨fun e => by rw [← J.assoc a t z ha ht hz, e], by
    rw [J.comm t z ht hz, ← J.assoc z z t hz hz ht, J.idem z hz], fun e1 e2 => by rw [J.assoc t z a ht hz ha, e1, e2]⟩
section
variable {P : Program} {w : World} {K : PySem.W.Frag} {mg : Str → Option Value} {base : Heap} {CJ CA CP : Addr}
local macro_rules | `(tactic| walk_at "ix") => `(tactic| first | assumption | (with_reducible exact map_get (getD_get (by omega))) | (with_reducible exact map_get (by assumption)) | (with_reducible exact rgm_get (by omega)) | (exact rfl))
abbrev preMap : Pre := preD (fun (a : Nat × (Nat → Nat → Nat)) => [.lst (tab a.1 a.2)]) (fun a => Jn a.1 a.2) (fun a d => ∃ vs : List Nat, d = mpD vs ∧ vs.length = a.1 ∧ (∀ v ∈ vs, v < a.1) ∧ ∀ u v, u < a.1 → v < a.1 → ¬ QF a.2 vs u v)
theorem ok_l_map (T : Top K mg CJ CA CP) : HasG P w K mg base CX0 2 "_law_map" ["_law_bag_here", "_law_rows_here"] (mkSp K preMap) := by
  refine hasG_of T.d_l_map sc_l_map (lenD fun _ => rfl) ?_
  intro f0 cdv A outer s H E g hr
  have z_range := T.z_range
  have z_len := T.z_len
  have z_int := T.z_int
  have h_l_take := ok_l_take (P := P) (w := w) (base := base) T
  refine ⟨_, (pss_cons (ps_par (i := 2) (j := 3) rfl sc_l_map.nd rfl rfl (by decide) rfl rfl (pa_cons (pe_callB call_len (by rfl) z_len (by decide +kernel) (pa_cons (pv 1) pa_nil)) (pa_cons (pe_lst pa_nil) pa_nil)) (by rfl))
       (pss_cons (ps_par (i := 4) (j := 5) rfl sc_l_map.nd rfl rfl (by decide) rfl rfl (pa_cons (pe_hasG h_l_take g (hr.mono (by decide)) (by rfl) pass0 (pa_cons (pv 0) (pa_cons pe_int pa_nil))) (pa_cons (pe_lst pa_nil) pa_nil)) (by rfl))
       (pss_cons (ps_for PassesOwn.never rfl (pi_range1 rfl z_range (pa_cons (pv 2) pa_nil)) (pgn 6 sc_l_map.nd)
       (pss_one (ps_expr (pe_bm PySem.F.plainAttrs_list PySem.F.slot_list_append PySem.F.type_list_append mt_append (pv 5) (pa_cons (pe_ix ix_seq (pe_lst (pa_cons (pe_hasG h_l_take g (hr.mono (by decide)) (by rfl) pass0 (pa_cons (pv 0) (pa_cons (pv 2) pa_nil))) (pa_cons (pv 6) pa_nil))) (pe_callTy call_int1 (by rfl) z_int (by decide +kernel) (pa_cons (pe_or (pe_cmpR op_lt (pv 4) pe_int (nomark _)) (pe_one (pe_and (pe_cmpR op_lt (pv 4) pe_int (nomark _)) (pe_one (pe_cmpR (op_eqU (hu64 hr)) (pe_hasG h_l_take g (hr.mono (by decide)) (by rfl) pass0 (pa_cons (pv 0) (pa_cons pe_int pa_nil))) pe_int (nomark _)))))) pa_nil)) (fun _ _ => rfl)) pa_nil)))))
       (pss_cons (ps_if (pt_cmpR (op_eqU (hu64 hr)) (pv 4) pe_int (nomark _))
       (pss_one (pset 5 sc_l_map.nd (pe_op op_times (pe_lst (pa_cons (pe_ix ix_seq (pv 5) pe_int (fun _ _ => rfl)) pa_nil)) (pv 2))))
       pss_nil)
       (pss_cons (ps_for PassesOwn.never rfl (pi_range1 rfl z_range (pa_cons (pv 2) pa_nil)) (pgn 7 sc_l_map.nd)
       (pss_cons (pset 8 sc_l_map.nd (pe_ix ix_seq (pv 5) (pv 7) (fun _ _ => rfl)))
       (pss_cons (ps_for PassesOwn.never rfl (pi_range1 rfl z_range (pa_cons (pv 2) pa_nil)) (pgn 6 sc_l_map.nd)
       (pss_one (ps_if (pt_cmpR (op_eqU (hu64 hr)) (pe_ix ix_seq (pe_ix ix_seq (pv 1) (pv 6) (fun _ _ => rfl)) (pv 7) (fun _ _ => rfl)) (pv 7) (nomark _))
       (pss_one (pset 8 sc_l_map.nd (pe_ix ix_seq (pe_ix ix_seq (pv 1) (pv 8) (fun _ _ => rfl)) (pe_ix ix_seq (pv 5) (pv 6) (fun _ _ => rfl)) (fun _ _ => rfl))))
       pss_nil)))
       (pss_one (ps_expr (pe_bm PySem.F.plainAttrs_list PySem.F.slot_list_append PySem.F.type_list_append mt_append (pv 3) (pa_cons (pv 8) pa_nil)))))))
       (pss_one (ps_ret (pv 3)))))))), ?_⟩
  rintro _ _ _ _ ⟨b, ⟨n, f⟩, rfl, J, rfl, rfl, rfl⟩
  dsimp only at J
  have hn := J.few
  have hp := J.pos
  refine sv_rtF ?_
  walk_at "go"
  walk_at "wp"
  intro q
  walk_at "wp"
  intro kind hk
  walk_at "wp"
  intro p
  walk_at "wp"
  rw [tab_len]
  refine for_R (fun i Δ' O' => Pin (∃ x6 x7 x8 vs, Δ' = [some (.ref b), some (.lst (tab n f)), some (.int n), some (.ref q), some (.int kind), some (.ref p), x6, x7, x8] ∧ O' = [(p, .lst (intsD vs)), (q, .lst []), (b, .bag)] ∧ vs.length = i ∧ ∀ v ∈ vs, v < n)) (pin ⟨_, _, _, [], rfl, rfl, rfl, by simp⟩) ?_ ?_
  · rintro u _ _ hu ⟨x6, x7, x8, vs, rfl, rfl, hl, hv⟩
    rw [Int.toNat_natCast] at hu
    have app : ∀ v : Nat, v < n → Pin (∃ x6' x7' x8' : Option Dt, ∃ vs' : List Nat, [some (Dt.ref b), some (.lst (tab n f)), some (.int n), some (.ref q), some (.int kind), some (.ref p), some (.int u), x7, x8] = [some (.ref b), some (.lst (tab n f)), some (.int n), some (.ref q), some (.int kind), some (.ref p), x6', x7', x8'] ∧ [(p, Ow.lst (intsD vs ++ [.int (v : Int)])), (q, .lst []), (b, .bag)] = [(p, .lst (intsD vs')), (q, .lst []), (b, .bag)] ∧ vs'.length = u + 1 ∧ ∀ v ∈ vs', v < n) := fun v hv' => by
      obtain ⟨e1, e2, e3⟩ := ints_app hv hv'
      exact pin ⟨_, _, _, vs ++ [v], rfl, by rw [e1], by omega, e3⟩
    walk_at "wn"
    intro r0 hr0
    have hr0 : r0 < n := by omega
    walk_at "wn"
    · intro _
      walk_at "wn"
      · intro _
        walk_at "wn"
        intro r1 hr1
        walk_at "wn"
        refine ko_ix2 hr0 hu fun v hv' => ?_
        walk_at "wn"
        exact app v hv'
      · intro _
        walk_at "wn"
        exact app r0 hr0
    · intro _
      walk_at "wn"
      exact app u hu
  · rintro _ _ ⟨x6, x7, x8, vs, rfl, rfl, hl, hv⟩
    rw [Int.toNat_natCast] at hl
    have hnn : n < 100 := by omega
    refine (sv_frzE (n := 0) (i := 5) rfl rfl ?_)
    walk_at "nm"
    refine sv_seq (M := fun Δ' O' => Pin (∃ vs' : List Nat, Δ' = [some (.ref b), some (.lst (tab n f)), some (.int n), some (.ref q), some (.int kind), some (.lst (intsD vs')), x6, x7, x8] ∧ O' = [(q, .lst []), (b, .bag)] ∧ vs'.length = n ∧ ∀ v ∈ vs', v < n)) ?_ ?_
    · have h0 : (intsD vs)[(0 : Int).toNat]? = some (.int ((vs.getD 0 0 : Nat) : Int)) := map_get (getD_get (by omega))
      have hg : vs.getD 0 0 < n := getD_in (by omega) hv
      walk_at "wp"
      · intro _
        walk_at "wp"
        refine kof (opd_timesL (by omega) (by omega) (by simp)) ?_
        rw [Int.toNat_natCast, flat_one]
        walk_at "wp"
        refine pin ⟨List.replicate n (vs.getD 0 0), ?_, rfl, by simp, fun v hv' => by rw [List.eq_of_mem_replicate hv']; exact hg⟩
        simp [intsD]
      · intro _
        walk_at "wp"
        exact pin ⟨vs, rfl, rfl, hl, hv⟩
    · clear hl hv vs
      rintro _ _ ⟨vs, rfl, rfl, hl, hv⟩
      walk_at "wp"
      refine for_R (fun i Δ' O' => Pin (∃ x6 x7 x8, ∃ ws : List Nat, Δ' = [some (.ref b), some (.lst (tab n f)), some (.int n), some (.ref q), some (.int kind), some (.lst (intsD vs)), x6, x7, x8] ∧ O' = [(q, .lst (intsD ws)), (b, .bag)] ∧ ws.length = i ∧ (∀ v ∈ ws, v < n) ∧ ∀ j, j < i → Cov n f vs j (ws.getD j 0))) (pin ⟨_, _, _, [], rfl, rfl, rfl, by simp, fun j h => by omega⟩) ?_ ?_
      · rintro v _ _ hv' ⟨x6, x7, x8, ws, rfl, rfl, hwl, hw, hC⟩
        rw [Int.toNat_natCast] at hv'
        walk_at "wp"
        have hg : vs.getD v 0 < n := getD_in (by omega) hv
        refine for_R (fun i Δ' O' => Pin (∃ x6, ∃ t : Nat, Δ' = [some (.ref b), some (.lst (tab n f)), some (.int n), some (.ref q), some (.int kind), some (.lst (intsD vs)), x6, some (.int (v : Int)), some (.int (t : Int))] ∧ O' = [(q, .lst (intsD ws)), (b, .bag)] ∧ t < n ∧ (∀ u, u < i → f u v = v → f (vs.getD u 0) t = t) ∧ ∀ z, z < n → (∀ u, u < n → f u v = v → f (vs.getD u 0) z = z) → f t z = z)) (pin ⟨_, _, rfl, rfl, hg, fun u h => by omega, fun z hz hh => hh v hv' (J.idem v hv')⟩) ?_ ?_
        · rintro u _ _ hu ⟨x6, t, rfl, rfl, ht, hU, hM⟩
          rw [Int.toNat_natCast] at hu
          have h3 : vs.getD u 0 < n := getD_in (by omega) hv
          have h4 := J.lt t (vs.getD u 0) ht h3
          walk_at "wp"
          · intro hq
            have hq : f u v = v := by simpa [Int.ofNat_inj] using hq
            walk_at "wp"
            refine pin ⟨_, _, rfl, rfl, h4, fun u' hu' e => ?_, fun z hz hh => ?_⟩
            · by_cases eu : u' = u
              · subst eu
                exact (cov_step (n := n) J hg ht h3).2.1
              · have h5 : vs.getD u' 0 < n := getD_in (by omega) hv
                exact (cov_step (n := n) J h5 ht h3).1 (hU u' (by omega) e)
            · exact (cov_step (n := n) J hz ht h3).2.2 (hh u hu hq) (hM z hz hh)
          · intro hq
            have hq : ¬ f u v = v := by simpa [Int.ofNat_inj] using hq
            walk_at "wp"
            refine pin ⟨_, _, rfl, rfl, ht, fun u' hu' e => ?_, hM⟩
            by_cases eu : u' = u
            · subst eu; exact absurd e hq
            · exact hU u' (by omega) e
        · rintro _ _ ⟨x6, t, rfl, rfl, ht, hU, hM⟩
          rw [Int.toNat_natCast] at hU
          obtain ⟨e1, e2, e3⟩ := ints_app hw ht
          walk_at "wp"
          refine pin ⟨_, _, _, ws ++ [t], rfl, by rw [e1], by omega, e3, fun j hj => ?_⟩
          by_cases ej : j = v
          · subst ej
            have : (ws ++ [t]).getD j 0 = t := by rw [List.getD_eq_getElem?_getD, ← hwl]; simp
            rw [this]
            exact ⟨hU, hM⟩
          · have : (ws ++ [t]).getD j 0 = ws.getD j 0 := by rw [List.getD_eq_getElem?_getD, List.getD_eq_getElem?_getD, List.getElem?_append_left (by omega)]
            rw [this]
            exact hC j (by omega)
      · rintro _ _ ⟨x6, x7, x8, ws, rfl, rfl, hwl, hw, hC⟩
        rw [Int.toNat_natCast] at hwl hC
        refine sv_frzE (n := 0) (i := 3) rfl rfl ?_
        walk_at "nm"
        walk_at "wp"
        exact ⟨[(b, .bag)], List.Sublist.refl _, ⟨ws, rfl, hwl, hw, cov_rise J hw hwl hC⟩, rfl⟩
end
end
end LK
namespace LK
open PySem PySem.Spec PyProof.Rows L2 FF
open Evl (Ex)
local macro_rules | `(tactic| walk_at "sc") => `(tactic| first | assumption | omega | (with_reducible rfl))
local macro_rules | `(tactic| walk_at "ix") => `(tactic| first | assumption | (with_reducible exact map_get (by assumption)) | (with_reducible exact rgm_get (by omega)) | (exact rfl))
local macro_rules | `(tactic| walk_at "ca") => `(tactic| fail)
local macro_rules | `(tactic| walk_at "pr") => `(tactic| first
  | (with_reducible refine' ko opd_plusI ?_) | (with_reducible refine' ko opd_I0 ?_) | (with_reducible refine' ko opd_B0 ?_) | (with_reducible refine' ko opd_eqUI ?_) | (with_reducible refine' ko opd_neUI ?_) | (with_reducible refine' ko opd_eqTI ?_) | (with_reducible refine' ko opd_neTI ?_) | (with_reducible refine' ko opd_eqLI ?_) | (with_reducible refine' ko opd_neLI ?_) | (with_reducible refine' ko opd_eqUS ?_) | (with_reducible refine' ko opd_neUS ?_)
  | (with_reducible refine' ko opd_notN ?_) | (with_reducible refine' ko opd_isN ?_) | (with_reducible refine' ku und_neg ?_)
  | ((with_reducible apply ko_ixN); (focus (first | (with_reducible exact so_lst) | (with_reducible exact so_tup) | ((with_reducible apply so_own); walk_at "mem"))); (focus (walk_at "ix")))
  | ((with_reducible apply ko_ixI); (focus (first | (with_reducible exact so_lst) | (with_reducible exact so_tup) | ((with_reducible apply so_own); walk_at "mem"))); (focus (walk_at "sc")); (focus (walk_at "ix")))
  | ((with_reducible refine' ko (opd_timesI ?_) ?_); focus (first | (exact cmul_l (by omega) (by omega)) | (exact cmul_r (by omega) (by omega))))
  | (with_reducible refine' kof (opd_plusL lo_lst lo_lst ?_) ?_)
  | ((with_reducible refine' kb (bmd_append (i := 0) rfl ?_) ?_)) | ((with_reducible refine' kb (bmd_append (i := 1) rfl ?_) ?_)) | ((with_reducible refine' kb (bmd_reverse (i := 0) rfl) ?_)) | ((with_reducible refine' kb (bmd_reverse (i := 1) rfl) ?_)) | ((with_reducible refine' kb (bmd_clear (i := 0) rfl) ?_)) | ((with_reducible refine' kb (bmd_clear (i := 1) rfl) ?_))
  | (with_reducible refine' kc cad_int ?_) | (with_reducible refine' kc cad_intB ?_) | (with_reducible refine' kc cad_abs ?_) | (with_reducible refine' kc (cad_len so_lst) ?_) | (with_reducible refine' kc (cad_len so_tup) ?_) | ((with_reducible apply kc_lenO); focus (walk_at "mem"))
  | (with_reducible refine' ko_in2 ?_) | (with_reducible refine' ko_notin2 ?_) | (with_reducible refine' kc cad_max2 ?_) | (with_reducible refine' kc_any ?_) | (with_reducible refine' kc_all ?_) | ((with_reducible refine' ko_eqNilF ?_ ?_); focus omega) | ((with_reducible refine' ko_neNilF ?_ ?_); focus omega) | ((with_reducible refine' ko_timesN ?_ ?_); focus omega)
  | ((with_reducible refine' kc (cad_isiInt ?_) ?_); focus (walk_at "kd")) | ((with_reducible refine' kc (cad_isiBool ?_) ?_); focus (walk_at "kd")) | ((with_reducible refine' kc (cad_isiStr ?_) ?_); focus (walk_at "kd")) | ((with_reducible refine' kc (cad_isiTup ?_) ?_); focus (walk_at "kd")) | ((with_reducible refine' kc (cad_isiList ?_) ?_); focus (walk_at "kd")) | ((with_reducible refine' kc (cad_isiDict ?_) ?_); focus (walk_at "kd"))
  | (with_reducible refine' kcf (cad_list so_lst) ?_) | ((with_reducible refine' kcf (cad_list (so_own ?_)) ?_); focus (walk_at "mem")) | (with_reducible refine' kcf (cad_list so_tup) ?_) | (with_reducible refine' kc (cad_tupleL lo_lst) ?_))
local macro_rules | `(tactic| walk_at "kd") => `(tactic| first | assumption | rfl)
local macro_rules | `(tactic| walk_at "mem") => `(tactic| first | assumption | ((repeat (first | (with_reducible exact List.mem_cons_self ..) | (with_reducible apply List.mem_cons_of_mem))); done))
local macro_rules | `(tactic| walk_at "an") => `(tactic| first | assumption | omega | ((simp only [List.length_cons, List.length_nil, List.length_map, List.length_range, List.length_append]); omega) | (with_reducible exact List.mem_cons_self ..) | (walk_at "mem") | (constructor <;> omega) | fail)
local macro_rules | `(tactic| walk_at "w1") => `(tactic| first
  | ((with_reducible apply wv_var); focus (exact rfl)) | (with_reducible apply wv_op) | (with_reducible apply wv_int) | (with_reducible apply wa_cons) | (with_reducible apply wa_nil) | ((with_reducible apply wv_cb); (with_reducible show EvA _ _ _ _ _ _ fun _ _ => CaD _ _ _ _ _ _ _); (fail_if_success (with_reducible show EvA _ _ _ _ _ _ fun _ _ => CaD _ _ _ (rSortST _ _ _) _ _ _)))
  | (walk_at "pr") | (walk_at "ca")
  | (with_reducible exact ⟨rfl, rfl⟩)
  | (with_reducible refine' ⟨(_, _), rfl, ?_, ?_⟩) | (with_reducible refine' ⟨(_, _, _), rfl, ?_, ?_⟩) | (with_reducible refine' ⟨(_, _, _, _), rfl, ?_, ?_⟩) | (with_reducible refine' ⟨_, (_, _), rfl, ?_, ?_, ?_⟩) | (with_reducible refine' ⟨_, (_, _, _), rfl, ?_, ?_, ?_⟩)
  | (with_reducible refine' ⟨_, rfl, ?_⟩) | (with_reducible refine' ⟨_, _, rfl, ?_⟩) | (with_reducible refine' ⟨_, _, _, rfl, ?_⟩)
  | (with_reducible apply wp_seq) | ((with_reducible apply wp_set)) | (with_reducible apply wp_ret) | (with_reducible apply wp_if) | (with_reducible apply wp_drop) | (with_reducible apply wp_next) | (with_reducible apply wp_par) | (with_reducible apply wp_par3) | (with_reducible apply wp_asg2) | (with_reducible apply wp_asg3) | (with_reducible apply wp_retN) | (with_reducible apply wp_brk) | (with_reducible apply wp_cont)
  | (with_reducible apply wt_test) | (with_reducible apply wt_B) | (with_reducible apply wt_not)
  | (with_reducible apply wv_notV)
  | (with_reducible apply wv_bl) | (with_reducible apply wv_str) | (with_reducible apply wv_non) | (with_reducible apply wv_ty) | (with_reducible apply wv_un) | (with_reducible apply wv_dnew) | (with_reducible apply wv_bm) | (with_reducible apply wv_bm0)
  | ((with_reducible show Ev _ _ _ (tLst tNil) _ _ fun _ _ => OpD _ _ _ _ _ _ _ _); (with_reducible apply wv_lst)) | (with_reducible apply wv_lstNil) | ((with_reducible apply wv_lst); (with_reducible show EvA _ _ _ _ _ _ _)) | (with_reducible apply wv_tup)
  | (with_reducible apply wp_for) | (with_reducible apply wv_lc) | (with_reducible apply wi_list) | (with_reducible apply wi_tup) | (with_reducible apply wi_rng1) | (with_reducible apply wi_enum) | (with_reducible apply wi_zip) | (with_reducible apply wv_tupRg) | (with_reducible apply wv_lstRg)
  | ((with_reducible apply wv_fldA); (focus assumption); (focus assumption))
  | ((with_reducible show List.lookup _ _ = some _); exact rfl) | ((with_reducible show List.lookup _ _ = none); exact rfl)
  | (with_reducible apply wv_callP) | (with_reducible apply wv_methP) | (with_reducible apply wv_callNF) | (with_reducible apply wv_methNF) | (with_reducible apply wv_callR) | (with_reducible apply wv_methR) | (with_reducible apply wv_callD)
  | (with_reducible apply wv_take) | (with_reducible apply wv_maxDf) | (with_reducible apply wv_slHi) | (with_reducible apply wv_slLo) | ((with_reducible show LstOf _ _ _); (first | (exact lo_lst) | ((apply lo_own); walk_at "mem"))) | (with_reducible apply wv_dget) | (with_reducible apply wv_din) | (with_reducible apply wv_dnotin) | (with_reducible apply wv_call1) | (with_reducible apply wv_call2) | (with_reducible apply wv_callO) | (with_reducible apply wv_make)
  | ((with_reducible show (_ : Nat) ≤ _); (try simp only [List.length_cons, List.length_nil, List.length_map, List.length_range, List.length_append, List.length_zipIdx, List.length_zip]); omega)
  | ((with_reducible show (_ : Int) < _); omega) | ((with_reducible show (_ : Int) ≤ _); omega) | ((with_reducible show (_ : Nat) < _); (try simp only [List.length_cons, List.length_nil, List.length_map, List.length_range, List.length_append, List.length_zipIdx, List.length_zip]); omega)
  | ((with_reducible show (_ : Nat) ∈ (_ : List Nat)); decide)
  | ((with_reducible show aOk _); assumption)
  | ((with_reducible show (_ : Addr × Ow) ∈ _); walk_at "mem")
  | ((with_reducible apply And.intro); focus (walk_at "an"))
  | (dsimp only [List.set_cons_zero, List.set_cons_succ])
  | (with_reducible apply And.intro) | fail)
local macro_rules | `(tactic| walk_at "pp") => `(tactic| first | (with_reducible refine' wt_andP ?_ (fun _ => ?_) ?_) | (with_reducible refine' wt_orP ?_ (fun _ => ?_) ?_) | (with_reducible refine' wv_andP ?_ (fun _ => ?_) ?_) | (with_reducible refine' wv_orP ?_ (fun _ => ?_) ?_) | (with_reducible refine' wv_ifP ?_ (fun _ => ?_) (fun _ => ?_) ?_) | (with_reducible refine' wv_chainP ?_) | (with_reducible refine' ex_two ?_ (fun _ => ?_) ?_) | fail)
local macro_rules | `(tactic| walk_at "vv") => `(tactic| first | (with_reducible apply wt_and) | (with_reducible apply wt_or) | (with_reducible apply wv_andV) | (with_reducible apply wv_orV) | (with_reducible apply wv_if) | fail)
local macro_rules | `(tactic| walk_at "wp") => `(tactic| repeat' (first | (walk_at "w1") | (walk_at "pp") | fail))
local macro_rules | `(tactic| walk_at "wn") => `(tactic| repeat' (first | (walk_at "w1") | (walk_at "vv") | fail))
local macro_rules | `(tactic| walk_at "go") => `(tactic| (simp only [Cx.nox, Cx.wish, cxOf, startD, List.length_cons, List.length_nil, List.map_cons, List.map_nil, Nat.reduceAdd, Nat.reduceSub, List.replicate_succ, List.replicate_zero, List.cons_append, List.nil_append]))
local macro_rules | `(tactic| walk_at "lc") => `(tactic| first
  | ((with_reducible refine' lc_R ?f ?_ (fun _ _ => ?_) ?_); rotate_left) | ((with_reducible refine' lc_RF ?c ?f ?_ (fun _ _ => ?_) (fun _ _ _ => ?_) ?_); rotate_left 2)
  | ((with_reducible refine' lc_U2 ?f ?_ (fun _ _ => ?_) ?_); rotate_left) | ((with_reducible refine' lc_U ?f ?_ (fun _ _ => ?_) ?_); rotate_left) | ((with_reducible refine' lc_F2 ?c ?f ?_ (fun _ _ => ?_) (fun _ _ _ => ?_) ?_); rotate_left 2) | ((with_reducible refine' lc_F ?c ?f ?_ (fun _ _ => ?_) (fun _ _ _ => ?_) ?_); rotate_left 2)
  | (with_reducible exact List.mem_cons_self ..) | ((with_reducible refine' ⟨List.mem_cons_self .., List.mem_cons_of_mem _ (List.mem_cons_self ..)⟩))
  | fail)
local macro_rules | `(tactic| walk_at "wq") => `(tactic| repeat' (first | (walk_at "w1") | (walk_at "lc") | (walk_at "pp") | fail))
local macro_rules | `(tactic| walk_at "nm") => `(tactic| (try simp only [List.set_cons_zero, List.set_cons_succ, List.eraseIdx_cons_zero, List.eraseIdx_cons_succ, List.nil_append, List.cons_append]))
section
set_option maxRecDepth 100000
set_option maxHeartbeats 1000000
open PySem PySem.Spec PyProof.Rows L2 FF
open Evl (Ex)
def nmOk (s : Str) : Prop := nOk (.str s) ∧ isName (.str s) = true ∧ PyData.strOk s = true
/-! names -/
def nmB (s : Str) : Bool := kd (.str s) && (Dt.str s).sok && decide ((Dt.str s).sz ≤ 100000) && isName (.str s) && PyData.strOk s
theorem nmB_ok {s : Str} (h : nmB s = true) : nmOk s := by
  unfold nmB at h
  simp only [Bool.and_eq_true, decide_eq_true_eq] at h
  exact ⟨⟨h.1.1.1.1, h.1.1.1.2, h.1.1.2⟩, h.1.2, h.2⟩
structure NsOk (m : Nat) (ns : List Str) : Prop where
  rise : RiseS ns
  nd : ns.Nodup
  few : ns.length ≤ m
  nm : ∀ s ∈ ns, nmOk s
def WS : List (List Str) := [["a", "b", "c", "d", "e", "f"], ["begin", "do", "edge", "join", "map", "places"], ["x", "xa", "xaa", "xab", "xb", "zzzzzzzz"]]
theorem ws_ok : ∀ W ∈ WS, W.length = 6 ∧ W.Nodup ∧ ∀ s ∈ W, nmB s = true := by decide +kernel
theorem ns_of {W zs : List Str} (hW : W ∈ WS) (hz : zs.Perm W) (m : Nat) : NsOk m (sortS (zs.take m)) := by
  have h := ws_ok W hW
  have hs : (zs.take m).Sublist zs := List.take_sublist ..
  have p := sortS_perm (zs.take m)
  refine ⟨sortS_pw _, p.nodup_iff.mpr (hs.nodup (hz.nodup_iff.mpr h.2.1)), by rw [p.length_eq, List.length_take]; omega, fun s hm => nmB_ok (h.2.2 s ?_)⟩
  exact hz.mem_iff.mp (hs.subset (p.mem_iff.mp hm))
section
variable {P : Program} {w : World} {K : PySem.W.Frag} {mg : Str → Option Value} {base : Heap} {CJ CA CP : Addr}
abbrev preNames : Pre := preD (fun (m : Nat) => [.int (m : Int)]) (fun m => m ≤ 6) (fun m d => ∃ ns : List Str, d = .lst (ns.map .str) ∧ NsOk m ns)
theorem ok_l_names (T : Top K mg CJ CA CP) : HasG P w K mg base CX0 3 "_law_names" ["_law_bag_here", "_law_many"] (mkSp K preNames) := by
  refine hasG_of T.d_l_names sc_l_names (lenD fun _ => rfl) ?_
  intro f0 cdv A outer s H E g hr
  have z_sorted := T.z_sorted
  have h_l_take := ok_l_take (P := P) (w := w) (base := base) T
  have h_l_mixed := ok_l_mixed (P := P) (w := w) (base := base) T
  refine ⟨_, (pss_cons (pset 2 sc_l_names.nd (pe_lst (pa_cons (pe_lst (pa_cons pe_str (pa_cons pe_str (pa_cons pe_str (pa_cons pe_str (pa_cons pe_str (pa_cons pe_str pa_nil))))))) (pa_cons (pe_lst (pa_cons pe_str (pa_cons pe_str (pa_cons pe_str (pa_cons pe_str (pa_cons pe_str (pa_cons pe_str pa_nil))))))) pa_nil))))
       (pss_cons (ps_expr (pe_bm PySem.F.plainAttrs_list PySem.F.slot_list_append PySem.F.type_list_append mt_append (pv 2) (pa_cons (pe_lst (pa_cons pe_str (pa_cons pe_str (pa_cons pe_str (pa_cons pe_str (pa_cons pe_str (pa_cons pe_str pa_nil))))))) pa_nil)))
       (pss_cons (pset 3 sc_l_names.nd (pe_ix ix_seq (pv 2) (pe_ix ix_seq (pe_lst (pa_cons pe_int (pa_cons pe_int (pa_cons pe_int (pa_cons pe_int pa_nil))))) (pe_hasG h_l_take g (hr.mono (by decide)) (by rfl) pass0 (pa_cons (pv 0) (pa_cons pe_int pa_nil))) (fun _ _ => rfl)) (fun _ _ => rfl)))
       (pss_one (ps_ret (pe_callB (call_sortD (hu100 hr)) (by rfl) z_sorted (by decide +kernel) (pa_cons (pe_slice sl_list (pe_hasG h_l_mixed g (hr.mono (by decide)) (by rfl) pass0 (pa_cons (pv 0) (pa_cons (pv 3) pa_nil))) po_none (po_some (pv 1))) pa_nil))))))), ?_⟩
  rintro _ _ _ _ ⟨b, m, rfl, hm, rfl, rfl, rfl⟩
  refine sv_rtF ?_
  walk_at "go"
  refine wp_seq (wp_set (wv_lstO ?_))
  walk_at "wp"
  intro q
  walk_at "wp"
  intro r hr
  have hW : ∃ W ∈ WS, ∃ i : Nat, ([Dt.int 0, .int 0, .int 1, .int 2] : List Dt)[r]? = some (.int (i : Int)) ∧ (WS.map fun W => Dt.lst (W.map .str))[i]? = some (.lst (W.map .str)) := by
    match r, hr with
    | 0, _ => exact ⟨WS[0], by decide, 0, rfl, rfl⟩
    | 1, _ => exact ⟨WS[0], by decide, 0, rfl, rfl⟩
    | 2, _ => exact ⟨WS[1], by decide, 1, rfl, rfl⟩
    | 3, _ => exact ⟨WS[2], by decide, 2, rfl, rfl⟩
    | n + 4, h => omega
  obtain ⟨W, hW, i, e1, e2⟩ := hW
  refine ko_ixN so_lst e1 ?_
  refine ko_ixN (so_own (ds := WS.map fun W => Dt.lst (W.map .str)) (List.mem_cons_self ..)) e2 ?_
  have hl := (ws_ok W hW).1
  refine wp_ret (wv_cb (wa_cons (wv_slHi (wv_callB ?_)) ))
  walk_at "wp"
  rintro _ ⟨ds, ys, e, rfl, hp⟩
  cases e
  obtain ⟨zs, hz, rfl⟩ := perm_of_map hp
  have hN := ns_of hW hz m
  refine ⟨_, m, lo_lst, wv_var rfl ⟨rfl, rfl⟩, wa_nil (kcf_sortL lo_lst (ns := zs.take m) (by rw [List.map_take]) (fun s hs => ?_) ?_)⟩
  · exact (hN.nm s ((sortS_perm _).mem_iff.mpr hs)).2.2
  · exact ⟨[(b, .bag)], List.Sublist.cons _ (List.Sublist.refl _), ⟨_, rfl, hN⟩, rfl⟩
end
end
section
set_option maxRecDepth 100000
set_option maxHeartbeats 1000000
open PySem PySem.Spec PyProof.Rows L2 FF
open Evl (Ex)
section
/-! the maps of an analysis -/
abbrev Ms : Type := List (Str × List Nat)
abbrev kdM (ms : Ms) : List (Key × Dt) := ms.map fun p => ((.inr p.1 : Key), mpD p.2)
structure MsOk (n : Nat) (f : Nat → Nat → Nat) (ms : Ms) : Prop where
  few : ms.length ≤ 6
  nd : (ms.map (·.1)).Nodup
  nm : ∀ p ∈ ms, nmOk p.1
  mp : ∀ p ∈ ms, p.2.length = n ∧ ∀ v ∈ p.2, v < n
  rise : ∀ p ∈ ms, ∀ u v, u < n → v < n → ¬ QF f p.2 u v
theorem MsOk.perm {n : Nat} {f : Nat → Nat → Nat} {ms ms' : Ms} (h : MsOk n f ms) (e : ms'.Perm ms) : MsOk n f ms' :=
  ⟨by rw [e.length_eq]; exact h.few, (e.map _).nodup_iff.mpr h.nd, fun p m => h.nm p (e.mem_iff.mp m), fun p m => h.mp p (e.mem_iff.mp m), fun p m => h.rise p (e.mem_iff.mp m)⟩
theorem MsOk.ok {n : Nat} {f : Nat → Nat → Nat} {ms : Ms} (h : MsOk n f ms) (J : Jn n f) {p : Str × List Nat} (m : p ∈ ms) : MpOk (n, f, p.2) := ⟨J, (h.mp p m).1, (h.mp p m).2⟩
theorem look_kdM {ms : Ms} (nd : (ms.map (·.1)).Nodup) {p : Str × List Nat} (m : p ∈ ms) : lookD (kdM ms) (.inr p.1) = some (mpD p.2) := by
  induction ms with
  | nil => cases m
  | cons q ms ih =>
    rw [List.map_cons, List.nodup_cons] at nd
    unfold lookD
    rw [kdM, List.map_cons, List.find?_cons]
    by_cases e : q.1 = p.1
    · have : q = p := by
        rcases List.mem_cons.mp m with h | h
        · exact h.symm
        · exact absurd (List.mem_map.mpr ⟨p, h, e.symm⟩) nd.1
      subst this
      simp
    · have hp : p ∈ ms := by
        rcases List.mem_cons.mp m with h | h
        · rw [h] at e; exact absurd rfl e
        · exact h
      have := ih nd.2 hp
      unfold lookD kdM at this
      simpa [e] using this
def leKy : Key → Key → Bool
  | .inr a, .inr b => leS a b
  | _, _ => true
def sortK (ks : List (Key × Dt)) : List (Key × Dt) := ks.mergeSort fun a b => leKy a.1 b.1
def srt : Dt → Dt
  | .fdc ks => .fdc (sortK ks)
  | d => d
def sortM (ms : Ms) : Ms := ms.mergeSort fun a b => leS a.1 b.1
theorem sortK_kd (ms : Ms) : sortK (kdM ms) = kdM (sortM ms) :=
  (PySem.W.sort_maps (r := fun a b : Str × List Nat => leS a.1 b.1) (s := fun a b : Key × Dt => leKy a.1 b.1) (fun p => ((.inr p.1 : Key), mpD p.2)) fun a _ b _ => rfl).symm
theorem sortM_keys (ms : Ms) : (sortM ms).map (·.1) = sortS (ms.map (·.1)) := PySem.W.sort_maps (r := fun a b : Str × List Nat => leS a.1 b.1) (s := leS) (·.1) fun a _ b _ => rfl
theorem sortM_perm (ms : Ms) : (sortM ms).Perm ms := List.mergeSort_perm ..
theorem kd_keys (ms : Ms) : (kdM ms).map (·.1) = (ms.map (·.1)).map Sum.inr := by rw [List.map_map, List.map_map]; rfl
/-- a list of pairs of names that rise -/
def RiseM (ms : Ms) : Prop := RiseS (ms.map (·.1))
theorem keys_inj {ms ms' : Ms} (nd : (ms.map (·.1)).Nodup) (e : ms.Perm ms') (h : ms.map (·.1) = ms'.map (·.1)) : ms = ms' := by
  have key : ∀ p ∈ ms, ∀ q ∈ ms, p.1 = q.1 → p = q := by
    clear h e
    induction ms with
    | nil => intro p h; cases h
    | cons a ms ih =>
      rw [List.map_cons, List.nodup_cons] at nd
      intro p hp q hq e
      rcases List.mem_cons.mp hp with h1 | h1
      · rcases List.mem_cons.mp hq with h2 | h2
        · rw [h1, h2]
        · exact absurd (List.mem_map.mpr ⟨q, h2, by rw [← e, h1]⟩) nd.1
      · rcases List.mem_cons.mp hq with h2 | h2
        · exact absurd (List.mem_map.mpr ⟨p, h1, by rw [e, h2]⟩) nd.1
        · exact ih nd.2 p h1 q h2 e
  apply List.ext_getElem?
  intro i
  have hi := congrArg (·[i]?) h
  simp only [List.getElem?_map] at hi
  cases h1 : ms[i]? with
  | none => cases h2 : ms'[i]? with
    | none => rfl
    | some q => rw [h1, h2] at hi; cases hi
  | some p => cases h2 : ms'[i]? with
    | none => rw [h1, h2] at hi; cases hi
    | some q =>
      rw [h1, h2] at hi
      have := key p (List.mem_of_getElem? h1) q (e.mem_iff.mpr (List.mem_of_getElem? h2)) (Option.some.inj hi)
      rw [this]
theorem sortM_of {ms ms' : Ms} (h : ms'.Perm ms) (hq : RiseM ms) (nd : (ms.map (·.1)).Nodup) : sortM ms' = ms := by
  have e1 : (sortM ms').map (·.1) = ms.map (·.1) := by rw [sortM_keys]; exact sortS_of (h.map _) hq
  have p1 : (sortM ms').Perm ms := (sortM_perm ms').trans h
  exact keys_inj ((p1.map _).nodup_iff.mpr nd) p1 e1
theorem keys_D (ms : Ms) : ((kdM ms).map fun w => keyD w.1) = ms.map fun p => Dt.str p.1 := by rw [List.map_map]; rfl
theorem map_ok {n : Nat} {vs : List Nat} (h : vs.length = n ∧ ∀ v ∈ vs, v < n) (hn : n ≤ 64) : ∃ (m : Nat) (ns : List Int), Dt.int (n : Int) = .int m ∧ mpD vs = .lst (ns.map .int) ∧ ns.length = m ∧ m ≤ 64 ∧ ∀ i ∈ ns, 0 ≤ i ∧ i < m :=
  ⟨n, vs.map fun (v : Nat) => (v : Int), rfl, by unfold mpD; rw [List.map_map]; rfl, by rw [List.length_map]; exact h.1, hn, fun i m => by
    obtain ⟨v, hv, rfl⟩ := List.mem_map.mp m
    have := h.2 v hv
    omega⟩
abbrev an (CJ CA : Addr) (n : Nat) (f : Nat → Nat → Nat) (ms : Ms) (b : Nat) : Dt := .obj CA [("_joins", jo CJ n f), ("_maps", .fdc (kdM ms)), ("_begin", .int (b : Int))]
structure AnOk (n : Nat) (f : Nat → Nat → Nat) (ms : Ms) (b : Nat) : Prop where
  jn : Jn n f
  mo : MsOk n f ms
  rise : RiseM ms
  bg : b < n
end
section
variable {P : Program} {w : World} {K : PySem.W.Frag} {mg : Str → Option Value} {base : Heap} {CJ CA CP : Addr}
local macro_rules | `(tactic| walk_at "ca") => `(tactic| first | (with_reducible apply wv_cls) | ((with_reducible show MsOk _ _ _); assumption) | ((with_reducible show Jn _ _); assumption) | ((with_reducible refine' kc_lenR do_fdc ?_)) | (with_reducible refine' kcf_sortKS do_fdc (kd_keys _) ?_) | ((with_reducible apply wi_keysF)) | (with_reducible exact do_fdc) | ((with_reducible refine' ⟨_, (Sum.inr _ : Key), _, do_fdc, rfl, ?_, ?_⟩)) | ((with_reducible refine' ⟨_, (Sum.inr _ : Key), do_fdc, rfl, ?_⟩)))
abbrev spMaps : Pre := preF (fun (a : Nat × (Nat → Nat → Nat) × Ms) => [.int (a.1 : Int), .fdc (kdM a.2.2)]) (fun a => Jn a.1 a.2.1 ∧ MsOk a.1 a.2.1 a.2.2) (fun _ => .bl true)
theorem ok_are_maps (T : Top K mg CJ CA CP) : Has P w K mg base CX0 4 "_are_maps" ["many", "thing"] (mkSp K spMaps) := by
  refine has_of T.d_are_maps sc_are_maps (lenF fun _ => rfl) ?_
  intro f0 cdv A outer s H E hr
  have z_isinstance := T.z_isinstance
  have z_dict := T.z_dict
  have z_len := T.z_len
  have z_all := T.z_all
  obtain ⟨tl, g_MOST_STATEMENTS⟩ := T.g_MOST_STATEMENTS
  have h_is_name := ok_is_name (P := P) (w := w) (base := base) T
  have h_is_map := ok_is_map (P := P) (w := w) (base := base) T
  refine ⟨_, (pss_cons (ps_if (PW.pt (pw_or (pt_not (pt_val (pe_callB call_isi (by rfl) z_isinstance (by decide +kernel) (pa_cons (pv 1) (pa_cons (pe_bltn (v := .ty "dict") (u := .type "dict") (by rfl) z_dict (by decide +kernel) rfl) pa_nil))))) (pw_or1 (pt_cmpR op_gt (pe_callB call_lenR (by rfl) z_len (by decide +kernel) (pa_cons (pv 1) pa_nil)) (pe_glob (v := .int 6) (by rfl) g_MOST_STATEMENTS ⟨_, rfl⟩) (nomark _)))))
       (pss_one (ps_ret pe_bl))
       pss_nil)
       (pss_one (ps_ret (pe_callB (cr_all rfl) (by rfl) z_all (by decide +kernel) (pa_cons (pe_lc (own := [("name", 2)]) rfl sc_are_maps.nd (pi_keys (pv 1)) (blkOk_by (own := [("name", 2)]) (N := ["many", "thing", "name"]) (sc := defScope s_are_maps) (by decide +kernel)) (fun _ _ _ _ _ => (pgn 2 sc_are_maps.nd)) (fun _ _ _ _ _ => pts_nil) (fun _ _ _ _ _ => (pe_and (pe_has h_is_name (hr.mono (by decide)) (by rfl) pass0 (pa_cons (pv 2) pa_nil)) (pe_one (pe_has h_is_map (hr.mono (by decide)) (by rfl) pass0 (pa_cons (pv 0) (pa_cons (pe_dget (hu1 hr) (pv 1) (pv 2) (fun _ _ => rfl)) pa_nil))))))) pa_nil))))), ?_⟩
  rintro _ _ _ _ ⟨⟨n, f, ms⟩, rfl, ⟨J, M⟩, rfl, rfl, rfl⟩
  dsimp only at J M
  have hn := J.few
  have hm := M.few
  walk_at "go"
  walk_at "wp"
  · intro h
    simp [isiDict] at h
    omega
  · intro _
    walk_at "wp"
    rw [keys_D]
    refine lc_U (fun _ => .bl true) (by simp) (fun p hp => ?_) ?_
    · have h1 := M.nm p hp
      refine wv_andP (c := true) (c' := true) ?_ (fun _ => ?_) ⟨rfl, rfl⟩
      · exact wv_call1 (wa_cons (wv_var rfl (wa_nil ⟨_, rfl, h1.1, congrArg Dt.bl h1.2.1, rfl⟩)))
      · exact wv_call2 (wa_cons (wv_var rfl (wa_cons (wv_dget (wv_var rfl (wv_var rfl ⟨_, .inr p.1, _, do_fdc, rfl, look_kdM M.nd hp, wa_nil ⟨_, _, rfl, map_ok (M.mp p hp) hn, rfl, rfl⟩⟩))))))
    · refine wa_nil (kc_all (us := ms) (c := fun _ => true) ?_)
      exact ⟨by simp, rfl⟩
theorem no_fallM {a : MpA} (h : ∀ u v, u < a.1 → v < a.1 → ¬ QF a.2.1 a.2.2 u v) {d : Dt} (hd : LeastP a.1 (QF a.2.1 a.2.2) d) : d = .non := by
  rcases hd with ⟨rfl, _⟩ | ⟨u, v, hu, hv, q, _⟩
  · rfl
  · exact absurd q (h u v hu hv)
abbrev spRise (CJ : Addr) : Pre := preF (fun (a : Nat × (Nat → Nat → Nat) × Ms) => [jo CJ a.1 a.2.1, .fdc (kdM a.2.2)]) (fun a => Jn a.1 a.2.1 ∧ MsOk a.1 a.2.1 a.2.2) (fun _ => .non)
theorem ok_check_rise (T : Top K mg CJ CA CP) : Has P w K mg base CX0 6 "_check_rise" ["joins", "maps"] (mkSp K (spRise CJ)) := by
  refine has_of T.d_check_rise sc_check_rise (lenF fun _ => rfl) ?_
  intro f0 cdv A outer s H E hr
  have z_sorted := T.z_sorted
  have h_first_fall := ok_first_fall (P := P) (w := w) (base := base) T
  refine ⟨_, (pss_one (ps_for PassesOwn.never rfl (pi_list (pe_callB (call_sortKS rfl (hu100 hr)) (by rfl) z_sorted (by decide +kernel) (pa_cons (pv 1) pa_nil))) (pgn 2 sc_check_rise.nd)
       (pss_cons (pset 3 sc_check_rise.nd (pe_has h_first_fall (hr.mono (by decide)) (by rfl) pass0 (pa_cons (pv 0) (pa_cons (pe_dget (hu1 hr) (pv 1) (pv 2) (fun _ _ => rfl)) pa_nil))))
       (pss_one (ps_if (pt_cmpR op_notN (pv 3) pe_non (nomark _))
       (pss_one ps_never)
       pss_nil))))), ?_⟩
  rintro _ _ _ _ ⟨⟨n, f, ms⟩, rfl, ⟨J, M⟩, rfl, rfl, rfl⟩
  dsimp only at J M
  walk_at "go"
  walk_at "wp"
  rw [← sortM_keys, List.map_map]
  refine for_U (us := sortM ms) (g := fun p => Dt.str p.1) (fun i Δ' O' => Pin (∃ x2 x3, Δ' = [some (jo CJ n f), some (.fdc (kdM ms)), x2, x3] ∧ O' = [])) (pin ⟨_, _, rfl, rfl⟩) ?_ ?_
  · rintro i p _ _ hp ⟨x2, x3, rfl, rfl⟩
    have hm : p ∈ ms := (sortM_perm ms).mem_iff.mp (List.mem_of_getElem? hp)
    have hl := look_kdM M.nd hm
    walk_at "w1"
    walk_at "w1"
    refine wv_callR (wa_cons (wv_var rfl (wa_cons (wv_dget (wv_var rfl (wv_var rfl ⟨_, .inr p.1, _, do_fdc, rfl, hl, wa_nil ⟨(n, f, p.2), rfl, M.ok J hm, fun d hd => ?_⟩⟩))))))
    rw [no_fallM (M.rise p hm) hd]
    walk_at "wp"
    · intro h
      cases h
    · intro _
      walk_at "wp"
      exact pin ⟨_, _, rfl, rfl⟩
  · rintro _ _ ⟨x2, x3, rfl, rfl⟩
    exact ⟨rfl, rfl⟩
abbrev flAn (es : List Dt) : List (Str × Dt) := [("_joins", es.getD 0 .non), ("_maps", srt (es.getD 1 .non)), ("_begin", es.getD 2 .non)]
abbrev preAn (CJ CA : Addr) : Pre := preI CA (fun es => ∃ n f ms, ∃ b : Nat, es = [jo CJ n f, .fdc (kdM ms), .int (b : Int)] ∧ Jn n f ∧ MsOk n f ms ∧ b < n) flAn
theorem flAn_an {CJ CA : Addr} {n : Nat} {f : Nat → Nat → Nat} {ms : Ms} {b : Nat} : Dt.obj CA (flAn [jo CJ n f, .fdc (kdM ms), .int (b : Int)]) = an CJ CA n f (sortM ms) b := by
  unfold an
  rw [← sortK_kd]
  rfl
theorem ok_Analysis (T : Top K mg CJ CA CP) : HasK P w K mg base CX0 7 CA "Analysis" 2 ["begin"] ["self", "joins", "maps", "begin"] [.int 0] (mkSp K (preAn CJ CA)) := by
  refine hasK_of T.i_Analysis sc_Analysis___init__ ?_ ?_
  · rintro ds O Φ Ψ ⟨x, es, rfl, ⟨n, f, ms, b, rfl, _⟩, _⟩
    rfl
  intro f cdv A outer s H E hr
  have z_isinstance := T.z_isinstance
  have z_len := T.z_len
  have z_list := T.z_list
  have z_sorted := T.z_sorted
  have gc_Joins := T.gc_Joins
  have cl_Joins := T.cl_Joins
  have h_is_number := ok_is_number (P := P) (w := w) (base := base) T
  have h_are_maps := ok_are_maps (P := P) (w := w) (base := base) T
  have h_check_rise := ok_check_rise (P := P) (w := w) (base := base) T
  have m_Joins___len__ := ok_len (P := P) (w := w) (base := base) T
  refine ⟨_, (pss_cons (ps_if (pt_not (pt_val (pe_callB call_isi (by rfl) z_isinstance (by decide +kernel) (pa_cons (pv 1) (pa_cons (pe_glob (v := .ref _) (by rfl) gc_Joins rfl) pa_nil)))))
       (pss_one ps_never)
       pss_nil)
       (pss_cons (ps_if (pt_not (pt_val (pe_has h_are_maps (hr.mono (by decide)) (by rfl) pass0 (pa_cons (pe_callB (call_lenI m_Joins___len__ (hr.mono (by decide)) pass0) (by rfl) z_len (by decide +kernel) (pa_cons (pv 1) pa_nil)) (pa_cons (pv 2) pa_nil)))))
       (pss_one ps_never)
       pss_nil)
       (pss_cons (ps_if (pt_not (pt_val (pe_has h_is_number (hr.mono (by decide)) (by rfl) pass0 (pa_cons (pe_callB (call_lenI m_Joins___len__ (hr.mono (by decide)) pass0) (by rfl) z_len (by decide +kernel) (pa_cons (pv 1) pa_nil)) (pa_cons (pv 3) pa_nil)))))
       (pss_one ps_never)
       pss_nil)
       (pss_cons (ps_expr (pe_has h_check_rise (hr.mono (by decide)) (by rfl) pass0 (pa_cons (pv 1) (pa_cons (pv 2) pa_nil))))
       (pss_cons (ps_fld (pv 0) (pv 1) rfl)
       (pss_cons (ps_fld (pv 0) (pe_seal (pe_dc (own := [("name", 4)]) rfl sc_Analysis___init__.nd (pi_list (pe_callB (call_sortKS rfl (hu100 hr)) (by rfl) z_sorted (by decide +kernel) (pa_cons (pv 2) pa_nil))) (blkOk_by (own := [("name", 4)]) (N := ["self", "joins", "maps", "begin", "name"]) (sc := defScope s_Analysis___init__) (by decide +kernel)) (fun _ _ _ _ _ => (pgn 4 sc_Analysis___init__.nd)) (fun _ _ _ _ _ => pts_nil) (fun _ _ _ _ _ => (pv 4)) (fun _ _ _ _ _ => (pe_callTy (show CallR _ (.type "list") (fun xs H Q => ∃ p ys, xs = [.ref p] ∧ (SqL K H p ys ∨ SqT K H p ys) ∧ ∀ l, H l = none → Q (.ref l) (upd H l (.lst ys))) from call_list_of) (by rfl) z_list (by decide +kernel) (pa_cons (pe_dget (hu1 hr) (pv 2) (pv 4) (fun _ _ => rfl)) pa_nil))))) rfl)
       (pss_one (ps_fld (pv 0) (pv 3) rfl)))))))), ?_⟩
  rintro _ _ _ _ ⟨x, _, rfl, ⟨n, f, ms, b, rfl, J, M, hb⟩, rfl, rfl, rfl⟩
  have hn := J.few
  have ct := T.ct_Joins
  have cm := T.cm_Joins
  have hln : (0 : Int) ≤ (n : Int) ∧ (n : Int) < 9223372036854775808 := by omega
  walk_at "go"
  walk_at "wp"
  refine kc (cad_isiC (ty_obj ct) kit_self) ?_
  walk_at "wp"
  · intro h
    cases h
  intro _
  walk_at "wp"
  refine cad_lenF (n, f) rfl J hln ?_
  walk_at "wp"
  · intro h
    cases h
  intro _
  walk_at "wp"
  refine cad_lenF (n, f) rfl J hln ?_
  refine wa_cons (wv_var rfl (wa_nil ⟨_, _, rfl, ⟨rfl, _, rfl⟩, ?_⟩))
  have eN : (isInt (.int (b : Int)) && inRange (.int (n : Int)) (.int (b : Int))) = true := by simp [isInt, isiInt, isiBool, inRange]; omega
  rw [eN]
  walk_at "wp"
  · intro h
    cases h
  intro _
  walk_at "wp"
  refine sv_fld (i := 0) (fs := []) (d := jo CJ n f) T.cl_Analysis T.na_Analysis__joins (wv_var rfl ⟨rfl, rfl⟩) (wv_var rfl ⟨rfl, rfl⟩) rfl rfl (by simp) ?_
  refine wp_seq ?_
  refine sv_fld (i := 0) (d := .fdc (kdM (sortM ms))) T.cl_Analysis T.na_Analysis__maps ?_ (wv_var rfl ⟨rfl, rfl⟩) rfl rfl (by simp) ?_
  · refine wv_seal (wv_dc (wi_list (wv_cb (wa_cons (wv_var rfl (wa_nil (kcf_sortKS do_fdc (kd_keys _) ?_)))))))
    rw [← sortM_keys, List.map_map]
    refine ⟨_, rfl, ?_, pin ⟨_, sortM ms, fun p => Dt.str p.1, fun p => .inr p.1, fun p => mpD p.2, rfl, by simp, ?_, fun p hp => ?_, fun p hp => ?_, fun q => ⟨q, _, _, rfl, rfl, rfl, rfl⟩⟩⟩
    · rw [List.length_map, (sortM_perm ms).length_eq]; have := M.few; omega
    · have h2 : ((sortM ms).map (·.1)).Nodup := ((sortM_perm ms).map _).nodup_iff.mpr M.nd
      exact List.pairwise_map.mpr ((List.pairwise_map.mp h2).imp fun h e => h (Sum.inr.inj e))
    · exact wv_var rfl ⟨rfl, rfl⟩
    · have hl := look_kdM M.nd ((sortM_perm ms).mem_iff.mp hp)
      exact wv_cb (wa_cons (wv_dget (wv_var rfl (wv_var rfl ⟨_, .inr p.1, _, do_fdc, rfl, hl, wa_nil (kcf (cad_list so_lst) ⟨rfl, rfl⟩)⟩))))
  · refine sv_fld (i := 0) (d := .int (b : Int)) T.cl_Analysis T.na_Analysis__begin (wv_var rfl ⟨rfl, rfl⟩) (wv_var rfl ⟨rfl, rfl⟩) rfl rfl (by simp) ⟨trivial, ?_⟩
    rw [← sortK_kd]
    rfl
section
variable {E E' : XK} {Ψ : XPost} {O : Own} {Δ : Env_} {k : Dt → Own → Prop} {ts tk : TA}
theorem wv_an0 (h : EvA K E Ψ ts Δ O fun ds O1 => ∃ n f ms, ds = [jo CJ n f, .fdc (kdM ms)] ∧ Jn n f ∧ MsOk n f ms ∧ k (an CJ CA n f (sortM ms) 0) O1) : Ev K E Ψ (tMake CA (mkSp K (preAn CJ CA)) [.int 0] E' ts) Δ O k :=
  wv_makeI (h.imp fun ds O1 ⟨n, f, ms, e, J, M, q⟩ => by
    subst e
    refine ⟨⟨n, f, ms, 0, rfl, J, M, J.pos⟩, ?_⟩
    have : Dt.obj CA (flAn [jo CJ n f, .fdc (kdM ms), .int ((0 : Nat) : Int)]) = an CJ CA n f (sortM ms) 0 := flAn_an
    exact this ▸ q)
theorem wv_an (h : EvA K E Ψ ts Δ O fun ds O1 => ∃ n f ms, ds = [jo CJ n f, .fdc (kdM ms)] ∧ Jn n f ∧ MsOk n f ms ∧ EvA K E Ψ tk Δ O1 fun zs O2 => ∃ b : Nat, zs = [.int (b : Int)] ∧ b < n ∧ k (an CJ CA n f (sortM ms) b) O2) : Ev K E Ψ (tMakeK CA 2 1 (mkSp K (preAn CJ CA)) (fun vs zs => vs ++ zs) E' ts tk) Δ O k :=
  wv_makeK (h.imp fun ds O1 ⟨n, f, ms, e, J, M, q⟩ => by
    subst e
    refine ⟨rfl, q.imp fun zs O2 ⟨b, e, hb, q2⟩ => ?_⟩
    subst e
    refine ⟨rfl, ⟨n, f, ms, b, rfl, J, M, hb⟩, ?_⟩
    have : Dt.obj CA (flAn [jo CJ n f, .fdc (kdM ms), .int (b : Int)]) = an CJ CA n f (sortM ms) b := flAn_an
    exact this ▸ q2)
end
end
end
section
set_option maxRecDepth 100000
set_option maxHeartbeats 1000000
open PySem PySem.Spec PyProof.Rows L2 FF
open Evl (Ex)
section
variable {P : Program} {w : World} {K : PySem.W.Frag} {mg : Str → Option Value} {base : Heap} {CJ CA CP : Addr}
local macro_rules | `(tactic| walk_at "ca") => `(tactic| first | (with_reducible apply wv_cls) | ((with_reducible show MsOk _ _ _); assumption) | ((with_reducible show Jn _ _); assumption) | ((with_reducible refine' kc_lenR do_fdc ?_)) | (with_reducible refine' kcf_sortKS do_fdc (kd_keys _) ?_) | ((with_reducible apply wi_keysF)))
abbrev preMapOf (CJ CA : Addr) : Pre := preF (fun (a : Nat × (Nat → Nat → Nat) × Ms × Nat × (Str × List Nat)) => [an CJ CA a.1 a.2.1 a.2.2.1 a.2.2.2.1, .str a.2.2.2.2.1]) (fun a => AnOk a.1 a.2.1 a.2.2.1 a.2.2.2.1 ∧ a.2.2.2.2 ∈ a.2.2.1) (fun a => mpD a.2.2.2.2.2)
theorem ok_map_of (T : Top K mg CJ CA CP) : HasM P w K mg base CX0 1 CA "map_of" ["self", "name"] (mkSp K (preMapOf CJ CA)) := by
  refine hasM_of T.m_Analysis_map_of sc_Analysis_map_of (lenF fun _ => rfl) ?_
  intro f0 cdv A outer s H E hr
  have z_list := T.z_list
  have cl := T.cl_Analysis
  have na := T.na_Analysis__maps
  refine ⟨_, (pss_cons (ps_if (pt_cmp (pc_dnotin (hu1 hr) (pv 1) (pe_fld (pv 0) rfl)) (by rfl))
       (pss_one ps_never)
       pss_nil)
       (pss_one (ps_ret (pe_callTy call_list_of (by rfl) z_list (by decide +kernel) (pa_cons (pe_dget (hu1 hr) (pe_fld (pv 0) rfl) (pv 1) (fun _ _ => rfl)) pa_nil))))), ?_⟩
  rintro _ _ _ _ ⟨⟨n, f, ms, b, p⟩, rfl, ⟨N, hp⟩, rfl, rfl, rfl⟩
  dsimp only at N hp
  have hl := look_kdM N.mo.nd hp
  walk_at "go"
  try dsimp only
  refine wp_seq (wp_if (wt_B (wv_dnotin (wv_var rfl (wv_fld cl na (wv_var rfl ⟨_, _, rfl, rfl, _, .inr p.1, do_fdc, rfl, ?_⟩))))))
  rw [hl]
  refine ⟨_, rfl, ?_, ?_⟩
  · intro h
    cases h
  intro _
  refine wp_next ?_
  exact wp_ret (wv_cb (wa_cons (wv_dget (wv_fld cl na (wv_var rfl ⟨_, _, rfl, rfl, wv_var rfl ⟨_, .inr p.1, _, do_fdc, rfl, hl, wa_nil (kcf (cad_list so_lst) ⟨rfl, rfl⟩)⟩⟩)))))
/-- what a word does to a value -/
def mapAt (ms : Ms) (s : Str) : List Nat := ((ms.find? fun p => decide (p.1 = s)).map (·.2)).getD []
theorem mapAt_mem {ms : Ms} (nd : (ms.map (·.1)).Nodup) {p : Str × List Nat} (m : p ∈ ms) : mapAt ms p.1 = p.2 := by
  unfold mapAt
  induction ms with
  | nil => cases m
  | cons q ms ih =>
    rw [List.map_cons, List.nodup_cons] at nd
    rw [List.find?_cons]
    by_cases e : q.1 = p.1
    · have : q = p := by
        rcases List.mem_cons.mp m with h | h
        · exact h.symm
        · exact absurd (List.mem_map.mpr ⟨p, h, e.symm⟩) nd.1
      subst this
      simp
    · have hp : p ∈ ms := by
        rcases List.mem_cons.mp m with h | h
        · rw [h] at e; exact absurd rfl e
        · exact h
      simpa [e] using ih nd.2 hp
def run (ms : Ms) (b : Nat) (ws : List Str) : Nat := ws.foldl (fun v s => (mapAt ms s).getD v 0) b
theorem run_snoc {ms : Ms} {b : Nat} {ws : List Str} {s : Str} : run ms b (ws ++ [s]) = (mapAt ms s).getD (run ms b ws) 0 := by unfold run; rw [List.foldl_append]; rfl
theorem in_ms {ms : Ms} {s : Str} (h : s ∈ ms.map (·.1)) : ∃ vs, (s, vs) ∈ ms := by
  obtain ⟨p, hp, rfl⟩ := List.mem_map.mp h
  exact ⟨p.2, hp⟩
theorem run_lt {n : Nat} {f : Nat → Nat → Nat} {ms : Ms} (M : MsOk n f ms) : ∀ {ws : List Str} {b : Nat}, b < n → (∀ s ∈ ws, s ∈ ms.map (·.1)) → run ms b ws < n
  | [], b, h, _ => h
  | s :: ws, b, h, hw => by
    obtain ⟨vs, hm⟩ := in_ms (hw s (List.mem_cons_self ..))
    have e : mapAt ms s = vs := mapAt_mem M.nd hm
    show run ms ((mapAt ms s).getD b 0) ws < n
    rw [e]
    have h1 : vs.length = n := (M.mp _ hm).1
    have h2 : ∀ v ∈ vs, v < n := (M.mp _ hm).2
    exact run_lt M (getD_in (by omega) h2) fun t ht => hw t (List.mem_cons_of_mem _ ht)
abbrev wdD (ws : List Str) : Dt := .tup (ws.map .str)
abbrev DoA : Type := Nat × (Nat → Nat → Nat) × Ms × Nat × List Str × Option Nat
abbrev preDo (CJ CA : Addr) : Pre := preF (fun (a : DoA) => [an CJ CA a.1 a.2.1 a.2.2.1 a.2.2.2.1, wdD a.2.2.2.2.1, (match a.2.2.2.2.2 with | none => .non | some v => .int ((v : Nat) : Int))])
  (fun a => AnOk a.1 a.2.1 a.2.2.1 a.2.2.2.1 ∧ (∀ s ∈ a.2.2.2.2.1, s ∈ a.2.2.1.map (·.1)) ∧ ∀ v, a.2.2.2.2.2 = some v → v < a.1) (fun a => .int (run a.2.2.1 (a.2.2.2.2.2.getD a.2.2.2.1) a.2.2.2.2.1 : Nat))
theorem ok_do (T : Top K mg CJ CA CP) : HasMK P w K mg base CX0 2 CA "do" 1 ["value"] ["self", "word", "value"] [.non] (mkSp K (preDo CJ CA)) := by
  refine hasMK_of T.m_Analysis_do sc_Analysis_do (lenF fun _ => rfl) ?_
  intro f0 cdv A outer s H E hr
  have cl_Analysis := T.cl_Analysis
  have na := T.na_Analysis__begin
  have m_Analysis_map_of := ok_map_of (P := P) (w := w) (base := base) T
  refine ⟨_, (pss_cons (pset 3 sc_Analysis_do.nd (pe_ifExp (pt_cmpR op_isN (pv 2) pe_non (nomark _)) (pe_fld (pv 0) rfl) (pv 2)))
       (pss_cons (ps_for PassesOwn.never rfl (pi_tup (pv 1)) (pgn 4 sc_Analysis_do.nd)
       (pss_one (pset 3 sc_Analysis_do.nd (pe_ix ix_seq (pe_hasM (pv 0) cl_Analysis m_Analysis_map_of (hr.mono (by decide)) pass0 (pa_cons (pv 4) pa_nil)) (pv 3) (fun _ _ => rfl)))))
       (pss_one (ps_ret (pv 3))))), ?_⟩
  rintro _ _ _ _ ⟨⟨n, f, ms, b, ws, o⟩, rfl, ⟨N, hw, ho⟩, rfl, rfl, rfl⟩
  dsimp only at N hw ho
  have M := N.mo
  walk_at "go"
  try dsimp only
  have hb : o.getD b < n := by
    cases o with
    | none => exact N.bg
    | some v => exact ho v rfl
  refine sv_seq (M := fun Δ' O' => ∃ d, Δ' = [some (an CJ CA n f ms b), some (wdD ws), some d, some (.int (o.getD b : Nat)), none] ∧ O' = []) ?_ ?_
  · cases o with
    | none => walk_at "wp"
    | some v => walk_at "wp"
  · rintro _ _ ⟨d, rfl, rfl⟩
    walk_at "wp"
    refine for_U (us := ws) (g := .str) (fun i Δ' O' => Pin (∃ x4, Δ' = [some (an CJ CA n f ms b), some (wdD ws), some d, some (.int (run ms (o.getD b) (ws.take i) : Nat)), x4] ∧ O' = [])) (pin ⟨_, rfl, rfl⟩) ?_ ?_
    · rintro i s _ _ hs ⟨x4, rfl, rfl⟩
      obtain ⟨vs, hm⟩ := in_ms (hw s (List.mem_of_getElem? hs))
      have e : ws.take (i + 1) = ws.take i ++ [s] := by rw [List.take_add_one, hs]; rfl
      have h0 : run ms (o.getD b) (ws.take i) < n := run_lt M hb fun t ht => hw t (List.mem_of_mem_take ht)
      have h1 : vs.length = n := (M.mp _ hm).1
      have hg : (intsD vs)[run ms (o.getD b) (ws.take i)]? = some (.int ((vs.getD (run ms (o.getD b) (ws.take i)) 0 : Nat) : Int)) := map_get (getD_get (by omega))
      have e2 : mapAt ms s = vs := mapAt_mem M.nd hm
      refine wp_set (wv_op (wv_methP (wv_var rfl ⟨_, rfl, rfl, wa_cons (wv_var rfl (wa_nil ⟨(n, f, ms, b, (s, vs)), rfl, ⟨N, hm⟩, wv_var rfl (ko_ixN so_lst hg ?_)⟩))⟩)))
      refine pin ⟨some (.str s), ?_, rfl⟩
      rw [e, run_snoc, e2]
      rfl
    · rintro _ _ ⟨x4, rfl, rfl⟩
      rw [List.take_length]
      exact wp_ret (wv_var rfl ⟨rfl, rfl⟩)
end
end
section
set_option maxRecDepth 100000
set_option maxHeartbeats 1000000
open PySem PySem.Spec PyProof.Rows L2 FF
open Evl (Ex)
/-! edges, and what is reached -/
abbrev E3 : Type := Nat × Str × Nat
abbrev edD (e : E3) : Dt := .tup [.int (e.1 : Int), .str e.2.1, .int (e.2.2 : Int)]
def eK (e : E3) : List Key := [.inl (e.1 : Int), .inr e.2.1, .inl (e.2.2 : Int)]
theorem eK_inj {e d : E3} (h : eK e = eK d) : e = d := by
  obtain ⟨a, s, b⟩ := e
  obtain ⟨a', s', b'⟩ := d
  simp only [eK, List.cons.injEq, Sum.inl.injEq, Sum.inr.injEq, Int.ofNat_inj, and_true] at h
  simp [h.1, h.2.1, h.2.2]
theorem same_e (es : List E3) : SX.Same (es.map eK) := by
  refine ⟨fun k m => ?_, fun k m k' m' => ?_⟩
  · obtain ⟨e, _, rfl⟩ := List.mem_map.mp m
    simp [eK]
  · obtain ⟨e, _, rfl⟩ := List.mem_map.mp m
    obtain ⟨d, _, rfl⟩ := List.mem_map.mp m'
    rfl
theorem edges_of {mss : List (List Key)} {es : List E3} (h : ∀ k ∈ mss, k ∈ es.map eK) : ∃ es' : List E3, mss = es'.map eK := by
  induction mss with
  | nil => exact ⟨[], rfl⟩
  | cons k mss ih =>
    obtain ⟨es', rfl⟩ := ih fun x m => h x (List.mem_cons_of_mem _ m)
    obtain ⟨e, _, rfl⟩ := List.mem_map.mp (h k (List.mem_cons_self ..))
    exact ⟨e :: es', rfl⟩
theorem mem_eK {e : E3} {es : List E3} : eK e ∈ es.map eK ↔ e ∈ es := by
  constructor
  · intro m
    obtain ⟨d, md, hd⟩ := List.mem_map.mp m
    rw [← eK_inj hd]; exact md
  · exact fun m => List.mem_map.mpr ⟨e, m, rfl⟩
structure EsOk (n : Nat) (es : List E3) : Prop where
  few : es.length < 64
  ends : ∀ e ∈ es, e.1 < n ∧ e.2.2 < n
  nm : ∀ e ∈ es, nmOk e.2.1
/-- what comes of a set by going on -/
inductive RS (g : Nat → Nat → Prop) (S : Nat → Prop) : Nat → Prop
  | base {v : Nat} : S v → RS g S v
  | step {v t : Nat} : RS g S v → g v t → RS g S t
theorem RS.mono {g : Nat → Nat → Prop} {S S' : Nat → Prop} (h : ∀ v, S v → S' v) {v : Nat} (r : RS g S v) : RS g S' v := by
  induction r with
  | base a => exact .base (h _ a)
  | step _ b ih => exact .step ih b
theorem RS.lt {g : Nat → Nat → Prop} {S : Nat → Prop} {n : Nat} (h : ∀ v, S v → v < n) (hg : ∀ v t, g v t → t < n) {v : Nat} (r : RS g S v) : v < n := by
  cases r with
  | base a => exact h _ a
  | step _ b => exact hg _ _ b
/-- round by round -/
def Rd (g : Nat → Nat → Prop) (S : Nat → Prop) : Nat → Nat → Prop
  | 0, v => S v
  | k + 1, v => Rd g S k v ∨ ∃ u, Rd g S k u ∧ g u v
open Classical in
/-- the places with a property, ascending -/
noncomputable def plc (n : Nat) (p : Nat → Prop) : List Nat := (List.range n).filter fun v => decide (p v)
theorem mem_plc {n : Nat} {p : Nat → Prop} {v : Nat} : v ∈ plc n p ↔ v < n ∧ p v := by unfold plc; simp
theorem asc_plc {n : Nat} {p : Nat → Prop} : Asc ((plc n p).map fun (v : Nat) => (v : Int)) := by
  refine List.pairwise_map.mpr ?_
  exact (List.pairwise_lt_range.sublist List.filter_sublist).imp fun h => by omega
theorem plc_of {n : Nat} {p : Nat → Prop} {ms : List Int} (h : Asc ms) (m : ∀ z, z ∈ ms ↔ ∃ v : Nat, v < n ∧ p v ∧ z = (v : Int)) : ms.map Dt.int = intsD (plc n p) := by
  have e : ms = (plc n p).map fun (v : Nat) => (v : Int) := asc_ext h asc_plc fun z => by
    rw [m, List.mem_map]
    constructor
    · rintro ⟨v, h1, h2, rfl⟩; exact ⟨v, mem_plc.mpr ⟨h1, h2⟩, rfl⟩
    · rintro ⟨v, hv, rfl⟩; exact ⟨v, (mem_plc.mp hv).1, (mem_plc.mp hv).2, rfl⟩
  rw [e, List.map_map]
  rfl
end
section
set_option maxRecDepth 100000
set_option maxHeartbeats 1000000
open PySem PySem.Spec PyProof.Rows L2 FF
open Evl (Ex)
section
variable {P : Program} {w : World} {K : PySem.W.Frag} {mg : Str → Option Value} {base : Heap} {CJ CA CP : Addr}
theorem num_ok {n v : Nat} (h : v < n) : (isInt (.int (v : Int)) && inRange (.int (n : Int)) (.int (v : Int))) = true := by simp [isInt, isiInt, isiBool, inRange]; omega
section
variable {E E' : XK} {Ψ : XPost} {O : Own} {Δ : Env_} {k : Dt → Own → Prop} {ts : TA}
theorem wv_num (h : EvA K E Ψ ts Δ O fun ds O1 => ∃ n v : Nat, ds = [.int (n : Int), .int (v : Int)] ∧ v < n ∧ k (.bl true) O1) : Ev K E Ψ (tCall (mkSp K spNum) [] E' ts) Δ O k :=
  wv_call2 (h.imp fun ds O1 ⟨n, v, e, hv, q⟩ => ⟨_, _, e, ⟨rfl, _, rfl⟩, by rw [num_ok hv]; exact q⟩)
theorem wv_nm (h : EvA K E Ψ ts Δ O fun ds O1 => ∃ s : Str, ds = [.str s] ∧ nmOk s ∧ k (.bl true) O1) : Ev K E Ψ (tCall (mkSp K spName) [] E' ts) Δ O k :=
  wv_call1 (h.imp fun ds O1 ⟨s, e, hs, q⟩ => ⟨_, e, hs.1, by rw [hs.2.1]; exact q⟩)
end
local macro_rules | `(tactic| walk_at "ca") => `(tactic| first | (with_reducible apply wv_num) | (with_reducible apply wv_nm) | (with_reducible refine' ko (opd_ixI so_tup (by decide) rfl) ?_) | ((with_reducible show nmOk _); assumption))
abbrev spBegins : Pre := preF (fun (a : Nat × List Nat) => [.int (a.1 : Int), .lst (intsD a.2)]) (fun a => a.2 ≠ [] ∧ a.2.length ≤ 1000 ∧ ∀ v ∈ a.2, v < a.1) (fun _ => .bl true)
theorem ok_are_begins (T : Top K mg CJ CA CP) : Has P w K mg base CX0 3 "_are_begins" ["places", "thing"] (mkSp K spBegins) := by
  refine has_of T.d_are_begins sc_are_begins (lenF fun _ => rfl) ?_
  intro f0 cdv A outer s H E hr
  have z_isinstance := T.z_isinstance
  have z_list := T.z_list
  have z_len := T.z_len
  have z_all := T.z_all
  have h_is_number := ok_is_number (P := P) (w := w) (base := base) T
  refine ⟨_, (pss_cons (ps_if (PW.pt (pw_or (pt_not (pt_val (pe_callB call_isi (by rfl) z_isinstance (by decide +kernel) (pa_cons (pv 1) (pa_cons (pe_bltn (v := .ty "list") (u := .type "list") (by rfl) z_list (by decide +kernel) rfl) pa_nil))))) (pw_or1 (pt_cmpR (op_eqU (hu64 hr)) (pe_callB call_len (by rfl) z_len (by decide +kernel) (pa_cons (pv 1) pa_nil)) pe_int (nomark _)))))
       (pss_one (ps_ret pe_bl))
       pss_nil)
       (pss_one (ps_ret (pe_callB (cr_all rfl) (by rfl) z_all (by decide +kernel) (pa_cons (pe_lc (own := [("place", 2)]) rfl sc_are_begins.nd (pi_list (pv 1)) (blkOk_by (own := [("place", 2)]) (N := ["places", "thing", "place"]) (sc := defScope s_are_begins) (by decide +kernel)) (fun _ _ _ _ _ => (pgn 2 sc_are_begins.nd)) (fun _ _ _ _ _ => pts_nil) (fun _ _ _ _ _ => (pe_has h_is_number (hr.mono (by decide)) (by rfl) pass0 (pa_cons (pv 0) (pa_cons (pv 2) pa_nil))))) pa_nil))))), ?_⟩
  rintro _ _ _ _ ⟨⟨n, bs⟩, rfl, ⟨hne, hl, hb⟩, rfl, rfl, rfl⟩
  dsimp only at hne hl hb
  have hpos : 0 < bs.length := List.length_pos_iff.mpr hne
  walk_at "go"
  walk_at "wp"
  · intro h
    simp [isiList] at h
    exact absurd h hne
  · intro _
    walk_at "wp"
    refine lc_U (us := bs) (fun _ => .bl true) (by simp) (fun v hv => ?_) ?_
    · have := hb v hv
      walk_at "wp"
    · refine wa_nil (kc_all (us := bs) (c := fun _ => true) ?_)
      exact ⟨by simp, rfl⟩
abbrev spEdge : Pre := preF (fun (a : Nat × E3) => [.int (a.1 : Int), edD a.2]) (fun a => a.2.1 < a.1 ∧ a.2.2.2 < a.1 ∧ nmOk a.2.2.1) (fun _ => .bl true)
theorem ok_is_edge (T : Top K mg CJ CA CP) : Has P w K mg base CX0 3 "_is_edge" ["places", "thing"] (mkSp K spEdge) := by
  refine has_of T.d_is_edge sc_is_edge (lenF fun _ => rfl) ?_
  intro f0 cdv A outer s H E hr
  have z_isinstance := T.z_isinstance
  have z_tuple := T.z_tuple
  have z_len := T.z_len
  have h_is_number := ok_is_number (P := P) (w := w) (base := base) T
  have h_is_name := ok_is_name (P := P) (w := w) (base := base) T
  refine ⟨_, (pss_cons (ps_if (PW.pt (pw_or (pt_not (pt_val (pe_callB call_isi (by rfl) z_isinstance (by decide +kernel) (pa_cons (pv 1) (pa_cons (pe_bltn (v := .ty "tuple") (u := .type "tuple") (by rfl) z_tuple (by decide +kernel) rfl) pa_nil))))) (pw_or1 (pt_cmpR (op_neU (hu64 hr)) (pe_callB call_len (by rfl) z_len (by decide +kernel) (pa_cons (pv 1) pa_nil)) pe_int (nomark _)))))
       (pss_one (ps_ret pe_bl))
       pss_nil)
       (pss_one (ps_ret (pe_and (pe_has h_is_number (hr.mono (by decide)) (by rfl) pass0 (pa_cons (pv 0) (pa_cons (pe_ix ix_seq (pv 1) pe_int (fun _ _ => rfl)) pa_nil))) (pe_and (pe_has h_is_name (hr.mono (by decide)) (by rfl) pass0 (pa_cons (pe_ix ix_seq (pv 1) pe_int (fun _ _ => rfl)) pa_nil)) (pe_one (pe_has h_is_number (hr.mono (by decide)) (by rfl) pass0 (pa_cons (pv 0) (pa_cons (pe_ix ix_seq (pv 1) pe_int (fun _ _ => rfl)) pa_nil))))))))), ?_⟩
  rintro _ _ _ _ ⟨⟨n, m, s, t⟩, rfl, ⟨h1, h2, h3⟩, rfl, rfl, rfl⟩
  dsimp only at h1 h2 h3
  walk_at "go"
  walk_at "wp"
  · intro h
    simp [isiTup] at h
  · intro _
    walk_at "wp"
abbrev spEdges : Pre := preF (fun (a : Nat × List E3) => [.int (a.1 : Int), .lst (a.2.map edD)]) (fun a => a.2.length ≤ 1000 ∧ ∀ e ∈ a.2, e.1 < a.1 ∧ e.2.2 < a.1 ∧ nmOk e.2.1) (fun _ => .bl true)
theorem ok_are_edges (T : Top K mg CJ CA CP) : Has P w K mg base CX0 4 "_are_edges" ["places", "thing"] (mkSp K spEdges) := by
  refine has_of T.d_are_edges sc_are_edges (lenF fun _ => rfl) ?_
  intro f0 cdv A outer s H E hr
  have z_isinstance := T.z_isinstance
  have z_list := T.z_list
  have z_all := T.z_all
  have h_is_edge := ok_is_edge (P := P) (w := w) (base := base) T
  refine ⟨_, (pss_one (ps_ret (pe_and (pe_callB call_isi (by rfl) z_isinstance (by decide +kernel) (pa_cons (pv 1) (pa_cons (pe_bltn (v := .ty "list") (u := .type "list") (by rfl) z_list (by decide +kernel) rfl) pa_nil))) (pe_one (pe_callB (cr_all rfl) (by rfl) z_all (by decide +kernel) (pa_cons (pe_lc (own := [("edge", 2)]) rfl sc_are_edges.nd (pi_list (pv 1)) (blkOk_by (own := [("edge", 2)]) (N := ["places", "thing", "edge"]) (sc := defScope s_are_edges) (by decide +kernel)) (fun _ _ _ _ _ => (pgn 2 sc_are_edges.nd)) (fun _ _ _ _ _ => pts_nil) (fun _ _ _ _ _ => (pe_has h_is_edge (hr.mono (by decide)) (by rfl) pass0 (pa_cons (pv 0) (pa_cons (pv 2) pa_nil))))) pa_nil)))))), ?_⟩
  rintro _ _ _ _ ⟨⟨n, es⟩, rfl, ⟨hl, he⟩, rfl, rfl, rfl⟩
  dsimp only at hl he
  walk_at "go"
  walk_at "wp"
  refine lc_U (us := es) (fun _ => .bl true) (by simp) (fun e hm => ?_) ?_
  · have := he e hm
    exact wv_callP (wa_cons (wv_var rfl (wa_cons (wv_var rfl (wa_nil ⟨(n, e), rfl, this, rfl, rfl⟩)))))
  · refine wa_nil (kc_all (us := es) (c := fun _ => true) ?_)
    exact ⟨by simp [isiList], rfl⟩
end
end
section
set_option maxRecDepth 100000
set_option maxHeartbeats 1000000
open PySem PySem.Spec PyProof.Rows L2 FF
open Evl (Ex)
section
abbrev inR (es : List E3) (v : Nat) : List Dt := (es.filter fun e => decide (e.2.2 = v)).map fun e => Dt.tup [.int (e.1 : Int), .str e.2.1]
abbrev outR (es : List E3) (v : Nat) : List Dt := (es.filter fun e => decide (e.1 = v)).map fun e => Dt.tup [.str e.2.1, .int (e.2.2 : Int)]
abbrev rowsD (n : Nat) (f : Nat → List Dt) : List Dt := (List.range n).map fun v => Dt.lst (f v)
theorem in_snoc (es : List E3) (e : E3) (v : Nat) : inR (es ++ [e]) v = inR es v ++ if e.2.2 = v then [Dt.tup [.int (e.1 : Int), .str e.2.1]] else [] := by
  unfold inR
  rw [List.filter_append, List.map_append]
  by_cases h : e.2.2 = v <;> simp [h]
theorem out_snoc (es : List E3) (e : E3) (v : Nat) : outR (es ++ [e]) v = outR es v ++ if e.1 = v then [Dt.tup [.str e.2.1, .int (e.2.2 : Int)]] else [] := by
  unfold outR
  rw [List.filter_append, List.map_append]
  by_cases h : e.1 = v <;> simp [h]
theorem row_upd {n t : Nat} {f f' : Nat → List Dt} {x : Dt} {p : Addr} {rs : List (Addr × List Dt)} (hr : rs.map (·.2) = (List.range n).map f) (hx : rs[t]? = some (p, f t)) (h : ∀ v, f' v = f v ++ if t = v then [x] else []) : (rs.set t (p, f t ++ [x])).map (·.2) = (List.range n).map f' := by
  rw [List.map_set, hr]
  have htn : t < n := by
    have := (List.getElem?_eq_some_iff.mp hx).1
    have h2 := congrArg List.length hr
    simp at h2
    omega
  apply List.ext_getElem?
  intro j
  by_cases hj : t = j
  · subst hj
    rw [List.getElem?_set_self (by simpa using htn), rgm_get htn, h, if_pos rfl]
  · rw [List.getElem?_set_ne hj]
    by_cases hjn : j < n
    · rw [rgm_get hjn, rgm_get hjn, h, if_neg hj, List.append_nil]
    · rw [List.getElem?_eq_none (by simp; omega), List.getElem?_eq_none (by simp; omega)]
theorem row_of {n t : Nat} {f : Nat → List Dt} {rs : List (Addr × List Dt)} (hr : rs.map (·.2) = (List.range n).map f) (ht : t < n) : ∃ p, rs[t]? = some (p, f t) := by
  have h := congrArg (·[t]?) hr
  simp only [List.getElem?_map, rg_get ht] at h
  cases hh : rs[t]? with
  | none => rw [hh] at h; cases h
  | some r =>
    rw [hh] at h
    have : r.2 = f t := Option.some.inj h
    exact ⟨r.1, by rw [← this]⟩
theorem rows_lst {n : Nat} {f : Nat → List Dt} {rs : List (Addr × List Dt)} (hr : rs.map (·.2) = (List.range n).map f) : (rs.map fun p => Dt.lst p.2) = rowsD n f := by
  have := congrArg (List.map Dt.lst) hr
  rw [List.map_map, List.map_map] at this
  exact this
end
section
variable {P : Program} {w : World} {K : PySem.W.Frag} {mg : Str → Option Value} {base : Heap} {CJ CA CP : Addr}
abbrev spInto : Pre := preF (fun (a : Nat × List E3) => [.int (a.1 : Int), .lst (a.2.map edD)]) (fun a => a.1 ≤ 2000 ∧ a.2.length ≤ 1000 ∧ ∀ e ∈ a.2, e.1 < a.1 ∧ e.2.2 < a.1) (fun a => .lst (rowsD a.1 (inR a.2)))
abbrev spOut : Pre := preF (fun (a : Nat × List E3) => [.int (a.1 : Int), .lst (a.2.map edD)]) (fun a => a.1 ≤ 2000 ∧ a.2.length ≤ 1000 ∧ ∀ e ∈ a.2, e.1 < a.1 ∧ e.2.2 < a.1) (fun a => .lst (rowsD a.1 (outR a.2)))
theorem ok_rows_into (T : Top K mg CJ CA CP) : Has P w K mg base CX0 1 "_rows_into" ["places", "edges"] (mkSp K spInto) := by
  refine has_of T.d_rows_into sc_rows_into (lenF fun _ => rfl) ?_
  intro f0 cdv A outer s H E hr
  have z_range := T.z_range
  refine ⟨_, (pss_cons (ps_setLc (i := 2) (own := [("_", 6)]) rfl sc_rows_into.nd rfl rfl (sw_true rfl rfl rfl (by decide +kernel)) (pi_range1 rfl z_range (pa_cons (pv 0) pa_nil)) (blkOk_by (own := [("_", 6)]) (N := ["places", "edges", "rows", "m", "s", "n", "_"]) (sc := defScope s_rows_into) (by decide +kernel)) (fun _ _ _ _ _ => (pgn 6 sc_rows_into.nd)) (fun _ _ _ _ _ => pts_nil) (fun _ _ _ _ _ => (pe_lst pa_nil)))
       (pss_cons (ps_for PassesOwn.never rfl (pi_list (pv 1)) (show PG _ _ (gTup K 3 (gCons (gName 3) (gCons (gName 4) (gCons (gName 5) gNil)))) from (pg_tup rfl (pgs_cons (pgn 3 sc_rows_into.nd) (pgs_cons (pgn 4 sc_rows_into.nd) (pgs_cons (pgn 5 sc_rows_into.nd) pgs_nil)))))
       (pss_one (ps_expr (pe_bm PySem.F.plainAttrs_list PySem.F.slot_list_append PySem.F.type_list_append mt_append (pe_ix ix_seq (pv 2) (pv 5) (fun _ _ => rfl)) (pa_cons (pe_tup (pa_cons (pv 3) (pa_cons (pv 4) pa_nil))) pa_nil)))))
       (pss_one (ps_ret (pv 2))))), ?_⟩
  rintro _ _ _ _ ⟨⟨n, es⟩, rfl, ⟨hn, hl, he⟩, rfl, rfl, rfl⟩
  dsimp only at hn hl he
  walk_at "go"
  try dsimp only
  refine wp_seq (wp_set (wv_lcO ?_))
  walk_at "wp"
  refine pin ⟨Nat, List.range n, fun i => .int (i : Int), fun _ => [], by rw [Int.toNat_natCast], by simp, fun u hu => ev_lstN ea_nil (by simp), fun q rs hrs => ?_⟩
  walk_at "wp"
  refine for_U3 (us := es) (a := fun e => .int (e.1 : Int)) (b := fun e => .str e.2.1) (d := fun e => .int (e.2.2 : Int)) (fun i Δ' O' => Pin (∃ x3 x4 x5 x6 rs, Δ' = [some (.int n), some (.lst (es.map edD)), some (.ref q), x3, x4, x5, x6] ∧ O' = (q, .lst (refsD rs)) :: (rowO rs ++ []) ∧ rs.map (·.2) = (List.range n).map (inR (es.take i)))) (pin ⟨_, _, _, _, rs, rfl, rfl, by rw [hrs]; simp⟩) ?_ ?_
  · rintro i e _ _ hu ⟨x3, x4, x5, x6, rs, rfl, rfl, hr2⟩
    have hm := he e (List.mem_of_getElem? hu)
    obtain ⟨p, hp⟩ := row_of hr2 hm.2
    obtain ⟨h1, h2⟩ := rows_at (q := q) (R := []) hp
    have et : es.take (i + 1) = es.take i ++ [e] := by rw [List.take_add_one, hu]; rfl
    have hlen : (inR (es.take i) e.2.2).length < 100000 := by
      have h3 : (inR (es.take i) e.2.2).length ≤ (es.take i).length := by unfold inR; rw [List.length_map]; exact List.length_filter_le ..
      rw [List.length_take] at h3
      omega
    refine wp_drop (wv_bm (wv_op (wv_var rfl (wv_var rfl (ko_ixN (so_own (List.mem_cons_self ..)) h2 ⟨p, _, rfl, List.mem_of_getElem? h1, wa_cons (wv_tup (wa_cons (wv_var rfl (wa_cons (wv_var rfl (wa_nil ⟨by simp, wa_nil (kb (bmd_append h1 hlen) ?_)⟩))))))⟩)))))
    refine pin ⟨_, _, _, _, rs.set e.2.2 (p, inR (es.take i) e.2.2 ++ [.tup [.int (e.1 : Int), .str e.2.1]]), rfl, rows_set hp, ?_⟩
    rw [et]
    exact row_upd hr2 hp fun v => in_snoc _ _ _
  · rintro _ _ ⟨x3, x4, x5, x6, rs, rfl, rfl, hr2⟩
    rw [List.take_length] at hr2
    refine wp_ret (wv_frzRows (wv_var rfl ⟨q, rs, [], rfl, rfl, ?_⟩))
    rw [rows_lst hr2]
    exact ⟨rfl, rfl⟩
theorem ok_rows_out (T : Top K mg CJ CA CP) : Has P w K mg base CX0 1 "_rows_out" ["places", "edges"] (mkSp K spOut) := by
  refine has_of T.d_rows_out sc_rows_out (lenF fun _ => rfl) ?_
  intro f0 cdv A outer s H E hr
  have z_range := T.z_range
  refine ⟨_, (pss_cons (ps_setLc (i := 2) (own := [("_", 6)]) rfl sc_rows_out.nd rfl rfl (sw_true rfl rfl rfl (by decide +kernel)) (pi_range1 rfl z_range (pa_cons (pv 0) pa_nil)) (blkOk_by (own := [("_", 6)]) (N := ["places", "edges", "rows", "m", "s", "n", "_"]) (sc := defScope s_rows_out) (by decide +kernel)) (fun _ _ _ _ _ => (pgn 6 sc_rows_out.nd)) (fun _ _ _ _ _ => pts_nil) (fun _ _ _ _ _ => (pe_lst pa_nil)))
       (pss_cons (ps_for PassesOwn.never rfl (pi_list (pv 1)) (show PG _ _ (gTup K 3 (gCons (gName 3) (gCons (gName 4) (gCons (gName 5) gNil)))) from (pg_tup rfl (pgs_cons (pgn 3 sc_rows_out.nd) (pgs_cons (pgn 4 sc_rows_out.nd) (pgs_cons (pgn 5 sc_rows_out.nd) pgs_nil)))))
       (pss_one (ps_expr (pe_bm PySem.F.plainAttrs_list PySem.F.slot_list_append PySem.F.type_list_append mt_append (pe_ix ix_seq (pv 2) (pv 3) (fun _ _ => rfl)) (pa_cons (pe_tup (pa_cons (pv 4) (pa_cons (pv 5) pa_nil))) pa_nil)))))
       (pss_one (ps_ret (pv 2))))), ?_⟩
  rintro _ _ _ _ ⟨⟨n, es⟩, rfl, ⟨hn, hl, he⟩, rfl, rfl, rfl⟩
  dsimp only at hn hl he
  walk_at "go"
  try dsimp only
  refine wp_seq (wp_set (wv_lcO ?_))
  walk_at "wp"
  refine pin ⟨Nat, List.range n, fun i => .int (i : Int), fun _ => [], by rw [Int.toNat_natCast], by simp, fun u hu => ev_lstN ea_nil (by simp), fun q rs hrs => ?_⟩
  walk_at "wp"
  refine for_U3 (us := es) (a := fun e => .int (e.1 : Int)) (b := fun e => .str e.2.1) (d := fun e => .int (e.2.2 : Int)) (fun i Δ' O' => Pin (∃ x3 x4 x5 x6 rs, Δ' = [some (.int n), some (.lst (es.map edD)), some (.ref q), x3, x4, x5, x6] ∧ O' = (q, .lst (refsD rs)) :: (rowO rs ++ []) ∧ rs.map (·.2) = (List.range n).map (outR (es.take i)))) (pin ⟨_, _, _, _, rs, rfl, rfl, by rw [hrs]; simp⟩) ?_ ?_
  · rintro i e _ _ hu ⟨x3, x4, x5, x6, rs, rfl, rfl, hr2⟩
    have hm := he e (List.mem_of_getElem? hu)
    obtain ⟨p, hp⟩ := row_of hr2 hm.1
    obtain ⟨h1, h2⟩ := rows_at (q := q) (R := []) hp
    have et : es.take (i + 1) = es.take i ++ [e] := by rw [List.take_add_one, hu]; rfl
    have hlen : (outR (es.take i) e.1).length < 100000 := by
      have h3 : (outR (es.take i) e.1).length ≤ (es.take i).length := by unfold outR; rw [List.length_map]; exact List.length_filter_le ..
      rw [List.length_take] at h3
      omega
    refine wp_drop (wv_bm (wv_op (wv_var rfl (wv_var rfl (ko_ixN (so_own (List.mem_cons_self ..)) h2 ⟨p, _, rfl, List.mem_of_getElem? h1, wa_cons (wv_tup (wa_cons (wv_var rfl (wa_cons (wv_var rfl (wa_nil ⟨by simp, wa_nil (kb (bmd_append h1 hlen) ?_)⟩))))))⟩)))))
    refine pin ⟨_, _, _, _, rs.set e.1 (p, outR (es.take i) e.1 ++ [.tup [.str e.2.1, .int (e.2.2 : Int)]]), rfl, rows_set hp, ?_⟩
    rw [et]
    exact row_upd hr2 hp fun v => out_snoc _ _ _
  · rintro _ _ ⟨x3, x4, x5, x6, rs, rfl, rfl, hr2⟩
    rw [List.take_length] at hr2
    refine wp_ret (wv_frzRows (wv_var rfl ⟨q, rs, [], rfl, rfl, ?_⟩))
    rw [rows_lst hr2]
    exact ⟨rfl, rfl⟩
end
end
section
set_option maxRecDepth 100000
set_option maxHeartbeats 1000000
open PySem PySem.Spec PyProof.Rows L2 FF
open Evl (Ex)
section
theorem asc_sort {us : List Int} (h : us.Nodup) : Asc (us.mergeSort fun a b => decide (a ≤ b)) ∧ ∀ z, z ∈ (us.mergeSort fun a b => decide (a ≤ b)) ↔ z ∈ us := by
  have pw := List.pairwise_mergeSort (le := fun a b : Int => decide (a ≤ b)) (fun a b c h1 h2 => by simp at *; omega) (fun a b => by simp; omega) us
  have pm := List.mergeSort_perm us fun a b : Int => decide (a ≤ b)
  have nd := pm.nodup_iff.mpr h
  refine ⟨?_, fun z => pm.mem_iff⟩
  exact (pw.and nd).imp fun h => by
    have h1 := h.1
    have h2 := h.2
    simp at h1
    omega
abbrev ci (vs : List Nat) : List Int := vs.map fun (v : Nat) => (v : Int)
theorem ci_d (vs : List Nat) : (ci vs).map Dt.int = intsD vs := by rw [List.map_map]; rfl
theorem mem_ci {vs : List Nat} {v : Nat} : (v : Int) ∈ ci vs ↔ v ∈ vs := by
  simp [ci, Int.ofNat_inj]
theorem ci_nd {vs : List Nat} (h : vs.Nodup) : (ci vs).Nodup := List.pairwise_map.mpr (h.imp fun h e => h (Int.ofNat_inj.mp e))
theorem putN_ci {vs : List Nat} {v : Nat} (h : v ∉ vs) : putN (ci vs) (v : Int) = ci (vs ++ [v]) := by
  unfold putN
  rw [if_neg (fun z => h (mem_ci.mp z))]
  simp [ci]
/-- what holds while the spreading goes on; done: those whose own ones are all found -/
structure Spr (n : Nat) (g : Nat → List Nat) (ss fs ws : List Nat) (ex : Nat → Prop) : Prop where
  nd : fs.Nodup
  lt : ∀ v ∈ fs, v < n
  rs : ∀ v ∈ fs, RS (fun v t => t ∈ g v) (fun v => v ∈ ss) v
  st : ∀ s ∈ ss, s ∈ fs
  sub : ∀ w ∈ ws, w ∈ fs
  cl : ∀ v ∈ fs, v ∈ ws ∨ ex v ∨ ∀ t ∈ g v, t ∈ fs
theorem Spr.few {n : Nat} {g : Nat → List Nat} {ss fs ws : List Nat} {ex : Nat → Prop} (h : Spr n g ss fs ws ex) : fs.length ≤ n := nat_few n fs h.nd h.lt
theorem Spr.all {n : Nat} {g : Nat → List Nat} {ss fs : List Nat} (h : Spr n g ss fs [] fun _ => False) (v : Nat) : v ∈ fs ↔ RS (fun v t => t ∈ g v) (fun v => v ∈ ss) v := by
  refine ⟨h.rs v, fun r => ?_⟩
  induction r with
  | base a => exact h.st _ a
  | @step v t _ b ih =>
    rcases h.cl v ih with z | z | z
    · cases z
    · exact z.elim
    · exact z t b
end
end
section
set_option maxRecDepth 100000
set_option maxHeartbeats 1000000
open PySem PySem.Spec PyProof.Rows L2 FF
open Evl (Ex)
section
theorem nd_len {α : Type} [DecidableEq α] {xs ys : List α} (h : xs.Nodup) (s : ∀ x ∈ xs, x ∈ ys) : xs.length ≤ ys.length := by
  induction xs generalizing ys with
  | nil => simp
  | cons a xs ih =>
    have hm : a ∈ ys := s a (List.mem_cons_self ..)
    have := ih (List.nodup_cons.mp h).2 (ys := ys.erase a) fun x m => by
      have hx : x ≠ a := fun e => by subst e; exact (List.nodup_cons.mp h).1 m
      exact (List.mem_erase_of_ne hx).mpr (s x (List.mem_cons_of_mem _ m))
    rw [List.length_erase_of_mem hm] at this
    have := List.length_pos_of_mem hm
    simp
    omega
structure PrOk (n : Nat) (bs : List Nat) (es : List E3) : Prop where
  pos : 1 ≤ n
  few : n ≤ 2000
  ne : bs ≠ []
  asc : Asc (ci bs)
  lt : ∀ v ∈ bs, v < n
  eo : EsOk n es
  nd : es.Nodup
  rise : RiseT (es.map eK)
abbrev prF (n : Nat) (bs : List Nat) (es : List E3) : List (Str × Dt) := [("_places", .int (n : Int)), ("_begins", .lst (intsD bs)), ("_edges", .lst (es.map edD)), ("_into", .lst (rowsD n (inR es))), ("_out", .lst (rowsD n (outR es)))]
abbrev prD (CP : Addr) (n : Nat) (bs : List Nat) (es : List E3) : Dt := .obj CP (prF n bs es)
theorem plc_asc {n : Nat} {p : Nat → Prop} : Asc (ci (plc n p)) := asc_plc
theorem plc_self {n : Nat} {bs : List Nat} (h : Asc (ci bs)) (hl : ∀ v ∈ bs, v < n) : plc n (fun v => v ∈ bs) = bs := by
  have e := plc_of (n := n) (p := fun v => v ∈ bs) h fun z => by
    constructor
    · intro m
      obtain ⟨v, hv, rfl⟩ := List.mem_map.mp m
      exact ⟨v, hl v hv, hv, rfl⟩
    · rintro ⟨v, _, hv, rfl⟩
      exact mem_ci.mpr hv
  rw [ci_d] at e
  have inj : ∀ {xs ys : List Nat}, intsD xs = intsD ys → xs = ys := fun {xs ys} e => by
    have := congrArg (List.map fun d => match d with | Dt.int i => i.toNat | _ => 0) e
    simpa [intsD, List.map_map, Function.comp_def] using this
  exact (inj e).symm
end
section
variable {P : Program} {w : World} {K : PySem.W.Frag} {mg : Str → Option Value} {base : Heap} {CJ CA CP : Addr}
local macro_rules | `(tactic| walk_at "ca") => `(tactic| first | ((with_reducible show ∃ i, Dt.int _ = Dt.int i); assumption))
abbrev PrA : Type := Nat × List Nat × List E3
abbrev prArg (a : PrA) : List Dt := [.int (a.1 : Int), .lst (intsD a.2.1), .lst (a.2.2.map edD)]
def prIn (a : PrA) : Prop := 1 ≤ a.1 ∧ a.1 ≤ 2000 ∧ a.2.1 ≠ [] ∧ a.2.1.length < 64 ∧ (∀ v ∈ a.2.1, v < a.1) ∧ EsOk a.1 a.2.2
def prOut (a : PrA) (fs : List (Str × Dt)) : Prop := ∃ es, fs = prF a.1 (plc a.1 fun v => v ∈ a.2.1) es ∧ PrOk a.1 (plc a.1 fun v => v ∈ a.2.1) es ∧ ∀ e, e ∈ es ↔ e ∈ a.2.2
theorem ok_Program (T : Top K mg CJ CA CP) : HasI P w K mg base CX0 5 CP "Program" ["self", "places", "begins", "edges"] (mkSp K (preIT CP prArg prIn prOut)) := by
  refine hasI_of T.i_Program sc_Program___init__ ?_ ?_
  · rintro ds O Φ Ψ ⟨x, a, rfl, _⟩
    rfl
  intro f0 cdv A outer s H E hr
  have z_sorted := T.z_sorted
  have z_set := T.z_set
  obtain ⟨tl, g_MOST_PLACES⟩ := T.g_MOST_PLACES
  have h_is_number := ok_is_number (P := P) (w := w) (base := base) T
  have h_are_begins := ok_are_begins (P := P) (w := w) (base := base) T
  have h_are_edges := ok_are_edges (P := P) (w := w) (base := base) T
  have h_rows_into := ok_rows_into (P := P) (w := w) (base := base) T
  have h_rows_out := ok_rows_out (P := P) (w := w) (base := base) T
  refine ⟨_, (pss_cons (ps_if (PW.pt (pw_or (pt_not (pt_val (pe_has h_is_number (hr.mono (by decide)) (by rfl) pass0 (pa_cons (pe_op op_plus (pe_glob (v := .int 2000) (by rfl) g_MOST_PLACES ⟨_, rfl⟩) pe_int) (pa_cons (pv 1) pa_nil))))) (pw_or1 (pt_cmpR (op_eqU (hu64 hr)) (pv 1) pe_int (nomark _)))))
       (pss_one ps_never)
       pss_nil)
       (pss_cons (ps_if (pt_not (pt_val (pe_has h_are_begins (hr.mono (by decide)) (by rfl) pass0 (pa_cons (pv 1) (pa_cons (pv 2) pa_nil)))))
       (pss_one ps_never)
       pss_nil)
       (pss_cons (ps_if (pt_not (pt_val (pe_has h_are_edges (hr.mono (by decide)) (by rfl) pass0 (pa_cons (pv 1) (pa_cons (pv 3) pa_nil)))))
       (pss_one ps_never)
       pss_nil)
       (pss_cons (ps_fld (pv 0) (pv 1) rfl)
       (pss_cons (ps_fld (pv 0) (pe_callB (L2.cr_sortedSet rfl) (by rfl) z_sorted (by decide +kernel) (pa_cons (pe_callTy (call_setIL rfl (hu64 hr)) (by rfl) z_set (by decide +kernel) (pa_cons (pv 2) pa_nil)) pa_nil)) rfl)
       (pss_cons (ps_fld (pv 0) (pe_callB (SX.cr_sortQ rfl (hu100 hr)) (by rfl) z_sorted (by decide +kernel) (pa_cons (SX.pe_scQ (own := [("m", 4), ("s", 5), ("n", 6)]) rfl (hu10 hr) sc_Program___init__.nd (pi_list (pv 3)) (blkOk_by (own := [("m", 4), ("s", 5), ("n", 6)]) (N := ["self", "places", "begins", "edges", "m", "s", "n"]) (sc := defScope s_Program___init__) (by decide +kernel)) (fun _ _ _ _ _ => (show PG _ _ (gTup K 3 (gCons (gName 4) (gCons (gName 5) (gCons (gName 6) gNil)))) from (pg_tup rfl (pgs_cons (pgn 4 sc_Program___init__.nd) (pgs_cons (pgn 5 sc_Program___init__.nd) (pgs_cons (pgn 6 sc_Program___init__.nd) pgs_nil)))))) (fun _ _ _ _ _ => pts_nil) (fun _ _ _ _ _ => (pe_tup (pa_cons (pv 4) (pa_cons (pv 5) (pa_cons (pv 6) pa_nil)))))) pa_nil)) rfl)
       (pss_cons (ps_fld (pv 0) (pe_has h_rows_into (hr.mono (by decide)) (by rfl) pass0 (pa_cons (pv 1) (pa_cons (pe_fld (pv 0) rfl) pa_nil))) rfl)
       (pss_one (ps_fld (pv 0) (pe_has h_rows_out (hr.mono (by decide)) (by rfl) pass0 (pa_cons (pv 1) (pa_cons (pe_fld (pv 0) rfl) pa_nil))) rfl))))))))), ?_⟩
  rintro _ _ _ _ ⟨x, ⟨n, bs, es⟩, rfl, ⟨hp, hn, hne, hbl, hb, he⟩, rfl, rfl, rfl⟩
  dsimp only at hp hn hne hbl hb he
  have hel := he.few
  walk_at "go"
  try dsimp only
  have eN : (isInt (.int (n : Int)) && inRange (.int (2000 + 1 : Int)) (.int (n : Int))) = true := by simp [isInt, isiInt, isiBool, inRange]; omega
  have cl := T.cl_Program
  have hi0 : ∃ i, Dt.int (2000 + 1) = Dt.int i := ⟨_, rfl⟩
  have hb1 : bs.length ≤ 1000 := by omega
  have he1 : es.length ≤ 1000 := by omega
  have he2 : ∀ e ∈ es, e.1 < n ∧ e.2.2 < n ∧ nmOk e.2.1 := fun e m => ⟨(he.ends e m).1, (he.ends e m).2, he.nm e m⟩
  walk_at "wp"
  · intro h
    rw [eN] at h
    simp at h
    omega
  intro _
  walk_at "wp"
  · exact hb
  · intro h
    cases h
  intro _
  walk_at "wp"
  · exact he2
  · intro h
    cases h
  intro _
  walk_at "wp"
  refine sv_fld (i := 0) (fs := []) (d := .int (n : Int)) cl T.na_Program__places (wv_var rfl ⟨rfl, rfl⟩) (wv_var rfl ⟨rfl, rfl⟩) rfl rfl (by simp) (wp_seq ?_)
  refine sv_fld (i := 0) (d := .lst (intsD (plc n fun v => v ∈ bs))) cl T.na_Program__begins ?_ (wv_var rfl ⟨rfl, rfl⟩) rfl rfl (by simp) (wp_seq ?_)
  · refine wv_sortsetL (ns := ci bs) (wa_cons (wv_var rfl (wa_nil ⟨_, rfl, lo_lst, rfl⟩))) (ci_d bs).symm (by rw [List.length_map]; exact hbl) fun ms h1 h2 => ?_
    refine ⟨congrArg Dt.lst (plc_of h1 fun z => ?_), rfl⟩
    rw [h2]
    constructor
    · intro m
      obtain ⟨v, hv, rfl⟩ := List.mem_map.mp m
      exact ⟨v, hb v hv, hv, rfl⟩
    · rintro ⟨v, _, hv, rfl⟩
      exact mem_ci.mpr hv
  refine sv_fldG (i := 0) (p := x) (Θ := fun d O1 => ∃ es2 : List E3, d = .lst (es2.map edD) ∧ O1 = [(x, .ins CP [("_places", .int (n : Int)), ("_begins", .lst (intsD (plc n fun v => v ∈ bs)))])] ∧ es2.Nodup ∧ (∀ e, e ∈ es2 ↔ e ∈ es) ∧ RiseT (es2.map eK)) cl T.na_Program__edges ?_ ?_
  · refine wv_sortScQ (wi_list (wv_var rfl ⟨_, rfl, pin ⟨E3, es, fun e => edD e, [4, 5, 6], fun e Δ => ((Δ.set 4 (some (.int (e.1 : Int)))).set 5 (some (.str e.2.1))).set 6 (some (.int (e.2.2 : Int))), eK, rfl, hel, fun u _ => gv_three, by simp, same_e es, fun u hu => ?_, fun mss h1 h2 h3 => ?_⟩⟩))
    · exact wv_tup (wa_cons (wv_var rfl (wa_cons (wv_var rfl (wa_cons (wv_var rfl (wa_nil ⟨by simp, rfl, rfl⟩)))))))
    · obtain ⟨es2, rfl⟩ := edges_of fun k m => (h2 k).mp m
      refine ⟨es2, by rw [List.map_map]; rfl, rfl, ?_, fun e => ?_, h3⟩
      · exact (List.pairwise_map.mp h1).imp fun h e => h (by rw [e])
      · rw [← mem_eK, h2, mem_eK]
  rintro d O1 ⟨es2, rfl, rfl, nd2, hm2, hr2⟩
  have eo2 : EsOk n es2 := ⟨by
    have h1 : es2.length ≤ es.length := (nd_len nd2 fun e m => (hm2 e).mp m)
    omega, fun e m => he.ends e ((hm2 e).mp m), fun e m => he.nm e ((hm2 e).mp m)⟩
  refine ⟨wv_var rfl ⟨rfl, rfl⟩, _, rfl, rfl, by simp, wp_seq ?_⟩
  have he3 : es2.length ≤ 1000 ∧ ∀ e ∈ es2, e.1 < n ∧ e.2.2 < n := ⟨by have := eo2.few; omega, fun e m => eo2.ends e m⟩
  refine sv_fld (i := 0) (d := .lst (rowsD n (inR es2))) cl T.na_Program__into ?_ (wv_var rfl ⟨rfl, rfl⟩) rfl rfl (by simp) ?_
  · exact wv_callP (wa_cons (wv_var rfl (wa_cons (wv_fldO cl T.na_Program__edges (wv_var rfl ⟨x, _, _, rfl, List.mem_cons_self .., rfl, wa_nil ⟨(n, es2), rfl, ⟨hn, he3.1, he3.2⟩, rfl, rfl⟩⟩)))))
  refine sv_fld (i := 0) (d := .lst (rowsD n (outR es2))) cl T.na_Program__out ?_ (wv_var rfl ⟨rfl, rfl⟩) rfl rfl (by simp) ⟨trivial, prF n (plc n fun v => v ∈ bs) es2, ⟨es2, rfl, ?_, hm2⟩, rfl⟩
  · exact wv_callP (wa_cons (wv_var rfl (wa_cons (wv_fldO cl T.na_Program__edges (wv_var rfl ⟨x, _, _, rfl, List.mem_cons_self .., rfl, wa_nil ⟨(n, es2), rfl, ⟨hn, he3.1, he3.2⟩, rfl, rfl⟩⟩)))))
  refine ⟨hp, hn, fun z => ?_, plc_asc, fun v m => (mem_plc.mp m).1, eo2, nd2, hr2⟩
  obtain ⟨v, hv⟩ := List.exists_mem_of_ne_nil _ hne
  have : v ∈ plc n fun v => v ∈ bs := mem_plc.mpr ⟨hb v hv, hv⟩
  rw [z] at this
  cases this
end
end
section
set_option maxRecDepth 100000
set_option maxHeartbeats 1000000
open PySem PySem.Spec PyProof.Rows L2 FF
open Evl (Ex)
section
variable {P : Program} {w : World} {K : PySem.W.Frag} {mg : Str → Option Value} {base : Heap} {CJ CA CP : Addr}
local macro_rules | `(tactic| walk_at "ca") => `(tactic| first | (with_reducible apply wv_cls) | ((with_reducible show MsOk _ _ _); assumption) | ((with_reducible show Jn _ _); assumption) | ((with_reducible show NsOk _ _); assumption) | (with_reducible refine' kcf_sortKS do_fdc (kd_keys _) ?_))
theorem kd_pairs (ms : Ms) : ((kdM ms).map fun w => Dt.tup [keyD w.1, w.2]) = ms.map fun p => Dt.tup [.str p.1, mpD p.2] := by rw [List.map_map]; rfl
theorem kd_nd {ms : Ms} (h : (ms.map (·.1)).Nodup) : ((kdM ms).map (·.1)).Nodup := by
  rw [kd_keys]
  exact List.pairwise_map.mpr (h.imp fun h e => h (Sum.inr.inj e))
abbrev preMaps : Pre := preD (fun (a : Nat × (Nat → Nat → Nat) × List Str) => [.lst (tab a.1 a.2.1), .lst (a.2.2.map .str)]) (fun a => Jn a.1 a.2.1 ∧ NsOk 6 a.2.2) (fun a d => ∃ ms : Ms, d = .fdc (kdM ms) ∧ MsOk a.1 a.2.1 ms ∧ ms.map (·.1) = a.2.2)
theorem ok_l_maps (T : Top K mg CJ CA CP) : HasG P w K mg base CX0 3 "_law_maps" ["_law_bag_here", "_law_rows_here", "_law_names_here"] (mkSp K preMaps) := by
  refine hasG_of T.d_l_maps sc_l_maps (lenD fun _ => rfl) ?_
  intro f0 cdv A outer s H E g hr
  have z_dict := T.z_dict
  have h_l_map := ok_l_map (P := P) (w := w) (base := base) T
  refine ⟨_, (pss_one (ps_ret (pe_seal (pe_callTy (call_dicMk rfl) (by rfl) z_dict (by decide +kernel) (pa_cons (pe_lc (own := [("_law_name", 3)]) rfl sc_l_maps.nd (pi_list (pv 2)) (blkOk_by (own := [("_law_name", 3)]) (N := ["_law_bag_here", "_law_rows_here", "_law_names_here", "_law_name"]) (sc := defScope s_l_maps) (by decide +kernel)) (fun _ _ _ _ _ => (pgn 3 sc_l_maps.nd)) (fun _ _ _ _ _ => pts_nil) (fun _ _ _ _ _ => (pe_tup (pa_cons (pv 3) (pa_cons (pe_hasG h_l_map g (hr.mono (by decide)) (by rfl) pass0 (pa_cons (pv 0) (pa_cons (pv 1) pa_nil))) pa_nil))))) pa_nil))))), ?_⟩
  rintro _ _ _ _ ⟨b, ⟨n, f, ns⟩, rfl, ⟨J, N⟩, rfl, rfl, rfl⟩
  dsimp only at J N
  have hfew := N.few
  walk_at "go"
  try dsimp only
  refine wp_ret (wv_seal (wv_cb (wa_cons (wv_lc (wi_list (wv_var rfl ⟨_, rfl, by rw [List.length_map]; omega, ?_⟩))))))
  refine lc_P (fun (p : Str × List Nat) => .tup [.str p.1, mpD p.2]) (fun s p => p.1 = s ∧ p.2.length = n ∧ (∀ v ∈ p.2, v < n) ∧ ∀ u v, u < n → v < n → ¬ QF f p.2 u v) (by simp) (fun s hs => ?_) ?_
  · refine wv_tup (wa_cons (wv_var rfl (wa_cons (wv_callD ?_))))
    refine wa_cons (wv_var rfl (wa_cons (wv_var rfl (wa_nil ⟨b, (n, f), rfl, by simp, J, ?_⟩))))
    rintro _ ⟨vs, rfl, h1, h2, h3⟩
    exact wa_nil ⟨by simp, rfl, (s, vs), rfl, rfl, h1, h2, h3⟩
  · intro ms hms
    have e1 : ms.map (·.1) = ns := by
      clear N hfew
      induction hms with
      | nil => rfl
      | cons h _ ih => rw [List.map_cons, ih, h.1]
    have hall : ∀ p ∈ ms, p.2.length = n ∧ (∀ v ∈ p.2, v < n) ∧ ∀ u v, u < n → v < n → ¬ QF f p.2 u v := fun p hp => by
      obtain ⟨j, hj⟩ := List.getElem?_of_mem hp
      obtain ⟨_, _, h⟩ := Paired.getR hms hj
      exact h.2
    have M : MsOk n f ms := ⟨by rw [← List.length_map (f := (·.1)), e1]; exact hfew, by rw [e1]; exact N.nd, fun p hp => N.nm p.1 (by rw [← e1]; exact List.mem_map.mpr ⟨p, hp, rfl⟩), fun p hp => ⟨(hall p hp).1, (hall p hp).2.1⟩, fun p hp => (hall p hp).2.2⟩
    exact wa_nil (cad_dicMk lo_lst (kd_pairs ms).symm (kd_nd M.nd) fun p => ⟨p, _, _, rfl, rfl, ⟨ms, rfl, M, e1⟩, rfl⟩)
abbrev preAnl : Pre := preD (fun (m : Nat) => [.int (m : Int)]) (fun m => 1 ≤ m ∧ m ≤ 12) (fun m d => ∃ n f ms, ∃ b : Nat, d = .tup [.lst (tab n f), .fdc (kdM ms), .int (b : Int)] ∧ AnOk n f ms b ∧ n ≤ m)
theorem ok_l_analysis (T : Top K mg CJ CA CP) : HasG P w K mg base CX0 4 "_law_analysis" ["_law_bag_here", "_law_bound"] (mkSp K preAnl) := by
  refine hasG_of T.d_l_analysis sc_l_analysis (lenD fun _ => rfl) ?_
  intro f0 cdv A outer s H E g hr
  have z_int := T.z_int
  have z_len := T.z_len
  have h_l_take := ok_l_take (P := P) (w := w) (base := base) T
  have h_l_rows := ok_l_rows (P := P) (w := w) (base := base) T
  have h_l_names := ok_l_names (P := P) (w := w) (base := base) T
  have h_l_maps := ok_l_maps (P := P) (w := w) (base := base) T
  refine ⟨_, (pss_cons (pset 2 sc_l_analysis.nd (pe_hasG h_l_rows g (hr.mono (by decide)) (by rfl) pass0 (pa_cons (pv 0) (pa_cons (pv 1) pa_nil))))
       (pss_cons (pset 3 sc_l_analysis.nd (pe_hasG h_l_names g (hr.mono (by decide)) (by rfl) pass0 (pa_cons (pv 0) (pa_cons (pe_ix ix_seq (pe_lst (pa_cons (pe_hasG h_l_take g (hr.mono (by decide)) (by rfl) pass0 (pa_cons (pv 0) (pa_cons pe_int pa_nil))) (pa_cons (pe_hasG h_l_take g (hr.mono (by decide)) (by rfl) pass0 (pa_cons (pv 0) (pa_cons pe_int pa_nil))) pa_nil))) (pe_callTy call_int1 (by rfl) z_int (by decide +kernel) (pa_cons (pe_cmpR (op_eqU (hu64 hr)) (pe_hasG h_l_take g (hr.mono (by decide)) (by rfl) pass0 (pa_cons (pv 0) (pa_cons pe_int pa_nil))) pe_int (nomark _)) pa_nil)) (fun _ _ => rfl)) pa_nil))))
       (pss_one (ps_ret (pe_tup (pa_cons (pv 2) (pa_cons (pe_hasG h_l_maps g (hr.mono (by decide)) (by rfl) pass0 (pa_cons (pv 0) (pa_cons (pv 2) (pa_cons (pv 3) pa_nil)))) (pa_cons (pe_hasG h_l_take g (hr.mono (by decide)) (by rfl) pass0 (pa_cons (pv 0) (pa_cons (pe_callB call_len (by rfl) z_len (by decide +kernel) (pa_cons (pv 2) pa_nil)) pa_nil))) pa_nil)))))))), ?_⟩
  rintro _ _ _ _ ⟨b, m, rfl, ⟨hm1, hm12⟩, rfl, rfl, rfl⟩
  walk_at "go"
  walk_at "wp"
  refine wv_callB ?_
  walk_at "wp"
  rintro _ ⟨n, f, J, ⟨m', e, hq⟩, rfl⟩
  have hnm : n ≤ m := by cases e; omega
  have hn := J.few
  have hp := J.pos
  walk_at "wp"
  intro r0 hr0
  walk_at "wp"
  intro r1 hr1
  walk_at "wp"
  intro r2 hr2
  walk_at "wp"
  refine ko_ix2 (n := 7) (by omega) (by omega) fun v hv => ?_
  refine wa_nil ⟨b, v, rfl, by simp, by omega, ?_⟩
  rintro _ ⟨ns, rfl, N⟩
  have N6 : NsOk 6 ns := ⟨N.rise, N.nd, by have := N.few; omega, N.nm⟩
  walk_at "wp"
  rintro _ ⟨ms, rfl, M, e⟩
  walk_at "wp"
  rw [tab_len]
  walk_at "wp"
  intro r hr
  walk_at "wp"
  exact ⟨n, f, ms, r, rfl, ⟨J, M, by unfold RiseM; rw [e]; exact N.rise, by omega⟩, hnm⟩
/-- parts of an analysis, as the law carries them -/
abbrev ptD (n : Nat) (f : Nat → Nat → Nat) (ms : Ms) (b : Nat) : Dt := .tup [.lst (tab n f), .fdc (kdM ms), .int (b : Int)]
abbrev AnA : Type := Nat × (Nat → Nat → Nat) × Ms × Nat
abbrev preBuilt (CJ CA : Addr) : Pre := preD (fun (a : AnA) => [ptD a.1 a.2.1 a.2.2.1 a.2.2.2]) (fun a => AnOk a.1 a.2.1 a.2.2.1 a.2.2.2) (fun a d => d = an CJ CA a.1 a.2.1 a.2.2.1 a.2.2.2)
theorem ok_l_built (T : Top K mg CJ CA CP) : HasG P w K mg base CX0 9 "_law_built" ["_law_bag_here", "_law_parts"] (mkSp K (preBuilt CJ CA)) := by
  refine hasG_of T.d_l_built sc_l_built (lenD fun _ => rfl) ?_
  intro f0 cdv A outer s H E g hr
  have z_sorted := T.z_sorted
  have z_list := T.z_list
  have h_l_take := ok_l_take (P := P) (w := w) (base := base) T
  have h_l_mixed := ok_l_mixed (P := P) (w := w) (base := base) T
  have i_Joins := ok_Joins (P := P) (w := w) (base := base) T
  have i_Analysis := ok_Analysis (P := P) (w := w) (base := base) T
  refine ⟨_, (pss_cons (ps_asg (pv 1) (show PG _ _ (gTup K 3 (gCons (gName 2) (gCons (gName 3) (gCons (gName 4) gNil)))) from (pg_tup rfl (pgs_cons (pgn 2 sc_l_built.nd) (pgs_cons (pgn 3 sc_l_built.nd) (pgs_cons (pgn 4 sc_l_built.nd) pgs_nil))))))
       (pss_cons (pset 5 sc_l_built.nd pe_dnewK)
       (pss_cons (ps_for PassesOwn.never rfl (pi_list (pe_hasG h_l_mixed g (hr.mono (by decide)) (by rfl) pass0 (pa_cons (pv 0) (pa_cons (pe_callB (call_sortKS rfl (hu100 hr)) (by rfl) z_sorted (by decide +kernel) (pa_cons (pv 3) pa_nil)) pa_nil)))) (pgn 6 sc_l_built.nd)
       (pss_one (ps_dput (hu1 hr) (pv 5) (pv 6) (pe_callTy call_list_of (by rfl) z_list (by decide +kernel) (pa_cons (pe_dget (hu1 hr) (pv 3) (pv 6) (fun _ _ => rfl)) pa_nil)) rfl)))
       (pss_cons (ps_if (PW.pt (pw_and (pt_cmpR (op_eqU (hu64 hr)) (pv 4) pe_int (nomark _)) (pw_and1 (pt_cmpR (op_eqU (hu64 hr)) (pe_hasG h_l_take g (hr.mono (by decide)) (by rfl) pass0 (pa_cons (pv 0) (pa_cons pe_int pa_nil))) pe_int (nomark _)))))
       (pss_one (ps_ret (pe_hasK0 i_Analysis (hr.mono (by decide)) (by rfl) pass0 (pa_cons (pe_hasI i_Joins (hr.mono (by decide)) (by rfl) pass0 (pa_cons (pv 2) pa_nil)) (pa_cons (pe_seal (pv 5)) pa_nil)))))
       pss_nil)
       (pss_one (ps_ret (pe_hasK i_Analysis (hr.mono (by decide)) (by rfl) pass0 (pa_cons (pe_hasI i_Joins (hr.mono (by decide)) (by rfl) pass0 (pa_cons (pv 2) pa_nil)) (pa_cons (pe_seal (pv 5)) pa_nil)) (pk_cons (pv 4) pk_nil)))))))), ?_⟩
  rintro _ _ _ _ ⟨b, ⟨n, f, ms, bg⟩, rfl, N, rfl, rfl, rfl⟩
  dsimp only at N
  have J := N.jn
  have M := N.mo
  have hT : isTab (.lst (tab n f)) := ⟨n, f, J, rfl⟩
  have hfew := M.few
  walk_at "go"
  walk_at "wp"
  intro p
  walk_at "wp"
  refine wv_callB ?_
  walk_at "wp"
  rw [show sortS (ms.map (·.1)) = ms.map (·.1) from sortS_of (.refl _) N.rise]
  · simp
    omega
  rintro _ ⟨ds, ys, e, rfl, hp⟩
  cases e
  obtain ⟨zs, hz, rfl⟩ := perm_of_map hp
  rw [show sortS (ms.map (·.1)) = ms.map (·.1) from sortS_of (.refl _) N.rise] at hz
  refine ⟨_, rfl, ?_⟩
  have hzl : zs.length ≤ 6 := by rw [hz.length_eq, List.length_map]; exact hfew
  have znd : zs.Nodup := hz.nodup_iff.mpr M.nd
  let g : Str → Str × List Nat := fun s => (s, mapAt ms s)
  have gm : ∀ s ∈ zs, g s ∈ ms := fun s hs => by
    obtain ⟨vs, hv⟩ := in_ms (hz.mem_iff.mp hs)
    have : mapAt ms s = vs := mapAt_mem M.nd hv
    show (s, mapAt ms s) ∈ ms
    rw [this]; exact hv
  have gp : (zs.map g).Perm ms := by
    have h1 := hz.map g
    have h2 : (ms.map (·.1)).map g = ms := by
      rw [List.map_map]
      conv => rhs; rw [← List.map_id ms]
      refine List.map_congr_left fun q hq => ?_
      show (q.1, mapAt ms q.1) = q
      rw [mapAt_mem M.nd hq]
    rwa [h2] at h1
  refine for_U (us := zs) (g := .str) (fun i Δ' O' => Pin (∃ x6, Δ' = [some (.ref b), some (ptD n f ms bg), some (.lst (tab n f)), some (.fdc (kdM ms)), some (.int bg), some (.ref p), x6] ∧ O' = [(p, .dic (kdM ((zs.take i).map g))), (b, .bag)])) (pin ⟨_, rfl, rfl⟩) ?_ ?_
  · rintro i s _ _ hs ⟨x6, rfl, rfl⟩
    have hm := gm s (List.mem_of_getElem? hs)
    have hl := look_kdM M.nd hm
    have et : zs.take (i + 1) = zs.take i ++ [s] := by rw [List.take_add_one, hs]; rfl
    refine wp_dputK (wv_cb (wa_cons (wv_dget (wv_var rfl (wv_var rfl ⟨_, .inr s, _, do_fdc, rfl, hl, wa_nil (kcf (cad_list so_lst) ?_)⟩)))))
    refine wv_var rfl (wv_var rfl ⟨p, .inr s, 0, _, rfl, rfl, rfl, by simp; omega, ?_⟩)
    refine pin ⟨_, rfl, ?_⟩
    have hn : (.inr s : Key) ∉ (kdM ((zs.take i).map g)).map (·.1) := by
      rw [kd_keys, show ((zs.take i).map g).map (·.1) = zs.take i from by rw [List.map_map]; exact List.map_id _]
      intro mm
      obtain ⟨t, mt, e⟩ := List.mem_map.mp mm
      have e := Sum.inr.inj e
      subst e
      obtain ⟨j, hj, e2⟩ := List.getElem_of_mem mt
      rw [List.length_take] at hj
      have e3 : zs[j]? = some t := by rw [← e2, List.getElem_take]; simp [show j < zs.length by omega]
      have := (List.getElem?_inj (by omega) znd).mp (e3.trans hs.symm)
      omega
    have ek : kdM ((zs.take (i + 1)).map g) = kdM ((zs.take i).map g) ++ [(.inr s, mpD (g s).2)] := by simp only [kdM, et, List.map_append]; rfl
    rw [ek, putD_new hn]
    rfl
  · rintro _ _ ⟨x6, rfl, rfl⟩
    rw [List.take_length]
    have M2 : MsOk n f (zs.map g) := M.perm gp
    have es : sortM (zs.map g) = ms := sortM_of gp N.rise M.nd
    have fin0 : Ev K E X0 (tMake CA (mkSp K (preAn CJ CA)) [.int 0] E0 (tCons (tMake CJ (mkSp K (preJoins CJ)) [] E0 (tCons (tVar 2) tNil)) (tCons (tSeal (tVar 5)) tNil))) [some (.ref b), some (ptD n f ms bg), some (.lst (tab n f)), some (.fdc (kdM ms)), some (.int bg), some (.ref p), x6] [(p, .dic (kdM (zs.map g))), (b, .bag)] (ex (an CJ CA n f ms 0) [(b, .bag)]) := by
      refine wv_an0 (wa_cons (wv_make (wa_cons (wv_var rfl (wa_nil ⟨rfl, ⟨_, rfl, hT⟩, wa_cons (wv_seal (wv_var rfl ⟨p, _, _, rfl, rfl, wa_nil ⟨n, f, zs.map g, rfl, J, M2, ?_⟩⟩))⟩)))))
      rw [es]
      exact ⟨rfl, rfl⟩
    have finb : Ev K E X0 (tMakeK CA 2 1 (mkSp K (preAn CJ CA)) (fun vs zs => vs ++ zs) E0 (tCons (tMake CJ (mkSp K (preJoins CJ)) [] E0 (tCons (tVar 2) tNil)) (tCons (tSeal (tVar 5)) tNil)) (tCons (tVar 4) tNil)) [some (.ref b), some (ptD n f ms bg), some (.lst (tab n f)), some (.fdc (kdM ms)), some (.int bg), some (.ref p), x6] [(p, .dic (kdM (zs.map g))), (b, .bag)] (ex (an CJ CA n f ms bg) [(b, .bag)]) := by
      refine wv_an (wa_cons (wv_make (wa_cons (wv_var rfl (wa_nil ⟨rfl, ⟨_, rfl, hT⟩, wa_cons (wv_seal (wv_var rfl ⟨p, _, _, rfl, rfl, wa_nil ⟨n, f, zs.map g, rfl, J, M2, wa_cons (wv_var rfl (wa_nil ⟨bg, rfl, N.bg, ?_⟩))⟩⟩))⟩)))))
      rw [es]
      exact ⟨rfl, rfl⟩
    have k2 : ∀ d O', ex (an CJ CA n f ms bg) [(b, .bag)] d O' → d = an CJ CA n f ms bg ∧ O' = [(b, .bag)] := fun d O' h => h
    walk_at "wn"
    · intro hb0
      have hb0 : bg = 0 := by simpa [Int.ofNat_inj] using hb0
      subst hb0
      walk_at "wn"
      intro r hr
      walk_at "wn"
      · intro _
        exact wp_ret (fin0.imp k2)
      · intro _
        walk_at "wn"
        exact finb.imp k2
    · intro _
      walk_at "wn"
      · intro h
        cases h
      · intro _
        walk_at "wn"
        exact finb.imp k2
end
end
section
set_option maxRecDepth 100000
set_option maxHeartbeats 1000000
open PySem PySem.Spec PyProof.Rows L2 FF
open Evl (Ex)
section
abbrev PgA : Type := Nat × List Nat × List E3
/-- the statements of edges -/
def stm (es : List E3) : List Str := sortS (es.foldl (fun L e => if e.2.1 ∈ L then L else L ++ [e.2.1]) [])
theorem stm_fold (es : List E3) : ∀ L : List Str, L.Nodup → (es.foldl (fun L e => if e.2.1 ∈ L then L else L ++ [e.2.1]) L).Nodup ∧ ∀ s, s ∈ es.foldl (fun L e => if e.2.1 ∈ L then L else L ++ [e.2.1]) L ↔ s ∈ L ∨ ∃ e ∈ es, e.2.1 = s := by
  induction es with
  | nil => intro L h; exact ⟨h, fun s => by simp⟩
  | cons e es ih =>
    intro L h
    rw [List.foldl_cons]
    by_cases m : e.2.1 ∈ L
    · rw [if_pos m]
      obtain ⟨a, b⟩ := ih L h
      refine ⟨a, fun s => (b s).trans ?_⟩
      constructor
      · rintro (z | ⟨d, hd, z⟩)
        · exact .inl z
        · exact .inr ⟨d, List.mem_cons_of_mem _ hd, z⟩
      · rintro (z | ⟨d, hd, z⟩)
        · exact .inl z
        · rcases List.mem_cons.mp hd with rfl | hd
          · rw [← z]; exact .inl m
          · exact .inr ⟨d, hd, z⟩
    · rw [if_neg m]
      obtain ⟨a, b⟩ := ih (L ++ [e.2.1]) (by
        rw [List.nodup_append]
        exact ⟨h, by simp, fun x hx y hy z => m (by rw [List.mem_singleton] at hy; rw [← hy, ← z]; exact hx)⟩)
      refine ⟨a, fun s => (b s).trans ?_⟩
      rw [List.mem_append, List.mem_singleton]
      constructor
      · rintro ((z | z) | ⟨d, hd, z⟩)
        · exact .inl z
        · exact .inr ⟨e, List.mem_cons_self .., z.symm⟩
        · exact .inr ⟨d, List.mem_cons_of_mem _ hd, z⟩
      · rintro (z | ⟨d, hd, z⟩)
        · exact .inl (.inl z)
        · rcases List.mem_cons.mp hd with rfl | hd
          · exact .inl (.inr z.symm)
          · exact .inr ⟨d, hd, z⟩
theorem stm_mem {es : List E3} {s : Str} : s ∈ stm es ↔ ∃ e ∈ es, e.2.1 = s := by
  unfold stm
  rw [(sortS_perm _).mem_iff, (stm_fold es [] .nil).2]
  simp
theorem stm_nd {es : List E3} : (stm es).Nodup := (sortS_perm _).nodup_iff.mpr (stm_fold es [] .nil).1
theorem stm_rise {es : List E3} : RiseS (stm es) := sortS_pw _
theorem stm_of {es : List E3} {ms : List Str} (nd : ms.Nodup) (hm : ∀ s, s ∈ ms ↔ s ∈ es.map fun e => e.2.1) (hr : RiseS ms) : ms = stm es := by
  have h1 : (stm es).Perm ms := (List.perm_ext_iff_of_nodup stm_nd nd).mpr fun s => by
    rw [stm_mem, hm, List.mem_map]
  rw [← sortS_of h1 hr]
  exact sortS_of (.refl _) stm_rise
end
section
variable {P : Program} {w : World} {K : PySem.W.Frag} {mg : Str → Option Value} {base : Heap} {CJ CA CP : Addr}
abbrev spAJ (CJ CA : Addr) : Pre := preF (fun (a : AnA) => [an CJ CA a.1 a.2.1 a.2.2.1 a.2.2.2]) (fun _ => True) (fun a => jo CJ a.1 a.2.1)
theorem ok_an_joins (T : Top K mg CJ CA CP) : HasP P w K mg base CX0 1 CA "joins" ["self"] (mkSp K (spAJ CJ CA)) := by
  refine hasP_of T.p_Analysis_joins sc_Analysis_joins (lenF fun _ => rfl) ?_
  intro f0 cdv A outer s H E hr
  have cl := T.cl_Analysis
  have na := T.na_Analysis__joins
  refine ⟨_, (pss_one (ps_ret (pe_fld (pv 0) rfl))), ?_⟩
  rintro _ _ _ _ ⟨⟨n, f, ms, b⟩, rfl, _, rfl, rfl, rfl⟩
  walk_at "go"
  try dsimp only
  exact wp_ret (wv_fld cl na (wv_var rfl ⟨_, _, rfl, rfl, rfl, rfl⟩))
abbrev spAB (CJ CA : Addr) : Pre := preF (fun (a : AnA) => [an CJ CA a.1 a.2.1 a.2.2.1 a.2.2.2]) (fun _ => True) (fun a => .int (a.2.2.2 : Int))
theorem ok_an_begin (T : Top K mg CJ CA CP) : HasP P w K mg base CX0 1 CA "begin" ["self"] (mkSp K (spAB CJ CA)) := by
  refine hasP_of T.p_Analysis_begin sc_Analysis_begin (lenF fun _ => rfl) ?_
  intro f0 cdv A outer s H E hr
  have cl := T.cl_Analysis
  have na := T.na_Analysis__begin
  refine ⟨_, (pss_one (ps_ret (pe_fld (pv 0) rfl))), ?_⟩
  rintro _ _ _ _ ⟨⟨n, f, ms, b⟩, rfl, _, rfl, rfl, rfl⟩
  walk_at "go"
  try dsimp only
  exact wp_ret (wv_fld cl na (wv_var rfl ⟨_, _, rfl, rfl, rfl, rfl⟩))
abbrev spPP (CP : Addr) : Pre := preF (fun (a : PgA) => [prD CP a.1 a.2.1 a.2.2]) (fun _ => True) (fun a => .int (a.1 : Int))
theorem ok_pr_places (T : Top K mg CJ CA CP) : HasP P w K mg base CX0 1 CP "places" ["self"] (mkSp K (spPP CP)) := by
  refine hasP_of T.p_Program_places sc_Program_places (lenF fun _ => rfl) ?_
  intro f0 cdv A outer s H E hr
  have cl := T.cl_Program
  have na := T.na_Program__places
  refine ⟨_, (pss_one (ps_ret (pe_fld (pv 0) rfl))), ?_⟩
  rintro _ _ _ _ ⟨⟨n, bs, es⟩, rfl, _, rfl, rfl, rfl⟩
  walk_at "go"
  try dsimp only
  exact wp_ret (wv_fld cl na (wv_var rfl ⟨_, _, rfl, rfl, rfl, rfl⟩))
abbrev spASt (CJ CA : Addr) : Pre := preN (fun (a : AnA) => [an CJ CA a.1 a.2.1 a.2.2.1 a.2.2.2]) (fun _ => True) (fun a => a.2.2.1.map fun p => Dt.str p.1)
theorem ok_an_statements (T : Top K mg CJ CA CP) : HasM P w K mg base CX0 1 CA "statements" ["self"] (mkSp K (spASt CJ CA)) := by
  refine hasM_of T.m_Analysis_statements sc_Analysis_statements (lenN fun _ => rfl) ?_
  intro f0 cdv A outer s H E hr
  have cl := T.cl_Analysis
  have na := T.na_Analysis__maps
  have z_list := T.z_list
  refine ⟨_, (pss_one (ps_ret (pe_callTy (call_listR rfl) (by rfl) z_list (by decide +kernel) (pa_cons (pe_fld (pv 0) rfl) pa_nil)))), ?_⟩
  rintro _ _ _ _ ⟨⟨n, f, ms, b⟩, rfl, _, rfl, rfl, rfl⟩
  walk_at "go"
  try dsimp only
  refine wp_ret (wv_cb (wa_cons (wv_fld cl na (wv_var rfl ⟨_, _, rfl, rfl, wa_nil (kcnF (cad_listR do_fdc) fun q => ?_)⟩))))
  exact ⟨q, rfl, by rw [keys_D]⟩
abbrev spPB (CP : Addr) : Pre := preN (fun (a : PgA) => [prD CP a.1 a.2.1 a.2.2]) (fun _ => True) (fun a => intsD a.2.1)
theorem ok_pr_begins (T : Top K mg CJ CA CP) : HasM P w K mg base CX0 1 CP "begins" ["self"] (mkSp K (spPB CP)) := by
  refine hasM_of T.m_Program_begins sc_Program_begins (lenN fun _ => rfl) ?_
  intro f0 cdv A outer s H E hr
  have cl := T.cl_Program
  have na := T.na_Program__begins
  have z_list := T.z_list
  refine ⟨_, (pss_one (ps_ret (pe_callTy call_list_of (by rfl) z_list (by decide +kernel) (pa_cons (pe_fld (pv 0) rfl) pa_nil)))), ?_⟩
  rintro _ _ _ _ ⟨⟨n, bs, es⟩, rfl, _, rfl, rfl, rfl⟩
  walk_at "go"
  try dsimp only
  refine wp_ret (wv_cb (wa_cons (wv_fld cl na (wv_var rfl ⟨_, _, rfl, rfl, wa_nil (kcnF (cad_list so_lst) fun q => ⟨q, rfl, rfl⟩)⟩))))
abbrev spPSt (CP : Addr) : Pre := preN (fun (a : PgA) => [prD CP a.1 a.2.1 a.2.2]) (fun a => a.2.2.length < 63) (fun a => (stm a.2.2).map .str)
theorem ok_pr_statements (T : Top K mg CJ CA CP) : HasM P w K mg base CX0 1 CP "statements" ["self"] (mkSp K (spPSt CP)) := by
  refine hasM_of T.m_Program_statements sc_Program_statements (lenN fun _ => rfl) ?_
  intro f0 cdv A outer s H E hr
  have cl := T.cl_Program
  have na := T.na_Program__edges
  have z_sorted := T.z_sorted
  refine ⟨_, (pss_one (ps_ret (pe_callB (SX.cr_sortX rfl (hu100 hr)) (by rfl) z_sorted (by decide +kernel) (pa_cons (SX.pe_scX (own := [("edge", 1)]) rfl (hu10 hr) sc_Program_statements.nd (pi_list (pe_fld (pv 0) rfl)) (blkOk_by (own := [("edge", 1)]) (N := ["self", "edge"]) (sc := defScope s_Program_statements) (by decide +kernel)) (fun _ _ _ _ _ => (pgn 1 sc_Program_statements.nd)) (fun _ _ _ _ _ => pts_nil) (fun _ _ _ _ _ => (pe_ix (show IxR _ (rIx K) from ix_seq) (pv 1) pe_int (fun _ _ => rfl)))) pa_nil)))), ?_⟩
  rintro _ _ _ _ ⟨⟨n, bs, es⟩, rfl, hl, rfl, rfl, rfl⟩
  dsimp only at hl
  walk_at "go"
  try dsimp only
  refine wp_ret (wv_sortScX (wi_list (wv_fld cl na (wv_var rfl ⟨_, _, rfl, rfl, _, rfl, pin ⟨E3, es, edD, [1], fun e Δ => Δ.set 1 (some (edD e)), fun e => e.2.1, rfl, hl, fun u _ => gv_name 1, by decide, fun u hu => ?_, fun ms h1 h2 h3 q => ?_⟩⟩))))
  · exact wv_op (wv_var rfl (wv_int (ko_ixI so_tup (by decide) rfl ⟨rfl, rfl⟩)))
  · exact ⟨q, rfl, by rw [stm_of h1 h2 h3]⟩
abbrev spCkP (CP : Addr) : Pre := preF (fun (a : PgA × Nat) => [prD CP a.1.1 a.1.2.1 a.1.2.2, .int (a.2 : Int)]) (fun a => a.2 < a.1.1 ∧ a.1.1 ≤ 2000) (fun _ => .non)
theorem ok_check_place (T : Top K mg CJ CA CP) : Has P w K mg base CX0 3 "check_place" ["program", "place"] (mkSp K (spCkP CP)) := by
  refine has_of T.d_check_place sc_check_place (lenF fun _ => rfl) ?_
  intro f0 cdv A outer s H E hr
  have cl_Program := T.cl_Program
  have p_Program_places := ok_pr_places (P := P) (w := w) (base := base) T
  have h_is_number := ok_is_number (P := P) (w := w) (base := base) T
  refine ⟨_, (pss_one (ps_if (pt_not (pt_val (pe_has h_is_number (hr.mono (by decide)) (by rfl) pass0 (pa_cons (pe_hasP (pv 0) cl_Program p_Program_places (hr.mono (by decide)) pass0) (pa_cons (pv 1) pa_nil)))))
       (pss_one ps_never)
       pss_nil)), ?_⟩
  rintro _ _ _ _ ⟨⟨⟨n, bs, es⟩, v⟩, rfl, ⟨hv, hn⟩, rfl, rfl, rfl⟩
  dsimp only at hv hn
  walk_at "go"
  try dsimp only
  refine wp_if (wt_not (wt_B (wv_call2 (wa_cons (wv_propP (wv_var rfl ⟨_, rfl, (n, bs, es), rfl, trivial, wa_cons (wv_var rfl (wa_nil ⟨_, _, rfl, ⟨rfl, _, rfl⟩, ?_⟩))⟩))))))
  have eN : (isInt (.int (v : Int)) && inRange (.int (n : Int)) (.int (v : Int))) = true := by simp [isInt, isiInt, isiBool, inRange]; omega
  rw [eN]
  refine ⟨_, rfl, fun h => (by cases h), fun _ => ?_⟩
  exact wp_next ⟨rfl, rfl⟩
abbrev spOutOf (CP : Addr) : Pre := preN (fun (a : PgA × Nat) => [prD CP a.1.1 a.1.2.1 a.1.2.2, .int (a.2 : Int)]) (fun a => a.2 < a.1.1 ∧ a.1.1 ≤ 2000) (fun a => outR a.1.2.2 a.2)
theorem ok_pr_out_of (T : Top K mg CJ CA CP) : HasM P w K mg base CX0 4 CP "out_of" ["self", "place"] (mkSp K (spOutOf CP)) := by
  refine hasM_of T.m_Program_out_of sc_Program_out_of (lenN fun _ => rfl) ?_
  intro f0 cdv A outer s H E hr
  have cl := T.cl_Program
  have na := T.na_Program__out
  have z_list := T.z_list
  have h_check_place := ok_check_place (P := P) (w := w) (base := base) T
  refine ⟨_, (pss_cons (ps_expr (pe_has h_check_place (hr.mono (by decide)) (by rfl) pass0 (pa_cons (pv 0) (pa_cons (pv 1) pa_nil))))
       (pss_one (ps_ret (pe_callTy call_list_of (by rfl) z_list (by decide +kernel) (pa_cons (pe_ix ix_seq (pe_fld (pv 0) rfl) (pv 1) (fun _ _ => rfl)) pa_nil))))), ?_⟩
  rintro _ _ _ _ ⟨⟨⟨n, bs, es⟩, v⟩, rfl, ⟨hv, hn⟩, rfl, rfl, rfl⟩
  dsimp only at hv hn
  walk_at "go"
  try dsimp only
  refine wp_seq (wp_drop (wv_callP (wa_cons (wv_var rfl (wa_cons (wv_var rfl (wa_nil ⟨((n, bs, es), v), rfl, ⟨hv, hn⟩, ?_⟩)))))))
  exact wp_ret (wv_cb (wa_cons (wv_op (wv_fld cl na (wv_var rfl ⟨_, _, rfl, rfl, wv_var rfl (ko_ixN so_lst (rgm_get hv) (wa_nil (kcnF (cad_list so_lst) fun q => ⟨q, rfl, rfl⟩)))⟩)))))
abbrev spFits (CJ CA CP : Addr) : Pre := preF (fun (a : AnA × PgA) => [an CJ CA a.1.1 a.1.2.1 a.1.2.2.1 a.1.2.2.2, prD CP a.2.1 a.2.2.1 a.2.2.2]) (fun a => a.2.2.2.length < 63 ∧ a.1.2.2.1.length ≤ 6 ∧ ∀ e ∈ a.2.2.2, e.2.1 ∈ a.1.2.2.1.map (·.1)) (fun _ => .non)
theorem ok_check_fits (T : Top K mg CJ CA CP) : Has P w K mg base CX0 3 "check_fits" ["analysis", "program"] (mkSp K (spFits CJ CA CP)) := by
  refine has_of T.d_check_fits sc_check_fits (lenF fun _ => rfl) ?_
  intro f0 cdv A outer s H E hr
  have cl_Analysis := T.cl_Analysis
  have cl_Program := T.cl_Program
  have m_Analysis_statements := ok_an_statements (P := P) (w := w) (base := base) T
  have m_Program_statements := ok_pr_statements (P := P) (w := w) (base := base) T
  refine ⟨_, (pss_cons (pset 2 sc_check_fits.nd (pe_hasM0 (pv 0) cl_Analysis m_Analysis_statements (hr.mono (by decide)) pass0))
       (pss_one (ps_for PassesOwn.never rfl (pi_list (pe_hasM0 (pv 1) cl_Program m_Program_statements (hr.mono (by decide)) pass0)) (pgn 3 sc_check_fits.nd)
       (pss_one (ps_if (pt_cmpR op_notIn_seq (pv 3) (pv 2) (by rfl))
       (pss_one ps_never)
       pss_nil))))), ?_⟩
  rintro _ _ _ _ ⟨⟨⟨n, f, ms, b⟩, ⟨N, bs, es⟩⟩, rfl, ⟨hl, hm, hs⟩, rfl, rfl, rfl⟩
  dsimp only at hl hm hs
  walk_at "go"
  try dsimp only
  refine wp_seq (wp_set (wv_methNF (wv_var rfl ⟨_, rfl, rfl, wa_nil ⟨(n, f, ms, b), rfl, trivial, ?_⟩⟩)))
  walk_at "nm"
  refine wp_for (wi_list (wv_methNF (wv_var rfl ⟨_, rfl, rfl, wa_nil ⟨(N, bs, es), rfl, hl, _, rfl, ?_⟩⟩)))
  refine for_U (us := stm es) (g := fun s => Dt.str s) (fun i Δ' O' => Pin (∃ x3, Δ' = [some (an CJ CA n f ms b), some (prD CP N bs es), some (.lst (ms.map fun p => Dt.str p.1)), x3] ∧ O' = [])) (pin ⟨_, rfl, rfl⟩) ?_ ?_
  · rintro i s _ _ hi ⟨x3, rfl, rfl⟩
    obtain ⟨e, he, rfl⟩ := stm_mem.mp (List.mem_of_getElem? hi)
    have hin := hs e he
    walk_at "nm"
    refine wp_if (wt_test (wv_op (wv_var rfl (wv_var rfl (ko_notinS (ns := ms.map (·.1)) ?_ ⟨_, rfl, fun h => ?_, fun _ => wp_next (pin ⟨_, rfl, rfl⟩)⟩)))))
    · rw [List.map_map]; exact so_lst
    · simp only [hin, decide_true, Bool.not_true] at h
      cases h
  · rintro _ _ ⟨x3, rfl, rfl⟩
    exact ⟨rfl, rfl⟩
abbrev spMaps2 (CJ CA : Addr) : Pre := preF (fun (a : AnA) => [an CJ CA a.1 a.2.1 a.2.2.1 a.2.2.2]) (fun a => AnOk a.1 a.2.1 a.2.2.1 a.2.2.2) (fun a => .fdc (kdM a.2.2.1))
theorem ok_all_maps (T : Top K mg CJ CA CP) : Has P w K mg base CX0 3 "all_maps" ["analysis"] (mkSp K (spMaps2 CJ CA)) := by
  refine has_of T.d_all_maps sc_all_maps (lenF fun _ => rfl) ?_
  intro f0 cdv A outer s H E hr
  have cl_Analysis := T.cl_Analysis
  have m_Analysis_statements := ok_an_statements (P := P) (w := w) (base := base) T
  have m_Analysis_map_of := ok_map_of (P := P) (w := w) (base := base) T
  refine ⟨_, (pss_one (ps_ret (pe_seal (pe_dc (own := [("name", 1)]) rfl sc_all_maps.nd (pi_list (pe_hasM0 (pv 0) cl_Analysis m_Analysis_statements (hr.mono (by decide)) pass0)) (blkOk_by (own := [("name", 1)]) (N := ["analysis", "name"]) (sc := defScope s_all_maps) (by decide +kernel)) (fun _ _ _ _ _ => (pgn 1 sc_all_maps.nd)) (fun _ _ _ _ _ => pts_nil) (fun _ _ _ _ _ => (pv 1)) (fun _ _ _ _ _ => (pe_hasM (pv 0) cl_Analysis m_Analysis_map_of (hr.mono (by decide)) pass0 (pa_cons (pv 1) pa_nil))))))), ?_⟩
  rintro _ _ _ _ ⟨⟨n, f, ms, b⟩, rfl, N, rfl, rfl, rfl⟩
  dsimp only at N
  have M := N.mo
  walk_at "go"
  try dsimp only
  refine wp_ret (wv_seal (wv_dc (wi_list (wv_methNF (wv_var rfl ⟨_, rfl, rfl, wa_nil ⟨(n, f, ms, b), rfl, trivial, _, rfl, ?_, ?_⟩⟩)))))
  · rw [List.length_map]; have := M.few; show ms.length ≤ 50000; omega
  refine pin ⟨_, ms, fun p => Dt.str p.1, fun p => .inr p.1, fun p => mpD p.2, rfl, by simp, ?_, fun p hp => wv_var rfl ⟨rfl, rfl⟩, fun p hp => ?_, fun q => ⟨q, _, _, rfl, rfl, rfl, rfl⟩⟩
  · exact List.pairwise_map.mpr ((List.pairwise_map.mp M.nd).imp fun h e => h (Sum.inr.inj e))
  · exact wv_methP (wv_var rfl ⟨_, rfl, rfl, wa_cons (wv_var rfl (wa_nil ⟨(n, f, ms, b, p), rfl, ⟨N, hp⟩, rfl, rfl⟩))⟩)
abbrev spOuts (CP : Addr) : Pre := preF (fun (a : PgA) => [prD CP a.1 a.2.1 a.2.2]) (fun a => a.1 ≤ 2000) (fun a => .lst (rowsD a.1 (outR a.2.2)))
theorem ok_all_outs (T : Top K mg CJ CA CP) : Has P w K mg base CX0 5 "all_outs" ["program"] (mkSp K (spOuts CP)) := by
  refine has_of T.d_all_outs sc_all_outs (lenF fun _ => rfl) ?_
  intro f0 cdv A outer s H E hr
  have cl_Program := T.cl_Program
  have z_range := T.z_range
  have p_Program_places := ok_pr_places (P := P) (w := w) (base := base) T
  have m_Program_out_of := ok_pr_out_of (P := P) (w := w) (base := base) T
  refine ⟨_, (pss_one (ps_ret (pe_lc (own := [("place", 1)]) rfl sc_all_outs.nd (pi_range1 rfl z_range (pa_cons (pe_hasP (pv 0) cl_Program p_Program_places (hr.mono (by decide)) pass0) pa_nil)) (blkOk_by (own := [("place", 1)]) (N := ["program", "place"]) (sc := defScope s_all_outs) (by decide +kernel)) (fun _ _ _ _ _ => (pgn 1 sc_all_outs.nd)) (fun _ _ _ _ _ => pts_nil) (fun _ _ _ _ _ => (pe_hasM (pv 0) cl_Program m_Program_out_of (hr.mono (by decide)) pass0 (pa_cons (pv 1) pa_nil)))))), ?_⟩
  rintro _ _ _ _ ⟨⟨n, bs, es⟩, rfl, hn, rfl, rfl, rfl⟩
  dsimp only at hn
  walk_at "go"
  try dsimp only
  refine wp_ret (wv_lc (wi_rng1 (wa_cons (wv_propP (wv_var rfl ⟨_, rfl, (n, bs, es), rfl, trivial, wa_nil ⟨_, rfl, by omega, by simp; omega, ?_⟩⟩)))))
  rw [Int.toNat_natCast]
  refine lc_R (fun v => .lst (outR es v)) (by simp) (fun v hv => ?_) ⟨rfl, rfl⟩
  exact wv_methNF (wv_var rfl ⟨_, rfl, rfl, wa_cons (wv_var rfl (wa_nil ⟨((n, bs, es), v), rfl, ⟨hv, hn⟩, rfl, rfl⟩))⟩)
abbrev JtA : Type := Nat × (Nat → Nat → Nat) × Fact × Nat
abbrev spJto : Pre := preF (fun (a : JtA) => [.lst (tab a.1 a.2.1), oD a.2.2.1, .int (a.2.2.2 : Int)]) (fun a => FIn a.1 a.2.2.1 ∧ a.2.2.2 < a.1) (fun a => .int (jto a.2.1 a.2.2.1 a.2.2.2 : Nat))
theorem ok_joined_to (T : Top K mg CJ CA CP) : Has P w K mg base CX0 1 "joined_to" ["rows", "value", "brought"] (mkSp K spJto) := by
  refine has_of T.d_joined_to sc_joined_to (lenF fun _ => rfl) ?_
  intro f0 cdv A outer s H E hr
  refine ⟨_, (pss_one (ps_ret (pe_ifExp (pt_cmpR op_isN (pv 1) pe_non (nomark _)) (pv 2) (pe_ix ix_seq (pe_ix ix_seq (pv 0) (pv 1) (fun _ _ => rfl)) (pv 2) (fun _ _ => rfl))))), ?_⟩
  rintro _ _ _ _ ⟨⟨n, f, a, v⟩, rfl, ⟨ha, hv⟩, rfl, rfl, rfl⟩
  dsimp only at ha hv
  walk_at "go"
  try dsimp only
  cases a with
  | none =>
    simp only [oD]
    walk_at "wn"
    · intro _
      walk_at "wn"
    · intro h
      cases h
  | some u =>
    have hu := ha u rfl
    simp only [oD]
    walk_at "wn"
    · intro h
      cases h
    · intro _
      walk_at "wn"
end
end
section
set_option maxRecDepth 100000
set_option maxHeartbeats 1000000
open PySem PySem.Spec PyProof.Rows L2 FF
open Evl (Ex sz_of)
section
theorem nm_len {s : Str} (h : nmOk s) : s.length ≤ 8 := by
  have := h.2.1
  simp only [isName, Bool.and_eq_true, decide_eq_true_eq] at this
  omega
theorem nm_nic {s : Str} (h : nmOk s) : Nic 0 82 (.str s) := (nic_str h.2.2 (nm_len h)).mono (Nat.le_refl _) (by omega)
end
section
variable {P : Program} {w : World} {K : PySem.W.Frag} {mg : Str → Option Value} {base : Heap} {CJ CA CP : Addr}
abbrev preRows' (CJ : Addr) : Pre := fun ds O Φ Ψ => ∃ n f, ds = [jo CJ n f] ∧ Jn n f ∧ O = [] ∧ Φ = (fun d O' => ∃ q rs, d = .ref q ∧ rs.map (·.2) = (List.range n).map (fun u => rowD n f u) ∧ O' = (q, .lst (refsD rs)) :: rowO rs) ∧ Ψ = X0
theorem ok_rows (T : Top K mg CJ CA CP) : HasM P w K mg base CX0 1 CJ "rows" ["self"] (mkSp K (preRows' CJ)) := by
  refine hasM_of T.m_Joins_rows sc_Joins_rows ?_ ?_
  · rintro ds O Φ Ψ ⟨n, f, rfl, _⟩
    rfl
  intro f cdv A outer s H E hr
  have cl := T.cl_Joins
  have na := T.na_Joins__rows
  have z_list := T.z_list
  refine ⟨_, (pss_one (ps_ret (pe_lc (own := [("row", 1)]) rfl sc_Joins_rows.nd (pi_list (pe_fld (pv 0) rfl)) (blkOk_by (own := [("row", 1)]) (N := ["self", "row"]) (sc := defScope s_Joins_rows) (by decide +kernel)) (fun _ _ _ _ _ => (pgn 1 sc_Joins_rows.nd)) (fun _ _ _ _ _ => pts_nil) (fun _ _ _ _ _ => (pe_callTy (show CallR _ (.type "list") (fun xs H Q => ∃ p ys, xs = [.ref p] ∧ (SqL K H p ys ∨ SqT K H p ys) ∧ ∀ l, H l = none → Q (.ref l) (upd H l (.lst ys))) from call_list_of) (by rfl) z_list (by decide +kernel) (pa_cons (pv 1) pa_nil)))))), ?_⟩
  rintro _ _ _ _ ⟨n, f, rfl, J, rfl, rfl, rfl⟩
  have hn := J.few
  walk_at "go"
  refine wp_ret (wv_lcO ?_)
  walk_at "wp"
  refine pin ⟨Nat, List.range n, fun u => .lst (rowD n f u), fun u => rowD n f u, rfl, List.mem_cons_self .., fun u hu => ?_, fun q rs hrs => ⟨q, rs, rfl, hrs, by simp⟩⟩
  exact ev_cb (ea_cons (ev_var rfl) ea_nil) (cad_list so_lst)
theorem wv_rowsF {E E' : XK} {Ψ : XPost} {Δ : Env_} {O : Own} {to : TE} {ts : TA} {k : Dt → Own → Prop} (h : Ev K E Ψ to Δ O fun x O1 => ∃ n f, x = jo CJ n f ∧ Jn n f ∧ EvA K E Ψ ts Δ O1 fun ds O2 => ds = [] ∧ k (.lst (tab n f)) O2) : Ev K E Ψ (tMeth CJ "rows" (mkSp K (preRows' CJ)) [] E' to ts) Δ O k := by
  refine ev_frzP (wv_meth (h.imp fun x O1 hx => ?_))
  obtain ⟨n, f, rfl, J, hts⟩ := hx
  refine ⟨_, rfl, rfl, hts.imp fun ds O2 hds => ?_⟩
  obtain ⟨rfl, hk⟩ := hds
  refine ⟨[], O2, _, List.Perm.refl _, ⟨n, f, rfl, J, rfl, rfl, rfl⟩, fun d O3 hd => ?_⟩
  obtain ⟨q, rs, rfl, hrs, rfl⟩ := hd
  have hR : RowsT n f rs := hrs
  refine ⟨_, List.Perm.refl _, (q, .lst (refsD rs)) :: rowO rs, O2, .lst (rs.map fun p => .lst p.2), List.Perm.refl _, rep_rows (List.mem_cons_self ..) fun p m => List.mem_cons_of_mem _ (mem_rowO m), ?_⟩
  rw [hR.tab]
  exact hk
end
end
section
set_option maxRecDepth 100000
set_option maxHeartbeats 1000000
open PySem PySem.Spec PyProof.Rows L2 FF
open Evl (Ex)
section
abbrev mpF (ms : Ms) (s : Str) (u : Nat) : Nat := (mapAt ms s).getD u 0
theorem mapAt_none {ms : Ms} {s : Str} (h : s ∉ ms.map (·.1)) : mapAt ms s = [] := by
  unfold mapAt
  rw [List.find?_eq_none.mpr]
  · rfl
  · intro p mp e
    exact h (List.mem_map.mpr ⟨p, mp, of_decide_eq_true e⟩)
theorem ax_of {n : Nat} {f : Nat → Nat → Nat} {ms : Ms} (J : Jn n f) (M : MsOk n f ms) : Ax n f (mpF ms) := by
  refine ⟨J, fun s u hu => ?_, fun s u v hu hv h => ?_⟩
  · by_cases hs : s ∈ ms.map (·.1)
    · obtain ⟨vs, hm⟩ := in_ms hs
      have e : mapAt ms s = vs := mapAt_mem M.nd hm
      have h1 : vs.length = n := (M.mp _ hm).1
      have h2 : ∀ v ∈ vs, v < n := (M.mp _ hm).2
      show (mapAt ms s).getD u 0 < n
      rw [e]
      exact getD_in (by omega) h2
    · show (mapAt ms s).getD u 0 < n
      rw [mapAt_none hs]
      exact J.pos
  · by_cases hs : s ∈ ms.map (·.1)
    · obtain ⟨vs, hm⟩ := in_ms hs
      have e : mapAt ms s = vs := mapAt_mem M.nd hm
      have hr := M.rise _ hm u v hu hv
      show f ((mapAt ms s).getD u 0) ((mapAt ms s).getD v 0) = (mapAt ms s).getD v 0
      rw [e]
      by_cases hq : f (vs.getD u 0) (vs.getD v 0) = vs.getD v 0
      · exact hq
      · exact absurd ⟨h, hq⟩ hr
    · show f ((mapAt ms s).getD u 0) ((mapAt ms s).getD v 0) = (mapAt ms s).getD v 0
      rw [mapAt_none hs]
      exact J.idem 0 J.pos
/-- the facts -/
def IsF (n : Nat) (f : Nat → Nat → Nat) (ms : Ms) (b : Nat) (bs : List Nat) (es : List E3) (X : Nat → Fact) : Prop := Fd n f (mpF ms) b bs es X ∧ ∀ e ∈ es, Stl f (mpF ms) X e
theorem IsF.congr {n : Nat} {f : Nat → Nat → Nat} {ms : Ms} {b : Nat} {bs : List Nat} {es es' : List E3} {X : Nat → Fact} (h : IsF n f ms b bs es X) (he : ∀ e, e ∈ es ↔ e ∈ es') : IsF n f ms b bs es' X :=
  ⟨⟨h.1.bg, h.1.lt, fun Y S => h.1.low Y ⟨S.lt, S.beg, fun e m => S.edge e ((he e).mp m)⟩, h.1.beg⟩, fun e m => h.2 e ((he e).mpr m)⟩
open Classical in
noncomputable def fct (n : Nat) (f : Nat → Nat → Nat) (ms : Ms) (b : Nat) (bs : List Nat) (es : List E3) : Nat → Fact := if h : ∃ X, IsF n f ms b bs es X then Classical.choose h else fun _ => none
theorem fct_eq {n : Nat} {f : Nat → Nat → Nat} {ms : Ms} {b : Nat} {bs : List Nat} {es : List E3} {X : Nat → Fact} (J : Jn n f) (h : IsF n f ms b bs es X) : X = fct n f ms b bs es := by
  have hx : ∃ X, IsF n f ms b bs es X := ⟨X, h⟩
  unfold fct
  rw [dif_pos hx]
  have h2 := Classical.choose_spec hx
  exact fd_uniq J h.1 h.2 h2.1 h2.2
structure Fit (ms : Ms) (N : Nat) (bs : List Nat) (es : List E3) : Prop where
  few : N ≤ 64
  bl : bs.length ≤ 64
  bt : ∀ v ∈ bs, v < N
  nd : bs.Nodup
  el : es.length < 63
  et : ∀ e ∈ es, e.1 < N ∧ e.2.2 < N ∧ e.2.1 ∈ ms.map (·.1)
abbrev outE (es : List E3) (v : Nat) : List E3 := es.filter fun e => decide (e.1 = v)
theorem eq_oD {t : Nat} {a : Fact} : eqd (.int (t : Int)) (oD a) = decide (a = some t) := by
  cases a with
  | none => rfl
  | some v =>
    show eqd (.int (t : Int)) (.int (v : Int)) = _
    rw [eqd_int]
    by_cases h : t = v
    · subst h; simp
    · rw [decide_eq_false (fun z => h (Int.ofNat_inj.mp z)), decide_eq_false (fun z => h (Option.some.inj z).symm)]
theorem eok_oD {a : Fact} : (oD a).eok = true := by cases a <;> rfl
theorem begF_step {b v : Nat} {vs : List Nat} : setF (begF b vs) v b = begF b (vs ++ [v]) := funext fun p => by
  by_cases h : p = v
  · subst h
    rw [setF_self]
    unfold begF
    rw [if_pos (by simp)]
  · rw [setF_ne h]
    unfold begF
    by_cases hp : p ∈ vs
    · rw [if_pos hp, if_pos (by simp [hp])]
    · rw [if_neg hp, if_neg (by simp [hp, h])]
theorem putN_addN {cs : List Nat} {t : Nat} : putN (ci cs) (t : Int) = ci (addN cs t) := by
  by_cases h : t ∈ cs
  · unfold putN addN
    rw [if_pos (mem_ci.mpr h), if_pos h]
  · rw [putN_ci h]
    unfold addN
    rw [if_neg h]
theorem fc_none {N : Nat} : List.replicate N Dt.non = fcD N fun _ => none := by
  unfold fcD
  rw [List.map_const']
  simp [oD]
end
section
variable {P : Program} {w : World} {K : PySem.W.Frag} {mg : Str → Option Value} {base : Heap} {CJ CA CP : Addr}
abbrev FfA : Type := AnA × PgA
abbrev ffArg (CJ CA CP : Addr) (a : FfA) : List Dt := [an CJ CA a.1.1 a.1.2.1 a.1.2.2.1 a.1.2.2.2, prD CP a.2.1 a.2.2.1 a.2.2.2]
def ffC (a : FfA) : Prop := AnOk a.1.1 a.1.2.1 a.1.2.2.1 a.1.2.2.2 ∧ Fit a.1.2.2.1 a.2.1 a.2.2.1 a.2.2.2
noncomputable abbrev ffX (a : FfA) : Nat → Fact := fct a.1.1 a.1.2.1 a.1.2.2.1 a.1.2.2.2 a.2.2.1 a.2.2.2
def preFound (CJ CA CP : Addr) : Pre := fun ds O Φ Ψ => ∃ a : FfA, ds = ffArg CJ CA CP a ∧ ffC a ∧ O = [] ∧ Φ = (fun d O' => ∃ q p st, d = .tup [.ref q, .ref p] ∧ O' = [(q, .lst (fcD a.2.1 (ffX a))), (p, .lst st)]) ∧ Ψ = X0
theorem ok_found_facts (T : Top K mg CJ CA CP) : Has P w K mg base CX0 6 "found_facts" ["analysis", "program"] (mkSp K (preFound CJ CA CP)) := by
  refine has_of T.d_found_facts sc_found_facts ?_ ?_
  · rintro ds O Φ Ψ ⟨a, rfl, _⟩
    rfl
  intro f0 cdv A outer s H E hr
  have cl_Analysis := T.cl_Analysis
  have cl_Program := T.cl_Program
  have cl_Joins := T.cl_Joins
  have z_list := T.z_list
  have p_Analysis_joins := ok_an_joins (P := P) (w := w) (base := base) T
  have p_Analysis_begin := ok_an_begin (P := P) (w := w) (base := base) T
  have p_Program_places := ok_pr_places (P := P) (w := w) (base := base) T
  have m_Joins_rows := ok_rows (P := P) (w := w) (base := base) T
  have m_Program_begins := ok_pr_begins (P := P) (w := w) (base := base) T
  have h_all_maps := ok_all_maps (P := P) (w := w) (base := base) T
  have h_all_outs := ok_all_outs (P := P) (w := w) (base := base) T
  have h_joined_to := ok_joined_to (P := P) (w := w) (base := base) T
  refine ⟨_, (pss_cons (pset 2 sc_found_facts.nd (pe_hasM0 (pe_hasP (pv 0) cl_Analysis p_Analysis_joins (hr.mono (by decide)) pass0) cl_Joins m_Joins_rows (hr.mono (by decide)) pass0))
       (pss_cons (pset 3 sc_found_facts.nd (pe_has h_all_maps (hr.mono (by decide)) (by rfl) pass0 (pa_cons (pv 0) pa_nil)))
       (pss_cons (pset 4 sc_found_facts.nd (pe_has h_all_outs (hr.mono (by decide)) (by rfl) pass0 (pa_cons (pv 1) pa_nil)))
       (pss_cons (pset 5 sc_found_facts.nd (pe_hasM0 (pv 1) cl_Program m_Program_begins (hr.mono (by decide)) pass0))
       (pss_cons (ps_setLc (i := 6) (own := [("place", 8)]) rfl sc_found_facts.nd rfl rfl (sw_true rfl rfl rfl (by decide +kernel)) (pi_list (pv 5)) (blkOk_by (own := [("place", 8)]) (N := ["analysis", "program", "rows", "maps", "outs", "waiting", "steps", "facts", "place", "changed", "name", "to", "fact"]) (sc := defScope s_found_facts) (by decide +kernel)) (fun _ _ _ _ _ => (pgn 8 sc_found_facts.nd)) (fun _ _ _ _ _ => pts_nil) (fun _ _ _ _ _ => (pe_tup (pa_cons (pv 8) (pa_cons pe_str pa_nil)))))
       (pss_cons (pset 7 sc_found_facts.nd (pe_op op_times (pe_lst (pa_cons pe_non pa_nil)) (pe_hasP (pv 1) cl_Program p_Program_places (hr.mono (by decide)) pass0)))
       (pss_cons (ps_for PassesOwn.never rfl (pi_list (pv 5)) (pgn 8 sc_found_facts.nd)
       (pss_one (ps_asg (pe_hasP (pv 0) cl_Analysis p_Analysis_begin (hr.mono (by decide)) pass0) (pg_sub (pv 7) (pv 8) set_list))))
       (pss_cons (ps_while PassesOwn.never (pt_tru (pv 5) (fun _ => rfl))
       (pss_cons (pset 9 sc_found_facts.nd pe_dnewK)
       (pss_cons (ps_for PassesOwn.never rfl (pi_list (pv 5)) (pgn 8 sc_found_facts.nd)
       (pss_one (ps_for PassesOwn.never rfl (pi_list (pe_ix ix_seq (pv 4) (pv 8) (fun _ _ => rfl))) (show PG _ _ (gTup K 2 (gCons (gName 10) (gCons (gName 11) gNil))) from (pg_tup rfl (pgs_cons (pgn 10 sc_found_facts.nd) (pgs_cons (pgn 11 sc_found_facts.nd) pgs_nil))))
       (pss_cons (pset 12 sc_found_facts.nd (pe_has h_joined_to (hr.mono (by decide)) (by rfl) pass0 (pa_cons (pv 2) (pa_cons (pe_ix ix_seq (pv 7) (pv 11) (fun _ _ => rfl)) (pa_cons (pe_ix ix_seq (pe_dget (hu1 hr) (pv 3) (pv 10) (fun _ _ => rfl)) (pe_ix ix_seq (pv 7) (pv 8) (fun _ _ => rfl)) (fun _ _ => rfl)) pa_nil)))))
       (pss_one (ps_if (pt_cmpR (op_neU (hu64 hr)) (pv 12) (pe_ix ix_seq (pv 7) (pv 11) (fun _ _ => rfl)) (nomark _))
       (pss_cons (ps_asg (pv 12) (pg_sub (pv 7) (pv 11) set_list))
       (pss_cons (ps_expr (pe_bm PySem.F.plainAttrs_list PySem.F.slot_list_append PySem.F.type_list_append mt_append (pv 6) (pa_cons (pe_tup (pa_cons (pv 11) (pa_cons (pe_tup (pa_cons (pv 8) (pa_cons (pv 10) pa_nil))) pa_nil))) pa_nil)))
       (pss_one (ps_dput (hu1 hr) (pv 9) (pv 11) pe_bl rfl))))
       pss_nil))))))
       (pss_one (pset 5 sc_found_facts.nd (pe_callTy (L2.call_list_dK rfl) (by rfl) z_list (by decide +kernel) (pa_cons (pv 9) pa_nil)))))))
       (pss_one (ps_ret (pe_tup (pa_cons (pv 7) (pa_cons (pv 6) pa_nil))))))))))))), ?_⟩
  rintro _ _ _ _ ⟨⟨⟨n, f, ms, b⟩, ⟨N, bs, es⟩⟩, rfl, ⟨A0, T0⟩, rfl, rfl, rfl⟩
  dsimp only at A0 T0
  have J := A0.jn
  have M := A0.mo
  have X0' := ax_of J M
  have hN := T0.few
  have hn := J.few
  have hbl := T0.bl
  walk_at "go"
  try dsimp only
  refine wp_seq (wp_set (wv_rowsF (wv_propP (wv_var rfl ⟨_, rfl, (n, f, ms, b), rfl, trivial, n, f, rfl, J, wa_nil ⟨rfl, ?_⟩⟩))))
  refine wp_seq (wp_set (wv_callP (wa_cons (wv_var rfl (wa_nil ⟨(n, f, ms, b), rfl, A0, ?_⟩)))))
  refine wp_seq (wp_set (wv_callP (wa_cons (wv_var rfl (wa_nil ⟨(N, bs, es), rfl, by show N ≤ 2000; omega, ?_⟩)))))
  refine wp_seq (wp_set (wv_methNF (wv_var rfl ⟨_, rfl, rfl, wa_nil ⟨(N, bs, es), rfl, trivial, ?_⟩⟩)))
  walk_at "nm"
  refine wp_seq (wp_set (wv_lcN (wi_list (wv_var rfl ⟨_, rfl, by rw [List.length_map]; show bs.length ≤ 50000; omega, ?_⟩))))
  refine lc_U (us := bs) (g := fun (v : Nat) => Dt.int (v : Int)) (fun (v : Nat) => .tup [.int (v : Int), .str "begin"]) (List.mem_cons_self ..) (fun v hv => ?_) ⟨_, rfl, fun p => ?_⟩
  · exact wv_tup (wa_cons (wv_var rfl (wa_cons (wv_str (wa_nil ⟨by simp, rfl, rfl⟩)))))
  refine wp_seq (wp_set (wv_op (wv_lst (wa_cons (wv_non (wa_nil ⟨by simp, wv_propP (wv_var rfl ⟨_, rfl, (N, bs, es), rfl, trivial, ko_timesN (by show N ≤ 10000; omega) fun q => ?_⟩)⟩))))))
  rw [fc_none]
  walk_at "nm"
  obtain ⟨st0, hst0, hsl0⟩ : ∃ st : List Dt, st = bs.map (fun (v : Nat) => Dt.tup [.int (v : Int), .str "begin"]) ∧ st.length = bs.length := ⟨_, rfl, by rw [List.length_map]⟩
  rw [← hst0]
  clear hst0
  refine wp_seq (wp_for (wi_list (wv_var rfl ⟨_, rfl, ?_⟩)))
  refine for_U (us := bs) (g := fun (v : Nat) => Dt.int (v : Int)) (fun i Δ' O' => Pin (∃ x8, Δ' = [some (an CJ CA n f ms b), some (prD CP N bs es), some (.lst (tab n f)), some (.fdc (kdM ms)), some (.lst (rowsD N (outR es))), some (.lst (intsD bs)), some (.ref p), some (.ref q), x8, none, none, none, none] ∧ O' = [(q, .lst (fcD N (begF b (bs.take i)))), (p, .lst st0)])) (pin ⟨_, rfl, rfl⟩) ?_ ?_
  · rintro i v _ _ hi ⟨x8, rfl, rfl⟩
    have hv := T0.bt v (List.mem_of_getElem? hi)
    walk_at "nm"
    refine wp_setL (wv_propP (wv_var rfl ⟨_, rfl, (n, f, ms, b), rfl, trivial, wv_var rfl (wv_var rfl ⟨q, v, 0, _, rfl, rfl, rfl, by simp; exact hv, pin ⟨_, rfl, ?_⟩⟩)⟩))
    rw [take_snoc hi, ← begF_step, ← fc_set]
    rfl
  rintro _ _ ⟨x8, rfl, rfl⟩
  rw [List.take_length]
  refine wp_seq (sv_whileN (fun m Δ' O' => Pin (∃ x8 x9 x10 x11 x12 ws X st, Δ' = [some (an CJ CA n f ms b), some (prD CP N bs es), some (.lst (tab n f)), some (.fdc (kdM ms)), some (.lst (rowsD N (outR es))), some (.lst (intsD ws)), some (.ref p), some (.ref q), x8, x9, x10, x11, x12] ∧ O' = [(q, .lst (fcD N X)), (p, .lst st)] ∧
    Wai n N f (mpF ms) b bs es ws X ∧ st.length ≤ bs.length + pot n f X N ∧ m = if ws = [] then 0 else 1 + (N * n - pot n f X N))) (m0 := _) (pin ⟨_, _, _, _, _, bs, begF b bs, st0, rfl, rfl, ⟨fd_start J A0.bg, T0.nd, T0.bt, fun v m => ?_, fun e m => ?_⟩, by omega, rfl⟩) ?_)
  · unfold begF
    rw [if_pos m]
    simp
  · by_cases hb : e.1 ∈ bs
    · exact .inl hb
    · refine .inr fun u hu => ?_
      unfold begF at hu
      rw [if_neg hb] at hu
      cases hu
  rintro m _ _ ⟨x8, x9, x10, x11, x12, ws, X, st, rfl, rfl, W, hst, rfl⟩
  refine wt_truL (wv_var rfl ⟨_, rfl, fun hw => ?_, fun hw => ?_⟩)
  · have hw : ws ≠ [] := fun z => by subst z; simp at hw
    rw [if_neg hw]
    refine sv_nxF ?_
    refine wp_seq (wp_set (wv_dnew fun r => ?_))
    walk_at "nm"
    refine wp_seq (wp_for (wi_list (wv_var rfl ⟨_, rfl, ?_⟩)))
    refine for_U (us := ws) (g := fun (v : Nat) => Dt.int (v : Int)) (fun i Δ' O' => Pin (∃ x8 x10 x11 x12 cs X' st', Δ' = [some (an CJ CA n f ms b), some (prD CP N bs es), some (.lst (tab n f)), some (.fdc (kdM ms)), some (.lst (rowsD N (outR es))), some (.lst (intsD ws)), some (.ref p), some (.ref q), x8, some (.ref r), x10, x11, x12] ∧
      O' = [(r, .dic (setD (ci cs))), (q, .lst (fcD N X')), (p, .lst st')] ∧ Wro n N f (mpF ms) b bs es X (ws.drop i) [] cs X' ∧ st'.length ≤ bs.length + pot n f X' N)) (pin ⟨_, _, _, _, [], X, st, rfl, rfl, wro_start W, hst⟩) ?_ ?_
    · rintro i v _ _ hi ⟨x8, x10, x11, x12, cs, X', st', rfl, rfl, R, hst'⟩
      have hvN := W.lt v (List.mem_of_getElem? hi)
      have ed : ws.drop i = v :: ws.drop (i + 1) := by
        have hl := (List.getElem?_eq_some_iff.mp hi).1
        rw [List.drop_eq_getElem_cons hl]
        rw [List.getElem?_eq_getElem hl] at hi
        rw [Option.some.inj hi]
      rw [ed] at R
      have R1 := wro_take R
      have hv1 : X' v ≠ none := R.has v (.inr (List.mem_cons_self ..))
      clear R
      walk_at "nm"
      refine wp_for (wi_list (wv_op (wv_var rfl (wv_var rfl (ko_ixN so_lst (rgm_get hvN) ⟨_, rfl, ?_⟩)))))
      refine for_U2 (us := outE es v) (a := fun e => .str e.2.1) (b := fun e => .int (e.2.2 : Int)) (fun j Δ' O' => Pin (∃ x10 x11 x12 cs X' st', Δ' = [some (an CJ CA n f ms b), some (prD CP N bs es), some (.lst (tab n f)), some (.fdc (kdM ms)), some (.lst (rowsD N (outR es))), some (.lst (intsD ws)), some (.ref p), some (.ref q), some (.int (v : Int)), some (.ref r), x10, x11, x12] ∧
        O' = [(r, .dic (setD (ci cs))), (q, .lst (fcD N X')), (p, .lst st')] ∧ Wro n N f (mpF ms) b bs es X (ws.drop (i + 1)) ((outE es v).drop j) cs X' ∧ X' v ≠ none ∧ st'.length ≤ bs.length + pot n f X' N)) (pin ⟨_, _, _, cs, X', st', rfl, rfl, R1, hv1, hst'⟩) ?_ ?_
      · clear R1 hv1 hst' cs X' st'
        rintro j e _ _ hj ⟨x10, x11, x12, cs, X', st', rfl, rfl, R, hv1, hst'⟩
        have hm := List.mem_filter.mp (List.mem_of_getElem? hj)
        have he := hm.1
        have hev : e.1 = v := of_decide_eq_true hm.2
        have ed : (outE es v).drop j = e :: (outE es v).drop (j + 1) := by
          have hl := (List.getElem?_eq_some_iff.mp hj).1
          rw [List.drop_eq_getElem_cons hl]
          rw [List.getElem?_eq_getElem hl] at hj
          rw [Option.some.inj hj]
        rw [ed] at R
        obtain ⟨u, hu⟩ : ∃ u, X' v = some u := by
          cases h : X' v with
          | none => exact absurd h hv1
          | some u => exact ⟨u, rfl⟩
        have hu' : X' e.1 = some u := by rw [hev]; exact hu
        obtain ⟨h1, h2, h3⟩ := T0.et e he
        obtain ⟨vs, hvs⟩ := in_ms h3
        have hl := look_kdM M.nd hvs
        have hun := R.fd.lt v u hu
        have hvl : vs.length = n := (M.mp _ hvs).1
        have e2 : mapAt ms e.2.1 = vs := mapAt_mem M.nd hvs
        have hg : (intsD vs)[u]? = some (.int ((vs.getD u 0 : Nat) : Int)) := map_get (getD_get (by omega))
        have hmp : vs.getD u 0 = mpF ms e.2.1 u := by show _ = (mapAt ms e.2.1).getD u 0; rw [e2]
        have hgv : (fcD N X')[v]? = some (.int (u : Int)) := by rw [fc_get hvN, hu]; rfl
        have hgt : (fcD N X')[e.2.2]? = some (oD (X' e.2.2)) := fc_get h2
        have hled : mpF ms e.2.1 u < n := X0'.lt _ _ hun
        have hstl : st'.length < 100000 := by
          have := pot_le (n := n) (f := f) (X := X') (N := N)
          have h5 : N * n ≤ 64 * 64 := Nat.mul_le_mul (by omega) (by omega)
          omega
        have hcs : cs.length < 100000 := by
          have := nat_few N cs R.nd R.lt
          omega
        walk_at "nm"
        refine wp_seq (wp_set (wv_callP (wa_cons (wv_var rfl (wa_cons (wv_op (wv_var rfl (wv_var rfl (ko_ixN (so_own (List.mem_cons_of_mem _ (List.mem_cons_self ..))) hgt (wa_cons (wv_op (wv_dget (wv_var rfl (wv_var rfl ⟨_, .inr e.2.1, _, do_fdc, rfl, hl, wv_op (wv_var rfl (wv_var rfl (ko_ixN (so_own (List.mem_cons_of_mem _ (List.mem_cons_self ..))) hgv (ko_ixN so_lst hg (wa_nil ⟨(n, f, X' e.2.2, vs.getD u 0), rfl, ⟨R.fd.lt _, by rw [hmp]; exact hled⟩, ?_⟩)))))⟩))))))))))))))
        dsimp only
        rw [hmp]
        walk_at "nm"
        refine wp_if (wt_test (wv_op (wv_var rfl (wv_op (wv_var rfl (wv_var rfl (ko_ixN (so_own (List.mem_cons_of_mem _ (List.mem_cons_self ..))) hgt (ko (opd_neR .self .self rfl eok_oD) ⟨_, rfl, fun hc => ?_, fun hc => ?_⟩))))))))
        · rw [eq_oD] at hc
          have hx : X' e.2.2 ≠ some (stp f (mpF ms) X' e u) := fun z => by
            rw [decide_eq_true z] at hc
            cases hc
          obtain ⟨R2, hp⟩ := wro_new X0' R he h2 hu' hx
          refine wp_seq (wp_setL (wv_var rfl (wv_var rfl (wv_var rfl ⟨q, e.2.2, 1, _, rfl, rfl, rfl, by simp; exact h2, ?_⟩))))
          rw [show Dt.int ((jto f (X' e.2.2) (mpF ms e.2.1 u) : Nat) : Int) = oD (some (stp f (mpF ms) X' e u)) from rfl, fc_set]
          walk_at "nm"
          refine wp_seq (wp_drop (wv_bm (wv_var rfl ⟨p, _, rfl, List.mem_cons_of_mem _ (List.mem_cons_of_mem _ (List.mem_cons_self ..)), wa_cons (wv_tup (wa_cons (wv_var rfl (wa_cons (wv_tup (wa_cons (wv_var rfl (wa_cons (wv_var rfl (wa_nil ⟨by simp, wa_nil ⟨by simp, wa_nil (kb (bmd_append (i := 2) rfl hstl) ?_)⟩⟩))))))))))⟩)))
          walk_at "nm"
          refine wp_sput (wv_bl (wv_var rfl (wv_var rfl ⟨r, (e.2.2 : Int), 0, ci cs, rfl, rfl, rfl, rfl, by rw [List.length_map]; exact hcs, ?_⟩)))
          rw [putN_addN]
          walk_at "nm"
          refine pin ⟨_, _, _, addN cs e.2.2, setF X' e.2.2 (stp f (mpF ms) X' e u), _, rfl, rfl, R2, ?_, by rw [List.length_append, List.length_singleton]; omega⟩
          by_cases hz : v = e.2.2
          · rw [hz, setF_self]; simp
          · rw [setF_ne hz]; exact hv1
        · rw [eq_oD] at hc
          have hx : X' e.2.2 = some (stp f (mpF ms) X' e u) := by
            have : decide (X' e.2.2 = some (jto f (X' e.2.2) (mpF ms e.2.1 u))) = true := by simpa using hc
            exact of_decide_eq_true this
          exact wp_next (pin ⟨_, _, _, cs, X', st', rfl, rfl, wro_same X0' R hu' hx, hv1, hst'⟩)
      · clear R1 hv1 hst' cs X' st'
        rintro _ _ ⟨x10, x11, x12, cs, X', st', rfl, rfl, R, hv1, hst'⟩
        rw [List.drop_length] at R
        exact pin ⟨_, _, _, _, cs, X', st', rfl, rfl, R, hst'⟩
    · rintro _ _ ⟨x8, x10, x11, x12, cs, X', st', rfl, rfl, R, hst'⟩
      rw [List.drop_length] at R
      have hp := pot_le (n := n) (f := f) (X := X') (N := N)
      have hup := R.up
      have hpt := R.pt
      walk_at "nm"
      refine wp_set (wv_cb (wa_cons (wv_var rfl (wa_nil (kcf (cad_listSet (List.mem_cons_self ..)) ?_)))))
      rw [ci_d]
      refine ⟨[(q, .lst (fcD N X')), (p, .lst st')], List.sublist_cons_self .., _, ?_, pin ⟨_, _, _, _, _, cs, X', st', rfl, rfl, wro_end (ws := []) R, hst', rfl⟩⟩
      split
      · omega
      · rename_i hc
        have := hup hc
        omega
  · have hw : ws = [] := by
      cases ws with
      | nil => rfl
      | cons v ws => simp at hw
    subst hw
    have hF : IsF n f ms b bs es X := ⟨W.fd, wai_end (ws := []) W⟩
    have hX := fct_eq J hF
    refine wp_ret (wv_tup (wa_cons (wv_var rfl (wa_cons (wv_var rfl (wa_nil ⟨by simp, q, p, st, rfl, ?_⟩))))))
    show [(q, Ow.lst (fcD N X)), (p, Ow.lst st)] = [(q, Ow.lst (fcD N (fct n f ms b bs es))), (p, Ow.lst st)]
    rw [hX]
noncomputable abbrev preFacts (CJ CA CP : Addr) : Pre := preN (ffArg CJ CA CP) ffC (fun a => fcD a.2.1 (ffX a))
theorem ok_facts_of (T : Top K mg CJ CA CP) : Has P w K mg base CX0 7 "facts_of" ["analysis", "program"] (mkSp K (preFacts CJ CA CP)) := by
  refine has_of T.d_facts_of sc_facts_of (lenN fun _ => rfl) ?_
  intro f0 cdv A outer s H E hr
  have h_check_fits := ok_check_fits (P := P) (w := w) (base := base) T
  have h_found_facts := ok_found_facts (P := P) (w := w) (base := base) T
  refine ⟨_, (pss_cons (ps_expr (pe_has h_check_fits (hr.mono (by decide)) (by rfl) pass0 (pa_cons (pv 0) (pa_cons (pv 1) pa_nil))))
       (pss_cons (ps_asg (pe_has h_found_facts (hr.mono (by decide)) (by rfl) pass0 (pa_cons (pv 0) (pa_cons (pv 1) pa_nil))) (show PG _ _ (gTup K 2 (gCons (gName 2) (gCons (gName 3) gNil))) from (pg_tup rfl (pgs_cons (pgn 2 sc_facts_of.nd) (pgs_cons (pgn 3 sc_facts_of.nd) pgs_nil)))))
       (pss_one (ps_ret (pv 2))))), ?_⟩
  rintro _ _ _ _ ⟨a, rfl, hC, rfl, rfl, rfl⟩
  have T0 := hC.2
  have M := hC.1.mo
  refine sv_rtF ?_
  walk_at "go"
  try dsimp only
  refine wp_seq (wp_drop (wv_callP (wa_cons (wv_var rfl (wa_cons (wv_var rfl (wa_nil ⟨a, rfl, ⟨T0.el, M.few, fun e m => (T0.et e m).2.2⟩, ?_⟩)))))))
  refine wp_seq (wp_asg2 (wv_call (wa_cons (wv_var rfl (wa_cons (wv_var rfl (wa_nil ⟨[], [], _, .refl _, ⟨a, rfl, hC, rfl, rfl, rfl⟩, ?_⟩)))))))
  rintro _ _ ⟨q, p, st, rfl, rfl⟩
  refine ⟨_, .refl _, _, _, rfl, ?_⟩
  walk_at "nm"
  refine wp_ret (wv_var rfl ⟨[(q, _)], ?_, q, rfl, rfl⟩)
  exact List.Sublist.cons₂ _ (List.nil_sublist _)
end
end
section
set_option maxRecDepth 100000
set_option maxHeartbeats 1000000
open PySem PySem.Spec PyProof.Rows L2 FF
open Evl (Ex)
section
variable {P : Program} {w : World} {K : PySem.W.Frag} {mg : Str → Option Value} {base : Heap} {CJ CA CP : Addr}
abbrev FvA : Type := Nat × (Nat → Nat → Nat) × Ms × Nat
def preFvs (CJ : Addr) : Pre := fun ds O Φ Ψ => ∃ a : FvA, ds = [jo CJ a.1 a.2.1, .fdc (kdM a.2.2.1), .int (a.2.2.2 : Int)] ∧ (Jn a.1 a.2.1 ∧ MsOk a.1 a.2.1 a.2.2.1 ∧ a.2.2.2 < a.1) ∧ O = [] ∧
  Φ = (fun d O' => ∃ q vs, d = .ref q ∧ O' = [(q, .lst (intsD vs))] ∧ vs.Nodup ∧ (∀ v ∈ vs, v < a.1) ∧ ∀ v, v ∈ vs ↔ Cm a.2.1 (a.2.2.1.map (·.2)) a.2.2.2 v) ∧ Ψ = X0
theorem ok_found_values (T : Top K mg CJ CA CP) : Has P w K mg base CX0 2 "found_values" ["joins", "maps", "begin"] (mkSp K (preFvs CJ)) := by
  refine has_of T.d_found_values sc_found_values ?_ ?_
  · rintro ds O Φ Ψ ⟨a, rfl, _⟩
    rfl
  intro f0 cdv A outer s H E hr
  have cl_Joins := T.cl_Joins
  have z_len := T.z_len
  have m_Joins_join := ok_join (P := P) (w := w) (base := base) T
  refine ⟨_, (pss_cons (pset 3 sc_found_values.nd (pe_disp (pps_cons (pv 2) pe_bl pps_nil) (by rfl) (by rfl) (fun z => by cases z) (by decide)))
       (pss_cons (pset 4 sc_found_values.nd (pe_lst (pa_cons (pv 2) pa_nil)))
       (pss_cons (pset 5 sc_found_values.nd pe_int)
       (pss_cons (ps_while PassesOwn.never (pt_cmpR op_lt (pv 5) (pe_callB call_len (by rfl) z_len (by decide +kernel) (pa_cons (pv 4) pa_nil)) (nomark _))
       (pss_cons (ps_setLc (i := 6) (own := [("name", 9)]) rfl sc_found_values.nd rfl rfl (sw_true rfl rfl rfl (by decide +kernel)) (pi_keys (pv 1)) (blkOk_by (own := [("name", 9)]) (N := ["joins", "maps", "begin", "found", "values", "at", "made", "joined", "value", "name"]) (sc := defScope s_found_values) (by decide +kernel)) (fun _ _ _ _ _ => (pgn 9 sc_found_values.nd)) (fun _ _ _ _ _ => pts_nil) (fun _ _ _ _ _ => (pe_ix (show IxR _ (rIx K) from ix_seq) (pe_dget (hu1 hr) (pv 1) (pv 9) (fun _ _ => rfl)) (pe_ix (show IxR _ (rIx K) from ix_seq) (pv 4) (pv 5) (fun _ _ => rfl)) (fun _ _ => rfl))))
       (pss_cons (ps_setLc (i := 7) (own := [("value", 8)]) rfl sc_found_values.nd rfl rfl (sw_true rfl rfl rfl (by decide +kernel)) (pi_list (pe_slice sl_list (pv 4) po_none (po_some (pv 5)))) (blkOk_by (own := [("value", 8)]) (N := ["joins", "maps", "begin", "found", "values", "at", "made", "joined", "value", "name"]) (sc := defScope s_found_values) (by decide +kernel)) (fun _ _ _ _ _ => (pgn 8 sc_found_values.nd)) (fun _ _ _ _ _ => pts_nil) (fun _ _ _ _ _ => (pe_hasM (pv 0) cl_Joins m_Joins_join (hr.mono (by decide)) pass0 (pa_cons (pv 8) (pa_cons (pe_ix (show IxR _ (rIx K) from ix_seq) (pv 4) (pv 5) (fun _ _ => rfl)) pa_nil)))))
       (pss_cons (ps_for PassesOwn.never rfl (pi_list (pe_op op_plus (pv 6) (pv 7))) (pgn 8 sc_found_values.nd)
       (pss_one (ps_if (pt_cmp (pc_dnotin (hu1 hr) (pv 8) (pv 3)) (by rfl))
       (pss_cons (ps_dput (hu1 hr) (pv 3) (pv 8) pe_bl rfl)
       (pss_one (ps_expr (pe_bm PySem.F.plainAttrs_list PySem.F.slot_list_append PySem.F.type_list_append mt_append (pv 4) (pa_cons (pv 8) pa_nil)))))
       pss_nil)))
       (pss_one (paug 5 sc_found_values.nd pe_int ip_add))))))
       (pss_one (ps_ret (pv 4))))))), ?_⟩
  rintro _ _ _ _ ⟨⟨n, f, ms, b⟩, rfl, ⟨J, M, hb⟩, rfl, rfl, rfl⟩
  dsimp only at J M hb
  have hn := J.few
  have hg : ∀ g ∈ ms.map (·.2), g.length = n ∧ ∀ v ∈ g, v < n := fun g m => by
    obtain ⟨p, hp, rfl⟩ := List.mem_map.mp m
    exact M.mp p hp
  refine sv_rtF ?_
  walk_at "go"
  try dsimp only
  refine wp_seq (wp_set (wv_disp1N (kk := .inl (b : Int)) (x := .bl true) (wv_var rfl ⟨rfl, rfl⟩) (wv_bl ⟨rfl, rfl⟩) fun r => ?_))
  walk_at "nm"
  refine wp_seq (wp_set (wv_lstO (wa_cons (wv_var rfl (wa_nil ⟨by simp, fun q => ?_⟩)))))
  refine wp_seq (wp_set (wv_int ?_))
  walk_at "nm"
  have e0 : [((.inl (b : Int) : Key), Dt.bl true)] = setD (ci [b]) := rfl
  rw [e0]
  refine wp_seq (sv_whileN (fun m Δ' O' => Pin (∃ x6 x7 x8 vs, ∃ a : Nat, Δ' = [some (jo CJ n f), some (.fdc (kdM ms)), some (.int (b : Int)), some (.ref r), some (.ref q), some (.int (a : Int)), x6, x7, x8, none] ∧ O' = [(q, .lst (intsD vs)), (r, .dic (setD (ci vs)))] ∧
    Fv n f (ms.map (·.2)) b vs a ∧ m = n - a)) (m0 := _) (pin ⟨_, _, _, [b], 0, rfl, rfl, fv_start hb, rfl⟩) ?_)
  rintro m _ _ ⟨x6, x7, x8, vs, a, rfl, rfl, V, rfl⟩
  have hvl := fv_few V
  refine wt_test (wv_op (wv_var rfl (wv_cb (wa_cons (wv_var rfl (wa_nil (kc_lenO (List.mem_cons_self ..) (ko opd_B0 ?_))))))))
  simp only [List.length_map]
  refine ⟨_, rfl, fun h => ?_, fun h => ?_⟩
  · have ha : a < vs.length := by simpa using h
    obtain ⟨v, hv⟩ : ∃ v, vs[a]? = some v := ⟨vs[a], by simp [ha]⟩
    have hvn := V.lt v (List.mem_of_getElem? hv)
    have hgv : (intsD vs)[a]? = some (.int (v : Int)) := map_get hv
    refine wp_seq (wp_set (wv_lc (wi_keysF (wv_var rfl ⟨_, rfl, ?_⟩))))
    rw [keys_D]
    refine ⟨by rw [List.length_map]; have := M.few; omega, ?_⟩
    refine lc_U (us := ms) (g := fun p => Dt.str p.1) (fun p => Dt.int ((p.2.getD v 0 : Nat) : Int)) (List.mem_cons_self ..) (fun p hp => ?_) ?_
    · have hl := look_kdM M.nd hp
      have hgp : (intsD p.2)[v]? = some (.int ((p.2.getD v 0 : Nat) : Int)) := map_get (getD_get (by rw [(M.mp p hp).1]; exact hvn))
      exact wv_op (wv_dget (wv_var rfl (wv_var rfl ⟨_, .inr p.1, _, do_fdc, rfl, hl, wv_op (wv_var rfl (wv_var rfl (ko_ixN (so_own (List.mem_cons_self ..)) hgv (ko_ixN so_lst hgp ⟨rfl, rfl⟩))))⟩)))
    walk_at "nm"
    refine wp_seq (wp_set (wv_lc (wi_list (wv_slHiV (wv_var rfl ⟨_, lo_own (List.mem_cons_self ..), wv_var rfl ⟨rfl, a, rfl, ?_⟩⟩)))))
    rw [show (intsD vs).take a = (vs.take a).map fun (v : Nat) => Dt.int (v : Int) from (List.map_take ..).symm]
    refine ⟨_, rfl, by simp only [List.length_map, List.length_take]; omega, ?_⟩
    refine lc_U (us := vs.take a) (g := fun (v : Nat) => Dt.int (v : Int)) (fun u => Dt.int ((f u v : Nat) : Int)) (List.mem_cons_self ..) (fun u hu => ?_) ?_
    · have hun := V.lt u (List.mem_of_mem_take hu)
      exact wv_methP (wv_var rfl ⟨_, rfl, rfl, wa_cons (wv_var rfl (wa_cons (wv_op (wv_var rfl (wv_var rfl (ko_ixN (so_own (List.mem_cons_self ..)) hgv (wa_nil ⟨(n, f, u, v), rfl, ⟨J, hun, hvn⟩, rfl, rfl⟩)))))))⟩)
    walk_at "nm"
    have hU := fvU_ok J hg V hv
    have eU : (ms.map fun p => Dt.int ((p.2.getD v 0 : Nat) : Int)) ++ ((vs.take a).map fun u => Dt.int ((f u v : Nat) : Int)) = (fvU f (ms.map (·.2)) vs a v).map fun (u : Nat) => Dt.int (u : Int) := by
      unfold fvU
      rw [List.map_append, List.map_map, List.map_map, List.map_map]
      rfl
    refine wp_seq (wp_for (wi_list (wv_op (wv_var rfl (wv_var rfl (kof (opd_plusL lo_lst lo_lst ?_) ?_))))))
    · simp only [List.length_map, List.length_take]
      have := M.few
      omega
    refine ⟨_, rfl, ?_⟩
    rw [eU]
    refine for_U (us := fvU f (ms.map (·.2)) vs a v) (g := fun (u : Nat) => Dt.int (u : Int)) (fun i Δ' O' => Pin (∃ x6 x7 x8 ws, Δ' = [some (jo CJ n f), some (.fdc (kdM ms)), some (.int (b : Int)), some (.ref r), some (.ref q), some (.int (a : Int)), x6, x7, x8, none] ∧ O' = [(q, .lst (intsD ws)), (r, .dic (setD (ci ws)))] ∧ Fi n f (ms.map (·.2)) b vs ((fvU f (ms.map (·.2)) vs a v).take i) ws)) (pin ⟨_, _, _, vs, rfl, rfl, fi_start V⟩) ?_ ?_
    · rintro i u _ _ hi ⟨x6, x7, x8, ws, rfl, rfl, I⟩
      obtain ⟨hun, hcm⟩ := hU u (List.mem_of_getElem? hi)
      have hwl : ws.length ≤ n := nat_few n ws I.nd I.lt
      walk_at "nm"
      refine wp_if (wt_test (wv_dnotin (wv_var rfl (wv_var rfl ⟨_, .inl (u : Int), do_own (List.mem_cons_of_mem _ (List.mem_cons_self ..)), rfl, _, rfl, ?_, ?_⟩))))
      · intro h
        rw [look_setD] at h
        have hnew : u ∉ ws := fun m => by simp [mem_ci.mpr m] at h
        refine wp_seq (wp_sput (wv_bl (wv_var rfl (wv_var rfl ⟨r, (u : Int), 1, ci ws, rfl, rfl, rfl, rfl, by rw [List.length_map]; omega, ?_⟩))))
        rw [putN_ci hnew]
        walk_at "nm"
        refine wp_drop (wv_bm (wv_var rfl ⟨q, _, rfl, List.mem_cons_self .., wa_cons (wv_var rfl (wa_nil (kb (bmd_append (i := 0) rfl (by rw [List.length_map]; omega)) ?_)))⟩))
        walk_at "nm"
        refine pin ⟨_, _, _, ws ++ [u], rfl, ?_, ?_⟩
        · rw [show intsD (ws ++ [u]) = intsD ws ++ [.int (u : Int)] from by simp [intsD]]
        · rw [take_snoc hi]
          exact fi_new I hnew hun hcm
      · intro h
        rw [look_setD] at h
        have hold : u ∈ ws := by
          by_cases m : u ∈ ws
          · exact m
          · rw [decide_eq_false (fun z => m (mem_ci.mp z))] at h
            cases h
        refine wp_next (pin ⟨_, _, _, ws, rfl, rfl, ?_⟩)
        rw [take_snoc hi]
        exact fi_old I hold
    · rintro _ _ ⟨x6, x7, x8, ws, rfl, rfl, I⟩
      rw [List.take_length] at I
      refine sv_aug (a := (a : Int)) (b := 1) rfl (wv_int ⟨rfl, rfl⟩) ?_
      walk_at "nm"
      refine ⟨n - (a + 1), by omega, pin ⟨x6, x7, x8, ws, a + 1, rfl, rfl, fv_next V hv I, rfl⟩⟩
  · have ha : a = vs.length := by
      have := V.le
      simp at h
      omega
    subst ha
    refine wp_ret (wv_var rfl ⟨[(q, _)], List.Sublist.cons₂ _ (List.nil_sublist _), q, vs, rfl, rfl, V.nd, V.lt, fv_end J V⟩)
noncomputable abbrev spComing (CJ CA : Addr) : Pre := preN (fun (a : AnA) => [an CJ CA a.1 a.2.1 a.2.2.1 a.2.2.2]) (fun a => AnOk a.1 a.2.1 a.2.2.1 a.2.2.2) (fun a => intsD (plc a.1 (Cm a.2.1 (a.2.2.1.map (·.2)) a.2.2.2)))
theorem ok_coming (T : Top K mg CJ CA CP) : HasM P w K mg base CX0 3 CA "coming" ["self"] (mkSp K (spComing CJ CA)) := by
  refine hasM_of T.m_Analysis_coming sc_Analysis_coming (lenN fun _ => rfl) ?_
  intro f0 cdv A outer s H E hr
  have cl := T.cl_Analysis
  have na1 := T.na_Analysis__joins
  have na2 := T.na_Analysis__maps
  have na3 := T.na_Analysis__begin
  have z_sorted := T.z_sorted
  have h_found_values := ok_found_values (P := P) (w := w) (base := base) T
  refine ⟨_, (pss_one (ps_ret (pe_callB (call_sortD (hu100 hr)) (by rfl) z_sorted (by decide +kernel) (pa_cons (pe_has h_found_values (hr.mono (by decide)) (by rfl) pass0 (pa_cons (pe_fld (pv 0) rfl) (pa_cons (pe_fld (pv 0) rfl) (pa_cons (pe_fld (pv 0) rfl) pa_nil)))) pa_nil)))), ?_⟩
  rintro _ _ _ _ ⟨⟨n, f, ms, b⟩, rfl, N, rfl, rfl, rfl⟩
  dsimp only at N
  have J := N.jn
  have M := N.mo
  have hb := N.bg
  refine sv_rtF ?_
  walk_at "go"
  try dsimp only
  refine wp_ret (wv_cb (wa_cons (wv_call (wa_cons (wv_fld cl na1 (wv_var rfl ⟨_, _, rfl, rfl, wa_cons (wv_fld cl na2 (wv_var rfl ⟨_, _, rfl, rfl, wa_cons (wv_fld cl na3 (wv_var rfl ⟨_, _, rfl, rfl, wa_nil ⟨[], [], _, .refl _, ⟨(n, f, ms, b), rfl, ⟨J, M, hb⟩, rfl, rfl, rfl⟩, ?_⟩⟩))⟩))⟩))))))
  rintro _ _ ⟨q, vs, rfl, rfl, nd, lt, mem⟩
  dsimp only at lt mem
  have lo : LstOf ([(q, Ow.lst (intsD vs))] ++ []) (.ref q) ((ci vs).map .int) := by rw [ci_d]; exact lo_own (List.mem_cons_self ..)
  refine ⟨_, .refl _, wa_nil (kcnF (cad_sortD lo (so_ints _)) fun r => ?_)⟩
  have hA := asc_sort (ci_nd nd)
  rw [sortD_ints, plc_of (n := n) (p := Cm f (ms.map (·.2)) b) hA.1 fun z => ?_]
  · exact ⟨[(r, _)], List.Sublist.cons₂ _ (List.nil_sublist _), r, rfl, rfl⟩
  · rw [hA.2]
    constructor
    · intro m
      obtain ⟨v, hv, rfl⟩ := List.mem_map.mp m
      exact ⟨v, lt v hv, (mem v).mp hv, rfl⟩
    · rintro ⟨v, _, h2, rfl⟩
      exact mem_ci.mpr ((mem v).mpr h2)
end
end
section
set_option maxRecDepth 100000
set_option maxHeartbeats 1000000
open PySem PySem.Spec PyProof.Rows L2 FF
open Evl (Ex)
section
def ki (ws : List (Nat × Wd)) : List (Int × List Str) := ws.map fun p => ((p.1 : Int), p.2)
abbrev wdL (ws : List (Nat × Wd)) : List Dt := ws.map fun p => .tup [.int (p.1 : Int), wdV p.2]
theorem ki_d (ws : List (Nat × Wd)) : (ki ws).map itD = wdL ws := by unfold ki; rw [List.map_map]; rfl
abbrev dcW (ws : List (Nat × Wd)) : List (Key × Dt) := (ki ws).map itK
theorem look_w {ws : List (Nat × Wd)} (nd : (ws.map (·.1)).Nodup) {p : Nat × Wd} (m : p ∈ ws) : lookD (dcW ws) (.inl (p.1 : Int)) = some (wdV p.2) := by
  induction ws with
  | nil => cases m
  | cons q ws ih =>
    rw [List.map_cons, List.nodup_cons] at nd
    unfold lookD dcW ki
    rw [List.map_cons, List.map_cons, List.find?_cons]
    by_cases e : q.1 = p.1
    · have : q = p := by
        rcases List.mem_cons.mp m with h | h
        · exact h.symm
        · exact absurd (List.mem_map.mpr ⟨p, h, e.symm⟩) nd.1
      subst this
      simp
    · have hp : p ∈ ws := by
        rcases List.mem_cons.mp m with h | h
        · rw [h] at e; exact absurd rfl e
        · exact h
      have hi := ih nd.2 hp
      have e2 : decide ((itK ((q.1 : Int), q.2)).1 = (.inl (p.1 : Int) : Key)) = false := decide_eq_false fun z => e (Int.ofNat_inj.mp (Sum.inl.inj z))
      rw [e2]
      exact hi
theorem look_wN {ws : List (Nat × Wd)} {v : Nat} (h : v ∉ ws.map (·.1)) : lookD (dcW ws) (.inl (v : Int)) = none := by
  unfold lookD
  rw [Option.map_eq_none_iff, List.find?_eq_none]
  intro w mw e
  unfold dcW ki at mw
  rw [List.map_map] at mw
  obtain ⟨p, mp, rfl⟩ := List.mem_map.mp mw
  have e1 : (Sum.inl (p.1 : Int) : Key) = .inl (v : Int) := of_decide_eq_true e
  exact h (List.mem_map.mpr ⟨p, mp, Int.ofNat_inj.mp (Sum.inl.inj e1)⟩)
theorem look_wS {ws : List (Nat × Wd)} (nd : (ws.map (·.1)).Nodup) {v : Nat} : (lookD (dcW ws) (.inl (v : Int))).isSome = decide (v ∈ ws.map (·.1)) := by
  by_cases h : v ∈ ws.map (·.1)
  · obtain ⟨p, hp, rfl⟩ := List.mem_map.mp h
    rw [look_w nd hp, decide_eq_true h]
    rfl
  · rw [look_wN h, decide_eq_false h]
    rfl
theorem put_w {ws : List (Nat × Wd)} {v : Nat} {u : Wd} (h : v ∉ ws.map (·.1)) : putD (dcW ws) (.inl (v : Int)) (wdV u) = dcW (ws ++ [(v, u)]) := by
  rw [putD_new]
  · unfold dcW ki
    rw [List.map_append, List.map_append]
    rfl
  · intro m
    obtain ⟨w, mw, e⟩ := List.mem_map.mp m
    unfold dcW ki at mw
    rw [List.map_map] at mw
    obtain ⟨p, mp, rfl⟩ := List.mem_map.mp mw
    exact h (List.mem_map.mpr ⟨p, mp, Int.ofNat_inj.mp (Sum.inl.inj e)⟩)
theorem dcW_len {ws : List (Nat × Wd)} : (dcW ws).length = ws.length := by unfold dcW ki; rw [List.length_map, List.length_map]
open Classical in
noncomputable def wvL (ns : List Str) (stp : Str → Nat → Nat) (b : Nat) : List (Nat × Wd) := if h : ∃ ps, WVs ns stp b ps then Classical.choose h else []
theorem wvL_eq {ns : List Str} {stp : Str → Nat → Nat} {b : Nat} {ps : List (Nat × Wd)} (h : WVs ns stp b ps) : ps = wvL ns stp b := by
  have hx : ∃ ps, WVs ns stp b ps := ⟨ps, h⟩
  unfold wvL
  rw [dif_pos hx]
  exact wvs_uniq h (Classical.choose_spec hx)
theorem ki_perm {ws : List (Nat × Wd)} {prs : List (Int × List Str)} (h : prs.Perm (ki ws)) : ∃ ps : List (Nat × Wd), ps.Perm ws ∧ prs = ki ps := by
  obtain ⟨vs, h1, h2⟩ := perm_of_map (f := fun p : Nat × Wd => ((p.1 : Int), p.2)) h
  exact ⟨vs, h1, h2⟩
theorem sort_wvs {ns : List Str} {stp : Str → Nat → Nat} {b : Nat} {ws ps : List (Nat × Wd)} (nd : (ws.map (·.1)).Nodup) (mem : ∀ v w, (v, w) ∈ ws ↔ LW ns stp b v w) (h : ps.Perm ws) (hs : (ki ps).Pairwise fun x y => leIt x y = true) : WVs ns stp b ps := by
  refine ⟨?_, fun v w => by rw [h.mem_iff]; exact mem v w⟩
  have nd2 : (ps.map (·.1)).Nodup := (h.map _).nodup_iff.mpr nd
  have h1 : ps.Pairwise fun x y => x.1 ≤ y.1 := (List.pairwise_map.mp hs).imp fun h => Int.ofNat_le.mp (leIt_int h)
  exact (h1.and (List.pairwise_map.mp nd2)).imp fun h => by omega
end
section
variable {P : Program} {w : World} {K : PySem.W.Frag} {mg : Str → Option Value} {base : Heap} {CJ CA CP : Addr}
noncomputable abbrev wvA (a : AnA) : List (Nat × Wd) := wvL (a.2.2.1.map (·.1)) (mpF a.2.2.1) a.2.2.2
noncomputable abbrev spWv (CJ CA : Addr) : Pre := preN (fun (a : AnA) => [an CJ CA a.1 a.2.1 a.2.2.1 a.2.2.2]) (fun a => AnOk a.1 a.2.1 a.2.2.1 a.2.2.2) (fun a => wdL (wvA a))
theorem ok_word_values (T : Top K mg CJ CA CP) : HasM P w K mg base CX0 1 CA "word_values" ["self"] (mkSp K (spWv CJ CA)) := by
  refine hasM_of T.m_Analysis_word_values sc_Analysis_word_values (lenN fun _ => rfl) ?_
  intro f0 cdv A outer s H E hr
  have cl := T.cl_Analysis
  have na2 := T.na_Analysis__maps
  have na3 := T.na_Analysis__begin
  have z_sorted := T.z_sorted
  have z_len := T.z_len
  refine ⟨_, (pss_cons (pset 1 sc_Analysis_word_values.nd (pe_disp (pps_cons (pe_fld (pv 0) rfl) (pe_tup pa_nil) pps_nil) (by rfl) (by rfl) (fun z => by cases z) (by decide)))
       (pss_cons (pset 2 sc_Analysis_word_values.nd (pe_lst (pa_cons (pe_fld (pv 0) rfl) pa_nil)))
       (pss_cons (pset 3 sc_Analysis_word_values.nd pe_int)
       (pss_cons (ps_while PassesOwn.never (pt_cmpR op_lt (pv 3) (pe_callB call_len (by rfl) z_len (by decide +kernel) (pa_cons (pv 2) pa_nil)) (nomark _))
       (pss_cons (ps_for PassesOwn.never rfl (pi_keys (pe_fld (pv 0) rfl)) (pgn 4 sc_Analysis_word_values.nd)
       (pss_cons (pset 5 sc_Analysis_word_values.nd (pe_ix ix_seq (pe_dget (hu1 hr) (pe_fld (pv 0) rfl) (pv 4) (fun _ _ => rfl)) (pe_ix ix_seq (pv 2) (pv 3) (fun _ _ => rfl)) (fun _ _ => rfl)))
       (pss_one (ps_if (pt_cmp (pc_dnotin (hu1 hr) (pv 5) (pv 1)) (by rfl))
       (pss_cons (ps_dput (hu1 hr) (pv 1) (pv 5) (pe_op op_plus (pe_dget (hu1 hr) (pv 1) (pe_ix ix_seq (pv 2) (pv 3) (fun _ _ => rfl)) (fun _ _ => rfl)) (pe_tup (pa_cons (pv 4) pa_nil))) rfl)
       (pss_one (ps_expr (pe_bm PySem.F.plainAttrs_list PySem.F.slot_list_append PySem.F.type_list_append mt_append (pv 2) (pa_cons (pv 5) pa_nil)))))
       pss_nil))))
       (pss_one (paug 3 sc_Analysis_word_values.nd pe_int ip_add))))
       (pss_one (ps_ret (pe_callB (call_sortItK rfl (hu100 hr)) (by rfl) z_sorted (by decide +kernel) (pa_cons (pe_bm0 PySem.F.plainAttrs_dict PySem.F.slot_dict_items PySem.F.type_dict_items mt_itemsK (pv 1)) pa_nil)))))))), ?_⟩
  rintro _ _ _ _ ⟨⟨n, f, ms, b⟩, rfl, N, rfl, rfl, rfl⟩
  dsimp only at N
  have J := N.jn
  have M := N.mo
  have hb := N.bg
  have hn := J.few
  have hr2 : RiseS (ms.map (·.1)) := N.rise
  have hst : ∀ s ∈ ms.map (·.1), ∀ v, v < n → mpF ms s v < n := fun s m v hv => by
    obtain ⟨vs, hm⟩ := in_ms m
    show (mapAt ms s).getD v 0 < n
    rw [mapAt_mem M.nd hm]
    exact getD_in (by rw [(M.mp _ hm).1]; exact hv) (M.mp _ hm).2
  refine sv_rtF ?_
  walk_at "go"
  try dsimp only
  refine wp_seq (wp_set (wv_disp1N (kk := .inl (b : Int)) (x := wdV []) (wv_fld cl na3 (wv_var rfl ⟨_, _, rfl, rfl, rfl, rfl⟩)) (wv_tup (wa_nil ⟨by simp, rfl, rfl⟩)) fun r => ?_))
  walk_at "nm"
  refine wp_seq (wp_set (wv_lstO (wa_cons (wv_fld cl na3 (wv_var rfl ⟨_, _, rfl, rfl, wa_nil ⟨by simp, fun q => ?_⟩⟩)))))
  walk_at "nm"
  refine wp_seq (wp_set (wv_int ?_))
  walk_at "nm"
  have e0 : [((.inl (b : Int) : Key), wdV [])] = dcW [(b, [])] := rfl
  rw [e0]
  refine wp_seq (sv_whileN (fun m Δ' O' => Pin (∃ x4 x5 ws, ∃ a : Nat, Δ' = [some (an CJ CA n f ms b), some (.ref r), some (.ref q), some (.int (a : Int)), x4, x5] ∧ O' = [(q, .lst (intsD (ws.map (·.1)))), (r, .dic (dcW ws))] ∧
    Qu (ms.map (·.1)) (mpF ms) b ws a 0 ∧ a ≤ ws.length ∧ (∀ p ∈ ws, p.1 < n ∧ p.2.length < ws.length) ∧ m = n - a)) (m0 := _) (pin ⟨_, _, [(b, [])], 0, rfl, rfl, qu_start, by simp, fun p m => by rw [List.mem_singleton.mp m]; exact ⟨hb, by simp⟩, rfl⟩) ?_)
  rintro m _ _ ⟨x4, x5, ws, a, rfl, rfl, Q, hal, hw, rfl⟩
  have hfew : ∀ ws : List (Nat × Wd), (ws.map (·.1)).Nodup → (∀ p ∈ ws, p.1 < n) → ws.length ≤ n := fun ws nd lt => by
    have := nat_few n (ws.map (·.1)) nd fun v m => by
      obtain ⟨p, hp, rfl⟩ := List.mem_map.mp m
      exact lt p hp
    simpa using this
  have hwl := hfew ws Q.nd fun p m => (hw p m).1
  refine wt_test (wv_op (wv_var rfl (wv_cb (wa_cons (wv_var rfl (wa_nil (kc_lenO (List.mem_cons_self ..) (ko opd_B0 ?_))))))))
  simp only [List.length_map]
  refine ⟨_, rfl, fun h => ?_, fun h => ?_⟩
  · have ha : a < ws.length := by simpa using h
    obtain ⟨p0, hp0⟩ : ∃ p, ws[a]? = some p := ⟨ws[a], by simp [ha]⟩
    have hpn := (hw p0 (List.mem_of_getElem? hp0)).1
    refine wp_seq (wp_for (wi_keysF (wv_fld cl na2 (wv_var rfl ⟨_, _, rfl, rfl, _, rfl, ?_⟩))))
    rw [keys_D]
    refine for_U (us := ms) (g := fun p => Dt.str p.1) (fun j Δ' O' => Pin (∃ x4 x5 ws, Δ' = [some (an CJ CA n f ms b), some (.ref r), some (.ref q), some (.int (a : Int)), x4, x5] ∧ O' = [(q, .lst (intsD (ws.map (·.1)))), (r, .dic (dcW ws))] ∧
      Qu (ms.map (·.1)) (mpF ms) b ws a j ∧ ws[a]? = some p0 ∧ ∀ p ∈ ws, p.1 < n ∧ p.2.length < ws.length)) (pin ⟨_, _, ws, rfl, rfl, Q, hp0, hw⟩) ?_ ?_
    · clear Q hal hw hwl ha hp0 h ws
      rintro j p _ _ hj ⟨x4, x5, ws, rfl, rfl, Q, hp0, hw⟩
      have hwl := hfew ws Q.nd fun p m => (hw p m).1
      have hp := List.mem_of_getElem? hj
      have hl := look_kdM M.nd hp
      have ha : a < ws.length := (List.getElem?_eq_some_iff.mp hp0).1
      have hgp : (intsD p.2)[p0.1]? = some (.int ((p.2.getD p0.1 0 : Nat) : Int)) := map_get (getD_get (by rw [(M.mp p hp).1]; exact hpn))
      have hgv : (intsD (ws.map (·.1)))[a]? = some (.int (p0.1 : Int)) := map_get (by rw [List.getElem?_map, hp0]; rfl)
      have hjs : (ms.map (·.1))[j]? = some p.1 := by rw [List.getElem?_map, hj]; rfl
      have hmp : p.2.getD p0.1 0 = mpF ms p.1 p0.1 := by show _ = (mapAt ms p.1).getD p0.1 0; rw [mapAt_mem M.nd hp]
      have hln := hst p.1 (List.mem_map.mpr ⟨p, hp, rfl⟩) p0.1 hpn
      walk_at "nm"
      refine wp_seq (wp_set (wv_op (wv_dget (wv_fld cl na2 (wv_var rfl ⟨_, _, rfl, rfl, wv_var rfl ⟨_, .inr p.1, _, do_fdc, rfl, hl, wv_op (wv_var rfl (wv_var rfl (ko_ixN (so_own (List.mem_cons_self ..)) hgv (ko_ixN so_lst hgp ?_))))⟩⟩)))))
      rw [hmp]
      walk_at "nm"
      refine wp_if (wt_test (wv_dnotin (wv_var rfl (wv_var rfl ⟨_, .inl ((mpF ms p.1 p0.1 : Nat) : Int), do_own (List.mem_cons_of_mem _ (List.mem_cons_self ..)), rfl, _, rfl, ?_, ?_⟩))))
      · intro h
        rw [look_wS Q.nd] at h
        have hnew : mpF ms p.1 p0.1 ∉ ws.map (·.1) := fun m => by rw [decide_eq_true m] at h; cases h
        have Q2 := qu_new Q hr2 M.nd hp0 hjs hnew
        have hlk := look_w Q.nd (List.mem_of_getElem? hp0)
        have hp0l := (hw p0 (List.mem_of_getElem? hp0)).2
        refine wp_seq (wp_dput (wv_op (wv_dget (wv_var rfl (wv_op (wv_var rfl (wv_var rfl (ko_ixN (so_own (List.mem_cons_self ..)) hgv ⟨_, .inl (p0.1 : Int), _, do_own (List.mem_cons_of_mem _ (List.mem_cons_self ..)), rfl, hlk, wv_tup (wa_cons (wv_var rfl (wa_nil ⟨by simp, ko (opd_plusT (by rw [List.length_map]; simp; omega)) (wv_var rfl (wv_var rfl ⟨r, ((mpF ms p.1 p0.1 : Nat) : Int), 1, _, rfl, rfl, rfl, by rw [dcW_len]; omega, ?_⟩))⟩)))⟩))))))))
        rw [show p0.2.map Dt.str ++ [Dt.str p.1] = (p0.2 ++ [p.1]).map Dt.str from by rw [List.map_append]; rfl, put_w hnew]
        walk_at "nm"
        refine wp_drop (wv_bm (wv_var rfl ⟨q, _, rfl, List.mem_cons_self .., wa_cons (wv_var rfl (wa_nil (kb (bmd_append (i := 0) rfl (by rw [List.length_map, List.length_map]; omega)) ?_)))⟩))
        walk_at "nm"
        refine pin ⟨_, _, ws ++ [(mpF ms p.1 p0.1, p0.2 ++ [p.1])], rfl, ?_, Q2, ?_, fun p' m => ?_⟩
        · rw [show intsD ((ws ++ [(mpF ms p.1 p0.1, p0.2 ++ [p.1])]).map (·.1)) = intsD (ws.map (·.1)) ++ [.int ((mpF ms p.1 p0.1 : Nat) : Int)] from by simp [intsD]]
        · rw [List.getElem?_append_left ha]; exact hp0
        · rw [List.length_append, List.length_singleton]
          rcases List.mem_append.mp m with m | m
          · have := hw p' m
            omega
          · rw [List.mem_singleton.mp m]
            refine ⟨hln, ?_⟩
            simp
            omega
      · intro h
        rw [look_wS Q.nd] at h
        have hold : mpF ms p.1 p0.1 ∈ ws.map (·.1) := by
          by_cases m : mpF ms p.1 p0.1 ∈ ws.map (·.1)
          · exact m
          · rw [decide_eq_false m] at h
            cases h
        exact wp_next (pin ⟨_, _, ws, rfl, rfl, qu_old Q hr2 M.nd hp0 hjs hold, hp0, hw⟩)
    · clear Q hal hw hwl ha hp0 h ws
      rintro _ _ ⟨x4, x5, ws, rfl, rfl, Q, hp0, hw⟩
      have hwl := hfew ws Q.nd fun p m => (hw p m).1
      have ha : a < ws.length := (List.getElem?_eq_some_iff.mp hp0).1
      refine sv_aug (a := (a : Int)) (b := 1) rfl (wv_int ⟨rfl, rfl⟩) ?_
      walk_at "nm"
      have eL : (ms.map (·.1)).length = ms.length := List.length_map ..
      rw [← eL] at Q
      refine ⟨n - (a + 1), by omega, pin ⟨x4, x5, ws, a + 1, rfl, rfl, qu_next Q, by omega, hw, rfl⟩⟩
  · have ha : a = ws.length := by
      simp at h
      omega
    subst ha
    refine wp_ret (wv_sortItK (wv_var rfl ⟨r, ki ws, rfl, List.mem_cons_of_mem _ (List.mem_cons_self ..), fun z prs hp hs => ?_⟩))
    obtain ⟨ps, hps, rfl⟩ := ki_perm hp
    rw [ki_d, wvL_eq (sort_wvs Q.nd (fun v w => qu_lw Q v w) hps hs)]
    exact ⟨[(z, _)], List.Sublist.cons₂ _ (List.nil_sublist _), z, rfl, rfl⟩
end
end
section
set_option maxRecDepth 100000
set_option maxHeartbeats 1000000
open PySem PySem.Spec PyProof.Rows L2 FF
open Evl (Ex)
section
/-- the edges of a path with a word -/
def lnE (w : Wd) : List E3 := w.zipIdx.map fun p => (p.2, p.1, p.2 + 1)
theorem mem_lnE {w : Wd} {e : E3} : e ∈ lnE w ↔ w[e.1]? = some e.2.1 ∧ e.2.2 = e.1 + 1 := by
  unfold lnE
  rw [List.mem_map]
  constructor
  · rintro ⟨⟨s, i⟩, m, rfl⟩
    exact ⟨List.mem_zipIdx_iff_getElem?.mp m, rfl⟩
  · rintro ⟨h1, h2⟩
    obtain ⟨i, s, t⟩ := e
    simp only at h1 h2
    subst h2
    exact ⟨(s, i), List.mem_zipIdx_iff_getElem?.mpr h1, rfl⟩
theorem lnE_len {w : Wd} : (lnE w).length = w.length := by unfold lnE; rw [List.length_map, List.length_zipIdx]
theorem lnE_ok {w : Wd} (hl : w.length ≤ 20) (hn : ∀ s ∈ w, nmOk s) : EsOk (w.length + 1) (lnE w) := by
  refine ⟨by rw [lnE_len]; omega, fun e m => ?_, fun e m => ?_⟩
  · obtain ⟨h1, h2⟩ := mem_lnE.mp m
    have := (List.getElem?_eq_some_iff.mp h1).1
    omega
  · exact hn _ (List.mem_of_getElem? (mem_lnE.mp m).1)
theorem en_w {w : Wd} : enD (w.map Dt.str) = w.zipIdx.map fun p => Dt.tup [.int (p.2 : Int), .str p.1] := by
  unfold enD
  rw [List.zipIdx_map, List.map_map]
  rfl
end
section
variable {P : Program} {w : World} {K : PySem.W.Frag} {mg : Str → Option Value} {base : Heap} {CJ CA CP : Addr}
abbrev Lin (CP : Addr) (u : Wd) (d : Dt) : Prop := ∃ es, d = prD CP (u.length + 1) [0] es ∧ PrOk (u.length + 1) [0] es ∧ ∀ e, e ∈ es ↔ e ∈ lnE u
abbrev spLine (CP : Addr) : Pre := preR (fun (u : Wd) => [wdV u]) (fun u => u.length ≤ 20 ∧ ∀ s ∈ u, nmOk s) (fun u d => Lin CP u d)
theorem ok_line_program (T : Top K mg CJ CA CP) : Has P w K mg base CX0 7 "line_program" ["word"] (mkSp K (spLine CP)) := by
  refine has_of T.d_line_program sc_line_program (lenR fun _ => rfl) ?_
  intro f0 cdv A outer s H E hr
  have z_len := T.z_len
  have z_enumerate := T.z_enumerate
  have i_Program := ok_Program (P := P) (w := w) (base := base) T
  refine ⟨_, (pss_one (ps_ret (pe_hasI i_Program (hr.mono (by decide)) (by rfl) pass0 (pa_cons (pe_op op_plus (pe_callB call_len (by rfl) z_len (by decide +kernel) (pa_cons (pv 0) pa_nil)) pe_int) (pa_cons (pe_lst (pa_cons pe_int pa_nil)) (pa_cons (pe_lc (own := [("at", 1), ("name", 2)]) rfl sc_line_program.nd (pi_enumT (by rfl) z_enumerate (pa_cons (pv 0) pa_nil)) (blkOk_by (own := [("at", 1), ("name", 2)]) (N := ["word", "at", "name"]) (sc := defScope s_line_program) (by decide +kernel)) (fun _ _ _ _ _ => (show PG _ _ (gTup K 2 (gCons (gName 1) (gCons (gName 2) gNil))) from (pg_tup rfl (pgs_cons (pgn 1 sc_line_program.nd) (pgs_cons (pgn 2 sc_line_program.nd) pgs_nil))))) (fun _ _ _ _ _ => pts_nil) (fun _ _ _ _ _ => (pe_tup (pa_cons (pv 1) (pa_cons (pv 2) (pa_cons (pe_op (op_plusB K) (pv 1) pe_int) pa_nil)))))) pa_nil)))))), ?_⟩
  rintro _ _ _ _ ⟨u, rfl, ⟨hl, hn⟩, rfl, rfl, rfl⟩
  walk_at "go"
  try dsimp only
  refine wp_ret (wv_makeT (wa_cons (wv_op (wv_cb (wa_cons (wv_var rfl (wa_nil (kc (cad_len so_tup) (wv_int (ko opd_plusI (wa_cons (wv_lst (wa_cons (wv_int (wa_nil ⟨by simp, wa_cons (wv_lc (wi_enumT (wa_cons (wv_var rfl (wa_nil ⟨_, rfl, ?_⟩)))))⟩)))))))))))))))
  rw [en_w]
  refine ⟨by rw [List.length_map, List.length_zipIdx]; omega, ?_⟩
  refine lc_U2 (us := u.zipIdx) (a := fun p => .int (p.2 : Int)) (b := fun p => .str p.1) (fun p => edD (p.2, p.1, p.2 + 1)) (by simp) (fun p hp => ?_) ?_
  · exact wv_tup (wa_cons (wv_var rfl (wa_cons (wv_var rfl (wa_cons (wv_op (wv_var rfl (wv_int (ko opd_plusI (wa_nil ⟨by simp, rfl, rfl⟩))))))))))
  · refine wa_nil ⟨(u.length + 1, [0], lnE u), ?_, ⟨by simp, by simp; omega, by simp, by simp, by simp, lnE_ok hl hn⟩, ?_⟩
    · show _ = [Dt.int ((u.length + 1 : Nat) : Int), .lst (intsD [0]), .lst ((lnE u).map edD)]
      unfold lnE
      rw [List.map_map, List.length_map]
      rfl
    · rintro _ ⟨es, rfl, h1, h2⟩
      have e0 : plc (u.length + 1) (fun v => v ∈ [0]) = [0] := plc_self (by simp [ci, Asc]) (by simp)
      dsimp only at h1 h2 ⊢
      rw [e0] at h1 ⊢
      exact ⟨⟨es, rfl, h1, h2⟩, rfl⟩
end
end
section
set_option maxRecDepth 100000
set_option maxHeartbeats 1000000
open PySem PySem.Spec PyProof.Rows L2 FF
open Evl (Ex)
section
/-- the words longer by one -/
def lng (ns : List Str) (stp : Str → Nat → Nat) (cs : List (Wd × Nat)) : List (Wd × Nat) := cs.flatMap fun c => ns.map fun s => (c.1 ++ [s], stp s c.2)
theorem lng_snoc {ns : List Str} {stp : Str → Nat → Nat} {cs : List (Wd × Nat)} {c : Wd × Nat} : lng ns stp (cs ++ [c]) = lng ns stp cs ++ ns.map fun s => (c.1 ++ [s], stp s c.2) := by
  unfold lng
  rw [List.flatMap_append]
  simp
theorem mem_lng {ns : List Str} {stp : Str → Nat → Nat} {cs : List (Wd × Nat)} {d : Wd × Nat} : d ∈ lng ns stp cs ↔ ∃ c ∈ cs, ∃ s ∈ ns, d = (c.1 ++ [s], stp s c.2) := by
  unfold lng
  rw [List.mem_flatMap]
  constructor
  · rintro ⟨c, hc, m⟩
    obtain ⟨s, hs, rfl⟩ := List.mem_map.mp m
    exact ⟨c, hc, s, hs, rfl⟩
  · rintro ⟨c, hc, s, hs, rfl⟩
    exact ⟨c, hc, List.mem_map.mpr ⟨s, hs, rfl⟩⟩
theorem lng_len {ns : List Str} {stp : Str → Nat → Nat} {cs : List (Wd × Nat)} (h : ns.length ≤ 6) : (lng ns stp cs).length ≤ 6 * cs.length := by
  induction cs with
  | nil => simp [lng]
  | cons c cs ih =>
    unfold lng at ih ⊢
    rw [List.flatMap_cons, List.length_append, List.length_map, List.length_cons]
    omega
theorem asc_wvs {ns : List Str} {stp : Str → Nat → Nat} {b : Nat} {fs : List (Nat × Wd)} (nd : (fs.map (·.1)).Nodup) (mem : ∀ v w, (v, w) ∈ fs ↔ LW ns stp b v w) : ∃ ps : List (Nat × Wd), ps.Perm fs ∧ ((ci (fs.map (·.1))).mergeSort fun a b => decide (a ≤ b)) = ci (ps.map (·.1)) ∧ WVs ns stp b ps := by
  obtain ⟨ps, h1, h2⟩ := perm_of_map (f := fun p : Nat × Wd => ((p.1 : Nat) : Int)) (xs := fs) (ys := (ci (fs.map (·.1))).mergeSort fun a b => decide (a ≤ b)) (by
    refine (List.mergeSort_perm ..).trans ?_
    unfold ci
    rw [List.map_map]
    exact .refl _)
  refine ⟨ps, h1, by rw [h2]; unfold ci; rw [List.map_map]; rfl, ?_, fun v w => by rw [h1.mem_iff]; exact mem v w⟩
  have hA := (asc_sort (ci_nd nd)).1
  rw [h2] at hA
  exact (List.pairwise_map.mp hA).imp fun h => by omega
end
section
variable {P : Program} {w : World} {K : PySem.W.Frag} {mg : Str → Option Value} {base : Heap} {CJ CA CP : Addr}
def wdOk (a : AnA) : Prop := (∀ p ∈ wvA a, p.1 < a.1 ∧ p.2.length < a.1 ∧ okW (a.2.2.1.map (·.1)) p.2 ∧ rn (mpF a.2.2.1) a.2.2.2 p.2 = p.1) ∧ (wvA a).length ≤ a.1
abbrev spWds : Pre := preR (fun (a : AnA) => [.fdc (kdM a.2.2.1), .int (a.2.2.2 : Int)]) (fun a => AnOk a.1 a.2.1 a.2.2.1 a.2.2.2) (fun a d => d = .lst (wdL (wvA a)) ∧ wdOk a)
theorem ok_l_words (T : Top K mg CJ CA CP) : HasG P w K mg base CX0 1 "_law_words" ["_law_maps_here", "_law_begun"] (mkSp K spWds) := by
  refine hasG_of T.d_l_words sc_l_words (lenR fun _ => rfl) ?_
  intro f0 cdv A outer s H E g hr
  have z_sorted := T.z_sorted
  refine ⟨_, (pss_cons (ps_asg (pe_tup (pa_cons (pe_disp (pps_cons (pv 1) (pe_tup pa_nil) pps_nil) (by rfl) (by rfl) (fun z => by cases z) (by decide)) (pa_cons (pe_lst (pa_cons (pe_tup (pa_cons (pe_tup pa_nil) (pa_cons (pv 1) pa_nil))) pa_nil)) pa_nil))) (show PG _ _ (gTup K 2 (gCons (gName 2) (gCons (gName 3) gNil))) from (pg_tup rfl (pgs_cons (pgn 2 sc_l_words.nd) (pgs_cons (pgn 3 sc_l_words.nd) pgs_nil)))))
       (pss_cons (ps_while PassesOwn.never (pt_cmpR (op_neNil (hu64 hr)) (pv 3) (pe_lst pa_nil) (nomark _))
       (pss_cons (pset 4 sc_l_words.nd (pe_lst pa_nil))
       (pss_cons (ps_for PassesOwn.never rfl (pi_list (pv 3)) (show PG _ _ (gTup K 2 (gCons (gName 5) (gCons (gName 6) gNil))) from (pg_tup rfl (pgs_cons (pgn 5 sc_l_words.nd) (pgs_cons (pgn 6 sc_l_words.nd) pgs_nil))))
       (pss_one (ps_expr (pe_bm PySem.F.plainAttrs_list PySem.F.slot_list_extend PySem.F.type_list_extend mt_extend (pv 4) (pa_cons (pe_lc (own := [("_law_name", 7)]) rfl sc_l_words.nd (pi_list (pe_callB (call_sortKS rfl (hu100 hr)) (by rfl) z_sorted (by decide +kernel) (pa_cons (pv 0) pa_nil))) (blkOk_by (own := [("_law_name", 7)]) (N := ["_law_maps_here", "_law_begun", "_law_found", "_law_words_here", "_law_longer", "_law_word", "_law_value", "_law_name"]) (sc := defScope s_l_words) (by decide +kernel)) (fun _ _ _ _ _ => (pgn 7 sc_l_words.nd)) (fun _ _ _ _ _ => pts_nil) (fun _ _ _ _ _ => (pe_tup (pa_cons (pe_op (op_plusB K) (pv 5) (pe_tup (pa_cons (pv 7) pa_nil))) (pa_cons (pe_ix (show IxR _ (rIx K) from ix_seq) (pe_dget (hu1 hr) (pv 0) (pv 7) (fun _ _ => rfl)) (pv 6) (fun _ _ => rfl)) pa_nil))))) pa_nil)))))
       (pss_cons (pset 3 sc_l_words.nd (pe_lst pa_nil))
       (pss_one (ps_for PassesOwn.never rfl (pi_list (pe_callB (call_sortD (hu100 hr)) (by rfl) z_sorted (by decide +kernel) (pa_cons (pv 4) pa_nil))) (show PG _ _ (gTup K 2 (gCons (gName 5) (gCons (gName 6) gNil))) from (pg_tup rfl (pgs_cons (pgn 5 sc_l_words.nd) (pgs_cons (pgn 6 sc_l_words.nd) pgs_nil))))
       (pss_one (ps_if (pt_cmp (pc_dnotin (hu1 hr) (pv 6) (pv 2)) (by rfl))
       (pss_cons (ps_dput (hu1 hr) (pv 2) (pv 6) (pv 5) rfl)
       (pss_one (ps_expr (pe_bm PySem.F.plainAttrs_list PySem.F.slot_list_append PySem.F.type_list_append mt_append (pv 3) (pa_cons (pe_tup (pa_cons (pv 5) (pa_cons (pv 6) pa_nil))) pa_nil)))))
       pss_nil))))))))
       (pss_one (ps_ret (pe_lc (own := [("_law_value", 6)]) rfl sc_l_words.nd (pi_list (pe_callB (call_sortK rfl (hu100 hr)) (by rfl) z_sorted (by decide +kernel) (pa_cons (pv 2) pa_nil))) (blkOk_by (own := [("_law_value", 6)]) (N := ["_law_maps_here", "_law_begun", "_law_found", "_law_words_here", "_law_longer", "_law_word", "_law_value", "_law_name"]) (sc := defScope s_l_words) (by decide +kernel)) (fun _ _ _ _ _ => (pgn 6 sc_l_words.nd)) (fun _ _ _ _ _ => pts_nil) (fun _ _ _ _ _ => (pe_tup (pa_cons (pv 6) (pa_cons (pe_dget (hu1 hr) (pv 2) (pv 6) (fun _ _ => rfl)) pa_nil))))))))), ?_⟩
  rintro _ _ _ _ ⟨⟨n, f, ms, b⟩, rfl, N, rfl, rfl, rfl⟩
  dsimp only at N
  have J := N.jn
  have M := N.mo
  have hb := N.bg
  have hn := J.few
  have hr2 : RiseS (ms.map (·.1)) := N.rise
  have hnl : (ms.map (·.1)).length ≤ 6 := by rw [List.length_map]; exact M.few
  have hst : ∀ s ∈ ms.map (·.1), ∀ v, v < n → mpF ms s v < n := fun s m v hv => by
    obtain ⟨vs, hm⟩ := in_ms m
    show (mapAt ms s).getD v 0 < n
    rw [mapAt_mem M.nd hm]
    exact getD_in (by rw [(M.mp _ hm).1]; exact hv) (M.mp _ hm).2
  have hso : ∀ s ∈ ms.map (·.1), PyData.strOk s = true := fun s m => by
    obtain ⟨p, hp, rfl⟩ := List.mem_map.mp m
    exact (M.nm p hp).2.2
  have esr : sortS (ms.map (·.1)) = ms.map (·.1) := sortS_of (.refl _) hr2
  have hfew : ∀ ws : List (Nat × Wd), (ws.map (·.1)).Nodup → (∀ p ∈ ws, p.1 < n) → ws.length ≤ n := fun ws nd lt => by
    have := nat_few n (ws.map (·.1)) nd fun v m => by
      obtain ⟨p, hp, rfl⟩ := List.mem_map.mp m
      exact lt p hp
    simpa using this
  refine sv_rtF ?_
  walk_at "go"
  try dsimp only
  refine wp_seq (wp_asg2 (wv_tup (wa_cons (wv_disp1N (kk := .inl (b : Int)) (x := wdV []) (wv_var rfl ⟨rfl, rfl⟩) (wv_tup (wa_nil ⟨by simp, rfl, rfl⟩)) fun r => wa_cons (wv_lstO (wa_cons (wv_tup (wa_cons (wv_tup (wa_nil ⟨by simp, wa_cons (wv_var rfl (wa_nil ⟨by simp, wa_nil ⟨by simp, fun q => wa_nil ⟨by simp, _, _, rfl, ?_⟩⟩⟩))⟩))))))))))
  walk_at "nm"
  have e0 : [((.inl (b : Int) : Key), wdV [])] = dcW [(b, [])] := rfl
  have e1 : [Dt.tup [.tup [], .int (b : Int)]] = [((([] : Wd), b))].map wvD := rfl
  rw [e0, e1]
  refine wp_seq (sv_whileN (fun m Δ' O' => Pin (∃ x4 x5 x6 x7 q fs cs k, Δ' = [some (.fdc (kdM ms)), some (.int (b : Int)), some (.ref r), some (.ref q), x4, x5, x6, x7] ∧ O' = [(q, .lst (cs.map wvD)), (r, .dic (dcW fs))] ∧
    Lv (ms.map (·.1)) (mpF ms) b fs cs k ∧ (∀ p ∈ fs, p.1 < n ∧ p.2.length < fs.length) ∧ cs.length ≤ fs.length ∧ m = if cs = [] then 0 else 1 + (n - fs.length))) (m0 := _) (pin ⟨_, _, _, _, q, [(b, [])], [([], b)], 0, rfl, rfl, lv_start, fun p m => by rw [List.mem_singleton.mp m]; exact ⟨hb, by simp⟩, by simp, rfl⟩) ?_)
  clear e0 e1 q
  rintro m _ _ ⟨x4, x5, x6, x7, q, fs, cs, k, rfl, rfl, L, hw, hcf, rfl⟩
  have hfl := hfew fs L.nd fun p m => (hw p m).1
  refine wt_test (wv_op (wv_var rfl (wv_lst0 (ko_neNil (lo_own (List.mem_cons_self ..)) lo_lst ⟨_, rfl, fun h => ?_, fun h => ?_⟩))))
  · have hcs : cs ≠ [] := fun z => by subst z; simp at h
    rw [if_neg hcs]
    have hcl : cs.length ≤ 64 := by omega
    have hck : ∀ c ∈ cs, c.2 < n ∧ c.1.length = k ∧ k < fs.length ∧ okW (ms.map (·.1)) c.1 ∧ rn (mpF ms) b c.1 = c.2 := fun c m => by
      obtain ⟨h1, h2⟩ := (L.cur c).mp m
      have h3 := hw _ h1
      exact ⟨h3.1, h2, by rw [← h2]; exact h3.2, (L.ok _ h1).1, (L.ok _ h1).2⟩
    have hkf : k < fs.length := by
      obtain ⟨c, hc⟩ := List.exists_mem_of_ne_nil cs hcs
      exact (hck c hc).2.2.1
    refine sv_nxF ?_
    refine sv_frzE (n := 0) (i := 3) rfl rfl ?_
    walk_at "nm"
    refine wp_seq (wp_set (wv_lstNil fun p => ?_))
    walk_at "nm"
    refine wp_seq (wp_for (wi_list (wv_var rfl ⟨_, rfl, ?_⟩)))
    refine for_U2 (us := cs) (a := fun c => wdV c.1) (b := fun c => .int (c.2 : Int)) (fun i Δ' O' => Pin (∃ x5 x6 x7, Δ' = [some (.fdc (kdM ms)), some (.int (b : Int)), some (.ref r), some (.lst (cs.map wvD)), some (.ref p), x5, x6, x7] ∧ O' = [(p, .lst ((lng (ms.map (·.1)) (mpF ms) (cs.take i)).map wvD)), (r, .dic (dcW fs))])) (pin ⟨_, _, _, rfl, rfl⟩) ?_ ?_
    · rintro i c _ _ hi ⟨x5, x6, x7, rfl, rfl⟩
      have hcm := List.mem_of_getElem? hi
      obtain ⟨hc2, hc1, _, hcw, hcr⟩ := hck c hcm
      have hll := lng_len (stp := mpF ms) (cs := cs.take i) hnl
      have htl : (cs.take i).length ≤ 64 := by rw [List.length_take]; omega
      walk_at "nm"
      refine wp_drop (wv_bm (wv_var rfl ⟨p, _, rfl, List.mem_cons_self .., wa_cons (wv_lc (wi_list (wv_cb (wa_cons (wv_var rfl (wa_nil (kcf_sortKS do_fdc (kd_keys ms) ?_)))))))⟩))
      rw [esr]
      refine ⟨_, rfl, by rw [List.length_map]; omega, ?_⟩
      refine lc_U (us := ms.map (·.1)) (g := fun s => Dt.str s) (fun s => wvD (c.1 ++ [s], mpF ms s c.2)) (by simp) (fun s hs => ?_) (wa_nil (kb (bmd_extend (i := 0) rfl lo_lst (by rw [List.length_map, List.length_map]; omega)) ?_))
      · obtain ⟨pp, hpp, rfl⟩ := List.mem_map.mp hs
        have hl := look_kdM M.nd hpp
        have hgp : (intsD pp.2)[c.2]? = some (.int ((pp.2.getD c.2 0 : Nat) : Int)) := map_get (getD_get (by rw [(M.mp pp hpp).1]; exact hc2))
        have hmp : pp.2.getD c.2 0 = mpF ms pp.1 c.2 := by show _ = (mapAt ms pp.1).getD c.2 0; rw [mapAt_mem M.nd hpp]
        refine wv_tup (wa_cons (wv_op (wv_var rfl (wv_tup (wa_cons (wv_var rfl (wa_nil ⟨by simp, ko (opd_plusT (by rw [List.length_map]; simp; omega)) (wa_cons (wv_op (wv_dget (wv_var rfl (wv_var rfl ⟨_, .inr pp.1, _, do_fdc, rfl, hl, wv_var rfl (ko_ixN so_lst hgp (wa_nil ⟨by simp, ?_⟩))⟩)))))⟩)))))))
        rw [hmp, show c.1.map Dt.str ++ [Dt.str pp.1] = (c.1 ++ [pp.1]).map Dt.str from by rw [List.map_append]; rfl]
        exact ⟨rfl, rfl⟩
      · walk_at "nm"
        refine pin ⟨_, _, _, rfl, ?_⟩
        rw [take_snoc hi, lng_snoc, List.map_append]
        simp only [List.map_map]
        rfl
    · rintro _ _ ⟨x5, x6, x7, rfl, rfl⟩
      rw [List.take_length]
      have hll := lng_len (stp := mpF ms) (cs := cs) hnl
      have hlk : ∀ d ∈ lng (ms.map (·.1)) (mpF ms) cs, d.1.length = k + 1 ∧ d.2 < n ∧ okW (ms.map (·.1)) d.1 ∧ rn (mpF ms) b d.1 = d.2 := fun d m => by
        obtain ⟨c, hc, s, hs, rfl⟩ := mem_lng.mp m
        obtain ⟨h1, h2, _, h4, h5⟩ := hck c hc
        exact ⟨by simp [h2], hst s hs _ h1, ok_snoc h4 hs, by rw [rn_snoc, h5]⟩
      obtain ⟨ls, hp1, hp2, hp3⟩ := sortD_of (g := wvD) (lng (ms.map (·.1)) (mpF ms) cs)
      have hsl : ∀ d ∈ ls, d.1.length = k + 1 := fun d m => (hlk d (hp1.mem_iff.mp m)).1
      have hso2 : ∀ d ∈ ls, okW (ms.map (·.1)) d.1 ∧ rn (mpF ms) b d.1 = d.2 := fun d m => (hlk d (hp1.mem_iff.mp m)).2.2
      have hsp : ls.Pairwise fun c d => sleW c.1 d.1 := by
        refine hp3.imp_of_mem fun {c d} hc hd h => leD_w ?_ h
        rw [hsl c hc, hsl d hd]
      have so : SoOk ((lng (ms.map (·.1)) (mpF ms) cs).map wvD) := so_wv fun c m s ms2 => hso s ((hlk c m).2.2.1 s ms2)
      walk_at "nm"
      refine wp_seq (wp_set (wv_lstNil fun q2 => ?_))
      walk_at "nm"
      refine wp_for (wi_list (wv_cb (wa_cons (wv_var rfl (wa_nil (kcf (cad_sortD (lo_own (List.mem_cons_of_mem _ (List.mem_cons_self ..))) so) ?_))))))
      rw [hp2]
      refine ⟨_, rfl, ?_⟩
      refine for_U2 (us := ls) (a := fun c => wdV c.1) (b := fun c => .int (c.2 : Int)) (fun i Δ' O' => Pin (∃ x5 x6 x7 fs' cs', Δ' = [some (.fdc (kdM ms)), some (.int (b : Int)), some (.ref r), some (.ref q2), some (.ref p), x5, x6, x7] ∧ O' = [(q2, .lst (cs'.map wvD)), (p, .lst ((lng (ms.map (·.1)) (mpF ms) cs).map wvD)), (r, .dic (dcW fs'))] ∧
        Ls (ms.map (·.1)) (mpF ms) b fs k ls i fs' cs' ∧ ∀ p ∈ fs', p.1 < n)) (pin ⟨_, _, _, fs, [], rfl, rfl, ls_start L, fun p m => (hw p m).1⟩) ?_ ?_
      · rintro i d _ _ hi ⟨x5, x6, x7, fs', cs', rfl, rfl, S, hlt⟩
        have hdn : d.2 < n := (hlk d (hp1.mem_iff.mp (List.mem_of_getElem? hi))).2.1
        have hfl' := hfew fs' S.nd hlt
        have hfw := S.few
        walk_at "nm"
        refine wp_if (wt_test (wv_dnotin (wv_var rfl (wv_var rfl ⟨_, .inl (d.2 : Int), do_own (List.mem_cons_of_mem _ (List.mem_cons_of_mem _ (List.mem_cons_self ..))), rfl, _, rfl, ?_, ?_⟩))))
        · intro h
          rw [look_wS S.nd] at h
          have hnew : d.2 ∉ fs'.map (·.1) := fun m => by rw [decide_eq_true m] at h; cases h
          refine wp_seq (wp_dput (wv_var rfl (wv_var rfl (wv_var rfl ⟨r, (d.2 : Int), 2, _, rfl, rfl, rfl, by rw [dcW_len]; omega, ?_⟩))))
          rw [put_w hnew]
          walk_at "nm"
          refine wp_drop (wv_bm (wv_var rfl ⟨q2, _, rfl, List.mem_cons_self .., wa_cons (wv_tup (wa_cons (wv_var rfl (wa_cons (wv_var rfl (wa_nil ⟨by simp, wa_nil (kb (bmd_append (i := 0) rfl (by rw [List.length_map]; omega)) ?_)⟩))))))⟩))
          walk_at "nm"
          refine pin ⟨_, _, _, fs' ++ [(d.2, d.1)], cs' ++ [d], rfl, ?_, ls_new S hsl hso2 hi hnew, fun p m => ?_⟩
          · rw [List.map_append]
            rfl
          · rcases List.mem_append.mp m with m | m
            · exact hlt p m
            · rw [List.mem_singleton.mp m]; exact hdn
        · intro h
          rw [look_wS S.nd] at h
          have hold : d.2 ∈ fs'.map (·.1) := by
            by_cases m : d.2 ∈ fs'.map (·.1)
            · exact m
            · rw [decide_eq_false m] at h
              cases h
          exact wp_next (pin ⟨_, _, _, fs', cs', rfl, rfl, ls_old S hsp hsl hi hold, hlt⟩)
      · rintro _ _ ⟨x5, x6, x7, fs', cs', rfl, rfl, S, hlt⟩
        have hfw := S.few
        have L2 := ls_end L (fun c hc s hs => hp1.mem_iff.mpr (mem_lng.mpr ⟨c, hc, s, hs, rfl⟩)) S
        have hfl' := hfew fs' S.nd hlt
        refine ⟨[(q2, .lst (cs'.map wvD)), (r, .dic (dcW fs'))], ?_, _, ?_, pin ⟨some (.ref p), x5, x6, x7, q2, fs', cs', k + 1, rfl, rfl, L2, fun p m => ⟨hlt p m, ?_⟩, by omega, rfl⟩⟩
        · exact List.Sublist.cons₂ _ (List.sublist_cons_self ..)
        · split
          · omega
          · rename_i hc
            have : 0 < cs'.length := List.length_pos_iff.mpr hc
            omega
        · have h1 := S.len p m
          by_cases h2 : p.2.length = k + 1
          · have := (S.cur (p.2, p.1)).mpr ⟨m, h2⟩
            have := List.length_pos_of_mem this
            omega
          · omega
  · have hcs : cs = [] := by
      cases cs with
      | nil => rfl
      | cons c cs => simp at h
    subst hcs
    obtain ⟨ps, hpp, hpe, W⟩ := asc_wvs L.nd fun v w => lv_lw L v w
    refine wp_ret (wv_lc (wi_list (wv_cb (wa_cons (wv_var rfl (wa_nil (kcf (cad_sortK (is := ci (fs.map (·.1))) (List.mem_cons_of_mem _ (List.mem_cons_self ..)) ?_) ?_)))))))
    · unfold dcW ki ci
      rw [List.map_map, List.map_map, List.map_map, List.map_map]
      rfl
    rw [hpe, ci_d]
    have epl : ps.length = fs.length := hpp.length_eq
    have hpw := wvL_eq W
    refine ⟨_, rfl, by rw [List.length_map, List.length_map]; omega, ?_⟩
    rw [show intsD (ps.map (·.1)) = ps.map fun p => Dt.int (p.1 : Int) from (by show List.map _ (List.map _ ps) = _; rw [List.map_map]; rfl)]
    refine lc_U (us := ps) (g := fun p => Dt.int (p.1 : Int)) (fun p => .tup [.int (p.1 : Int), wdV p.2]) (by simp) (fun p hp => ?_) ?_
    · have hlk := look_w L.nd (hpp.mem_iff.mp hp)
      exact wv_tup (wa_cons (wv_var rfl (wa_cons (wv_dget (wv_var rfl (wv_var rfl ⟨_, .inl (p.1 : Int), _, do_own (List.mem_cons_of_mem _ (List.mem_cons_self ..)), rfl, hlk, wa_nil ⟨by simp, rfl, rfl⟩⟩))))))
    · rw [hpw] at epl hpp
      have hpw2 : ps = wvA (n, f, ms, b) := hpw
      refine ⟨[], List.nil_sublist _, ⟨by rw [hpw2], fun p m => ?_, ?_⟩, rfl⟩
      · have hm := hpp.mem_iff.mp m
        have h1 := hw p hm
        exact ⟨h1.1, by show p.2.length < n; omega, (L.ok p hm).1, (L.ok p hm).2⟩
      · show (wvL (ms.map (·.1)) (mpF ms) b).length ≤ n
        omega
end
end
section
set_option maxRecDepth 100000
set_option maxHeartbeats 1000000
open PySem PySem.Spec PyProof.Rows L2 FF
open Evl (Ex)
section
theorem ko_ix812 {K : PySem.W.Frag} {E : XK} {Ψ : XPost} {O : Own} {k : Dt → Own → Prop} {b : Bool} (h : ∀ m : Nat, 1 ≤ m → m ≤ 12 → k (.int (m : Int)) O) : OpD K E Ψ (rIx K) (.lst [.int 8, .int 12]) (.int (if b then 1 else 0)) O k := by
  cases b with
  | true => exact ko (opd_ixI so_lst (by decide) rfl) (h 12 (by omega) (by omega))
  | false => exact ko (opd_ixI so_lst (by decide) rfl) (h 8 (by omega) (by omega))
theorem atI_last {xs : List Dt} {m : Nat} {z : Dt} (hl : xs.length = m + 1) (h : xs[m]? = some z) : L2.atI xs (-1) = some z := by
  unfold L2.atI L2.ixN
  rw [hl, if_neg (by omega), if_pos (by omega)]
  simp only [Option.bind_some]
  have e : ((-1 : Int) + ((m + 1 : Nat) : Int)).toNat = m := by omega
  rw [e]
  exact h
/-- the facts of a path -/
def lnX (ms : Ms) (b : Nat) (u : Wd) : Nat → Fact := fun p => if p ≤ u.length then some (run ms b (u.take p)) else none
theorem lnX_step {ms : Ms} {b : Nat} {u : Wd} {p : Nat} {s : Str} (h : u[p]? = some s) : lnX ms b u (p + 1) = some (mpF ms s (run ms b (u.take p))) := by
  have hp := (List.getElem?_eq_some_iff.mp h).1
  unfold lnX
  rw [if_pos (by omega), take_snoc h, run_snoc]
theorem ln_isF {n : Nat} {f : Nat → Nat → Nat} {ms : Ms} {b : Nat} {u : Wd} (N : AnOk n f ms b) (hu : okW (ms.map (·.1)) u) : IsF n f ms b [0] (lnE u) (lnX ms b u) := by
  have J := N.jn
  have X := ax_of J N.mo
  have hrl : ∀ p, run ms b (u.take p) < n := fun p => run_lt N.mo N.bg fun s m => hu s (List.mem_of_mem_take m)
  have x0 : lnX ms b u 0 = some b := by unfold lnX; rw [if_pos (Nat.zero_le _)]; rfl
  refine ⟨⟨N.bg, fun p v h => ?_, fun Y S p => ?_, fun p m => ?_⟩, fun e m v hv => ?_⟩
  · unfold lnX at h
    split at h
    · cases h
      exact hrl p
    · cases h
  · induction p with
    | zero => rw [x0]; exact S.beg 0 (by simp)
    | succ p ih =>
      by_cases hp : p + 1 ≤ u.length
      · have hs : u[p]? = some u[p] := by simp
        have e1 : lnX ms b u p = some (run ms b (u.take p)) := by unfold lnX; rw [if_pos (by omega)]
        rw [e1] at ih
        rcases ih with ih | ⟨x, y, h1, h2, h3⟩
        · cases ih
        cases h1
        have hy := S.lt p y h2
        have he := S.edge (p, u[p], p + 1) (mem_lnE.mpr ⟨hs, rfl⟩) y h2
        have hr := X.rise u[p] _ y (hrl p) hy h3
        rw [lnX_step hs]
        refine ole_trans J (fin_some (X.lt _ _ (hrl p))) (fin_some (X.lt _ _ hy)) (S.lt _) (.inr ⟨_, _, rfl, rfl, hr⟩) he
      · unfold lnX
        rw [if_neg hp]
        exact .inl rfl
  · rw [List.mem_singleton.mp m, x0]
    exact ole_refl J (fin_some N.bg)
  · obtain ⟨h1, h2⟩ := mem_lnE.mp m
    have hp := (List.getElem?_eq_some_iff.mp h1).1
    have e1 : lnX ms b u e.1 = some (run ms b (u.take e.1)) := by unfold lnX; rw [if_pos (by omega)]
    rw [e1] at hv
    cases hv
    rw [h2, lnX_step h1]
    exact ole_refl J (fin_some (X.lt _ _ (hrl _)))
theorem ln_fct {n : Nat} {f : Nat → Nat → Nat} {ms : Ms} {b : Nat} {u : Wd} {es : List E3} (N : AnOk n f ms b) (hu : okW (ms.map (·.1)) u) (he : ∀ e, e ∈ es ↔ e ∈ lnE u) : fct n f ms b [0] es u.length = some (run ms b u) := by
  rw [← fct_eq N.jn ((ln_isF N hu).congr fun e => (he e).symm)]
  unfold lnX
  rw [if_pos (Nat.le_refl _), List.take_length]
theorem run_cm {n : Nat} {f : Nat → Nat → Nat} {ms : Ms} {b : Nat} (M : MsOk n f ms) : ∀ {u : Wd} {v : Nat}, Cm f (ms.map (·.2)) b v → okW (ms.map (·.1)) u → Cm f (ms.map (·.2)) b (run ms v u)
  | [], v, c, _ => c
  | s :: u, v, c, h => by
    obtain ⟨vs, hm⟩ := in_ms (h s (List.mem_cons_self ..))
    refine run_cm M (u := u) ?_ fun t m => h t (List.mem_cons_of_mem _ m)
    have e : mapAt ms s = vs := mapAt_mem M.nd hm
    show Cm f (ms.map (·.2)) b ((mapAt ms s).getD v 0)
    rw [e]
    exact .map c (List.mem_map.mpr ⟨_, hm, rfl⟩)
theorem aOk_wd {a : AnA} (N : AnOk a.1 a.2.1 a.2.2.1 a.2.2.2) (hn : a.1 ≤ 12) (h : wdOk a) : aOk (.lst (wdL (wvA a))) := by
  refine aOk_of (nic_lst (D := 2) (S := 2035) (n := 12) (fun d m => ?_) (by rw [List.length_map]; exact Nat.le_trans h.2 hn)) (by omega) (by omega)
  obtain ⟨p, mp, rfl⟩ := List.mem_map.mp m
  obtain ⟨h1, h2, h3, _⟩ := h.1 p mp
  refine nic_tup (D := 1) (S := 1013) (n := 2) (fun d m => ?_) (by simp)
  simp only [List.mem_cons, List.not_mem_nil, or_false] at m
  rcases m with rfl | rfl
  · exact (nic_int (by omega) (by omega)).mono (by omega) (by omega)
  · refine nic_tup (D := 0) (S := 82) (n := 12) (fun d m => ?_) (by rw [List.length_map]; omega)
    obtain ⟨s, ms2, rfl⟩ := List.mem_map.mp m
    obtain ⟨q, hq, e⟩ := List.mem_map.mp (h3 s ms2)
    rw [← e]
    exact nm_nic (N.mo.nm q hq)
end
section
variable {P : Program} {w : World} {K : PySem.W.Frag} {mg : Str → Option Value} {base : Heap} {CJ CA CP : Addr}
section
variable {E E' : XK} {Ψ : XPost} {O : Own} {Δ : Env_} {k : Dt → Own → Prop} {to : TE} {ts tk : TA}
theorem wv_do0 (h : Ev K E Ψ to Δ O fun x O1 => ∃ n f ms b, x = an CJ CA n f ms b ∧ EvA K E Ψ ts Δ O1 fun ds O2 => ∃ ws, ds = [wdD ws] ∧ AnOk n f ms b ∧ (∀ s ∈ ws, s ∈ ms.map (·.1)) ∧ k (.int (run ms b ws : Nat)) O2) : Ev K E Ψ (tMeth CA "do" (mkSp K (preDo CJ CA)) [.non] E' to ts) Δ O k :=
  wv_methDP (h.imp fun x O1 ⟨n, f, ms, b, e, q⟩ => ⟨_, e, rfl, q.imp fun ds O2 ⟨ws, e2, N, hw, q2⟩ => by
    subst e2
    exact ⟨(n, f, ms, b, ws, none), rfl, ⟨N, hw, fun v h => by cases h⟩, q2⟩⟩)
theorem wv_alkO {ts : TA} (h : EvA K E Ψ ts Δ O fun ds O1 => ∃ q xs y, ds = [.ref q, y] ∧ (q, Ow.lst xs) ∈ O1 ∧ y = .lst xs ∧ aOk y ∧ k (.bl true) O1) : Ev K E Ψ (tCall (mkSp K spAlike) [] E' ts) Δ O k :=
  wv_callL (h.imp fun ds O1 ⟨q, xs, y, e1, m, e2, ha, hk⟩ => by
    subst e1 e2
    exact ⟨[.lst xs, .lst xs], .bl true, .cons (rep_own m) (.cons .self .nil), atom_bl, ⟨_, _, rfl, ⟨ha, ha⟩, rfl, by show ex (.bl true) [] = ex (.bl (alk (.lst xs) (.lst xs))) []; rw [alk_self ha], rfl⟩, hk⟩)
end
local macro_rules | `(tactic| walk_at "ca") => `(tactic| first | (with_reducible apply wv_cls) | ((with_reducible show AnOk _ _ _ _); assumption) | ((with_reducible show aOk _); assumption) | (with_reducible refine' ⟨_, _, _, _, rfl, ?_⟩) | (with_reducible refine' ⟨_, (_, _, _, _), rfl, ?_, ?_, ?_⟩))
theorem law_ok (T : Top K mg CJ CA CP) : LawG P w K mg 12 "law" s_law "_law_script" := by
  refine lawG_of sc_law ?_
  intro base f cdv A outer s H E g hr
  have z_range := T.z_range
  have z_int := T.z_int
  have cl_Analysis := T.cl_Analysis
  have h_l_bag := ok_l_bag (P := P) (w := w) (base := base) T
  have h_l_take := ok_l_take (P := P) (w := w) (base := base) T
  have h_l_alike := ok_l_alike (P := P) (w := w) (base := base) T
  have h_l_analysis := ok_l_analysis (P := P) (w := w) (base := base) T
  have h_l_built := ok_l_built (P := P) (w := w) (base := base) T
  have h_l_words := ok_l_words (P := P) (w := w) (base := base) T
  have h_facts_of := ok_facts_of (P := P) (w := w) (base := base) T
  have h_line_program := ok_line_program (P := P) (w := w) (base := base) T
  have m_Analysis_word_values := ok_word_values (P := P) (w := w) (base := base) T
  have m_Analysis_coming := ok_coming (P := P) (w := w) (base := base) T
  have m_Analysis_do := ok_do (P := P) (w := w) (base := base) T
  refine ⟨_, (pss_cons (pset 1 sc_law.nd (pe_hasG h_l_bag g (hr.mono (by decide)) (by rfl) pass0 (pa_cons (pv 0) pa_nil)))
       (pss_cons (ps_for PassesOwn.never rfl (pi_range1 rfl z_range (pa_cons pe_int pa_nil)) (pgn 2 sc_law.nd)
       (pss_cons (pset 3 sc_law.nd (pe_hasG h_l_analysis g (hr.mono (by decide)) (by rfl) pass0 (pa_cons (pv 1) (pa_cons (pe_ix ix_seq (pe_lst (pa_cons pe_int (pa_cons pe_int pa_nil))) (pe_callTy call_int1 (by rfl) z_int (by decide +kernel) (pa_cons (pe_cmpR (op_eqU (hu64 hr)) (pe_hasG h_l_take g (hr.mono (by decide)) (by rfl) pass0 (pa_cons (pv 1) (pa_cons pe_int pa_nil))) pe_int (nomark _)) pa_nil)) (fun _ _ => rfl)) pa_nil))))
       (pss_cons (ps_asg (pv 3) (show PG _ _ (gTup K 3 (gCons (gName 4) (gCons (gName 5) (gCons (gName 6) gNil)))) from (pg_tup rfl (pgs_cons (pgn 4 sc_law.nd) (pgs_cons (pgn 5 sc_law.nd) (pgs_cons (pgn 6 sc_law.nd) pgs_nil))))))
       (pss_cons (ps_asg (pe_tup (pa_cons (pe_hasG h_l_built g (hr.mono (by decide)) (by rfl) pass0 (pa_cons (pv 1) (pa_cons (pv 3) pa_nil))) (pa_cons (pe_hasG h_l_words g (hr.mono (by decide)) (by rfl) pass0 (pa_cons (pv 5) (pa_cons (pv 6) pa_nil))) pa_nil))) (show PG _ _ (gTup K 2 (gCons (gName 7) (gCons (gName 8) gNil))) from (pg_tup rfl (pgs_cons (pgn 7 sc_law.nd) (pgs_cons (pgn 8 sc_law.nd) pgs_nil)))))
       (pss_cons (ps_for PassesOwn.never rfl (pi_range1 rfl z_range (pa_cons pe_int pa_nil)) (pgn 9 sc_law.nd)
       (pss_cons (pset 10 sc_law.nd (pe_hasM0 (pv 7) cl_Analysis m_Analysis_word_values (hr.mono (by decide)) pass0))
       (pss_cons (ps_if (pt_not (pt_val (pe_hasG h_l_alike g (hr.mono (by decide)) (by rfl) pass0 (pa_cons (pv 10) (pa_cons (pv 8) pa_nil)))))
       (pss_one (ps_ret pe_bl))
       pss_nil)
       (pss_cons (ps_expr (pe_bm PySem.F.plainAttrs_list PySem.F.slot_list_append PySem.F.type_list_append mt_append (pv 10) (pa_cons pe_non pa_nil)))
       (pss_one (ps_expr (pe_bm0 PySem.F.plainAttrs_list PySem.F.slot_list_reverse PySem.F.type_list_reverse mt_reverse (pv 10))))))))
       (pss_cons (ps_for PassesOwn.never rfl (pi_list (pv 8)) (show PG _ _ (gTup K 2 (gCons (gName 11) (gCons (gName 12) gNil))) from (pg_tup rfl (pgs_cons (pgn 11 sc_law.nd) (pgs_cons (pgn 12 sc_law.nd) pgs_nil))))
       (pss_one (ps_if (PW.pt (pw_or (pt_cmpR (op_neU (hu64 hr)) (pe_hasMK0 (pv 7) cl_Analysis m_Analysis_do (hr.mono (by decide)) pass0 (pa_cons (pv 12) pa_nil)) (pv 11) (nomark _)) (pw_or1 (pt_cmpR (op_neU (hu64 hr)) (pe_ix ix_seq (pe_has h_facts_of (hr.mono (by decide)) (by rfl) pass0 (pa_cons (pv 7) (pa_cons (pe_has h_line_program (hr.mono (by decide)) (by rfl) pass0 (pa_cons (pv 12) pa_nil)) pa_nil))) (pe_un un_neg pe_int) (fun _ _ => rfl)) (pv 11) (nomark _)))))
       (pss_one (ps_ret pe_bl))
       pss_nil)))
       (pss_one (ps_if (pt_cmpR (op_neNil (hu64 hr)) (pe_lc (own := [("_law_value", 11), ("_law_word", 12)]) rfl sc_law.nd (pi_list (pv 8)) (blkOk_by (own := [("_law_value", 11), ("_law_word", 12)]) (N := ["_law_script", "_law_bag_here", "_law_turn", "_law_parts", "_law_rows_here", "_law_maps_here", "_law_begun", "_law_some", "_law_due", "_law_again", "_law_found", "_law_value", "_law_word"]) (sc := defScope s_law) (by decide +kernel)) (fun _ _ _ _ _ => (show PG _ _ (gTup K 2 (gCons (gName 11) (gCons (gName 12) gNil))) from (pg_tup rfl (pgs_cons (pgn 11 sc_law.nd) (pgs_cons (pgn 12 sc_law.nd) pgs_nil))))) (fun _ _ _ _ _ => (pts_one (pt_cmpR (show OpR _ _ (rIn K true) from op_notIn_seq) (pv 11) (pe_hasM0 (pv 7) cl_Analysis m_Analysis_coming (hr.mono (by decide)) pass0) (by rfl)))) (fun _ _ _ _ _ => (pv 11))) (pe_lst pa_nil) (nomark _))
       (pss_one (ps_ret pe_bl))
       pss_nil))))))))
       (pss_one (ps_ret pe_bl)))), ?_⟩
  intro ns hns
  walk_at "go"
  walk_at "wp"
  refine wv_bag ?_
  walk_at "wp"
  intro b
  walk_at "wp"
  refine for_R (fun i Δ' O' => Pin (∃ x2 x3 x4 x5 x6 x7 x8 x9 x10 x11 x12, Δ' = [some (.frl (ns.map .int)), some (.ref b), x2, x3, x4, x5, x6, x7, x8, x9, x10, x11, x12] ∧ O' = [(b, .bag)])) (pin ⟨_, _, _, _, _, _, _, _, _, _, _, rfl, rfl⟩) ?_ ?_
  · rintro i _ _ hi ⟨x2, x3, x4, x5, x6, x7, x8, x9, x10, x11, x12, rfl, rfl⟩
    refine sv_nxF ?_
    walk_at "wp"
    intro r hr
    walk_at "wp"
    refine ko_ix812 fun m h1 h12 => ?_
    refine wa_nil ⟨b, m, rfl, by simp, ⟨h1, h12⟩, ?_⟩
    rintro _ ⟨n, f, ms, bg, rfl, N, hnm⟩
    have J := N.jn
    have M := N.mo
    have R := N.rise
    have hn := J.few
    have hp := J.pos
    have hfew := M.few
    have hbg := N.bg
    walk_at "wp"
    rintro _ rfl
    refine wa_cons (wv_callR (wa_cons (wv_var rfl (wa_cons (wv_var rfl (wa_nil ⟨(n, f, ms, bg), rfl, N, ?_⟩))))))
    rintro _ ⟨rfl, W⟩
    have hn12 : n ≤ 12 := by omega
    have ha := aOk_wd (a := (n, f, ms, bg)) N hn12 W
    have hnmk : ∀ s ∈ ms.map (·.1), nmOk s := fun s m => by
      obtain ⟨p, hp, rfl⟩ := List.mem_map.mp m
      exact M.nm p hp
    obtain ⟨hW, hWl⟩ := W
    dsimp only at hW hWl
    obtain ⟨ps, hps⟩ : ∃ ps, ps = wvA (n, f, ms, bg) := ⟨_, rfl⟩
    rw [← hps] at hW hWl ha ⊢
    have hWl : ps.length ≤ 12 := Nat.le_trans hWl hn12
    refine wa_nil ⟨by simp, _, _, rfl, ?_⟩
    walk_at "nm"
    refine wp_seq (wp_for (wi_rng1 (wa_cons (wv_int (wa_nil ⟨3, rfl, by omega, ?_⟩)))))
    refine for_R (fun i' Δ' O' => Pin (∃ x9 x10, Δ' = [some (.frl (ns.map .int)), some (.ref b), some (.int i), some (ptD n f ms bg), some (.lst (tab n f)), some (.fdc (kdM ms)), some (.int bg), some (an CJ CA n f ms bg), some (.lst (wdL ps)), x9, x10, x11, x12] ∧ O' = [(b, .bag)])) (pin ⟨_, _, rfl, rfl⟩) ?_ ?_
    · clear x9 x10
      rintro i' _ _ hi' ⟨x9, x10, rfl, rfl⟩
      refine sv_nxF ?_
      walk_at "nm"
      refine wp_seq (wp_set (wv_methNN (wv_var rfl ⟨_, rfl, rfl, wa_nil ⟨(n, f, ms, bg), rfl, N, fun q => ?_⟩⟩)))
      rw [← hps]
      walk_at "nm"
      refine wp_seq (wp_if (wt_not (wt_B (wv_alkO (wa_cons (wv_var rfl (wa_cons (wv_var rfl (wa_nil ⟨q, _, _, rfl, List.mem_cons_self .., rfl, ha, _, rfl, ?_, ?_⟩)))))))))
      · intro h
        cases h
      intro _
      refine wp_next ?_
      refine wp_seq (wp_drop (wv_bm (wv_var rfl ⟨q, _, rfl, List.mem_cons_self .., wa_cons (wv_non (wa_nil (kb (bmd_append (i := 0) rfl (by rw [List.length_map]; omega)) ?_)))⟩)))
      walk_at "nm"
      refine wp_drop (wv_bm0 (wv_var rfl ⟨q, _, rfl, List.mem_cons_self .., kb (bmd_reverse (i := 0) rfl) ?_⟩))
      exact ⟨[(b, .bag)], List.sublist_cons_self .., pin ⟨_, _, rfl, rfl⟩⟩
    · clear x9 x10
      rintro _ _ ⟨x9, x10, rfl, rfl⟩
      refine wp_seq (wp_for (wi_list (wv_var rfl ⟨_, rfl, ?_⟩)))
      refine for_U2 (us := ps) (a := fun p => .int (p.1 : Int)) (b := fun p => wdV p.2) (fun i' Δ' O' => Pin (∃ x11 x12, Δ' = [some (.frl (ns.map .int)), some (.ref b), some (.int i), some (ptD n f ms bg), some (.lst (tab n f)), some (.fdc (kdM ms)), some (.int bg), some (an CJ CA n f ms bg), some (.lst (wdL ps)), x9, x10, x11, x12] ∧ O' = [(b, .bag)])) (pin ⟨_, _, rfl, rfl⟩) ?_ ?_
      · clear x11 x12
        rintro i' p _ _ hi' ⟨x11, x12, rfl, rfl⟩
        obtain ⟨h1, h2, h3, h4⟩ := hW p (List.mem_of_getElem? hi')
        have h4' : run ms bg p.2 = p.1 := h4
        walk_at "nm"
        refine wp_if (wt_orP (c := false) (c' := false) ?_ (fun _ => ?_) ⟨(fun h => by cases h), fun _ => wp_next (pin ⟨_, _, rfl, rfl⟩)⟩)
        · refine wt_test (wv_op (wv_do0 (wv_var rfl ⟨n, f, ms, bg, rfl, wa_cons (wv_var rfl (wa_nil ⟨p.2, rfl, N, h3, wv_var rfl (ko opd_neUI ⟨false, ?_, rfl, rfl⟩)⟩))⟩)))
          rw [h4']
          simp
        · refine wt_test (wv_op (wv_op (wv_callNF (wa_cons (wv_var rfl (wa_cons (wv_callR (wa_cons (wv_var rfl (wa_nil ⟨p.2, rfl, ⟨by omega, fun s m => hnmk s (h3 s m)⟩, ?_⟩))))))))))
          rintro _ ⟨es, rfl, P2, he⟩
          have hF : ffC ((n, f, ms, bg), (p.2.length + 1, [0], es)) := by
            refine ⟨N, ⟨by show p.2.length + 1 ≤ 64; omega, by simp, by simp, by simp, ?_, fun e m => ?_⟩⟩
            · have := nd_len P2.nd fun e m => (he e).mp m
              rw [lnE_len] at this
              show es.length < 63
              omega
            · have m' := (he e).mp m
              have h5 := (P2.eo.ends e m)
              exact ⟨h5.1, h5.2, h3 _ (List.mem_of_getElem? (mem_lnE.mp m').1)⟩
          have hL : L2.atI (fcD (p.2.length + 1) (fct n f ms bg [0] es)) (-1) = some (.int (p.1 : Int)) := by
            refine atI_last (m := p.2.length) (by simp) ?_
            rw [fc_get (by omega), ln_fct N h3 he, h4']
            rfl
          refine wa_nil ⟨((n, f, ms, bg), (p.2.length + 1, [0], es)), rfl, hF, ?_⟩
          refine wv_un (wv_int (ku und_neg (ko (opd_ix so_lst hL) (wv_var rfl (ko opd_neUI ⟨false, ?_, rfl, rfl⟩)))))
          simp
      · clear x11 x12
        rintro _ _ ⟨x11, x12, rfl, rfl⟩
        have hcm : ∀ p ∈ ps, p.1 ∈ plc n (Cm f (ms.map (·.2)) bg) := fun p m => by
          obtain ⟨h1, h2, h3, h4⟩ := hW p m
          have h4' : run ms bg p.2 = p.1 := h4
          refine mem_plc.mpr ⟨h1, ?_⟩
          rw [← h4']
          exact run_cm M .base h3
        refine wp_if (wt_test (wv_op (wv_lc (wi_list (wv_var rfl ⟨_, rfl, by rw [List.length_map]; omega, ?_⟩)))))
        refine lc_F2 (us := ps) (a := fun p => .int (p.1 : Int)) (b := fun p => wdV p.2) (fun _ => false) (fun p => .int (p.1 : Int)) (by simp) (fun p hp => ?_) (fun p hp h => by cases h) ?_
        · refine et_test (wv_op (wv_var rfl (wv_methNF (wv_var rfl ⟨_, rfl, rfl, wa_nil ⟨(n, f, ms, bg), rfl, N, ko_notinL so_lst ⟨?_, rfl⟩⟩⟩))))
          simp only [decide_eq_true (hcm p hp)]
          rfl
        · refine wv_lst0 (ko_neNil lo_lst lo_lst ⟨_, rfl, fun h => ?_, fun _ => wp_next ⟨[(b, .bag)], List.Sublist.refl _, pin ⟨_, _, _, _, _, _, _, _, _, _, _, rfl, rfl⟩⟩⟩)
          simp at h
  · rintro _ _ ⟨x2, x3, x4, x5, x6, x7, x8, x9, x10, x11, x12, rfl, rfl⟩
    walk_at "wp"
end
end
end LK
namespace LK
open PySem PySem.Spec PyProof.Rows L2 FF
theorem all_mk {K : PySem.W.Frag} {h : Heap} {mg : Str → Option Value} (X : K.In h) (G : h.Ns mainGlobals mg)
    {C_Joins : Addr}
    {C_Analysis : Addr}
    {C_Program : Addr}
    {f0 : Addr} {od0 an0 : Option Addr} {sl0 : Array (Option Value)} {oc0 kV0 dc0 pm0 cd0 ct0 : Value}
    {f1 : Addr} {od1 an1 : Option Addr} {sl1 : Array (Option Value)} {oc1 kV1 dc1 pm1 cd1 ct1 : Value}
    {f2 : Addr} {od2 an2 : Option Addr} {sl2 : Array (Option Value)} {oc2 kV2 dc2 pm2 cd2 ct2 : Value}
    {f3 : Addr} {od3 an3 : Option Addr} {sl3 : Array (Option Value)} {oc3 kV3 dc3 pm3 cd3 ct3 : Value}
    {f4 : Addr} {od4 an4 : Option Addr} {sl4 : Array (Option Value)} {oc4 kV4 dc4 pm4 cd4 ct4 : Value}
    {f5 : Addr} {od5 an5 : Option Addr} {sl5 : Array (Option Value)} {oc5 kV5 dc5 pm5 cd5 ct5 : Value}
    {f6 : Addr} {od6 an6 : Option Addr} {sl6 : Array (Option Value)} {oc6 kV6 dc6 pm6 cd6 ct6 : Value}
    {f7 : Addr} {od7 an7 : Option Addr} {sl7 : Array (Option Value)} {oc7 kV7 dc7 pm7 cd7 ct7 : Value}
    {f8 : Addr} {od8 an8 : Option Addr} {sl8 : Array (Option Value)} {oc8 kV8 dc8 pm8 cd8 ct8 : Value}
    {f9 : Addr} {od9 an9 : Option Addr} {sl9 : Array (Option Value)} {oc9 kV9 dc9 pm9 cd9 ct9 : Value}
    {f10 : Addr} {od10 an10 : Option Addr} {sl10 : Array (Option Value)} {oc10 kV10 dc10 pm10 cd10 ct10 : Value}
    {f11 : Addr} {od11 an11 : Option Addr} {sl11 : Array (Option Value)} {oc11 kV11 dc11 pm11 cd11 ct11 : Value}
    {f12 : Addr} {od12 an12 : Option Addr} {sl12 : Array (Option Value)} {oc12 kV12 dc12 pm12 cd12 ct12 : Value}
    {f13 : Addr} {od13 an13 : Option Addr} {sl13 : Array (Option Value)} {oc13 kV13 dc13 pm13 cd13 ct13 : Value}
    {f14 : Addr} {od14 an14 : Option Addr} {sl14 : Array (Option Value)} {oc14 kV14 dc14 pm14 cd14 ct14 : Value}
    {f15 : Addr} {od15 an15 : Option Addr} {sl15 : Array (Option Value)} {oc15 kV15 dc15 pm15 cd15 ct15 : Value}
    {f16 : Addr} {od16 an16 : Option Addr} {sl16 : Array (Option Value)} {oc16 kV16 dc16 pm16 cd16 ct16 : Value}
    {f17 : Addr} {od17 an17 : Option Addr} {sl17 : Array (Option Value)} {oc17 kV17 dc17 pm17 cd17 ct17 : Value}
    {f18 : Addr} {od18 an18 : Option Addr} {sl18 : Array (Option Value)} {oc18 kV18 dc18 pm18 cd18 ct18 : Value}
    {f19 : Addr} {od19 an19 : Option Addr} {sl19 : Array (Option Value)} {oc19 kV19 dc19 pm19 cd19 ct19 : Value}
    {f20 : Addr} {od20 an20 : Option Addr} {sl20 : Array (Option Value)} {oc20 kV20 dc20 pm20 cd20 ct20 : Value}
    {f21 : Addr} {od21 an21 : Option Addr} {sl21 : Array (Option Value)} {oc21 kV21 dc21 pm21 cd21 ct21 : Value}
    {f22 : Addr} {od22 an22 : Option Addr} {sl22 : Array (Option Value)} {oc22 kV22 dc22 pm22 cd22 ct22 : Value}
    {f23 : Addr} {od23 an23 : Option Addr} {sl23 : Array (Option Value)} {oc23 kV23 dc23 pm23 cd23 ct23 : Value}
    {f24 : Addr} {od24 an24 : Option Addr} {sl24 : Array (Option Value)} {oc24 kV24 dc24 pm24 cd24 ct24 : Value}
    {f25 : Addr} {od25 an25 : Option Addr} {sl25 : Array (Option Value)} {oc25 kV25 dc25 pm25 cd25 ct25 : Value}
    {f26 : Addr} {od26 an26 : Option Addr} {sl26 : Array (Option Value)} {oc26 kV26 dc26 pm26 cd26 ct26 : Value}
    {f27 : Addr} {od27 an27 : Option Addr} {sl27 : Array (Option Value)} {oc27 kV27 dc27 pm27 cd27 ct27 : Value}
    {f28 : Addr} {od28 an28 : Option Addr} {sl28 : Array (Option Value)} {oc28 kV28 dc28 pm28 cd28 ct28 : Value}
    {f29 : Addr} {od29 an29 : Option Addr} {sl29 : Array (Option Value)} {oc29 kV29 dc29 pm29 cd29 ct29 : Value}
    {f30 : Addr} {od30 an30 : Option Addr} {sl30 : Array (Option Value)} {oc30 kV30 dc30 pm30 cd30 ct30 : Value}
    {f31 : Addr} {od31 an31 : Option Addr} {sl31 : Array (Option Value)} {oc31 kV31 dc31 pm31 cd31 ct31 : Value}
    {f32 : Addr} {od32 an32 : Option Addr} {sl32 : Array (Option Value)} {oc32 kV32 dc32 pm32 cd32 ct32 : Value}
    {f33 : Addr} {od33 an33 : Option Addr} {sl33 : Array (Option Value)} {oc33 kV33 dc33 pm33 cd33 ct33 : Value}
    {f34 : Addr} {od34 an34 : Option Addr} {sl34 : Array (Option Value)} {oc34 kV34 dc34 pm34 cd34 ct34 : Value}
    {f35 : Addr} {od35 an35 : Option Addr} {sl35 : Array (Option Value)} {oc35 kV35 dc35 pm35 cd35 ct35 : Value}
    {f36 : Addr} {od36 an36 : Option Addr} {sl36 : Array (Option Value)} {oc36 kV36 dc36 pm36 cd36 ct36 : Value}
    {f37 : Addr} {od37 an37 : Option Addr} {sl37 : Array (Option Value)} {oc37 kV37 dc37 pm37 cd37 ct37 : Value}
    {f38 : Addr} {od38 an38 : Option Addr} {sl38 : Array (Option Value)} {oc38 kV38 dc38 pm38 cd38 ct38 : Value}
    {f39 : Addr} {od39 an39 : Option Addr} {sl39 : Array (Option Value)} {oc39 kV39 dc39 pm39 cd39 ct39 : Value}
    {f40 : Addr} {od40 an40 : Option Addr} {sl40 : Array (Option Value)} {oc40 kV40 dc40 pm40 cd40 ct40 : Value}
    {f41 : Addr} {od41 an41 : Option Addr} {sl41 : Array (Option Value)} {oc41 kV41 dc41 pm41 cd41 ct41 : Value}
    {f42 : Addr} {od42 an42 : Option Addr} {sl42 : Array (Option Value)} {oc42 kV42 dc42 pm42 cd42 ct42 : Value}
    {f43 : Addr} {od43 an43 : Option Addr} {sl43 : Array (Option Value)} {oc43 kV43 dc43 pm43 cd43 ct43 : Value}
    {f44 : Addr} {od44 an44 : Option Addr} {sl44 : Array (Option Value)} {oc44 kV44 dc44 pm44 cd44 ct44 : Value}
    {f45 : Addr} {od45 an45 : Option Addr} {sl45 : Array (Option Value)} {oc45 kV45 dc45 pm45 cd45 ct45 : Value}
    {f46 : Addr} {od46 an46 : Option Addr} {sl46 : Array (Option Value)} {oc46 kV46 dc46 pm46 cd46 ct46 : Value}
    {f47 : Addr} {od47 an47 : Option Addr} {sl47 : Array (Option Value)} {oc47 dc47 pm47 cd47 ct47 : Value}
    {f48 : Addr} {od48 an48 : Option Addr} {sl48 : Array (Option Value)} {oc48 kV48 dc48 pm48 cd48 ct48 : Value}
    {f49 : Addr} {od49 an49 : Option Addr} {sl49 : Array (Option Value)} {oc49 kV49 dc49 pm49 cd49 ct49 : Value}
    {f50 : Addr} {od50 an50 : Option Addr} {sl50 : Array (Option Value)} {oc50 dc50 pm50 cd50 ct50 : Value}
    {f51 : Addr} {od51 an51 : Option Addr} {sl51 : Array (Option Value)} {oc51 kV51 dc51 pm51 cd51 ct51 : Value}
    {f52 : Addr} {od52 an52 : Option Addr} {sl52 : Array (Option Value)} {oc52 kV52 dc52 pm52 cd52 ct52 : Value}
    {f53 : Addr} {od53 an53 : Option Addr} {sl53 : Array (Option Value)} {oc53 kV53 dc53 pm53 cd53 ct53 : Value}
    {f54 : Addr} {od54 an54 : Option Addr} {sl54 : Array (Option Value)} {oc54 kV54 dc54 pm54 cd54 ct54 : Value}
    {f55 : Addr} {od55 an55 : Option Addr} {sl55 : Array (Option Value)} {oc55 kV55 dc55 pm55 cd55 ct55 : Value}
    {f56 : Addr} {od56 an56 : Option Addr} {sl56 : Array (Option Value)} {oc56 kV56 dc56 pm56 cd56 ct56 : Value}
    {f57 : Addr} {od57 an57 : Option Addr} {sl57 : Array (Option Value)} {oc57 kV57 dc57 pm57 cd57 ct57 : Value}
    {f58 : Addr} {od58 an58 : Option Addr} {sl58 : Array (Option Value)} {oc58 kV58 dc58 pm58 cd58 ct58 : Value}
    {f59 : Addr} {od59 an59 : Option Addr} {sl59 : Array (Option Value)} {oc59 kV59 dc59 pm59 cd59 ct59 : Value}
    (aCJoins : PySem.W.nsIn K mainGlobals "Joins" = some (some (.ref C_Joins))) (pgJoins : PySem.W.plainGet K C_Joins Str.empty = true) (hdJoins : PySem.W.hasDictIn K C_Joins = true) (poJoins : PySem.W.plainOver K C_Joins = true) (saJoins : PySem.W.findIn K (.ref C_Joins) "__setattr__" = some (some (.builtin "object.__setattr__"))) (mkJoins : PySem.W.makesIn K C_Joins = true) (kcJoins : PySem.W.keepIn K (.ref C_Joins) = true)
    (e1Joins : PySem.W.findIn K (.ref C_Joins) "__ne__" = some (some (.builtin "object.__ne__")))
    (e2Joins : PySem.W.subIn K (.ref C_Joins) (.type "object") = some true)
    (e3Joins : PySem.W.subIn K (.ref C_Joins) (.type "NoneType") = some false)
    (e4Joins : PySem.W.subIn K (.ref C_Joins) (.type "int") = some false)
    (e5Joins : PySem.W.subIn K (.ref C_Joins) (.type "str") = some false)
    (e6Joins : PySem.W.subIn K (.ref C_Joins) (.type "list") = some false)
    (e7Joins : PySem.W.subIn K (.ref C_Joins) (.type "tuple") = some false)
    (e8Joins : PySem.W.subIn K (.ref C_Joins) (.type "dict") = some false)
    (e9Joins : PySem.W.isClsIn K C_Joins = true)
    (e10Joins : PySem.W.typeIn K (.ref C_Joins) = some (.type "type"))
    (e11Joins : PySem.W.findIn K (.ref C_Joins) "__class__" = some (some (.builtin "object.__class__")))
    (e12Joins : PySem.W.specialIn K (.builtin "object.__class__") "__get__" = some (some (.builtin "getset_descriptor.__get__")))
    (e13Joins : PySem.W.takesIn K (.builtin "object.__class__") = some true)
    (e14Joins : PySem.W.mroIn K C_Joins (.type "object") = some true)
    (e15Joins : PySem.W.selfFirst K C_Joins = true)
    (naJoins_rows : PySem.W.findIn K (.ref C_Joins) "_rows" = some none)
    (aCAnalysis : PySem.W.nsIn K mainGlobals "Analysis" = some (some (.ref C_Analysis))) (pgAnalysis : PySem.W.plainGet K C_Analysis Str.empty = true) (hdAnalysis : PySem.W.hasDictIn K C_Analysis = true) (poAnalysis : PySem.W.plainOver K C_Analysis = true) (saAnalysis : PySem.W.findIn K (.ref C_Analysis) "__setattr__" = some (some (.builtin "object.__setattr__"))) (mkAnalysis : PySem.W.makesIn K C_Analysis = true) (kcAnalysis : PySem.W.keepIn K (.ref C_Analysis) = true)
    (naAnalysis_joins : PySem.W.findIn K (.ref C_Analysis) "_joins" = some none)
    (naAnalysis_maps : PySem.W.findIn K (.ref C_Analysis) "_maps" = some none)
    (naAnalysis_begin : PySem.W.findIn K (.ref C_Analysis) "_begin" = some none)
    (aCProgram : PySem.W.nsIn K mainGlobals "Program" = some (some (.ref C_Program))) (pgProgram : PySem.W.plainGet K C_Program Str.empty = true) (hdProgram : PySem.W.hasDictIn K C_Program = true) (poProgram : PySem.W.plainOver K C_Program = true) (saProgram : PySem.W.findIn K (.ref C_Program) "__setattr__" = some (some (.builtin "object.__setattr__"))) (mkProgram : PySem.W.makesIn K C_Program = true) (kcProgram : PySem.W.keepIn K (.ref C_Program) = true)
    (naProgram_places : PySem.W.findIn K (.ref C_Program) "_places" = some none)
    (naProgram_begins : PySem.W.findIn K (.ref C_Program) "_begins" = some none)
    (naProgram_edges : PySem.W.findIn K (.ref C_Program) "_edges" = some none)
    (naProgram_into : PySem.W.findIn K (.ref C_Program) "_into" = some none)
    (naProgram_out : PySem.W.findIn K (.ref C_Program) "_out" = some none)
    (a0 : PySem.W.nsIn K mainGlobals "is_integer" = some (some (.ref f0)))
    (l0 : K.lookup f0 = some ⟨oc0, od0, .func (PySem.W.fnOf "is_integer" "is_integer" (defArgs s_is_integer) (defBody s_is_integer) (defScope s_is_integer) .none kV0 dc0 pm0 an0 cd0 ct0), sl0⟩) (c0 : PySem.W.codeIn K cd0 "is_integer" = true) (k0 : PySem.W.keepIn K (.ref f0) = true)
    (a1 : PySem.W.nsIn K mainGlobals "is_number" = some (some (.ref f1)))
    (l1 : K.lookup f1 = some ⟨oc1, od1, .func (PySem.W.fnOf "is_number" "is_number" (defArgs s_is_number) (defBody s_is_number) (defScope s_is_number) .none kV1 dc1 pm1 an1 cd1 ct1), sl1⟩) (c1 : PySem.W.codeIn K cd1 "is_number" = true) (k1 : PySem.W.keepIn K (.ref f1) = true)
    (a2 : PySem.W.nsIn K mainGlobals "is_name" = some (some (.ref f2)))
    (l2 : K.lookup f2 = some ⟨oc2, od2, .func (PySem.W.fnOf "is_name" "is_name" (defArgs s_is_name) (defBody s_is_name) (defScope s_is_name) .none kV2 dc2 pm2 an2 cd2 ct2), sl2⟩) (c2 : PySem.W.codeIn K cd2 "is_name" = true) (k2 : PySem.W.keepIn K (.ref f2) = true)
    (a3 : PySem.W.nsIn K mainGlobals "is_map" = some (some (.ref f3)))
    (l3 : K.lookup f3 = some ⟨oc3, od3, .func (PySem.W.fnOf "is_map" "is_map" (defArgs s_is_map) (defBody s_is_map) (defScope s_is_map) .none kV3 dc3 pm3 an3 cd3 ct3), sl3⟩) (c3 : PySem.W.codeIn K cd3 "is_map" = true) (k3 : PySem.W.keepIn K (.ref f3) = true)
    (a4 : PySem.W.nsIn K mainGlobals "_are_rows" = some (some (.ref f4)))
    (l4 : K.lookup f4 = some ⟨oc4, od4, .func (PySem.W.fnOf "_are_rows" "_are_rows" (defArgs s_are_rows) (defBody s_are_rows) (defScope s_are_rows) .none kV4 dc4 pm4 an4 cd4 ct4), sl4⟩) (c4 : PySem.W.codeIn K cd4 "_are_rows" = true) (k4 : PySem.W.keepIn K (.ref f4) = true)
    (a5 : PySem.W.nsIn K mainGlobals "_unlike_itself" = some (some (.ref f5)))
    (l5 : K.lookup f5 = some ⟨oc5, od5, .func (PySem.W.fnOf "_unlike_itself" "_unlike_itself" (defArgs s_unlike_itself) (defBody s_unlike_itself) (defScope s_unlike_itself) .none kV5 dc5 pm5 an5 cd5 ct5), sl5⟩) (c5 : PySem.W.codeIn K cd5 "_unlike_itself" = true) (k5 : PySem.W.keepIn K (.ref f5) = true)
    (a6 : PySem.W.nsIn K mainGlobals "_unlike_turned" = some (some (.ref f6)))
    (l6 : K.lookup f6 = some ⟨oc6, od6, .func (PySem.W.fnOf "_unlike_turned" "_unlike_turned" (defArgs s_unlike_turned) (defBody s_unlike_turned) (defScope s_unlike_turned) .none kV6 dc6 pm6 an6 cd6 ct6), sl6⟩) (c6 : PySem.W.codeIn K cd6 "_unlike_turned" = true) (k6 : PySem.W.keepIn K (.ref f6) = true)
    (a7 : PySem.W.nsIn K mainGlobals "_unlike_shifted" = some (some (.ref f7)))
    (l7 : K.lookup f7 = some ⟨oc7, od7, .func (PySem.W.fnOf "_unlike_shifted" "_unlike_shifted" (defArgs s_unlike_shifted) (defBody s_unlike_shifted) (defScope s_unlike_shifted) .none kV7 dc7 pm7 an7 cd7 ct7), sl7⟩) (c7 : PySem.W.codeIn K cd7 "_unlike_shifted" = true) (k7 : PySem.W.keepIn K (.ref f7) = true)
    (a8 : PySem.W.nsIn K mainGlobals "_first_unlike" = some (some (.ref f8)))
    (l8 : K.lookup f8 = some ⟨oc8, od8, .func (PySem.W.fnOf "_first_unlike" "_first_unlike" (defArgs s_first_unlike) (defBody s_first_unlike) (defScope s_first_unlike) .none kV8 dc8 pm8 an8 cd8 ct8), sl8⟩) (c8 : PySem.W.codeIn K cd8 "_first_unlike" = true) (k8 : PySem.W.keepIn K (.ref f8) = true)
    (a9 : PySem.W.nsIn K mainGlobals "_bad_join" = some (some (.ref f9)))
    (l9 : K.lookup f9 = some ⟨oc9, od9, .func (PySem.W.fnOf "_bad_join" "_bad_join" (defArgs s_bad_join) (defBody s_bad_join) (defScope s_bad_join) .none kV9 dc9 pm9 an9 cd9 ct9), sl9⟩) (c9 : PySem.W.codeIn K cd9 "_bad_join" = true) (k9 : PySem.W.keepIn K (.ref f9) = true)
    (a10 : PySem.W.nsIn K mainGlobals "first_fall" = some (some (.ref f10)))
    (l10 : K.lookup f10 = some ⟨oc10, od10, .func (PySem.W.fnOf "first_fall" "first_fall" (defArgs s_first_fall) (defBody s_first_fall) (defScope s_first_fall) .none kV10 dc10 pm10 an10 cd10 ct10), sl10⟩) (c10 : PySem.W.codeIn K cd10 "first_fall" = true) (k10 : PySem.W.keepIn K (.ref f10) = true)
    (a11 : PySem.W.nsIn K mainGlobals "_are_maps" = some (some (.ref f11)))
    (l11 : K.lookup f11 = some ⟨oc11, od11, .func (PySem.W.fnOf "_are_maps" "_are_maps" (defArgs s_are_maps) (defBody s_are_maps) (defScope s_are_maps) .none kV11 dc11 pm11 an11 cd11 ct11), sl11⟩) (c11 : PySem.W.codeIn K cd11 "_are_maps" = true) (k11 : PySem.W.keepIn K (.ref f11) = true)
    (a12 : PySem.W.nsIn K mainGlobals "_check_rise" = some (some (.ref f12)))
    (l12 : K.lookup f12 = some ⟨oc12, od12, .func (PySem.W.fnOf "_check_rise" "_check_rise" (defArgs s_check_rise) (defBody s_check_rise) (defScope s_check_rise) .none kV12 dc12 pm12 an12 cd12 ct12), sl12⟩) (c12 : PySem.W.codeIn K cd12 "_check_rise" = true) (k12 : PySem.W.keepIn K (.ref f12) = true)
    (a13 : PySem.W.nsIn K mainGlobals "found_values" = some (some (.ref f13)))
    (l13 : K.lookup f13 = some ⟨oc13, od13, .func (PySem.W.fnOf "found_values" "found_values" (defArgs s_found_values) (defBody s_found_values) (defScope s_found_values) .none kV13 dc13 pm13 an13 cd13 ct13), sl13⟩) (c13 : PySem.W.codeIn K cd13 "found_values" = true) (k13 : PySem.W.keepIn K (.ref f13) = true)
    (a14 : PySem.W.nsIn K mainGlobals "check_fits" = some (some (.ref f14)))
    (l14 : K.lookup f14 = some ⟨oc14, od14, .func (PySem.W.fnOf "check_fits" "check_fits" (defArgs s_check_fits) (defBody s_check_fits) (defScope s_check_fits) .none kV14 dc14 pm14 an14 cd14 ct14), sl14⟩) (c14 : PySem.W.codeIn K cd14 "check_fits" = true) (k14 : PySem.W.keepIn K (.ref f14) = true)
    (a15 : PySem.W.nsIn K mainGlobals "check_place" = some (some (.ref f15)))
    (l15 : K.lookup f15 = some ⟨oc15, od15, .func (PySem.W.fnOf "check_place" "check_place" (defArgs s_check_place) (defBody s_check_place) (defScope s_check_place) .none kV15 dc15 pm15 an15 cd15 ct15), sl15⟩) (c15 : PySem.W.codeIn K cd15 "check_place" = true) (k15 : PySem.W.keepIn K (.ref f15) = true)
    (a16 : PySem.W.nsIn K mainGlobals "all_maps" = some (some (.ref f16)))
    (l16 : K.lookup f16 = some ⟨oc16, od16, .func (PySem.W.fnOf "all_maps" "all_maps" (defArgs s_all_maps) (defBody s_all_maps) (defScope s_all_maps) .none kV16 dc16 pm16 an16 cd16 ct16), sl16⟩) (c16 : PySem.W.codeIn K cd16 "all_maps" = true) (k16 : PySem.W.keepIn K (.ref f16) = true)
    (a17 : PySem.W.nsIn K mainGlobals "all_outs" = some (some (.ref f17)))
    (l17 : K.lookup f17 = some ⟨oc17, od17, .func (PySem.W.fnOf "all_outs" "all_outs" (defArgs s_all_outs) (defBody s_all_outs) (defScope s_all_outs) .none kV17 dc17 pm17 an17 cd17 ct17), sl17⟩) (c17 : PySem.W.codeIn K cd17 "all_outs" = true) (k17 : PySem.W.keepIn K (.ref f17) = true)
    (a18 : PySem.W.nsIn K mainGlobals "joined_to" = some (some (.ref f18)))
    (l18 : K.lookup f18 = some ⟨oc18, od18, .func (PySem.W.fnOf "joined_to" "joined_to" (defArgs s_joined_to) (defBody s_joined_to) (defScope s_joined_to) .none kV18 dc18 pm18 an18 cd18 ct18), sl18⟩) (c18 : PySem.W.codeIn K cd18 "joined_to" = true) (k18 : PySem.W.keepIn K (.ref f18) = true)
    (a19 : PySem.W.nsIn K mainGlobals "found_facts" = some (some (.ref f19)))
    (l19 : K.lookup f19 = some ⟨oc19, od19, .func (PySem.W.fnOf "found_facts" "found_facts" (defArgs s_found_facts) (defBody s_found_facts) (defScope s_found_facts) .none kV19 dc19 pm19 an19 cd19 ct19), sl19⟩) (c19 : PySem.W.codeIn K cd19 "found_facts" = true) (k19 : PySem.W.keepIn K (.ref f19) = true)
    (a20 : PySem.W.nsIn K mainGlobals "facts_of" = some (some (.ref f20)))
    (l20 : K.lookup f20 = some ⟨oc20, od20, .func (PySem.W.fnOf "facts_of" "facts_of" (defArgs s_facts_of) (defBody s_facts_of) (defScope s_facts_of) .none kV20 dc20 pm20 an20 cd20 ct20), sl20⟩) (c20 : PySem.W.codeIn K cd20 "facts_of" = true) (k20 : PySem.W.keepIn K (.ref f20) = true)
    (a21 : PySem.W.nsIn K mainGlobals "_are_begins" = some (some (.ref f21)))
    (l21 : K.lookup f21 = some ⟨oc21, od21, .func (PySem.W.fnOf "_are_begins" "_are_begins" (defArgs s_are_begins) (defBody s_are_begins) (defScope s_are_begins) .none kV21 dc21 pm21 an21 cd21 ct21), sl21⟩) (c21 : PySem.W.codeIn K cd21 "_are_begins" = true) (k21 : PySem.W.keepIn K (.ref f21) = true)
    (a22 : PySem.W.nsIn K mainGlobals "_is_edge" = some (some (.ref f22)))
    (l22 : K.lookup f22 = some ⟨oc22, od22, .func (PySem.W.fnOf "_is_edge" "_is_edge" (defArgs s_is_edge) (defBody s_is_edge) (defScope s_is_edge) .none kV22 dc22 pm22 an22 cd22 ct22), sl22⟩) (c22 : PySem.W.codeIn K cd22 "_is_edge" = true) (k22 : PySem.W.keepIn K (.ref f22) = true)
    (a23 : PySem.W.nsIn K mainGlobals "_are_edges" = some (some (.ref f23)))
    (l23 : K.lookup f23 = some ⟨oc23, od23, .func (PySem.W.fnOf "_are_edges" "_are_edges" (defArgs s_are_edges) (defBody s_are_edges) (defScope s_are_edges) .none kV23 dc23 pm23 an23 cd23 ct23), sl23⟩) (c23 : PySem.W.codeIn K cd23 "_are_edges" = true) (k23 : PySem.W.keepIn K (.ref f23) = true)
    (a24 : PySem.W.nsIn K mainGlobals "_rows_into" = some (some (.ref f24)))
    (l24 : K.lookup f24 = some ⟨oc24, od24, .func (PySem.W.fnOf "_rows_into" "_rows_into" (defArgs s_rows_into) (defBody s_rows_into) (defScope s_rows_into) .none kV24 dc24 pm24 an24 cd24 ct24), sl24⟩) (c24 : PySem.W.codeIn K cd24 "_rows_into" = true) (k24 : PySem.W.keepIn K (.ref f24) = true)
    (a25 : PySem.W.nsIn K mainGlobals "_rows_out" = some (some (.ref f25)))
    (l25 : K.lookup f25 = some ⟨oc25, od25, .func (PySem.W.fnOf "_rows_out" "_rows_out" (defArgs s_rows_out) (defBody s_rows_out) (defScope s_rows_out) .none kV25 dc25 pm25 an25 cd25 ct25), sl25⟩) (c25 : PySem.W.codeIn K cd25 "_rows_out" = true) (k25 : PySem.W.keepIn K (.ref f25) = true)
    (a26 : PySem.W.nsIn K mainGlobals "_spread" = some (some (.ref f26)))
    (l26 : K.lookup f26 = some ⟨oc26, od26, .func (PySem.W.fnOf "_spread" "_spread" (defArgs s_spread) (defBody s_spread) (defScope s_spread) .none kV26 dc26 pm26 an26 cd26 ct26), sl26⟩) (c26 : PySem.W.codeIn K cd26 "_spread" = true) (k26 : PySem.W.keepIn K (.ref f26) = true)
    (a27 : PySem.W.nsIn K mainGlobals "line_program" = some (some (.ref f27)))
    (l27 : K.lookup f27 = some ⟨oc27, od27, .func (PySem.W.fnOf "line_program" "line_program" (defArgs s_line_program) (defBody s_line_program) (defScope s_line_program) .none kV27 dc27 pm27 an27 cd27 ct27), sl27⟩) (c27 : PySem.W.codeIn K cd27 "line_program" = true) (k27 : PySem.W.keepIn K (.ref f27) = true)
    (a28 : PySem.W.nsIn K mainGlobals "_law_bag" = some (some (.ref f28)))
    (l28 : K.lookup f28 = some ⟨oc28, od28, .func (PySem.W.fnOf "_law_bag" "_law_bag" (defArgs s_l_bag) (defBody s_l_bag) (defScope s_l_bag) .none kV28 dc28 pm28 an28 cd28 ct28), sl28⟩) (c28 : PySem.W.codeIn K cd28 "_law_bag" = true) (k28 : PySem.W.keepIn K (.ref f28) = true)
    (a29 : PySem.W.nsIn K mainGlobals "_law_take" = some (some (.ref f29)))
    (l29 : K.lookup f29 = some ⟨oc29, od29, .func (PySem.W.fnOf "_law_take" "_law_take" (defArgs s_l_take) (defBody s_l_take) (defScope s_l_take) .none kV29 dc29 pm29 an29 cd29 ct29), sl29⟩) (c29 : PySem.W.codeIn K cd29 "_law_take" = true) (k29 : PySem.W.keepIn K (.ref f29) = true)
    (a30 : PySem.W.nsIn K mainGlobals "_law_alike" = some (some (.ref f30)))
    (l30 : K.lookup f30 = some ⟨oc30, od30, .func (PySem.W.fnOf "_law_alike" "_law_alike" (defArgs s_l_alike) (defBody s_l_alike) (defScope s_l_alike) .none kV30 dc30 pm30 an30 cd30 ct30), sl30⟩) (c30 : PySem.W.codeIn K cd30 "_law_alike" = true) (k30 : PySem.W.keepIn K (.ref f30) = true)
    (a31 : PySem.W.nsIn K mainGlobals "_law_mixed" = some (some (.ref f31)))
    (l31 : K.lookup f31 = some ⟨oc31, od31, .func (PySem.W.fnOf "_law_mixed" "_law_mixed" (defArgs s_l_mixed) (defBody s_l_mixed) (defScope s_l_mixed) .none kV31 dc31 pm31 an31 cd31 ct31), sl31⟩) (c31 : PySem.W.codeIn K cd31 "_law_mixed" = true) (k31 : PySem.W.keepIn K (.ref f31) = true)
    (a32 : PySem.W.nsIn K mainGlobals "_law_names" = some (some (.ref f32)))
    (l32 : K.lookup f32 = some ⟨oc32, od32, .func (PySem.W.fnOf "_law_names" "_law_names" (defArgs s_l_names) (defBody s_l_names) (defScope s_l_names) .none kV32 dc32 pm32 an32 cd32 ct32), sl32⟩) (c32 : PySem.W.codeIn K cd32 "_law_names" = true) (k32 : PySem.W.keepIn K (.ref f32) = true)
    (a33 : PySem.W.nsIn K mainGlobals "_law_both" = some (some (.ref f33)))
    (l33 : K.lookup f33 = some ⟨oc33, od33, .func (PySem.W.fnOf "_law_both" "_law_both" (defArgs s_l_both) (defBody s_l_both) (defScope s_l_both) .none kV33 dc33 pm33 an33 cd33 ct33), sl33⟩) (c33 : PySem.W.codeIn K cd33 "_law_both" = true) (k33 : PySem.W.keepIn K (.ref f33) = true)
    (a34 : PySem.W.nsIn K mainGlobals "_law_rows" = some (some (.ref f34)))
    (l34 : K.lookup f34 = some ⟨oc34, od34, .func (PySem.W.fnOf "_law_rows" "_law_rows" (defArgs s_l_rows) (defBody s_l_rows) (defScope s_l_rows) .none kV34 dc34 pm34 an34 cd34 ct34), sl34⟩) (c34 : PySem.W.codeIn K cd34 "_law_rows" = true) (k34 : PySem.W.keepIn K (.ref f34) = true)
    (a35 : PySem.W.nsIn K mainGlobals "_law_map" = some (some (.ref f35)))
    (l35 : K.lookup f35 = some ⟨oc35, od35, .func (PySem.W.fnOf "_law_map" "_law_map" (defArgs s_l_map) (defBody s_l_map) (defScope s_l_map) .none kV35 dc35 pm35 an35 cd35 ct35), sl35⟩) (c35 : PySem.W.codeIn K cd35 "_law_map" = true) (k35 : PySem.W.keepIn K (.ref f35) = true)
    (a36 : PySem.W.nsIn K mainGlobals "_law_maps" = some (some (.ref f36)))
    (l36 : K.lookup f36 = some ⟨oc36, od36, .func (PySem.W.fnOf "_law_maps" "_law_maps" (defArgs s_l_maps) (defBody s_l_maps) (defScope s_l_maps) .none kV36 dc36 pm36 an36 cd36 ct36), sl36⟩) (c36 : PySem.W.codeIn K cd36 "_law_maps" = true) (k36 : PySem.W.keepIn K (.ref f36) = true)
    (a37 : PySem.W.nsIn K mainGlobals "_law_analysis" = some (some (.ref f37)))
    (l37 : K.lookup f37 = some ⟨oc37, od37, .func (PySem.W.fnOf "_law_analysis" "_law_analysis" (defArgs s_l_analysis) (defBody s_l_analysis) (defScope s_l_analysis) .none kV37 dc37 pm37 an37 cd37 ct37), sl37⟩) (c37 : PySem.W.codeIn K cd37 "_law_analysis" = true) (k37 : PySem.W.keepIn K (.ref f37) = true)
    (a38 : PySem.W.nsIn K mainGlobals "_law_built" = some (some (.ref f38)))
    (l38 : K.lookup f38 = some ⟨oc38, od38, .func (PySem.W.fnOf "_law_built" "_law_built" (defArgs s_l_built) (defBody s_l_built) (defScope s_l_built) .none kV38 dc38 pm38 an38 cd38 ct38), sl38⟩) (c38 : PySem.W.codeIn K cd38 "_law_built" = true) (k38 : PySem.W.keepIn K (.ref f38) = true)
    (a39 : PySem.W.nsIn K mainGlobals "_law_words" = some (some (.ref f39)))
    (l39 : K.lookup f39 = some ⟨oc39, od39, .func (PySem.W.fnOf "_law_words" "_law_words" (defArgs s_l_words) (defBody s_l_words) (defScope s_l_words) .none kV39 dc39 pm39 an39 cd39 ct39), sl39⟩) (c39 : PySem.W.codeIn K cd39 "_law_words" = true) (k39 : PySem.W.keepIn K (.ref f39) = true)
    (a40 : PySem.W.nsIn K mainGlobals "law" = some (some (.ref f40)))
    (l40 : K.lookup f40 = some ⟨oc40, od40, .func (PySem.W.fnOf "law" "law" (defArgs s_law) (defBody s_law) (defScope s_law) .none kV40 dc40 pm40 an40 cd40 ct40), sl40⟩) (c40 : PySem.W.codeIn K cd40 "law" = true) (k40 : PySem.W.keepIn K (.ref f40) = true)
    (a41 : PySem.W.findIn K (.ref C_Joins) "__init__" = some (some (.ref f41))) (i41 : PySem.W.isFn K (.ref f41) = true)
    (l41 : K.lookup f41 = some ⟨oc41, od41, .func (PySem.W.fnOf "__init__" "Joins.__init__" (defArgs s_Joins___init__) (defBody s_Joins___init__) (defScope s_Joins___init__) .none kV41 dc41 pm41 an41 cd41 ct41), sl41⟩) (c41 : PySem.W.codeIn K cd41 "Joins.__init__" = true) (k41 : PySem.W.keepIn K (.ref f41) = true)
    (a42 : PySem.W.findIn K (.ref C_Joins) "__len__" = some (some (.ref f42))) (i42 : PySem.W.isFn K (.ref f42) = true)
    (l42 : K.lookup f42 = some ⟨oc42, od42, .func (PySem.W.fnOf "__len__" "Joins.__len__" (defArgs s_Joins___len__) (defBody s_Joins___len__) (defScope s_Joins___len__) .none kV42 dc42 pm42 an42 cd42 ct42), sl42⟩) (c42 : PySem.W.codeIn K cd42 "Joins.__len__" = true) (k42 : PySem.W.keepIn K (.ref f42) = true)
    (a43 : PySem.W.findIn K (.ref C_Joins) "join" = some (some (.ref f43))) (i43 : PySem.W.isFn K (.ref f43) = true)
    (l43 : K.lookup f43 = some ⟨oc43, od43, .func (PySem.W.fnOf "join" "Joins.join" (defArgs s_Joins_join) (defBody s_Joins_join) (defScope s_Joins_join) .none kV43 dc43 pm43 an43 cd43 ct43), sl43⟩) (c43 : PySem.W.codeIn K cd43 "Joins.join" = true) (k43 : PySem.W.keepIn K (.ref f43) = true)
    (a44 : PySem.W.findIn K (.ref C_Joins) "is_below" = some (some (.ref f44))) (i44 : PySem.W.isFn K (.ref f44) = true)
    (l44 : K.lookup f44 = some ⟨oc44, od44, .func (PySem.W.fnOf "is_below" "Joins.is_below" (defArgs s_Joins_is_below) (defBody s_Joins_is_below) (defScope s_Joins_is_below) .none kV44 dc44 pm44 an44 cd44 ct44), sl44⟩) (c44 : PySem.W.codeIn K cd44 "Joins.is_below" = true) (k44 : PySem.W.keepIn K (.ref f44) = true)
    (a45 : PySem.W.findIn K (.ref C_Joins) "above" = some (some (.ref f45))) (i45 : PySem.W.isFn K (.ref f45) = true)
    (l45 : K.lookup f45 = some ⟨oc45, od45, .func (PySem.W.fnOf "above" "Joins.above" (defArgs s_Joins_above) (defBody s_Joins_above) (defScope s_Joins_above) .none kV45 dc45 pm45 an45 cd45 ct45), sl45⟩) (c45 : PySem.W.codeIn K cd45 "Joins.above" = true) (k45 : PySem.W.keepIn K (.ref f45) = true)
    (a46 : PySem.W.findIn K (.ref C_Joins) "rows" = some (some (.ref f46))) (i46 : PySem.W.isFn K (.ref f46) = true)
    (l46 : K.lookup f46 = some ⟨oc46, od46, .func (PySem.W.fnOf "rows" "Joins.rows" (defArgs s_Joins_rows) (defBody s_Joins_rows) (defScope s_Joins_rows) .none kV46 dc46 pm46 an46 cd46 ct46), sl46⟩) (c46 : PySem.W.codeIn K cd46 "Joins.rows" = true) (k46 : PySem.W.keepIn K (.ref f46) = true)
    (a47 : PySem.W.findIn K (.ref C_Analysis) "__init__" = some (some (.ref f47))) (i47 : PySem.W.isFn K (.ref f47) = true)
    {KD47 : Addr} {KT47 : Tok}
    (l47 : K.lookup f47 = some ⟨oc47, od47, .func (PySem.W.fnOf "__init__" "Analysis.__init__" (defArgs s_Analysis___init__) (defBody s_Analysis___init__) (defScope s_Analysis___init__) .none (.ref KD47) dc47 pm47 an47 cd47 ct47), sl47⟩) (c47 : PySem.W.codeIn K cd47 "Analysis.__init__" = true) (k47 : PySem.W.keepIn K (.ref f47) = true)
    (kd47 : PySem.W.nsIn K KD47 "begin" = some (some (.int 0 KT47)))
    (a48 : PySem.W.findIn K (.ref C_Analysis) "map_of" = some (some (.ref f48))) (i48 : PySem.W.isFn K (.ref f48) = true)
    (l48 : K.lookup f48 = some ⟨oc48, od48, .func (PySem.W.fnOf "map_of" "Analysis.map_of" (defArgs s_Analysis_map_of) (defBody s_Analysis_map_of) (defScope s_Analysis_map_of) .none kV48 dc48 pm48 an48 cd48 ct48), sl48⟩) (c48 : PySem.W.codeIn K cd48 "Analysis.map_of" = true) (k48 : PySem.W.keepIn K (.ref f48) = true)
    (a49 : PySem.W.findIn K (.ref C_Analysis) "statements" = some (some (.ref f49))) (i49 : PySem.W.isFn K (.ref f49) = true)
    (l49 : K.lookup f49 = some ⟨oc49, od49, .func (PySem.W.fnOf "statements" "Analysis.statements" (defArgs s_Analysis_statements) (defBody s_Analysis_statements) (defScope s_Analysis_statements) .none kV49 dc49 pm49 an49 cd49 ct49), sl49⟩) (c49 : PySem.W.codeIn K cd49 "Analysis.statements" = true) (k49 : PySem.W.keepIn K (.ref f49) = true)
    (a50 : PySem.W.findIn K (.ref C_Analysis) "do" = some (some (.ref f50))) (i50 : PySem.W.isFn K (.ref f50) = true)
    {KD50 : Addr}
    (l50 : K.lookup f50 = some ⟨oc50, od50, .func (PySem.W.fnOf "do" "Analysis.do" (defArgs s_Analysis_do) (defBody s_Analysis_do) (defScope s_Analysis_do) .none (.ref KD50) dc50 pm50 an50 cd50 ct50), sl50⟩) (c50 : PySem.W.codeIn K cd50 "Analysis.do" = true) (k50 : PySem.W.keepIn K (.ref f50) = true)
    (kd50 : PySem.W.nsIn K KD50 "value" = some (some .none))
    (a51 : PySem.W.findIn K (.ref C_Analysis) "coming" = some (some (.ref f51))) (i51 : PySem.W.isFn K (.ref f51) = true)
    (l51 : K.lookup f51 = some ⟨oc51, od51, .func (PySem.W.fnOf "coming" "Analysis.coming" (defArgs s_Analysis_coming) (defBody s_Analysis_coming) (defScope s_Analysis_coming) .none kV51 dc51 pm51 an51 cd51 ct51), sl51⟩) (c51 : PySem.W.codeIn K cd51 "Analysis.coming" = true) (k51 : PySem.W.keepIn K (.ref f51) = true)
    (a52 : PySem.W.findIn K (.ref C_Analysis) "word_values" = some (some (.ref f52))) (i52 : PySem.W.isFn K (.ref f52) = true)
    (l52 : K.lookup f52 = some ⟨oc52, od52, .func (PySem.W.fnOf "word_values" "Analysis.word_values" (defArgs s_Analysis_word_values) (defBody s_Analysis_word_values) (defScope s_Analysis_word_values) .none kV52 dc52 pm52 an52 cd52 ct52), sl52⟩) (c52 : PySem.W.codeIn K cd52 "Analysis.word_values" = true) (k52 : PySem.W.keepIn K (.ref f52) = true)
    {pr53 : Addr} {rs53 : List Value} (a53 : PySem.W.findIn K (.ref C_Analysis) "joins" = some (some (.ref pr53))) (pt53 : PySem.W.specialIn K (.ref pr53) "__get__" = some (some (.builtin "property.__get__"))) (pk53 : PySem.W.takesIn K (.ref pr53) = some true) (pq53 : PySem.W.recIn K pr53 "property" = some (.ref f53 :: rs53))
    (l53 : K.lookup f53 = some ⟨oc53, od53, .func (PySem.W.fnOf "joins" "Analysis.joins" (defArgs s_Analysis_joins) (defBody s_Analysis_joins) (defScope s_Analysis_joins) .none kV53 dc53 pm53 an53 cd53 ct53), sl53⟩) (c53 : PySem.W.codeIn K cd53 "Analysis.joins" = true) (k53 : PySem.W.keepIn K (.ref f53) = true)
    {pr54 : Addr} {rs54 : List Value} (a54 : PySem.W.findIn K (.ref C_Analysis) "begin" = some (some (.ref pr54))) (pt54 : PySem.W.specialIn K (.ref pr54) "__get__" = some (some (.builtin "property.__get__"))) (pk54 : PySem.W.takesIn K (.ref pr54) = some true) (pq54 : PySem.W.recIn K pr54 "property" = some (.ref f54 :: rs54))
    (l54 : K.lookup f54 = some ⟨oc54, od54, .func (PySem.W.fnOf "begin" "Analysis.begin" (defArgs s_Analysis_begin) (defBody s_Analysis_begin) (defScope s_Analysis_begin) .none kV54 dc54 pm54 an54 cd54 ct54), sl54⟩) (c54 : PySem.W.codeIn K cd54 "Analysis.begin" = true) (k54 : PySem.W.keepIn K (.ref f54) = true)
    (a55 : PySem.W.findIn K (.ref C_Program) "__init__" = some (some (.ref f55))) (i55 : PySem.W.isFn K (.ref f55) = true)
    (l55 : K.lookup f55 = some ⟨oc55, od55, .func (PySem.W.fnOf "__init__" "Program.__init__" (defArgs s_Program___init__) (defBody s_Program___init__) (defScope s_Program___init__) .none kV55 dc55 pm55 an55 cd55 ct55), sl55⟩) (c55 : PySem.W.codeIn K cd55 "Program.__init__" = true) (k55 : PySem.W.keepIn K (.ref f55) = true)
    (a56 : PySem.W.findIn K (.ref C_Program) "begins" = some (some (.ref f56))) (i56 : PySem.W.isFn K (.ref f56) = true)
    (l56 : K.lookup f56 = some ⟨oc56, od56, .func (PySem.W.fnOf "begins" "Program.begins" (defArgs s_Program_begins) (defBody s_Program_begins) (defScope s_Program_begins) .none kV56 dc56 pm56 an56 cd56 ct56), sl56⟩) (c56 : PySem.W.codeIn K cd56 "Program.begins" = true) (k56 : PySem.W.keepIn K (.ref f56) = true)
    (a57 : PySem.W.findIn K (.ref C_Program) "out_of" = some (some (.ref f57))) (i57 : PySem.W.isFn K (.ref f57) = true)
    (l57 : K.lookup f57 = some ⟨oc57, od57, .func (PySem.W.fnOf "out_of" "Program.out_of" (defArgs s_Program_out_of) (defBody s_Program_out_of) (defScope s_Program_out_of) .none kV57 dc57 pm57 an57 cd57 ct57), sl57⟩) (c57 : PySem.W.codeIn K cd57 "Program.out_of" = true) (k57 : PySem.W.keepIn K (.ref f57) = true)
    (a58 : PySem.W.findIn K (.ref C_Program) "statements" = some (some (.ref f58))) (i58 : PySem.W.isFn K (.ref f58) = true)
    (l58 : K.lookup f58 = some ⟨oc58, od58, .func (PySem.W.fnOf "statements" "Program.statements" (defArgs s_Program_statements) (defBody s_Program_statements) (defScope s_Program_statements) .none kV58 dc58 pm58 an58 cd58 ct58), sl58⟩) (c58 : PySem.W.codeIn K cd58 "Program.statements" = true) (k58 : PySem.W.keepIn K (.ref f58) = true)
    {pr59 : Addr} {rs59 : List Value} (a59 : PySem.W.findIn K (.ref C_Program) "places" = some (some (.ref pr59))) (pt59 : PySem.W.specialIn K (.ref pr59) "__get__" = some (some (.builtin "property.__get__"))) (pk59 : PySem.W.takesIn K (.ref pr59) = some true) (pq59 : PySem.W.recIn K pr59 "property" = some (.ref f59 :: rs59))
    (l59 : K.lookup f59 = some ⟨oc59, od59, .func (PySem.W.fnOf "places" "Program.places" (defArgs s_Program_places) (defBody s_Program_places) (defScope s_Program_places) .none kV59 dc59 pm59 an59 cd59 ct59), sl59⟩) (c59 : PySem.W.codeIn K cd59 "Program.places" = true) (k59 : PySem.W.keepIn K (.ref f59) = true)
    (zz0 : PySem.W.nsIn K mainGlobals "isinstance" = some none)
    (zz1 : PySem.W.nsIn K mainGlobals "len" = some none)
    (zz2 : PySem.W.nsIn K mainGlobals "all" = some none)
    (zz3 : PySem.W.nsIn K mainGlobals "abs" = some none)
    (zz4 : PySem.W.nsIn K mainGlobals "int" = some none)
    (zz5 : PySem.W.nsIn K mainGlobals "repr" = some none)
    (zz6 : PySem.W.nsIn K mainGlobals "range" = some none)
    (zz7 : PySem.W.nsIn K mainGlobals "sorted" = some none)
    (zz8 : PySem.W.nsIn K mainGlobals "list" = some none)
    (zz9 : PySem.W.nsIn K mainGlobals "bool" = some none)
    (zz10 : PySem.W.nsIn K mainGlobals "tuple" = some none)
    (zz11 : PySem.W.nsIn K mainGlobals "set" = some none)
    (zz12 : PySem.W.nsIn K mainGlobals "dict" = some none)
    (zz13 : PySem.W.nsIn K mainGlobals "enumerate" = some none)
    (zz14 : PySem.W.nsIn K mainGlobals "str" = some none)
    {ct_0 : Tok} (cc0 : PySem.W.nsIn K mainGlobals "MOST_VALUES" = some (some (.int 64 ct_0)))
    {ct_1 : Tok} (cc1 : PySem.W.nsIn K mainGlobals "MOST_STATEMENTS" = some (some (.int 6 ct_1)))
    {ct_2 : Tok} (cc2 : PySem.W.nsIn K mainGlobals "MOST_PLACES" = some (some (.int 2000 ct_2)))
    {ct_3 : Tok} (cc3 : PySem.W.nsIn K mainGlobals "LONGEST_NAME" = some (some (.int 8 ct_3)))
    {ct_4 : Tok} (cc4 : PySem.W.nsIn K mainGlobals "LETTERS" = some (some (.str "abcdefghijklmnopqrstuvwxyz" ct_4)))
    : ∃ C_Joins, ∃ C_Analysis, ∃ C_Program, Top K mg C_Joins C_Analysis C_Program ∧ FF.LawAt K mg "law" s_law "_law_script" := by
  refine ⟨C_Joins, C_Analysis, C_Program, ?_, ?_⟩
  · exact {
      d_is_integer := ⟨f0, _, fun_mk (st := s_is_integer) l0 c0 k0, (fun_mk (st := s_is_integer) l0 c0 k0).binds (ps := ["thing"]) fun _ _ _ _ _ _ us hl => match us, hl with | [_], _ => rfl, PySem.W.mg_of X G a0⟩
      d_is_number := ⟨f1, _, fun_mk (st := s_is_number) l1 c1 k1, (fun_mk (st := s_is_number) l1 c1 k1).binds (ps := ["many", "thing"]) fun _ _ _ _ _ _ us hl => match us, hl with | [_, _], _ => rfl, PySem.W.mg_of X G a1⟩
      d_is_name := ⟨f2, _, fun_mk (st := s_is_name) l2 c2 k2, (fun_mk (st := s_is_name) l2 c2 k2).binds (ps := ["thing"]) fun _ _ _ _ _ _ us hl => match us, hl with | [_], _ => rfl, PySem.W.mg_of X G a2⟩
      d_is_map := ⟨f3, _, fun_mk (st := s_is_map) l3 c3 k3, (fun_mk (st := s_is_map) l3 c3 k3).binds (ps := ["many", "thing"]) fun _ _ _ _ _ _ us hl => match us, hl with | [_, _], _ => rfl, PySem.W.mg_of X G a3⟩
      d_are_rows := ⟨f4, _, fun_mk (st := s_are_rows) l4 c4 k4, (fun_mk (st := s_are_rows) l4 c4 k4).binds (ps := ["thing"]) fun _ _ _ _ _ _ us hl => match us, hl with | [_], _ => rfl, PySem.W.mg_of X G a4⟩
      d_unlike_itself := ⟨f5, _, fun_mk (st := s_unlike_itself) l5 c5 k5, (fun_mk (st := s_unlike_itself) l5 c5 k5).binds (ps := ["rows"]) fun _ _ _ _ _ _ us hl => match us, hl with | [_], _ => rfl, PySem.W.mg_of X G a5⟩
      d_unlike_turned := ⟨f6, _, fun_mk (st := s_unlike_turned) l6 c6 k6, (fun_mk (st := s_unlike_turned) l6 c6 k6).binds (ps := ["rows"]) fun _ _ _ _ _ _ us hl => match us, hl with | [_], _ => rfl, PySem.W.mg_of X G a6⟩
      d_unlike_shifted := ⟨f7, _, fun_mk (st := s_unlike_shifted) l7 c7 k7, (fun_mk (st := s_unlike_shifted) l7 c7 k7).binds (ps := ["rows"]) fun _ _ _ _ _ _ us hl => match us, hl with | [_], _ => rfl, PySem.W.mg_of X G a7⟩
      d_first_unlike := ⟨f8, _, fun_mk (st := s_first_unlike) l8 c8 k8, (fun_mk (st := s_first_unlike) l8 c8 k8).binds (ps := ["left", "right"]) fun _ _ _ _ _ _ us hl => match us, hl with | [_, _], _ => rfl, PySem.W.mg_of X G a8⟩
      d_bad_join := ⟨f9, _, fun_mk (st := s_bad_join) l9 c9 k9, (fun_mk (st := s_bad_join) l9 c9 k9).binds (ps := ["rows"]) fun _ _ _ _ _ _ us hl => match us, hl with | [_], _ => rfl, PySem.W.mg_of X G a9⟩
      d_first_fall := ⟨f10, _, fun_mk (st := s_first_fall) l10 c10 k10, (fun_mk (st := s_first_fall) l10 c10 k10).binds (ps := ["joins", "values"]) fun _ _ _ _ _ _ us hl => match us, hl with | [_, _], _ => rfl, PySem.W.mg_of X G a10⟩
      d_are_maps := ⟨f11, _, fun_mk (st := s_are_maps) l11 c11 k11, (fun_mk (st := s_are_maps) l11 c11 k11).binds (ps := ["many", "thing"]) fun _ _ _ _ _ _ us hl => match us, hl with | [_, _], _ => rfl, PySem.W.mg_of X G a11⟩
      d_check_rise := ⟨f12, _, fun_mk (st := s_check_rise) l12 c12 k12, (fun_mk (st := s_check_rise) l12 c12 k12).binds (ps := ["joins", "maps"]) fun _ _ _ _ _ _ us hl => match us, hl with | [_, _], _ => rfl, PySem.W.mg_of X G a12⟩
      d_found_values := ⟨f13, _, fun_mk (st := s_found_values) l13 c13 k13, (fun_mk (st := s_found_values) l13 c13 k13).binds (ps := ["joins", "maps", "begin"]) fun _ _ _ _ _ _ us hl => match us, hl with | [_, _, _], _ => rfl, PySem.W.mg_of X G a13⟩
      d_check_fits := ⟨f14, _, fun_mk (st := s_check_fits) l14 c14 k14, (fun_mk (st := s_check_fits) l14 c14 k14).binds (ps := ["analysis", "program"]) fun _ _ _ _ _ _ us hl => match us, hl with | [_, _], _ => rfl, PySem.W.mg_of X G a14⟩
      d_check_place := ⟨f15, _, fun_mk (st := s_check_place) l15 c15 k15, (fun_mk (st := s_check_place) l15 c15 k15).binds (ps := ["program", "place"]) fun _ _ _ _ _ _ us hl => match us, hl with | [_, _], _ => rfl, PySem.W.mg_of X G a15⟩
      d_all_maps := ⟨f16, _, fun_mk (st := s_all_maps) l16 c16 k16, (fun_mk (st := s_all_maps) l16 c16 k16).binds (ps := ["analysis"]) fun _ _ _ _ _ _ us hl => match us, hl with | [_], _ => rfl, PySem.W.mg_of X G a16⟩
      d_all_outs := ⟨f17, _, fun_mk (st := s_all_outs) l17 c17 k17, (fun_mk (st := s_all_outs) l17 c17 k17).binds (ps := ["program"]) fun _ _ _ _ _ _ us hl => match us, hl with | [_], _ => rfl, PySem.W.mg_of X G a17⟩
      d_joined_to := ⟨f18, _, fun_mk (st := s_joined_to) l18 c18 k18, (fun_mk (st := s_joined_to) l18 c18 k18).binds (ps := ["rows", "value", "brought"]) fun _ _ _ _ _ _ us hl => match us, hl with | [_, _, _], _ => rfl, PySem.W.mg_of X G a18⟩
      d_found_facts := ⟨f19, _, fun_mk (st := s_found_facts) l19 c19 k19, (fun_mk (st := s_found_facts) l19 c19 k19).binds (ps := ["analysis", "program"]) fun _ _ _ _ _ _ us hl => match us, hl with | [_, _], _ => rfl, PySem.W.mg_of X G a19⟩
      d_facts_of := ⟨f20, _, fun_mk (st := s_facts_of) l20 c20 k20, (fun_mk (st := s_facts_of) l20 c20 k20).binds (ps := ["analysis", "program"]) fun _ _ _ _ _ _ us hl => match us, hl with | [_, _], _ => rfl, PySem.W.mg_of X G a20⟩
      d_are_begins := ⟨f21, _, fun_mk (st := s_are_begins) l21 c21 k21, (fun_mk (st := s_are_begins) l21 c21 k21).binds (ps := ["places", "thing"]) fun _ _ _ _ _ _ us hl => match us, hl with | [_, _], _ => rfl, PySem.W.mg_of X G a21⟩
      d_is_edge := ⟨f22, _, fun_mk (st := s_is_edge) l22 c22 k22, (fun_mk (st := s_is_edge) l22 c22 k22).binds (ps := ["places", "thing"]) fun _ _ _ _ _ _ us hl => match us, hl with | [_, _], _ => rfl, PySem.W.mg_of X G a22⟩
      d_are_edges := ⟨f23, _, fun_mk (st := s_are_edges) l23 c23 k23, (fun_mk (st := s_are_edges) l23 c23 k23).binds (ps := ["places", "thing"]) fun _ _ _ _ _ _ us hl => match us, hl with | [_, _], _ => rfl, PySem.W.mg_of X G a23⟩
      d_rows_into := ⟨f24, _, fun_mk (st := s_rows_into) l24 c24 k24, (fun_mk (st := s_rows_into) l24 c24 k24).binds (ps := ["places", "edges"]) fun _ _ _ _ _ _ us hl => match us, hl with | [_, _], _ => rfl, PySem.W.mg_of X G a24⟩
      d_rows_out := ⟨f25, _, fun_mk (st := s_rows_out) l25 c25 k25, (fun_mk (st := s_rows_out) l25 c25 k25).binds (ps := ["places", "edges"]) fun _ _ _ _ _ _ us hl => match us, hl with | [_, _], _ => rfl, PySem.W.mg_of X G a25⟩
      d_spread := ⟨f26, _, fun_mk (st := s_spread) l26 c26 k26, (fun_mk (st := s_spread) l26 c26 k26).binds (ps := ["starts", "rows"]) fun _ _ _ _ _ _ us hl => match us, hl with | [_, _], _ => rfl, PySem.W.mg_of X G a26⟩
      d_line_program := ⟨f27, _, fun_mk (st := s_line_program) l27 c27 k27, (fun_mk (st := s_line_program) l27 c27 k27).binds (ps := ["word"]) fun _ _ _ _ _ _ us hl => match us, hl with | [_], _ => rfl, PySem.W.mg_of X G a27⟩
      d_l_bag := ⟨f28, _, fun_mk (st := s_l_bag) l28 c28 k28, (fun_mk (st := s_l_bag) l28 c28 k28).binds (ps := ["_law_script"]) fun _ _ _ _ _ _ us hl => match us, hl with | [_], _ => rfl, PySem.W.mg_of X G a28⟩
      d_l_take := ⟨f29, _, fun_mk (st := s_l_take) l29 c29 k29, (fun_mk (st := s_l_take) l29 c29 k29).binds (ps := ["_law_bag_here", "_law_many"]) fun _ _ _ _ _ _ us hl => match us, hl with | [_, _], _ => rfl, PySem.W.mg_of X G a29⟩
      d_l_alike := ⟨f30, _, fun_mk (st := s_l_alike) l30 c30 k30, (fun_mk (st := s_l_alike) l30 c30 k30).binds (ps := ["_law_found", "_law_due"]) fun _ _ _ _ _ _ us hl => match us, hl with | [_, _], _ => rfl, PySem.W.mg_of X G a30⟩
      d_l_mixed := ⟨f31, _, fun_mk (st := s_l_mixed) l31 c31 k31, (fun_mk (st := s_l_mixed) l31 c31 k31).binds (ps := ["_law_bag_here", "_law_things"]) fun _ _ _ _ _ _ us hl => match us, hl with | [_, _], _ => rfl, PySem.W.mg_of X G a31⟩
      d_l_names := ⟨f32, _, fun_mk (st := s_l_names) l32 c32 k32, (fun_mk (st := s_l_names) l32 c32 k32).binds (ps := ["_law_bag_here", "_law_many"]) fun _ _ _ _ _ _ us hl => match us, hl with | [_, _], _ => rfl, PySem.W.mg_of X G a32⟩
      d_l_both := ⟨f33, _, fun_mk (st := s_l_both) l33 c33 k33, (fun_mk (st := s_l_both) l33 c33 k33).binds (ps := ["_law_one", "_law_other"]) fun _ _ _ _ _ _ us hl => match us, hl with | [_, _], _ => rfl, PySem.W.mg_of X G a33⟩
      d_l_rows := ⟨f34, _, fun_mk (st := s_l_rows) l34 c34 k34, (fun_mk (st := s_l_rows) l34 c34 k34).binds (ps := ["_law_bag_here", "_law_bound"]) fun _ _ _ _ _ _ us hl => match us, hl with | [_, _], _ => rfl, PySem.W.mg_of X G a34⟩
      d_l_map := ⟨f35, _, fun_mk (st := s_l_map) l35 c35 k35, (fun_mk (st := s_l_map) l35 c35 k35).binds (ps := ["_law_bag_here", "_law_rows_here"]) fun _ _ _ _ _ _ us hl => match us, hl with | [_, _], _ => rfl, PySem.W.mg_of X G a35⟩
      d_l_maps := ⟨f36, _, fun_mk (st := s_l_maps) l36 c36 k36, (fun_mk (st := s_l_maps) l36 c36 k36).binds (ps := ["_law_bag_here", "_law_rows_here", "_law_names_here"]) fun _ _ _ _ _ _ us hl => match us, hl with | [_, _, _], _ => rfl, PySem.W.mg_of X G a36⟩
      d_l_analysis := ⟨f37, _, fun_mk (st := s_l_analysis) l37 c37 k37, (fun_mk (st := s_l_analysis) l37 c37 k37).binds (ps := ["_law_bag_here", "_law_bound"]) fun _ _ _ _ _ _ us hl => match us, hl with | [_, _], _ => rfl, PySem.W.mg_of X G a37⟩
      d_l_built := ⟨f38, _, fun_mk (st := s_l_built) l38 c38 k38, (fun_mk (st := s_l_built) l38 c38 k38).binds (ps := ["_law_bag_here", "_law_parts"]) fun _ _ _ _ _ _ us hl => match us, hl with | [_, _], _ => rfl, PySem.W.mg_of X G a38⟩
      d_l_words := ⟨f39, _, fun_mk (st := s_l_words) l39 c39 k39, (fun_mk (st := s_l_words) l39 c39 k39).binds (ps := ["_law_maps_here", "_law_begun"]) fun _ _ _ _ _ _ us hl => match us, hl with | [_, _], _ => rfl, PySem.W.mg_of X G a39⟩
      i_Joins := ⟨f41, _, fun_mk (st := s_Joins___init__) l41 c41 k41, (fun_mk (st := s_Joins___init__) l41 c41 k41).binds (ps := ["self", "rows"]) fun _ _ _ _ _ _ us hl => match us, hl with | [_, _], _ => rfl, ⟨mkJoins, a41, i41, kcJoins⟩, PySem.W.mg_of X G aCJoins⟩
      m_Joins___len__ := ⟨f42, _, fun_mk (st := s_Joins___len__) l42 c42 k42, (fun_mk (st := s_Joins___len__) l42 c42 k42).binds (ps := ["self"]) fun _ _ _ _ _ _ us hl => match us, hl with | [_], _ => rfl, ⟨a42, i42, k42⟩⟩
      m_Joins_join := ⟨f43, _, fun_mk (st := s_Joins_join) l43 c43 k43, (fun_mk (st := s_Joins_join) l43 c43 k43).binds (ps := ["self", "u", "v"]) fun _ _ _ _ _ _ us hl => match us, hl with | [_, _, _], _ => rfl, ⟨a43, i43, k43⟩⟩
      m_Joins_is_below := ⟨f44, _, fun_mk (st := s_Joins_is_below) l44 c44 k44, (fun_mk (st := s_Joins_is_below) l44 c44 k44).binds (ps := ["self", "u", "v"]) fun _ _ _ _ _ _ us hl => match us, hl with | [_, _, _], _ => rfl, ⟨a44, i44, k44⟩⟩
      m_Joins_above := ⟨f45, _, fun_mk (st := s_Joins_above) l45 c45 k45, (fun_mk (st := s_Joins_above) l45 c45 k45).binds (ps := ["self", "u"]) fun _ _ _ _ _ _ us hl => match us, hl with | [_, _], _ => rfl, ⟨a45, i45, k45⟩⟩
      m_Joins_rows := ⟨f46, _, fun_mk (st := s_Joins_rows) l46 c46 k46, (fun_mk (st := s_Joins_rows) l46 c46 k46).binds (ps := ["self"]) fun _ _ _ _ _ _ us hl => match us, hl with | [_], _ => rfl, ⟨a46, i46, k46⟩⟩
      i_Analysis := ⟨f47, _, fun_mk (st := s_Analysis___init__) l47 c47 k47, L2.FunD.binds0 (ps := ["self", "joins", "maps", "begin"]) (show L2.FunD K "__init__" "Analysis.__init__" (defArgs s_Analysis___init__) (defBody s_Analysis___init__) (defScope s_Analysis___init__) [] [("begin", .int 0)] f47 _ from ⟨⟨_, _, _, _, _, _, _, _, _, _, rfl, l47, c47, .inl ⟨rfl, rfl⟩, .inr ⟨KD47, rfl, fun q hq => by cases hq with | head => exact ⟨_, kd47, ⟨_, rfl⟩⟩ | tail _ h => cases h⟩⟩, k47⟩) 3 (by simp) rfl (fun D doc pm an cdv ct us ks h1 h2 => match us, ks, h1, h2 with | [_, _, _], [_], _, _ => ⟨_, _, _, _, _, _, rfl, rfl, rfl⟩), ⟨fun s us ws X l1 l2 => .of_eq (match us, ws, l1, l2 with | [_, _, _], [_], _, _ => rfl), fun r1 r2 => r1.append r2⟩, ⟨mkAnalysis, a47, i47, kcAnalysis⟩, PySem.W.mg_of X G aCAnalysis⟩
      m_Analysis_map_of := ⟨f48, _, fun_mk (st := s_Analysis_map_of) l48 c48 k48, (fun_mk (st := s_Analysis_map_of) l48 c48 k48).binds (ps := ["self", "name"]) fun _ _ _ _ _ _ us hl => match us, hl with | [_, _], _ => rfl, ⟨a48, i48, k48⟩⟩
      m_Analysis_statements := ⟨f49, _, fun_mk (st := s_Analysis_statements) l49 c49 k49, (fun_mk (st := s_Analysis_statements) l49 c49 k49).binds (ps := ["self"]) fun _ _ _ _ _ _ us hl => match us, hl with | [_], _ => rfl, ⟨a49, i49, k49⟩⟩
      m_Analysis_do := ⟨f50, _, fun_mk (st := s_Analysis_do) l50 c50 k50, L2.FunD.binds0 (ps := ["self", "word", "value"]) (show L2.FunD K "do" "Analysis.do" (defArgs s_Analysis_do) (defBody s_Analysis_do) (defScope s_Analysis_do) [] [("value", .non)] f50 _ from ⟨⟨_, _, _, _, _, _, _, _, _, _, rfl, l50, c50, .inl ⟨rfl, rfl⟩, .inr ⟨KD50, rfl, fun q hq => by cases hq with | head => exact ⟨_, kd50, rfl⟩ | tail _ h => cases h⟩⟩, k50⟩) 2 (by simp) rfl (fun D doc pm an cdv ct us ks h1 h2 => match us, ks, h1, h2 with | [_, _], [_], _, _ => ⟨_, _, _, _, _, _, rfl, rfl, rfl⟩), ⟨fun s us ws X l1 l2 => .of_eq (match us, ws, l1, l2 with | [_, _], [_], _, _ => rfl), fun r1 r2 => r1.append r2⟩, ⟨a50, i50, k50⟩⟩
      m_Analysis_coming := ⟨f51, _, fun_mk (st := s_Analysis_coming) l51 c51 k51, (fun_mk (st := s_Analysis_coming) l51 c51 k51).binds (ps := ["self"]) fun _ _ _ _ _ _ us hl => match us, hl with | [_], _ => rfl, ⟨a51, i51, k51⟩⟩
      m_Analysis_word_values := ⟨f52, _, fun_mk (st := s_Analysis_word_values) l52 c52 k52, (fun_mk (st := s_Analysis_word_values) l52 c52 k52).binds (ps := ["self"]) fun _ _ _ _ _ _ us hl => match us, hl with | [_], _ => rfl, ⟨a52, i52, k52⟩⟩
      p_Analysis_joins := ⟨pr53, f53, _, fun_mk (st := s_Analysis_joins) l53 c53 k53, (fun_mk (st := s_Analysis_joins) l53 c53 k53).binds (ps := ["self"]) fun _ _ _ _ _ _ us hl => match us, hl with | [_], _ => rfl, ⟨a53, pt53, pk53, ⟨rs53, pq53⟩⟩⟩
      p_Analysis_begin := ⟨pr54, f54, _, fun_mk (st := s_Analysis_begin) l54 c54 k54, (fun_mk (st := s_Analysis_begin) l54 c54 k54).binds (ps := ["self"]) fun _ _ _ _ _ _ us hl => match us, hl with | [_], _ => rfl, ⟨a54, pt54, pk54, ⟨rs54, pq54⟩⟩⟩
      i_Program := ⟨f55, _, fun_mk (st := s_Program___init__) l55 c55 k55, (fun_mk (st := s_Program___init__) l55 c55 k55).binds (ps := ["self", "places", "begins", "edges"]) fun _ _ _ _ _ _ us hl => match us, hl with | [_, _, _, _], _ => rfl, ⟨mkProgram, a55, i55, kcProgram⟩, PySem.W.mg_of X G aCProgram⟩
      m_Program_begins := ⟨f56, _, fun_mk (st := s_Program_begins) l56 c56 k56, (fun_mk (st := s_Program_begins) l56 c56 k56).binds (ps := ["self"]) fun _ _ _ _ _ _ us hl => match us, hl with | [_], _ => rfl, ⟨a56, i56, k56⟩⟩
      m_Program_out_of := ⟨f57, _, fun_mk (st := s_Program_out_of) l57 c57 k57, (fun_mk (st := s_Program_out_of) l57 c57 k57).binds (ps := ["self", "place"]) fun _ _ _ _ _ _ us hl => match us, hl with | [_, _], _ => rfl, ⟨a57, i57, k57⟩⟩
      m_Program_statements := ⟨f58, _, fun_mk (st := s_Program_statements) l58 c58 k58, (fun_mk (st := s_Program_statements) l58 c58 k58).binds (ps := ["self"]) fun _ _ _ _ _ _ us hl => match us, hl with | [_], _ => rfl, ⟨a58, i58, k58⟩⟩
      p_Program_places := ⟨pr59, f59, _, fun_mk (st := s_Program_places) l59 c59 k59, (fun_mk (st := s_Program_places) l59 c59 k59).binds (ps := ["self"]) fun _ _ _ _ _ _ us hl => match us, hl with | [_], _ => rfl, ⟨a59, pt59, pk59, ⟨rs59, pq59⟩⟩⟩
      cl_Joins := ⟨pgJoins, hdJoins, poJoins, saJoins⟩
      na_Joins__rows := naJoins_rows
      cm_Joins := ⟨e1Joins, e2Joins, e3Joins, e4Joins, e5Joins, e6Joins, e7Joins, e8Joins, e9Joins, e10Joins⟩
      ct_Joins := ⟨⟨pgJoins, hdJoins, poJoins, saJoins⟩, e11Joins, e12Joins, e13Joins, e14Joins⟩
      gc_Joins := PySem.W.mg_of X G aCJoins
      sf_Joins := e15Joins
      cl_Analysis := ⟨pgAnalysis, hdAnalysis, poAnalysis, saAnalysis⟩
      na_Analysis__joins := naAnalysis_joins
      na_Analysis__maps := naAnalysis_maps
      na_Analysis__begin := naAnalysis_begin
      cl_Program := ⟨pgProgram, hdProgram, poProgram, saProgram⟩
      na_Program__places := naProgram_places
      na_Program__begins := naProgram_begins
      na_Program__edges := naProgram_edges
      na_Program__into := naProgram_into
      na_Program__out := naProgram_out
      z_isinstance := PySem.W.mg_none_of X G zz0
      z_len := PySem.W.mg_none_of X G zz1
      z_all := PySem.W.mg_none_of X G zz2
      z_abs := PySem.W.mg_none_of X G zz3
      z_int := PySem.W.mg_none_of X G zz4
      z_repr := PySem.W.mg_none_of X G zz5
      z_range := PySem.W.mg_none_of X G zz6
      z_sorted := PySem.W.mg_none_of X G zz7
      z_list := PySem.W.mg_none_of X G zz8
      z_bool := PySem.W.mg_none_of X G zz9
      z_tuple := PySem.W.mg_none_of X G zz10
      z_set := PySem.W.mg_none_of X G zz11
      z_dict := PySem.W.mg_none_of X G zz12
      z_enumerate := PySem.W.mg_none_of X G zz13
      z_str := PySem.W.mg_none_of X G zz14
      g_MOST_VALUES := ⟨_, PySem.W.mg_of X G cc0⟩
      g_MOST_STATEMENTS := ⟨_, PySem.W.mg_of X G cc1⟩
      g_MOST_PLACES := ⟨_, PySem.W.mg_of X G cc2⟩
      g_LONGEST_NAME := ⟨_, PySem.W.mg_of X G cc3⟩
      g_LETTERS := ⟨_, PySem.W.mg_of X G cc4⟩ }
  · exact ⟨f40, _, fun_mk (st := s_law) l40 c40 k40, PySem.W.mg_of X G a40, fun s v => .of_eq rfl⟩
theorem fin {P : Program} {w : World} {K : PySem.W.Frag} {mg : Str → Option Value} (A : ∃ C_Joins, ∃ C_Analysis, ∃ C_Program, Top K mg C_Joins C_Analysis C_Program ∧ FF.LawAt K mg "law" s_law "_law_script") : FF.LawAt K mg "law" s_law "_law_script" ∧ FF.LawG P w K mg 12 "law" s_law "_law_script" := by
  obtain ⟨_, _, _, T, L⟩ := A
  exact ⟨L, law_ok T⟩
end LK
local macro_rules | `(tactic| kernel_rfl) => `(tactic| ((with_reducible refine LH.fin ?_ ?_ ?_) <;> kernel_rfl))
open PySem PySem.W PyProof.Rows
set_option maxRecDepth 100000 in
set_option maxHeartbeats 0 in
theorem PySem.Challenge.cw_factflows_k24_whole_values_of_words_holds : PySem.Challenge.rw_factflows_k24_whole_values_of_words.Holds := by
  w_on; o_law; k_headL; (case hw => as_aux_lemma => w_witness2)
  k_fill
  as_aux_lemma =>
    refine FF.law_walkG (l := PySem.Challenge.rw_factflows_k24_whole_values_of_words) (k := 12) (qual := "law") (st := LK.s_law) (p := "_law_script") rfl rfl rfl ⟨rfl, by decide, by decide⟩ (fun w h Y => PySem.W.kIn_of Y) ?F
    case F =>
      intro w h KX mg G
      refine LK.fin ?_
      refine' LK.all_mk KX G ?aCJoins ?pgJoins ?hdJoins ?poJoins ?saJoins ?mkJoins ?kcJoins ?e1Joins ?e2Joins ?e3Joins ?e4Joins ?e5Joins ?e6Joins ?e7Joins ?e8Joins ?e9Joins ?e10Joins ?e11Joins ?e12Joins ?e13Joins ?e14Joins ?e15Joins ?naJoins_rows ?aCAnalysis ?pgAnalysis ?hdAnalysis ?poAnalysis ?saAnalysis ?mkAnalysis ?kcAnalysis ?naAnalysis_joins ?naAnalysis_maps ?naAnalysis_begin ?aCProgram ?pgProgram ?hdProgram ?poProgram ?saProgram ?mkProgram ?kcProgram ?naProgram_places ?naProgram_begins ?naProgram_edges ?naProgram_into ?naProgram_out ?a0 ?l0 ?c0 ?k0 ?a1 ?l1 ?c1 ?k1 ?a2 ?l2 ?c2 ?k2 ?a3 ?l3 ?c3 ?k3 ?a4 ?l4 ?c4 ?k4 ?a5 ?l5 ?c5 ?k5 ?a6 ?l6 ?c6 ?k6 ?a7 ?l7 ?c7 ?k7 ?a8 ?l8 ?c8 ?k8 ?a9 ?l9 ?c9 ?k9 ?a10 ?l10 ?c10 ?k10 ?a11 ?l11 ?c11 ?k11 ?a12 ?l12 ?c12 ?k12 ?a13 ?l13 ?c13 ?k13 ?a14 ?l14 ?c14 ?k14 ?a15 ?l15 ?c15 ?k15 ?a16 ?l16 ?c16 ?k16 ?a17 ?l17 ?c17 ?k17 ?a18 ?l18 ?c18 ?k18 ?a19 ?l19 ?c19 ?k19 ?a20 ?l20 ?c20 ?k20 ?a21 ?l21 ?c21 ?k21 ?a22 ?l22 ?c22 ?k22 ?a23 ?l23 ?c23 ?k23 ?a24 ?l24 ?c24 ?k24 ?a25 ?l25 ?c25 ?k25 ?a26 ?l26 ?c26 ?k26 ?a27 ?l27 ?c27 ?k27 ?a28 ?l28 ?c28 ?k28 ?a29 ?l29 ?c29 ?k29 ?a30 ?l30 ?c30 ?k30 ?a31 ?l31 ?c31 ?k31 ?a32 ?l32 ?c32 ?k32 ?a33 ?l33 ?c33 ?k33 ?a34 ?l34 ?c34 ?k34 ?a35 ?l35 ?c35 ?k35 ?a36 ?l36 ?c36 ?k36 ?a37 ?l37 ?c37 ?k37 ?a38 ?l38 ?c38 ?k38 ?a39 ?l39 ?c39 ?k39 ?a40 ?l40 ?c40 ?k40 ?a41 ?i41 ?l41 ?c41 ?k41 ?a42 ?i42 ?l42 ?c42 ?k42 ?a43 ?i43 ?l43 ?c43 ?k43 ?a44 ?i44 ?l44 ?c44 ?k44 ?a45 ?i45 ?l45 ?c45 ?k45 ?a46 ?i46 ?l46 ?c46 ?k46 ?a47 ?i47 ?l47 ?c47 ?k47 ?kd47 ?a48 ?i48 ?l48 ?c48 ?k48 ?a49 ?i49 ?l49 ?c49 ?k49 ?a50 ?i50 ?l50 ?c50 ?k50 ?kd50 ?a51 ?i51 ?l51 ?c51 ?k51 ?a52 ?i52 ?l52 ?c52 ?k52 ?a53 ?pt53 ?pk53 ?pq53 ?l53 ?c53 ?k53 ?a54 ?pt54 ?pk54 ?pq54 ?l54 ?c54 ?k54 ?a55 ?i55 ?l55 ?c55 ?k55 ?a56 ?i56 ?l56 ?c56 ?k56 ?a57 ?i57 ?l57 ?c57 ?k57 ?a58 ?i58 ?l58 ?c58 ?k58 ?a59 ?pt59 ?pk59 ?pq59 ?l59 ?c59 ?k59 ?zz0 ?zz1 ?zz2 ?zz3 ?zz4 ?zz5 ?zz6 ?zz7 ?zz8 ?zz9 ?zz10 ?zz11 ?zz12 ?zz13 ?zz14 ?cc0 ?cc1 ?cc2 ?cc3 ?cc4
      (case aCJoins => k_is); (case pgJoins => k_is); (case hdJoins => k_is); (case poJoins => k_is); (case saJoins => k_is); (case mkJoins => k_is); (case kcJoins => k_is); (case e1Joins => k_is)
      (case e2Joins => k_is); (case e3Joins => k_is); (case e4Joins => k_is); (case e5Joins => k_is); (case e6Joins => k_is); (case e7Joins => k_is); (case e8Joins => k_is); (case e9Joins => k_is)
      (case e10Joins => k_is); (case e11Joins => k_is); (case e12Joins => k_is); (case e13Joins => k_is); (case e14Joins => k_is); (case e15Joins => k_is); (case naJoins_rows => k_is); (case aCAnalysis => k_is)
      (case pgAnalysis => k_is); (case hdAnalysis => k_is); (case poAnalysis => k_is); (case saAnalysis => k_is); (case mkAnalysis => k_is); (case kcAnalysis => k_is); (case naAnalysis_joins => k_is); (case naAnalysis_maps => k_is)
      (case naAnalysis_begin => k_is); (case aCProgram => k_is); (case pgProgram => k_is); (case hdProgram => k_is); (case poProgram => k_is); (case saProgram => k_is); (case mkProgram => k_is); (case kcProgram => k_is)
      (case naProgram_places => k_is); (case naProgram_begins => k_is); (case naProgram_edges => k_is); (case naProgram_into => k_is); (case naProgram_out => k_is); (case a0 => k_is); (case l0 => k_is); (case c0 => k_is)
      (case k0 => k_is); (case a1 => k_is); (case l1 => k_is); (case c1 => k_is); (case k1 => k_is); (case a2 => k_is); (case l2 => k_is); (case c2 => k_is)
      (case k2 => k_is); (case a3 => k_is); (case l3 => k_is); (case c3 => k_is); (case k3 => k_is); (case a4 => k_is); (case l4 => k_is); (case c4 => k_is)
      (case k4 => k_is); (case a5 => k_is); (case l5 => k_is); (case c5 => k_is); (case k5 => k_is); (case a6 => k_is); (case l6 => k_is); (case c6 => k_is)
      (case k6 => k_is); (case a7 => k_is); (case l7 => k_is); (case c7 => k_is); (case k7 => k_is); (case a8 => k_is); (case l8 => k_is); (case c8 => k_is)
      (case k8 => k_is); (case a9 => k_is); (case l9 => k_is); (case c9 => k_is); (case k9 => k_is); (case a10 => k_is); (case l10 => k_is); (case c10 => k_is)
      (case k10 => k_is); (case a11 => k_is); (case l11 => k_is); (case c11 => k_is); (case k11 => k_is); (case a12 => k_is); (case l12 => k_is); (case c12 => k_is)
      (case k12 => k_is); (case a13 => k_is); (case l13 => k_is); (case c13 => k_is); (case k13 => k_is); (case a14 => k_is); (case l14 => k_is); (case c14 => k_is)
      (case k14 => k_is); (case a15 => k_is); (case l15 => k_is); (case c15 => k_is); (case k15 => k_is); (case a16 => k_is); (case l16 => k_is); (case c16 => k_is)
      (case k16 => k_is); (case a17 => k_is); (case l17 => k_is); (case c17 => k_is); (case k17 => k_is); (case a18 => k_is); (case l18 => k_is); (case c18 => k_is)
      (case k18 => k_is); (case a19 => k_is); (case l19 => k_is); (case c19 => k_is); (case k19 => k_is); (case a20 => k_is); (case l20 => k_is); (case c20 => k_is)
      (case k20 => k_is); (case a21 => k_is); (case l21 => k_is); (case c21 => k_is); (case k21 => k_is); (case a22 => k_is); (case l22 => k_is); (case c22 => k_is)
      (case k22 => k_is); (case a23 => k_is); (case l23 => k_is); (case c23 => k_is); (case k23 => k_is); (case a24 => k_is); (case l24 => k_is); (case c24 => k_is)
      (case k24 => k_is); (case a25 => k_is); (case l25 => k_is); (case c25 => k_is); (case k25 => k_is); (case a26 => k_is); (case l26 => k_is); (case c26 => k_is)
      (case k26 => k_is); (case a27 => k_is); (case l27 => k_is); (case c27 => k_is); (case k27 => k_is); (case a28 => k_is); (case l28 => k_is); (case c28 => k_is)
      (case k28 => k_is); (case a29 => k_is); (case l29 => k_is); (case c29 => k_is); (case k29 => k_is); (case a30 => k_is); (case l30 => k_is); (case c30 => k_is)
      (case k30 => k_is); (case a31 => k_is); (case l31 => k_is); (case c31 => k_is); (case k31 => k_is); (case a32 => k_is); (case l32 => k_is); (case c32 => k_is)
      (case k32 => k_is); (case a33 => k_is); (case l33 => k_is); (case c33 => k_is); (case k33 => k_is); (case a34 => k_is); (case l34 => k_is); (case c34 => k_is)
      (case k34 => k_is); (case a35 => k_is); (case l35 => k_is); (case c35 => k_is); (case k35 => k_is); (case a36 => k_is); (case l36 => k_is); (case c36 => k_is)
      (case k36 => k_is); (case a37 => k_is); (case l37 => k_is); (case c37 => k_is); (case k37 => k_is); (case a38 => k_is); (case l38 => k_is); (case c38 => k_is)
      (case k38 => k_is); (case a39 => k_is); (case l39 => k_is); (case c39 => k_is); (case k39 => k_is); (case a40 => k_is); (case l40 => k_is); (case c40 => k_is)
      (case k40 => k_is); (case a41 => k_is); (case i41 => k_is); (case l41 => k_is); (case c41 => k_is); (case k41 => k_is); (case a42 => k_is); (case i42 => k_is)
      (case l42 => k_is); (case c42 => k_is); (case k42 => k_is); (case a43 => k_is); (case i43 => k_is); (case l43 => k_is); (case c43 => k_is); (case k43 => k_is)
      (case a44 => k_is); (case i44 => k_is); (case l44 => k_is); (case c44 => k_is); (case k44 => k_is); (case a45 => k_is); (case i45 => k_is); (case l45 => k_is)
      (case c45 => k_is); (case k45 => k_is); (case a46 => k_is); (case i46 => k_is); (case l46 => k_is); (case c46 => k_is); (case k46 => k_is); (case a47 => k_is)
      (case i47 => k_is); (case l47 => k_is); (case c47 => k_is); (case k47 => k_is); (case kd47 => k_is); (case a48 => k_is); (case i48 => k_is); (case l48 => k_is)
      (case c48 => k_is); (case k48 => k_is); (case a49 => k_is); (case i49 => k_is); (case l49 => k_is); (case c49 => k_is); (case k49 => k_is); (case a50 => k_is)
      (case i50 => k_is); (case l50 => k_is); (case c50 => k_is); (case k50 => k_is); (case kd50 => k_is); (case a51 => k_is); (case i51 => k_is); (case l51 => k_is)
      (case c51 => k_is); (case k51 => k_is); (case a52 => k_is); (case i52 => k_is); (case l52 => k_is); (case c52 => k_is); (case k52 => k_is); (case a53 => k_is)
      (case pt53 => k_is); (case pk53 => k_is); (case pq53 => k_is); (case l53 => k_is); (case c53 => k_is); (case k53 => k_is); (case a54 => k_is); (case pt54 => k_is)
      (case pk54 => k_is); (case pq54 => k_is); (case l54 => k_is); (case c54 => k_is); (case k54 => k_is); (case a55 => k_is); (case i55 => k_is); (case l55 => k_is)
      (case c55 => k_is); (case k55 => k_is); (case a56 => k_is); (case i56 => k_is); (case l56 => k_is); (case c56 => k_is); (case k56 => k_is); (case a57 => k_is)
      (case i57 => k_is); (case l57 => k_is); (case c57 => k_is); (case k57 => k_is); (case a58 => k_is); (case i58 => k_is); (case l58 => k_is); (case c58 => k_is)
      (case k58 => k_is); (case a59 => k_is); (case pt59 => k_is); (case pk59 => k_is); (case pq59 => k_is); (case l59 => k_is); (case c59 => k_is); (case k59 => k_is)
      (case zz0 => k_is); (case zz1 => k_is); (case zz2 => k_is); (case zz3 => k_is); (case zz4 => k_is); (case zz5 => k_is); (case zz6 => k_is); (case zz7 => k_is)
      (case zz8 => k_is); (case zz9 => k_is); (case zz10 => k_is); (case zz11 => k_is); (case zz12 => k_is); (case zz13 => k_is); (case zz14 => k_is); (case cc0 => k_is)
      (case cc1 => k_is); (case cc2 => k_is); (case cc3 => k_is); (case cc4 => k_is)
