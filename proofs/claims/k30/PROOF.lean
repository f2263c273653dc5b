import PyProof.Rows.All
import Wide.All
import OpenK.AllK
import Wide.FinOn
import HandS.ForMost
import HandS.Codes
import HandS.Deep
import HandS.Defaults
import HandS.TupSets
import HandS.TupLe
import HandS.IsInst
import HandS.TupAny
import HandS.Strs
import HandS.DictTup
import HandS.Conv
import PyProof.DictMoreH
import HandS.StrMore
import HandS.Walk
import KE.KDictWalk
import KE.SortData
import KE.KDictKeyed
import HandS.DictComp
import KE.KDictPairs
import KE.KDictCopyH
import KE.KDictItemsList
import HandS.Style
import KE.KeyNested
import KE.KDictLaws
import HandS.Dict
import KE.KEqDict
import HandS.List
import HandS.More
import PyProof.SumWalk
import HandS.OwnEq
import HandS.TupLen
import HandS.Lambda
import HandS.HeadWalk
import KE.KStateDown
import Lean
import HandS.Head0
import HandS.Head1
import HandS.Head2
import HandS.HeadEnd
import HandS.HeadHook1
import HandS.HeadHook2
import HandS.HeadHook3
import HandS.HeadHook4
import HandS.MakeKwOnly
import PySem.Challenge.RW_kindnames_k30_whole_trees_of_what_they_t
set_option Elab.async false
set_option linter.all false
set_option maxRecDepth 100000
set_option maxHeartbeats 4000000
namespace KN
open PySem L2
def top (i : Nat) : Stmt := PySem.Challenge.pw_kindnames_k30_whole_trees_of_what_they_t.main.body.getD i (.Pass ⟨0, 0, 0, 0⟩)
abbrev s__law_pen : Stmt := top 20
abbrev s__law_draw : Stmt := top 21
abbrev letters : Str := "abcdefghijklmnopqrstuvwxyz"
abbrev s_is_number : Stmt := top 7
abbrev s_is_word : Stmt := top 8
abbrev s_is_list : Stmt := top 10
abbrev s_are_sheets : Stmt := top 11
abbrev s_is_node : Stmt := top 9
abbrev s__lies_well : Stmt := top 14
abbrev s__is_kinds : Stmt := top 13
abbrev s__is_parents : Stmt := top 15
abbrev s__places : Stmt := top 16
abbrev s__upward : Stmt := top 17
abbrev s_Tree___init__ : Stmt := inClass (top 18) 0
abbrev s_Tree__refuse : Stmt := inClass (top 18) 9
abbrev s_Tree_parent : Stmt := inClass (top 18) 4
abbrev s_Tree_above : Stmt := inClass (top 18) 5
abbrev s_Tree_nodes : Stmt := inClass (top 18) 1
abbrev s_Tree_sheets : Stmt := inClass (top 18) 2
abbrev s_Tree_kind_of : Stmt := inClass (top 18) 3
abbrev s__law_pick : Stmt := top 22
abbrev s__law_words : Stmt := top 23
abbrev s__law_dealt : Stmt := top 24
abbrev s__law_laid : Stmt := top 25
abbrev s__law_nodes : Stmt := top 26
abbrev s_Tree___len__ : Stmt := inClass (top 18) 8
abbrev s_Tree_inner : Stmt := inClass (top 18) 6
abbrev s_Tree___eq__ : Stmt := inClass (top 18) 7
abbrev s__law_line : Stmt := top 28
abbrev s__law_again : Stmt := top 27
abbrev s__law_coheres : Stmt := top 29
abbrev s__law_fewer_right : Stmt := top 30
abbrev s_law : Stmt := top 31
/-! the Hook -/
abbrev AlB : Type := He.AlD × Bool
def obsB (as : List Addr) (fa : List He.Fa) (fn : List He.DefD) (tf : List He.Defn) (ex : PySem.W.Frag → Bool) (g : Addr → Option Obj) : AlB := (He.obsD fa fn (He.frT g as), ex (He.frT g as) && He.tabsB g tf (He.frT g as))
structure SaysY (fa : List He.Fa) (fn : List He.DefD) (tf : List He.Defn) (ex : PySem.W.Frag → Bool) (h : Heap) (K : PySem.W.Frag) : Prop where
  d : He.SaysD fa fn K
  more : ex K = true
  hd : ∀ p ∈ tf, PySem.W.codeHdIn K (He.cT K p).1 (He.cT K p).2 = true
  out : ∀ p ∈ tf, K.lookup (He.cT K p).2 = none
  empty : ∀ p ∈ tf, h.get? (He.cT K p).2 = some { cls := .none, data := .fields #[] }
theorem tabsB_at {as : List Addr} {tf : List He.Defn} {g : Addr → Option Obj} (h : He.tabsB g tf (He.frT g as) = true) {p : He.Defn} (hp : p ∈ tf) :
    PySem.W.codeHdIn (He.frT g as) (He.cT (He.frT g as) p).1 (He.cT (He.frT g as) p).2 = true ∧ (He.frT g as).lookup (He.cT (He.frT g as) p).2 = none ∧ g (He.cT (He.frT g as) p).2 = some { cls := .none, data := .fields #[] } := by
  obtain ⟨h1, h2⟩ := He.ba (List.all_eq_true.mp h p hp)
  cases q : g (He.cT (He.frT g as) p).2 with
  | none => rw [q] at h2; cases h2
  | some o =>
    rw [q] at h2
    exact ⟨h1, He.frT_none q h2, congrArg some (He.emptyTab_eq h2)⟩
theorem saysY_of {as : List Addr} {fa : List He.Fa} {fn : List He.DefD} {tf : List He.Defn} {ex : PySem.W.Frag → Bool} {h : Heap} (e : obsB as fa fn tf ex h.get? = (He.valD fn, true)) : SaysY fa fn tf ex h (He.frT h.get? as) := by
  obtain ⟨h1, h2⟩ := He.ba (congrArg (fun z : AlB => z.2) e)
  exact ⟨congrArg (fun z : AlB => z.1) e, h1, fun p hp => (tabsB_at h2 hp).1, fun p hp => (tabsB_at h2 hp).2.1, fun p hp => (tabsB_at h2 hp).2.2⟩
def hookB (as : List Addr) (fa : List He.Fa) (fn : List He.DefD) (tf : List He.Defn) (ex : PySem.W.Frag → Bool) : PySem.W.Hook where
  α := AlB
  obs := fun s => obsB as fa fn tf ex s.heap.get?
  val := fun _ => (He.valD fn, true)
  says := fun _ h => ∃ K : PySem.W.Frag, K.In h ∧ SaysY fa fn tf ex h K
  of := fun _ _ e => ⟨_, He.frT_in, saysY_of e⟩
  keeps := fun _ _ _ ⟨K, hK, c⟩ k => ⟨K, PySem.W.Frag.In.keeps hK k, ⟨c.d, c.more, c.hd, c.out, fun p hp => k _ _ (c.empty p hp)⟩⟩
theorem obsB_eq {as : List Addr} {fa : List He.Fa} {fn : List He.DefD} {tf : List He.Defn} {ex : PySem.W.Frag → Bool} {g : Addr → Option Obj} {s : Shared} (h : ∀ a, g a = s.heap.get? a) : obsB as fa fn tf ex g = (hookB as fa fn tf ex).obs s := by
  have e : g = s.heap.get? := funext h
  rw [e] <;> rfl
def d0 : He.DefD := ⟨("_law_pen", none), "_law_pen", "_law_pen", defArgs s__law_pen, defBody s__law_pen, defScope s__law_pen, [], []⟩
def d1 : He.DefD := ⟨("_law_draw", none), "_law_draw", "_law_draw", defArgs s__law_draw, defBody s__law_draw, defScope s__law_draw, [], []⟩
def d2 : He.DefD := ⟨("is_number", none), "is_number", "is_number", defArgs s_is_number, defBody s_is_number, defScope s_is_number, [], []⟩
def d3 : He.DefD := ⟨("is_word", none), "is_word", "is_word", defArgs s_is_word, defBody s_is_word, defScope s_is_word, [], []⟩
def d4 : He.DefD := ⟨("is_list", none), "is_list", "is_list", defArgs s_is_list, defBody s_is_list, defScope s_is_list, [], []⟩
def d5 : He.DefD := ⟨("are_sheets", none), "are_sheets", "are_sheets", defArgs s_are_sheets, defBody s_are_sheets, defScope s_are_sheets, [], []⟩
def d6 : He.DefD := ⟨("is_node", none), "is_node", "is_node", defArgs s_is_node, defBody s_is_node, defScope s_is_node, [], []⟩
def d7 : He.DefD := ⟨("_lies_well", none), "_lies_well", "_lies_well", defArgs s__lies_well, defBody s__lies_well, defScope s__lies_well, [], []⟩
def d8 : He.DefD := ⟨("_is_kinds", none), "_is_kinds", "_is_kinds", defArgs s__is_kinds, defBody s__is_kinds, defScope s__is_kinds, [], []⟩
def d9 : He.DefD := ⟨("_is_parents", none), "_is_parents", "_is_parents", defArgs s__is_parents, defBody s__is_parents, defScope s__is_parents, [], []⟩
def d10 : He.DefD := ⟨("_places", none), "_places", "_places", defArgs s__places, defBody s__places, defScope s__places, [], []⟩
def d11 : He.DefD := ⟨("_upward", none), "_upward", "_upward", defArgs s__upward, defBody s__upward, defScope s__upward, [], []⟩
def d12 : He.DefD := ⟨("Tree", some "__init__"), "__init__", "Tree.__init__", defArgs s_Tree___init__, defBody s_Tree___init__, defScope s_Tree___init__, [.non, .non], []⟩
def d13 : He.DefD := ⟨("Tree", some "_refuse"), "_refuse", "Tree._refuse", defArgs s_Tree__refuse, defBody s_Tree__refuse, defScope s_Tree__refuse, [], []⟩
def d14 : He.DefD := ⟨("Tree", some "parent"), "parent", "Tree.parent", defArgs s_Tree_parent, defBody s_Tree_parent, defScope s_Tree_parent, [], []⟩
def d15 : He.DefD := ⟨("Tree", some "above"), "above", "Tree.above", defArgs s_Tree_above, defBody s_Tree_above, defScope s_Tree_above, [], []⟩
def d16 : He.DefD := ⟨("Tree", some "nodes"), "nodes", "Tree.nodes", defArgs s_Tree_nodes, defBody s_Tree_nodes, defScope s_Tree_nodes, [], [("rank", .non)]⟩
def d17 : He.DefD := ⟨("Tree", some "sheets"), "sheets", "Tree.sheets", defArgs s_Tree_sheets, defBody s_Tree_sheets, defScope s_Tree_sheets, [.non], []⟩
def d18 : He.DefD := ⟨("Tree", some "kind_of"), "kind_of", "Tree.kind_of", defArgs s_Tree_kind_of, defBody s_Tree_kind_of, defScope s_Tree_kind_of, [], []⟩
def d19 : He.DefD := ⟨("_law_pick", none), "_law_pick", "_law_pick", defArgs s__law_pick, defBody s__law_pick, defScope s__law_pick, [], []⟩
def d20 : He.DefD := ⟨("_law_words", none), "_law_words", "_law_words", defArgs s__law_words, defBody s__law_words, defScope s__law_words, [], []⟩
def d21 : He.DefD := ⟨("_law_dealt", none), "_law_dealt", "_law_dealt", defArgs s__law_dealt, defBody s__law_dealt, defScope s__law_dealt, [], []⟩
def d22 : He.DefD := ⟨("_law_laid", none), "_law_laid", "_law_laid", defArgs s__law_laid, defBody s__law_laid, defScope s__law_laid, [], []⟩
def d23 : He.DefD := ⟨("_law_nodes", none), "_law_nodes", "_law_nodes", defArgs s__law_nodes, defBody s__law_nodes, defScope s__law_nodes, [], []⟩
def d24 : He.DefD := ⟨("Tree", some "__len__"), "__len__", "Tree.__len__", defArgs s_Tree___len__, defBody s_Tree___len__, defScope s_Tree___len__, [], []⟩
def d25 : He.DefD := ⟨("Tree", some "inner"), "inner", "Tree.inner", defArgs s_Tree_inner, defBody s_Tree_inner, defScope s_Tree_inner, [], []⟩
def d26 : He.DefD := ⟨("Tree", some "__eq__"), "__eq__", "Tree.__eq__", defArgs s_Tree___eq__, defBody s_Tree___eq__, defScope s_Tree___eq__, [], []⟩
def d27 : He.DefD := ⟨("_law_line", none), "_law_line", "_law_line", defArgs s__law_line, defBody s__law_line, defScope s__law_line, [], []⟩
def d28 : He.DefD := ⟨("_law_again", none), "_law_again", "_law_again", defArgs s__law_again, defBody s__law_again, defScope s__law_again, [], []⟩
def d29 : He.DefD := ⟨("_law_coheres", none), "_law_coheres", "_law_coheres", defArgs s__law_coheres, defBody s__law_coheres, defScope s__law_coheres, [], []⟩
def d30 : He.DefD := ⟨("_law_fewer_right", none), "_law_fewer_right", "_law_fewer_right", defArgs s__law_fewer_right, defBody s__law_fewer_right, defScope s__law_fewer_right, [], []⟩
def d31 : He.DefD := ⟨("law", none), "law", "law", defArgs s_law, defBody s_law, defScope s_law, [], []⟩
def nam0 : List Str := ["__name__", "BadTree", "NoNode", "LETTERS", "MOST_LETTERS", "MOST_RANK", "is_number", "is_word", "is_node", "is_list", "are_sheets", "_is_kinds", "_lies_well", "_is_parents", "_places", "_upward", "Tree", "_law_pen", "_law_draw", "_law_pick", "_law_words", "_law_dealt", "_law_laid", "_law_nodes", "_law_again", "_law_line", "_law_coheres", "_law_fewer_right"]
def nam : List Str := nam0
def fa0 : List He.Fa := [.glo "law", .cls "Tree", .noat "Tree" "_kind_of", .noat "Tree" "_lying", .free "len", .free "abs", .free "range", .free "isinstance", .free "int", .free "bool", .free "str", .free "all", .free "tuple", .free "list", .free "set", .free "dict", .free "sorted", .free "sum", .free "min", .int "MOST_LETTERS" 12, .str "LETTERS" letters, .int "MOST_RANK" 5, .glo "Tree", .glo "is_list", .glo "is_word", .glo "is_number", .glo "_law_draw", .glo "is_node", .glo "are_sheets", .glo "_law_pick"]
def fa1 : List He.Fa := [.glo "_lies_well", .meth "Tree" "_refuse", .glo "_law_words", .glo "_is_kinds", .glo "_places", .glo "_is_parents", .glo "_upward", .meth "Tree" "above", .meth "Tree" "parent", .meth "Tree" "nodes", .meth "Tree" "sheets", .meth "Tree" "inner", .meth "Tree" "kind_of", .glo "_law_line", .mkr "Tree", .glo "_law_coheres", .glo "_law_pen", .glo "_law_nodes", .glo "_law_dealt", .glo "_law_laid", .glo "_law_again", .glo "_law_fewer_right"]
def fa : List He.Fa := fa0 ++ fa1
def fn0 : List He.DefD := [d0, d1, d2, d3, d4, d5, d6, d7, d8, d9, d10, d11, d12, d13, d14, d15, d16, d17, d18, d19, d20, d21, d22, d23, d24, d25, d26, d27, d28, d29]
def fn1 : List He.DefD := [d30, d31]
def fn : List He.DefD := fn0 ++ fn1
abbrev R : PySem.W.OpenRow := PySem.W.OpenLaw.row PySem.Challenge.rw_kindnames_k30_whole_trees_of_what_they_t
def ex (K : PySem.W.Frag) : Bool := decide (PySem.W.findIn K (.ref (He.ga K "Tree")) "__len__" = some (some (.ref (He.fAd K ("Tree", some "__len__"))))) && (PySem.W.isFn K (.ref (He.fAd K ("Tree", some "__len__"))) && (decide (PySem.W.findIn K (.ref (He.ga K "Tree")) "__eq__" = some (some (.ref (He.fAd K ("Tree", some "__eq__"))))) && (PySem.W.isFn K (.ref (He.fAd K ("Tree", some "__eq__"))) && (decide (PySem.W.findIn K (.ref (He.ga K "Tree")) "__class__" = some (some (.builtin "object.__class__"))) && (decide (PySem.W.specialIn K (.builtin "object.__class__") "__get__" = some (some (.builtin "getset_descriptor.__get__"))) && (decide (PySem.W.takesIn K (.builtin "object.__class__") = some true) && (decide (PySem.W.mroIn K (He.ga K "Tree") (.type "object") = some true) && (decide (PySem.W.kitOne K (.ref (He.ga K "Tree")) (.ref (He.ga K "Tree")) = some true)))))))))
def as0 : List Addr := [3, 193, 192, 202, 201, 209, 208, 61, 60, 66, 65, 80, 79, 85, 84, 73, 72, 97, 96, 90, 89, 102, 101, 109, 108, 116, 115, 131, 130, 124]
def as1 : List Addr := [190, 189, 157, 156, 164, 163, 137, 136, 132, 143, 142, 138, 150, 149, 216, 215, 221, 220, 228, 227, 233, 232, 238, 237, 183, 182, 169, 168, 176, 175]
def as2 : List Addr := [250, 249, 243, 242, 255, 254, 260, 259, 265, 264]
def as_ : List Addr := as0 ++ as1 ++ as2
def tf_ : List He.Defn := []
def tabT (K : PySem.W.Frag) : List (Addr × Str) := []
abbrev hk : PySem.W.Hook := hookB as_ fa fn tf_ ex
def ob (s : PySem.W.SharedT) : AlB := obsB as_ fa fn tf_ ex (HandSHeadRun.getT s)
theorem ob_eq (s : PySem.W.SharedT) : ob s = hk.obs s.abs := obsB_eq (HandSHeadRun.getT_eq s)
abbrev qv : Program := PySem.W.view R.prog [31]
set_option maxHeartbeats 0 in
theorem run (w : World) : HandSHeadRun.RunEq R qv hk ob 12000 nam w := by
  intro os
  kernel_rfl
end KN
set_option Elab.async false
set_option linter.all false
set_option maxRecDepth 100000
/-! Own base: data of tuples, what keeps them, equal data, dicts by text keys. -/
namespace KN
open PySem L2

/-- every tuple stays -/
def TK (H H' : Hp) : Prop := ∀ b xs, H b = some (.tup xs) → H' b = some (.tup xs)
theorem TK.refl (H : Hp) : TK H H := fun _ _ h => h
theorem TK.trans {H H1 H2 : Hp} (a : TK H H1) (b : TK H1 H2) : TK H H2 := fun c xs h => b c xs (a c xs h)
theorem TK.of {H H' : Hp} (s : Same H H') : TK H H' := fun b xs h => s b _ h
theorem TK.new {H : Hp} {p : Addr} {o : HO} (h : H p = none) : TK H (upd H p o) := fun b xs e => by
  rw [upd_ne (ne_of_none e h)]; exact e
theorem TK.put {H : Hp} {p : Addr} {o u : HO} (h : H p = some u) (nt : ∀ xs, u ≠ .tup xs) : TK H (upd H p o) := fun b xs e => by
  rw [upd_ne (fun z => by subst z; rw [h] at e; exact nt xs (Option.some.inj e))]; exact e
theorem Same.new {H : Hp} {p : Addr} {o : HO} (h : H p = none) : Same H (upd H p o) := fun b u e => by
  rw [upd_ne (ne_of_none e h)]; exact e

mutual
inductive Tp (H : Hp) : V → PyData → Prop
  | non : Tp H .non .none
  | bl (b : Bool) : Tp H (.bl b) (.bool b)
  | int (i : Int) : Tp H (.int i) (.int i)
  | str (x : Str) : Tp H (.str x) (.str x)
  | tup {a : Addr} {xs : List V} {ds : List PyData} : H a = some (.tup xs) → TpAll H xs ds → Tp H (.ref a) (.tuple ds)
inductive TpAll (H : Hp) : List V → List PyData → Prop
  | nil : TpAll H [] []
  | cons {v : V} {vs : List V} {d : PyData} {ds : List PyData} : Tp H v d → TpAll H vs ds → TpAll H (v :: vs) (d :: ds)
end

mutual
theorem Tp.mono {H H' : Hp} (k : TK H H') : ∀ (d : PyData) (v : V), Tp H v d → Tp H' v d
  | .none, _, h => by cases h; exact .non
  | .bool b, _, h => by cases h; exact .bl b
  | .int i, _, h => by cases h; exact .int i
  | .str x, _, h => by cases h; exact .str x
  | .tuple ds, _, h => by
    cases h with
    | tup e r => exact .tup (k _ _ e) (TpAll.mono k ds _ r)
  | .list ds, _, h => by cases h
  | .dict _, _, h => by cases h
theorem TpAll.mono {H H' : Hp} (k : TK H H') : ∀ (ds : List PyData) (vs : List V), TpAll H vs ds → TpAll H' vs ds
  | [], _, h => by cases h; exact .nil
  | d :: ds, _, h => by
    cases h with
    | cons a r => exact .cons (Tp.mono k d _ a) (TpAll.mono k ds _ r)
end
theorem Tp.to {H H' : Hp} {d : PyData} {v : V} (h : Tp H v d) (k : TK H H') : Tp H' v d := Tp.mono k d v h
theorem TpAll.to {H H' : Hp} {ds : List PyData} {vs : List V} (h : TpAll H vs ds) (k : TK H H') : TpAll H' vs ds := TpAll.mono k ds vs h

mutual
theorem Tp.dp {K : PySem.W.Frag} {H : Hp} : ∀ (d : PyData) (v : V), Tp H v d → Dp K H v d
  | .none, _, h => by cases h; exact .non
  | .bool b, _, h => by cases h; exact .bl b
  | .int i, _, h => by cases h; exact .int i
  | .str x, _, h => by cases h; exact .str x
  | .tuple ds, _, h => by
    cases h with
    | tup e r => exact .tup (SqT.of e) (TpAll.dp ds _ r)
  | .list ds, _, h => by cases h
  | .dict _, _, h => by cases h
theorem TpAll.dp {K : PySem.W.Frag} {H : Hp} : ∀ (ds : List PyData) (vs : List V), TpAll H vs ds → DpAll K H vs ds
  | [], _, h => by cases h; exact .nil
  | d :: ds, _, h => by
    cases h with
    | cons a r => exact .cons (Tp.dp d _ a) (TpAll.dp ds _ r)
end
theorem Tp.d {K : PySem.W.Frag} {H : Hp} {d : PyData} {v : V} (h : Tp H v d) : Dp K H v d := Tp.dp d v h

theorem TpAll.len {H : Hp} : ∀ {ds : List PyData} {vs : List V}, TpAll H vs ds → vs.length = ds.length
  | [], _, h => by cases h; rfl
  | d :: ds, _, h => by
    cases h with
    | cons a r => rw [List.length_cons, List.length_cons, TpAll.len r]
theorem TpAll.get {H : Hp} : ∀ {ds : List PyData} {vs : List V} {i : Nat} {d : PyData}, TpAll H vs ds → ds[i]? = some d → ∃ v, vs[i]? = some v ∧ Tp H v d
  | [], _, i, d, h, e => by simp at e
  | d0 :: ds, _, i, d, h, e => by
    cases h with
    | cons a r =>
      cases i with
      | zero => rw [List.getElem?_cons_zero] at e; cases e; exact ⟨_, rfl, a⟩
      | succ i =>
        rw [List.getElem?_cons_succ] at e
        obtain ⟨v, h1, h2⟩ := TpAll.get r e
        exact ⟨v, by rw [List.getElem?_cons_succ]; exact h1, h2⟩
theorem TpAll.getv {H : Hp} : ∀ {ds : List PyData} {vs : List V} {i : Nat} {v : V}, TpAll H vs ds → vs[i]? = some v → ∃ d, ds[i]? = some d ∧ Tp H v d
  | [], _, i, v, h, e => by cases h; simp at e
  | d0 :: ds, _, i, v, h, e => by
    cases h with
    | cons a r =>
      cases i with
      | zero => rw [List.getElem?_cons_zero] at e; cases e; exact ⟨_, rfl, a⟩
      | succ i =>
        rw [List.getElem?_cons_succ] at e
        obtain ⟨d, h1, h2⟩ := TpAll.getv r e
        exact ⟨d, by rw [List.getElem?_cons_succ]; exact h1, h2⟩
theorem TpAll.app {H : Hp} : ∀ {ds : List PyData} {vs : List V} {es : List PyData} {ws : List V}, TpAll H vs ds → TpAll H ws es → TpAll H (vs ++ ws) (ds ++ es)
  | [], _, _, _, h, k => by cases h; exact k
  | d :: ds, _, _, _, h, k => by
    cases h with
    | cons a r => exact .cons a (TpAll.app r k)
theorem TpAll.snoc {H : Hp} {ds : List PyData} {vs : List V} {d : PyData} {v : V} (h : TpAll H vs ds) (k : Tp H v d) : TpAll H (vs ++ [v]) (ds ++ [d]) := h.app (.cons k .nil)
theorem TpAll.drop {H : Hp} : ∀ (n : Nat) {ds : List PyData} {vs : List V}, TpAll H vs ds → TpAll H (vs.drop n) (ds.drop n)
  | 0, _, _, h => h
  | n + 1, [], _, h => by cases h; exact .nil
  | n + 1, d :: ds, _, h => by
    cases h with
    | cons a r => exact TpAll.drop n r
theorem TpAll.take {H : Hp} : ∀ (n : Nat) {ds : List PyData} {vs : List V}, TpAll H vs ds → TpAll H (vs.take n) (ds.take n)
  | 0, _, _, h => .nil
  | n + 1, [], _, h => by cases h; exact .nil
  | n + 1, d :: ds, _, h => by
    cases h with
    | cons a r => exact .cons a (TpAll.take n r)
theorem TpAll.erase {H : Hp} : ∀ (n : Nat) {ds : List PyData} {vs : List V}, TpAll H vs ds → TpAll H (vs.eraseIdx n) (ds.eraseIdx n)
  | _, [], _, h => by cases h; exact .nil
  | 0, d :: ds, _, h => by
    cases h with
    | cons a r => exact r
  | n + 1, d :: ds, _, h => by
    cases h with
    | cons a r => exact .cons a (TpAll.erase n r)
theorem TpAll.strs {H : Hp} : ∀ (ss : List Str), TpAll H (ss.map V.str) (ss.map PyData.str)
  | [] => .nil
  | s :: ss => .cons (.str s) (TpAll.strs ss)
theorem TpAll.ints {H : Hp} : ∀ (ss : List Int), TpAll H (ss.map V.int) (ss.map PyData.int)
  | [] => .nil
  | s :: ss => .cons (.int s) (TpAll.ints ss)
theorem TpAll.of_strs {H : Hp} : ∀ {ss : List Str} {vs : List V}, TpAll H vs (ss.map PyData.str) → vs = ss.map V.str
  | [], _, h => by cases h; rfl
  | s :: ss, _, h => by
    cases h with
    | cons a r => cases a; rw [TpAll.of_strs r]; rfl
theorem Tp.inv {H : Hp} {v : V} {ds : List PyData} (h : Tp H v (.tuple ds)) : ∃ a xs, v = .ref a ∧ H a = some (.tup xs) ∧ TpAll H xs ds := by
  cases h with
  | tup e r => exact ⟨_, _, rfl, e, r⟩

/-- a list of tuple data stands at a -/
def Ls (H : Hp) (a : Addr) (ds : List PyData) : Prop := ∃ xs, H a = some (.lst xs) ∧ TpAll H xs ds
theorem Ls.to {H H' : Hp} {a : Addr} {ds : List PyData} (h : Ls H a ds) (s : Same H H') : Ls H' a ds :=
  let ⟨xs, e, r⟩ := h
  ⟨xs, s _ _ e, r.to (TK.of s)⟩
theorem Ls.dp {K : PySem.W.Frag} {H : Hp} {a : Addr} {ds : List PyData} (h : Ls H a ds) : Dp K H (.ref a) (.list ds) :=
  let ⟨_, e, r⟩ := h
  .lst (SqL.of e) (TpAll.dp _ _ r)

/-! ### equal data -/
mutual
def okD : PyData → Bool
  | .none | .int _ => true
  | .str x => PySem.PyData.strOk x
  | .tuple ds | .list ds => okDs ds
  | .bool _ | .dict _ => false
def okDs : List PyData → Bool
  | [] => true
  | d :: ds => okD d && okDs ds
end
mutual
theorem okD_lay : ∀ d : PyData, okD d = true → d.canLay0 = true
  | .none, _ => rfl
  | .int _, _ => rfl
  | .str x, h => by simpa [okD, PyData.canLay0] using h
  | .tuple ds, h => by
    have := okDs_lay ds (by simpa [okD] using h)
    simpa [PyData.canLay0] using this
  | .list ds, h => by
    have := okDs_lay ds (by simpa [okD] using h)
    simpa [PyData.canLay0] using this
  | .bool _, h => by simp [okD] at h
  | .dict _, h => by simp [okD] at h
theorem okDs_lay : ∀ ds : List PyData, okDs ds = true → PyData.canLayAll0 ds = true
  | [], _ => by simp [PyData.canLayAll0]
  | d :: ds, h => by
    have h' : okD d = true ∧ okDs ds = true := by simpa [okDs] using h
    simp [PyData.canLayAll0, okD_lay d h'.1, okDs_lay ds h'.2]
end
mutual
theorem eqv_imp : ∀ d e : PyData, okD d = true → okD e = true → PyData.eqv d e = true → d = e
  | .none, e, h, k, q => by cases e <;> simp_all [PyData.eqv, okD]
  | .int i, e, h, k, q => by cases e <;> simp_all [PyData.eqv, okD]
  | .str x, e, h, k, q => by cases e <;> simp_all [PyData.eqv, okD]
  | .tuple ds, e, h, k, q => by
    cases e with
    | tuple es =>
      have h' : okDs ds = true := by simpa [okD] using h
      have k' : okDs es = true := by simpa [okD] using k
      have q' : PyData.eqvAll ds es = true := by simpa [PyData.eqv] using q
      rw [eqvs_imp ds es h' k' q']
    | _ => simp_all [PyData.eqv, okD]
  | .list ds, e, h, k, q => by
    cases e with
    | list es =>
      have h' : okDs ds = true := by simpa [okD] using h
      have k' : okDs es = true := by simpa [okD] using k
      have q' : PyData.eqvAll ds es = true := by simpa [PyData.eqv] using q
      rw [eqvs_imp ds es h' k' q']
    | _ => simp_all [PyData.eqv, okD]
  | .bool _, _, h, _, _ => by simp [okD] at h
  | .dict _, _, h, _, _ => by simp [okD] at h
theorem eqvs_imp : ∀ ds es : List PyData, okDs ds = true → okDs es = true → PyData.eqvAll ds es = true → ds = es
  | [], [], _, _, _ => rfl
  | [], _ :: _, _, _, q => by simp [PyData.eqvAll] at q
  | _ :: _, [], _, _, q => by simp [PyData.eqvAll] at q
  | d :: ds, e :: es, h, k, q => by
    have h' : okD d = true ∧ okDs ds = true := by simpa [okDs] using h
    have k' : okD e = true ∧ okDs es = true := by simpa [okDs] using k
    have q' : PyData.eqv d e = true ∧ PyData.eqvAll ds es = true := by simpa [PyData.eqvAll] using q
    rw [eqv_imp d e h'.1 k'.1 q'.1, eqvs_imp ds es h'.2 k'.2 q'.2]
end
theorem eqv_iff {d e : PyData} (h : okD d = true) (k : okD e = true) : PyData.eqv d e = true ↔ d = e :=
  ⟨eqv_imp d e h k, fun q => by subst q; exact SeqAt.eqv_refl _ (okD_lay _ h)⟩
theorem okDs_all {ds : List PyData} : okDs ds = true ↔ ∀ d ∈ ds, okD d = true := by
  induction ds with
  | nil => simp [okDs]
  | cons d ds ih => simp [okDs, ih]
theorem eqv_dec {d e : PyData} {p : Prop} [Decidable p] (h : okD d = true) (k : okD e = true) (hp : d = e ↔ p) : PyData.eqv d e = decide p := by
  by_cases q : p
  · rw [decide_eq_true q]; exact (eqv_iff h k).mpr (hp.mpr q)
  · rw [decide_eq_false q]
    cases z : PyData.eqv d e with
    | false => rfl
    | true => exact absurd (hp.mp ((eqv_iff h k).mp z)) q
theorem any_eqv {d : PyData} {ds : List PyData} (h : okD d = true) (k : okDs ds = true) : (ds.any fun z => PyData.eqv z d) = true ↔ d ∈ ds := by
  rw [List.any_eq_true]
  constructor
  · rintro ⟨z, hz, e⟩
    rw [(eqv_iff (okDs_all.mp k z hz) h).mp e] at hz
    exact hz
  · intro hz
    exact ⟨d, hz, (eqv_iff h h).mpr rfl⟩
/-- data is not deep -/
theorem shaped_of {d : PyData} (h : okD d = true) (k : d.depth ≤ 64) : SeqAt.shaped d = true := by
  unfold SeqAt.shaped
  rw [okD_lay d h, decide_eq_true k]; rfl

/-! ### a dict's pairs by written text keys -/
theorem mu_of {o : HO} {H : Hp} {a : Addr} (h : H a = some o) (k : Mut (some o)) : Mut (H a) := by rw [h]; exact k
theorem toNat_lt' {a b : Int} (h : a < b) (h0 : 0 ≤ a) : a.toNat < b.toNat := by omega
/-- a moment; its data; elder -/
abbrev Mo := Int × Int
def mD (m : Mo) : PyData := .tuple [.int m.1, .int m.2]
def mLt (a b : Mo) : Prop := a.1 < b.1 ∨ a.1 = b.1 ∧ a.2 < b.2
instance (a b : Mo) : Decidable (mLt a b) := by unfold mLt; infer_instance
theorem mLt.trans {a b c : Mo} (h : mLt a b) (k : mLt b c) : mLt a c := by unfold mLt at *; omega
theorem mLt.irr {a : Mo} : ¬ mLt a a := by unfold mLt; omega
def MoOk (m : Mo) : Prop := 0 ≤ m.1 ∧ m.1 ≤ 1000000 ∧ 1 ≤ m.2 ∧ m.2 ≤ 1000000
theorem mD_inj {a b : Mo} (h : mD a = mD b) : a = b := by
  unfold mD at h
  injection h with h
  injection h with h1 h2
  injection h2 with h2 _
  injection h1 with h1
  injection h2 with h2
  exact Prod.ext h1 h2
theorem okD_m (m : Mo) : okD (mD m) = true := rfl
def mV (m : Mo) : List V := [.int m.1, .int m.2]
theorem Tp.mo {H : Hp} {a : Addr} {m : Mo} (h : H a = some (.tup [.int m.1, .int m.2])) : Tp H (.ref a) (mD m) := .tup h (.cons (.int _) (.cons (.int _) .nil))
theorem Tp.mo_inv {H : Hp} {v : V} {m : Mo} (h : Tp H v (mD m)) : ∃ a, v = .ref a ∧ H a = some (.tup [.int m.1, .int m.2]) := by
  obtain ⟨a, xs, rfl, e, r⟩ := Tp.inv h
  cases r with
  | cons h1 r =>
    cases r with
    | cons h2 r =>
      cases r
      cases h1
      cases h2
      exact ⟨a, rfl, e⟩
/-- a moment as a key -/
def mK (m : Mo) : List Key := [.inl m.1, .inl m.2]
theorem mK_v (m : Mo) : (mK m).map kV = [.int m.1, .int m.2] := rfl
theorem mK_inj {a b : Mo} (h : mK a = mK b) : a = b := by
  unfold mK at h
  injection h with h1 h2
  injection h2 with h2 _
  exact Prod.ext (Sum.inl.inj h1) (Sum.inl.inj h2)
theorem DGet.m {H : Hp} {a b : Addr} {kvs : List (List Key × V)} {m : Mo} (e : H a = some (.dT kvs)) (eb : H b = some (.tup [.int m.1, .int m.2])) : DGet H a (.ref b) (valV kvs (mK m)) := DGet.t e eb
end KN

set_option Elab.async false
set_option linter.all false
set_option maxRecDepth 100000
set_option maxHeartbeats 4000000
/-! Own rules beside the layer's: a display with one tuple key, calls of methods with keywords, an instance made without arguments, del d[k] by a tuple, sorted(d) of moments. -/
namespace KN
open PySem PySem.Spec L2
def tDispT1 (tk tv : TE) : TE := fun σ H Q => ∀ p, H p = none → tk σ (upd H p (.dT [])) fun x H1 => tv σ H1 fun y H2 => ∃ (k : List Key) (b : Addr), x = .ref b ∧ H2 p = some (.dT []) ∧ H2 b = some (.tup (k.map kV)) ∧ Q (.ref p) (upd H2 p (.dT [(k, y)]))
theorem pe_dispT1 {X : Cx} {pos : Pos} {k v : Expr} {tk tv : TE} (hu : X.A.units + 1 < cLine) (hk : PE X k tk) (hv : PE X v tv) : PE X (.Dict [some k] [v] pos) (tDispT1 tk tv) := by
  refine ⟨fun pins s σ H Q I q => ?_⟩
  have hn := I.hok.fresh (Nat.le_refl s.heap.objs.size)
  have I1 := I.laid (a := s.heap.objs.size) (o := .dT []) (h' := s.heap.push { cls := .type "dict", data := .dict #[] }) (t' := s.toks) (fun _ _ q => Heap.get?_push_of_some _ q) (Nat.le_refl _) (dt_empty s.heap I.big)
  refine wpAny_Dict_any rfl rfl (by simp) (by simp) ?_
  refine pairTrees_cons_walk (thn (hk.run pins _ σ _ _ I1 (q _ hn)) fun u s1 ⟨x, H1, I1, rx, q1⟩ => thn (hv.run pins s1 σ H1 _ I1 q1) fun w2 s2 ⟨y, H2, I2, ry, kk, b, ex, e, eb, q2⟩ => pairTrees_nil_walk ?_)
  subst ex
  cases (show u = Value.ref b from rx)
  obtain ⟨z, hd, xs, rel, dd⟩ := dt_of I2.hok e
  cases rel
  unfold storeAll
  rw [List.forIn_cons]
  refine wpAny_bind (wpAny_bind (wpAny_dictSet_heap (hsz := by simp) (show X.A.units < cLine by omega) (key_of I2.hok eb) dd fun h' dd' hs => wpAny_pure ?_))
  show wpAny _ _ (forIn [] PUnit.unit _) _ _ _
  rw [List.forIn_nil]
  refine wpAny_pure ?_
  obtain ⟨o, es, ep, hq, h2, h3, h4, _, h5⟩ := dd'
  refine ⟨.ref s.heap.objs.size, _, d_write (ob := .dT [(kk, y)]) I2 (by rw [e]; exact True.intro) hs ⟨o, hq⟩ ⟨?_, hd, _, (KT.put (kvs := []) (xs := []) Paired.nil kk eb ry).keeps fun c ys ec => ?_, o, es, ep, hq, h2, h3, h4, h5⟩, rfl, q2⟩
  · show 1 ≤ sizeLine; decide
  · rw [upd_ne (ne_of ec e (fun z => nomatch z))]
    exact ec

/-! ### calls -/
section
variable {X : Cx} {k j : Nat} {C : Addr} {x m : Str} {sp : Sp} {dvs : List V} {p pos apos : Pos} {e o : Expr} {es : List Expr} {kws : List Keyword} {ta : TE} {t tk : TA}
/-- C() -/
theorem pe_mk0 (c : C8.Mak X.prog X.w X.K X.mg X.base k x C sp dvs) (hr : Room j X.A) (hk : k + 1 ≤ j) (hg : Gl X x) (hdb : (x == ("__debug__" : Str)) = false := by decide) : PE X (.Call (.Name x p) [] [] pos) (tMake C sp dvs E0 tNil) := by
  obtain ⟨f, fd, ps, ds, M, F, hm, b, d⟩ := c.ex
  exact pe_make0 M F (hr.mono hk) hg hm b d pass0 hdb
/-- a method called with keywords: n values by place (the object among them), the keywords' names ks -/
structure MetK (P : Program) (w : World) (K : PySem.W.Frag) (mg : Str → Option Value) (base : Heap) (k : Nat) (C : Addr) (m : Str) (sp : Sp) (n : Nat) (ks : List Str) (gV : List V → List V → List V) : Prop where
  ex : ∃ (f : Addr) (fd : FuncData) (ps : List Str) (g : List Value → List Value → List Value), Cls K C ∧ Meth K C m f ∧ FnOk P w K mg base CX0 k f fd ps sp ∧ KBn K fd ps n ks g gV
def tMethK (C : Addr) (m : Str) (n l : Nat) (sp : Sp) (gV : List V → List V → List V) (E : XK) (to : TE) (t tk : TA) : TE := fun σ H Q => to σ H fun x H1 => ∃ a dx fs, x = .ref a ∧ H1 a = some (.ins C dx fs) ∧ fs.lookup m = none ∧
  t σ H1 fun vs H2 => tk σ H2 fun zs H3 => (x :: vs).length = n ∧ zs.length = l ∧ sp (gV (x :: vs) zs) H3 Q E
theorem pe_mtK {pl : Sem Bool} {n : Nat} {ks : List Str} {gV : List V → List V → List V} (c : MetK X.prog X.w X.K X.mg X.base k C m sp n ks gV) (hr : Room j X.A) (hk : k ≤ j) (he : PE X o ta) (ha : PA X (e :: es) t) (hkw : PK X kws tk)
    (hall : (backToKw pos (keywordEach kws X.env)).all (·.1.isSome) = true := by rfl) (hks : (backToKw pos (keywordEach kws X.env)).filterMap (·.1) = ks := by rfl)
    (hst : starEach (e :: es) X.env = (false, eval e X.env) :: starEach es X.env := by rfl)
    (hpl : ((backTo pos (starEach (e :: es) X.env)).any (·.1) || (backToKw pos (keywordEach kws X.env)).any (·.1.isNone)) = false := by rfl)
    (ht : eval (.Call (.Attribute o m apos) (e :: es) kws pos) X.env = (do
      let ov ← eval o X.env
      standAt apos.atName
      let (f, first) ← holding [ov] (getMethod ov m pl)
      callWith pos f first (backTo pos (starEach (e :: es) X.env)) (backToKw pos (keywordEach kws X.env))) := by rfl) :
    PE X (.Call (.Attribute o m apos) (e :: es) kws pos) (tMethK C m n ks.length sp gV E0 ta t tk) := by
  obtain ⟨f, fd, ps, g, cl, hm, F, hb⟩ := c.ex
  refine ⟨fun pins s σ H Q I h => ?_⟩
  refine PySem.W.methodCall_KW (pl := pl) (thn (he.run pins s σ H _ I h) fun u s1 ⟨x, H1, I1, rx, a, dx, fs, ex, ea, l, q⟩ => ?_) ht
  subst ex
  obtain rfl : u = Value.ref a := rx
  refine getmeth_ok I1 ea cl hm l ?_
  refine PySem.W.callWith_KW (first := [.ref a]) (h₀ := X.base) I.ok.mod.kin hm.kp hall (thn (ha.run pos pins s1 σ H1 _ I1 q) fun us s2 ⟨vs, H2, I2, r, q2⟩ => ?_) hpl hst
  refine thn (hkw.run pos pins s2 σ H2 _ I2 q2) fun ws s3 ⟨zs, H3, I3, rz, l1, l2, q3⟩ => ⟨I3.kIn, ?_⟩
  rw [hks]
  exact run_fnN (us := .ref a :: us) (vs := .ref a :: vs) F (hr.mono hk) hb pass0 I3 (.cons rfl r) rz l1 l2 q3
theorem pe_mtK0 {pl : Sem Bool} {n : Nat} {ks : List Str} {gV : List V → List V → List V} (c : MetK X.prog X.w X.K X.mg X.base k C m sp n ks gV) (hr : Room j X.A) (hk : k ≤ j) (he : PE X o ta) (hkw : PK X kws tk)
    (hall : (backToKw pos (keywordEach kws X.env)).all (·.1.isSome) = true := by rfl) (hks : (backToKw pos (keywordEach kws X.env)).filterMap (·.1) = ks := by rfl)
    (hpl : ((backTo pos (starEach [] X.env)).any (·.1) || (backToKw pos (keywordEach kws X.env)).any (·.1.isNone)) = false := by rfl)
    (ht : eval (.Call (.Attribute o m apos) [] kws pos) X.env = (do
      let ov ← eval o X.env
      standAt apos.atName
      let (f, first) ← holding [ov] (getMethod ov m pl)
      callWith pos f first (backTo pos (starEach [] X.env)) (backToKw pos (keywordEach kws X.env))) := by rfl) :
    PE X (.Call (.Attribute o m apos) [] kws pos) (tMethK C m n ks.length sp gV E0 ta tNil tk) := by
  obtain ⟨f, fd, ps, g, cl, hm, F, hb⟩ := c.ex
  refine ⟨fun pins s σ H Q I h => ?_⟩
  refine PySem.W.methodCall_KW (pl := pl) (thn (he.run pins s σ H _ I h) fun u s1 ⟨x, H1, I1, rx, a, dx, fs, ex, ea, l, q⟩ => ?_) ht
  subst ex
  obtain rfl : u = Value.ref a := rx
  refine getmeth_ok I1 ea cl hm l ?_
  refine PySem.W.callWith_KW0 (first := [.ref a]) (h₀ := X.base) I.ok.mod.kin hm.kp hall (thn (hkw.run pos pins s1 σ H1 _ I1 q) fun ws s3 ⟨zs, H3, I3, rz, l1, l2, q3⟩ => ⟨I3.kIn, ?_⟩) hpl
  rw [hks]
  exact run_fnN (us := [.ref a]) (vs := [.ref a]) F (hr.mono hk) hb pass0 I3 (.cons rfl .nil) rz l1 l2 q3
end
end KN

set_option Elab.async false
set_option linter.all false
set_option maxRecDepth 100000
set_option maxHeartbeats 4000000
namespace KN
open PySem PySem.Spec PyProof.Rows L2
/-! ### del d[k] by a tuple -/
def sDDelT (td ty : TE) : TS := fun D σ H => td σ H fun x H1 => ty σ H1 fun y H2 => ∃ (a b : Addr) (kvs : List (List Key × V)) (k : List Key), x = .ref a ∧ H2 a = some (.dT kvs) ∧ y = .ref b ∧ H2 b = some (.tup (k.map kV)) ∧ (valV kvs k).isSome = true ∧ D.nx σ (upd H2 a (.dT (dropK kvs k)))
theorem ps_ddelT {X : Cx} {o i : Expr} {td ty : TE} {pos tpos : Pos} (hu : X.A.units + 1 < cLine) (ho : PE X o td) (hi : PE X i ty) : PS X (.Delete [.Subscript o i tpos] pos) (sDDelT td ty) := by
  refine ⟨fun pins s σ H D I h => ?_⟩
  refine wpAny_Delete (wpAny_deleteEach_cons (wpAny_delete_Subscript (thn (ho.run pins s σ H _ I h) fun u s1 ⟨x, H1, I1, rx, q1⟩ => thn (hi.run pins s1 σ H1 _ I1 q1) fun iv s2 ⟨y, H2, I2, ry, a, b, kvs, k, ex, e, ey, eb, l, q2⟩ => ?_)))
  subst ex ey
  obtain rfl : u = Value.ref a := rx
  obtain rfl : iv = Value.ref b := ry
  obtain ⟨z, hd, xs', rel, dd⟩ := dt_of I2.hok e
  have hz : xs'.length ≤ sizeLine := by rw [← Paired.length rel]; exact z
  have r := rel.val k
  cases hp : atKey xs' k with
  | none =>
    rw [hp] at r
    cases ev : valV kvs k with
    | none => rw [ev] at l; cases l
    | some v0 => rw [ev] at r; exact (show False from r).elim
  | some p =>
    refine wpAny_delItem_heap (hsz := hz) (tupleKind_room_in1 hu) (key_of I2.hok eb) hd dd hp fun h' dd' hs => ?_
    obtain ⟨o, es, ep, hq, h2, h3, h4, _, h5⟩ := dd'
    refine wpAny_deleteEach_nil ⟨σ, _, d_write (ob := .dT (dropK kvs k)) I2 (by rw [e]; exact True.intro) hs ⟨o, hq⟩ ⟨Nat.le_trans (dropK_le kvs k) z, hd, _, (DX.KT_drop k rel).keeps fun c ys ec => ?_, o, es, ep, hq, h2, h3, h4, h5⟩, q2⟩
    rw [upd_ne (ne_of ec e (fun z => nomatch z))]
    exact ec
/-! ### sorted(d) of a dict by moments -/
def adr : Value → Addr
  | .ref a => a
  | _ => 0
def moAt (H : Hp) (a : Addr) : Mo := match H a with
  | some (.tup [.int i, .int j]) => (i, j)
  | _ => (0, 0)
theorem moAt_of {H : Hp} {a : Addr} {m : Mo} (h : H a = some (.tup [.int m.1, .int m.2])) : moAt H a = m := by
  unfold moAt; rw [h]
def mCode (m : Mo) : Int := TS.code 10000000000000 [m.1, m.2]
theorem mCode_le {a b : Mo} (ha : MoOk a) (hb : MoOk b) : mCode a ≤ mCode b ↔ ¬ mLt b a := by
  unfold mCode MoOk mLt at *
  simp only [TS.code, List.length_cons, List.length_nil]
  have e : (10000000000000 : Int) ^ (0 + 1) = 10000000000000 := by decide
  rw [e]
  omega
theorem kt_keys {H : Hp} : ∀ {kvs : List (List Key × V)} {xs : List (List Key × Addr × Value)} {ms : List Mo}, KT H kvs xs → kvs.map (·.1) = ms.map mK →
    (xs.map fun x => moAt H x.2.1) = ms ∧ ∀ x ∈ xs, ∃ m ∈ ms, H x.2.1 = some (.tup [.int m.1, .int m.2])
  | _, _, ms, Paired.nil, e => by
    cases ms with
    | nil => exact ⟨rfl, fun x hx => by cases hx⟩
    | cons m ms => cases e
  | _, _, ms, Paired.cons (a := p) (b := q) h t, e => by
    cases ms with
    | nil => cases e
    | cons m ms =>
      rw [List.map_cons, List.map_cons] at e
      injection e with e1 e2
      obtain ⟨i1, i2⟩ := kt_keys t e2
      have hm : H q.2.1 = some (.tup [.int m.1, .int m.2]) := by rw [h.2.1, e1]; rfl
      refine ⟨by rw [List.map_cons, i1, moAt_of hm], fun x hx => ?_⟩
      rcases List.mem_cons.mp hx with rfl | hx
      · exact ⟨m, List.mem_cons_self, hm⟩
      · obtain ⟨m', h1, h2⟩ := i2 x hx
        exact ⟨m', List.mem_cons_of_mem _ h1, h2⟩
def rSortedDM : List V → Hp → VK → Prop := fun xs H Q => ∃ (a : Addr) (kvs : List (List Key × V)) (ms : List Mo), xs = [.ref a] ∧ Rd H a (.dT kvs) ∧ kvs.map (·.1) = ms.map mK ∧ ms.length < 64 ∧ (∀ m ∈ ms, MoOk m) ∧
  ∀ (ys : List Addr) (ns : List Mo) (p : Addr), ns.Perm ms → ns.Pairwise (fun x y => ¬ mLt y x) → ys.length = ns.length → (∀ (i : Nat) (b : Addr), ys[i]? = some b → ∃ m, ns[i]? = some m ∧ H b = some (.tup [.int m.1, .int m.2])) → H p = none → Q (.ref p) (upd H p (.lst (ys.map V.ref)))
theorem cr_sortedDM {X : Cx} (hcalm : X.calm = true) : CallR X (.builtin "sorted") rSortedDM := by
  intro pins s σ H xs us Q I r q
  obtain ⟨a, kvs, ms, rfl, hd, hks, h64, hok, q⟩ := q
  obtain ⟨u, eu, rx⟩ := vals1 r
  subst eu
  cases rx
  obtain ⟨z, hs, ks, pr, o, es, ep, ho, hx, hdt, he, hn⟩ := (show ObjOk X.prog X.w H s.heap a (.dT kvs) from hd.ok I.hok)
  have l1 : es.size = ks.length := size_of_entries he
  have l2 : kvs.length = ks.length := Paired.length pr
  have l3 : kvs.length = ms.length := by
    have e := congrArg List.length hks
    rw [List.length_map, List.length_map] at e
    exact e
  obtain ⟨km, kh⟩ := kt_keys pr hks
  refine Calls.call_function_entry PyProof.Rows.kind_sorted PyProof.Rows.plain_sorted PyProof.Rows.entry_sorted (PyProof.Rows.args_sorted1 _) ?_
  unfold Builtin.«sorted»
  refine wpAny_bind (m := checkCount "sorted" 1 1 _) (wpAny_pure ?_)
  refine wpAny_bind (PySem.W.kdu_collect (A := X.A.in1) (kdl_raw hs hx hdt) (I.ok.hd hcalm) ho (by omega) fun h' tk acc hk hacc => ?_)
  have ea : acc.toList = ks.map fun x => Value.ref x.2.1 := by
    have hl : acc.toList.length = ks.length := by rw [Array.length_toList, hacc.1]; exact l1
    apply List.ext_getElem?
    intro j
    rw [List.getElem?_map]
    cases hj : acc.toList[j]? with
    | none =>
      have h1 := List.getElem?_eq_none_iff.mp hj
      rw [List.getElem?_eq_none (by omega)]
      all_goals rfl
    | some v =>
      obtain ⟨en, hen, hv⟩ := hacc.2 j v (by rw [← Array.getElem?_toList]; exact hj)
      have qe := entry_at he j
      rw [hen] at qe
      cases hb : ks[j]? with
      | none => rw [hb] at qe; cases qe
      | some x =>
        rw [hb] at qe
        have : en = entryOfKey (tupleKind (mixKind X.prog X.w)) x := Option.some.inj qe
        rw [hv, this]; rfl
  have hal : acc.toList.length = ms.length := by rw [ea, List.length_map]; omega
  have I1 : Inv X pins σ H { s with heap := h', toks := tk } := I.kept hk
  refine wpAny_bind (wpAny_newList ?_ (by rw [hal, sizeLine_eq]; omega))
  have hoL : (h'.push (seqObj "list" acc.toList.toArray 0)).get? h'.objs.size = some (seqObj "list" acc.toList.toArray 0) := Heap.get?_push_size _ rfl
  have keepT : ∀ b o, h'.get? b = some o → o.cls = .type "tuple" → (h'.push (seqObj "list" acc.toList.toArray 0)).get? b = some o := fun b o e _ => Heap.get?_push_of_some _ e
  have rd : ∀ v ∈ acc.toList, ∃ m ∈ ms, TS.TupInts h' v [m.1, m.2] ∧ moAt H (adr v) = m ∧ H (adr v) = some (.tup [.int m.1, .int m.2]) ∧ v = .ref (adr v) := fun v hv => by
    rw [ea] at hv
    obtain ⟨x, hx, rfl⟩ := List.mem_map.mp hv
    obtain ⟨m, h1, h2⟩ := kh x hx
    exact ⟨m, h1, tupI_raw (ns := [m.1, m.2]) I1 (SqT.of h2), moAt_of h2, h2, rfl⟩
  have ok : TS.TupsOk h' 2 10000000000000 acc.toList := fun v hv => by
    obtain ⟨m, h1, h2, _⟩ := rd v hv
    have hm := hok m h1
    unfold MoOk at hm
    refine ⟨_, h2, rfl, fun k hk => ?_⟩
    rcases List.mem_cons.mp hk with rfl | hk
    · omega
    · rw [List.mem_singleton] at hk; subst hk; omega
  show wpAny _ _ _ _ _ { s with heap := h'.push (seqObj "list" acc.toList.toArray 0), toks := tk }
  refine wpAny_bind (wpAny_holding (wpAny_call_entry PyProof.Rows.slot_list_sort ⟨_, hoL, rfl⟩ PyProof.Rows.entry_list_sort
    (TS.sort_tups (s := { s with heap := h'.push (seqObj "list" acc.toList.toArray 0), toks := tk }) (d := 2) (B := 10000000000000) hoL (by rw [hal]; exact h64) (by decide) (ok.keeps keepT) (fun v => mCode (moAt H (adr v))) (fun v hv ns t => ?_) fun out a1 a2 => ⟨_, rfl, ?_⟩)
    (PyProof.Rows.args_list_sort _)))
  · obtain ⟨m, h1, h2, h3, _⟩ := rd v hv
    have e : ns = [m.1, m.2] := t.ints.symm.trans (h2.keeps keepT).ints
    show mCode (moAt H (adr v)) = TS.code 10000000000000 ns
    rw [h3, e]; rfl
  · obtain ⟨e', he'⟩ := PyProof.Rows.sortedHeap_at (vs := acc.toList) (out := out) hoL
    have ro : ∀ v ∈ out.toList, ∃ m ∈ ms, moAt H (adr v) = m ∧ H (adr v) = some (.tup [.int m.1, .int m.2]) ∧ v = .ref (adr v) := fun v hv => by
      obtain ⟨m, h1, _, h3⟩ := rd v (a1.mem_iff.mp hv)
      exact ⟨m, h1, h3⟩
    have pm : (out.toList.map fun v => moAt H (adr v)).Perm ms := by
      have := a1.map fun v => moAt H (adr v)
      rw [ea, List.map_map] at this
      rw [← km]; exact this
    have vv : Vals ((out.toList.map adr).map V.ref) out.toList := by
      have g : ∀ l : List Value, (∀ v ∈ l, v = .ref (adr v)) → Vals ((l.map adr).map V.ref) l := by
        intro l
        induction l with
        | nil => intro _; exact .nil
        | cons v l ih =>
          intro h
          exact .cons (h v List.mem_cons_self) (ih fun x hx => h x (List.mem_cons_of_mem _ hx))
      exact g _ fun v hv => by obtain ⟨_, _, _, _, h⟩ := ro v hv; exact h
    have hlen : ((out.toList.map adr).map V.ref).length ≤ sizeLine := by
      rw [List.length_map, List.length_map, a1.length_eq, hal, sizeLine_eq]; omega
    refine wpAny_pure ⟨_, rfl, .ref h'.objs.size, upd H h'.objs.size (.lst ((out.toList.map adr).map V.ref)), I1.laid (t' := tk) (fun b u e => ?_) (Nat.le_refl _)
      (show ObjOk X.prog X.w _ _ _ (.lst ((out.toList.map adr).map V.ref)) from ⟨hlen, out.toList, e', vv, by rw [Array.toArray_toList]; exact he'⟩), rfl, q _ (out.toList.map fun v => moAt H (adr v)) _ pm ?_ (by rw [List.length_map, List.length_map]) (fun i b hb => ?_) (I1.hok.fresh (Nat.le_refl _))⟩
    · have hb : b < h'.objs.size := Heap.lt_size e
      rw [PyProof.Rows.sortedHeap_old (Nat.ne_of_lt hb) (by rw [size_push']; exact Nat.lt_succ_of_lt hb)]
      exact Heap.get?_push_of_some _ e
    · rw [List.pairwise_map]
      refine List.Pairwise.imp_of_mem (fun {x y} hx hy h => ?_) a2
      obtain ⟨m1, h1, e1, _⟩ := ro x hx
      obtain ⟨m2, h2, e2, _⟩ := ro y hy
      rw [e1, e2] at h ⊢
      exact (mCode_le (hok _ h1) (hok _ h2)).mp h
    · rw [List.getElem?_map] at hb ⊢
      cases e : out.toList[i]? with
      | none => rw [e] at hb; cases hb
      | some v =>
        rw [e] at hb
        cases hb
        obtain ⟨m, _, e1, e2, _⟩ := ro v (List.mem_of_getElem? e)
        exact ⟨m, by show some (moAt H (adr v)) = some m; rw [e1], e2⟩
end KN

set_option Elab.async false
set_option linter.all false
set_option maxRecDepth 100000
set_option maxHeartbeats 4000000
namespace KN
open PySem L2

/-- all but p is kept -/
def Kp (p : Addr) (H H' : Hp) : Prop := ∀ a o, a ≠ p → H a = some o → H' a = some o
theorem Kp.refl (p : Addr) (H : Hp) : Kp p H H := fun _ _ _ h => h
theorem Kp.trans {p : Addr} {H H1 H2 : Hp} (a : Kp p H H1) (b : Kp p H1 H2) : Kp p H H2 := fun c o n h => b c o n (a c o n h)
theorem Kp.of {p : Addr} {H H' : Hp} (s : Same H H') : Kp p H H' := fun a o _ h => s a o h
theorem Kp.new {p q : Addr} {H : Hp} {o : HO} (h : H q = none) : Kp p H (upd H q o) := Kp.of (Same.new h)
theorem Kp.put {p : Addr} {H : Hp} {o : HO} : Kp p H (upd H p o) := fun a u n h => by rw [upd_ne n]; exact h
theorem Kp.tk {p : Addr} {H H' : Hp} {kvs : List (Key × V)} (k : Kp p H H') (h : H p = some (.dK kvs)) : TK H H' := fun b xs e =>
  k b _ (fun z => by subst z; rw [h] at e; cases e) e
theorem Kp.free {p a : Addr} {H H' : Hp} (k : Kp p H H') (n : a ≠ p) (h : H' a = none) : H a = none := by
  cases q : H a with
  | none => rfl
  | some o => rw [k a o n q] at h; cases h

def penD (c : Addr) (n m : Int) : List (Key × V) := [(.inr "cells", .ref c), (.inr "at", .int n), (.inr "left", .int m)]
/-- the pen stands at p, its place at most b -/
def Pen (H : Hp) (p c : Addr) (b : Int) : Prop := ∃ (n m : Int) (ns : List Int), H p = some (.dK (penD c n m)) ∧ H c = some (.lst (ns.map V.int)) ∧ ns.length ≤ 63 ∧ 0 ≤ n ∧ n ≤ b
theorem pen_cells (c : Addr) (n m : Int) : valV (penD c n m) (.inr "cells") = some (.ref c) := by
  unfold penD; rw [valV_pos rfl]
theorem kne {x y : Str} (h : ¬ x = y) : ¬ ((Sum.inr x : Key) = Sum.inr y) := fun z => h (Sum.inr.inj z)
theorem ca0 : ¬ (("cells" : Str) = ("at" : Str)) := by decide +kernel
theorem cl0 : ¬ (("cells" : Str) = ("left" : Str)) := by decide +kernel
theorem al0 : ¬ (("at" : Str) = ("left" : Str)) := by decide +kernel
theorem la0 : ¬ (("left" : Str) = ("at" : Str)) := by decide +kernel
theorem ca_ : ¬ ((Sum.inr ("cells" : Str) : Key) = Sum.inr ("at" : Str)) := kne (by decide +kernel)
theorem cl_ : ¬ ((Sum.inr ("cells" : Str) : Key) = Sum.inr ("left" : Str)) := kne (by decide +kernel)
theorem al_ : ¬ ((Sum.inr ("at" : Str) : Key) = Sum.inr ("left" : Str)) := kne (by decide +kernel)
theorem la_ : ¬ ((Sum.inr ("left" : Str) : Key) = Sum.inr ("at" : Str)) := kne (by decide +kernel)
theorem pen_at (c : Addr) (n m : Int) : valV (penD c n m) (.inr "at") = some (.int n) := by
  unfold penD; rw [valV_neg ca_, valV_pos rfl]
theorem pen_left (c : Addr) (n m : Int) : valV (penD c n m) (.inr "left") = some (.int m) := by
  unfold penD; rw [valV_neg cl_, valV_neg al_, valV_pos rfl]
theorem pen_put_at (c : Addr) (n m k : Int) : putK (penD c n m) (.inr "at") (.int k) = penD c k m := by
  simp [putK, penD, ca0, la0]
theorem pen_put_left (c : Addr) (n m k : Int) : putK (penD c n m) (.inr "left") (.int k) = penD c n k := by
  simp [putK, penD, cl0, al0]
theorem Pen.to {H H' : Hp} {p c : Addr} {b : Int} (h : Pen H p c b) (s : Same H H') : Pen H' p c b :=
  let ⟨n, m, ns, e1, e2, r⟩ := h
  ⟨n, m, ns, s _ _ e1, s _ _ e2, r⟩
theorem Pen.up {H : Hp} {p c : Addr} {b b' : Int} (h : Pen H p c b) (l : b ≤ b') : Pen H p c b' :=
  let ⟨n, m, ns, e1, e2, e3, e4, e5⟩ := h
  ⟨n, m, ns, e1, e2, e3, e4, Int.le_trans e5 l⟩
theorem Pen.tk {H H' : Hp} {p c : Addr} {b : Int} (h : Pen H p c b) (k : Kp p H H') : TK H H' :=
  let ⟨_, _, _, e1, _⟩ := h
  k.tk e1
/-- what is neither the pen nor its cells may change -/
theorem Pen.keep {H H' : Hp} {p c : Addr} {b : Int} (h : Pen H p c b) (k : ∀ a o, a = p ∨ a = c → H a = some o → H' a = some o) : Pen H' p c b :=
  let ⟨n, m, ns, e1, e2, r⟩ := h
  ⟨n, m, ns, k _ _ (.inl rfl) e1, k _ _ (.inr rfl) e2, r⟩
theorem Pen.here {H : Hp} {p c : Addr} {b : Int} (h : Pen H p c b) : (∃ o, H p = some o) ∧ ∃ o, H c = some o :=
  let ⟨_, _, _, e1, e2, _⟩ := h
  ⟨⟨_, e1⟩, _, e2⟩
/-- a new thing is neither the pen nor its cells -/
theorem Pen.off {H : Hp} {p c a : Addr} {b : Int} (h : Pen H p c b) (e : H a = none) : a ≠ p ∧ a ≠ c :=
  let ⟨_, _, _, e1, e2, _⟩ := h
  ⟨(ne_of_none e1 e).symm, (ne_of_none e2 e).symm⟩
theorem Pen.put {H : Hp} {p c a : Addr} {b : Int} {o : HO} (h : Pen H p c b) (n : a ≠ p ∧ a ≠ c) : Pen (upd H a o) p c b :=
  h.keep fun x u hx e => by
    rw [upd_ne (fun z => by subst z; exact hx.elim n.1 n.2)]; exact e
theorem Pen.ne {H : Hp} {p c a : Addr} {b : Int} {xs : List V} (h : Pen H p c b) (e : H a = some (.lst xs)) : a ≠ p :=
  let ⟨_, _, _, e1, _⟩ := h
  fun z => by subst z; rw [e1] at e; cases e

def spPen (K : PySem.W.Frag) : Sp := fun vs H Q _ => ∃ (a : Addr) (ns : List Int), vs = [.ref a] ∧ SqL K H a (ns.map V.int) ∧ ns.length ≤ 63 ∧
  ∀ H' p c, Same H H' → H p = none → H c = none → Pen H' p c 0 → Q (.ref p) H'
def spDraw : Sp := fun vs H Q _ => ∃ (p c : Addr) (b many : Int), vs = [.ref p, .int many] ∧ Pen H p c b ∧ b ≤ 1000000000000 ∧ 1 ≤ many ∧ many < 1000000 ∧
  ∀ H' r, Kp p H H' → Pen H' p c (b + 1) → 0 ≤ r → r < many → Q (.int r) H'

section
variable {P : Program} {w : World} {K : PySem.W.Frag} {mg : Str → Option Value} {base : Heap}
theorem sc__law_pen : FnScope ["_law_script", "_law_cell"] ["_law_script"] (defScope s__law_pen) := ⟨rfl, rfl, rfl, by decide +kernel, rfl, by decide +kernel, by decide +kernel⟩
theorem ok__law_pen {f : Addr} {fd : FuncData} (F : Fun K "_law_pen" "_law_pen" s__law_pen f fd) : FnOk P w K mg base CX0 1 f fd ["_law_script"] (spPen K) := by
  refine F.ok sc__law_pen (fun vs H Q E h => ?_) (fun cdv A outer s H vs Q E hr h => ?_)
  · obtain ⟨a, ns, rfl, _⟩ := h; rfl
  · obtain ⟨a, ns, rfl, hS, hlen, k⟩ := h
    refine ⟨_, (pss_one (ps_ret (pe_disp (pps_cons pe_str (pe_lc (own := [("_law_cell", 1)]) (g := gName 1) (tt := tYes) rfl sc__law_pen.nd (pi_list (pe_slice sl_list (pv 0) po_none (po_some pe_int))) (blkOk_by (own := [("_law_cell", 1)]) (N := ["_law_script", "_law_cell"]) (sc := defScope s__law_pen) (by decide +kernel)) (fun _ _ _ _ _ => pg_name (i := 1) sc__law_pen.nd rfl (Or.inl rfl)) (fun _ _ _ _ _ => pts_nil) (fun _ _ _ _ _ => (pv 1))) (pps_cons pe_str pe_int (pps_cons pe_str pe_int pps_nil))) (by rfl) (by rfl) (fun z => by cases z) (by decide)))), ?_⟩
    intro p hp
    have e63 : cutV (ns.map V.int) none (some 63) = ns.map V.int := by
      unfold cutV
      rw [HT.sIx_none, List.drop_zero, List.take_of_length_le]
      rw [show (some (63 : Int)) = some ((63 : Nat) : Int) from rfl, HT.sIx_nat, List.length_map]; omega
    have s1 : Same H (upd H p (.dK [])) := Same.new hp
    refine ⟨_, rfl, _, rfl, a, _, rfl, s1.seq hS, fun l hl => ?_⟩
    rw [e63]
    have s2 : Same (upd H p (.dK [])) (upd (upd H p (.dK [])) l (.lst (ns.map V.int))) := Same.new hl
    refine ⟨l, rfl, ⟨_, SqL.of upd_same⟩, fun D hD => ?_⟩
    refine lc_list (K := K) (a := l) (xs := ns.map V.int) (fun i H' => Same (upd (upd H p (.dK [])) l (.lst (ns.map V.int))) H' ∧ H' D = some (.lst ((ns.map V.int).take i)))
      ⟨Same.new hD, upd_same⟩ (fun i H' _ q => SqL.of (q.1 _ _ upd_same)) ?_ ?_
    · rintro i x H' hi ⟨q1, q2⟩
      refine ⟨rfl, _, rfl, _, q2, ?_, fun b o e => ?_, ?_⟩
      · have := List.length_take_le' i (ns.map V.int)
        rw [List.length_map] at this
        exact small1000 (by omega)
      · rw [upd_ne (fun z => by subst z; rw [e] at hD; cases hD)]
        exact q1 _ _ e
      · rw [upd_same, List.take_add_one, hi]; rfl
    · rintro H' ⟨q1, q2⟩
      rw [List.take_of_length_le (Nat.le_refl _)] at q2
      refine ⟨q1 _ _ (s2 _ _ upd_same), [(.inr "cells", .ref D), (.inr "at", .int 0), (.inr "left", .int 0)], rfl, (by show 3 ≤ 15; decide), ?_⟩
      have e : mergeK [] [((Sum.inr "cells" : Key), V.ref D), (Sum.inr "at", .int 0), (Sum.inr "left", .int 0)] = penD D 0 0 := by
        simp [mergeK, putK, penD, ca0, cl0, al0]
      rw [e]
      have np : D ≠ p := fun z => by subst z; rw [s2 _ _ upd_same] at hD; cases hD
      have hD0 : H D = none := s1.free (s2.free hD)
      refine k _ _ D (fun b o e => ?_) hp hD0 ⟨0, 0, ns, upd_same, by rw [upd_ne np]; exact q2, hlen, Int.le_refl _, Int.le_refl _⟩
      rw [upd_ne (ne_of_none e hp)]
      exact q1 _ _ (s2 _ _ (s1 _ _ e))

theorem depth_ints : ∀ ns : List Int, PyData.depthAll (ns.map PyData.int) ≤ 1
  | [] => by simp [PyData.depthAll]
  | n :: ns => by have := depth_ints ns; simp [PyData.depthAll, PyData.depth]; omega
theorem shaped_ints (ns : List Int) : SeqAt.shaped (.list (ns.map PyData.int)) = true := by
  have h : okDs (ns.map PyData.int) = true := okDs_all.mpr fun d hd => by
    obtain ⟨i, _, rfl⟩ := List.mem_map.mp hd; rfl
  refine shaped_of (by simpa [okD] using h) ?_
  have := depth_ints ns
  simp [PyData.depth]; omega
theorem draw_ok {n : Int} (h : 0 ≤ n) (l : n ≤ 1000000000000) : -(2 ^ 64) < n ∧ n < 2 ^ 64 := by omega
theorem mod_lt {x m : Int} (h : 0 < m) : 0 ≤ x % m ∧ x % m < m := ⟨Int.emod_nonneg _ (by omega), Int.emod_lt_of_pos _ h⟩
theorem sc__law_draw : FnScope ["_law_pen_here", "_law_many", "_law_digit", "_law_at", "_law_cell", "_law_number", "_law_again_here"] ["_law_pen_here", "_law_many"] (defScope s__law_draw) := ⟨rfl, rfl, rfl, by decide +kernel, rfl, by decide +kernel, by decide +kernel⟩
theorem ok__law_draw {f : Addr} {fd : FuncData} (F : Fun K "_law_draw" "_law_draw" s__law_draw f fd) (m_len : mg "len" = none) (m_abs : mg "abs" = none) (m_range : mg "range" = none) : FnOk P w K mg base CX0 1 f fd ["_law_pen_here", "_law_many"] spDraw := by
  refine F.ok sc__law_draw (fun vs H Q E h => ?_) (fun cdv A outer s H vs Q E hr h => ?_)
  · obtain ⟨p, c, b, many, rfl, _⟩ := h; rfl
  · obtain ⟨p, c, b, many, rfl, ⟨n, m, ns, hp, hc, h63, hn0, hnb⟩, hb, h1, h2, k⟩ := h
    have hu := hu_of hr
    refine ⟨_, (pss_cons (ps_if (pt_cmpR op_gt (pe_dget hu (pv 0) pe_str (fun _ _ => rfl)) pe_int (nomark _)) (pss_cons (ps_set (i := 2) sc__law_draw.nd rfl (Or.inl rfl) (pe_op op_mod (pe_dget hu (pv 0) pe_str (fun _ _ => rfl)) (pv 1)))
      (pss_cons (ps_dput hu (pv 0) pe_str (pe_op op_fdiv (pe_dget hu (pv 0) pe_str (fun _ _ => rfl)) (pv 1)) rfl)
      (pss_one (ps_ret (pv 2))))) pss_nil)
      (pss_cons (ps_set (i := 3) sc__law_draw.nd rfl (Or.inl rfl) (pe_dget hu (pv 0) pe_str (fun _ _ => rfl)))
      (pss_cons (ps_dput hu (pv 0) pe_str (pe_op op_add (pv 3) pe_int) rfl)
      (pss_cons (ps_set (i := 4) sc__law_draw.nd rfl (Or.inl rfl) (pe_op op_add (pe_op op_mul (pv 3) (pv 3)) pe_int))
      (C8.pss_cut (ps_if (pt_cmpR (op_neD hr.units) (pe_dget hu (pv 0) pe_str (fun _ _ => rfl)) (pe_lst pa_nil) (nomark _)) (pss_one (ps_set (i := 4) sc__law_draw.nd rfl (Or.inl rfl) (pe_ix ix_list (pe_dget hu (pv 0) pe_str (fun _ _ => rfl)) (pe_op op_mod (pv 3) (pe_callB call_len_seq (by rfl) m_len (by decide +kernel) (pa_cons (pe_dget hu (pv 0) pe_str (fun _ _ => rfl)) pa_nil))) (fun _ _ => rfl)))) pss_nil)
      (C8.pss_cut (ps_if (PW.pt (pw_and (pt_cmpR op_lt (pv 3) (pe_callB call_len_seq (by rfl) m_len (by decide +kernel) (pa_cons (pe_dget hu (pv 0) pe_str (fun _ _ => rfl)) pa_nil)) (nomark _)) (pw_and1 (pt_cmpR op_ge (pe_callB call_abs (by rfl) m_abs (by decide +kernel) (pa_cons (pv 4) pa_nil)) (pe_op op_pow pe_int pe_int) (nomark _))))) (pss_cons (ps_dput hu (pv 0) pe_str (pe_op op_fdiv (pe_callB call_abs (by rfl) m_abs (by decide +kernel) (pa_cons (pv 4) pa_nil)) (pv 1)) rfl)
      (pss_one (ps_ret (pe_op op_mod (pe_callB call_abs (by rfl) m_abs (by decide +kernel) (pa_cons (pv 4) pa_nil)) (pv 1))))) pss_nil)
      (pss_cons (ps_set (i := 5) sc__law_draw.nd rfl (Or.inl rfl) (pe_op op_mod (pe_op op_mul (pe_op op_add (pe_op op_add (pe_op op_mod (pv 4) pe_int) (pe_op op_mul pe_int (pv 3))) pe_int) pe_int) pe_int))
      (pss_cons (ps_for PassesOwn.never rfl (pi_range1 rfl m_range (pa_cons pe_int pa_nil)) (pg_name (i := 6) sc__law_draw.nd rfl (Or.inl rfl))
      (pss_cons (ps_set (i := 5) sc__law_draw.nd rfl (Or.inl rfl) (pe_op op_add (pe_op op_add (pe_op op_add (pe_op op_mul (pv 5) (pv 5)) (pe_op op_mul pe_int (pv 5))) (pv 3)) (pv 6)))
      (pss_one (ps_set (i := 5) sc__law_draw.nd rfl (Or.inl rfl) (pe_op op_mod (pv 5) pe_int)))))
      (pss_one (ps_ret (pe_op op_mod (pe_op op_fdiv (pv 5) pe_int) (pv 1)))))))))))), ?_⟩
    have ncp : c ≠ p := ne_of hc hp (by intro z; cases z)
    have gl : DGet H p (.str "left") (some (.int m)) := by
      have := DGet.k (k := .inr "left") hp; rw [pen_left] at this; exact this
    have ga : DGet H p (.str "at") (some (.int n)) := by
      have := DGet.k (k := .inr "at") hp; rw [pen_at] at this; exact this
    refine ⟨_, rfl, p, _, rfl, gl, _, _, rfl, rfl, _, rfl, ite2 (fun hm => ?_) (fun hm => ?_)⟩
    · -- a digit of what is left
      refine ⟨_, rfl, p, _, rfl, gl, _, rfl, _, _, rfl, rfl, (by show (0 : Int) < many; omega), ?_⟩
      refine ⟨_, rfl, p, _, rfl, gl, _, rfl, _, _, rfl, rfl, (by constructor <;> omega), _, rfl, p, _, rfl, DPut.k (k := .inr "left") hp (by show 3 < sizeLine; decide), _, rfl, ?_⟩
      rw [pen_put_left]
      have q := mod_lt (x := m) (m := many) (by omega)
      exact k _ _ Kp.put ⟨n, _, ns, upd_same, by rw [upd_ne ncp]; exact hc, h63, hn0, by omega⟩ q.1 q.2
    · -- a mixed draw
      refine ⟨_, rfl, p, _, rfl, ga, ?_⟩
      refine ⟨_, rfl, _, _, rfl, rfl, _, rfl, p, _, rfl, DPut.k (k := .inr "at") hp (by show 3 < sizeLine; decide), ?_⟩
      rw [pen_put_at]
      have kb : -(2 ^ 64) < n ∧ n < 2 ^ 64 := draw_ok hn0 (by omega)
      refine ⟨_, rfl, _, rfl, _, _, rfl, rfl, .inl kb, _, _, rfl, rfl, ?_⟩
      refine ⟨fun σ' H' => ∃ z : Int, σ' = [some (.ref p), some (.int many), none, some (.int n), some (.int z), none, none] ∧ Kp p H H' ∧ H' p = some (.dK (penD c (n + 1) m)), ?_, ?_⟩
      · -- if pen["cells"] != []
        have gc : DGet (upd H p (.dK (penD c (n + 1) m))) p (.str "cells") (some (.ref c)) := by
          have := DGet.k (k := .inr "cells") (upd_same (H := H) (a := p) (o := .dK (penD c (n + 1) m))); rw [pen_cells] at this; exact this
        refine ⟨_, rfl, p, _, rfl, gc, Nat.zero_le _, fun l hl => ?_⟩
        have nlp : l ≠ p := fun z => by subst z; rw [upd_same] at hl; cases hl
        have hl0 : H l = none := by rw [upd_ne nlp] at hl; exact hl
        have ncl : c ≠ l := fun z => by subst z; rw [hc] at hl0; cases hl0
        have hc2 : upd (upd H p (.dK (penD c (n + 1) m))) l (.lst []) c = some (.lst (ns.map V.int)) := by rw [upd_ne ncl, upd_ne ncp]; exact hc
        have hp2 : upd (upd H p (.dK (penD c (n + 1) m))) l (.lst []) p = some (.dK (penD c (n + 1) m)) := by rw [upd_ne nlp.symm, upd_same]
        have kp2 : Kp p H (upd (upd H p (.dK (penD c (n + 1) m))) l (.lst [])) := Kp.put.trans (Kp.new hl)
        have ls : Ls (upd (upd H p (.dK (penD c (n + 1) m))) l (.lst [])) c (ns.map PyData.int) := ⟨_, hc2, TpAll.ints ns⟩
        have le : Ls (upd (upd H p (.dK (penD c (n + 1) m))) l (.lst [])) l [] := ⟨_, upd_same, .nil⟩
        refine ⟨_, _, ls.dp, le.dp, shaped_ints ns, rfl, _, rfl, ?_⟩
        cases ns with
        | nil =>
          refine iteF ?_
          exact ⟨n * n + 5, rfl, kp2, hp2⟩
        | cons n0 ns =>
          refine iteT ?_
          have gc2 : DGet (upd (upd H p (.dK (penD c (n + 1) m))) l (.lst [])) p (.str "cells") (some (.ref c)) := by
            have := DGet.k (k := .inr "cells") hp2; rw [pen_cells] at this; exact this
          refine ⟨_, rfl, p, _, rfl, gc2, _, rfl, _, rfl, p, _, rfl, gc2, c, _, rfl, .inl (SqL.of hc2), _, _, rfl, rfl, (by show (0 : Int) < ((List.map V.int (n0 :: ns)).length : Nat); rw [List.length_map, List.length_cons]; omega), ?_⟩
          have hl' : 0 < ((List.map V.int (n0 :: ns)).length : Int) := by rw [List.length_map, List.length_cons]; omega
          have q := mod_lt (x := n) hl'
          obtain ⟨y, hy⟩ : ∃ y, (n0 :: ns)[(n % ((List.map V.int (n0 :: ns)).length : Int)).toNat]? = some y := by
            have hlt : (n % ((List.map V.int (n0 :: ns)).length : Int)).toNat < (n0 :: ns).length := by
              have e := List.length_map (as := n0 :: ns) V.int
              omega
            exact ⟨_, List.getElem?_eq_getElem hlt⟩
          refine ⟨c, _, _, .int y, rfl, rfl, SqL.of hc2, at_of (j := (n % ((List.map V.int (n0 :: ns)).length : Int)).toNat) (by omega) (by rw [List.getElem?_map, hy]; rfl), ?_⟩
          exact ⟨y, rfl, kp2, hp2⟩
      · rintro σ1 H1 ⟨z, rfl, k1, hp1⟩
        have hc1 : H1 c = some (.lst (ns.map V.int)) := k1 _ _ ncp hc
        have gc1 : DGet H1 p (.str "cells") (some (.ref c)) := by
          have := DGet.k (k := .inr "cells") hp1; rw [pen_cells] at this; exact this
        have stay : Pen H1 p c (b + 1) := ⟨n + 1, m, ns, hp1, hc1, h63, by omega, by omega⟩
        refine ⟨fun σ' H' => σ' = [some (.ref p), some (.int many), none, some (.int n), some (.int z), none, none] ∧ H' = H1, ?_, ?_⟩
        refine ⟨_, rfl, _, rfl, p, _, rfl, gc1, c, _, rfl, .inl (SqL.of hc1), _, _, rfl, rfl, _, rfl, ite2 (fun hlt => ?_) (fun hlt => ?_)⟩
        · refine ⟨_, rfl, _, rfl, _, _, rfl, rfl, ⟨by decide, by decide, by decide⟩, _, _, rfl, rfl, _, rfl, ite2 (fun hg => ?_) (fun hg => ?_)⟩
          · refine ⟨_, rfl, _, rfl, _, rfl, _, _, rfl, rfl, (by constructor <;> omega), _, rfl, p, _, rfl, DPut.k (k := .inr "left") hp1 (by show 3 < sizeLine; decide), ?_⟩
            rw [pen_put_left]
            refine ⟨_, rfl, _, rfl, _, rfl, _, _, rfl, rfl, (by show (0 : Int) < many; omega), ?_⟩
            have q := mod_lt (x := if z < 0 then -z else z) (m := many) (by omega)
            exact k _ _ (k1.trans Kp.put) ⟨n + 1, _, ns, upd_same, by rw [upd_ne ncp]; exact hc1, h63, by omega, by omega⟩ q.1 q.2
          · exact ⟨rfl, rfl⟩
        · exact ⟨rfl, rfl⟩
        rintro σ2 H2 ⟨rfl, rfl⟩
        have kz := mod_lt (x := z) (m := 4294967311) (by decide)
        refine ⟨_, rfl, _, _, rfl, rfl, (by show (0 : Int) < 4294967311; decide), _, rfl, _, _, rfl, rfl, .inl (by constructor <;> decide), _, _, rfl, rfl, _, _, rfl, rfl, _, _, rfl, rfl, .inr (by constructor <;> decide), _, _, rfl, rfl, (by show (0 : Int) < 4294967311; decide), ?_⟩
        refine ⟨3, rfl, by decide, by decide, for_range (lo := 0) (n := 3) (fun i σ' H' => H' = H2 ∧ ∃ (y : Int) (v : Option V), σ' = [some (.ref p), some (.int many), none, some (.int n), some (.int z), some (.int y), v] ∧ 0 ≤ y ∧ y < 4294967311)
          ⟨rfl, _, none, rfl, mod_lt (by decide)⟩ ?_ ?_⟩
        · rintro i σ3 H3 hi ⟨rfl, y, v, rfl, y0, y1⟩
          refine ⟨_, rfl, _, rfl, _, _, rfl, rfl, .inl (by constructor <;> omega), _, rfl, _, _, rfl, rfl, .inl (by constructor <;> decide), _, _, rfl, rfl, _, rfl, _, _, rfl, rfl, _, rfl, _, _, rfl, rfl, ?_⟩
          refine ⟨_, rfl, _, _, rfl, rfl, (by show (0 : Int) < 4294967311; decide), ?_⟩
          exact ⟨rfl, _, _, rfl, mod_lt (by decide)⟩
        · rintro σ3 H3 ⟨rfl, y, v, rfl, y0, y1⟩
          refine ⟨_, rfl, _, _, rfl, rfl, (by constructor <;> decide), _, rfl, _, _, rfl, rfl, (by show (0 : Int) < many; omega), ?_⟩
          have q := mod_lt (x := y / 32) (m := many) (by omega)
          exact k _ _ k1 stay q.1 q.2
end
end KN


set_option Elab.async false
set_option linter.all false
set_option maxRecDepth 100000
set_option maxHeartbeats 4000000
namespace KN
open PySem L2
theorem takes_never {X : Cx} : Takes X (fun _ _ _ _ => False) := fun _ _ ⟨_, _, _, _, _, _, _, _, _, _, _, _, _, _, _, _, w⟩ => w.elim
abbrev tl (x : Str) : List Nat := x.cps.toList
/-- a word -/
def Lt (l : List Nat) : Prop := ∀ c ∈ l, 97 ≤ c ∧ c ≤ 122
def IsW (s : Str) : Prop := 1 ≤ (tl s).length ∧ (tl s).length ≤ 12 ∧ Lt (tl s)
theorem Lt.app {a b : List Nat} (h : Lt a) (k : Lt b) : Lt (a ++ b) := fun c hc => (List.mem_append.mp hc).elim (h c) (k c)
theorem Lt.drop {a : List Nat} (h : Lt a) (n : Nat) : Lt (a.drop n) := fun c hc => h c (List.mem_of_mem_drop hc)
theorem Lt.take {a : List Nat} (h : Lt a) (n : Nat) : Lt (a.take n) := fun c hc => h c (List.mem_of_mem_take hc)
theorem tl_cut (z : Str) (lo hi : Option Int) : tl (cutS z lo hi) = ((tl z).drop (HT.sIx z.length 0 lo)).take (HT.sIx z.length z.length hi - HT.sIx z.length 0 lo) := rfl
theorem Lt.cut {z : Str} (h : Lt (tl z)) (lo hi : Option Int) : Lt (tl (cutS z lo hi)) := by rw [tl_cut]; exact (h.drop _).take _
theorem len_cut (z : Str) (lo hi : Option Int) : (tl (cutS z lo hi)).length ≤ (tl z).length := by
  rw [tl_cut, List.length_take, List.length_drop]; omega
theorem slen (z : Str) : z.length = (tl z).length := TL.len_tl z
theorem tl_letters : tl letters = (List.range 26).map (· + 97) := by decide +kernel
theorem at_ofG {α : Type} {xs : List α} {i : Int} {v : α} (h : 0 ≤ i) (e : xs[i.toNat]? = some v) : atI xs i = some v := by
  have q := atI_nat (xs := xs) (j := i.toNat) e
  rwa [Int.toNat_of_nonneg h] at q
theorem letter_at {i : Int} (h : 0 ≤ i) (k : i < 26) : atI (tl letters) i = some (i.toNat + 97) := by
  refine at_ofG h ?_
  rw [tl_letters, List.getElem?_map, List.getElem?_range (by omega)]; rfl
theorem letter_ix : ∀ k, k < 26 → (Txt.index0 letters ⟨#[k + 97]⟩).isSome = true ∧ ∀ j, Txt.index0 letters ⟨#[k + 97]⟩ = some j → j = k := by decide +kernel
theorem index_letter {c : Nat} (h : 97 ≤ c ∧ c ≤ 122) : Txt.index0 letters ⟨#[c]⟩ = some (c - 97) := by
  have q := letter_ix (c - 97) (by omega)
  rw [show c - 97 + 97 = c by omega] at q
  cases e : Txt.index0 letters ⟨#[c]⟩ with
  | none => rw [e] at q; exact absurd q.1 (by decide)
  | some j => rw [q.2 j e]
theorem tl_join0 : ∀ ss : List Str, tl (Txt.join "" ss) = (ss.map tl).flatten := by
  intro ss
  have e : tl (Txt.join "" ss) = TL.joinL (tl "") (ss.map tl) := by rw [TL.join_eq]; exact TL.tl_join "" ss
  rw [e]
  have e0 : tl "" = [] := by decide +kernel
  rw [e0]
  generalize ss.map tl = ps
  induction ps with
  | nil => rfl
  | cons p r ih =>
    cases r with
    | nil => simp [TL.joinL]
    | cons q r => simp only [TL.joinL, List.nil_append] at ih ⊢; rw [ih]; rfl

/-- the texts of one letter each -/
def One (ss : List Str) : Prop := ∀ s ∈ ss, ∃ c, tl s = [c] ∧ 97 ≤ c ∧ c ≤ 122
theorem One.word {ss : List Str} (h : One ss) : (tl (Txt.join "" ss)).length = ss.length ∧ Lt (tl (Txt.join "" ss)) := by
  rw [tl_join0]
  induction ss with
  | nil => exact ⟨rfl, fun c hc => by cases hc⟩
  | cons s r ih =>
    obtain ⟨c, e, h1, h2⟩ := h s List.mem_cons_self
    obtain ⟨a, b⟩ := ih fun x hx => h x (List.mem_cons_of_mem _ hx)
    rw [List.map_cons, List.flatten_cons, e]
    refine ⟨by rw [List.length_append, a]; simp; omega, Lt.app (fun d hd => ?_) b⟩
    rw [List.mem_singleton] at hd; subst hd; exact ⟨h1, h2⟩
theorem One.sum {ss : List Str} (h : One ss) : (ss.map (·.length)).sum = ss.length := by
  induction ss with
  | nil => rfl
  | cons s r ih =>
    obtain ⟨c, e, _⟩ := h s List.mem_cons_self
    rw [List.map_cons, List.sum_cons, ih fun x hx => h x (List.mem_cons_of_mem _ hx), slen, e]
    simp; omega

def Odd6 (y : Int) : Prop := y = 3 ∨ y = 5 ∨ y = 7 ∨ y = 9 ∨ y = 11 ∨ y = 15
theorem odd_ne {f y : Int} (h : Odd6 y) {i j : Int} (i0 : 0 ≤ i) (ij : i < j) (jl : j < 26) : (f + y * i) % 26 ≠ (f + y * j) % 26 := by
  unfold Odd6 at h
  rcases h with rfl | rfl | rfl | rfl | rfl | rfl <;> omega
/-- words that are unlike at one place: what stands ahead of it, a letter by its number, anything -/
def Shp (pre : List Nat) (f y : Int) (ss : List Str) : Prop := ∀ (i : Nat) (s : Str), ss[i]? = some s → ∃ r, tl s = pre ++ (((f + y * (0 + (i : Int))) % 26).toNat + 97) :: r
theorem Shp.ne {pre : List Nat} {f y : Int} {ss : List Str} (h : Shp pre f y ss) (o : Odd6 y) (hl : ss.length ≤ 26) {i j : Nat} {s u : Str} (hi : ss[i]? = some s) (hj : ss[j]? = some u) (ij : i < j) : s ≠ u := by
  intro e
  subst e
  obtain ⟨r, h1⟩ := h i s hi
  obtain ⟨q, h2⟩ := h j s hj
  have jl : j < ss.length := (List.getElem?_eq_some_iff.mp hj).1
  have e := List.append_cancel_left (h1.symm.trans h2)
  injection e with e _
  refine odd_ne (f := f) o (i := 0 + (i : Int)) (j := 0 + (j : Int)) (by omega) (by omega) (by omega) ?_
  have q1 := Int.emod_nonneg (f + y * (0 + (i : Int))) (by decide : (26 : Int) ≠ 0)
  have q2 := Int.emod_nonneg (f + y * (0 + (j : Int))) (by decide : (26 : Int) ≠ 0)
  omega
theorem nd_of {ss : List Str} (h : ∀ (i j : Nat) (s u : Str), i < j → ss[i]? = some s → ss[j]? = some u → s ≠ u) : ss.Nodup :=
  List.pairwise_iff_getElem.mpr fun i j hi hj ij => h i j _ _ ij (List.getElem?_eq_getElem hi) (List.getElem?_eq_getElem hj)
theorem Shp.nd {pre : List Nat} {f y : Int} {ss : List Str} (h : Shp pre f y ss) (o : Odd6 y) (hl : ss.length ≤ 26) : ss.Nodup := nd_of fun _ _ _ _ ij hi hj => h.ne o hl hi hj ij
/-- one of them put short -/
theorem Shp.nd_set {pre : List Nat} {f y : Int} {ss : List Str} (h : Shp pre f y ss) (o : Odd6 y) (hl : ss.length ≤ 26) (k : Nat) {z : Str} (hz : (tl z).length = pre.length) : (ss.set k z).Nodup := by
  have no : ∀ i s, ss[i]? = some s → s ≠ z := fun i s hi e => by
    obtain ⟨r, hr⟩ := h i s hi
    rw [e] at hr
    have := congrArg List.length hr
    rw [List.length_append, List.length_cons] at this
    omega
  have at' : ∀ i s, (ss.set k z)[i]? = some s → (i = k ∧ s = z) ∨ (i ≠ k ∧ ss[i]? = some s) := fun i s hi => by
    rw [List.getElem?_set] at hi
    by_cases e : k = i
    · rw [if_pos e] at hi
      split at hi
      · exact .inl ⟨e.symm, (Option.some.inj hi).symm⟩
      · cases hi
    · rw [if_neg e] at hi; exact .inr ⟨fun q => e q.symm, hi⟩
  refine nd_of fun i j s u ij hi hj => ?_
  rcases at' i s hi with ⟨e1, rfl⟩ | ⟨_, h1⟩ <;> rcases at' j u hj with ⟨e2, rfl⟩ | ⟨_, h2⟩
  · omega
  · exact (no j u h2).symm
  · exact no i s h1
  · exact h.ne o hl h1 h2 ij
theorem six_at {r : Int} (h : 0 ≤ r) (k : r < 6) : ∃ y, atI [V.int 3, .int 5, .int 7, .int 9, .int 11, .int 15] r = some (.int y) ∧ 3 ≤ y ∧ y ≤ 15 ∧ Odd6 y := by
  have : r = 0 ∨ r = 1 ∨ r = 2 ∨ r = 3 ∨ r = 4 ∨ r = 5 := by omega
  rcases this with rfl | rfl | rfl | rfl | rfl | rfl <;> exact ⟨_, rfl, by decide, by decide, by unfold Odd6; decide⟩
theorem two_at {r : Int} (x y : V) (h : 0 ≤ r) (k : r < 2) : ∃ v, atI [x, y] r = some v ∧ (v = x ∨ v = y) := by
  have : r = 0 ∨ r = 1 := by omega
  rcases this with rfl | rfl
  · exact ⟨_, rfl, .inl rfl⟩
  · exact ⟨_, rfl, .inr rfl⟩
theorem atI_in {α : Type} {xs : List α} {i : Int} (h : 0 ≤ i) (k : i < xs.length) : ∃ v, atI xs i = some v ∧ xs[i.toNat]? = some v := by
  have hl : i.toNat < xs.length := by omega
  exact ⟨xs[i.toNat], at_ofG h (List.getElem?_eq_getElem hl), List.getElem?_eq_getElem hl⟩
def spNames : Sp := fun vs H Q _ => ∃ (p c : Addr) (b many : Int), vs = [.ref p, .int many] ∧ Pen H p c b ∧ b ≤ 1000000000 ∧ 0 ≤ many ∧ many ≤ 26 ∧
  ∀ (H' : Hp) (l : Addr) (ss : List Str), Kp p H H' → Pen H' p c (b + 16) → H l = none → H' l = some (.lst (ss.map V.str)) → ss.length = many.toNat → (∀ s ∈ ss, IsW s) → ss.Nodup → Q (.ref l) H'

section
variable {P : Program} {w : World} {K : PySem.W.Frag} {mg : Str → Option Value} {base : Heap}
end
end KN


set_option Elab.async false
set_option linter.all false
set_option maxRecDepth 100000
set_option maxHeartbeats 4000000
namespace KN
open PySem L2
theorem three_at {r : Int} (x y z : Int) (h : 0 ≤ r) (k : r < 3) : ∃ v, atI [V.int x, V.int y, V.int z] r = some (.int v) ∧ (v = x ∨ v = y ∨ v = z) := by
  have : r = 0 ∨ r = 1 ∨ r = 2 := by omega
  rcases this with rfl | rfl | rfl
  · exact ⟨_, rfl, .inl rfl⟩
  · exact ⟨_, rfl, .inr (.inl rfl)⟩
  · exact ⟨_, rfl, .inr (.inr rfl)⟩

def MoS (m : Mo) : Prop := 0 ≤ m.1 ∧ m.1 ≤ 900000 ∧ 1 ≤ m.2 ∧ m.2 ≤ 900000
theorem MoS.ok {m : Mo} (h : MoS m) : MoOk m := by unfold MoS at h; unfold MoOk; omega
def MoM (m : Mo) : Prop := 0 ≤ m.1 ∧ m.1 ≤ 800000 ∧ 1 ≤ m.2 ∧ m.2 ≤ 800000
theorem MoM.s {m : Mo} (h : MoM m) : MoS m := by unfold MoM at h; unfold MoS; omega
def spMoments : Sp := fun vs H Q _ => ∃ (p c : Addr) (b many : Int), vs = [.ref p, .int many] ∧ Pen H p c b ∧ b ≤ 1000000000 ∧ 0 ≤ many ∧ many ≤ 100 ∧
  ∀ (H' : Hp) (l : Addr) (ms : List Mo), Kp p H H' → Pen H' p c (b + 2 + 3 * many) → H l = none → Ls H' l (ms.map mD) → ms.length = many.toNat → ms.Pairwise mLt → (∀ m ∈ ms, MoM m) → Q (.ref l) H'

section
variable {P : Program} {w : World} {K : PySem.W.Frag} {mg : Str → Option Value} {base : Heap}
end
end KN


set_option Elab.async false
set_option linter.all false
set_option maxRecDepth 100000
set_option maxHeartbeats 4000000
namespace KN
open PySem L2
def isWB (s : Str) : Bool := decide (1 ≤ s.length) && decide (s.length ≤ 12) && (tl s).all fun c => decide (c ∈ tl letters)
theorem mem_letters (c : Nat) : c ∈ tl letters ↔ 97 ≤ c ∧ c ≤ 122 := by
  rw [tl_letters, List.mem_map]
  constructor
  · rintro ⟨k, hk, rfl⟩
    rw [List.mem_range] at hk; omega
  · intro h
    exact ⟨c - 97, List.mem_range.mpr (by omega), by omega⟩
theorem isWB_iff {s : Str} : isWB s = true ↔ IsW s := by
  unfold isWB IsW Lt
  rw [Bool.and_eq_true, Bool.and_eq_true, decide_eq_true_iff, decide_eq_true_iff, List.all_eq_true, slen]
  constructor
  · rintro ⟨⟨h1, h2⟩, h3⟩
    exact ⟨h1, h2, fun c hc => (mem_letters c).mp (of_decide_eq_true (h3 c hc))⟩
  · rintro ⟨h1, h2, h3⟩
    exact ⟨⟨h1, h2⟩, fun c hc => decide_eq_true ((mem_letters c).mpr (h3 c hc))⟩

def spNumber (K : PySem.W.Frag) : Sp := fun vs H Q _ => ∃ (v : V) (lo hi : Int), vs = [v, .int lo, .int hi] ∧
  ((∃ i, v = .int i ∧ Q (.bl (decide (lo ≤ i) && decide (i ≤ hi))) H) ∨ (∃ b, v = .bl b ∧ Q (.bl false) H) ∨ ∃ t, TyX K H v t ∧ PySem.W.kitOne K t (.type "int") = some false ∧ Q (.bl false) H)
def spWord (K : PySem.W.Frag) : Sp := fun vs H Q _ => ∃ v : V, vs = [v] ∧
  ((∃ s, v = .str s ∧ s.length ≤ sizeLine ∧ ∀ H', Same H H' → Q (.bl (isWB s)) H') ∨ ∃ t, TyX K H v t ∧ PySem.W.kitOne K t (.type "str") = some false ∧ Q (.bl false) H)
def spMoment : Sp := fun vs H Q _ => ∃ (a : Addr) (m : Mo), vs = [.ref a] ∧ H a = some (.tup [.int m.1, .int m.2]) ∧ MoOk m ∧ Q (.bl true) H
def spList : Sp := fun vs H Q _ => ∃ a, vs = [.ref a] ∧ ((∃ xs, H a = some (.tup xs)) ∨ ∃ xs, H a = some (.lst xs)) ∧ ∀ H', Same H H' → Q (.bl true) H'
/-- one sheet in a tuple -/
def SheetsOk (ss : List Str) : Prop := ss ≠ [] ∧ ss.length ≤ 60 ∧ ss.Nodup ∧ ∀ s ∈ ss, IsW s
def spSheets : Sp := fun vs H Q _ => ∃ (a : Addr) (ss : List Str), vs = [.ref a] ∧ H a = some (.tup (ss.map V.str)) ∧ SheetsOk ss ∧ ∀ H', Same H H' → Q (.bl true) H'
def spSheets1 : Sp := fun vs H Q _ => ∃ (a : Addr) (s : Str), vs = [.ref a] ∧ H a = some (.tup [.str s]) ∧ IsW s ∧ ∀ H', Same H H' → Q (.bl true) H'
/-- up to a pair -/
def upB (m : Mo) : Option Mo → Bool
  | none => true
  | some u => decide (m.1 < u.1 ∨ m.1 = u.1 ∧ m.2 ≤ u.2)
def UpV (H : Hp) (v : V) : Option Mo → Prop
  | none => v = .non
  | some u => ∃ a, v = .ref a ∧ H a = some (.tup [.int u.1, .int u.2])
theorem UpV.to {H H' : Hp} {v : V} {u : Option Mo} (h : UpV H v u) (k : TK H H') : UpV H' v u := by
  cases u with
  | none => exact h
  | some u => obtain ⟨a, e, h⟩ := h; exact ⟨a, e, k _ _ h⟩
def spThere : Sp := fun vs H Q _ => ∃ (a : Addr) (m : Mo) (v : V) (u : Option Mo), vs = [.ref a, v] ∧ H a = some (.tup [.int m.1, .int m.2]) ∧ UpV H v u ∧ Q (.bl (upB m u)) H
/-- a new moment beside a dict by moments: nothing is raised -/
def spNew : Sp := fun vs H Q _ => ∃ (a d : Addr) (m : Mo) (kvs : List (List Key × V)), vs = [.ref a, .ref d] ∧ H a = some (.tup [.int m.1, .int m.2]) ∧ MoOk m ∧ H d = some (.dT kvs) ∧ valV kvs (mK m) = none ∧ Q .non H
def spMissing : Sp := fun vs H Q _ => ∃ (a d : Addr) (m : Mo) (kvs : List (List Key × V)), vs = [.ref a, .ref d] ∧ H a = some (.tup [.int m.1, .int m.2]) ∧ MoOk m ∧ H d = some (.dT kvs) ∧ (valV kvs (mK m)).isSome = true ∧ Q .non H
theorem lex2 (m u : Mo) : Ob.lexAt (fun j => decide (([m.1, m.2] : List Int).getD j 0 = ([u.1, u.2] : List Int).getD j 0)) (fun j => decide (([m.1, m.2] : List Int).getD j 0 ≤ ([u.1, u.2] : List Int).getD j 0)) (decide (([m.1, m.2] : List Int).length ≤ ([u.1, u.2] : List Int).length)) 0 (min ([m.1, m.2] : List Int).length ([u.1, u.2] : List Int).length) = decide (m.1 < u.1 ∨ m.1 = u.1 ∧ m.2 ≤ u.2) := by
  show Ob.lexAt _ _ _ 0 2 = _
  rw [Ob.lexAt_succ, Ob.lexAt_succ, Ob.lexAt_zero]
  simp only [List.getD_cons_zero, List.getD_cons_succ, List.length_cons, List.length_nil]
  by_cases h1 : m.1 = u.1
  · rw [decide_eq_true h1, if_pos rfl]
    by_cases h2 : m.2 = u.2
    · rw [decide_eq_true h2, if_pos rfl]
      rw [decide_eq_true (by omega : (0 + 1 + 1 ≤ 0 + 1 + 1))]
      exact (decide_eq_true (by omega)).symm
    · rw [decide_eq_false h2, if_neg (by decide)]
      by_cases h3 : m.2 ≤ u.2
      · rw [decide_eq_true h3]; exact (decide_eq_true (by omega)).symm
      · rw [decide_eq_false h3]; exact (decide_eq_false (by omega)).symm
  · rw [decide_eq_false h1, if_neg (by decide)]
    by_cases h3 : m.1 ≤ u.1
    · rw [decide_eq_true h3]; exact (decide_eq_true (by omega)).symm
    · rw [decide_eq_false h3]; exact (decide_eq_false (by omega)).symm

section
variable {P : Program} {w : World} {K : PySem.W.Frag} {mg : Str → Option Value} {base : Heap}
theorem sc_is_number : FnScope ["thing", "low", "high"] ["thing", "low", "high"] (defScope s_is_number) := ⟨rfl, rfl, rfl, by decide +kernel, rfl, by decide +kernel, by decide +kernel⟩
theorem ok_is_number {f : Addr} {fd : FuncData} (F : Fun K "is_number" "is_number" s_is_number f fd) (m_isinstance : mg "isinstance" = none) (m_int : mg "int" = none) (m_bool : mg "bool" = none) : FnOk P w K mg base CX0 1 f fd ["thing", "low", "high"] (spNumber K) := by
  refine F.ok sc_is_number (fun vs H Q E h => ?_) (fun cdv A outer s H vs Q E hr h => ?_)
  · obtain ⟨v, lo, hi, rfl, _⟩ := h; rfl
  · obtain ⟨v, lo, hi, rfl, h⟩ := h
    refine ⟨_, (pss_one (ps_ret (pe_and (pe_callB call_isi (by rfl) m_isinstance (by decide +kernel) (pa_cons (pv 0) (pa_cons (pe_bltn (v := .ty "int") (u := .type "int") rfl m_int (by decide +kernel) rfl) pa_nil))) (pe_and (pe_not (pe_callB call_isi (by rfl) m_isinstance (by decide +kernel) (pa_cons (pv 0) (pa_cons (pe_bltn (v := .ty "bool") (u := .type "bool") rfl m_bool (by decide +kernel) rfl) pa_nil)))) (pe_one (pe_chain op_le op_le (pv 1) (pv 0) (pv 2))))))), ?_⟩
    rcases h with ⟨i, rfl, k⟩ | ⟨b, rfl, k⟩ | ⟨t, ht, hk, k⟩
    · refine ⟨_, rfl, _, _, _, _, true, rfl, .ty _, .base (.int _), kit_ty (by decide +kernel), _, rfl, iteT ?_⟩
      refine ⟨_, rfl, _, _, _, _, false, rfl, .ty _, .base (.int _), kit_ty (by decide +kernel), _, rfl, _, rfl, iteT ?_⟩
      refine ⟨_, rfl, _, rfl, _, _, rfl, rfl, _, rfl, ite2 (fun h1 => ?_) (fun h1 => ?_)⟩
      · refine ⟨_, rfl, _, _, rfl, rfl, ?_⟩
        rw [h1] at k; exact k
      · rw [Bool.eq_false_iff.mpr h1] at k; exact k
    · refine ⟨_, rfl, _, _, _, _, true, rfl, .ty _, .base (.bl _), kit_ty (by decide +kernel), _, rfl, iteT ?_⟩
      refine ⟨_, rfl, _, _, _, _, true, rfl, .ty _, .base (.bl _), kit_ty (by decide +kernel), _, rfl, _, rfl, iteF ?_⟩
      exact k
    · refine ⟨_, rfl, _, _, _, _, false, rfl, .ty _, ht, hk, _, rfl, iteF ?_⟩
      exact k
theorem sc_is_word : FnScope ["thing", "sign"] ["thing"] (defScope s_is_word) := ⟨rfl, rfl, rfl, by decide +kernel, rfl, by decide +kernel, by decide +kernel⟩
theorem ok_is_word {f : Addr} {fd : FuncData} (F : Fun K "is_word" "is_word" s_is_word f fd) (m_isinstance : mg "isinstance" = none) (m_str : mg "str" = none) (m_len : mg "len" = none) (m_all : mg "all" = none)
    (g_MOST_LETTERS : ∃ u, mg "MOST_LETTERS" = some u ∧ RelV (.int 12) u) (g_LETTERS : ∃ u, mg "LETTERS" = some u ∧ RelV (.str letters) u) : FnOk P w K mg base CX0 1 f fd ["thing"] (spWord K) := by
  refine F.ok sc_is_word (fun vs H Q E h => ?_) (fun cdv A outer s H vs Q E hr h => ?_)
  · obtain ⟨v, rfl, _⟩ := h; rfl
  · obtain ⟨v, rfl, h⟩ := h
    refine ⟨_, (pss_cons (ps_if (PW.pt (pw_or (pt_not (pt_val (pe_callB call_isi (by rfl) m_isinstance (by decide +kernel) (pa_cons (pv 0) (pa_cons (pe_bltn (v := .ty "str") (u := .type "str") rfl m_str (by decide +kernel) rfl) pa_nil))))) (pw_or1 (pt_not (pt_chain op_le op_le pe_int (pe_callB call_len_str (by rfl) m_len (by decide +kernel) (pa_cons (pv 0) pa_nil)) (C8.pe_gc rfl g_MOST_LETTERS)))))) (pss_one (ps_ret pe_bl)) pss_nil)
      (pss_one (ps_ret (pe_callB (cr_all rfl) (by rfl) m_all (by decide +kernel) (pa_cons (pe_lc (own := [("sign", 1)]) (g := gName 1) (tt := tYes) rfl sc_is_word.nd (pi_str (pv 0)) (blkOk_by (own := [("sign", 1)]) (N := ["thing", "sign"]) (sc := defScope s_is_word) (by decide +kernel)) (fun _ _ _ _ _ => pg_name (i := 1) sc_is_word.nd rfl (Or.inl rfl)) (fun _ _ _ _ _ => pts_nil) (fun _ _ _ _ _ => (pe_cmpR op_in_sign (pv 1) (C8.pe_gc rfl g_LETTERS) rfl))) pa_nil))))), ?_⟩
    rcases h with ⟨z, rfl, hz, k⟩ | ⟨t, ht, hk, k⟩
    · refine ⟨_, rfl, _, _, _, _, true, rfl, .ty _, .base (.str _), kit_ty (by decide +kernel), _, rfl, iteF ?_⟩
      refine ⟨_, rfl, _, rfl, hz, _, _, rfl, rfl, _, rfl, ?_⟩
      have go : 1 ≤ z.length ∧ z.length ≤ 12 ∨ ¬ (1 ≤ z.length ∧ z.length ≤ 12) := Decidable.em _
      rcases go with h1 | h1
      · rw [decide_eq_true (by have := h1.1; omega : (1 : Int) ≤ (z.length : Int))]
        refine iteT ⟨_, _, rfl, rfl, _, rfl, ?_⟩
        rw [decide_eq_true (by have := h1.2; omega : (z.length : Int) ≤ 12)]
        refine iteF ?_
        -- all([..])
        refine ⟨_, rfl, _, rfl, fun D hD => ?_⟩
        refine lc_it walk_str (fun i H' => Same H H' ∧ ∃ bs : List Bool, H' D = some (.lst (bs.map V.bl)) ∧ bs = ((tl z).take i).map fun c => decide (c ∈ tl letters))
          ⟨Same.new hD, [], upd_same, by rw [List.take_zero]; rfl⟩ (fun _ _ _ _ => trivial) ?_ ?_
        · rintro i x H1 H2 hi ⟨s1, bs, e1, e2⟩ ⟨rfl, c, hc, rfl⟩
          have hc' : (tl z)[i]? = some c := by show z.cps.toList[i]? = _; rw [Array.getElem?_toList]; exact hc
          have hlen : bs.length ≤ 12 := by rw [e2, List.length_map]; exact Nat.le_trans (List.length_take_le' _ _) (by rw [← slen]; exact h1.2)
          refine ⟨rfl, _, rfl, c, _, rfl, rfl, _, e1, by rw [List.length_map]; exact small1000 (by omega), fun b o e => ?_, bs ++ [decide (c ∈ tl letters)], by rw [upd_same, List.map_append]; rfl, ?_⟩
          · rw [upd_ne (ne_of_none e hD)]; exact s1 _ _ e
          · rw [List.take_add_one, hc', e2, Option.toList_some, List.map_append]; rfl
        · rintro H1 ⟨s1, bs, e1, e2⟩
          refine ⟨D, bs, rfl, SqL.of e1, ?_⟩
          have e3 : bs.all id = isWB z := by
            rw [e2, show z.cps.size = (tl z).length from (Array.length_toList).symm, List.take_of_length_le (Nat.le_refl _), List.all_map]
            unfold isWB
            rw [decide_eq_true h1.1, decide_eq_true h1.2]; rfl
          rw [e3]; exact k _ s1
      · have e0 : isWB z = false := by
          unfold isWB
          rcases Nat.lt_or_ge z.length 1 with h | h
          · rw [decide_eq_false (by omega : ¬ 1 ≤ z.length)]; rfl
          · rw [decide_eq_false (fun q => h1 ⟨h, q⟩ : ¬ z.length ≤ 12), Bool.and_false]; rfl
        refine ite2 (fun h => ?_) (fun h => ?_)
        · have h' := of_decide_eq_true h
          refine ⟨_, _, rfl, rfl, _, rfl, ?_⟩
          rw [decide_eq_false (fun q => h1 ⟨by omega, by omega⟩ : ¬ (z.length : Int) ≤ 12)]
          refine iteT ?_
          have := k H (Same.refl H)
          rw [e0] at this; exact this
        · refine ⟨_, rfl, ?_⟩
          refine iteT ?_
          have := k H (Same.refl H)
          rw [e0] at this; exact this
    · refine ⟨_, rfl, _, _, _, _, false, rfl, .ty _, ht, hk, _, rfl, iteT ?_⟩
      exact iteT k
end
end KN


set_option Elab.async false
set_option linter.all false
set_option maxRecDepth 100000
/-! set(t) of a tuple of unlike texts, and how many it has: any number of texts (the layer's own rule takes one at most). -/
namespace KS
open PySem PySem.Spec PyProof.Rows
/-- what the set holds behind the first i texts -/
def Has (xs : List Str) (i : Nat) : Str → Bool := fun y => (xs.take i).any (· == y)
theorem has_zero (xs : List Str) (y : Str) : Has xs 0 y = false := rfl
theorem has_next {xs : List Str} {i : Nat} (h : i < xs.length) (y : Str) : Has xs (i + 1) y = (Has xs i y || decide (y = xs.getD i Str.empty)) := by
  unfold Has
  rw [List.take_add_one, List.getElem?_eq_getElem h, List.any_append, List.getD_eq_getElem?_getD, List.getElem?_eq_getElem h]
  show (_ || [xs[i]].any (· == y)) = (_ || decide (y = xs[i]))
  congr 1
  by_cases e : y = xs[i]
  · rw [e]; simp
  · rw [decide_eq_false e]
    have e2 : ¬ xs[i] = y := fun z => e z.symm
    simp [e2]
theorem has_new {xs : List Str} (nd : xs.Nodup) {i : Nat} (h : i < xs.length) : Has xs i (xs.getD i Str.empty) = false := by
  cases q : Has xs i (xs.getD i Str.empty) with
  | false => rfl
  | true =>
    obtain ⟨y, hy, e⟩ := List.any_eq_true.mp q
    have e := eq_of_beq e
    obtain ⟨j, hj, ej⟩ := List.getElem_of_mem hy
    rw [List.length_take] at hj
    rw [List.getElem_take] at ej
    rw [List.getD_eq_getElem?_getD, List.getElem?_eq_getElem h] at e
    exact absurd (ej.trans e) (List.pairwise_iff_getElem.mp nd j i (by omega) h (by omega))
section
variable {p : Program} {w : World} {B : Around} {Z : Result → Shared → Prop} {it : Addr} {seen wrote : List Addr} {J : Array GenState → Array GenState → Prop} {m : Nat} {Is : Nat → Value → Prop} {At : Nat → Shared → Prop}
/-- the loop that puts the texts in -/
theorem puts_in (walk : WalksS p w B.in1 it seen wrote J m Is At) (a : Addr) (ha : a ∉ seen) (xs : List Str) (hl : xs.length = m) (few : m ≤ 60) (nd : xs.Nodup) (txt : ∀ i v, Is i v → ∃ t, v = .str (xs.getD i Str.empty) t) :
    ∀ (left i : Nat) (s : Shared), m - i = left → i ≤ m → At i s → s.heap.SetOf (strKind p w) a (Has xs i) i →
      (∀ z, Moved (a :: wrote) J s z → z.heap.SetOf (strKind p w) a (Has xs m) m → Z (.ok (.ret .none)) z) → codeAny (model p w) B (.builtin "set.update.loop" ⟨[.ref a, .ref it], []⟩) Z s := by
  have aw : a ∉ wrote := fun h => ha (walk.sub _ h)
  have inn : ∀ b ∈ wrote, b ∈ a :: wrote := fun b => List.mem_cons_of_mem a
  have stays : ∀ {x z : Shared} {S : Str → Bool} {c : Nat}, Moved wrote J x z → x.heap.SetOf (strKind p w) a S c → z.heap.SetOf (strKind p w) a S c := fun mv q => by
    obtain ⟨o, es, ep, t, ho, r⟩ := q
    exact ⟨o, es, ep, t, mv.heap a _ aw ho, r⟩
  intro left
  induction left with
  | zero =>
    intro i s e hi st hs fin
    obtain rfl : i = m := by omega
    refine codeAny_builtin F.entry_set_update_loop ?_
    rw [Around.under_plainId F.plain_set_update_loop _]
    show wpAny _ B.in1 (pyNext (.ref it) >>= _) _ _ s
    exact wpAny_bind (walk.done s _ _ st fun z mv => wpAny_pure (fin z (mv.mono inn) (stays mv hs)))
  | succ left ih =>
    intro i s e hi st hs fin
    have lt : i < m := by omega
    refine codeAny_builtin F.entry_set_update_loop ?_
    rw [Around.under_plainId F.plain_set_update_loop _]
    show wpAny _ B.in1 (pyNext (.ref it) >>= _) _ _ s
    refine wpAny_bind (walk.item i s _ _ lt st fun v z pv st2 mv => ?_)
    obtain ⟨t, rfl⟩ := txt i v pv
    show wpAny _ B.in1 (holding [Value.str (xs.getD i Str.empty) t] (setAdd a (.str (xs.getD i Str.empty) t)) >>= _) _ _ z
    refine wpAny_bind (wpAny_holding ?_)
    unfold setAdd
    refine wpAny_holding (wpAny_bind ((strKind p w).pyHash (k := xs.getD i Str.empty) (strKind_is _ _ _ _) ?_))
    refine wpAny_setAddHashed_of (knd := strKind p w) (s := { z with toks := z.toks + 1 }) (strKind_is _ _ _ _) rfl (show z.heap.SetOf (strKind p w) a (Has xs i) i from stays mv hs) (by unfold scanBound; omega) fun h2 sb hs2 => ?_
    have hs3 : h2.SetOf (strKind p w) a (Has xs (i + 1)) (i + 1) := by
      refine SetOf_congr hs2 (fun y => (has_next (by omega) y).symm) ?_
      rw [has_new nd (by omega)]; rfl
    refine wpAny_pure ⟨plainId_quiet F.plain_set_update_loop _, ih (i + 1) _ (by omega) lt (walk.frame _ z _ _ st2 (Nat.le_succ _) fun b hb o eo => ?_) hs3 fun z2 mv2 hz2 => ?_⟩
    · rw [sb.2 b fun h => ha (h ▸ hb)]; exact eo
    · refine fin z2 (Moved.trans walk.gtrans ((mv.mono inn).then_heap (Nat.le_succ _) fun b o hb eo => ?_) mv2) hz2
      rw [sb.2 b fun h => hb (h ▸ List.mem_cons_self)]; exact eo
end
section
variable {p : Program} {w : World} {B : Around} {E : Value → Shared → Prop} {s : Shared}
set_option maxHeartbeats 3200000 in
/-- set(t), t a tuple of unlike texts -/
theorem set_tup {l : Addr} {its : Array Value} {xs : List Str} {Q : Value → Shared → Prop} (calm : B.handled = none) (tl : s.heap.IsTuple l its) (ts : StrsAre its.toList xs) (few : xs.length ≤ 60) (nd : xs.Nodup)
    (fin : ∀ (g : Heap) (tk : Nat), g.SetOf (strKind p w) s.heap.objs.size (Has xs xs.length) xs.length → (∀ b o, b < s.heap.objs.size → s.heap.get? b = some o → g.get? b = some o) → Q (.ref s.heap.objs.size) { s with heap := g, toks := tk }) :
    wpAny (model p w) B (call (.type "set") [.ref l]) Q E s := by
  have hlen : xs.length = its.size := by rw [← StrsAre.len_eq ts, Array.length_toList]
  obtain ⟨c0, t0, q0⟩ := PySem.F.called_set.mro
  have q1 := PySem.F.called_set.made
  have q2 := PySem.F.called_set.sub
  refine wpAny_call (codeAny_of_tree ?_)
  show wpAny _ _ (callAny (.type "set") _) _ _ _
  refine wpAny_pure ⟨Code.quiet_builtin _ (by decide +kernel), codeAny_builtin PySem.F.entry_type_call ?_⟩
  rw [Around.under_plain (weight_type_call_type "set" [.ref l] []) rfl]
  have q3 := PySem.F.called_set.notType
  have q4 := PySem.F.called_set.canCreate
  have q5 := PySem.F.typeCall_set_1 (.ref l)
  repeat (any_goals (first | assumption | wp_step))
  refine codeAny_mono (code_set_new_1 (.ref l) (E := E) (Q₁ := fun v z => ∃ led : Bool, v = .ref s.heap.objs.size ∧ z = { s with heap := s.heap.push { cls := .type "set", dict := none, data := .set #[] 0 (.fresh 0 0 led) } }) fun led => ⟨led, rfl, rfl⟩) fun r z hz => ?_
  rcases r with e | fl
  · exact hz
  cases fl
  case ret v =>
    obtain ⟨led, rfl, rfl⟩ := hz
    -- the new set at a, the tuple as it was
    have fresh : (s.heap.push { cls := .type "set", dict := none, data := .set #[] 0 (.fresh 0 0 led) }).get? s.heap.objs.size = some { cls := .type "set", dict := none, data := .set #[] 0 (.fresh 0 0 led) } := Heap.get?_push_size _ rfl
    have isSet : Shared.TypeIs { s with heap := s.heap.push { cls := .type "set", dict := none, data := .set #[] 0 (.fresh 0 0 led) } } (.ref s.heap.objs.size) "set" := ⟨_, fresh, rfl⟩
    have q6 := PySem.F.called_set.init.lookup
    have q7 := PySem.F.called_set.init.bind (.ref s.heap.objs.size)
    have tl2 : (s.heap.push { cls := .type "set", dict := none, data := .set #[] 0 (.fresh 0 0 led) }).IsTuple l its := tl.push _
    have below : l < s.heap.objs.size := let ⟨_, h, _⟩ := tl; Heap.lt_size h
    repeat (any_goals (first | assumption | wp_step))
    refine codeAny_mono (codeAny_call_builtin (R := wants (fun v z => v = .none ∧ ∃ g tk, z = { s with heap := g, toks := tk } ∧ g.SetOf (strKind p w) s.heap.objs.size (Has xs xs.length) xs.length ∧
      ∀ b o, b < s.heap.objs.size → s.heap.get? b = some o → g.get? b = some o) E) PySem.F.called_set.init.plain PySem.F.entry_set_init (check_set_init_1 isSet ?_)) fun r z hz => ?_
    · obtain ⟨⟨c, dd, dt, sl⟩, hol, hc, nl, hd⟩ := tl
      simp only at hc hd
      subst hc
      subst hd
      have q8 := PySem.F.sub_tuple_set
      have q9 := PySem.F.sub_tuple_frozenset
      have qa : (Value.type "tuple" == Value.type "dict") = false := by decide
      have seenL : (s.heap.push { cls := .type "set", dict := none, data := .set #[] 0 (.fresh 0 0 led) }).get? l = some { cls := .type "tuple", dict := dd, data := .seq its nl, slots := sl } := Heap.get?_push_of_some _ hol
      unfold Builtin.«set.__init__» noKeywords Builtin.Frozenset.updateFrom
      generalize hIt : pyIter = It
      wp_walk
      subst hIt
      refine wpAny_pyIter_tuple tl2 (wpAny_bind (wpAny_runValue ?_))
      have szP : (s.heap.push { cls := .type "set", dict := none, data := .set #[] 0 (.fresh 0 0 led) }).objs.size = s.heap.objs.size + 1 := Heap.size_push ..
      have lI : l ≠ (s.heap.push { cls := .type "set", dict := none, data := .set #[] 0 (.fresh 0 0 led) }).objs.size := by rw [szP]; exact Nat.ne_of_lt (Nat.lt_succ_of_lt below)
      have aOut : s.heap.objs.size ∉ [(s.heap.push { cls := .type "set", dict := none, data := .set #[] 0 (.fresh 0 0 led) }).objs.size, l] := by
        rw [szP]
        intro h
        rcases List.mem_cons.mp h with e | h
        · exact absurd e (Nat.ne_of_lt (Nat.lt_succ_self _))
        · exact absurd (List.mem_singleton.mp h).symm (Nat.ne_of_lt below)
      have txt : ∀ (i : Nat) (v : Value), its[i]? = some v → ∃ t, v = .str (xs.getD i Str.empty) t := fun i v hv => SS.strs_at ts i v (by rw [Array.getElem?_toList]; exact hv)
      have quiet3 : B.in1.in1.in1.handled = none := by simp [calm]
      refine puts_in ((Walks.tuple quiet3 _ l lI its).toS) s.heap.objs.size aOut xs hlen (by omega) nd txt (its.size - 0) 0 _ rfl (Nat.zero_le _) ⟨⟨_, Heap.get?_push_size _ rfl, rfl, rfl⟩, tl2.push _⟩ ?_ ?_
      · have kept : ((s.heap.push { cls := .type "set", dict := none, data := .set #[] 0 (.fresh 0 0 led) }).push { cls := .type "tuple_iterator", data := .fields #[.ref l, .int 0 0] }).get? s.heap.objs.size = some { cls := .type "set", dict := none, data := .set #[] 0 (.fresh 0 0 led) } := Heap.get?_push_of_some _ fresh
        exact SetOf_congr ((setObjOf_fresh (knd := strKind p w) led).setOf kept (by unfold scanBound; omega)) (fun _ => rfl) rfl
      · rintro ⟨g, gn, dr, tk, os⟩ mv hg
        obtain rfl : gn = s.gens := mv.gens
        obtain rfl : dr = s.drawn := mv.drawn
        obtain rfl : os = s.os := mv.os
        show wpAny _ _ _ _ _ _
        refine wpAny_pure ?_
        show wpAny _ _ (ret Value.none) _ _ _
        refine wpAny_pure ⟨rfl, g, tk, rfl, by rw [hlen]; exact hg, fun b o hb e => ?_⟩
        refine mv.heap b o (fun h => ?_) (Heap.get?_push_of_some _ (Heap.get?_push_of_some _ e))
        rcases List.mem_cons.mp h with e2 | h
        · exact absurd e2 (Nat.ne_of_lt hb)
        · have e3 := List.mem_singleton.mp h
          rw [szP] at e3
          exact absurd e3 (Nat.ne_of_lt (Nat.lt_succ_of_lt hb))
    · rcases r with e | fl
      · exact hz
      cases fl
      case ret v =>
        obtain ⟨rfl, g, tk, rfl, hg, hk⟩ := hz
        repeat (any_goals (first | assumption | wp_step))
        exact fin _ _ hg hk
      all_goals exact hz.elim
  all_goals exact hz.elim
end
end KS
namespace KN
open PySem PySem.Spec PyProof.Rows L2
/-- len(set(t)), t a tuple of unlike texts -/
def tLenSetT (K : PySem.W.Frag) (ta : TE) : TE := fun σ H Q => ta σ H fun x H1 => ∃ l, ∃ ss : List Str, x = .ref l ∧ SqT K H1 l (ss.map V.str) ∧ ss.length ≤ 60 ∧ ss.Nodup ∧ Q (.int ss.length) H1
theorem pe_lenSetT {X : Cx} {a : Expr} {ta : TE} {p p2 q pos : Pos} (calm : X.calm = true) (g1 : Gl X "len") (m1 : X.mg "len" = none) (g2 : Gl X "set") (m2 : X.mg "set" = none) (ha : PE X a ta)
    (one : starEach [a] X.env = (false, eval a X.env) :: starEach [] X.env := by rfl) : PE X (.Call (.Name "len" p) [.Call (.Name "set" p2) [a] [] q] [] pos) (tLenSetT X.K ta) := ⟨fun pins s σ H Q I h => by
  refine Call_ (ld_blt I g1 m1 boot_len (callWith_builtin1 (args_cons ?_ rfl) rfl rfl))
  refine Call_ (ld_blt I g2 m2 boot_set (callWith_type1 (args_cons (thn (ha.run pins s σ H _ I h) fun v z ⟨x, H1, J, rx, k⟩ => args_nil ?_) one) one rfl))
  obtain ⟨l, ss, rfl, sq, few, nd, k⟩ := k
  obtain rfl : v = Value.ref l := rx
  obtain ⟨its, r, pl, _⟩ := J.tuple sq
  refine KS.set_tup (J.ok.hd calm) pl (by simpa using strsAre_of r) few nd fun g tk hs keep => args_nil ?_
  obtain ⟨o, es, ep, t, ho, hex, hd, _, _, _, hf, hn⟩ := hs
  have J2 : Inv X pins σ H1 { z with heap := g, toks := tk } := J.kept fun b o e => keep b o (Heap.lt_size e) e
  exact call_len_set ho hex hd hf (by rw [hn] <;> omega) ⟨.int ss.length, H1, J2.tok _, ⟨_, by rw [hn]⟩, k⟩⟩
end KN

set_option Elab.async false
set_option linter.all false
set_option maxRecDepth 100000
set_option maxHeartbeats 4000000
namespace KN
open PySem L2
section
variable {P : Program} {w : World} {K : PySem.W.Frag} {mg : Str → Option Value} {base : Heap}
theorem sc_is_list : FnScope ["thing"] ["thing"] (defScope s_is_list) := ⟨rfl, rfl, rfl, by decide +kernel, rfl, by decide +kernel, by decide +kernel⟩
theorem ok_is_list {f : Addr} {fd : FuncData} (F : Fun K "is_list" "is_list" s_is_list f fd) (m_isinstance : mg "isinstance" = none) (m_tuple : mg "tuple" = none) (m_list : mg "list" = none) : FnOk P w K mg base CX0 1 f fd ["thing"] spList := by
  refine F.ok sc_is_list (fun vs H Q E h => ?_) (fun cdv A outer s H vs Q E hr h => ?_)
  · obtain ⟨a, rfl, _⟩ := h; rfl
  · obtain ⟨a, rfl, ha, k⟩ := h
    refine ⟨_, (pss_one (ps_ret (pe_callB call_isiT (by rfl) m_isinstance (by decide +kernel) (pa_cons (pv 0) (pa_cons (pe_tup (pa_cons (pe_bltn (v := .ty "list") (u := .type "list") rfl m_list (by decide +kernel) rfl) (pa_cons (pe_bltn (v := .ty "tuple") (u := .type "tuple") rfl m_tuple (by decide +kernel) rfl) pa_nil))) pa_nil))))), ?_⟩
    refine ⟨_, rfl, by show 2 ≤ sizeLine; decide, fun T hT => ?_⟩
    rcases ha with ⟨xs, ha⟩ | ⟨xs, ha⟩
    · refine ⟨_, T, _, _, _, true, rfl, upd_same, .cons (.ty _) (.cons (.ty _) .nil), .base (.tup (by rw [upd_ne (ne_of_none ha hT)]; exact ha)), kitAny_cons (kit_ty (b := "list") (r := false) (by decide +kernel)) (fun _ => kitAny_cons (kit_ty (b := "tuple") (r := true) (by decide +kernel)) (fun z => by cases z) fun _ => rfl) (fun z => by cases z), k _ (Same.new hT)⟩
    · refine ⟨_, T, _, _, _, true, rfl, upd_same, .cons (.ty _) (.cons (.ty _) .nil), .base (.lst (by rw [upd_ne (ne_of_none ha hT)]; exact ha)), kitAny_cons (kit_ty (b := "list") (r := true) (by decide +kernel)) (fun z => by cases z) (fun _ => rfl), k _ (Same.new hT)⟩
theorem sc_are_sheets : FnScope ["thing", "sheet"] ["thing"] (defScope s_are_sheets) := ⟨rfl, rfl, rfl, by decide +kernel, rfl, by decide +kernel, by decide +kernel⟩
theorem ok_are_sheets {f : Addr} {fd : FuncData} (F : Fun K "are_sheets" "are_sheets" s_are_sheets f fd) (m_len : mg "len" = none) (m_set : mg "set" = none) (m_all : mg "all" = none)
    (c_is_list : C8.Cal P w K mg base 1 "is_list" spList []) (c_is_word : C8.Cal P w K mg base 1 "is_word" (spWord K) []) : FnOk P w K mg base CX0 2 f fd ["thing"] spSheets := by
  refine F.ok sc_are_sheets (fun vs H Q E h => ?_) (fun cdv A outer s H vs Q E hr h => ?_)
  · obtain ⟨a, z, rfl, _⟩ := h; rfl
  · obtain ⟨a, ss, rfl, ha, ⟨hne, hl, hnd, hz⟩, k⟩ := h
    refine ⟨_, (pss_cons (ps_if (PW.pt (pw_or (pt_not (pt_val (C8.pe_c c_is_list hr (by decide) rfl (pa_cons (pv 0) pa_nil)))) (pw_or (pt_cmpR op_eq (pe_callB call_len_seq (by rfl) m_len (by decide +kernel) (pa_cons (pv 0) pa_nil)) pe_int (nomark _)) (pw_or1 (pt_not (pt_val (pe_callB (cr_all rfl) (by rfl) m_all (by decide +kernel) (pa_cons (pe_lc (own := [("sheet", 1)]) (g := gName 1) (tt := tYes) rfl sc_are_sheets.nd (pi_tup (pv 0)) (blkOk_by (own := [("sheet", 1)]) (N := ["thing", "sheet"]) (sc := defScope s_are_sheets) (by decide +kernel)) (fun _ _ _ _ _ => pg_name (i := 1) sc_are_sheets.nd rfl (Or.inl rfl)) (fun _ _ _ _ _ => pts_nil) (fun _ _ _ _ _ => (C8.pe_c c_is_word hr (by decide) rfl (pa_cons (pv 1) pa_nil)))) pa_nil)))))))) (pss_one (ps_ret pe_bl)) pss_nil)
      (pss_one (ps_ret (pe_cmpR op_eq (pe_lenSetT rfl rfl m_len rfl m_set (pv 0)) (pe_callB call_len_seq (by rfl) m_len (by decide +kernel) (pa_cons (pv 0) pa_nil)) (nomark _))))), ?_⟩
    have hpos : 0 < ss.length := List.length_pos_iff.mpr hne
    refine ⟨_, rfl, a, rfl, .inl ⟨_, ha⟩, fun H1 s1 => ?_⟩
    refine ⟨_, rfl, iteF ?_⟩
    refine ⟨_, rfl, _, _, rfl, .inr (SqT.of (s1 _ _ ha)), rfl, _, rfl, ?_⟩
    rw [decide_eq_false (fun z => by injection z with z; rw [List.length_map] at z; omega)]
    refine iteF ?_
    refine ⟨_, rfl, a, rfl, ⟨_, SqT.of (s1 _ _ ha)⟩, fun D hD => ?_⟩
    refine lc_tup (K := K) (a := a) (xs := ss.map V.str) (fun i H' => Same H1 H' ∧ ∃ bs : List Bool, H' D = some (.lst (bs.map V.bl)) ∧ bs.length = i ∧ bs.all id = true)
      ⟨Same.new hD, [], upd_same, rfl, rfl⟩ (fun i H' _ q => SqT.of (q.1 _ _ (s1 _ _ ha))) ?_ ?_
    · rintro i x H2 hi ⟨s2, bs, e2, l2, a2⟩
      rw [List.getElem?_map] at hi
      obtain ⟨z, hz1, rfl⟩ : ∃ z, ss[i]? = some z ∧ x = .str z := by
        cases e : ss[i]? with
        | none => rw [e] at hi; cases hi
        | some z => rw [e] at hi; exact ⟨z, rfl, (Option.some.inj hi).symm⟩
      have hw := hz z (List.mem_of_getElem? hz1)
      have hlt : i < ss.length := (List.getElem?_eq_some_iff.mp hz1).1
      refine ⟨rfl, _, rfl, _, rfl, .inl ⟨z, rfl, by rw [slen]; exact Nat.le_trans hw.2.1 (by decide), fun H3 s3 => ?_⟩⟩
      rw [isWB_iff.mpr hw]
      refine ⟨_, s3 _ _ e2, by rw [List.length_map, l2]; exact small1000 (by omega), fun b o e => ?_, bs ++ [true], by rw [upd_same, List.map_append]; rfl, by rw [List.length_append, l2]; rfl, by rw [List.all_append, a2]; rfl⟩
      rw [upd_ne (ne_of_none e hD)]; exact s3 _ _ (s2 _ _ e)
    · rintro H2 ⟨s2, bs, e2, l2, a2⟩
      refine ⟨D, bs, rfl, SqL.of e2, _, rfl, ?_⟩
      rw [a2]
      refine iteF ?_
      refine ⟨_, rfl, a, ss, rfl, SqT.of (s2 _ _ (s1 _ _ ha)), hl, hnd, ?_⟩
      refine ⟨_, rfl, _, _, rfl, .inr (SqT.of (s2 _ _ (s1 _ _ ha))), rfl, ?_⟩
      have e : decide (V.int (ss.length : Int) = V.int ((ss.map V.str).length : Int)) = true := decide_eq_true (by rw [List.length_map])
      show Q (.bl (decide (V.int (ss.length : Int) = V.int ((ss.map V.str).length : Int)))) H2
      rw [e]
      exact k _ (s1.trans s2)
end
end KN


set_option Elab.async false
set_option linter.all false
set_option maxRecDepth 100000
/-! The same of a list of unlike texts. -/
namespace KS
open PySem PySem.Spec PyProof.Rows
section
variable {p : Program} {w : World} {B : Around} {E : Value → Shared → Prop} {s : Shared}
set_option maxHeartbeats 3200000 in
/-- set(t), t a list of unlike texts -/
theorem set_lst {l : Addr} {its : Array Value} {xs : List Str} {Q : Value → Shared → Prop} (calm : B.handled = none) (tl : s.heap.IsList l its) (ts : StrsAre its.toList xs) (few : xs.length ≤ 60) (nd : xs.Nodup)
    (fin : ∀ (g : Heap) (tk : Nat), g.SetOf (strKind p w) s.heap.objs.size (Has xs xs.length) xs.length → (∀ b o, b < s.heap.objs.size → s.heap.get? b = some o → g.get? b = some o) → Q (.ref s.heap.objs.size) { s with heap := g, toks := tk }) :
    wpAny (model p w) B (call (.type "set") [.ref l]) Q E s := by
  have hlen : xs.length = its.size := by rw [← StrsAre.len_eq ts, Array.length_toList]
  obtain ⟨c0, t0, q0⟩ := PySem.F.called_set.mro
  have q1 := PySem.F.called_set.made
  have q2 := PySem.F.called_set.sub
  refine wpAny_call (codeAny_of_tree ?_)
  show wpAny _ _ (callAny (.type "set") _) _ _ _
  refine wpAny_pure ⟨Code.quiet_builtin _ (by decide +kernel), codeAny_builtin PySem.F.entry_type_call ?_⟩
  rw [Around.under_plain (weight_type_call_type "set" [.ref l] []) rfl]
  have q3 := PySem.F.called_set.notType
  have q4 := PySem.F.called_set.canCreate
  have q5 := PySem.F.typeCall_set_1 (.ref l)
  repeat (any_goals (first | assumption | wp_step))
  refine codeAny_mono (code_set_new_1 (.ref l) (E := E) (Q₁ := fun v z => ∃ led : Bool, v = .ref s.heap.objs.size ∧ z = { s with heap := s.heap.push { cls := .type "set", dict := none, data := .set #[] 0 (.fresh 0 0 led) } }) fun led => ⟨led, rfl, rfl⟩) fun r z hz => ?_
  rcases r with e | fl
  · exact hz
  cases fl
  case ret v =>
    obtain ⟨led, rfl, rfl⟩ := hz
    -- the new set at a, the list as it was
    have fresh : (s.heap.push { cls := .type "set", dict := none, data := .set #[] 0 (.fresh 0 0 led) }).get? s.heap.objs.size = some { cls := .type "set", dict := none, data := .set #[] 0 (.fresh 0 0 led) } := Heap.get?_push_size _ rfl
    have isSet : Shared.TypeIs { s with heap := s.heap.push { cls := .type "set", dict := none, data := .set #[] 0 (.fresh 0 0 led) } } (.ref s.heap.objs.size) "set" := ⟨_, fresh, rfl⟩
    have q6 := PySem.F.called_set.init.lookup
    have q7 := PySem.F.called_set.init.bind (.ref s.heap.objs.size)
    have tl2 : (s.heap.push { cls := .type "set", dict := none, data := .set #[] 0 (.fresh 0 0 led) }).IsList l its := tl.push _
    have below : l < s.heap.objs.size := let ⟨_, h, _⟩ := tl; Heap.lt_size h
    repeat (any_goals (first | assumption | wp_step))
    refine codeAny_mono (codeAny_call_builtin (R := wants (fun v z => v = .none ∧ ∃ g tk, z = { s with heap := g, toks := tk } ∧ g.SetOf (strKind p w) s.heap.objs.size (Has xs xs.length) xs.length ∧
      ∀ b o, b < s.heap.objs.size → s.heap.get? b = some o → g.get? b = some o) E) PySem.F.called_set.init.plain PySem.F.entry_set_init (check_set_init_1 isSet ?_)) fun r z hz => ?_
    · obtain ⟨⟨c, dd, dt, sl⟩, hol, hc, nl, hd⟩ := tl
      simp only at hc hd
      subst hc
      subst hd
      have q8 := PySem.F.sub_list_set
      have q9 := PySem.F.sub_list_frozenset
      have qa : (Value.type "list" == Value.type "dict") = false := by decide
      have seenL : (s.heap.push { cls := .type "set", dict := none, data := .set #[] 0 (.fresh 0 0 led) }).get? l = some { cls := .type "list", dict := dd, data := .seq its nl, slots := sl } := Heap.get?_push_of_some _ hol
      unfold Builtin.«set.__init__» noKeywords Builtin.Frozenset.updateFrom
      generalize hIt : pyIter = It
      wp_walk
      subst hIt
      refine wpAny_pyIter_list tl2 (wpAny_bind (wpAny_runValue ?_))
      have szP : (s.heap.push { cls := .type "set", dict := none, data := .set #[] 0 (.fresh 0 0 led) }).objs.size = s.heap.objs.size + 1 := Heap.size_push ..
      have lI : l ≠ (s.heap.push { cls := .type "set", dict := none, data := .set #[] 0 (.fresh 0 0 led) }).objs.size := by rw [szP]; exact Nat.ne_of_lt (Nat.lt_succ_of_lt below)
      have aOut : s.heap.objs.size ∉ [(s.heap.push { cls := .type "set", dict := none, data := .set #[] 0 (.fresh 0 0 led) }).objs.size, l] := by
        rw [szP]
        intro h
        rcases List.mem_cons.mp h with e | h
        · exact absurd e (Nat.ne_of_lt (Nat.lt_succ_self _))
        · exact absurd (List.mem_singleton.mp h).symm (Nat.ne_of_lt below)
      have txt : ∀ (i : Nat) (v : Value), its[i]? = some v → ∃ t, v = .str (xs.getD i Str.empty) t := fun i v hv => SS.strs_at ts i v (by rw [Array.getElem?_toList]; exact hv)
      have quiet3 : B.in1.in1.in1.handled = none := by simp [calm]
      refine puts_in ((Walks.list quiet3 _ l lI its).toS) s.heap.objs.size aOut xs hlen (by omega) nd txt (its.size - 0) 0 _ rfl (Nat.zero_le _) ⟨⟨_, Heap.get?_push_size _ rfl, rfl, rfl⟩, tl2.push _⟩ ?_ ?_
      · have kept : ((s.heap.push { cls := .type "set", dict := none, data := .set #[] 0 (.fresh 0 0 led) }).push { cls := .type "list_iterator", data := .fields #[.ref l, .int 0 0] }).get? s.heap.objs.size = some { cls := .type "set", dict := none, data := .set #[] 0 (.fresh 0 0 led) } := Heap.get?_push_of_some _ fresh
        exact SetOf_congr ((setObjOf_fresh (knd := strKind p w) led).setOf kept (by unfold scanBound; omega)) (fun _ => rfl) rfl
      · rintro ⟨g, gn, dr, tk, os⟩ mv hg
        obtain rfl : gn = s.gens := mv.gens
        obtain rfl : dr = s.drawn := mv.drawn
        obtain rfl : os = s.os := mv.os
        show wpAny _ _ _ _ _ _
        refine wpAny_pure ?_
        show wpAny _ _ (ret Value.none) _ _ _
        refine wpAny_pure ⟨rfl, g, tk, rfl, by rw [hlen]; exact hg, fun b o hb e => ?_⟩
        refine mv.heap b o (fun h => ?_) (Heap.get?_push_of_some _ (Heap.get?_push_of_some _ e))
        rcases List.mem_cons.mp h with e2 | h
        · exact absurd e2 (Nat.ne_of_lt hb)
        · have e3 := List.mem_singleton.mp h
          rw [szP] at e3
          exact absurd e3 (Nat.ne_of_lt (Nat.lt_succ_of_lt hb))
    · rcases r with e | fl
      · exact hz
      cases fl
      case ret v =>
        obtain ⟨rfl, g, tk, rfl, hg, hk⟩ := hz
        repeat (any_goals (first | assumption | wp_step))
        exact fin _ _ hg hk
      all_goals exact hz.elim
  all_goals exact hz.elim
end
end KS
namespace KN
open PySem PySem.Spec PyProof.Rows L2
/-- len(set(t)), t a list of unlike texts -/
def tLenSetL (K : PySem.W.Frag) (ta : TE) : TE := fun σ H Q => ta σ H fun x H1 => ∃ l, ∃ ss : List Str, x = .ref l ∧ SqL K H1 l (ss.map V.str) ∧ ss.length ≤ 60 ∧ ss.Nodup ∧ Q (.int ss.length) H1
theorem pe_lenSetL {X : Cx} {a : Expr} {ta : TE} {p p2 q pos : Pos} (calm : X.calm = true) (g1 : Gl X "len") (m1 : X.mg "len" = none) (g2 : Gl X "set") (m2 : X.mg "set" = none) (ha : PE X a ta)
    (one : starEach [a] X.env = (false, eval a X.env) :: starEach [] X.env := by rfl) : PE X (.Call (.Name "len" p) [.Call (.Name "set" p2) [a] [] q] [] pos) (tLenSetL X.K ta) := ⟨fun pins s σ H Q I h => by
  refine Call_ (ld_blt I g1 m1 boot_len (callWith_builtin1 (args_cons ?_ rfl) rfl rfl))
  refine Call_ (ld_blt I g2 m2 boot_set (callWith_type1 (args_cons (thn (ha.run pins s σ H _ I h) fun v z ⟨x, H1, J, rx, k⟩ => args_nil ?_) one) one rfl))
  obtain ⟨l, ss, rfl, sq, few, nd, k⟩ := k
  obtain rfl : v = Value.ref l := rx
  obtain ⟨its, r, pl, _⟩ := J.list sq
  refine KS.set_lst (J.ok.hd calm) pl.isList (by simpa using strsAre_of r) few nd fun g tk hs keep => args_nil ?_
  obtain ⟨o, es, ep, t, ho, hex, hd, _, _, _, hf, hn⟩ := hs
  have J2 : Inv X pins σ H1 { z with heap := g, toks := tk } := J.kept fun b o e => keep b o (Heap.lt_size e) e
  exact call_len_set ho hex hd hf (by rw [hn] <;> omega) ⟨.int ss.length, H1, J2.tok _, ⟨_, by rw [hn]⟩, k⟩⟩
end KN

set_option Elab.async false
set_option linter.all false
set_option maxRecDepth 100000
set_option maxHeartbeats 4000000
namespace KN
open PySem PySem.Spec PyProof.Rows L2
/-! ### t > u of two moments -/
def rGtM (K : PySem.W.Frag) : R2 := fun x y H Q => ∃ (a b : Addr) (m u : Mo), x = .ref a ∧ y = .ref b ∧ SqT K H a [.int m.1, .int m.2] ∧ SqT K H b [.int u.1, .int u.2] ∧ Q (.bl (decide (mLt u m))) H
theorem gt2 (m u : Mo) : Ob.lexAt (fun j => decide (([m.1, m.2] : List Int).getD j 0 = ([u.1, u.2] : List Int).getD j 0)) (fun j => decide (([u.1, u.2] : List Int).getD j 0 < ([m.1, m.2] : List Int).getD j 0)) (decide (([m.1, m.2] : List Int).length > ([u.1, u.2] : List Int).length)) 0 (min ([m.1, m.2] : List Int).length ([u.1, u.2] : List Int).length) = decide (mLt u m) := by
  show Ob.lexAt _ _ _ 0 2 = _
  rw [Ob.lexAt_succ, Ob.lexAt_succ, Ob.lexAt_zero]
  simp only [List.getD_cons_zero, List.getD_cons_succ, List.length_cons, List.length_nil]
  unfold mLt
  by_cases h1 : m.1 = u.1
  · rw [decide_eq_true h1, if_pos rfl]
    by_cases h2 : m.2 = u.2
    · rw [decide_eq_true h2, if_pos rfl]
      rw [decide_eq_false (by omega : ¬ (0 + 1 + 1 > 0 + 1 + 1))]
      exact (decide_eq_false (by omega)).symm
    · rw [decide_eq_false h2, if_neg (by decide)]
      by_cases h3 : u.2 < m.2
      · rw [decide_eq_true h3]; exact (decide_eq_true (by omega)).symm
      · rw [decide_eq_false h3]; exact (decide_eq_false (by omega)).symm
  · rw [decide_eq_false h1, if_neg (by decide)]
    by_cases h3 : u.1 < m.1
    · rw [decide_eq_true h3]; exact (decide_eq_true (by omega)).symm
    · rw [decide_eq_false h3]; exact (decide_eq_false (by omega)).symm
theorem op_gtM {X : Cx} (hu : X.A.units < cLine) : OpR X (compareOp .Gt) (rGtM X.K) := by
  intro pins s σ H x y v u Q I rx ry h
  obtain ⟨a, b, m, um, rfl, rfl, ha', hb', q⟩ := h
  have ha : SqT X.K H a (([m.1, m.2] : List Int).map V.int) := ha'
  have hb : SqT X.K H b (([um.1, um.2] : List Int).map V.int) := hb'
  rw [← gt2] at q
  generalize ([m.1, m.2] : List Int) = ns at ha q
  generalize ([um.1, um.2] : List Int) = ms at hb q
  cases rx
  cases ry
  obtain ⟨its, r1, p1, _⟩ := I.tuple ha
  obtain ⟨its2, r2, p2, _⟩ := I.tuple hb
  have i1 : IntsAre its ns := Vals.ints r1
  have i2 : IntsAre its2 ms := Vals.ints r2
  have e1 : its.toArray.size = ns.length := by rw [List.size_toArray]; exact i1.length
  have e2 : its2.toArray.size = ms.length := by rw [List.size_toArray]; exact i2.length
  have at1 : ∀ j (h1 : j < its.toArray.size), ∃ t, its.toArray[j] = .int (ns.getD j 0) t := fun j h1 => PyProof.Rows.IntsAre.int_at i1 _ _ (by simp at h1; simp [h1])
  have at2 : ∀ j (h1 : j < its2.toArray.size), ∃ t, its2.toArray[j] = .int (ms.getD j 0) t := fun j h1 => PyProof.Rows.IntsAre.int_at i2 _ _ (by simp at h1; simp [h1])
  have R := Ob.RcOp.tuples_gt (A := X.A) (s := s) (e := fun j => decide (ns.getD j 0 = ms.getD j 0)) (r := fun j => decide (ms.getD j 0 < ns.getD j 0)) p1 p2 hu (fun j h1 h2 => by
    obtain ⟨t, et⟩ := at1 j h1
    obtain ⟨t', et'⟩ := at2 j h2
    rw [et, et']
    have z : (ns.getD j 0 == ms.getD j 0) = decide (ns.getD j 0 = ms.getD j 0) := by
      by_cases q : ns.getD j 0 = ms.getD j 0
      · rw [decide_eq_true q]; exact beq_iff_eq.mpr q
      · rw [decide_eq_false q]; exact beq_eq_false_iff_ne.mpr q
    rw [← z]
    exact SeqAt.EqAt.int_int _ _ _ _) (fun j h1 h2 _ => by
    obtain ⟨t, et⟩ := at1 j h1
    obtain ⟨t', et'⟩ := at2 j h2
    rw [et, et']
    exact Ob.RcOp.gt_int _ _ _ _)
  rw [e1, e2] at R
  have z : wpAny (model X.prog X.w) X.A (compareOp .Gt (.ref a) (.ref b)) (EP X pins σ Q) X.xe s := R X.prog X.w X.xe (EP X pins σ Q) ⟨.bl _, H, I, rfl, q⟩
  exact z
end KN
namespace KN
open PySem PySem.Spec PyProof.Rows L2
/-! ### the same rules with the written part by name: for a comprehension's block -/
section
variable {X : Cx}
theorem pe_fldK (K : PySem.W.Frag) {e : Expr} {f : Str} {pos : Pos} {ta : TE} (he : PE X e ta) (hb : attributeBase e f X.env (eval e X.env) = eval e X.env) (h : X.K = K := by rfl) : PE X (.Attribute e f pos) (tFld K ta f) := by
  subst h; exact pe_fld he hb
theorem ix_tupK (K : PySem.W.Frag) (h : X.K = K := by rfl) : IxR X (rIxT K) := by subst h; exact ix_tup
theorem ix_listK (K : PySem.W.Frag) (h : X.K = K := by rfl) : IxR X (rIxL K) := by subst h; exact ix_list
theorem sl_tupAK (K : PySem.W.Frag) (h : X.K = K := by rfl) : SlR X (rSlA K) := by subst h; exact sl_tupA
theorem op_eqDK (K : PySem.W.Frag) (hu : X.A.units + 64 < cLine) (h : X.K = K := by rfl) : OpR X (compareOp .Eq) (rEqD K) := by subst h; exact op_eqD hu
theorem op_inDK (K : PySem.W.Frag) (hu : X.A.units + 65 < cLine) (h : X.K = K := by rfl) : OpR X (compareOp .In) (rInD K) := by subst h; exact op_inD hu
theorem op_notInDK (K : PySem.W.Frag) (hu : X.A.units + 65 < cLine) (h : X.K = K := by rfl) : OpR X (compareOp .NotIn) (rNotInD K) := by subst h; exact op_notInD hu
theorem op_leTK (K : PySem.W.Frag) (hu : X.A.units < cLine) (h : X.K = K := by rfl) : OpR X (compareOp .LtE) (rLeT K) := by subst h; exact op_leT hu
theorem op_ltTK (K : PySem.W.Frag) (hu : X.A.units < cLine) (h : X.K = K := by rfl) : OpR X (compareOp .Lt) (rLtT K) := by subst h; exact op_ltT hu
end
theorem u65 {k : Nat} {A : Around} (r : Room k A) : A.units + 65 < cLine := by have := r.un; omega
end KN

set_option Elab.async false
set_option linter.all false
set_option maxRecDepth 100000
set_option maxHeartbeats 4000000
/-! Own rules for dicts whose keys are nodes (a number and a text): walks over their pairs, their keys sorted. -/
namespace KN
open PySem PySem.Spec PyProof.Rows L2
/-- a node; its data, its key -/
abbrev Nd := Int × Str
def nD (n : Nd) : PyData := .tuple [.int n.1, .str n.2]
def nK (n : Nd) : List Key := [.inl n.1, .inr n.2]
theorem nK_inj {a b : Nd} (h : nK a = nK b) : a = b := by
  unfold nK at h
  injection h with h1 h2
  injection h2 with h2 _
  exact Prod.ext (Sum.inl.inj h1) (Sum.inr.inj h2)
theorem nD_inj {a b : Nd} (h : nD a = nD b) : a = b := by
  unfold nD at h
  injection h with h
  injection h with h1 h2
  injection h2 with h2 _
  injection h1 with h1
  injection h2 with h2
  exact Prod.ext h1 h2
def NdA (H : Hp) (a : Addr) (n : Nd) : Prop := H a = some (.tup [.int n.1, .str n.2])
theorem Tp.nd {H : Hp} {a : Addr} {n : Nd} (h : NdA H a n) : Tp H (.ref a) (nD n) := .tup h (.cons (.int _) (.cons (.str _) .nil))
theorem Tp.nd_inv {H : Hp} {v : V} {n : Nd} (h : Tp H v (nD n)) : ∃ a, v = .ref a ∧ NdA H a n := by
  obtain ⟨a, xs, rfl, e, r⟩ := Tp.inv h
  cases r with
  | cons h1 r =>
    cases r with
    | cons h2 r =>
      cases r
      cases h1
      cases h2
      exact ⟨a, rfl, e⟩
theorem DGet.n {H : Hp} {a b : Addr} {kvs : List (List Key × V)} {n : Nd} (e : H a = some (.dT kvs)) (eb : NdA H b n) : DGet H a (.ref b) (valV kvs (nK n)) := DGet.t e eb
/-- a node or none -/
def oN (o : Option Nd) : PyData := match o with | none => .none | some n => nD n
/-! ### for a, b in d.items() -/
def ItT (d : Addr) (o : Obj) (kvs : List (List Key × V)) : It :=
  ⟨fun i H => H d = some (.frz o (.dT kvs)) ∧ i < kvs.length, fun i H x H' => ∃ (T q : Addr) (k : List Key) (v : V), kvs[i]? = some (k, v) ∧ x = .ref T ∧ H T = none ∧ H q = some (.tup (k.map kV)) ∧ H' = upd H T (.tup [.ref q, v]), fun i H => H d = some (.frz o (.dT kvs)) ∧ kvs.length ≤ i⟩
section
variable {X : Cx} {pins : List (Addr × Obj)} {σ : L2.St} {H : Hp} {s : Shared} {d : Addr} {o : Obj} {kvs : List (List Key × V)}
theorem frzT2 (I : Inv X pins σ H s) (h : H d = some (.frz o (.dT kvs))) :
    (d == sysModules) = false ∧ ∃ (es : Array DictEntry) (ep : Nat), s.heap.DictRaw d es ep ∧ o.data = .dict es ep ∧ es.size = kvs.length ∧
      ∀ (i : Nat) (k : List Key) (v : V), kvs[i]? = some (k, v) → ∃ (en : DictEntry) (q : Addr), es[i]? = some en ∧ en.key = .ref q ∧ H q = some (.tup (k.map kV)) ∧ RelV v en.val := by
  obtain ⟨hd, z, hs, xs, pr, o2, es, ep, ho, hx, hdt, he, _⟩ := I.hok d _ h
  have eo : o2 = o := Option.some.inj (ho.symm.trans hd)
  subst eo
  refine ⟨hs, es, ep, ⟨o2, hd, hx, hdt⟩, hdt, ?_, fun i k v e => ?_⟩
  · rw [size_of_entries he, Paired.length pr]
  · obtain ⟨b, hb, e1, e2, e3⟩ := paired_get pr e
    have q := entry_at he i
    rw [hb] at q
    exact ⟨_, b.2.1, q, rfl, e2, e3⟩
end
section
variable {P : Program} {w : World} {K : PySem.W.Frag} {d : Addr} {o : Obj} {es : Array DictEntry} {ep : Nat}
theorem turn_pairsT {kvs : List (List Key × V)} {elts : List Expr} {kk : Nat} {tpos : Pos} (it : Addr) (hod : o.data = .dict es ep) :
    Turn P w K (.Tuple elts kk tpos) (ItT d o kvs) [it] it (fun i h => ∃ ok ov, IsItemIter h it d i kvs.length ep ok ov) where
  mem := by simp
  obj := fun i h st b hb => by
    have e : b = it := by simpa using hb
    subst e
    obtain ⟨ok, ov, e⟩ := st
    exact ⟨_, e, fun v z => nomatch z⟩
  keep := fun i h h' st k => let ⟨ok, ov, e⟩ := st; ⟨ok, ov, k it (by simp) _ e⟩
  item := by
    intro X hP hw hK hc i pins s σ H E I hf st hg
    subst hP hw hK
    obtain ⟨hd, hi⟩ := hg
    obtain ⟨hs, fs, fp, raw, hdt, hsz, ent⟩ := frzT2 I hd
    obtain ⟨e1, e2⟩ := dict_ep hod hdt
    subst e1 e2
    obtain ⟨⟨k, v⟩, hkv⟩ : ∃ p, kvs[i]? = some p := ⟨kvs[i], List.getElem?_eq_getElem hi⟩
    obtain ⟨en, q, hen, hkey, hq, rv⟩ := ent i k v hkv
    obtain ⟨ok, ov, hit⟩ := st
    have hlt : it < s.heap.objs.size := Heap.lt_size hit
    have hi2 : i < fs.size := by rw [hsz]; exact hi
    have hen2 : fs[i] = en := by
      rw [Array.getElem?_eq_getElem hi2] at hen
      exact Option.some.inj hen
    rw [← hsz] at hit
    refine wpAny_pyNext_items_item_raw hit raw hi2 fun g hout hT hz hk => ?_
    refine ⟨_, rfl, wpAny_letOwnedTupleGo_items (s := { s with heap := g }) hout fun g2 hit2 sb => ?_⟩
    rw [hen2] at hT hit2
    have hT2 : g2.get? s.heap.objs.size = some { cls := .type "tuple", data := .seq #[en.key, en.val] } := (sb.2 _ (Nat.ne_of_gt hlt)).trans hT
    have rk : RelV (.ref q) en.key := hkey
    have new : ObjOk X.prog X.w (upd H s.heap.objs.size (.tup [.ref q, v])) g2 s.heap.objs.size (.tup [.ref q, v]) :=
      ⟨by show 2 ≤ sizeLine; decide, [en.key, en.val], .cons rk (.cons rv .nil), ⟨_, hT2, rfl, _, rfl⟩⟩
    have J : Inv X pins σ (upd H s.heap.objs.size (.tup [.ref q, v])) { s with heap := g2 } :=
      I.turnedNew (t' := s.toks) (ch := [it]) (fun b ob hb e => (sb.2 b (by simpa using hb)).trans (hk b ob (by simpa using hb) e)) hf (Nat.le_refl _) new
    refine ⟨.ref s.heap.objs.size, _, J, rfl, ⟨_, q, k, v, hkv, rfl, I.hok.fresh (Nat.le_refl _), hq, rfl⟩, ⟨_, _, by rw [← hsz]; exact hit2⟩, fun b hb => ?_⟩
    have e : b = it := by simpa using hb
    rw [e, upd_ne (Nat.ne_of_lt hlt)]
    exact (hf it (by simp)).1
  done := by
    intro X hP hw hK hc i pins s σ H E I hf st hg
    subst hP hw hK
    obtain ⟨hd, hi⟩ := hg
    obtain ⟨f0, f1, f2, f3, f4, f5⟩ := hf it (by simp)
    obtain ⟨hs, fs, fp, raw, hdt, hsz, ent⟩ := frzT2 I hd
    obtain ⟨e1, e2⟩ := dict_ep hod hdt
    subst e1 e2
    obtain ⟨ok, ov, hit⟩ := st
    rw [← hsz] at hit
    exact wpAny_pyNext_items_end_raw (I.ok.hd hc) hit raw (by rw [hsz]; exact hi) fun g eb => ⟨rfl, I.turned (t' := s.toks) (fun b ob hb e => eb b ob hb e) f0 f1 f3 f4 f5⟩
  self := fun A i s Q E st h => let ⟨_, _, e⟩ := st; wpAny_pyIter_itemiter e h
end
def iPairsT (td : TE) : TI := fun σ H R => td σ H fun x H1 => ∃ d o kvs, x = .ref d ∧ H1 d = some (.frz o (.dT kvs)) ∧ R (ItT d o kvs) H1
theorem pi_pairsT {X : Cx} {e : Expr} {td : TE} {elts : List Expr} {kk : Nat} {tpos apos cpos : Pos} (he : PE X e td) (hbase : attributeBase e "items" X.env (eval e X.env) = eval e X.env := by rfl) (hline : (apos.endLine == cpos.line) = true := by rfl) :
    PI X (.Tuple elts kk tpos) (.Call (.Attribute e "items" apos) [] [] cpos) (iPairsT td) := by
  refine ⟨fun pins s σ H R I h => ?_⟩
  refine wpAny_Call_method (T := "dict") (id := "dict.items") hbase rfl hline F.plainAttrs_dict F.slot_dict_items F.type_dict_items (thn (he.run pins s σ H _ I h) fun u s1 ⟨x, H1, J, rx, d, o, kvs, ex, hd, q⟩ => ?_)
  subst ex
  obtain rfl : u = Value.ref d := rx
  obtain ⟨hs, es, ep, raw, hdt, hsz, ent⟩ := frzT2 J hd
  refine ⟨raw.typeIs, ?_, ?_⟩
  · obtain ⟨ob, h1, h2, h3⟩ := raw
    exact fun a e => by cases e; exact ⟨ob, h1, h2.2.1⟩
  have J2 : Inv X pins σ H1 { s1 with heap := s1.heap.push { cls := .type "dict_items", data := .fields #[.ref d] } } := J.kept (t' := s1.toks) fun b ob q => Heap.get?_push_of_some _ q
  have fin : wpAny (model X.prog X.w) X.A (pyIter (.ref s1.heap.objs.size)) (PIE X pins σ (.Tuple elts kk tpos) R) X.xe { s1 with heap := s1.heap.push { cls := .type "dict_items", data := .fields #[.ref d] } } := by
    refine wpAny_pyIter_items_raw (d := d) ⟨_, Heap.get?_push_size _ rfl, rfl, rfl⟩ (raw.at fun ob q => Heap.get?_push_of_some _ q) (pi_one (tk := s1.toks) J2 _ (turn_pairsT _ hdt) ⟨.none, .none, ?_⟩ q)
    rw [← hsz]
    exact Heap.get?_push_size _ rfl
  show wpAny _ _ (callWith cpos (.builtin "dict.items") [.ref d] [] []) _ X.xe s1
  exact method_meetsIn F.slot_dict_items F.entry_dict_items rfl (PySem.evalArgs_none ⟨rfl, raw.typeIs, F.args_dict_items_1 _, _, meets_dict_items_raw d hs, ⟨es, ep, raw⟩, fin⟩)
/-! ### sorted(d) of a dict by nodes -/
def NdR (H : Hp) (v : Value) (x : Addr × Nd) : Prop := v = .ref x.1 ∧ NdA H x.1 x.2
def rSortedN : List V → Hp → VK → Prop := fun xs H Q => ∃ (a : Addr) (kvs : List (List Key × V)) (ns : List Nd), xs = [.ref a] ∧ Rd H a (.dT kvs) ∧ kvs.map (·.1) = ns.map nK ∧ ns.length < 1000 ∧
  ∀ (ys : List (Addr × Nd)) (p : Addr), (ys.map Prod.snd).Perm ns → (∀ y ∈ ys, NdA H y.1 y.2) → H p = none → Q (.ref p) (upd H p (.lst (ys.map fun y => V.ref y.1)))
theorem ktN {H : Hp} : ∀ {kvs : List (List Key × V)} {xs : List (List Key × Addr × Value)} {ns : List Nd}, KT H kvs xs → kvs.map (·.1) = ns.map nK →
    ∃ bs : List (Addr × Nd), bs.map Prod.snd = ns ∧ (xs.map fun x => Value.ref x.2.1) = bs.map (fun b => Value.ref b.1) ∧ ∀ b ∈ bs, NdA H b.1 b.2
  | _, _, ns, Paired.nil, e => by
    cases ns with
    | nil => exact ⟨[], rfl, rfl, fun b hb => by cases hb⟩
    | cons m ms => cases e
  | _, _, ns, Paired.cons (a := p) (b := q) h t, e => by
    cases ns with
    | nil => cases e
    | cons m ms =>
      rw [List.map_cons, List.map_cons] at e
      injection e with e1 e2
      obtain ⟨bs, i1, i2, i3⟩ := ktN t e2
      have hm : NdA H q.2.1 m := by
        have := h.2.1
        rw [e1] at this; exact this
      refine ⟨(q.2.1, m) :: bs, by rw [List.map_cons, i1], by rw [List.map_cons, List.map_cons, i2], fun b hb => ?_⟩
      rcases List.mem_cons.mp hb with rfl | hb
      · exact hm
      · exact i3 b hb
theorem eachN {H : Hp} : ∀ {bs : List (Addr × Nd)}, (∀ b ∈ bs, NdA H b.1 b.2) → PySem.W.EachIs (NdR H) (bs.map fun b => Value.ref b.1) bs
  | [], _ => .nil
  | b :: bs, h => .cons ⟨rfl, h b List.mem_cons_self⟩ (eachN fun x hx => h x (List.mem_cons_of_mem _ hx))
theorem eachN_inv {H : Hp} : ∀ {out : List Value} {bs : List (Addr × Nd)}, PySem.W.EachIs (NdR H) out bs → Vals (bs.map fun b => V.ref b.1) out ∧ ∀ b ∈ bs, NdA H b.1 b.2
  | _, _, .nil => ⟨.nil, fun b hb => by cases hb⟩
  | _, _, .cons h hs => by
    obtain ⟨h1, h2⟩ := eachN_inv hs
    refine ⟨.cons h.1 h1, fun b hb => ?_⟩
    rcases List.mem_cons.mp hb with rfl | hb
    · exact h.2
    · exact h2 b hb
theorem cr_sortedN {X : Cx} (hcalm : X.calm = true) (hun : X.A.units + 64 < cLine) : CallR X (.builtin "sorted") rSortedN := by
  intro pins s σ H xs us Q I r q
  obtain ⟨a, kvs, ns, rfl, hd, hks, hl, q⟩ := q
  obtain ⟨u, eu, rx⟩ := vals1 r
  subst eu
  cases rx
  obtain ⟨z, hs, ks, pr, o, es, ep, ho, hx, hdt, he, hn⟩ := (show ObjOk X.prog X.w H s.heap a (.dT kvs) from hd.ok I.hok)
  obtain ⟨bs, b1, b2, b3⟩ := ktN pr hks
  have l1 : es.size = ks.length := size_of_entries he
  have l3 : ks.length = bs.length := by
    have e := congrArg List.length b2
    rw [List.length_map, List.length_map] at e; exact e
  have l2 : kvs.length = ks.length := Paired.length pr
  have l4 : bs.length = ns.length := by rw [← b1, List.length_map]
  refine Calls.call_function_entry PyProof.Rows.kind_sorted PyProof.Rows.plain_sorted PyProof.Rows.entry_sorted (PyProof.Rows.args_sorted1 _) ?_
  unfold Builtin.«sorted»
  refine wpAny_bind (m := checkCount "sorted" 1 1 _) (wpAny_pure ?_)
  refine wpAny_bind (PySem.W.kdu_collect (A := X.A.in1) (kdl_raw hs hx hdt) (I.ok.hd hcalm) ho (by omega) fun g tk acc hk hacc => ?_)
  have ea : acc.toList = bs.map fun b => Value.ref b.1 := by
    rw [← b2]
    apply List.ext_getElem?
    intro j
    rw [List.getElem?_map]
    cases hj : acc.toList[j]? with
    | none =>
      have h1 := List.getElem?_eq_none_iff.mp hj
      have h2 : acc.toList.length = ks.length := by rw [Array.length_toList, hacc.1]; exact l1
      rw [List.getElem?_eq_none (by omega)]
      all_goals rfl
    | some v =>
      obtain ⟨en, hen, hv⟩ := hacc.2 j v (by rw [← Array.getElem?_toList]; exact hj)
      have qe := entry_at he j
      rw [hen] at qe
      cases hb : ks[j]? with
      | none => rw [hb] at qe; cases qe
      | some x =>
        rw [hb] at qe
        have : en = entryOfKey (tupleKind (mixKind X.prog X.w)) x := Option.some.inj qe
        rw [hv, this]; rfl
  have hal : acc.toList.length = bs.length := by rw [ea, List.length_map]
  have J : Inv X pins σ H { s with heap := g, toks := tk } := I.kept hk
  refine wpAny_bind (wpAny_newList ?_ (by rw [hal, sizeLine_eq]; omega))
  have hoL : (g.push (seqObj "list" acc.toList.toArray 0)).get? g.objs.size = some (seqObj "list" acc.toList.toArray 0) := Heap.get?_push_size _ rfl
  have J2 : Inv X pins σ H { s with heap := g.push (seqObj "list" acc.toList.toArray 0), toks := tk } := J.kept fun b o e => Heap.get?_push_of_some _ e
  show wpAny _ _ _ _ _ { s with heap := g.push (seqObj "list" acc.toList.toArray 0), toks := tk }
  have hE : PySem.W.EachIs (NdR H) acc.toList bs := by rw [ea]; exact eachN b3
  have hread : PySem.W.EachIs (fun v (b : Addr × Nd) => ∃ as, Reads (g.push (seqObj "list" acc.toList.toArray 0)) v (nD b.2) as ∧ g.objs.size ∉ as) acc.toList bs := hE.mono fun v b ⟨e1, e2⟩ => by
    obtain ⟨its, rv, pt, _⟩ := J2.tuple (SqT.of e2)
    obtain ⟨ob, c1, c2, n1, c3⟩ := pt
    subst e1
    cases rv with
    | cons ra rv =>
    cases rv with
    | cons rc rv =>
    cases rv
    obtain ⟨t1, rfl⟩ := ra
    obtain ⟨t2, rfl⟩ := rc
    exact ⟨[], .tuple c1 c2 c3 (.cons (.int _ _) (.cons (.str _ _) .nil)), by simp⟩
  have hdp : ∀ b : Addr × Nd, (nD b.2).depth ≤ 2 := fun b => by simp [nD, PyData.depth, PyData.depthAll]
  refine wpAny_bind (wpAny_holding (PySem.W.list_sort_data (A := X.A.in1) (s := { s with heap := g.push (seqObj "list" acc.toList.toArray 0), toks := tk }) (enc := fun b : Addr × Nd => nD b.2) hoL hE hread ?_ ?_ (Nat.le_trans (by omega : bs.length ≤ 1000) (by decide)) (fun b _ => by have := hdp b; show X.A.units + 1 + 1 + _ < _; omega) fun out hlen hout => ?_))
  · intro d hd d' hd'
    obtain ⟨x, _, rfl⟩ := List.mem_map.mp hd
    obtain ⟨y, _, rfl⟩ := List.mem_map.mp hd'
    rfl
  · exact .inl fun d hd => by
      obtain ⟨x, _, rfl⟩ := List.mem_map.mp hd
      exact ⟨_, _, rfl⟩
  · obtain ⟨e', he'⟩ := PyProof.Rows.sortedHeap_at (vs := acc.toList) (out := out.toArray) hoL
    obtain ⟨v1, v2⟩ := eachN_inv hout
    have pm := List.mergeSort_perm bs (PySem.W.dataLe false fun b : Addr × Nd => nD b.2)
    have hl2 : ((bs.mergeSort (PySem.W.dataLe false fun b : Addr × Nd => nD b.2)).map fun b => V.ref b.1).length ≤ sizeLine := by
      rw [List.length_map, pm.length_eq, sizeLine_eq]; omega
    refine wpAny_pure ⟨_, rfl, .ref g.objs.size, upd H g.objs.size (.lst ((bs.mergeSort (PySem.W.dataLe false fun b : Addr × Nd => nD b.2)).map fun b => V.ref b.1)), J.laid (t' := tk) (fun b u e => ?_) (Nat.le_refl _)
      (show ObjOk X.prog X.w _ _ _ (.lst ((bs.mergeSort (PySem.W.dataLe false fun b : Addr × Nd => nD b.2)).map fun b => V.ref b.1)) from ⟨hl2, out, e', v1, he'⟩), rfl, q _ _ (by rw [← b1]; exact pm.map _) v2 (J.hok.fresh (Nat.le_refl _))⟩
    have hb : b < g.objs.size := Heap.lt_size e
    rw [PyProof.Rows.sortedHeap_old (Nat.ne_of_lt hb) (by rw [size_push']; exact Nat.lt_succ_of_lt hb)]
    exact Heap.get?_push_of_some _ e
/-! ### a text some times -/
def repS (z : Str) (n : Nat) : Str := ⟨(List.replicate n z.cps).foldl (· ++ ·) #[]⟩
theorem repS_list (z : Str) (n : Nat) : (repS z n).cps.toList = (List.replicate n z.cps.toList).flatten := by
  have g : ∀ (n : Nat) (a : Array Nat), ((List.replicate n z.cps).foldl (· ++ ·) a).toList = a.toList ++ (List.replicate n z.cps.toList).flatten := by
    intro n
    induction n with
    | zero => intro a; simp
    | succ n ih =>
      intro a
      rw [List.replicate_succ, List.foldl_cons, ih, List.replicate_succ, List.flatten_cons, Array.toList_append, List.append_assoc]
  have := g n #[]
  simpa [repS] using this
theorem repS_len (z : Str) (n : Nat) : (repS z n).length = n * z.length := by
  have h : (repS z n).cps.toList.length = n * z.cps.toList.length := by
    rw [repS_list, List.length_flatten, List.map_replicate, List.sum_replicate_nat]
  simpa [Str.length] using h
theorem op_repS {X : Cx} : OpR X (binaryOp .Mult) (fun x y H Q => ∃ (z : Str) (k : Int), x = .str z ∧ y = .int k ∧ 0 ≤ k ∧ k ≤ 100 ∧ z.length ≤ 100 ∧ Q (.str (repS z k.toNat)) H) := by
  intro pins s σ H x y v u Q I rx ry h
  obtain ⟨z, k, rfl, rfl, k0, k1, hz, q⟩ := h
  obtain ⟨t, rfl⟩ := rx
  obtain ⟨t', rfl⟩ := ry
  refine P.mul_str ?_ (fun h1 h2 => ?_) (fun h1 h2 => ?_) ?_
  · rw [decide_eq_false (by omega), decide_eq_false (by omega)]; rfl
  · have : (z.length : Int) ≤ 100 := by omega
    have h5 : (92233720368547758 : Int) ≤ (2 ^ 63 - 1) / k := by
      refine (Int.le_ediv_iff_mul_le (by omega)).mpr ?_
      omega
    omega
  · show decide (z.length * k.toNat > sizeLine) = false
    have : z.length * k.toNat ≤ 100 * 100 := Nat.mul_le_mul hz (by omega)
    exact decide_eq_false (by have : (10000 : Nat) < sizeLine := by decide
                              omega)
  · by_cases h1 : k < 1
    · rw [if_pos h1]
      have : k.toNat = 0 := by omega
      rw [this] at q
      exact ⟨by decide, .str _, H, I.tok _, ⟨_, rfl⟩, q⟩
    · rw [if_neg h1]
      by_cases h2 : (k == 1 || z.length == 0) = true
      · rw [if_pos h2]
        have e : repS z k.toNat = z := by
          rw [Bool.or_eq_true] at h2
          rcases h2 with h2 | h2
          · have : k = 1 := beq_iff_eq.mp h2
            subst this
            unfold repS
            simp
          · have h3 : z.length = 0 := beq_iff_eq.mp h2
            have h4 : z.cps = #[] := Array.eq_empty_of_size_eq_zero h3
            have g : ∀ n : Nat, (List.replicate n z.cps).foldl (· ++ ·) #[] = #[] := fun n => by
              rw [h4]
              induction n with
              | zero => rfl
              | succ n ih => rw [List.replicate_succ, List.foldl_cons]; exact ih
            unfold repS
            rw [g, ← h4]
        rw [e] at q
        exact ⟨.str _, H, I, ⟨_, rfl⟩, q⟩
      · rw [if_neg h2]
        refine ⟨?_, .str _, H, I.tok _, ⟨_, rfl⟩, q⟩
        show (repS z k.toNat).length ≤ sizeLine
        rw [repS_len]
        have : k.toNat * z.length ≤ 100 * 100 := Nat.mul_le_mul (by omega) hz
        exact Nat.le_trans this (by decide)
end KN
namespace KN
open PySem PySem.Spec PyProof.Rows L2
/-! ### sorted(t) of a tuple of texts -/
def StR (v : Value) (x : Str) : Prop := ∃ t, v = Value.str x t
theorem eachS : ∀ {xs : List Str} {us : List Value}, Vals (xs.map V.str) us → PySem.W.EachIs StR us xs
  | [], _, .nil => .nil
  | _ :: xs, _, .cons r t => .cons r (eachS t)
theorem eachS_inv : ∀ {out : List Value} {xs : List Str}, PySem.W.EachIs StR out xs → Vals (xs.map V.str) out
  | _, _, .nil => .nil
  | _, _, .cons h hs => .cons h (eachS_inv hs)
def rSortedTS (K : PySem.W.Frag) : List V → Hp → VK → Prop := fun vs H Q => ∃ (a : Addr) (xs : List Str), vs = [.ref a] ∧ H a = some (.tup (xs.map V.str)) ∧ xs.length < 1000 ∧
  ∀ (ys : List Str) (p : Addr), ys.Perm xs → H p = none → Q (.ref p) (upd H p (.lst (ys.map V.str)))
theorem cr_sortedTS {X : Cx} (hun : X.A.units + 64 < cLine) : CallR X (.builtin "sorted") (rSortedTS X.K) := by
  intro pins s σ H xs us Q I r q
  obtain ⟨a, xs, rfl, ha, hl, q⟩ := q
  obtain ⟨u, eu, rx⟩ := vals1 r
  subst eu
  cases rx
  obtain ⟨its, rv, pt, _⟩ := I.tuple (SqT.of ha)
  obtain ⟨ob, ho, hc, n0, hd⟩ := pt
  have hil : its.length = xs.length := by have := rv.length; rw [List.length_map] at this; omega
  refine Calls.call_function_entry PyProof.Rows.kind_sorted PyProof.Rows.plain_sorted PyProof.Rows.entry_sorted (PyProof.Rows.args_sorted1 _) ?_
  unfold Builtin.«sorted»
  refine wpAny_bind (m := checkCount "sorted" 1 1 _) (wpAny_pure ?_)
  refine wpAny_bind (wpAny_collect_seq (A := X.A.in1) a (.inr rfl) ho hc hd (fun g hk => ?_) (hsz := by rw [List.size_toArray, sizeLine_eq]; omega))
  have J : Inv X pins σ H { s with heap := g } := I.kept (t' := s.toks) hk
  show wpAny _ _ (newList its.toArray.toList >>= _) _ _ _
  rw [show its.toArray.toList = its from rfl]
  refine wpAny_bind (wpAny_newList ?_ (by rw [sizeLine_eq]; omega))
  have hoL : (g.push (seqObj "list" its.toArray 0)).get? g.objs.size = some (seqObj "list" its.toArray 0) := Heap.get?_push_size _ rfl
  have hE : PySem.W.EachIs StR its xs := eachS rv
  have hread : PySem.W.EachIs (fun v (b : Str) => ∃ as, Reads (g.push (seqObj "list" its.toArray 0)) v (PyData.str b) as ∧ g.objs.size ∉ as) its xs := hE.mono fun v b ⟨t, e1⟩ => by
    subst e1
    exact ⟨[], .str _ _, by simp⟩
  refine wpAny_bind (wpAny_holding (PySem.W.list_sort_data (A := X.A.in1) (s := { s with heap := g.push (seqObj "list" its.toArray 0) }) (enc := fun b : Str => PyData.str b) hoL hE hread ?_ ?_ (Nat.le_trans (by omega : xs.length ≤ 1000) (by decide)) (fun b _ => by show X.A.units + 1 + 1 + _ < _; simp only [PyData.depth]; omega) fun out hlen hout => ?_))
  · intro d hd d' hd'
    obtain ⟨x, _, rfl⟩ := List.mem_map.mp hd
    obtain ⟨y, _, rfl⟩ := List.mem_map.mp hd'
    rfl
  · exact .inr fun d hd => by
      obtain ⟨x, _, rfl⟩ := List.mem_map.mp hd
      exact ⟨(by intro z; cases z), fun ys z => (by cases z)⟩
  · obtain ⟨e', he'⟩ := PyProof.Rows.sortedHeap_at (vs := its) (out := out.toArray) hoL
    have v1 := eachS_inv hout
    have pm := List.mergeSort_perm xs (PySem.W.dataLe false fun b : Str => PyData.str b)
    have hl2 : ((xs.mergeSort (PySem.W.dataLe false fun b : Str => PyData.str b)).map V.str).length ≤ sizeLine := by
      rw [List.length_map, pm.length_eq, sizeLine_eq]; omega
    refine wpAny_pure ⟨_, rfl, .ref g.objs.size, upd H g.objs.size (.lst ((xs.mergeSort (PySem.W.dataLe false fun b : Str => PyData.str b)).map V.str)), J.laid (t' := s.toks) (fun b u e => ?_) (Nat.le_refl _)
      (show ObjOk X.prog X.w _ _ _ (.lst ((xs.mergeSort (PySem.W.dataLe false fun b : Str => PyData.str b)).map V.str)) from ⟨hl2, out, e', v1, he'⟩), rfl, q _ _ pm (J.hok.fresh (Nat.le_refl _))⟩
    have hb : b < g.objs.size := Heap.lt_size e
    rw [PyProof.Rows.sortedHeap_old (Nat.ne_of_lt hb) (by rw [size_push']; exact Nat.lt_succ_of_lt hb)]
    exact Heap.get?_push_of_some _ e
end KN

set_option Elab.async false
set_option linter.all false
set_option maxRecDepth 100000
set_option maxHeartbeats 4000000
namespace KN
open PySem PySem.Spec PyProof.Rows L2
/-! ### d.setdefault(t, x) by a tuple -/
def tSetdT (td ty tx : TE) : TE := fun σ H Q => td σ H fun x H1 => ∃ (a : Addr) (kvs0 : List (List Key × V)), x = .ref a ∧ H1 a = some (.dT kvs0) ∧ ty σ H1 fun y H2 => tx σ H2 fun z H3 => ∃ (kvs : List (List Key × V)) (k : List Key) (b : Addr), H3 a = some (.dT kvs) ∧ y = .ref b ∧ H3 b = some (.tup (k.map kV)) ∧ kvs.length < sizeLine ∧
  (∀ v, valV kvs k = some v → Q v H3) ∧ (valV kvs k = none → Q z (upd H3 a (.dT (putK kvs k z))))
theorem pe_setdT {X : Cx} {o e f : Expr} {td ty tx : TE} {apos cpos : Pos} (hu : X.A.units + 1 < cLine) (ho : PE X o td) (he : PE X e ty) (hf : PE X f tx) (m : M2 X o "setdefault" apos e f cpos) : PE X (.Call (.Attribute o "setdefault" apos) [e, f] [] cpos) (tSetdT td ty tx) := by
  refine ⟨fun pins s σ H Q I h => ?_⟩
  refine wpAny_Call_method m.base m.few m.line PySem.F.plainAttrs_dict PySem.F.slot_dict_setdefault PySem.F.type_dict_setdefault (thn (ho.run pins s σ H _ I h) fun u s1 ⟨x, H1, I1, rx, a, kvs0, ex, d, q1⟩ => ?_)
  subst ex
  obtain rfl : u = Value.ref a := rx
  obtain ⟨z0, lo0, xs0, rel0, dd0⟩ := dt_of I1.hok d
  refine ⟨dd0.typeIs, ?_, ?_⟩
  · obtain ⟨ob, es, ep, h1, h2, h3⟩ := dd0
    exact fun c e => by cases e; exact ⟨ob, h1, h2.2.1⟩
  rw [m.trees]
  refine Calls.callWith_builtin rfl (Calls.evalArgs_plain (Calls.spliced_cons (thn (he.run pins s1 σ H1 _ I1 q1) fun iv s2 ⟨y, H2, I2, ry, q2⟩ =>
    Calls.spliced_cons (thn (hf.run pins s2 σ H2 _ I2 q2) fun fv s3 ⟨z, H3, I3, rz, kvs, k, b, ea, ey, eb, hl, q3, q4⟩ => Calls.spliced_nil ?_))))
  subst ey
  obtain rfl : iv = Value.ref b := ry
  obtain ⟨zz, lo, xs, rel, dd⟩ := dt_of I3.hok ea
  have hxl : xs.length = kvs.length := (Paired.length rel).symm
  have r := rel.val k
  refine call_setdefault_heap (tupleKind_room_in1 hu) (key_of I3.hok eb) lo dd (fun p hp => ?_) (fun hno g dd' hs => ?_) (by omega)
  · rw [hp] at r
    cases ev : valV kvs k with
    | none => rw [ev] at r; exact (show False from r).elim
    | some v0 =>
      rw [ev] at r
      exact ⟨v0, H3, I3.tok _, r, q3 v0 ev⟩
  · have ev : valV kvs k = none := by
      cases ev : valV kvs k with
      | none => rfl
      | some v0 => rw [ev, hno] at r; exact (show False from r).elim
    obtain ⟨ob, es, ep, hq, h2, h3, h4, _, h5⟩ := dd'
    refine ⟨z, upd H3 a (.dT (putK kvs k z)), d_write (ob := .dT (putK kvs k z)) I3 (by rw [ea]; exact True.intro) hs ⟨ob, hq⟩ ⟨?_, lo, _, (KT.put rel k eb rz).keeps fun c ys ec => ?_, ob, es, ep, hq, h2, h3, h4, h5⟩, rz, q4 ev⟩
    · have := length_putK kvs k z; omega
    · rw [upd_ne (ne_of ec ea (fun z => nomatch z))]; exact ec
end KN

set_option Elab.async false
set_option linter.all false
set_option maxRecDepth 100000
set_option maxHeartbeats 4000000
namespace KN
open PySem L2
def NdOk (n : Nd) : Prop := 0 ≤ n.1 ∧ n.1 ≤ 5 ∧ IsW n.2
def spNode : Sp := fun vs H Q _ => ∃ (a : Addr) (n : Nd), vs = [.ref a] ∧ NdA H a n ∧ NdOk n ∧ ∀ H', Same H H' → Q (.bl true) H'
def spSheetsL : Sp := fun vs H Q _ => ∃ (a : Addr) (ss : List Str), vs = [.ref a] ∧ H a = some (.lst (ss.map V.str)) ∧ SheetsOk ss ∧ ∀ H', Same H H' → Q (.bl true) H'
section
variable {P : Program} {w : World} {K : PySem.W.Frag} {mg : Str → Option Value} {base : Heap}
theorem sc_is_node : FnScope ["thing"] ["thing"] (defScope s_is_node) := ⟨rfl, rfl, rfl, by decide +kernel, rfl, by decide +kernel, by decide +kernel⟩
theorem ok_is_node {f : Addr} {fd : FuncData} (F : Fun K "is_node" "is_node" s_is_node f fd) (m_isinstance : mg "isinstance" = none) (m_tuple : mg "tuple" = none) (m_len : mg "len" = none) (g_MOST_RANK : ∃ u, mg "MOST_RANK" = some u ∧ RelV (.int 5) u)
    (c_is_number : C8.Cal P w K mg base 1 "is_number" (spNumber K) []) (c_is_word : C8.Cal P w K mg base 1 "is_word" (spWord K) []) : FnOk P w K mg base CX0 2 f fd ["thing"] spNode := by
  refine F.ok sc_is_node (fun vs H Q E h => ?_) (fun cdv A outer s H vs Q E hr h => ?_)
  · obtain ⟨a, n, rfl, _⟩ := h; rfl
  · obtain ⟨a, n, rfl, ha, ⟨r0, r5, hw⟩, k⟩ := h
    refine ⟨_, (pss_cons (ps_if (PW.pt (pw_or (pt_not (pt_val (pe_callB call_isi (by rfl) m_isinstance (by decide +kernel) (pa_cons (pv 0) (pa_cons (pe_bltn (v := .ty "tuple") (u := .type "tuple") rfl m_tuple (by decide +kernel) rfl) pa_nil))))) (pw_or1 (pt_cmpR op_ne (pe_callB call_len_seq (by rfl) m_len (by decide +kernel) (pa_cons (pv 0) pa_nil)) pe_int (nomark _))))) (pss_one (ps_ret pe_bl)) pss_nil)
      (pss_one (ps_ret (pe_and (C8.pe_c c_is_number hr (by decide) rfl (pa_cons (pe_ix ix_tup (pv 0) pe_int (fun _ _ => rfl)) (pa_cons pe_int (pa_cons (C8.pe_gc rfl g_MOST_RANK) pa_nil)))) (pe_one (C8.pe_c c_is_word hr (by decide) rfl (pa_cons (pe_ix ix_tup (pv 0) pe_int (fun _ _ => rfl)) pa_nil))))))), ?_⟩
    have hx : H a = some (.tup [.int n.1, .str n.2]) := ha
    refine ⟨_, rfl, _, _, _, _, true, rfl, .ty _, .base (.tup hx), kit_ty (by decide +kernel), _, rfl, iteF ?_⟩
    refine ⟨_, rfl, _, _, rfl, .inr (SqT.of hx), rfl, _, rfl, iteF ?_⟩
    refine ⟨_, rfl, _, _, _, _, rfl, rfl, SqT.of hx, at_of (j := 0) rfl rfl, _, _, _, rfl, .inl ⟨_, rfl, ?_⟩⟩
    have e1 : (decide ((0 : Int) ≤ n.1) && decide (n.1 ≤ 5)) = true := by rw [decide_eq_true r0, decide_eq_true r5]; rfl
    rw [e1]
    refine ⟨_, rfl, iteT ?_⟩
    refine ⟨_, rfl, _, _, _, _, rfl, rfl, SqT.of hx, at_of (j := 1) rfl rfl, _, rfl, .inl ⟨n.2, rfl, by rw [slen]; exact Nat.le_trans hw.2.1 (by decide), fun H3 s3 => ?_⟩⟩
    rw [isWB_iff.mpr hw]
    exact k H3 s3
theorem ok_are_sheets_l {f : Addr} {fd : FuncData} (F : Fun K "are_sheets" "are_sheets" s_are_sheets f fd) (m_len : mg "len" = none) (m_set : mg "set" = none) (m_all : mg "all" = none)
    (c_is_list : C8.Cal P w K mg base 1 "is_list" spList []) (c_is_word : C8.Cal P w K mg base 1 "is_word" (spWord K) []) : FnOk P w K mg base CX0 2 f fd ["thing"] spSheetsL := by
  refine F.ok sc_are_sheets (fun vs H Q E h => ?_) (fun cdv A outer s H vs Q E hr h => ?_)
  · obtain ⟨a, z, rfl, _⟩ := h; rfl
  · obtain ⟨a, ss, rfl, ha, ⟨hne, hl, hnd, hz⟩, k⟩ := h
    refine ⟨_, (pss_cons (ps_if (PW.pt (pw_or (pt_not (pt_val (C8.pe_c c_is_list hr (by decide) rfl (pa_cons (pv 0) pa_nil)))) (pw_or (pt_cmpR op_eq (pe_callB call_len_seq (by rfl) m_len (by decide +kernel) (pa_cons (pv 0) pa_nil)) pe_int (nomark _)) (pw_or1 (pt_not (pt_val (pe_callB (cr_all rfl) (by rfl) m_all (by decide +kernel) (pa_cons (pe_lc (own := [("sheet", 1)]) (g := gName 1) (tt := tYes) rfl sc_are_sheets.nd (pi_list (pv 0)) (blkOk_by (own := [("sheet", 1)]) (N := ["thing", "sheet"]) (sc := defScope s_are_sheets) (by decide +kernel)) (fun _ _ _ _ _ => pg_name (i := 1) sc_are_sheets.nd rfl (Or.inl rfl)) (fun _ _ _ _ _ => pts_nil) (fun _ _ _ _ _ => (C8.pe_c c_is_word hr (by decide) rfl (pa_cons (pv 1) pa_nil)))) pa_nil)))))))) (pss_one (ps_ret pe_bl)) pss_nil)
      (pss_one (ps_ret (pe_cmpR op_eq (pe_lenSetL rfl rfl m_len rfl m_set (pv 0)) (pe_callB call_len_seq (by rfl) m_len (by decide +kernel) (pa_cons (pv 0) pa_nil)) (nomark _))))), ?_⟩
    have hpos : 0 < ss.length := List.length_pos_iff.mpr hne
    refine ⟨_, rfl, a, rfl, .inr ⟨_, ha⟩, fun H1 s1 => ?_⟩
    refine ⟨_, rfl, iteF ?_⟩
    refine ⟨_, rfl, _, _, rfl, .inl (SqL.of (s1 _ _ ha)), rfl, _, rfl, ?_⟩
    rw [decide_eq_false (fun z => by injection z with z; rw [List.length_map] at z; omega)]
    refine iteF ?_
    refine ⟨_, rfl, a, rfl, ⟨_, SqL.of (s1 _ _ ha)⟩, fun D hD => ?_⟩
    refine lc_list (K := K) (a := a) (xs := ss.map V.str) (fun i H' => Same H1 H' ∧ ∃ bs : List Bool, H' D = some (.lst (bs.map V.bl)) ∧ bs.length = i ∧ bs.all id = true)
      ⟨Same.new hD, [], upd_same, rfl, rfl⟩ (fun i H' _ q => SqL.of (q.1 _ _ (s1 _ _ ha))) ?_ ?_
    · rintro i x H2 hi ⟨s2, bs, e2, l2, a2⟩
      rw [List.getElem?_map] at hi
      obtain ⟨z, hz1, rfl⟩ : ∃ z, ss[i]? = some z ∧ x = .str z := by
        cases e : ss[i]? with
        | none => rw [e] at hi; cases hi
        | some z => rw [e] at hi; exact ⟨z, rfl, (Option.some.inj hi).symm⟩
      have hw := hz z (List.mem_of_getElem? hz1)
      have hlt : i < ss.length := (List.getElem?_eq_some_iff.mp hz1).1
      refine ⟨rfl, _, rfl, _, rfl, .inl ⟨z, rfl, by rw [slen]; exact Nat.le_trans hw.2.1 (by decide), fun H3 s3 => ?_⟩⟩
      rw [isWB_iff.mpr hw]
      refine ⟨_, s3 _ _ e2, by rw [List.length_map, l2]; exact small1000 (by omega), fun b o e => ?_, bs ++ [true], by rw [upd_same, List.map_append]; rfl, by rw [List.length_append, l2]; rfl, by rw [List.all_append, a2]; rfl⟩
      rw [upd_ne (ne_of_none e hD)]; exact s3 _ _ (s2 _ _ e)
    · rintro H2 ⟨s2, bs, e2, l2, a2⟩
      refine ⟨D, bs, rfl, SqL.of e2, _, rfl, ?_⟩
      rw [a2]
      refine iteF ?_
      refine ⟨_, rfl, a, ss, rfl, SqL.of (s2 _ _ (s1 _ _ ha)), hl, hnd, ?_⟩
      refine ⟨_, rfl, _, _, rfl, .inl (SqL.of (s2 _ _ (s1 _ _ ha))), rfl, ?_⟩
      have e : decide (V.int (ss.length : Int) = V.int ((ss.map V.str).length : Int)) = true := decide_eq_true (by rw [List.length_map])
      show Q (.bl (decide (V.int (ss.length : Int) = V.int ((ss.map V.str).length : Int)))) H2
      rw [e]
      exact k _ (s1.trans s2)
def spLies : Sp := fun vs H Q _ => ∃ (a : Addr) (n : Nd) (v : V) (o : Option Nd), vs = [.ref a, v] ∧ NdA H a n ∧ NdOk n ∧ Tp H v (oN o) ∧ (∀ x, o = some x → NdOk x ∧ n.1 < x.1) ∧ ∀ H', Same H H' → Q (.bl true) H'
theorem sc__lies_well : FnScope ["node", "outer"] ["node", "outer"] (defScope s__lies_well) := ⟨rfl, rfl, rfl, by decide +kernel, rfl, by decide +kernel, by decide +kernel⟩
theorem ok__lies_well {f : Addr} {fd : FuncData} (F : Fun K "_lies_well" "_lies_well" s__lies_well f fd) (c_is_node : C8.Cal P w K mg base 2 "is_node" spNode []) : FnOk P w K mg base CX0 3 f fd ["node", "outer"] spLies := by
  refine F.ok sc__lies_well (fun vs H Q E h => ?_) (fun cdv A outer s H vs Q E hr h => ?_)
  · obtain ⟨a, n, v, o, rfl, _⟩ := h; rfl
  · obtain ⟨a, n, v, o, rfl, ha, hn, hv, ho, k⟩ := h
    refine ⟨_, (pss_one (ps_ret (pe_and (C8.pe_c c_is_node hr (by decide) rfl (pa_cons (pv 0) pa_nil)) (pe_one (pe_or (pe_cmpR op_isN (pv 1) pe_non (nomark _)) (pe_one (pe_and (C8.pe_c c_is_node hr (by decide) rfl (pa_cons (pv 1) pa_nil)) (pe_one (pe_cmpR op_gt (pe_ix ix_tup (pv 1) pe_int (fun _ _ => rfl)) (pe_ix ix_tup (pv 0) pe_int (fun _ _ => rfl)) (nomark _)))))))))), ?_⟩
    refine ⟨_, rfl, a, n, rfl, ha, hn, fun H1 s1 => ⟨_, rfl, iteT ?_⟩⟩
    cases o with
    | none =>
      cases hv
      exact ⟨_, rfl, rfl, _, rfl, iteT (k H1 s1)⟩
    | some x =>
      obtain ⟨b, rfl, hb⟩ := Tp.nd_inv hv
      obtain ⟨hx, hlt⟩ := ho x rfl
      refine ⟨_, rfl, rfl, _, rfl, iteF ?_⟩
      refine ⟨_, rfl, b, x, rfl, s1 _ _ hb, hx, fun H2 s2 => ⟨_, rfl, iteT ?_⟩⟩
      have s12 := s1.trans s2
      refine ⟨_, rfl, _, _, _, _, rfl, rfl, SqT.of (s12 _ _ hb), at_of (j := 0) rfl rfl, _, rfl, _, _, _, _, rfl, rfl, SqT.of (s12 _ _ ha), at_of (j := 0) rfl rfl, _, _, rfl, rfl, ?_⟩
      have e1 : decide (n.1 < x.1) = true := decide_eq_true hlt
      show Q (.bl (decide (n.1 < x.1))) H2
      rw [e1]
      exact k H2 s12
end
end KN


set_option Elab.async false
set_option linter.all false
set_option maxRecDepth 100000
set_option maxHeartbeats 4000000
namespace KN
open PySem L2
/-! The dicts that a tree is made of. -/
theorem walk_pairsT {d : Addr} {o : Obj} {kvs : List (List Key × V)} : Walk (ItT d o kvs) kvs.length (fun H => H d = some (.frz o (.dT kvs)))
    (fun i H x H' => ∃ (T q : Addr) (k : List Key) (v : V), kvs[i]? = some (k, v) ∧ x = .ref T ∧ H T = none ∧ H q = some (.tup (k.map kV)) ∧ H' = upd H T (.tup [.ref q, v])) :=
  ⟨fun _ _ hi q => ⟨q, hi⟩, fun _ q => ⟨q, Nat.le_refl _⟩, fun _ _ _ _ _ _ y => y⟩
def KdR (H : Hp) (q : List Key × V) (k : Nd × List Str) : Prop := q.1 = nK k.1 ∧ ∃ l, q.2 = .ref l ∧ H l = some (.lst (k.2.map V.str))
def PaR (H : Hp) (q : List Key × V) (p : Nd × Option Nd) : Prop := q.1 = nK p.1 ∧ Tp H q.2 (oN p.2)
def KindsAt (H : Hp) (d : Addr) (ks : List (Nd × List Str)) : Prop := ∃ kvs, H d = some (.dT kvs) ∧ Paired (KdR H) kvs ks
def ParAt (H : Hp) (d : Addr) (ps : List (Nd × Option Nd)) : Prop := ∃ kvs, H d = some (.dT kvs) ∧ Paired (PaR H) kvs ps
theorem paired_at {α β : Type} {F : α → β → Prop} : ∀ {xs : List α} {ys : List β} {i : Nat} {x : α}, Paired F xs ys → xs[i]? = some x → ∃ y, ys[i]? = some y ∧ F x y
  | _, _, i, x, .nil, e => by simp at e
  | _, _, 0, x, .cons f t, e => by rw [List.getElem?_cons_zero] at e; cases e; exact ⟨_, rfl, f⟩
  | _, _, i + 1, x, .cons f t, e => by
    rw [List.getElem?_cons_succ] at e
    obtain ⟨y, h1, h2⟩ := paired_at t e
    exact ⟨y, by rw [List.getElem?_cons_succ]; exact h1, h2⟩
theorem lock_same {H H' : Hp} {d : Addr} {u : HO} {od : Obj} (hd : H d = some u) (nu : ∀ o v, u ≠ .frz o v) (s : Same (upd H d (.frz od u)) H') : Same H (upd H' d u) := fun b o e => by
  by_cases h : b = d
  · subst h; rw [upd_same]; rw [hd] at e; exact e
  · rw [upd_ne h]; exact s _ _ (by rw [upd_ne h]; exact e)
theorem lock_tk {H : Hp} {d : Addr} {kvs : List (List Key × V)} {od : Obj} (hd : H d = some (.dT kvs)) : TK H (upd H d (.frz od (.dT kvs))) := TK.put hd (by intro z; exact nofun)
def KdOk (k : Nd × List Str) : Prop := NdOk k.1 ∧ k.1.1 = 0 ∧ SheetsOk k.2
def PaOk (p : Nd × Option Nd) : Prop := NdOk p.1 ∧ ∀ x, p.2 = some x → NdOk x ∧ p.1.1 < x.1
def spIsKinds : Sp := fun vs H Q _ => ∃ (d : Addr) (ks : List (Nd × List Str)), vs = [.ref d] ∧ KindsAt H d ks ∧ (∀ k ∈ ks, KdOk k) ∧ ks.length ≤ 60 ∧ ∀ H', Same H H' → Q (.bl true) H'
def spIsParents : Sp := fun vs H Q _ => ∃ (d : Addr) (ps : List (Nd × Option Nd)), vs = [.ref d] ∧ ParAt H d ps ∧ (∀ p ∈ ps, PaOk p) ∧ ps.length ≤ 60 ∧ ∀ H', Same H H' → Q (.bl true) H'
section
variable {P : Program} {w : World} {K : PySem.W.Frag} {mg : Str → Option Value} {base : Heap}
theorem sc__is_kinds : FnScope ["thing", "node", "sheets"] ["thing"] (defScope s__is_kinds) := ⟨rfl, rfl, rfl, by decide +kernel, rfl, by decide +kernel, by decide +kernel⟩
theorem ok__is_kinds {f : Addr} {fd : FuncData} (F : Fun K "_is_kinds" "_is_kinds" s__is_kinds f fd) (m_isinstance : mg "isinstance" = none) (m_dict : mg "dict" = none) (m_all : mg "all" = none)
    (c_is_node : C8.Cal P w K mg base 2 "is_node" spNode []) (c_are_sheets : C8.Cal P w K mg base 2 "are_sheets" spSheetsL []) : FnOk P w K mg base CX0 3 f fd ["thing"] spIsKinds := by
  refine F.ok sc__is_kinds (fun vs H Q E h => ?_) (fun cdv A outer s H vs Q E hr h => ?_)
  · obtain ⟨d, ks, rfl, _⟩ := h; rfl
  · obtain ⟨d, ks, rfl, ⟨kvs, hd, pr⟩, hok, h60, k⟩ := h
    refine ⟨_, (pss_cons (ps_if (pt_not (pt_val (pe_callB call_isi (by rfl) m_isinstance (by decide +kernel) (pa_cons (pv 0) (pa_cons (pe_bltn (v := .ty "dict") (u := .type "dict") rfl m_dict (by decide +kernel) rfl) pa_nil))))) (pss_one (ps_ret pe_bl)) pss_nil)
      (pss_one (ps_ret (pe_callB (cr_all rfl) (by rfl) m_all (by decide +kernel) (pa_cons (pe_lock (pe_lc (own := [("node", 1), ("sheets", 2)]) (g := gTup K 2 (gCons (gName 1) (gCons (gName 2) gNil))) (tt := tYes) rfl sc__is_kinds.nd (pi_pairsT (pv 0)) (blkOk_by (own := [("node", 1), ("sheets", 2)]) (N := ["thing", "node", "sheets"]) (sc := defScope s__is_kinds) (by decide +kernel)) (fun _ _ _ _ _ => pg_tup rfl (pgs_cons (pg_name (i := 1) sc__is_kinds.nd rfl (Or.inl rfl)) (pgs_cons (pg_name (i := 2) sc__is_kinds.nd rfl (Or.inl rfl)) pgs_nil))) (fun _ _ _ _ _ => pts_nil) (fun _ _ _ _ _ => (pe_and (C8.pe_c c_is_node hr (by decide) rfl (pa_cons (pv 1) pa_nil)) (pe_and (pe_cmpR op_eq (pe_ix (ix_tupK K) (pv 1) pe_int (fun _ _ => rfl)) pe_int (nomark _)) (pe_one (C8.pe_c c_are_sheets hr (by decide) rfl (pa_cons (pv 2) pa_nil)))))))) pa_nil))))), ?_⟩
    refine ⟨_, rfl, _, _, _, _, true, rfl, .ty _, .base (.dT hd), kit_ty (by decide +kernel), _, rfl, iteF ?_⟩
    refine ⟨d, .dT kvs, hd, trivial, fun od => ?_⟩
    refine ⟨_, rfl, d, od, kvs, rfl, upd_same, fun D hD => ?_⟩
    have nDd : D ≠ d := fun z => by subst z; rw [upd_same] at hD; cases hD
    have hkl : kvs.length = ks.length := Paired.length pr
    refine lc_it walk_pairsT (fun i H' => Same (upd H d (.frz od (.dT kvs))) H' ∧ ∃ bs : List Bool, H' D = some (.lst (bs.map V.bl)) ∧ bs.length = i ∧ bs.all id = true)
      ⟨Same.new hD, [], upd_same, rfl, rfl⟩ (fun i H' _ q => q.1 _ _ upd_same) ?_ ?_
    · rintro i x H2 H3 hi ⟨s2, bs, e2, l2, a2⟩ ⟨T, q, kk, v, hk, rfl, hT, hq, rfl⟩
      obtain ⟨kn, hkn, ⟨e1, l, e2', hl⟩⟩ := paired_at pr hk
      obtain ⟨⟨hn, hn0, hss⟩⟩ : KdOk kn ∧ True := ⟨hok kn (List.mem_of_getElem? hkn), trivial⟩
      simp only at e1 e2'
      subst e1 e2'
      have sT := Same.new (o := .tup [.ref q, .ref l]) hT
      refine ⟨T, _, rfl, SqT.of upd_same, rfl, _, _, rfl, _, _, rfl, rfl, rfl, ?_⟩
      have hqn : NdA H2 q kn.1 := hq
      have hl2 : H2 l = some (.lst (kn.2.map V.str)) := by
        refine s2 _ _ ?_
        rw [upd_ne (by rintro rfl; rw [hd] at hl; cases hl)]
        exact hl
      refine ⟨_, rfl, q, kn.1, rfl, sT _ _ hqn, hn, fun H3 s3 => ⟨_, rfl, iteT ?_⟩⟩
      refine ⟨_, rfl, _, _, _, _, rfl, rfl, SqT.of (s3 _ _ (sT _ _ hqn)), at_of (j := 0) rfl rfl, ?_⟩
      rw [hn0]
      refine ⟨rfl, _, rfl, iteT ?_⟩
      refine ⟨_, rfl, l, kn.2, rfl, s3 _ _ (sT _ _ hl2), hss, fun H4 s4 => ?_⟩
      have s34 := s3.trans s4
      have hlt : i < kvs.length := (List.getElem?_eq_some_iff.mp hk).1
      refine ⟨_, s34 _ _ (sT _ _ e2), by rw [List.length_map, l2]; exact small1000 (by omega), fun b o e => ?_, bs ++ [true], by rw [upd_same, List.map_append]; rfl, by rw [List.length_append, l2]; rfl, by rw [List.all_append, a2]; rfl⟩
      by_cases hb : b = D
      · subst hb
        rw [upd_ne nDd] at e
        rw [upd_ne nDd] at hD; rw [hD] at e; cases e
      · rw [upd_ne hb]; exact s34 _ _ (sT _ _ (s2 _ _ e))
    · rintro H2 ⟨s2, bs, e2, l2, a2⟩
      refine ⟨s2 _ _ upd_same, ?_⟩
      have nDd2 : upd H2 d (.dT kvs) D = some (.lst (bs.map V.bl)) := by rw [upd_ne nDd]; exact e2
      refine ⟨D, bs, rfl, SqL.of nDd2, ?_⟩
      rw [a2]
      exact k _ (lock_same hd (by intro o v; exact nofun) s2)
theorem sc__is_parents : FnScope ["thing", "node", "outer"] ["thing"] (defScope s__is_parents) := ⟨rfl, rfl, rfl, by decide +kernel, rfl, by decide +kernel, by decide +kernel⟩
theorem ok__is_parents {f : Addr} {fd : FuncData} (F : Fun K "_is_parents" "_is_parents" s__is_parents f fd) (m_isinstance : mg "isinstance" = none) (m_dict : mg "dict" = none) (m_all : mg "all" = none)
    (c__lies_well : C8.Cal P w K mg base 3 "_lies_well" spLies []) : FnOk P w K mg base CX0 4 f fd ["thing"] spIsParents := by
  refine F.ok sc__is_parents (fun vs H Q E h => ?_) (fun cdv A outer s H vs Q E hr h => ?_)
  · obtain ⟨d, ps, rfl, _⟩ := h; rfl
  · obtain ⟨d, ps, rfl, ⟨kvs, hd, pr⟩, hok, h60, k⟩ := h
    refine ⟨_, (pss_one (ps_ret (pe_and (pe_callB call_isi (by rfl) m_isinstance (by decide +kernel) (pa_cons (pv 0) (pa_cons (pe_bltn (v := .ty "dict") (u := .type "dict") rfl m_dict (by decide +kernel) rfl) pa_nil))) (pe_one (pe_callB (cr_all rfl) (by rfl) m_all (by decide +kernel) (pa_cons (pe_lock (pe_lc (own := [("node", 1), ("outer", 2)]) (g := gTup K 2 (gCons (gName 1) (gCons (gName 2) gNil))) (tt := tYes) rfl sc__is_parents.nd (pi_pairsT (pv 0)) (blkOk_by (own := [("node", 1), ("outer", 2)]) (N := ["thing", "node", "outer"]) (sc := defScope s__is_parents) (by decide +kernel)) (fun _ _ _ _ _ => pg_tup rfl (pgs_cons (pg_name (i := 1) sc__is_parents.nd rfl (Or.inl rfl)) (pgs_cons (pg_name (i := 2) sc__is_parents.nd rfl (Or.inl rfl)) pgs_nil))) (fun _ _ _ _ _ => pts_nil) (fun _ _ _ _ _ => (C8.pe_c c__lies_well hr (by decide) rfl (pa_cons (pv 1) (pa_cons (pv 2) pa_nil)))))) pa_nil)))))), ?_⟩
    refine ⟨_, rfl, _, _, _, _, true, rfl, .ty _, .base (.dT hd), kit_ty (by decide +kernel), _, rfl, iteT ?_⟩
    refine ⟨d, .dT kvs, hd, trivial, fun od => ?_⟩
    refine ⟨_, rfl, d, od, kvs, rfl, upd_same, fun D hD => ?_⟩
    have nDd : D ≠ d := fun z => by subst z; rw [upd_same] at hD; cases hD
    have hkl : kvs.length = ps.length := Paired.length pr
    refine lc_it walk_pairsT (fun i H' => Same (upd H d (.frz od (.dT kvs))) H' ∧ ∃ bs : List Bool, H' D = some (.lst (bs.map V.bl)) ∧ bs.length = i ∧ bs.all id = true)
      ⟨Same.new hD, [], upd_same, rfl, rfl⟩ (fun i H' _ q => q.1 _ _ upd_same) ?_ ?_
    · rintro i x H2 H3 hi ⟨s2, bs, e2, l2, a2⟩ ⟨T, q, kk, v, hk, rfl, hT, hq, rfl⟩
      obtain ⟨kn, hkn, ⟨e1, ho⟩⟩ := paired_at pr hk
      obtain ⟨hn, hx⟩ : PaOk kn := hok kn (List.mem_of_getElem? hkn)
      simp only at e1 ho
      subst e1
      have sT := Same.new (o := .tup [.ref q, v]) hT
      refine ⟨T, _, rfl, SqT.of upd_same, rfl, _, _, rfl, _, _, rfl, rfl, rfl, ?_⟩
      have hqn : NdA H2 q kn.1 := hq
      have hv : Tp (upd H2 T (.tup [.ref q, v])) v (oN kn.2) := ho.to (((lock_tk hd).trans (TK.of s2)).trans (TK.of sT))
      refine ⟨_, rfl, _, rfl, q, kn.1, v, kn.2, rfl, sT _ _ hqn, hn, hv, hx, fun H4 s4 => ?_⟩
      have hlt : i < kvs.length := (List.getElem?_eq_some_iff.mp hk).1
      refine ⟨_, s4 _ _ (sT _ _ e2), by rw [List.length_map, l2]; exact small1000 (by omega), fun b o e => ?_, bs ++ [true], by rw [upd_same, List.map_append]; rfl, by rw [List.length_append, l2]; rfl, by rw [List.all_append, a2]; rfl⟩
      by_cases hb : b = D
      · subst hb
        rw [upd_ne nDd] at e
        rw [upd_ne nDd] at hD; rw [hD] at e; cases e
      · rw [upd_ne hb]; exact s4 _ _ (sT _ _ (s2 _ _ e))
    · rintro H2 ⟨s2, bs, e2, l2, a2⟩
      refine ⟨s2 _ _ upd_same, ?_⟩
      have nDd2 : upd H2 d (.dT kvs) D = some (.lst (bs.map V.bl)) := by rw [upd_ne nDd]; exact e2
      refine ⟨D, bs, rfl, SqL.of nDd2, ?_⟩
      rw [a2]
      exact k _ (lock_same hd (by intro o v; exact nofun) s2)
end
end KN


set_option Elab.async false
set_option linter.all false
set_option maxRecDepth 100000
/-! Links and what they lead to: plain mathematics. -/
namespace KN
open PySem L2
/-- (mark, from, to) -/
abbrev Lnk := Mo × Mo × Mo
def lD (l : Lnk) : PyData := .tuple [mD l.1, mD l.2.1, mD l.2.2]
theorem okD_l (l : Lnk) : okD (lD l) = true := rfl
theorem lD_inj {a b : Lnk} (h : lD a = lD b) : a = b := by
  unfold lD at h
  injection h with h
  injection h with h1 h
  injection h with h2 h
  injection h with h3 _
  exact Prod.ext (mD_inj h1) (Prod.ext (mD_inj h2) (mD_inj h3))
inductive Rch (ls : List Lnk) (s : Mo) : Mo → Prop
  | refl : Rch ls s s
  | step {b : Mo} {l : Lnk} : Rch ls s b → l ∈ ls → l.2.1 = b → Rch ls s l.2.2
theorem Rch.mono {ls ls' : List Lnk} (h : ∀ l ∈ ls, l ∈ ls') {s a : Mo} (r : Rch ls s a) : Rch ls' s a := by
  induction r with
  | refl => exact .refl
  | step _ hl e ih => exact .step ih (h _ hl) e
theorem Rch.trans {ls : List Lnk} {a b c : Mo} (h : Rch ls a b) (k : Rch ls b c) : Rch ls a c := by
  induction k with
  | refl => exact h
  | step _ hl e ih => exact .step ih hl e
structure Bfs (ls : List Lnk) (s : Mo) (ns ws : List Mo) : Prop where
  start : s ∈ ns
  sub : ∀ n ∈ ns, Rch ls s n
  wsub : ∀ n ∈ ws, n ∈ ns
  clo : ∀ n ∈ ns, n ∉ ws → ∀ l ∈ ls, l.2.1 = n → l.2.2 ∈ ns
structure BfsI (ls : List Lnk) (s a : Mo) (i : Nat) (ns ws : List Mo) : Prop where
  start : s ∈ ns
  sub : ∀ n ∈ ns, Rch ls s n
  wsub : ∀ n ∈ ws, n ∈ ns
  here : a ∈ ns
  clo : ∀ n ∈ ns, n ∉ ws → n ≠ a → ∀ l ∈ ls, l.2.1 = n → l.2.2 ∈ ns
  own : ∀ l ∈ ls.take i, l.2.1 = a → l.2.2 ∈ ns
theorem Bfs.init (ls : List Lnk) (s : Mo) : Bfs ls s [s] [s] :=
  ⟨List.mem_singleton.mpr rfl, fun n h => by rw [List.mem_singleton] at h; subst h; exact .refl, fun _ h => h, fun n h k => absurd h k⟩
theorem Bfs.pop {ls : List Lnk} {s a : Mo} {ns ws : List Mo} (b : Bfs ls s ns (a :: ws)) : BfsI ls s a 0 ns ws :=
  ⟨b.start, b.sub, fun n h => b.wsub n (List.mem_cons_of_mem _ h), b.wsub a List.mem_cons_self, fun n h k e => b.clo n h fun z => (List.mem_cons.mp z).elim e k, fun l h => by rw [List.take_zero] at h; cases h⟩
theorem BfsI.done {ls : List Lnk} {s a : Mo} {ns ws : List Mo} (b : BfsI ls s a ls.length ns ws) : Bfs ls s ns ws :=
  ⟨b.start, b.sub, b.wsub, fun n h k l hl e => by
    by_cases q : n = a
    · exact b.own l (by rw [List.take_length]; exact hl) (e.trans q)
    · exact b.clo n h k q l hl e⟩
theorem BfsI.skip {ls : List Lnk} {s a : Mo} {i : Nat} {ns ws : List Mo} {l : Lnk} (b : BfsI ls s a i ns ws) (hl : ls[i]? = some l) (h : l.2.1 = a → l.2.2 ∈ ns) : BfsI ls s a (i + 1) ns ws :=
  ⟨b.start, b.sub, b.wsub, b.here, b.clo, fun l' h' e => by
    rw [List.take_add_one, hl] at h'
    rcases List.mem_append.mp h' with q | q
    · exact b.own l' q e
    · rw [Option.toList_some, List.mem_singleton] at q; subst q; exact h e⟩
theorem BfsI.add {ls : List Lnk} {s a : Mo} {i : Nat} {ns ws : List Mo} {l : Lnk} (b : BfsI ls s a i ns ws) (hl : ls[i]? = some l) (h : l.2.1 = a) : BfsI ls s a (i + 1) (ns ++ [l.2.2]) (ws ++ [l.2.2]) where
  start := List.mem_append_left _ b.start
  sub := fun n hn => by
    rcases List.mem_append.mp hn with q | q
    · exact b.sub n q
    · rw [List.mem_singleton] at q; subst q
      exact .step (b.sub a b.here) (List.mem_of_getElem? hl) h
  wsub := fun n hn => by
    rcases List.mem_append.mp hn with q | q
    · exact List.mem_append_left _ (b.wsub n q)
    · exact List.mem_append_right _ q
  here := List.mem_append_left _ b.here
  clo := fun n hn hw ha l' hl' e => by
    rcases List.mem_append.mp hn with q | q
    · exact List.mem_append_left _ (b.clo n q (fun z => hw (List.mem_append_left _ z)) ha l' hl' e)
    · exact absurd (List.mem_append_right _ q) hw
  own := fun l' h' e => by
    rw [List.take_add_one, hl] at h'
    rcases List.mem_append.mp h' with q | q
    · exact List.mem_append_left _ (b.own l' q e)
    · rw [Option.toList_some, List.mem_singleton] at q; subst q; exact List.mem_append_right _ (List.mem_singleton.mpr rfl)
theorem Bfs.all {ls : List Lnk} {s g : Mo} {ns : List Mo} (b : Bfs ls s ns []) : g ∈ ns ↔ Rch ls s g := by
  refine ⟨b.sub g, fun r => ?_⟩
  induction r with
  | refl => exact b.start
  | step _ hl e ih => exact b.clo _ ih (by simp) _ hl e
def Unv (ls : List Lnk) (ns : List Mo) : Nat := (ls.filter fun l => decide (l.2.2 ∉ ns)).length
theorem Unv.le (ls : List Lnk) (ns : List Mo) (c : Mo) : Unv ls (ns ++ [c]) ≤ Unv ls ns := by
  unfold Unv
  induction ls with
  | nil => exact Nat.le_refl _
  | cons l ls ih =>
    rw [List.filter_cons, List.filter_cons]
    by_cases h : l.2.2 ∈ ns
    · have h' : l.2.2 ∈ ns ++ [c] := List.mem_append_left _ h
      simp only [h, h', not_true, decide_false, if_neg (by decide : ¬ (false = true))]
      exact ih
    · by_cases h' : l.2.2 ∈ ns ++ [c]
      · simp only [h, h', not_true, not_false_iff, decide_false, decide_true, if_true, if_neg (by decide : ¬ (false = true)), List.length_cons]
        omega
      · simp only [h, h', not_false_iff, decide_true, if_true, List.length_cons]
        omega
theorem Unv.lt {ls : List Lnk} {ns : List Mo} {l : Lnk} (hl : l ∈ ls) (h : l.2.2 ∉ ns) : Unv ls (ns ++ [l.2.2]) + 1 ≤ Unv ls ns := by
  induction ls with
  | nil => cases hl
  | cons k ls ih =>
    have le := Unv.le ls ns l.2.2
    unfold Unv at ih le ⊢
    rw [List.filter_cons, List.filter_cons]
    rcases List.mem_cons.mp hl with rfl | hl
    · have h' : l.2.2 ∈ ns ++ [l.2.2] := List.mem_append_right _ (List.mem_singleton.mpr rfl)
      simp only [h, h', not_true, not_false_iff, decide_false, decide_true, if_true, if_neg (by decide : ¬ (false = true)), List.length_cons]
      omega
    · have ih := ih hl
      by_cases q : k.2.2 ∈ ns
      · have q' : k.2.2 ∈ ns ++ [l.2.2] := List.mem_append_left _ q
        simp only [q, q', not_true, decide_false, if_neg (by decide : ¬ (false = true))]
        exact ih
      · by_cases q' : k.2.2 ∈ ns ++ [l.2.2]
        · simp only [q, q', not_true, not_false_iff, decide_false, decide_true, if_true, if_neg (by decide : ¬ (false = true)), List.length_cons]
          omega
        · simp only [q, q', not_false_iff, decide_true, if_true, List.length_cons]
          omega
theorem Unv.len (ls : List Lnk) (ns : List Mo) : Unv ls ns ≤ ls.length := List.length_filter_le _ _

/-! dicts by moments -/
theorem valV_ks {kvs : List (List Key × V)} {ns : List Mo} (h : kvs.map (·.1) = ns.map mK) (m : Mo) : (valV kvs (mK m)).isSome = decide (m ∈ ns) := by
  induction kvs generalizing ns with
  | nil =>
    cases ns with
    | nil => rfl
    | cons n ns => cases h
  | cons q kvs ih =>
    cases ns with
    | nil => cases h
    | cons n ns =>
      rw [List.map_cons, List.map_cons] at h
      injection h with h1 h2
      by_cases e : n = m
      · subst e
        rw [valV_pos h1, decide_eq_true List.mem_cons_self]; rfl
      · rw [valV_neg (fun z => e (mK_inj (h1.symm.trans z))), ih h2]
        have : m ∈ n :: ns ↔ m ∈ ns := by
          rw [List.mem_cons]; exact ⟨fun z => z.elim (fun y => absurd y.symm e) id, .inr⟩
        by_cases q : m ∈ ns
        · rw [decide_eq_true q, decide_eq_true (this.mpr q)]
        · rw [decide_eq_false q, decide_eq_false (fun z => q (this.mp z))]
theorem valV_mem {κ : Type} [DecidableEq κ] {kvs : List (κ × V)} {k : κ} {v : V} (h : valV kvs k = some v) : (k, v) ∈ kvs := by
  induction kvs with
  | nil => cases h
  | cons q kvs ih =>
    by_cases e : q.1 = k
    · rw [valV_pos e] at h
      cases h
      subst e
      exact List.mem_cons_self
    · rw [valV_neg e] at h
      exact List.mem_cons_of_mem _ (ih h)
theorem Tp.ln_inv {H : Hp} {v : V} {l : Lnk} (h : Tp H v (lD l)) : ∃ t a b c, v = .ref t ∧ H t = some (.tup [.ref a, .ref b, .ref c]) ∧ H a = some (.tup [.int l.1.1, .int l.1.2]) ∧ H b = some (.tup [.int l.2.1.1, .int l.2.1.2]) ∧ H c = some (.tup [.int l.2.2.1, .int l.2.2.2]) := by
  obtain ⟨t, xs, rfl, e, r⟩ := Tp.inv h
  cases r with
  | cons h1 r =>
    cases r with
    | cons h2 r =>
      cases r with
      | cons h3 r =>
        cases r
        obtain ⟨a, rfl, ha⟩ := Tp.mo_inv h1
        obtain ⟨b, rfl, hb⟩ := Tp.mo_inv h2
        obtain ⟨c, rfl, hc⟩ := Tp.mo_inv h3
        exact ⟨t, a, b, c, rfl, e, ha, hb, hc⟩
theorem Tp.ln {H : Hp} {t a b c : Addr} {l : Lnk} (e : H t = some (.tup [.ref a, .ref b, .ref c])) (ha : H a = some (.tup [.int l.1.1, .int l.1.2])) (hb : H b = some (.tup [.int l.2.1.1, .int l.2.1.2])) (hc : H c = some (.tup [.int l.2.2.1, .int l.2.2.2])) : Tp H (.ref t) (lD l) :=
  .tup e (.cons (Tp.mo ha) (.cons (Tp.mo hb) (.cons (Tp.mo hc) .nil)))
theorem eqv_m (a b : Mo) : PyData.eqv (mD a) (mD b) = decide (a = b) := eqv_dec (okD_m a) (okD_m b) ⟨mD_inj, congrArg mD⟩
theorem shaped_m (m : Mo) : SeqAt.shaped (mD m) = true := shaped_of (okD_m m) (by simp [mD, PyData.depth, PyData.depthAll])
end KN

set_option Elab.async false
set_option linter.all false
set_option maxRecDepth 100000
set_option maxHeartbeats 4000000
namespace KN
open PySem L2
/-! Where each sheet lies, and what each node lies in. -/
theorem val_no {κ : Type} [DecidableEq κ] {kvs : List (κ × V)} {k : κ} (h : k ∉ kvs.map (·.1)) : valV kvs k = none := by
  cases e : valV kvs k with
  | none => rfl
  | some v => exact absurd (List.mem_map.mpr ⟨_, valV_mem e, rfl⟩) h
def plOf (ks : List (Nd × List Str)) : List (Str × Nd) := ks.flatMap fun k => k.2.map fun z => (z, k.1)
theorem plOf_take {ks : List (Nd × List Str)} {i : Nat} {k : Nd × List Str} (h : ks[i]? = some k) : plOf (ks.take (i + 1)) = plOf (ks.take i) ++ k.2.map fun z => (z, k.1) := by
  rw [List.take_add_one, h]; unfold plOf; rw [List.flatMap_append]; simp
theorem plOf_split {ks : List (Nd × List Str)} {i : Nat} {k : Nd × List Str} (h : ks[i]? = some k) : plOf ks = plOf (ks.take i) ++ (k.2.map fun z => (z, k.1)) ++ plOf (ks.drop (i + 1)) := by
  rw [← plOf_take h]; unfold plOf; rw [← List.flatMap_append, List.take_append_drop]
def PlR (H : Hp) (q : Key × V) (p : Str × Nd) : Prop := q.1 = .inr p.1 ∧ ∃ a, q.2 = .ref a ∧ NdA H a p.2
theorem PlR.to {H H' : Hp} {q : Key × V} {p : Str × Nd} (h : PlR H q p) (k : TK H H') : PlR H' q p := by
  obtain ⟨e, a, e2, h⟩ := h; exact ⟨e, a, e2, k _ _ h⟩
def PlAt (H : Hp) (r : Addr) (L : List (Str × Nd)) : Prop := ∃ kvs, H r = some (.dK kvs) ∧ Paired (PlR H) kvs L
theorem pl_keys {H : Hp} {kvs : List (Key × V)} {L : List (Str × Nd)} (h : Paired (PlR H) kvs L) : kvs.map (·.1) = (L.map (·.1)).map Sum.inr := by
  induction h with
  | nil => rfl
  | cons f _ ih => rw [List.map_cons, List.map_cons, List.map_cons, ih, f.1]
def PlI (Hf H' : Hp) (p : Addr) (L : List (Str × Nd)) : Prop := (∀ b o, b ≠ p → Hf b = some o → H' b = some o) ∧ PlAt H' p L
theorem PlI.new {Hf H' : Hp} {p T : Addr} {o : HO} {L : List (Str × Nd)} (h : PlI Hf H' p L) (hT : H' T = none) : PlI Hf (upd H' T o) p L := by
  obtain ⟨h1, kvs, h2, h3⟩ := h
  refine ⟨fun b u n e => ?_, kvs, Same.new hT _ _ h2, L2.Paired.mapP h3 fun _ _ f => f.to (TK.new hT)⟩
  exact Same.new hT _ _ (h1 b u n e)
theorem PlI.put {Hf H' : Hp} {p q : Addr} {kvs : List (Key × V)} {L : List (Str × Nd)} {z : Str} {n : Nd} (h : ∀ b o, b ≠ p → Hf b = some o → H' b = some o) (h2 : H' p = some (.dK kvs)) (h3 : Paired (PlR H') kvs L) (hz : z ∉ L.map (·.1)) (hq : NdA H' q n) :
    PlI Hf (upd H' p (.dK (putK kvs (.inr z) (.ref q)))) p (L ++ [(z, n)]) := by
  have tk : TK H' (upd H' p (.dK (putK kvs (.inr z) (.ref q)))) := TK.put h2 (by intro z; exact nofun)
  have hn : valV kvs (Sum.inr z : Key) = none := val_no (by
    rw [pl_keys h3]; intro m
    obtain ⟨y, hy, e⟩ := List.mem_map.mp m
    exact hz (by rw [← Sum.inr.inj e]; exact hy))
  refine ⟨fun b o n e => by rw [upd_ne n]; exact h b o n e, _, upd_same, ?_⟩
  rw [putK_new _ hn]
  rw [putK_new _ hn] at tk
  exact (L2.Paired.mapP h3 fun _ _ f => f.to tk).snoc ⟨rfl, q, rfl, tk _ _ hq⟩
def spPlaces : Sp := fun vs H Q _ => ∃ (d : Addr) (ks : List (Nd × List Str)), vs = [.ref d] ∧ KindsAt H d ks ∧ ((plOf ks).map (·.1)).Nodup ∧ (plOf ks).length ≤ 60 ∧ ks.length ≤ 60 ∧ ∀ H' r, Same H H' → H r = none → PlAt H' r (plOf ks) → Q (.ref r) H'
section
variable {P : Program} {w : World} {K : PySem.W.Frag} {mg : Str → Option Value} {base : Heap}
theorem sc__places : FnScope ["kinds", "placed", "node", "sheets", "sheet"] ["kinds"] (defScope s__places) := ⟨rfl, rfl, rfl, by decide +kernel, rfl, by decide +kernel, by decide +kernel⟩
theorem ok__places {f : Addr} {fd : FuncData} (F : Fun K "_places" "_places" s__places f fd) : FnOk P w K mg base CX0 1 f fd ["kinds"] spPlaces := by
  refine F.ok sc__places (fun vs H Q E h => ?_) (fun cdv A outer s H vs Q E hr h => ?_)
  · obtain ⟨d, ks, rfl, _⟩ := h; rfl
  · obtain ⟨d, ks, rfl, ⟨kvs, hd, pr⟩, hnd, h60, hk60, k⟩ := h
    have hu := hu_of hr
    refine ⟨_, (pss_cons (ps_set (i := 1) sc__places.nd rfl (Or.inl rfl) pe_dnewK)
      (pss_cons (ps_lock (ps_for PassesOwn.never rfl (pi_pairsT (pv 0)) (pg_tup rfl (pgs_cons (pg_name (i := 2) sc__places.nd rfl (Or.inl rfl)) (pgs_cons (pg_name (i := 3) sc__places.nd rfl (Or.inl rfl)) pgs_nil)))
      (pss_one (ps_for PassesOwn.never rfl (pi_list (pv 3)) (pg_name (i := 4) sc__places.nd rfl (Or.inl rfl))
      (pss_cons (ps_if (pt_cmp (pc_din hu (pv 4) (pv 1))) (pss_one ps_never) pss_nil)
      (pss_one (ps_dput hu (pv 1) (pv 4) (pv 2) rfl)))))))
      (pss_one (ps_ret (pv 1))))), ?_⟩
    refine fun p hp => ?_
    have npd : p ≠ d := fun z => by subst z; rw [hd] at hp; cases hp
    have hd1 : upd H p (.dK []) d = some (.dT kvs) := by rw [upd_ne npd.symm]; exact hd
    refine ⟨d, .dT kvs, hd1, trivial, fun od => ?_⟩
    have hkl : kvs.length = ks.length := Paired.length pr
    have tkf : TK H (upd (upd H p (.dK [])) d (.frz od (.dT kvs))) := (TK.new hp).trans (lock_tk hd1)
    refine ⟨_, rfl, d, od, kvs, rfl, upd_same, for_it walk_pairsT (fun i σ' H' => ∃ v2 v3 v4 : Option V, σ' = [some (.ref d), some (.ref p), v2, v3, v4] ∧ PlI (upd (upd H p (.dK [])) d (.frz od (.dT kvs))) H' p (plOf (ks.take i)))
      ⟨none, none, none, rfl, fun b o n e => e, [], by rw [upd_ne npd, upd_same], .nil⟩ (fun i σ' H' _ ⟨_, _, _, _, q⟩ => q.1 _ _ npd.symm upd_same) ?_ ?_⟩
    · rintro i x σ1 H1 H2 hi ⟨v2, v3, v4, rfl, I1⟩ ⟨T, q, kk, v, hk, rfl, hT, hq, rfl⟩
      obtain ⟨kn, hkn, ⟨e1, l, e2, hl⟩⟩ := paired_at pr hk
      simp only at e1 e2
      subst e1 e2
      have I2 := I1.new (o := .tup [.ref q, .ref l]) hT
      have nlp : l ≠ p := fun z => by subst z; rw [hl] at hp; cases hp
      have nld : l ≠ d := fun z => by subst z; rw [hd] at hl; cases hl
      have hlf : upd (upd H p (.dK [])) d (.frz od (.dT kvs)) l = some (.lst (kn.2.map V.str)) := by rw [upd_ne nld, upd_ne nlp]; exact hl
      have nqT : q ≠ T := fun z => by subst z; rw [hq] at hT; cases hT
      have nqp : q ≠ p := by
        obtain ⟨_, kv', e, _⟩ := I1
        rintro rfl; rw [hq] at e; cases e
      refine ⟨T, _, rfl, SqT.of upd_same, rfl, _, _, rfl, _, _, rfl, rfl, ?_⟩
      refine ⟨_, rfl, l, rfl, ⟨_, SqL.of (I2.1 _ _ nlp hlf)⟩, for_list (K := K) (a := l) (xs := kn.2.map V.str) (fun j σ' H' => ∃ v4 : Option V, σ' = [some (.ref d), some (.ref p), some (.ref q), some (.ref l), v4] ∧ PlI (upd (upd H p (.dK [])) d (.frz od (.dT kvs))) H' p (plOf (ks.take i) ++ (kn.2.take j).map fun z => (z, kn.1)) ∧ NdA H' q kn.1)
        ⟨v4, rfl, by rw [List.take_zero, List.map_nil, List.append_nil]; exact I2, by show upd _ _ _ _ = _; rw [upd_ne nqT]; exact hq⟩ (fun j σ' H' _ ⟨_, _, q, _⟩ => SqL.of (q.1 _ _ nlp hlf)) ?_ ?_⟩
      · rintro j x σ2 H3 hj ⟨v4, rfl, ⟨h3a, kv3, h3b, h3c⟩, h3q⟩
        rw [List.getElem?_map] at hj
        obtain ⟨z, hz1, rfl⟩ : ∃ z, kn.2[j]? = some z ∧ x = .str z := by
          cases e : kn.2[j]? with
          | none => rw [e] at hj; cases hj
          | some z => rw [e] at hj; exact ⟨z, rfl, (Option.some.inj hj).symm⟩
        have hsp := plOf_split hkn
        have step : (kn.2.take (j + 1)).map (fun z => (z, kn.1)) = (kn.2.take j).map (fun z => (z, kn.1)) ++ [(z, kn.1)] := by rw [List.take_add_one, hz1, List.map_append]; rfl
        have hpre : ∃ R, plOf ks = plOf (ks.take i) ++ (kn.2.take j).map (fun z => (z, kn.1)) ++ (z, kn.1) :: R := by
          refine ⟨(kn.2.drop (j + 1)).map (fun z => (z, kn.1)) ++ plOf (ks.drop (i + 1)), ?_⟩
          rw [hsp]
          have : kn.2 = kn.2.take j ++ z :: kn.2.drop (j + 1) := by
            obtain ⟨hj', rfl⟩ := List.getElem?_eq_some_iff.mp hz1
            rw [List.getElem_cons_drop, List.take_append_drop]
          conv => lhs; rw [this]
          simp only [List.map_append, List.map_cons, List.append_assoc, List.cons_append]
        obtain ⟨R, hR⟩ := hpre
        have hzn : z ∉ (plOf (ks.take i) ++ (kn.2.take j).map fun z => (z, kn.1)).map (·.1) := by
          rw [hR, List.map_append, List.map_cons] at hnd
          intro m
          exact (List.nodup_append.mp hnd).2.2 _ m _ (List.mem_cons_self) rfl
        have hlen : kv3.length < sizeLine := by
          rw [Paired.length h3c]
          have : (plOf ks).length ≤ 60 := h60
          rw [hR, List.length_append] at this
          exact small1000 (by omega)
        have hno : valV kv3 (Sum.inr z : Key) = none := val_no (by
          rw [pl_keys h3c]; intro m
          obtain ⟨y, hy, e⟩ := List.mem_map.mp m
          exact hzn (by rw [← Sum.inr.inj e]; exact hy))
        refine ⟨_, rfl, _, rfl, p, _, rfl, DGet.k (k := .inr z) h3b, ?_⟩
        rw [hno]
        refine ⟨_, rfl, iteF ?_⟩
        refine ⟨_, rfl, _, rfl, _, rfl, p, _, rfl, DPut.k (k := .inr z) h3b hlen, ?_⟩
        refine ⟨_, rfl, ?_, ?_⟩
        · rw [step, ← List.append_assoc]
          exact PlI.put h3a h3b h3c hzn h3q
        · show upd _ _ _ _ = _
          rw [upd_ne nqp]; exact h3q
      · rintro σ2 H3 ⟨v4, rfl, I3, _⟩
        rw [List.length_map, List.take_length] at I3
        refine ⟨_, _, _, rfl, ?_⟩
        rw [plOf_take hkn]
        exact I3
    · rintro σ1 H1 ⟨v2, v3, v4, rfl, h1a, kv1, h1b, h1c⟩
      rw [hkl, List.take_length] at h1c
      have hdd := h1a _ _ npd.symm upd_same
      refine ⟨hdd, _, rfl, k _ p (fun b o e => ?_) hp ⟨kv1, by rw [upd_ne npd]; exact h1b, L2.Paired.mapP h1c fun _ _ f => f.to (TK.put hdd (by intro z; exact nofun))⟩⟩
      by_cases hb : b = d
      · subst hb; rw [upd_same]; rw [hd] at e; exact e
      · rw [upd_ne hb]
        refine h1a _ _ (ne_of_none e hp) ?_
        rw [upd_ne hb, upd_ne (ne_of_none e hp)]; exact e
end
end KN


set_option Elab.async false
set_option linter.all false
set_option maxRecDepth 100000
set_option maxHeartbeats 4000000
namespace KN
open PySem L2
def par (ps : List (Nd × Option Nd)) (n : Nd) : Option Nd := (ps.find? fun p => decide (p.1 = n)).bind (·.2)
inductive Up (ps : List (Nd × Option Nd)) : Nd → Nd → Prop
  | rf (n : Nd) : Up ps n n
  | st {a b c : Nd} : Up ps a b → par ps b = some c → Up ps a c
theorem par_ok {ps : List (Nd × Option Nd)} (h : ∀ p ∈ ps, PaOk p) {n x : Nd} (e : par ps n = some x) : NdOk n ∧ NdOk x ∧ n.1 < x.1 := by
  unfold par at e
  cases f : ps.find? (fun p => decide (p.1 = n)) with
  | none => rw [f] at e; cases e
  | some p =>
    rw [f] at e
    have hm := List.mem_of_find?_eq_some f
    have hn : p.1 = n := by have := List.find?_some f; simpa using this
    obtain ⟨h1, h2⟩ := h p hm
    rw [hn] at h1 h2
    exact ⟨h1, h2 x e⟩
theorem par_val {H : Hp} {kvs : List (List Key × V)} {ps : List (Nd × Option Nd)} (h : Paired (PaR H) kvs ps) (n : Nd) : Tp H ((valV kvs (nK n)).getD .non) (oN (par ps n)) := by
  unfold par valV
  induction h with
  | nil => exact .non
  | @cons q p kvs ps f _ ih =>
    obtain ⟨f1, f2⟩ := f
    by_cases e : p.1 = n
    · rw [List.find?_cons_of_pos (by rw [decide_eq_true_iff, f1, e]), List.find?_cons_of_pos (by rw [decide_eq_true_iff]; exact e)]
      exact f2
    · rw [List.find?_cons_of_neg (by rw [decide_eq_true_iff, f1]; exact fun z => e (nK_inj z)), List.find?_cons_of_neg (by rw [decide_eq_true_iff]; exact e)]
      exact ih
def LyAt (H : Hp) (r : Addr) (L : List (Nd × Option Nd)) : Prop := ∃ kvs, H r = some (.dT kvs) ∧ Paired (PaR H) kvs L
theorem pa_keys {H : Hp} {kvs : List (List Key × V)} {L : List (Nd × Option Nd)} (h : Paired (PaR H) kvs L) : kvs.map (·.1) = (L.map (·.1)).map nK := by
  induction h with
  | nil => rfl
  | cons f _ ih => rw [List.map_cons, List.map_cons, List.map_cons, ih, f.1]
theorem valV_nd {kvs : List (List Key × V)} {ns : List Nd} (h : kvs.map (·.1) = ns.map nK) (n : Nd) : (valV kvs (nK n)).isSome = decide (n ∈ ns) := by
  cases e : valV kvs (nK n) with
  | none =>
    refine (decide_eq_false fun m => ?_).symm
    have : nK n ∈ kvs.map (·.1) := by rw [h]; exact List.mem_map.mpr ⟨n, m, rfl⟩
    obtain ⟨q, hq, eq⟩ := List.mem_map.mp this
    rw [← eq] at e
    exact absurd hq (fun hq => valV_not e (List.mem_map.mpr ⟨q, hq, rfl⟩))
  | some v =>
    refine (decide_eq_true ?_).symm
    have : nK n ∈ kvs.map (·.1) := List.mem_map.mpr ⟨_, valV_mem e, rfl⟩
    rw [h] at this
    obtain ⟨m, hm, eq⟩ := List.mem_map.mp this
    rw [← nK_inj eq]; exact hm
def rk : Option Nd → Nat
  | none => 0
  | some n => (6 - n.1).toNat
/-- what lies in what, so far: at is where the climb stands -/
structure LyP (ks : List (Nd × List Str)) (ps : List (Nd × Option Nd)) (at_ : Option Nd) (L : List (Nd × Option Nd)) : Prop where
  nd : (L.map (·.1)).Nodup
  par : ∀ p ∈ L, p.2 = KN.par ps p.1
  ok : ∀ p ∈ L, NdOk p.1
  up : ∀ p ∈ L, ∃ k ∈ ks, Up ps k.1 p.1
  cl : ∀ p ∈ L, ∀ x, p.2 = some x → x ∈ L.map (·.1) ∨ at_ = some x
  atk : ∀ x, at_ = some x → NdOk x ∧ ∃ k ∈ ks, Up ps k.1 x
def spUpward : Sp := fun vs H Q _ => ∃ (d d2 : Addr) (ks : List (Nd × List Str)) (ps : List (Nd × Option Nd)), vs = [.ref d, .ref d2] ∧ KindsAt H d ks ∧ ParAt H d2 ps ∧ d ≠ d2 ∧ (∀ k ∈ ks, KdOk k) ∧ (∀ p ∈ ps, PaOk p) ∧ ks.length ≤ 60 ∧
  ∀ H' r L, Same H H' → H r = none → LyAt H' r L → LyP ks ps none L → (∀ k ∈ ks, k.1 ∈ L.map (·.1)) → L.length ≤ 360 → Q (.ref r) H'
def LyI (Hf H' : Hp) (p : Addr) (L : List (Nd × Option Nd)) : Prop := (∀ b o, b ≠ p → Hf b = some o → H' b = some o) ∧ LyAt H' p L
section
variable {P : Program} {w : World} {K : PySem.W.Frag} {mg : Str → Option Value} {base : Heap}
theorem sc__upward : FnScope ["kinds", "parents", "lying", "kind", "node"] ["kinds", "parents"] (defScope s__upward) := ⟨rfl, rfl, rfl, by decide +kernel, rfl, by decide +kernel, by decide +kernel⟩
theorem ok__upward {f : Addr} {fd : FuncData} (F : Fun K "_upward" "_upward" s__upward f fd) : FnOk P w K mg base CX0 1 f fd ["kinds", "parents"] spUpward := by
  refine F.ok sc__upward (fun vs H Q E h => ?_) (fun cdv A outer s H vs Q E hr h => ?_)
  · obtain ⟨d, d2, ks, ps, rfl, _⟩ := h; rfl
  · obtain ⟨d, d2, ks, ps, rfl, ⟨kvs, hd, pr⟩, ⟨kvs2, hd2, pr2⟩, ndd, hok, hpo, hk60, k⟩ := h
    have hu := hu_of hr
    refine ⟨_, (pss_cons (ps_set (i := 2) sc__upward.nd rfl (Or.inl rfl) pe_dnewT)
      (pss_cons (ps_lock (ps_for PassesOwn.never rfl (pi_keys (pv 0)) (pg_name (i := 3) sc__upward.nd rfl (Or.inl rfl))
      (pss_cons (ps_set (i := 4) sc__upward.nd rfl (Or.inl rfl) (pv 3))
      (pss_one (ps_while PassesOwn.never (PW.pt (pw_and (pt_cmpR op_notN (pv 4) pe_non (nomark _)) (pw_and1 (pt_cmp (pc_dnotin hu (pv 4) (pv 2))))))
      (pss_cons (ps_dput hu (pv 2) (pv 4) (pe_dget1 hu (pv 1) (pv 4) ⟨rfl, rfl, rfl, rfl⟩) rfl)
      (pss_one (ps_set (i := 4) sc__upward.nd rfl (Or.inl rfl) (pe_dget hu (pv 2) (pv 4) (fun _ _ => rfl))))))))))
      (pss_one (ps_ret (pv 2))))), ?_⟩
    refine fun p hp => ?_
    have npd : p ≠ d := fun z => by subst z; rw [hd] at hp; cases hp
    have npd2 : p ≠ d2 := fun z => by subst z; rw [hd2] at hp; cases hp
    have hd1 : upd H p (.dT []) d = some (.dT kvs) := by rw [upd_ne npd.symm]; exact hd
    refine ⟨d, .dT kvs, hd1, trivial, fun od => ?_⟩
    have hkl : kvs.length = ks.length := Paired.length pr
    have tkf : TK H (upd (upd H p (.dT [])) d (.frz od (.dT kvs))) := (TK.new hp).trans (lock_tk hd1)
    have hd2f : upd (upd H p (.dT [])) d (.frz od (.dT kvs)) d2 = some (.dT kvs2) := by rw [upd_ne ndd.symm, upd_ne npd2.symm]; exact hd2
    refine ⟨_, rfl, d, od, rfl, .inr ⟨kvs, upd_same, for_it walk_keysT (fun i σ' H' => ∃ (v3 v4 : Option V) (L : List (Nd × Option Nd)), σ' = [some (.ref d), some (.ref d2), some (.ref p), v3, v4] ∧ LyI (upd (upd H p (.dT [])) d (.frz od (.dT kvs))) H' p L ∧ LyP ks ps none L ∧ (∀ k ∈ ks.take i, k.1 ∈ L.map (·.1)) ∧ L.length ≤ 6 * i)
      ⟨none, none, [], rfl, ⟨fun b o n e => e, [], by rw [upd_ne npd, upd_same], .nil⟩, ⟨List.nodup_nil, (fun _ h => by cases h), (fun _ h => by cases h), (fun _ h => by cases h), (fun _ h => by cases h), (fun _ h => by cases h)⟩, (fun _ h => by cases h), Nat.le_refl _⟩ (fun i σ' H' _ ⟨_, _, _, _, q, _⟩ => q.1 _ _ npd.symm upd_same) ?_ ?_⟩⟩
    · rintro i x σ1 H1 H2 hi ⟨v3, v4, L, rfl, I1, L1, al, hll⟩ ⟨rfl, kk, v, q, hk, rfl, hq⟩
      obtain ⟨kn, hkn, ⟨e1, l, e2, hl⟩⟩ := paired_at pr hk
      simp only at e1 e2
      subst e1 e2
      obtain ⟨hkok, hk0, _⟩ := hok kn (List.mem_of_getElem? hkn)
      have hqn : NdA H2 q kn.1 := hq
      refine ⟨_, rfl, ?_⟩
      refine ⟨fun m σ H' => ∃ (L : List (Nd × Option Nd)) (at_ : Option Nd) (va : V), σ = [some (.ref d), some (.ref d2), some (.ref p), some (.ref q), some va] ∧ LyI (upd (upd H p (.dT [])) d (.frz od (.dT kvs))) H' p L ∧ LyP ks ps at_ L ∧ (∀ k ∈ ks.take i, k.1 ∈ L.map (·.1)) ∧ (kn.1 ∈ L.map (·.1) ∨ at_ = some kn.1) ∧ Tp H' va (oN at_) ∧ m = rk at_ ∧ L.length + m ≤ 6 * i + 6,
        ⟨(6 - kn.1.1).toNat, L, some kn.1, .ref q, rfl, I1, ⟨L1.nd, L1.par, L1.ok, L1.up, fun p hp x e => (by rcases L1.cl p hp x e with h | h; exact .inl h; cases h), fun x e => by cases e; exact ⟨hkok, kn, List.mem_of_getElem? hkn, .rf _⟩⟩, al, .inr rfl, Tp.nd hqn, rfl, by have := hkok.1; omega⟩, ?_⟩
      rintro m σ1 H1 ⟨L, at_, va, rfl, I1, L1, al, hkn2, hva, hm, hlm⟩
      have take1 : ∀ L' : List (Nd × Option Nd), (∀ k ∈ ks.take i, k.1 ∈ L'.map (·.1)) → kn.1 ∈ L'.map (·.1) → ∀ k ∈ ks.take (i + 1), k.1 ∈ L'.map (·.1) := fun L' a b k hk => by
        rw [List.take_add_one, hkn] at hk
        rcases List.mem_append.mp hk with h | h
        · exact a k h
        · have : k = kn := by simpa using h
          subst this; exact b
      cases at_ with
      | none =>
        cases hva
        refine ⟨_, rfl, rfl, _, rfl, iteF (iteF ?_)⟩
        refine ⟨_, _, L, rfl, I1, L1, take1 L al ?_, by omega⟩
        rcases hkn2 with h | h
        · exact h
        · cases h
      | some n =>
        obtain ⟨a, rfl, ha⟩ := Tp.nd_inv hva
        obtain ⟨h1a, kv1, h1b, h1c⟩ := id I1
        obtain ⟨hnok, kr, hkr, hup⟩ := L1.atk n rfl
        have hkeys := pa_keys h1c
        refine ⟨_, rfl, rfl, _, rfl, iteT ?_⟩
        refine ⟨_, rfl, _, rfl, p, _, rfl, DGet.n h1b ha, _, rfl, ?_⟩
        rw [valV_nd hkeys]
        by_cases hin : n ∈ L.map (·.1)
        · rw [decide_eq_true hin]
          refine iteF ?_
          refine ⟨_, _, L, rfl, I1, ⟨L1.nd, L1.par, L1.ok, L1.up, fun p hp x e => ?_, fun x e => by cases e⟩, take1 L al ?_, by omega⟩
          · rcases L1.cl p hp x e with h | h
            · exact .inl h
            · cases h; exact .inl hin
          · rcases hkn2 with h | h
            · exact h
            · cases h; exact hin
        · rw [decide_eq_false hin]
          refine iteT ?_
          refine ⟨fun σ' H' => ∃ (L' : List (Nd × Option Nd)) (at_ : Option Nd) (va : V), σ' = [some (.ref d), some (.ref d2), some (.ref p), some (.ref q), some va] ∧ LyI (upd (upd H p (.dT [])) d (.frz od (.dT kvs))) H' p L' ∧ LyP ks ps at_ L' ∧ (∀ k ∈ ks.take i, k.1 ∈ L'.map (·.1)) ∧ (kn.1 ∈ L'.map (·.1) ∨ at_ = some kn.1) ∧ Tp H' va (oN at_) ∧ L'.length + rk at_ ≤ 6 * i + 6 ∧ rk at_ < m,
            fun σ' H' ⟨L', at_, va, e1, e2, e3, e4, e5, e6, e7, e8⟩ => ⟨_, e8, L', at_, va, e1, e2, e3, e4, e5, e6, rfl, e7⟩, ?_⟩
          have hd2' := h1a _ _ npd2.symm hd2f
          have tk0 : TK H H1 := fun b xs e => by
            have e' := tkf b xs e
            exact h1a _ _ (ne_of_none e hp) e'
          have pr2' : Paired (PaR H1) kvs2 ps := L2.Paired.mapP pr2 fun _ _ f => ⟨f.1, f.2.to tk0⟩
          have hvp := par_val pr2' n
          have hno : valV kv1 (nK n) = none := by
            have := valV_nd hkeys n
            rw [decide_eq_false hin] at this
            cases e : valV kv1 (nK n) with
            | none => rfl
            | some v => rw [e] at this; cases this
          have hkl1 : kv1.length = L.length := Paired.length h1c
          have hm1 : 1 ≤ m := by rw [hm]; have := hnok.2.1; show 1 ≤ (6 - n.1).toNat; omega
          have hi60 : i < 60 := by omega
          have nap : a ≠ p := by rintro rfl; rw [ha] at h1b; cases h1b
          refine ⟨_, rfl, d2, rfl, .inr ⟨kvs2, Rd.of hd2'⟩, _, rfl, _, DGet.n hd2' ha, ?_⟩
          refine ⟨_, rfl, _, rfl, p, _, rfl, DPut.t (k := nK n) h1b ha (by rw [hkl1]; exact small1000 (by omega)), ?_⟩
          have tkp : TK H1 (upd H1 p (.dT (putK kv1 (nK n) ((valV kvs2 (nK n)).getD .non)))) := TK.put h1b (by intro z; exact nofun)
          have hg : valV (putK kv1 (nK n) ((valV kvs2 (nK n)).getD .non)) (nK n) = some ((valV kvs2 (nK n)).getD .non) := by rw [valV_put, if_pos rfl]
          refine ⟨_, rfl, _, rfl, p, _, rfl, by rw [← hg]; exact DGet.n upd_same (tkp _ _ ha), ?_⟩
          have keys1 : (L ++ [(n, par ps n)]).map (·.1) = L.map (·.1) ++ [n] := by rw [List.map_append]; rfl
          refine ⟨L ++ [(n, par ps n)], par ps n, _, rfl, ⟨fun b o e g => by rw [upd_ne e]; exact h1a b o e g, _, upd_same, ?_⟩, ?_, ?_, ?_, hvp.to tkp, ?_, ?_⟩
          · rw [putK_new _ hno] at tkp ⊢
            exact (L2.Paired.mapP h1c fun _ _ f => ⟨f.1, f.2.to tkp⟩).snoc ⟨rfl, hvp.to tkp⟩
          · refine ⟨?_, ?_, ?_, ?_, ?_, ?_⟩
            · rw [keys1]
              exact List.nodup_append.mpr ⟨L1.nd, (List.nodup_cons.mpr ⟨List.not_mem_nil, List.nodup_nil⟩), fun x hx y hy => by rw [List.mem_singleton] at hy; subst hy; rintro rfl; exact hin hx⟩
            · intro y hy
              rcases List.mem_append.mp hy with h | h
              · exact L1.par y h
              · rw [List.mem_singleton] at h; subst h; rfl
            · intro y hy
              rcases List.mem_append.mp hy with h | h
              · exact L1.ok y h
              · rw [List.mem_singleton] at h; subst h; exact hnok
            · intro y hy
              rcases List.mem_append.mp hy with h | h
              · exact L1.up y h
              · rw [List.mem_singleton] at h; subst h; exact ⟨kr, hkr, hup⟩
            · intro y hy x e
              rw [keys1]
              rcases List.mem_append.mp hy with h | h
              · rcases L1.cl y h x e with g | g
                · exact .inl (List.mem_append_left _ g)
                · cases g; exact .inl (List.mem_append_right _ (List.mem_singleton.mpr rfl))
              · rw [List.mem_singleton] at h; subst h; exact .inr e
            · intro x e
              exact ⟨(par_ok hpo e).2.1, kr, hkr, .st hup e⟩
          · intro k hk; rw [keys1]; exact List.mem_append_left _ (al k hk)
          · rw [keys1]
            rcases hkn2 with h | h
            · exact .inl (List.mem_append_left _ h)
            · cases h; exact .inl (List.mem_append_right _ (List.mem_singleton.mpr rfl))
          · rw [List.length_append, List.length_singleton]
            have hlt : rk (par ps n) + 1 ≤ m := by
              rw [hm]
              cases e : par ps n with
              | none => show 0 + 1 ≤ (6 - n.1).toNat; have := hnok.2.1; omega
              | some x => have h3 := par_ok hpo e; show (6 - x.1).toNat + 1 ≤ (6 - n.1).toNat; have h1 := h3.2.2; have h2 := h3.2.1.2.1; omega
            omega
          · rw [hm]
            cases e : par ps n with
            | none => show 0 < (6 - n.1).toNat; have := hnok.2.1; omega
            | some x => have h3 := par_ok hpo e; show (6 - x.1).toNat < (6 - n.1).toNat; have h1 := h3.2.2; have h2 := h3.2.1.2.1; omega
    · rintro σ1 H1 ⟨v3, v4, L, rfl, ⟨h1a, kv1, h1b, h1c⟩, L1, al, hll⟩
      rw [hkl, List.take_length] at al
      have hdd := h1a _ _ npd.symm upd_same
      refine ⟨hdd, _, rfl, k _ p L (fun b o e => ?_) hp ⟨kv1, by rw [upd_ne npd]; exact h1b, L2.Paired.mapP h1c fun _ _ f => ⟨f.1, f.2.to (TK.put hdd (by intro z; exact nofun))⟩⟩ L1 al (by omega)⟩
      by_cases hb : b = d
      · subst hb; rw [upd_same]; rw [hd] at e; exact e
      · rw [upd_ne hb]
        refine h1a _ _ (ne_of_none e hp) ?_
        rw [upd_ne hb, upd_ne (ne_of_none e hp)]; exact e
end
end KN


set_option Elab.async false
set_option linter.all false
set_option maxRecDepth 100000
set_option maxHeartbeats 4000000
namespace KN
open PySem L2
/-! The class Tree. -/
structure TrOk (pl : List (Str × Nd)) (L : List (Nd × Option Nd)) : Prop where
  nd : (L.map (·.1)).Nodup
  cl : ∀ p ∈ L, ∀ x, p.2 = some x → x ∈ L.map (·.1)
  ok : ∀ p ∈ L, NdOk p.1
  up : ∀ p ∈ L, ∀ x, p.2 = some x → p.1.1 < x.1
  pk : ∀ q ∈ pl, q.2 ∈ L.map (·.1)
  pnd : (pl.map (·.1)).Nodup
  pw : ∀ q ∈ pl, IsW q.1
  pln : pl.length ≤ 60
  lln : L.length ≤ 360
theorem kl_ : ¬ (("_kind_of" : Str) = "_lying") := by decide +kernel
def tf (k l : Addr) : List (Str × V) := putF "_lying" (.ref l) (putF "_kind_of" (.ref k) [])
theorem tf_k (k l : Addr) : (tf k l).lookup ("_kind_of" : Str) = some (.ref k) := by
  unfold tf; rw [lookup_putF, if_neg kl_, lookup_putF, if_pos rfl]
theorem tf_l (k l : Addr) : (tf k l).lookup ("_lying" : Str) = some (.ref l) := by
  unfold tf; rw [lookup_putF, if_pos rfl]
theorem tf_no (k l : Addr) {m : Str} (h1 : ¬ m = "_lying") (h2 : ¬ m = "_kind_of") : (tf k l).lookup m = none := by
  unfold tf; rw [lookup_putF, if_neg h1, lookup_putF, if_neg h2]; rfl
structure TreeI (C : Addr) (H : Hp) (t dx k l : Addr) (kvs : List (Key × V)) (lvs : List (List Key × V)) (pl : List (Str × Nd)) (L : List (Nd × Option Nd)) : Prop where
  ob : H t = some (.ins C dx (tf k l))
  kd : H k = some (.dK kvs)
  kr : Paired (PlR H) kvs pl
  ly : H l = some (.dT lvs)
  lr : Paired (PaR H) lvs L
  ok : TrOk pl L
def TreeAt (C : Addr) (H : Hp) (t : Addr) (pl : List (Str × Nd)) (L : List (Nd × Option Nd)) : Prop := ∃ dx k l kvs lvs, TreeI C H t dx k l kvs lvs pl L
theorem TreeI.keep {C : Addr} {H H' : Hp} {t dx k l : Addr} {kvs : List (Key × V)} {lvs : List (List Key × V)} {pl : List (Str × Nd)} {L : List (Nd × Option Nd)} (B : TreeI C H t dx k l kvs lvs pl L) (s : Same H H') : TreeI C H' t dx k l kvs lvs pl L :=
  ⟨s _ _ B.ob, s _ _ B.kd, L2.Paired.mapP B.kr fun _ _ f => f.to (TK.of s), s _ _ B.ly, L2.Paired.mapP B.lr fun _ _ f => ⟨f.1, f.2.to (TK.of s)⟩, B.ok⟩
theorem TreeAt.keep {C : Addr} {H H' : Hp} {t : Addr} {pl : List (Str × Nd)} {L : List (Nd × Option Nd)} (B : TreeAt C H t pl L) (s : Same H H') : TreeAt C H' t pl L := by
  obtain ⟨dx, k, l, kvs, lvs, B⟩ := B; exact ⟨dx, k, l, kvs, lvs, B.keep s⟩
structure TrT (K : PySem.W.Frag) (C : Addr) : Prop where
  cl : Cls K C
  nK : NoAttr K C "_kind_of"
  nL : NoAttr K C "_lying"
def spTInit (C : Addr) : Sp := fun vs H Q _ => ∃ (t dx d d2 : Addr) (ks : List (Nd × List Str)) (ps : List (Nd × Option Nd)), vs = [.ref t, .ref d, .ref d2] ∧ H t = some (.ins C dx []) ∧ KindsAt H d ks ∧ ParAt H d2 ps ∧ d ≠ d2 ∧ (∀ k ∈ ks, KdOk k) ∧ (∀ p ∈ ps, PaOk p) ∧ ks.length ≤ 60 ∧ ps.length ≤ 60 ∧
  ((plOf ks).map (·.1)).Nodup ∧ (plOf ks).length ≤ 60 ∧ ∀ H' L, (∀ a o, a ≠ t → H a = some o → H' a = some o) → TreeAt C H' t (plOf ks) L → LyP ks ps none L → (∀ k ∈ ks, k.1 ∈ L.map (·.1)) → Q .non H'
theorem trok_of {ks : List (Nd × List Str)} {ps : List (Nd × Option Nd)} {L : List (Nd × Option Nd)} (hk : ∀ k ∈ ks, KdOk k) (hp : ∀ p ∈ ps, PaOk p) (nd : ((plOf ks).map (·.1)).Nodup) (h60 : (plOf ks).length ≤ 60) (P : LyP ks ps none L) (al : ∀ k ∈ ks, k.1 ∈ L.map (·.1)) (hl : L.length ≤ 360) : TrOk (plOf ks) L where
  nd := P.nd
  cl := fun p hp x e => by rcases P.cl p hp x e with h | h; exact h; cases h
  ok := P.ok
  up := fun p hp' x e => by have := P.par p hp'; rw [e] at this; exact (par_ok hp this.symm).2.2
  pk := fun q hq => by
    obtain ⟨k, hk', hq⟩ := List.mem_flatMap.mp hq
    obtain ⟨z, hz, rfl⟩ := List.mem_map.mp hq
    exact al k hk'
  pnd := nd
  pw := fun q hq => by
    obtain ⟨k, hk', hq⟩ := List.mem_flatMap.mp hq
    obtain ⟨z, hz, rfl⟩ := List.mem_map.mp hq
    exact (hk k hk').2.2.2.2.2 z hz
  pln := h60
  lln := hl
/-- the one of rank r above n, n itself where it is of that rank -/
def abv (L : List (Nd × Option Nd)) : Nat → Option Nd → Int → Option Nd
  | 0, _, _ => none
  | _ + 1, none, _ => none
  | f + 1, some n, r => if n.1 = r then some n else abv L f (par L n) r
def abvD (L : List (Nd × Option Nd)) (n : Nd) (r : Int) : Option Nd := abv L 8 (some n) r
theorem par_mem {L : List (Nd × Option Nd)} {n x : Nd} (e : par L n = some x) : (n, some x) ∈ L := by
  unfold par at e
  cases f : L.find? (fun p => decide (p.1 = n)) with
  | none => rw [f] at e; cases e
  | some p =>
    rw [f] at e
    have hm := List.mem_of_find?_eq_some f
    have hn : p.1 = n := by have := List.find?_some f; simpa using this
    have he : p.2 = some x := e
    rw [← hn, ← he]; exact hm
theorem rk_le {pl : List (Str × Nd)} {L : List (Nd × Option Nd)} (T : TrOk pl L) {n : Nd} (hn : n ∈ L.map (·.1)) : rk (par L n) + 1 ≤ rk (some n) ∧ ∀ x, par L n = some x → x ∈ L.map (·.1) := by
  obtain ⟨p, hp, rfl⟩ := List.mem_map.mp hn
  have h5 := (T.ok p hp).2.1
  cases e : par L p.1 with
  | none => exact ⟨by show 0 + 1 ≤ (6 - p.1.1).toNat; omega, fun x h => by cases h⟩
  | some x =>
    have hm := par_mem e
    have hu := T.up _ hm x rfl
    have hx := T.cl _ hm x rfl
    obtain ⟨q, hq, rfl⟩ := List.mem_map.mp hx
    have h6 := (T.ok q hq).2.1
    have hu' : p.1.1 < q.1.1 := hu
    exact ⟨by show (6 - q.1.1).toNat + 1 ≤ (6 - p.1.1).toNat; omega, fun y h => by cases h; exact hx⟩
def spTRefuse (C : Addr) : Sp := fun vs H Q _ => ∃ (t a : Addr) (n : Nd) (pl : List (Str × Nd)) (L : List (Nd × Option Nd)), vs = [.ref t, .ref a] ∧ TreeAt C H t pl L ∧ NdA H a n ∧ n ∈ L.map (·.1) ∧ ∀ H', Same H H' → Q .non H'
def spParent (C : Addr) : Sp := fun vs H Q _ => ∃ (t a : Addr) (n : Nd) (pl : List (Str × Nd)) (L : List (Nd × Option Nd)), vs = [.ref t, .ref a] ∧ TreeAt C H t pl L ∧ NdA H a n ∧ n ∈ L.map (·.1) ∧ ∀ H' v, Same H H' → Tp H' v (oN (par L n)) → Q v H'
def spAbove (C : Addr) : Sp := fun vs H Q _ => ∃ (t a : Addr) (n : Nd) (r : Int) (pl : List (Str × Nd)) (L : List (Nd × Option Nd)), vs = [.ref t, .ref a, .int r] ∧ TreeAt C H t pl L ∧ NdA H a n ∧ n ∈ L.map (·.1) ∧ ∀ H' v, Same H H' → Tp H' v (oN (abvD L n r)) → Q v H'
theorem ly_some {H : Hp} {lvs : List (List Key × V)} {L : List (Nd × Option Nd)} (h : Paired (PaR H) lvs L) {n : Nd} (hn : n ∈ L.map (·.1)) : ∃ v, valV lvs (nK n) = some v ∧ Tp H v (oN (par L n)) := by
  have h1 := valV_nd (pa_keys h) n
  rw [decide_eq_true hn] at h1
  have h2 := par_val h n
  cases e : valV lvs (nK n) with
  | none => rw [e] at h1; cases h1
  | some v => rw [e] at h2; exact ⟨v, rfl, h2⟩
section
variable {P : Program} {w : World} {K : PySem.W.Frag} {mg : Str → Option Value} {base : Heap} {C : Addr}
theorem sc_Tree___init__ : FnScope ["self", "kinds", "parents", "told", "outer"] ["self", "kinds", "parents"] (defScope s_Tree___init__) := ⟨rfl, rfl, rfl, by decide +kernel, rfl, by decide +kernel, by decide +kernel⟩
theorem ok_Tree_init {f : Addr} {fd : FuncData} (F : FunD K "__init__" "Tree.__init__" (defArgs s_Tree___init__) (defBody s_Tree___init__) (defScope s_Tree___init__) [V.non, V.non] [] f fd) (T : TrT K C) (c__is_kinds : C8.Cal P w K mg base 3 "_is_kinds" spIsKinds []) (c__places : C8.Cal P w K mg base 1 "_places" spPlaces []) (c__is_parents : C8.Cal P w K mg base 4 "_is_parents" spIsParents []) (c__upward : C8.Cal P w K mg base 1 "_upward" spUpward []) : FnOk P w K mg base CX0 5 f fd ["self", "kinds", "parents"] (spTInit C) := by
  refine F.ok sc_Tree___init__ (fun vs H Q E h => ?_) (fun cdv A outer s H vs Q E hr h => ?_)
  · obtain ⟨t, dx, d, d2, ks, ps, rfl, _⟩ := h; rfl
  · obtain ⟨t, dx, d, d2, ks, ps, rfl, ht, hk, hp, ndd, kok, pok, k60, p60, pnd, pl60, k⟩ := h
    have hu := hu_of hr
    refine ⟨_, (pss_cons (ps_set (i := 3) sc_Tree___init__.nd rfl (Or.inl rfl) (pe_ifExp (pt_cmpR op_isN (pv 1) pe_non (nomark _)) pe_dnewT (pv 1)))
      (pss_cons (ps_set (i := 4) sc_Tree___init__.nd rfl (Or.inl rfl) (pe_ifExp (pt_cmpR op_isN (pv 2) pe_non (nomark _)) pe_dnewT (pv 2)))
      (pss_cons (ps_if (pt_not (pt_val (C8.pe_c c__is_kinds hr (by decide) rfl (pa_cons (pv 3) pa_nil)))) (pss_one ps_never) pss_nil)
      (pss_cons (ps_fld (pv 0) (C8.pe_c c__places hr (by decide) rfl (pa_cons (pv 3) pa_nil)) rfl)
      (pss_cons (ps_if (pt_not (pt_val (C8.pe_c c__is_parents hr (by decide) rfl (pa_cons (pv 4) pa_nil)))) (pss_one ps_never) pss_nil)
      (pss_one (ps_fld (pv 0) (C8.pe_c c__upward hr (by decide) rfl (pa_cons (pv 3) (pa_cons (pv 4) pa_nil))) rfl))))))), ?_⟩
    refine ⟨_, rfl, rfl, _, rfl, iteF ⟨_, rfl, _, rfl, rfl, _, rfl, iteF ⟨_, rfl, ?_⟩⟩⟩
    refine ⟨_, rfl, d, ks, rfl, hk, kok, k60, fun H1 s1 => ⟨_, rfl, iteF ?_⟩⟩
    have hk1 : ∀ {G : Hp}, Same H G → KindsAt G d ks := fun s => by
      obtain ⟨kvs, e, r⟩ := hk
      exact ⟨kvs, s _ _ e, L2.Paired.mapP r fun _ _ f => ⟨f.1, f.2.imp fun l g => ⟨g.1, s _ _ g.2⟩⟩⟩
    refine ⟨_, rfl, d, ks, rfl, hk1 s1, pnd, pl60, k60, fun H2 r s2 hr0 hpl => ?_⟩
    have s12 := s1.trans s2
    refine ⟨_, rfl, t, C, dx, [], rfl, s12 _ _ ht, T.cl, T.nK, (by show 0 < 1000; decide), ?_⟩
    have tk3 : TK H2 (upd H2 t (.ins C dx (putF "_kind_of" (.ref r) []))) := TK.put (s12 _ _ ht) (by intro z; exact nofun)
    have ndt : d ≠ t := by obtain ⟨_, e, _⟩ := hk; rintro rfl; rw [ht] at e; cases e
    have nd2t : d2 ≠ t := by obtain ⟨_, e, _⟩ := hp; rintro rfl; rw [ht] at e; cases e
    have nrt : r ≠ t := fun z => by subst z; rw [s1 _ _ ht] at hr0; cases hr0
    have hk3 : KindsAt (upd H2 t (.ins C dx (putF "_kind_of" (.ref r) []))) d ks := by
      obtain ⟨kvs, e, rr⟩ := hk
      refine ⟨kvs, by rw [upd_ne ndt]; exact s12 _ _ e, L2.Paired.mapP rr fun _ _ f => ⟨f.1, f.2.imp fun l g => ⟨g.1, ?_⟩⟩⟩
      rw [upd_ne (by rintro rfl; rw [ht] at g; cases g.2)]; exact s12 _ _ g.2
    have hp3 : ParAt (upd H2 t (.ins C dx (putF "_kind_of" (.ref r) []))) d2 ps := by
      obtain ⟨kvs, e, rr⟩ := hp
      exact ⟨kvs, by rw [upd_ne nd2t]; exact s12 _ _ e, L2.Paired.mapP rr fun _ _ f => ⟨f.1, f.2.to ((TK.of s12).trans tk3)⟩⟩
    refine ⟨_, rfl, d2, ps, rfl, hp3, pok, p60, fun H4 s4 => ⟨_, rfl, iteF ?_⟩⟩
    have hk4 : KindsAt H4 d ks := by
      obtain ⟨kvs, e, rr⟩ := hk3
      exact ⟨kvs, s4 _ _ e, L2.Paired.mapP rr fun _ _ f => ⟨f.1, f.2.imp fun l g => ⟨g.1, s4 _ _ g.2⟩⟩⟩
    have hp4 : ParAt H4 d2 ps := by
      obtain ⟨kvs, e, rr⟩ := hp3
      exact ⟨kvs, s4 _ _ e, L2.Paired.mapP rr fun _ _ f => ⟨f.1, f.2.to (TK.of s4)⟩⟩
    refine ⟨_, rfl, _, rfl, d, d2, ks, ps, rfl, hk4, hp4, ndd, kok, pok, k60, fun H5 ly L s5 hly hL P5 al l360 => ?_⟩
    have s35 := s4.trans s5
    have ht5 := s35 _ _ (upd_same (H := H2) (a := t) (o := .ins C dx (putF "_kind_of" (.ref r) [])))
    have tk6 : TK H5 (upd H5 t (.ins C dx (tf r ly))) := TK.put ht5 (by intro z; exact nofun)
    have nly : ly ≠ t := fun z => by subst z; rw [s4 _ _ upd_same] at hly; cases hly
    refine ⟨_, rfl, t, C, dx, _, rfl, ht5, T.cl, T.nL, (by show 1 < 1000; decide), ?_⟩
    obtain ⟨pkv, hpk, prr⟩ := hpl
    obtain ⟨lkv, hlk, lrr⟩ := hL
    refine k _ L (fun a o na ea => ?_) ⟨dx, r, ly, pkv, lkv, upd_same, by rw [upd_ne nrt]; exact s35 _ _ (by rw [upd_ne nrt]; exact hpk), L2.Paired.mapP prr fun _ _ f => f.to ((tk3.trans (TK.of s35)).trans tk6), by rw [upd_ne nly]; exact hlk,
      L2.Paired.mapP lrr fun _ _ f => ⟨f.1, f.2.to tk6⟩, trok_of kok pok pnd pl60 P5 al l360⟩ P5 al
    rw [upd_ne na]
    exact s35 _ _ (by rw [upd_ne na]; exact s12 _ _ ea)
theorem sc_Tree__refuse : FnScope ["self", "node"] ["self", "node"] (defScope s_Tree__refuse) := ⟨rfl, rfl, rfl, by decide +kernel, rfl, by decide +kernel, by decide +kernel⟩
theorem ok_Tree_refuse {f : Addr} {fd : FuncData} (F : Fun K "_refuse" "Tree._refuse" s_Tree__refuse f fd) (T : TrT K C) (c_is_node : C8.Cal P w K mg base 2 "is_node" spNode []) : FnOk P w K mg base CX0 3 f fd ["self", "node"] (spTRefuse C) := by
  refine F.ok sc_Tree__refuse (fun vs H Q E h => ?_) (fun cdv A outer s H vs Q E hr h => ?_)
  · obtain ⟨t, a, n, pl, L, rfl, _⟩ := h; rfl
  · obtain ⟨t, a, n, pl, L, rfl, ⟨dx, kk, l, kvs, lvs, B⟩, ha, hn, k⟩ := h
    have hu := hu_of hr
    refine ⟨_, (pss_one (ps_if (PW.pt (pw_or (pt_not (pt_val (C8.pe_c c_is_node hr (by decide) rfl (pa_cons (pv 1) pa_nil)))) (pw_or1 (pt_cmp (pc_dnotin hu (pv 1) (pe_fld (pv 0) rfl)))))) (pss_one ps_never) pss_nil)), ?_⟩
    have hok : NdOk n := by obtain ⟨p, hp, rfl⟩ := List.mem_map.mp hn; exact B.ok.ok p hp
    refine ⟨_, rfl, a, n, rfl, ha, hok, fun H1 s1 => ⟨_, rfl, iteF ?_⟩⟩
    refine ⟨_, rfl, _, rfl, t, C, dx, _, _, rfl, s1 _ _ B.ob, T.cl, T.nL, tf_l _ _, l, _, rfl, DGet.n (s1 _ _ B.ly) (s1 _ _ ha), _, rfl, ?_⟩
    rw [valV_nd (pa_keys B.lr), decide_eq_true hn]
    exact iteF (k H1 s1)
theorem sc_Tree_parent : FnScope ["self", "node"] ["self", "node"] (defScope s_Tree_parent) := ⟨rfl, rfl, rfl, by decide +kernel, rfl, by decide +kernel, by decide +kernel⟩
theorem ok_Tree_parent {f : Addr} {fd : FuncData} (F : Fun K "parent" "Tree.parent" s_Tree_parent f fd) (T : TrT K C) (c_Tree__refuse : C8.Met P w K mg base 3 C "_refuse" (spTRefuse C) []) : FnOk P w K mg base CX0 4 f fd ["self", "node"] (spParent C) := by
  refine F.ok sc_Tree_parent (fun vs H Q E h => ?_) (fun cdv A outer s H vs Q E hr h => ?_)
  · obtain ⟨t, a, n, pl, L, rfl, _⟩ := h; rfl
  · obtain ⟨t, a, n, pl, L, rfl, TA, ha, hn, k⟩ := h
    have hu := hu_of hr
    refine ⟨_, (pss_cons (ps_expr (C8.pe_mt c_Tree__refuse hr (by decide) (pv 0) (pa_cons (pv 1) pa_nil)))
      (pss_one (ps_ret (pe_dget hu (pe_fld (pv 0) rfl) (pv 1) (fun _ _ => rfl))))), ?_⟩
    obtain ⟨dx, kk, l, kvs, lvs, B⟩ := id TA
    refine ⟨_, rfl, t, dx, _, rfl, B.ob, tf_no _ _ (by decide +kernel) (by decide +kernel), _, rfl, t, a, n, pl, L, rfl, TA, ha, hn, fun H1 s1 => ?_⟩
    obtain ⟨v, hv, tv⟩ := ly_some B.lr hn
    refine ⟨_, rfl, t, C, dx, _, _, rfl, s1 _ _ B.ob, T.cl, T.nL, tf_l _ _, _, rfl, l, v, rfl, by rw [← hv]; exact DGet.n (s1 _ _ B.ly) (s1 _ _ ha), k H1 v s1 (tv.to (TK.of s1))⟩
theorem sc_Tree_above : FnScope ["self", "node", "rank", "at"] ["self", "node", "rank"] (defScope s_Tree_above) := ⟨rfl, rfl, rfl, by decide +kernel, rfl, by decide +kernel, by decide +kernel⟩
theorem ok_Tree_above {f : Addr} {fd : FuncData} (F : Fun K "above" "Tree.above" s_Tree_above f fd) (T : TrT K C) (c_Tree__refuse : C8.Met P w K mg base 3 C "_refuse" (spTRefuse C) []) : FnOk P w K mg base CX0 4 f fd ["self", "node", "rank"] (spAbove C) := by
  refine F.ok sc_Tree_above (fun vs H Q E h => ?_) (fun cdv A outer s H vs Q E hr h => ?_)
  · obtain ⟨t, a, n, r, pl, L, rfl, _⟩ := h; rfl
  · obtain ⟨t, a, n, r, pl, L, rfl, TA, ha, hn, k⟩ := h
    have hu := hu_of hr
    refine ⟨_, (pss_cons (ps_expr (C8.pe_mt c_Tree__refuse hr (by decide) (pv 0) (pa_cons (pv 1) pa_nil)))
      (pss_cons (ps_set (i := 3) sc_Tree_above.nd rfl (Or.inl rfl) (pv 1))
      (pss_cons (ps_while PassesOwn.never (PW.pt (pw_and (pt_cmpR op_notN (pv 3) pe_non (nomark _)) (pw_and1 (pt_cmpR op_ne (pe_ix ix_tup (pv 3) pe_int (fun _ _ => rfl)) (pv 2) (nomark _)))))
      (pss_one (ps_set (i := 3) sc_Tree_above.nd rfl (Or.inl rfl) (pe_dget hu (pe_fld (pv 0) rfl) (pv 3) (fun _ _ => rfl)))))
      (pss_one (ps_ret (pv 3)))))), ?_⟩
    obtain ⟨dx, kk, l, kvs, lvs, B⟩ := id TA
    refine ⟨_, rfl, t, dx, _, rfl, B.ob, tf_no _ _ (by decide +kernel) (by decide +kernel), _, rfl, t, a, n, pl, L, rfl, TA, ha, hn, fun H1 s1 => ?_⟩
    have B1 := B.keep s1
    refine ⟨_, rfl, ?_⟩
    have hnk : NdOk n := by obtain ⟨p, hp, rfl⟩ := List.mem_map.mp hn; exact B.ok.ok p hp
    refine ⟨fun m σ H' => ∃ (at_ : Option Nd) (va : V), σ = [some (.ref t), some (.ref a), some (.int r), some va] ∧ H' = H1 ∧ Tp H1 va (oN at_) ∧ (∀ x, at_ = some x → x ∈ L.map (·.1)) ∧ rk at_ + 1 ≤ m ∧ abv L m at_ r = abvD L n r,
      ⟨8, some n, .ref a, rfl, rfl, Tp.nd (s1 _ _ ha), fun x e => by cases e; exact hn, by have := hnk.1; show (6 - n.1).toNat + 1 ≤ 8; omega, rfl⟩, ?_⟩
    rintro m σ1 H2 ⟨at_, va, rfl, rfl, hva, hin, hm, heq⟩
    obtain ⟨m, rfl⟩ : ∃ m', m = m' + 1 := ⟨m - 1, by omega⟩
    cases at_ with
    | none =>
      cases hva
      refine ⟨_, rfl, rfl, _, rfl, iteF (iteF ?_)⟩
      exact ⟨_, rfl, k _ .non s1 (by rw [← heq]; exact .non)⟩
    | some x =>
      obtain ⟨b, rfl, hb⟩ := Tp.nd_inv hva
      have hx := hin x rfl
      refine ⟨_, rfl, rfl, _, rfl, iteT ?_⟩
      refine ⟨_, rfl, _, _, _, _, rfl, rfl, SqT.of hb, at_of (j := 0) rfl rfl, _, rfl, rfl, _, rfl, ?_⟩
      have heq' : (if x.1 = r then some x else abv L m (par L x) r) = abvD L n r := heq
      by_cases e : x.1 = r
      · rw [if_pos e] at heq'
        rw [show (!decide (V.int x.1 = V.int r)) = false by rw [e]; simp]
        exact iteF ⟨_, rfl, k _ (.ref b) s1 (by rw [← heq']; exact Tp.nd hb)⟩
      · rw [if_neg e] at heq'
        rw [show (!decide (V.int x.1 = V.int r)) = true by rw [decide_eq_false (fun z => e (by injection z))]; rfl]
        refine iteT ?_
        obtain ⟨h1, h2⟩ := rk_le B.ok hx
        obtain ⟨v, hv, tv⟩ := ly_some B1.lr hx
        refine ⟨fun σ' H' => ∃ (at_ : Option Nd) (va : V), σ' = [some (.ref t), some (.ref a), some (.int r), some va] ∧ H' = H2 ∧ Tp H2 va (oN at_) ∧ (∀ x, at_ = some x → x ∈ L.map (·.1)) ∧ rk at_ + 1 ≤ m ∧ abv L m at_ r = abvD L n r,
          fun σ' H' ⟨at_, va, e1, e2, e3, e4, e5, e6⟩ => ⟨m, Nat.lt_succ_self m, at_, va, e1, e2, e3, e4, e5, e6⟩, ?_⟩
        refine ⟨_, rfl, t, C, dx, _, _, rfl, B1.ob, T.cl, T.nL, tf_l _ _, _, rfl, l, v, rfl, by rw [← hv]; exact DGet.n B1.ly hb, ?_⟩
        exact ⟨par L x, v, rfl, rfl, tv, h2, by omega, heq'⟩
end
end KN


set_option Elab.async false
set_option linter.all false
set_option maxRecDepth 100000
set_option maxHeartbeats 4000000
namespace KN
open PySem L2
structure ChI (H0 H : Hp) (d wl : Addr) (ns ws : List Mo) (kvs : List (List Key × V)) : Prop where
  same : Same H0 H
  d0 : H0 d = none
  w0 : H0 wl = none
  dd : H d = some (.dT kvs)
  ks : kvs.map (·.1) = ns.map mK
  rows : ∀ q ∈ kvs, ∃ l xs, q.2 = .ref l ∧ H l = some (.lst xs) ∧ xs.length ≤ kvs.length ∧ l ≠ wl
  wt : Ls H wl (ws.map mD)
theorem ChI.to {H0 H H' : Hp} {d wl : Addr} {ns ws : List Mo} {kvs : List (List Key × V)} (I : ChI H0 H d wl ns ws kvs) (s : Same H H') : ChI H0 H' d wl ns ws kvs :=
  ⟨I.same.trans s, I.d0, I.w0, s _ _ I.dd, I.ks, fun q hq => let ⟨l, xs, h1, h2, h3, h4⟩ := I.rows q hq; ⟨l, xs, h1, s _ _ h2, h3, h4⟩, I.wt.to s⟩
/-- the ways on from each start, as far as the links are read -/
structure OnI (H0 H : Hp) (o : Addr) (ls : List Lnk) (okvs : List (List Key × V)) : Prop where
  same : Same H0 H
  o0 : H0 o = none
  od : H o = some (.dT okvs)
  rows : ∀ q ∈ okvs, ∃ (m : Mo) (l : Addr), q.1 = mK m ∧ q.2 = .ref l ∧ l ≠ o ∧ H0 l = none ∧ Ls H l ((ls.filter fun k => decide (k.2.1 = m)).map lD)
  nd : (okvs.map (·.2)).Nodup
  kd : (okvs.map (·.1)).Nodup
  all : ∀ m, valV okvs (mK m) = none → ∀ k ∈ ls, k.2.1 ≠ m
  len : okvs.length ≤ ls.length
/-- a link more among those of one start -/
theorem filt_app {ls : List Lnk} {l : Lnk} {m : Mo} : ((ls ++ [l]).filter fun k => decide (k.2.1 = m)) = (ls.filter fun k => decide (k.2.1 = m)) ++ (if l.2.1 = m then [l] else []) := by
  rw [List.filter_append]
  congr 1
  by_cases h : l.2.1 = m <;> simp [h]
structure BfsJ (ls : List Lnk) (s a : Mo) (La : List Lnk) (i : Nat) (ns ws : List Mo) : Prop where
  start : s ∈ ns
  sub : ∀ n ∈ ns, Rch ls s n
  wsub : ∀ n ∈ ws, n ∈ ns
  here : a ∈ ns
  clo : ∀ n ∈ ns, n ∉ ws → n ≠ a → ∀ l ∈ ls, l.2.1 = n → l.2.2 ∈ ns
  own : ∀ l ∈ La.take i, l.2.2 ∈ ns
theorem BfsJ.of {ls : List Lnk} {s a : Mo} {La : List Lnk} {ns ws : List Mo} (b : BfsI ls s a 0 ns ws) : BfsJ ls s a La 0 ns ws :=
  ⟨b.start, b.sub, b.wsub, b.here, b.clo, fun l h => by rw [List.take_zero] at h; cases h⟩
theorem BfsJ.done {ls : List Lnk} {s a : Mo} {La : List Lnk} {ns ws : List Mo} (b : BfsJ ls s a La La.length ns ws) (h : ∀ l ∈ ls, l.2.1 = a → l ∈ La) : Bfs ls s ns ws :=
  ⟨b.start, b.sub, b.wsub, fun n hn k l hl e => by
    by_cases q : n = a
    · exact b.own l (by rw [List.take_length]; exact h l hl (e.trans q))
    · exact b.clo n hn k q l hl e⟩
theorem BfsJ.skip {ls : List Lnk} {s a : Mo} {La : List Lnk} {i : Nat} {ns ws : List Mo} {l : Lnk} (b : BfsJ ls s a La i ns ws) (hl : La[i]? = some l) (h : l.2.2 ∈ ns) : BfsJ ls s a La (i + 1) ns ws :=
  ⟨b.start, b.sub, b.wsub, b.here, b.clo, fun k hk => by
    rw [List.take_add_one, hl] at hk
    rcases List.mem_append.mp hk with q | q
    · exact b.own k q
    · rw [Option.toList_some, List.mem_singleton] at q; subst q; exact h⟩
theorem BfsJ.add {ls : List Lnk} {s a : Mo} {La : List Lnk} {i : Nat} {ns ws : List Mo} {l : Lnk} (b : BfsJ ls s a La i ns ws) (hl : La[i]? = some l) (hin : l ∈ ls) (h : l.2.1 = a) : BfsJ ls s a La (i + 1) (ns ++ [l.2.2]) (ws ++ [l.2.2]) where
  start := List.mem_append_left _ b.start
  sub := fun n hn => by
    rcases List.mem_append.mp hn with q | q
    · exact b.sub n q
    · rw [List.mem_singleton] at q; subst q
      exact .step (b.sub a b.here) hin h
  wsub := fun n hn => by
    rcases List.mem_append.mp hn with q | q
    · exact List.mem_append_left _ (b.wsub n q)
    · exact List.mem_append_right _ q
  here := List.mem_append_left _ b.here
  clo := fun n hn hw ha k hk e => by
    rcases List.mem_append.mp hn with q | q
    · exact List.mem_append_left _ (b.clo n q (fun z => hw (List.mem_append_left _ z)) ha k hk e)
    · exact absurd (List.mem_append_right _ q) hw
  own := fun k hk => by
    rw [List.take_add_one, hl] at hk
    rcases List.mem_append.mp hk with q | q
    · exact List.mem_append_left _ (b.own k q)
    · rw [Option.toList_some, List.mem_singleton] at q; subst q; exact List.mem_append_right _ (List.mem_singleton.mpr rfl)
theorem val_row {kvs : List (List Key × V)} {k : List Key} {v : V} (h : valV kvs k = some v) : (k, v) ∈ kvs := valV_mem h
theorem OnI.add {H0 H : Hp} {o lx : Addr} {ls : List Lnk} {okvs : List (List Key × V)} (I : OnI H0 H o ls okvs) {l : Lnk} {xs : List V} {v : V} (hv : valV okvs (mK l.2.1) = some (.ref lx)) (hl : H lx = some (.lst xs)) (tv : Tp H v (lD l)) :
    OnI H0 (upd H lx (.lst (xs ++ [v]))) o (ls ++ [l]) okvs := by
  obtain ⟨m0, l0, e1, e2, n1, n0, ys, hys, ry⟩ := I.rows _ (val_row hv)
  cases e2
  have em : m0 = l.2.1 := (mK_inj e1).symm
  subst em
  rw [hl] at hys
  cases hys
  have tk : TK H (upd H lx (.lst (xs ++ [v]))) := TK.put hl (by intro z; exact nofun)
  refine ⟨fun b u e => by rw [upd_ne (ne_of_none e n0)]; exact I.same _ _ e, I.o0, by rw [upd_ne n1.symm]; exact I.od, fun q hq => ?_, I.nd, I.kd, fun m hm k hk => ?_, by rw [List.length_append]; have := I.len; omega⟩
  · obtain ⟨m, l', f1, f2, f3, f4, zs, hz, rz⟩ := I.rows q hq
    refine ⟨m, l', f1, f2, f3, f4, ?_⟩
    rw [filt_app]
    by_cases h : l.2.1 = m
    · subst h
      have : l' = lx := by
        have h1 : (mK l.2.1, V.ref l') ∈ okvs := by rw [← f1, ← f2]; exact hq
        have h2 := val_row hv
        obtain ⟨i, hi, ei⟩ := List.getElem_of_mem h1
        obtain ⟨j, hj, ej⟩ := List.getElem_of_mem h2
        have : i = j := by
          refine (List.getElem_inj (h₀ := by rw [List.length_map]; exact hi) (h₁ := by rw [List.length_map]; exact hj) I.kd).mp ?_
          rw [List.getElem_map, List.getElem_map, ei, ej]
        subst this
        rw [ei] at ej
        injection ej with _ e
        injection e
      subst this
      rw [hl] at hz
      cases hz
      rw [if_pos rfl, List.map_append]
      exact ⟨_, upd_same, (rz.to tk).snoc (tv.to tk)⟩
    · rw [if_neg h, List.append_nil]
      have : l' ≠ lx := fun z => by
        subst z
        have h1 : q ∈ okvs := hq
        have h2 := val_row hv
        obtain ⟨i, hi, ei⟩ := List.getElem_of_mem h1
        obtain ⟨j, hj, ej⟩ := List.getElem_of_mem h2
        have : i = j := by
          refine (List.getElem_inj (h₀ := by rw [List.length_map]; exact hi) (h₁ := by rw [List.length_map]; exact hj) I.nd).mp ?_
          rw [List.getElem_map, List.getElem_map, ei, ej, f2]
        subst this
        rw [ei] at ej
        rw [ej] at f1
        exact h (mK_inj f1)
      exact ⟨zs, by rw [upd_ne this]; exact hz, rz.to tk⟩
  · rcases List.mem_append.mp hk with h | h
    · exact I.all m hm k h
    · rw [List.mem_singleton] at h; subst h
      intro z; subst z; rw [hv] at hm; cases hm
theorem OnI.new {H0 H : Hp} {o lx : Addr} {ls : List Lnk} {okvs : List (List Key × V)} (I : OnI H0 H o ls okvs) {l : Lnk} {v : V} (hv : valV okvs (mK l.2.1) = none) (hl : H lx = none) (tv : Tp H v (lD l)) :
    OnI H0 (upd (upd (upd H lx (.lst [])) o (.dT (okvs ++ [(mK l.2.1, .ref lx)]))) lx (.lst ([] ++ [v]))) o (ls ++ [l]) (okvs ++ [(mK l.2.1, .ref lx)]) := by
  have nlo : lx ≠ o := fun z => by subst z; rw [I.od] at hl; cases hl
  have hl0 : H0 lx = none := I.same.free hl
  have tk : TK H (upd (upd (upd H lx (.lst [])) o (.dT (okvs ++ [(mK l.2.1, .ref lx)]))) lx (.lst ([] ++ [v]))) := fun b xs e => by
    rw [upd_ne (ne_of_none e hl), upd_ne (ne_of e I.od (by intro z; cases z)), upd_ne (ne_of_none e hl)]; exact e
  have nk : mK l.2.1 ∉ okvs.map (·.1) := fun z => by
    obtain ⟨q, hq, e⟩ := List.mem_map.mp z
    exact valV_not hv (List.mem_map.mpr ⟨q, hq, e⟩)
  have nv : V.ref lx ∉ okvs.map (·.2) := fun z => by
    obtain ⟨q, hq, e⟩ := List.mem_map.mp z
    obtain ⟨m, l', f1, f2, f3, f4, zs, hz, rz⟩ := I.rows q hq
    rw [f2] at e
    injection e with e
    subst e
    rw [hl] at hz; cases hz
  refine ⟨fun b u e => by rw [upd_ne (ne_of_none e hl0), upd_ne (ne_of_none e I.o0), upd_ne (ne_of_none e hl0)]; exact I.same _ _ e, I.o0, by rw [upd_ne nlo.symm, upd_same], fun q hq => ?_, ?_, ?_, fun m hm k hk => ?_, by rw [List.length_append, List.length_append, List.length_singleton, List.length_singleton]; have := I.len; omega⟩
  · rcases List.mem_append.mp hq with hq | hq
    · obtain ⟨m, l', f1, f2, f3, f4, zs, hz, rz⟩ := I.rows q hq
      refine ⟨m, l', f1, f2, f3, f4, zs, ?_, ?_⟩
      · rw [upd_ne (ne_of_none hz hl), upd_ne f3, upd_ne (ne_of_none hz hl)]; exact hz
      · have : l.2.1 ≠ m := fun z => by
          subst z
          exact nk (List.mem_map.mpr ⟨q, hq, f1⟩)
        rw [filt_app, if_neg this, List.append_nil]
        exact rz.to tk
    · rw [List.mem_singleton] at hq; subst hq
      refine ⟨l.2.1, lx, rfl, rfl, nlo, hl0, _, upd_same, ?_⟩
      have e : (ls.filter fun k => decide (k.2.1 = l.2.1)) = [] := List.filter_eq_nil_iff.mpr fun k hk z => I.all _ hv k hk (of_decide_eq_true z)
      rw [filt_app, if_pos rfl, e]
      exact .cons (tv.to tk) .nil
  · rw [List.map_append]
    exact List.nodup_append.mpr ⟨I.nd, by simp, fun x hx y hy => by rw [List.map_singleton, List.mem_singleton] at hy; subst hy; intro z; rw [z] at hx; exact nv hx⟩
  · rw [List.map_append]
    exact List.nodup_append.mpr ⟨I.kd, by simp, fun x hx y hy => by rw [List.map_singleton, List.mem_singleton] at hy; subst hy; intro z; rw [z] at hx; exact nk hx⟩
  · have hm' : mK m ∉ (okvs ++ [(mK l.2.1, V.ref lx)]).map (·.1) := valV_not hm
    rw [List.map_append] at hm'
    have h1 : mK m ∉ okvs.map (·.1) := fun z => hm' (List.mem_append_left _ z)
    have h2 : m ≠ l.2.1 := fun z => hm' (List.mem_append_right _ (by rw [z]; exact List.mem_singleton.mpr rfl))
    rcases List.mem_append.mp hk with h | h
    · exact I.all m (by
        cases e : valV okvs (mK m) with
        | none => rfl
        | some v => exact absurd (List.mem_map.mpr ⟨_, val_row e, rfl⟩) h1) k h
    · rw [List.mem_singleton] at h; subst h; exact fun z => h2 z.symm
def spChains : Sp := fun vs H Q _ => ∃ (a st : Addr) (s : Mo) (ls : List Lnk), vs = [.ref a, .ref st] ∧ Ls H a (ls.map lD) ∧ ls.length ≤ 500 ∧ H st = some (.tup [.int s.1, .int s.2]) ∧
  ∀ (H' : Hp) (d : Addr) (kvs : List (List Key × V)) (ns : List Mo), Same H H' → H d = none → H' d = some (.dT kvs) → kvs.map (·.1) = ns.map mK → kvs.length ≤ 1 + ls.length → (∀ g, g ∈ ns ↔ Rch ls s g) → (∀ q ∈ kvs, q.2 ≠ .non) → Q (.ref d) H'
def spChain : Sp := fun vs H Q _ => ∃ (a st g : Addr) (s e : Mo) (ls : List Lnk), vs = [.ref a, .ref st, .ref g] ∧ Ls H a (ls.map lD) ∧ ls.length ≤ 500 ∧ H st = some (.tup [.int s.1, .int s.2]) ∧ H g = some (.tup [.int e.1, .int e.2]) ∧
  ∀ (H' : Hp) (v : V), Same H H' → (v = .non ↔ ¬ Rch ls s e) → Q v H'
section
variable {P : Program} {w : World} {K : PySem.W.Frag} {mg : Str → Option Value} {base : Heap}
end
end KN


set_option Elab.async false
set_option linter.all false
set_option maxRecDepth 100000
set_option maxHeartbeats 4000000
/-! Rows of the book, and a book as it stands. -/
namespace KN
open PySem L2
inductive Row where
  | nm (m : Mo) (rank : Int) (ws ss : List Str) (like : Option Mo)
  | ch (m n : Mo) (s : Str)
  | st (m n : Mo) (w : Bool)
  | ah (m n o : Mo)
def oD : Option Mo → PyData
  | none => .none
  | some m => mD m
def Row.ds : Row → List PyData
  | .nm m r ws ss l => [.str "name", mD m, .int r, .tuple (ws.map PyData.str), .tuple (ss.map PyData.str), oD l]
  | .ch m n s => [.str "choice", mD m, mD n, .str s]
  | .st m n w => [.str "strike", mD m, mD n, .bool w]
  | .ah m n o => [.str "ahead", mD m, mD n, mD o]
def Row.d (r : Row) : PyData := .tuple r.ds
def Row.mo : Row → Mo
  | .nm m .. => m
  | .ch m .. => m
  | .st m .. => m
  | .ah m .. => m
def Row.names : Row → List Mo
  | .nm _ _ _ _ l => l.toList
  | .ch _ n _ => [n]
  | .st _ n _ => [n]
  | .ah _ n o => [n, o]
def Row.isNm : Row → Bool
  | .nm .. => true
  | _ => false
def Row.sort : Row → Str
  | .nm .. => "name"
  | .ch .. => "choice"
  | .st .. => "strike"
  | .ah .. => "ahead"
theorem Row.ds0 (r : Row) : r.ds[0]? = some (.str r.sort) := by cases r <;> rfl
theorem Row.ds1 (r : Row) : r.ds[1]? = some (mD r.mo) := by cases r <;> rfl
/-- a part of a tuple -/
theorem Tp.at {K : PySem.W.Frag} {H : Hp} {t : Addr} {xs : List V} {ds : List PyData} {i : Nat} {d : PyData} (h : H t = some (.tup xs)) (r : TpAll H xs ds) (e : ds[i]? = some d) : ∃ v, atI xs (i : Int) = some v ∧ Tp H v d :=
  let ⟨v, h1, h2⟩ := r.get e
  ⟨v, atI_nat h1, h2⟩
/-- the names of a book, in the order told -/
def nms (rs : List Row) : List Mo := (rs.filter Row.isNm).map Row.mo
/-- who names a name -/
def users (rs : List Row) (n : Mo) : List (List Key × V) := (rs.filter fun r => decide (n ∈ r.names)).map fun r => (mK r.mo, V.bl true)
theorem nms_app (rs : List Row) (r : Row) : nms (rs ++ [r]) = nms rs ++ (if r.isNm then [r.mo] else []) := by
  unfold nms
  rw [List.filter_append, List.map_append]
  congr 1
  by_cases h : r.isNm = true
  · rw [if_pos h, List.filter_cons_of_pos h]; rfl
  · rw [if_neg h, List.filter_cons_of_neg h]; rfl
theorem users_app (rs : List Row) (r : Row) (n : Mo) : users (rs ++ [r]) n = users rs n ++ (if n ∈ r.names then [(mK r.mo, V.bl true)] else []) := by
  unfold users
  rw [List.filter_append, List.map_append]
  congr 1
  by_cases h : n ∈ r.names
  · simp [h]
  · simp [h]
theorem users_le (rs : List Row) (n : Mo) : (users rs n).length ≤ rs.length := by
  unfold users
  rw [List.length_map]; exact List.length_filter_le _ _

theorem en_ : ¬ (("_entries" : Str) = "_named_by") := by decide +kernel
theorem ne_ : ¬ (("_named_by" : Str) = "_entries") := by decide +kernel
def bf (e n : Addr) : List (Str × V) := putF "_named_by" (.ref n) (putF "_entries" (.ref e) [])
theorem bf_eq (e n : Addr) : bf e n = ([("_entries", V.ref e), ("_named_by", V.ref n)] : List (Str × V)) := by
  show (if ("_entries" : Str) = "_named_by" then [(("_entries" : Str), V.ref n)] else (("_entries" : Str), V.ref e) :: putF "_named_by" (V.ref n) []) = _
  rw [if_neg en_]; rfl
theorem bf_e (e n : Addr) : (bf e n).lookup ("_entries" : Str) = some (.ref e) := by
  unfold bf; rw [lookup_putF, if_neg en_, lookup_putF, if_pos rfl]
theorem bf_n (e n : Addr) : (bf e n).lookup ("_named_by" : Str) = some (.ref n) := by
  unfold bf; rw [lookup_putF, if_pos rfl]
theorem bf_no (e n : Addr) {m : Str} (h1 : ¬ m = "_named_by") (h2 : ¬ m = "_entries") : (bf e n).lookup m = none := by
  unfold bf; rw [lookup_putF, if_neg h1, lookup_putF, if_neg h2]; rfl

/-- the entries -/
def EntR (H : Hp) : List (List Key × V) → List Row → Prop := Paired fun q r => q.1 = mK r.mo ∧ Tp H q.2 r.d
/-- the users of each name -/
def NamR (H : Hp) (e n : Addr) (f : Mo → List (List Key × V)) : List (List Key × V) → List Mo → Prop := Paired fun q m => q.1 = mK m ∧ ∃ u, q.2 = .ref u ∧ H u = some (.dT (f m)) ∧ u ≠ e ∧ u ≠ n
structure BookI (C : Addr) (H : Hp) (b dx e n : Addr) (kvs nkv : List (List Key × V)) (rs : List Row) : Prop where
  ob : H b = some (.ins C dx (bf e n))
  en : H e = some (.dT kvs)
  nb : H n = some (.dT nkv)
  ne : e ≠ n
  er : EntR H kvs rs
  nr : NamR H e n (users rs) nkv (nms rs)
  nd : (nkv.map (·.2)).Nodup
  md : (rs.map Row.mo).Nodup
  ok : ∀ r ∈ rs, MoOk r.mo
  cl : ∀ r ∈ rs, ∀ n ∈ r.names, n ∈ nms rs
def BookAt (C : Addr) (H : Hp) (b : Addr) (rs : List Row) : Prop := ∃ dx e n kvs nkv, BookI C H b dx e n kvs nkv rs

theorem Paired.imp {α β : Type} {F G : α → β → Prop} {l₁ : List α} {l₂ : List β} (h : Paired F l₁ l₂) (k : ∀ a b, F a b → G a b) : Paired G l₁ l₂ := L2.Paired.mapP h k
theorem Paired.len {α β : Type} {F : α → β → Prop} {l₁ : List α} {l₂ : List β} (h : Paired F l₁ l₂) : l₁.length = l₂.length := PySem.Paired.length h
theorem Paired.snoc {α β : Type} {F : α → β → Prop} {l₁ : List α} {l₂ : List β} {a : α} {b : β} (h : Paired F l₁ l₂) (k : F a b) : Paired F (l₁ ++ [a]) (l₂ ++ [b]) := by
  induction h with
  | nil => exact .cons k .nil
  | cons f _ ih => exact .cons f ih
theorem EntR.keys {H : Hp} {kvs : List (List Key × V)} {rs : List Row} (h : EntR H kvs rs) : kvs.map (·.1) = (rs.map Row.mo).map mK := by
  unfold EntR at h
  induction h with
  | nil => rfl
  | cons f _ ih => rw [List.map_cons, List.map_cons, List.map_cons, ih, f.1]
theorem NamR.keys {H : Hp} {e n : Addr} {g : Mo → List (List Key × V)} {nkv : List (List Key × V)} {ms : List Mo} (h : NamR H e n g nkv ms) : nkv.map (·.1) = ms.map mK := by
  unfold NamR at h
  induction h with
  | nil => rfl
  | cons f _ ih => rw [List.map_cons, List.map_cons, ih, f.1]
theorem EntR.to {H H' : Hp} {kvs : List (List Key × V)} {rs : List Row} (h : EntR H kvs rs) (k : TK H H') : EntR H' kvs rs := Paired.imp h fun _ _ f => ⟨f.1, f.2.to k⟩
/-- an entry found by its moment -/
theorem EntR.get {H : Hp} {kvs : List (List Key × V)} {rs : List Row} (h : EntR H kvs rs) (nd : (rs.map Row.mo).Nodup) {r : Row} (hr : r ∈ rs) : ∃ v, valV kvs (mK r.mo) = some v ∧ Tp H v r.d := by
  unfold EntR at h
  induction h with
  | nil => cases hr
  | @cons q r0 kvs rs f t ih =>
    rw [List.map_cons, List.nodup_cons] at nd
    rcases List.mem_cons.mp hr with rfl | hr
    · exact ⟨q.2, valV_pos f.1, f.2⟩
    · have ne : ¬ q.1 = mK r.mo := fun z => nd.1 (by
        have : r0.mo = r.mo := mK_inj (f.1.symm.trans z)
        rw [this]; exact List.mem_map.mpr ⟨r, hr, rfl⟩)
      rw [valV_neg ne]; exact ih nd.2 hr
theorem EntR.none {H : Hp} {kvs : List (List Key × V)} {rs : List Row} (h : EntR H kvs rs) {m : Mo} (hm : m ∉ rs.map Row.mo) : valV kvs (mK m) = none := by
  have := valV_ks h.keys m
  rw [decide_eq_false hm] at this
  cases e : valV kvs (mK m) with
  | none => rfl
  | some v => rw [e] at this; cases this
theorem EntR.drop {H : Hp} {kvs : List (List Key × V)} {rs : List Row} (h : EntR H kvs rs) (m : Mo) : EntR H (dropK kvs (mK m)) (rs.filter fun r => decide (r.mo ≠ m)) := by
  unfold EntR at h ⊢
  induction h with
  | nil => exact .nil
  | @cons q r kvs rs f t ih =>
    by_cases e : r.mo = m
    · rw [dropK_pos (f.1.trans (congrArg mK e)), List.filter_cons_of_neg (by simp [e])]; exact ih
    · rw [dropK_neg (fun z => e (mK_inj (f.1.symm.trans z))), List.filter_cons_of_pos (by simp [e])]
      exact .cons f ih
theorem NamR.get {H : Hp} {e n : Addr} {g : Mo → List (List Key × V)} {nkv : List (List Key × V)} {ms : List Mo} (h : NamR H e n g nkv ms) {m : Mo} (hm : m ∈ ms) : ∃ u, valV nkv (mK m) = some (.ref u) ∧ H u = some (.dT (g m)) ∧ u ≠ e ∧ u ≠ n := by
  unfold NamR at h
  induction h with
  | nil => cases hm
  | @cons q m0 nkv ms f t ih =>
    by_cases z : m0 = m
    · subst z
      obtain ⟨u, e1, e2, e3, e4⟩ := f.2
      exact ⟨u, by rw [valV_pos f.1, e1], e2, e3, e4⟩
    · rw [valV_neg (fun y => z (mK_inj (f.1.symm.trans y)))]
      exact ih ((List.mem_cons.mp hm).resolve_left fun y => z y.symm)
theorem NamR.none {H : Hp} {e n : Addr} {g : Mo → List (List Key × V)} {nkv : List (List Key × V)} {ms : List Mo} (h : NamR H e n g nkv ms) {m : Mo} (hm : m ∉ ms) : valV nkv (mK m) = none := by
  have := valV_ks h.keys m
  rw [decide_eq_false hm] at this
  cases e : valV nkv (mK m) with
  | none => rfl
  | some v => rw [e] at this; cases this
/-- all but lists and dicts by texts is kept -/
def KB (H H' : Hp) : Prop := ∀ a o, (∀ xs, o ≠ .lst xs) → (∀ kvs, o ≠ .dK kvs) → H a = some o → H' a = some o
theorem KB.of {H H' : Hp} (s : Same H H') : KB H H' := fun a o _ _ h => s a o h
theorem KB.tk {H H' : Hp} (k : KB H H') : TK H H' := fun a xs h => k a _ (by intro z; exact nofun) (by intro z; exact nofun) h
theorem KB.kp {H H' : Hp} {p : Addr} {kvs : List (Key × V)} (k : ∀ a o, a ≠ p → H a = some o → H' a = some o) (h : H p = some (.dK kvs)) : KB H H' := fun a o _ n e => k a o (fun z => by subst z; rw [h] at e; cases e; exact n _ rfl) e
theorem BookI.keep {C : Addr} {H H' : Hp} {b dx e n : Addr} {kvs nkv : List (List Key × V)} {rs : List Row} (B : BookI C H b dx e n kvs nkv rs) (k : KB H H') : BookI C H' b dx e n kvs nkv rs :=
  ⟨k _ _ (by intro z; exact nofun) (by intro z; exact nofun) B.ob, k _ _ (by intro z; exact nofun) (by intro z; exact nofun) B.en, k _ _ (by intro z; exact nofun) (by intro z; exact nofun) B.nb, B.ne, B.er.to k.tk,
    Paired.imp B.nr fun _ _ f => ⟨f.1, let ⟨u, h1, h2, h3⟩ := f.2; ⟨u, h1, k _ _ (by intro z; exact nofun) (by intro z; exact nofun) h2, h3⟩⟩, B.nd, B.md, B.ok, B.cl⟩
theorem BookAt.keep {C : Addr} {H H' : Hp} {b : Addr} {rs : List Row} (B : BookAt C H b rs) (k : KB H H') : BookAt C H' b rs :=
  let ⟨dx, e, n, kvs, nkv, I⟩ := B
  ⟨dx, e, n, kvs, nkv, I.keep k⟩
/-- the dicts that a book's own fields refer to -/
def Own (H : Hp) (b a : Addr) : Prop := ∃ C dx e n, H b = some (.ins C dx (bf e n)) ∧ (a = e ∨ a = n ∨ ∃ nkv q, H n = some (.dT nkv) ∧ q ∈ nkv ∧ q.2 = V.ref a)
theorem bf_inj {e n e' n' : Addr} (h : bf e n = bf e' n') : e = e' ∧ n = n' := by
  have h1 := bf_e e n
  have h2 := bf_n e n
  rw [h, bf_e] at h1
  rw [h, bf_n] at h2
  cases h1; cases h2; exact ⟨rfl, rfl⟩
theorem Own.of {H : Hp} {C b dx e n a : Addr} {nkv : List (List Key × V)} (hb : H b = some (.ins C dx (bf e n))) (hn : H n = some (.dT nkv)) (h : Own H b a) : a = e ∨ a = n ∨ ∃ q ∈ nkv, q.2 = V.ref a := by
  obtain ⟨C', dx', e', n', h1, h2⟩ := h
  rw [hb] at h1
  injection h1 with h1
  injection h1 with _ _ h1
  obtain ⟨rfl, rfl⟩ := bf_inj h1
  rcases h2 with h2 | h2 | ⟨nkv', q, h3, h4, h5⟩
  · exact .inl h2
  · exact .inr (.inl h2)
  · rw [hn] at h3
    cases h3
    exact .inr (.inr ⟨q, h4, h5⟩)
theorem Own.e {H : Hp} {C b dx e n : Addr} (hb : H b = some (.ins C dx (bf e n))) : Own H b e := ⟨C, dx, e, n, hb, .inl rfl⟩
theorem Own.n {H : Hp} {C b dx e n : Addr} (hb : H b = some (.ins C dx (bf e n))) : Own H b n := ⟨C, dx, e, n, hb, .inr (.inl rfl)⟩
theorem Own.u {H : Hp} {C b dx e n u : Addr} {nkv : List (List Key × V)} {q : List Key × V} (hb : H b = some (.ins C dx (bf e n))) (hn : H n = some (.dT nkv)) (hq : q ∈ nkv) (hu : q.2 = V.ref u) : Own H b u := ⟨C, dx, e, n, hb, .inr (.inr ⟨nkv, q, hn, hq, hu⟩)⟩
/-- all is kept but dicts by tuples among some -/
def KO (O : Addr → Prop) (H H' : Hp) : Prop := ∀ a o, (O a → ∀ kvs, o ≠ .dT kvs) → H a = some o → H' a = some o
theorem KO.of {O : Addr → Prop} {H H' : Hp} (s : Same H H') : KO O H H' := fun a o _ h => s a o h
theorem KO.refl {O : Addr → Prop} (H : Hp) : KO O H H := fun _ _ _ h => h
theorem KO.trans {O : Addr → Prop} {H H1 H2 : Hp} (a : KO O H H1) (b : KO O H1 H2) : KO O H H2 := fun c o n h => b c o n (a c o n h)
theorem KO.k {O : Addr → Prop} {H H' : Hp} (k : KO O H H') {a : Addr} {o : HO} (n : ∀ kvs, o ≠ .dT kvs) (h : H a = some o) : H' a = some o := k a o (fun _ => n) h
theorem KO.tk {O : Addr → Prop} {H H' : Hp} (k : KO O H H') : TK H H' := fun a xs h => k.k (by intro z; exact nofun) h
theorem KO.put {O : Addr → Prop} {H : Hp} {a : Addr} {kvs : List (List Key × V)} {o : HO} (h : H a = some (.dT kvs)) (ha : O a) : KO O H (upd H a o) := fun x u n e => by
  rw [upd_ne (fun z => by subst z; rw [h] at e; cases e; exact n ha _ rfl)]; exact e
/-- all is kept but what a book's fields refer to, and these are what they were, or new -/
def KD (b : Addr) (H H' : Hp) : Prop := KO (Own H b) H H' ∧ ∀ a, Own H' b a → Own H b a ∨ H a = none
theorem KD.k {b : Addr} {H H' : Hp} (k : KD b H H') {a : Addr} {o : HO} (n : ∀ kvs, o ≠ .dT kvs) (h : H a = some o) : H' a = some o := k.1.k n h
theorem KD.tk {b : Addr} {H H' : Hp} (k : KD b H H') : TK H H' := k.1.tk
theorem KD.same {b : Addr} {H H1 H2 : Hp} (s : Same H H1) (f : ∀ a, Own H1 b a → H a = none) (k : KD b H1 H2) : Same H H2 ∧ ∀ a, Own H2 b a → H a = none := by
  refine ⟨fun a o h => k.1 a o (fun z => by rw [f a z] at h; cases h) (s a o h), fun a h => ?_⟩
  rcases k.2 a h with z | z
  · exact f a z
  · cases e : H a with
    | none => rfl
    | some o => rw [s a o e] at z; cases z
theorem KD.seq {b : Addr} {H H1 H2 : Hp} (s : Same H H1) (w : ∀ a, Own H1 b a → Own H b a) (k : KD b H1 H2) : KD b H H2 := by
  refine ⟨fun a o n h => k.1 a o (fun z => n (w a z)) (s a o h), fun a h => ?_⟩
  rcases k.2 a h with z | z
  · exact .inl (w a z)
  · refine .inr ?_
    cases e : H a with
    | none => rfl
    | some o => rw [s a o e] at z; cases z
theorem BookI.ow {C : Addr} {H H' : Hp} {b dx e n : Addr} {kvs nkv : List (List Key × V)} {rs : List Row} (B : BookI C H b dx e n kvs nkv rs) (s : Same H H') (a : Addr) (h : Own H' b a) : Own H b a := by
  rcases h.of (s _ _ B.ob) (s _ _ B.nb) with h | h | ⟨q, h, z⟩
  · subst h; exact Own.e B.ob
  · subst h; exact Own.n B.ob
  · exact Own.u B.ob B.nb h z
theorem KD.sq {C : Addr} {H H1 H2 : Hp} {b : Addr} {rs : List Row} (B : BookAt C H b rs) (s : Same H H1) (k : KD b H1 H2) : KD b H H2 :=
  let ⟨_, _, _, _, _, I⟩ := B
  KD.seq s (I.ow s) k
theorem nms_sub {rs : List Row} {m : Mo} (h : m ∈ nms rs) : m ∈ rs.map Row.mo := by
  obtain ⟨r, hr, e⟩ := List.mem_map.mp h
  exact List.mem_map.mpr ⟨r, (List.mem_filter.mp hr).1, e⟩
theorem nms_nd {rs : List Row} (h : (rs.map Row.mo).Nodup) : (nms rs).Nodup := List.Nodup.sublist (List.Sublist.map _ List.filter_sublist) h
theorem nms_row {rs : List Row} {m : Mo} (h : m ∈ nms rs) : ∃ rk ws ss l, Row.nm m rk ws ss l ∈ rs := by
  obtain ⟨r, hr, e⟩ := List.mem_map.mp h
  obtain ⟨h1, h2⟩ := List.mem_filter.mp hr
  cases r with
  | nm m' rk ws ss l => cases e; exact ⟨rk, ws, ss, l, h1⟩
  | _ => cases h2
theorem row_nms {rs : List Row} {m : Mo} {rk : Int} {ws ss : List Str} {l : Option Mo} (h : Row.nm m rk ws ss l ∈ rs) : m ∈ nms rs := List.mem_map.mpr ⟨_, List.mem_filter.mpr ⟨h, rfl⟩, rfl⟩
theorem users_key {rs : List Row} {n m : Mo} (h : m ∉ rs.map Row.mo) : valV (users rs n) (mK m) = none := by
  cases e : valV (users rs n) (mK m) with
  | none => rfl
  | some v =>
    obtain ⟨r, hr, er⟩ := List.mem_map.mp (valV_mem e)
    have : mK r.mo = mK m := congrArg Prod.fst er
    exact absurd (List.mem_map.mpr ⟨r, (List.mem_filter.mp hr).1, mK_inj this⟩) h
theorem users_has {rs : List Row} {n : Mo} {r : Row} (h : r ∈ rs) (k : n ∈ r.names) : (valV (users rs n) (mK r.mo)).isSome = true := by
  have hm : (mK r.mo, V.bl true) ∈ users rs n := List.mem_map.mpr ⟨r, List.mem_filter.mpr ⟨h, decide_eq_true k⟩, rfl⟩
  cases e : valV (users rs n) (mK r.mo) with
  | some v => rfl
  | none => exact absurd (List.mem_map.mpr ⟨_, hm, rfl⟩) (valV_not e)
theorem users_drop {rs : List Row} (n : Mo) (m : Mo) : dropK (users rs n) (mK m) = users (rs.filter fun r => decide (r.mo ≠ m)) n := by
  unfold users
  induction rs with
  | nil => rfl
  | cons r rs ih =>
    by_cases h : n ∈ r.names <;> by_cases e : r.mo = m
    · rw [List.filter_cons_of_pos (by simp [h]), List.filter_cons_of_neg (p := fun (r : Row) => decide (r.mo ≠ m)) (by simp [e]), List.map_cons, dropK_pos (congrArg mK e)]; exact ih
    · rw [List.filter_cons_of_pos (by simp [h]), List.filter_cons_of_pos (p := fun (r : Row) => decide (r.mo ≠ m)) (by simp [e]), List.map_cons, dropK_neg (fun z => e (mK_inj z)), List.filter_cons_of_pos (by simp [h]), List.map_cons, ih]
    · rw [List.filter_cons_of_neg (by simp [h]), List.filter_cons_of_neg (p := fun (r : Row) => decide (r.mo ≠ m)) (by simp [e])]; exact ih
    · rw [List.filter_cons_of_neg (by simp [h]), List.filter_cons_of_pos (p := fun (r : Row) => decide (r.mo ≠ m)) (by simp [e]), List.filter_cons_of_neg (by simp [h])]; exact ih
/-- a name's users changed -/
theorem NamR.put1 {H : Hp} {e n : Addr} {f : Mo → List (List Key × V)} {nkv : List (List Key × V)} {ms : List Mo} (h : NamR H e n f nkv ms) (nd : (nkv.map (·.2)).Nodup) (md : ms.Nodup) {m : Mo} {u : Addr} (hm : m ∈ ms) (hu : valV nkv (mK m) = some (.ref u)) (l : List (List Key × V)) :
    NamR (upd H u (.dT l)) e n (fun x => if x = m then l else f x) nkv ms := by
  unfold NamR at h ⊢
  induction h with
  | nil => cases hm
  | @cons q m0 nkv ms g t ih =>
    rw [List.map_cons, List.nodup_cons] at nd
    rw [List.nodup_cons] at md
    obtain ⟨u0, e1, e2, e3, e4⟩ := g.2
    have keep : ∀ {nkv : List (List Key × V)} {ms : List Mo}, Paired (fun q m => q.1 = mK m ∧ ∃ u, q.2 = .ref u ∧ H u = some (.dT (f m)) ∧ u ≠ e ∧ u ≠ n) nkv ms → V.ref u ∉ nkv.map (·.2) → m ∉ ms →
        Paired (fun q x => q.1 = mK x ∧ ∃ u', q.2 = .ref u' ∧ upd H u (.dT l) u' = some (.dT (if x = m then l else f x)) ∧ u' ≠ e ∧ u' ≠ n) nkv ms := by
      intro nkv ms t
      induction t with
      | nil => intro _ _; exact .nil
      | @cons q x nkv ms g t ih =>
        intro h1 h2
        obtain ⟨u1, a1, a2, a3, a4⟩ := g.2
        refine .cons ⟨g.1, u1, a1, ?_, a3, a4⟩ (ih (fun z => h1 (List.mem_cons_of_mem _ z)) fun z => h2 (List.mem_cons_of_mem _ z))
        rw [upd_ne (fun z => h1 (by rw [← z, ← a1]; exact List.mem_cons_self)), if_neg (fun z => h2 (by rw [z]; exact List.mem_cons_self))]
        exact a2
    by_cases z : m0 = m
    · subst z
      rw [valV_pos g.1, e1] at hu
      cases hu
      rw [e1] at nd
      exact .cons ⟨g.1, u, e1, (by show _ = some (HO.dT (if m0 = m0 then l else f m0)); rw [upd_same, if_pos rfl]), e3, e4⟩ (keep t nd.1 md.1)
    · rw [valV_neg (fun y => z (mK_inj (g.1.symm.trans y)))] at hu
      have hu0 : u0 ≠ u := fun y => by
        subst y
        exact nd.1 (by rw [e1]; exact List.mem_map.mpr ⟨_, valV_mem hu, rfl⟩)
      refine .cons ⟨g.1, u0, e1, (by show _ = some (HO.dT (if m0 = m then l else f m0)); rw [upd_ne hu0, if_neg z]; exact e2), e3, e4⟩ (ih nd.2 md.2 ((List.mem_cons.mp hm).resolve_left fun y => z y.symm) hu)
theorem NamR.fn {H : Hp} {e n : Addr} {f g : Mo → List (List Key × V)} {nkv : List (List Key × V)} {ms : List Mo} (h : NamR H e n f nkv ms) (k : ∀ m ∈ ms, f m = g m) : NamR H e n g nkv ms := by
  unfold NamR at h ⊢
  induction h with
  | nil => exact .nil
  | @cons q m nkv ms a t ih =>
    obtain ⟨u, h1, h2, h3⟩ := a.2
    exact .cons ⟨a.1, u, h1, by rw [← k _ List.mem_cons_self]; exact h2, h3⟩ (ih fun x hx => k x (List.mem_cons_of_mem _ hx))
theorem NamR.off {H H' : Hp} {e n : Addr} {f : Mo → List (List Key × V)} {nkv : List (List Key × V)} {ms : List Mo} (h : NamR H e n f nkv ms) (k : ∀ u kvs, u ≠ e → u ≠ n → H u = some (.dT kvs) → H' u = some (.dT kvs)) : NamR H' e n f nkv ms :=
  Paired.imp h fun _ _ a => ⟨a.1, let ⟨u, h1, h2, h3, h4⟩ := a.2; ⟨u, h1, k _ _ h3 h4 h2, h3, h4⟩⟩
theorem NamR.snd {H : Hp} {e n : Addr} {f : Mo → List (List Key × V)} {nkv : List (List Key × V)} {ms : List Mo} (h : NamR H e n f nkv ms) {v : V} (hv : v ∈ nkv.map (·.2)) : ∃ u, v = .ref u ∧ ∃ kvs, H u = some (.dT kvs) := by
  unfold NamR at h
  induction h with
  | nil => cases hv
  | @cons q m nkv ms a t ih =>
    obtain ⟨u, h1, h2, _⟩ := a.2
    rcases List.mem_cons.mp hv with z | z
    · exact ⟨u, z.trans h1, _, h2⟩
    · exact ih z
end KN

set_option Elab.async false
set_option linter.all false
set_option maxRecDepth 100000
set_option maxHeartbeats 4000000
namespace KN
open PySem L2
def NmOk (rank : Int) (ws ss : List Str) (like : Option Mo) : Prop := 0 ≤ rank ∧ rank ≤ 5 ∧ ws.length = (if rank = 0 then 2 else 1) ∧ (∀ w ∈ ws, IsW w) ∧
  ((rank = 0 ∧ like = none ∧ SheetsOk ss) ∨ (ss = [] ∧ ∃ m, like = some m ∧ MoOk m))
def spBad : Sp := fun vs H Q _ => ∃ (rank : Int) (wa sa : Addr) (lv : V) (ws ss : List Str) (like : Option Mo), vs = [.int rank, .ref wa, .ref sa, lv] ∧ H wa = some (.tup (ws.map V.str)) ∧ H sa = some (.tup (ss.map V.str)) ∧ UpV H lv like ∧ NmOk rank ws ss like ∧
  ∀ H', Same H H' → Q .non H'
def spMayLike : Sp := fun vs H Q _ => ∃ r o : Int, vs = [.int r, .int o] ∧ Q (.bl (if r = 0 then decide (o = 0) else decide (o < r))) H
def spNamedIn : Sp := fun vs H Q _ => ∃ (v : V) (r : Row), vs = [v] ∧ Tp H v r.d ∧ ∀ (H' : Hp) (l : Addr), Same H H' → H l = none → Ls H' l (r.names.map mD) → Q (.ref l) H'
/-- what the walk asks of the class Book as the top has made it -/
structure BkT (K : PySem.W.Frag) (C : Addr) : Prop where
  cl : Cls K C
  nE : NoAttr K C "_entries"
  nN : NoAttr K C "_named_by"
def spInit (C : Addr) : Sp := fun vs H Q _ => ∃ (b dx : Addr), vs = [.ref b] ∧ H b = some (.ins C dx []) ∧ ∀ H', (∀ a o, a ≠ b → H a = some o → H' a = some o) → (∀ a, Own H' b a → H a = none) → BookAt C H' b [] → Q .non H'
def spKeep (C : Addr) : Sp := fun vs H Q _ => ∃ (b : Addr) (v : V) (r : Row) (rs : List Row), vs = [.ref b, v] ∧ BookAt C H b rs ∧ Tp H v r.d ∧ r.mo ∉ rs.map Row.mo ∧ MoOk r.mo ∧ (∀ n ∈ r.names, n ∈ nms rs) ∧ r.names.Nodup ∧ rs.length ≤ 60 ∧
  ∀ H', KD b H H' → BookAt C H' b (rs ++ [r]) → Q .non H'
theorem sort_nm (r : Row) : decide (V.str r.sort = V.str "name") = r.isNm := by
  have h1 : ¬ ("choice" : Str) = "name" := by decide +kernel
  have h2 : ¬ ("strike" : Str) = "name" := by decide +kernel
  have h3 : ¬ ("ahead" : Str) = "name" := by decide +kernel
  cases r with
  | nm => exact decide_eq_true rfl
  | ch => exact decide_eq_false fun z => h1 (by injection z)
  | st => exact decide_eq_false fun z => h2 (by injection z)
  | ah => exact decide_eq_false fun z => h3 (by injection z)
def Row.isAh : Row → Bool
  | .ah .. => true
  | _ => false
theorem sort_ah (r : Row) : decide (V.str r.sort = V.str "ahead") = r.isAh := by
  have h1 : ¬ ("choice" : Str) = "ahead" := by decide +kernel
  have h2 : ¬ ("strike" : Str) = "ahead" := by decide +kernel
  have h3 : ¬ ("name" : Str) = "ahead" := by decide +kernel
  cases r with
  | ah => exact decide_eq_true rfl
  | ch => exact decide_eq_false fun z => h1 (by injection z)
  | st => exact decide_eq_false fun z => h2 (by injection z)
  | nm => exact decide_eq_false fun z => h3 (by injection z)
theorem Tp.str_inv {H : Hp} {v : V} {s : Str} (h : Tp H v (.str s)) : v = .str s := by cases h; rfl
theorem Tp.int_inv {H : Hp} {v : V} {s : Int} (h : Tp H v (.int s)) : v = .int s := by cases h; rfl
section
variable {P : Program} {w : World} {K : PySem.W.Frag} {mg : Str → Option Value} {base : Heap} {C : Addr}
end
end KN


set_option Elab.async false
set_option linter.all false
set_option maxRecDepth 100000
set_option maxHeartbeats 4000000
namespace KN
open PySem L2
theorem cut_nox {X : Cx} {st : List Stmt} {D : Ends} {σ : St} {H : Hp} (h : ∃ t, PSs X.nox st t ∧ t D σ H) : ∃ t, PSs X st t ∧ t D σ H := let ⟨t, a, b⟩ := h; ⟨t, a.nox, b⟩
def spName (C : Addr) : Sp := fun vs H Q _ => ∃ (b a : Addr) (v : V) (u : Option Mo) (rs : List Row) (r : Row), vs = [.ref b, .ref a, v] ∧ BookAt C H b rs ∧ H a = some (.tup [.int r.mo.1, .int r.mo.2]) ∧ UpV H v u ∧ r ∈ rs ∧ r.isNm = true ∧ upB r.mo u = true ∧
  ∀ x, Tp H x r.d → Q x H
def spRefuse (C : Addr) : Sp := fun vs H Q _ => ∃ (b am an : Addr) (m n : Mo) (rs : List Row), vs = [.ref b, .ref am, .ref an] ∧ BookAt C H b rs ∧ H am = some (.tup [.int m.1, .int m.2]) ∧ H an = some (.tup [.int n.1, .int n.2]) ∧ n ∈ nms rs ∧ ¬ mLt m n ∧ Q .non H
def spRank (C : Addr) : Sp := fun vs H Q _ => ∃ (b a : Addr) (m : Mo) (rk : Int) (ws ss : List Str) (l : Option Mo) (rs : List Row), vs = [.ref b, .ref a] ∧ BookAt C H b rs ∧ H a = some (.tup [.int m.1, .int m.2]) ∧ Row.nm m rk ws ss l ∈ rs ∧ Q (.int rk) H
def spPublish (C : Addr) : Sp := fun vs H Q _ => ∃ (b am wa sa : Addr) (lv : V) (m : Mo) (rank : Int) (ws ss : List Str) (like : Option Mo) (rs : List Row), vs = [.ref b, .ref am, .ref wa, .int rank, .ref sa, lv] ∧ BookAt C H b rs ∧
  H am = some (.tup [.int m.1, .int m.2]) ∧ H wa = some (.tup (ws.map V.str)) ∧ H sa = some (.tup (ss.map V.str)) ∧ UpV H lv like ∧ NmOk rank ws ss like ∧ MoOk m ∧ m ∉ rs.map Row.mo ∧ rs.length ≤ 60 ∧
  (∀ l, like = some l → ¬ mLt m l ∧ ∃ rk ws' ss' l', Row.nm l rk ws' ss' l' ∈ rs ∧ (if rank = 0 then decide (rk = 0) else decide (rk < rank)) = true) ∧
  ∀ H', KD b H H' → BookAt C H' b (rs ++ [.nm m rank ws ss like]) → Q .non H'
def spAhead (C : Addr) : Sp := fun vs H Q _ => ∃ (b am an ao : Addr) (m n o : Mo) (rk : Int) (rs : List Row), vs = [.ref b, .ref am, .ref an, .ref ao] ∧ BookAt C H b rs ∧
  H am = some (.tup [.int m.1, .int m.2]) ∧ H an = some (.tup [.int n.1, .int n.2]) ∧ H ao = some (.tup [.int o.1, .int o.2]) ∧ MoOk m ∧ m ∉ rs.map Row.mo ∧ rs.length ≤ 60 ∧ ¬ mLt m n ∧ ¬ mLt m o ∧ n ≠ o ∧
  (∃ ws ss l, Row.nm n rk ws ss l ∈ rs) ∧ (∃ ws ss l, Row.nm o rk ws ss l ∈ rs) ∧ ∀ H', KD b H H' → BookAt C H' b (rs ++ [.ah m n o]) → Q .non H'
section
variable {P : Program} {w : World} {K : PySem.W.Frag} {mg : Str → Option Value} {base : Heap} {C : Addr}
end
end KN


set_option Elab.async false
set_option linter.all false
set_option maxRecDepth 100000
set_option maxHeartbeats 4000000
namespace KN
open PySem L2
theorem perm_map {α β : Type} {f : α → β} {l₁ l₂ : List β} (p : l₁.Perm l₂) : ∀ k : List α, l₂ = k.map f → ∃ l : List α, l.Perm k ∧ l.map f = l₁ := by
  induction p with
  | nil => intro k e; exact ⟨k, .refl _, e.symm⟩
  | cons x _ ih =>
    intro k e
    cases k with
    | nil => cases e
    | cons a k =>
      rw [List.map_cons] at e
      injection e with e1 e2
      obtain ⟨l, h1, h2⟩ := ih k e2
      exact ⟨a :: l, h1.cons a, by rw [List.map_cons, h2, e1]⟩
  | swap x y l =>
    intro k e
    match k, e with
    | a :: b :: k, e =>
      rw [List.map_cons, List.map_cons] at e
      injection e with e1 e2
      injection e2 with e2 e3
      exact ⟨b :: a :: k, .swap a b k, by rw [List.map_cons, List.map_cons, e1, e2, e3]⟩
  | trans _ _ ih1 ih2 =>
    intro k e
    obtain ⟨l, h1, h2⟩ := ih2 k e
    obtain ⟨l', h3, h4⟩ := ih1 l h2.symm
    exact ⟨l', h3.trans h1, h4⟩
theorem mLt_tot {a b : Mo} (h : ¬ mLt b a) (n : a ≠ b) : mLt a b := by
  unfold mLt at *
  have : ¬ (a.1 = b.1 ∧ a.2 = b.2) := fun z => n (Prod.ext z.1 z.2)
  omega
/-- rows rising by their moments -/
def Rise (rs : List Row) : Prop := rs.Pairwise fun x y => mLt x.mo y.mo
def spEntries (C : Addr) : Sp := fun vs H Q _ => ∃ (b : Addr) (v : V) (u : Option Mo) (rs : List Row), vs = [.ref b, v] ∧ BookAt C H b rs ∧ UpV H v u ∧ rs.length < 64 ∧
  ∀ (H' : Hp) (l : Addr) (srt : List Row), Same H H' → H l = none → srt.Perm rs → Rise srt → Ls H' l ((srt.filter fun r => upB r.mo u).map Row.d) → Q (.ref l) H'
open Classical in
noncomputable def ahStep (told : List Lnk) (r : Row) : List Lnk := match r with
  | .ah m n o => if Rch told o n then told else told ++ [(m, n, o)]
  | _ => told
theorem ahStep_yes {told : List Lnk} {m n o : Mo} (h : Rch told o n) : ahStep told (.ah m n o) = told := by
  unfold ahStep; exact if_pos h
theorem ahStep_no {told : List Lnk} {m n o : Mo} (h : ¬ Rch told o n) : ahStep told (.ah m n o) = told ++ [(m, n, o)] := by
  unfold ahStep; exact if_neg h
/-- the aheads that do something, of rising rows -/
noncomputable def ahF (rs : List Row) : List Lnk := rs.foldl ahStep []
theorem ahF_snoc (rs : List Row) (r : Row) : ahF (rs ++ [r]) = ahStep (ahF rs) r := by
  unfold ahF; rw [List.foldl_append]; rfl
theorem ahF_len (rs : List Row) : (ahF rs).length ≤ rs.length := by
  unfold ahF
  have g : ∀ (rs : List Row) (t : List Lnk), (rs.foldl ahStep t).length ≤ t.length + rs.length := by
    intro rs
    induction rs with
    | nil => intro t; exact Nat.le_refl _
    | cons r rs ih =>
      intro t
      have h := ih (ahStep t r)
      have : (ahStep t r).length ≤ t.length + 1 := by
        unfold ahStep
        split
        · split
          · omega
          · rw [List.length_append]; exact Nat.le_refl _
        · omega
      rw [List.foldl_cons, List.length_cons]; omega
  have := g rs []
  rw [List.length_nil] at this; omega
def spAheads (C : Addr) : Sp := fun vs H Q _ => ∃ (b : Addr) (v : V) (u : Option Mo) (rs : List Row), vs = [.ref b, v] ∧ BookAt C H b rs ∧ UpV H v u ∧ rs.length < 64 ∧
  ∀ (H' : Hp) (l : Addr) (srt : List Row), Same H H' → H l = none → srt.Perm rs → Rise srt → Ls H' l ((ahF (srt.filter fun r => upB r.mo u)).map lD) → Q (.ref l) H'
/-- an entry that is no name is dropped -/
def spDrop (C : Addr) : Sp := fun vs H Q _ => ∃ (b a : Addr) (r : Row) (rs : List Row), vs = [.ref b, .ref a] ∧ BookAt C H b rs ∧ H a = some (.tup [.int r.mo.1, .int r.mo.2]) ∧ r ∈ rs ∧ r.isNm = false ∧ r.names.Nodup ∧
  ∀ H', KD b H H' → BookAt C H' b (rs.filter fun x => decide (x.mo ≠ r.mo)) → Q .non H'
section
variable {P : Program} {w : World} {K : PySem.W.Frag} {mg : Str → Option Value} {base : Heap} {C : Addr}
end
end KN


set_option Elab.async false
set_option linter.all false
set_option maxRecDepth 100000
set_option maxHeartbeats 4000000
namespace KN
open PySem L2
/-! The asks of a book: words, names, strikes, takers. -/
def spWords (C : Addr) : Sp := fun vs H Q _ => ∃ (b a : Addr) (m : Mo) (rk : Int) (ws ss : List Str) (l : Option Mo) (rs : List Row), vs = [.ref b, .ref a] ∧ BookAt C H b rs ∧ H a = some (.tup [.int m.1, .int m.2]) ∧ Row.nm m rk ws ss l ∈ rs ∧ ∀ x, Tp H x (.tuple (ws.map PyData.str)) → Q x H
def spStrike (C : Addr) : Sp := fun vs H Q _ => ∃ (b am an : Addr) (m n : Mo) (wh : Bool) (rs : List Row), vs = [.ref b, .ref am, .ref an, .bl wh] ∧ BookAt C H b rs ∧ H am = some (.tup [.int m.1, .int m.2]) ∧ H an = some (.tup [.int n.1, .int n.2]) ∧
  MoOk m ∧ m ∉ rs.map Row.mo ∧ rs.length ≤ 60 ∧ ¬ mLt m n ∧ n ∈ nms rs ∧ ∀ H', KD b H H' → BookAt C H' b (rs ++ [.st m n wh]) → Q .non H'
def spToldOf (C : Addr) : Sp := fun vs H Q _ => ∃ (b an : Addr) (n : Mo) (z : Str) (v : V) (u : Option Mo) (rs : List Row), vs = [.ref b, .ref an, .str z, v] ∧ BookAt C H b rs ∧ H an = some (.tup [.int n.1, .int n.2]) ∧ n ∈ nms rs ∧ UpV H v u ∧ rs.length < 64 ∧
  ∀ (H' : Hp) (l : Addr) (S : List Row), Same H H' → H l = none → S.Perm (rs.filter fun r => decide (n ∈ r.names)) → Rise S → Ls H' l ((S.filter fun r => upB r.mo u && decide (r.sort = z)).map Row.d) → Q (.ref l) H'
/-- a moment, or none -/
def spStruck (C : Addr) (g : Row → Bool) : Sp := fun vs H Q _ => ∃ (b an : Addr) (n : Mo) (v : V) (u : Option Mo) (rs : List Row), vs = [.ref b, .ref an, v] ∧ BookAt C H b rs ∧ H an = some (.tup [.int n.1, .int n.2]) ∧ n ∈ nms rs ∧ upB n u = true ∧ UpV H v u ∧ rs.length < 64 ∧
  ∀ (H' : Hp) (x : V) (S : List Row), Same H H' → S.Perm (rs.filter fun r => decide (n ∈ r.names)) → Rise S → Tp H' x (oD ((S.filter fun r => upB r.mo u && decide (r.sort = ("strike" : Str)) && g r).head?.map Row.mo)) → Q x H'
def wholeB : Row → Bool
  | .st _ _ w => w
  | _ => false
def rankB (rk : Option Int) : Row → Bool
  | .nm _ r _ _ _ => match rk with | none => true | some k => decide (r = k)
  | _ => false
def RkV (v : V) (rk : Option Int) : Prop := match rk with | none => v = .non | some k => v = .int k
def spNamesOf (C : Addr) : Sp := fun vs H Q _ => ∃ (b : Addr) (rv v : V) (rk : Option Int) (u : Option Mo) (rs : List Row), vs = [.ref b, rv, v] ∧ BookAt C H b rs ∧ RkV rv rk ∧ UpV H v u ∧ rs.length < 64 ∧
  ∀ (H' : Hp) (l : Addr) (S : List Row), Same H H' → H l = none → S.Perm rs → Rise S → Ls H' l ((S.filter fun r => upB r.mo u && rankB rk r).map fun r => mD r.mo) → Q (.ref l) H'
theorem sort_dec (r : Row) (z : Str) : decide (V.str r.sort = V.str z) = decide (r.sort = z) := by
  by_cases h : r.sort = z
  · rw [decide_eq_true h, decide_eq_true (congrArg V.str h)]
  · rw [decide_eq_false h, decide_eq_false fun e => h (by injection e)]
theorem filter_step {α : Type} {p : α → Bool} {xs : List α} {i : Nat} {x : α} (h : xs[i]? = some x) : (xs.take (i + 1)).filter p = (xs.take i).filter p ++ (if p x = true then [x] else []) := by
  rw [List.take_add_one, h, List.filter_append]
  congr 1
  by_cases q : p x = true
  · simp [q]
  · simp [q]
theorem users_keys (rs : List Row) (n : Mo) : (users rs n).map (·.1) = ((rs.filter fun r => decide (n ∈ r.names)).map Row.mo).map mK := by
  unfold users
  rw [List.map_map, List.map_map]; rfl
/-- the rows of a list, one by one -/
theorem row_at {K : PySem.W.Frag} {H : Hp} {xs : List V} {rs : List Row} {i : Nat} {x : V} (rx : TpAll H xs (rs.map Row.d)) (hi : xs[i]? = some x) : ∃ r, rs[i]? = some r ∧ Tp H x r.d := by
  obtain ⟨d, hd, tx⟩ := rx.getv hi
  rw [List.getElem?_map] at hd
  cases q : rs[i]? with
  | none => rw [q] at hd; cases hd
  | some r => rw [q] at hd; cases hd; exact ⟨r, rfl, tx⟩
theorem strOk_w {s : Str} (h : IsW s) : PyData.strOk s = true := by
  unfold PyData.strOk
  rw [← Array.all_toList]
  exact List.all_eq_true.mpr fun c hc => decide_eq_true (by have := h.2.2 c hc; omega)
def RowW (r : Row) : Prop := match r with
  | .nm _ _ ws ss _ => ws.length ≤ 2 ∧ (∀ w ∈ ws, IsW w) ∧ (∀ w ∈ ss, IsW w) ∧ ss.length ≤ 60
  | .ch _ _ z => IsW z
  | _ => True
theorem okD_ws {ws : List Str} (h : ∀ w ∈ ws, IsW w) : okD (.tuple (ws.map PyData.str)) = true := by
  simp only [okD]
  refine okDs_all.mpr fun d hd => ?_
  obtain ⟨x, hx, rfl⟩ := List.mem_map.mp hd
  simp only [okD]; exact strOk_w (h x hx)
theorem depthA_le {k : Nat} : ∀ {ds : List PyData}, (∀ d ∈ ds, d.depth ≤ k) → PyData.depthAll ds ≤ k
  | [], _ => by simp [PyData.depthAll]
  | d :: ds, h => by
    have h1 := h d List.mem_cons_self
    have h2 := depthA_le (ds := ds) fun x hx => h x (List.mem_cons_of_mem _ hx)
    simp only [PyData.depthAll]; omega
theorem depth_ws (ws : List Str) : (PyData.tuple (ws.map PyData.str)).depth ≤ 2 := by
  have := depthA_le (k := 1) (ds := ws.map PyData.str) fun d hd => by obtain ⟨x, _, rfl⟩ := List.mem_map.mp hd; simp [PyData.depth]
  simp only [PyData.depth]; omega
theorem shaped_ws {ws : List Str} (h : ∀ w ∈ ws, IsW w) : SeqAt.shaped (.tuple (ws.map PyData.str)) = true := shaped_of (okD_ws h) (by have := depth_ws ws; omega)
theorem strs_inj {a b : List Str} (h : a.map PyData.str = b.map PyData.str) : a = b := (List.map_inj_right fun x y e => by injection e).mp h
theorem eqv_ws {a b : List Str} (ha : ∀ w ∈ a, IsW w) (hb : ∀ w ∈ b, IsW w) : PyData.eqv (.tuple (a.map PyData.str)) (.tuple (b.map PyData.str)) = decide (a = b) :=
  eqv_dec (okD_ws ha) (okD_ws hb) ⟨fun h => strs_inj (by injection h), fun h => by rw [h]⟩
theorem int_dec (a b : Int) : decide (V.int a = V.int b) = decide (a = b) := by
  by_cases h : a = b
  · rw [decide_eq_true h, decide_eq_true (congrArg V.int h)]
  · rw [decide_eq_false h, decide_eq_false fun e => h (by injection e)]
instance decMLt (a b : Mo) : Decidable (mLt a b) := inferInstanceAs (Decidable (_ ∨ _ ∧ _))
theorem lt2 (m u : Mo) : HT.lexLt [m.1, m.2] [u.1, u.2] = decide (mLt m u) := by
  unfold mLt
  simp only [HT.lexLt]
  by_cases h1 : m.1 < u.1
  · have h3 : ¬ m.1 = u.1 := by omega
    simp [h1, h3]
  · by_cases h2 : m.1 = u.1
    · by_cases h4 : m.2 = u.2
      · simp [h2, h4]
      · simp [h2, h4]
    · simp [h1, h2]
/-- a whole strike of a name that is there -/
def wholeB' (rs : List Row) (u : Option Mo) (m : Mo) : Bool := rs.any fun r => decide (m ∈ r.names) && (upB r.mo u && wholeB r)
/-- an elder name with these words that isn't wholly struck -/
def takes (rs : List Row) (u : Option Mo) (n : Mo) (ws : List Str) (r : Row) : Bool := match r with
  | .nm m _ ws' _ _ => decide (mLt m n) && decide (ws' = ws) && !wholeB' rs u m
  | _ => false
theorem any_str {z : Str} {ss : List Str} (hz : IsW z) (h : ∀ w ∈ ss, IsW w) : ((ss.map PyData.str).any fun y => PyData.eqv y (.str z)) = decide (z ∈ ss) := by
  have oz : okD (.str z) = true := by simp only [okD]; exact strOk_w hz
  have os : okDs (ss.map PyData.str) = true := okDs_all.mpr fun d hd => by
    obtain ⟨x, hx, rfl⟩ := List.mem_map.mp hd
    simp only [okD]; exact strOk_w (h x hx)
  have e : ((ss.map PyData.str).any fun y => PyData.eqv y (.str z)) = true ↔ z ∈ ss := by
    rw [any_eqv oz os, List.mem_map]
    exact ⟨fun ⟨x, hx, q⟩ => by injection q with q; rw [← q]; exact hx, fun q => ⟨z, q, rfl⟩⟩
  by_cases q : z ∈ ss
  · rw [decide_eq_true q]; exact e.mpr q
  · rw [decide_eq_false q]; exact Bool.eq_false_iff.mpr fun y => q (e.mp y)
def spChoose (C : Addr) : Sp := fun vs H Q _ => ∃ (b am an : Addr) (m n : Mo) (z : Str) (rk : Int) (ws ss : List Str) (lk : Option Mo) (rs : List Row), vs = [.ref b, .ref am, .ref an, .str z] ∧ BookAt C H b rs ∧ H am = some (.tup [.int m.1, .int m.2]) ∧ H an = some (.tup [.int n.1, .int n.2]) ∧
  MoOk m ∧ m ∉ rs.map Row.mo ∧ rs.length ≤ 60 ∧ ¬ mLt m n ∧ Row.nm n rk ws ss lk ∈ rs ∧ z ∈ ss ∧ (∀ w ∈ ss, IsW w) ∧ ∀ H', KD b H H' → BookAt C H' b (rs ++ [.ch m n z]) → Q .non H'
def spTaker (C : Addr) : Sp := fun vs H Q _ => ∃ (b an : Addr) (n : Mo) (rk : Int) (ws ss : List Str) (lk : Option Mo) (v : V) (u : Option Mo) (rs : List Row), vs = [.ref b, .ref an, v] ∧ BookAt C H b rs ∧ H an = some (.tup [.int n.1, .int n.2]) ∧ Row.nm n rk ws ss lk ∈ rs ∧ upB n u = true ∧ UpV H v u ∧ rs.length < 64 ∧ (∀ r ∈ rs, RowW r) ∧
  ∀ (H' : Hp) (x : V) (S : List Row), Same H H' → S.Perm rs → Rise S → Tp H' x (oD (((S.filter fun r => upB r.mo u && rankB (some rk) r).filter (takes rs u n ws)).head?.map Row.mo)) → Q x H'
theorem whole_head {rs S : List Row} {u : Option Mo} {m : Mo} (sp : S.Perm (rs.filter fun r => decide (m ∈ r.names))) : ((S.filter fun r => upB r.mo u && decide (r.sort = ("strike" : Str)) && wholeB r).head?.map Row.mo = none) ↔ wholeB' rs u m = false := by
  have st : ∀ r : Row, wholeB r = true → r.sort = ("strike" : Str) := fun r h => by cases r <;> first | rfl | cases h
  unfold wholeB'
  rw [List.any_eq_false]
  constructor
  · intro h r hr z
    rw [Bool.and_eq_true, Bool.and_eq_true] at z
    have inS : r ∈ S := sp.mem_iff.mpr (List.mem_filter.mpr ⟨hr, z.1⟩)
    have : r ∈ S.filter fun r => upB r.mo u && decide (r.sort = ("strike" : Str)) && wholeB r := List.mem_filter.mpr ⟨inS, by rw [z.2.1, z.2.2, decide_eq_true (st r z.2.2)]; rfl⟩
    cases e : (S.filter fun r => upB r.mo u && decide (r.sort = ("strike" : Str)) && wholeB r) with
    | nil => rw [e] at this; cases this
    | cons a l => rw [e] at h; cases h
  · intro h
    have : (S.filter fun r => upB r.mo u && decide (r.sort = ("strike" : Str)) && wholeB r) = [] := List.filter_eq_nil_iff.mpr fun r hr z => by
      rw [Bool.and_eq_true, Bool.and_eq_true] at z
      obtain ⟨h1, h2⟩ := List.mem_filter.mp (sp.mem_iff.mp hr)
      exact h r h1 (by rw [h2, z.1.1, z.2]; rfl)
    rw [this]; rfl
section
variable {P : Program} {w : World} {K : PySem.W.Frag} {mg : Str → Option Value} {base : Heap} {C : Addr}
end
end KN


set_option Elab.async false
set_option linter.all false
set_option maxRecDepth 100000
set_option maxHeartbeats 4000000
namespace KN
open PySem L2
def spNodes (C : Addr) : Sp := fun vs H Q _ => ∃ (t : Addr) (pl : List (Str × Nd)) (L : List (Nd × Option Nd)), vs = [.ref t, .non] ∧ TreeAt C H t pl L ∧ ∀ H' l (ys : List (Addr × Nd)), Same H H' → H l = none → H' l = some (.lst (ys.map fun y => V.ref y.1)) → (ys.map Prod.snd).Perm (L.map (·.1)) → (∀ y ∈ ys, NdA H' y.1 y.2) → Q (.ref l) H'
def spSheetsOf (C : Addr) : Sp := fun vs H Q _ => ∃ (t a : Addr) (n : Nd) (pl : List (Str × Nd)) (L : List (Nd × Option Nd)), vs = [.ref t, .ref a] ∧ TreeAt C H t pl L ∧ NdA H a n ∧ n ∈ L.map (·.1) ∧
  ∀ H' l (zs : List Str), Same H H' → H l = none → H' l = some (.lst (zs.map V.str)) → zs.length ≤ 60 → (∀ z, z ∈ zs ↔ ∃ k, (z, k) ∈ pl ∧ abvD L k n.1 = some n) → Q (.ref l) H'
theorem pl_some {H : Hp} {kvs : List (Key × V)} {pl : List (Str × Nd)} (h : Paired (PlR H) kvs pl) (nd : (pl.map (·.1)).Nodup) {z : Str} (hz : z ∈ pl.map (·.1)) : ∃ k a, (z, k) ∈ pl ∧ valV kvs (Sum.inr z : Key) = some (.ref a) ∧ NdA H a k ∧ ∀ k', (z, k') ∈ pl → k' = k := by
  induction h with
  | nil => cases hz
  | @cons q p kvs pl f _ ih =>
    obtain ⟨f1, a, f2, f3⟩ := f
    rw [List.map_cons, List.nodup_cons] at nd
    by_cases e : p.1 = z
    · subst e
      refine ⟨p.2, a, List.mem_cons_self, ?_, f3, fun k' hk' => ?_⟩
      · rw [valV_pos f1, f2]
      · rcases List.mem_cons.mp hk' with h | h
        · rw [← h]
        · exact absurd (List.mem_map.mpr ⟨_, h, rfl⟩) nd.1
    · rw [List.map_cons] at hz
      rcases List.mem_cons.mp hz with h | h
      · exact absurd h.symm e
      · obtain ⟨k, a2, h1, h2, h3, h4⟩ := ih nd.2 h
        refine ⟨k, a2, List.mem_cons_of_mem _ h1, ?_, h3, fun k' hk' => ?_⟩
        · rw [valV_neg (fun z' => e (Sum.inr.inj (f1.symm.trans z')))]; exact h2
        · rcases List.mem_cons.mp hk' with h | h
          · exact absurd (by rw [← h]) e
          · exact h4 k' h
theorem okD_n {n : Nd} (h : NdOk n) : okD (nD n) = true := by
  have := strOk_w h.2.2
  simp [nD, okD, okDs, this]
theorem okD_o {o : Option Nd} (h : ∀ m, o = some m → NdOk m) : okD (oN o) = true := by
  cases o with
  | none => rfl
  | some m => exact okD_n (h m rfl)
theorem abv_in {pl : List (Str × Nd)} {L : List (Nd × Option Nd)} (T : TrOk pl L) : ∀ {f : Nat} {o : Option Nd} {r : Int} {x : Nd}, (∀ y, o = some y → y ∈ L.map (·.1)) → abv L f o r = some x → x ∈ L.map (·.1)
  | 0, _, _, _, _, h => by cases h
  | _ + 1, none, _, _, _, h => by cases h
  | f + 1, some n, r, x, hy, h => by
    have h' : (if n.1 = r then some n else abv L f (par L n) r) = some x := h
    by_cases e : n.1 = r
    · rw [if_pos e] at h'; cases h'; exact hy _ rfl
    · rw [if_neg e] at h'
      exact abv_in T (rk_le T (hy n rfl)).2 h'
theorem TrOk.nd_ok {pl : List (Str × Nd)} {L : List (Nd × Option Nd)} (T : TrOk pl L) {n : Nd} (h : n ∈ L.map (·.1)) : NdOk n := by
  obtain ⟨p, hp, rfl⟩ := List.mem_map.mp h; exact T.ok p hp
theorem shaped_o {o : Option Nd} (h : okD (oN o) = true) : SeqAt.shaped (oN o) = true := shaped_of h (by cases o <;> simp [oN, nD, PyData.depth, PyData.depthAll])
theorem oN_some {o : Option Nd} {n : Nd} : oN o = nD n ↔ o = some n := by
  cases o with
  | none => exact ⟨fun h => (by cases h), fun h => (by cases h)⟩
  | some m => exact ⟨fun h => (by rw [nD_inj h]), fun h => (by cases h; rfl)⟩
section
variable {P : Program} {w : World} {K : PySem.W.Frag} {mg : Str → Option Value} {base : Heap} {C : Addr}
theorem sc_Tree_nodes : FnScope ["self", "rank", "node"] ["self", "rank"] (defScope s_Tree_nodes) := ⟨rfl, rfl, rfl, by decide +kernel, rfl, by decide +kernel, by decide +kernel⟩
theorem ok_Tree_nodes {f : Addr} {fd : FuncData} {kws : List (Str × V)} (F : FunD K "nodes" "Tree.nodes" (defArgs s_Tree_nodes) (defBody s_Tree_nodes) (defScope s_Tree_nodes) [] kws f fd) (T : TrT K C) (m_sorted : mg "sorted" = none) : FnOk P w K mg base CX0 5 f fd ["self", "rank"] (spNodes C) := by
  refine F.ok sc_Tree_nodes (fun vs H Q E h => ?_) (fun cdv A outer s H vs Q E hr h => ?_)
  · obtain ⟨t, pl, L, rfl, _⟩ := h; rfl
  · obtain ⟨t, pl, L, rfl, ⟨dx, kk, l, kvs, lvs, B⟩, k⟩ := h
    refine cut_nox ⟨_, (pss_one (ps_ret (pe_lc (own := [("node", 2)]) (g := gName 2) rfl sc_Tree_nodes.nd (pi_list (pe_callB (cr_sortedN rfl hr.units) (by rfl) m_sorted (by decide +kernel) (pa_cons (pe_fld (pv 0) rfl) pa_nil))) (blkOk_by (own := [("node", 2)]) (N := ["self", "rank", "node"]) (sc := defScope s_Tree_nodes) (by decide +kernel)) (fun _ _ _ _ _ => pg_name (i := 2) sc_Tree_nodes.nd rfl (Or.inl rfl)) (fun _ _ _ _ _ => (pts_one (PW.pt (pw_or (pt_cmpR op_isN (pv 1) pe_non (nomark _)) (pw_or1 (pt_cmpR op_eq (pe_ix (ix_tupK K) (pv 2) pe_int (fun _ _ => rfl)) (pv 1) (nomark _))))))) (fun _ _ _ _ _ => (pv 2))))), ?_⟩
    refine ⟨_, rfl, t, C, dx, _, _, rfl, B.ob, T.cl, T.nL, tf_l _ _, l, lvs, L.map (·.1), rfl, Rd.of B.ly, pa_keys B.lr, by rw [List.length_map]; have := B.ok.lln; omega, fun ys p pm hy hp => ?_⟩
    have sp := Same.new (o := .lst (ys.map fun y => V.ref y.1)) hp
    refine ⟨p, rfl, ⟨_, SqL.of upd_same⟩, fun D hD => ?_⟩
    refine lc_list (K := K) (a := p) (xs := ys.map fun y => V.ref y.1) (fun i H' => Same (upd H p (.lst (ys.map fun y => V.ref y.1))) H' ∧ H' D = some (.lst ((ys.take i).map fun y => V.ref y.1)))
      ⟨Same.new hD, upd_same⟩ (fun i H' _ q => SqL.of (q.1 _ _ upd_same)) ?_ ?_
    · rintro i x H2 hi ⟨s2, e2⟩
      rw [List.getElem?_map] at hi
      obtain ⟨y, hy1, rfl⟩ : ∃ y, ys[i]? = some y ∧ x = .ref y.1 := by
        cases e : ys[i]? with
        | none => rw [e] at hi; cases hi
        | some y => rw [e] at hi; exact ⟨y, rfl, (Option.some.inj hi).symm⟩
      have hlen : ys.length ≤ 360 := by have := pm.length_eq; rw [List.length_map, List.length_map] at this; have := B.ok.lln; omega
      have hlt : i < ys.length := (List.getElem?_eq_some_iff.mp hy1).1
      refine ⟨rfl, _, rfl, rfl, _, rfl, iteT (iteT ?_)⟩
      refine ⟨_, rfl, _, e2, by rw [List.length_map, List.length_take]; exact small1000 (by omega), fun b o e => ?_, ?_⟩
      · rw [upd_ne (ne_of_none e hD)]; exact s2 _ _ e
      · rw [upd_same, List.take_add_one, hy1, List.map_append]; rfl
    · rintro H2 ⟨s2, e2⟩
      rw [List.length_map, List.take_length] at e2
      exact k H2 D ys (sp.trans s2) (sp.free hD) e2 pm fun y hy' => s2 _ _ (sp _ _ (hy y hy'))
theorem sc_Tree_sheets : FnScope ["self", "node", "sheet"] ["self", "node"] (defScope s_Tree_sheets) := ⟨rfl, rfl, rfl, by decide +kernel, rfl, by decide +kernel, by decide +kernel⟩
theorem ok_Tree_sheets {f : Addr} {fd : FuncData} (F : FunD K "sheets" "Tree.sheets" (defArgs s_Tree_sheets) (defBody s_Tree_sheets) (defScope s_Tree_sheets) [V.non] [] f fd) (T : TrT K C) (m_sorted : mg "sorted" = none) (c_Tree__refuse : C8.Met P w K mg base 3 C "_refuse" (spTRefuse C) []) (c_Tree_above : C8.Met P w K mg base 4 C "above" (spAbove C) []) : FnOk P w K mg base CX0 5 f fd ["self", "node"] (spSheetsOf C) := by
  refine F.ok sc_Tree_sheets (fun vs H Q E h => ?_) (fun cdv A outer s H vs Q E hr h => ?_)
  · obtain ⟨t, a, n, pl, L, rfl, _⟩ := h; rfl
  · obtain ⟨t, a, n, pl, L, rfl, TA, ha, hn, k⟩ := h
    have hu := hu_of hr
    refine ⟨_, (pss_cons (ps_if (pt_cmpR op_isN (pv 1) pe_non (nomark _)) (pss_one (ps_ret (pe_callB (call_sortedD rfl) (by rfl) m_sorted (by decide +kernel) (pa_cons (pe_fld (pv 0) rfl) pa_nil)))) pss_nil)
      (pss_cons (ps_expr (C8.pe_mt c_Tree__refuse hr (by decide) (pv 0) (pa_cons (pv 1) pa_nil)))
      (pss_one (ps_ret (pe_lc (own := [("sheet", 2)]) (g := gName 2) rfl sc_Tree_sheets.nd (pi_list (pe_callB (call_sortedD rfl) (by rfl) m_sorted (by decide +kernel) (pa_cons (pe_fld (pv 0) rfl) pa_nil))) (blkOk_by (own := [("sheet", 2)]) (N := ["self", "node", "sheet"]) (sc := defScope s_Tree_sheets) (by decide +kernel)) (fun _ _ _ _ _ => pg_name (i := 2) sc_Tree_sheets.nd rfl (Or.inl rfl)) (fun _ _ _ _ _ => (pts_one (pt_cmpR (op_eqDK K hr.units) (C8.pe_mt c_Tree_above hr (by decide) (pv 0) (pa_cons (pe_dget (by exact hu) (pe_fldK K (pv 0) rfl) (pv 2) (fun _ _ => rfl)) (pa_cons (pe_ix (ix_tupK K) (pv 1) pe_int (fun _ _ => rfl)) pa_nil))) (pv 1) (nomark _)))) (fun _ _ _ _ _ => (pv 2))))))), ?_⟩
    obtain ⟨dx, kk, l, kvs, lvs, B⟩ := id TA
    refine ⟨_, rfl, rfl, _, rfl, iteF ?_⟩
    refine ⟨_, rfl, t, dx, _, rfl, B.ob, tf_no _ _ (by decide +kernel) (by decide +kernel), _, rfl, t, a, n, pl, L, rfl, TA, ha, hn, fun H1 s1 => ?_⟩
    have B1 := B.keep s1
    refine ⟨_, rfl, t, C, dx, _, _, rfl, B1.ob, T.cl, T.nK, tf_k _ _, kk, kvs, pl.map (·.1), rfl, Rd.of B1.kd, pl_keys B1.kr, by rw [List.length_map]; have := B.ok.pln; omega, fun ys p pm hso hp => ?_⟩
    have sp := Same.new (o := .lst (ys.map V.str)) hp
    have hylen : ys.length ≤ 60 := by have := pm.length_eq; rw [List.length_map] at this; have := B.ok.pln; omega
    refine ⟨p, rfl, ⟨_, SqL.of upd_same⟩, fun D hD => ?_⟩
    refine lc_list (K := K) (a := p) (xs := ys.map V.str) (fun i H' => Same (upd H1 p (.lst (ys.map V.str))) H' ∧ ∃ zs : List Str, H' D = some (.lst (zs.map V.str)) ∧ zs.length ≤ i ∧ ∀ z, z ∈ zs ↔ z ∈ ys.take i ∧ ∃ k, (z, k) ∈ pl ∧ abvD L k n.1 = some n)
      ⟨Same.new hD, [], upd_same, Nat.le_refl _, fun z => by rw [List.take_zero]; exact ⟨fun h => (by cases h), fun h => (by cases h.1)⟩⟩ (fun i H' _ q => SqL.of (q.1 _ _ upd_same)) ?_ ?_
    · rintro i x H2 hi ⟨s2, zs, e2, l2, a2⟩
      rw [List.getElem?_map] at hi
      obtain ⟨y, hy1, rfl⟩ : ∃ y, ys[i]? = some y ∧ x = .str y := by
        cases e : ys[i]? with
        | none => rw [e] at hi; cases hi
        | some y => rw [e] at hi; exact ⟨y, rfl, (Option.some.inj hi).symm⟩
      have hlt : i < ys.length := (List.getElem?_eq_some_iff.mp hy1).1
      have hym : y ∈ pl.map (·.1) := pm.mem_iff.mp (List.mem_of_getElem? hy1)
      have s02 := (s1.trans sp).trans s2
      have B2 := B.keep s02
      obtain ⟨kn, ka, hk1, hk2, hk3, hk4⟩ := pl_some B2.kr B.ok.pnd hym
      have hkin := B.ok.pk _ hk1
      have step : ys.take (i + 1) = ys.take i ++ [y] := by rw [List.take_add_one, hy1]; rfl
      have hnok := B.ok.nd_ok hn
      refine ⟨rfl, _, rfl, t, dx, _, rfl, B2.ob, tf_no _ _ (by decide +kernel) (by decide +kernel), _, rfl, t, C, dx, _, _, rfl, B2.ob, T.cl, T.nK, tf_k _ _, _, rfl, kk, .ref ka, rfl, by rw [← hk2]; exact DGet.k (k := .inr y) B2.kd, ?_⟩
      refine ⟨_, rfl, _, _, _, _, rfl, rfl, SqT.of (s02 _ _ ha), at_of (j := 0) rfl rfl, t, ka, kn, n.1, pl, L, rfl, ⟨dx, kk, l, kvs, lvs, B2⟩, hk3, hkin, fun H3 v s3 tv => ?_⟩
      have hao : ∀ m, abvD L kn n.1 = some m → NdOk m := fun m e => B.ok.nd_ok (abv_in B.ok (fun y e => by cases e; exact hkin) e)
      have hok1 := okD_o hao
      have hok2 := okD_n hnok
      refine ⟨_, rfl, oN (abvD L kn n.1), nD n, tv.d, (Tp.nd (s3 _ _ (s02 _ _ ha))).d, shaped_o hok1, shaped_of hok2 (by simp [nD, PyData.depth, PyData.depthAll]), _, rfl, ?_⟩
      rw [eqv_dec (p := abvD L kn n.1 = some n) hok1 hok2 oN_some]
      by_cases q : abvD L kn n.1 = some n
      · rw [decide_eq_true q]
        refine iteT ⟨_, rfl, _, s3 _ _ e2, by rw [List.length_map]; exact small1000 (by omega), fun b o e => ?_, zs ++ [y], by rw [upd_same, List.map_append]; rfl, by rw [List.length_append, List.length_singleton]; omega, fun z => ?_⟩
        · rw [upd_ne (ne_of_none e hD)]; exact s3 _ _ (s2 _ _ e)
        · rw [step, List.mem_append, List.mem_append, List.mem_singleton, a2]
          constructor
          · rintro (⟨h1, h2⟩ | rfl)
            · exact ⟨.inl h1, h2⟩
            · exact ⟨.inr rfl, kn, hk1, q⟩
          · rintro ⟨h1 | h1, h2⟩
            · exact .inl ⟨h1, h2⟩
            · exact .inr h1
      · rw [decide_eq_false q]
        refine iteF ⟨fun b o e => s3 _ _ (s2 _ _ e), zs, s3 _ _ e2, by omega, fun z => ?_⟩
        rw [step, List.mem_append, List.mem_singleton, a2]
        constructor
        · rintro ⟨h1, h2⟩; exact ⟨.inl h1, h2⟩
        · rintro ⟨h1 | h1, h2⟩
          · exact ⟨h1, h2⟩
          · subst h1
            obtain ⟨k2, g1, g2⟩ := h2
            rw [hk4 k2 g1] at g2
            exact absurd g2 q
    · rintro H2 ⟨s2, zs, e2, l2, a2⟩
      rw [List.length_map] at l2
      rw [List.length_map, List.take_length] at a2
      refine k H2 D zs ((s1.trans sp).trans s2) (s1.free (sp.free hD)) e2 (by omega) fun z => ?_
      rw [a2]
      refine ⟨fun h => h.2, fun h => ⟨?_, h⟩⟩
      obtain ⟨k, hk, _⟩ := h
      exact pm.mem_iff.mpr (List.mem_map.mpr ⟨_, hk, rfl⟩)
end
end KN


set_option Elab.async false
set_option linter.all false
set_option maxRecDepth 100000
namespace KN
open PySem PySem.Spec PyProof.Rows L2
/-! sorted(t) of a tuple of texts: what it is, too. -/
def sortS (xs : List Str) : List Str := xs.mergeSort (PySem.W.dataLe false fun b : Str => PyData.str b)
theorem sortS_perm (xs : List Str) : (sortS xs).Perm xs := List.mergeSort_perm xs _
def rSortedTS2 (K : PySem.W.Frag) : List V → Hp → VK → Prop := fun vs H Q => ∃ (a : Addr) (xs : List Str), vs = [.ref a] ∧ H a = some (.tup (xs.map V.str)) ∧ xs.length < 1000 ∧
  ∀ p : Addr, H p = none → Q (.ref p) (upd H p (.lst ((sortS xs).map V.str)))
theorem cr_sortedTS2 {X : Cx} (hun : X.A.units + 64 < cLine) : CallR X (.builtin "sorted") (rSortedTS2 X.K) := by
  intro pins s σ H xs us Q I r q
  obtain ⟨a, xs, rfl, ha, hl, q⟩ := q
  obtain ⟨u, eu, rx⟩ := vals1 r
  subst eu
  cases rx
  obtain ⟨its, rv, pt, _⟩ := I.tuple (SqT.of ha)
  obtain ⟨ob, ho, hc, n0, hd⟩ := pt
  have hil : its.length = xs.length := by have := rv.length; rw [List.length_map] at this; omega
  refine Calls.call_function_entry PyProof.Rows.kind_sorted PyProof.Rows.plain_sorted PyProof.Rows.entry_sorted (PyProof.Rows.args_sorted1 _) ?_
  unfold Builtin.«sorted»
  refine wpAny_bind (m := checkCount "sorted" 1 1 _) (wpAny_pure ?_)
  refine wpAny_bind (wpAny_collect_seq (A := X.A.in1) a (.inr rfl) ho hc hd (fun g hk => ?_) (hsz := by rw [List.size_toArray, sizeLine_eq]; omega))
  have J : Inv X pins σ H { s with heap := g } := I.kept (t' := s.toks) hk
  show wpAny _ _ (newList its.toArray.toList >>= _) _ _ _
  rw [show its.toArray.toList = its from rfl]
  refine wpAny_bind (wpAny_newList ?_ (by rw [sizeLine_eq]; omega))
  have hoL : (g.push (seqObj "list" its.toArray 0)).get? g.objs.size = some (seqObj "list" its.toArray 0) := Heap.get?_push_size _ rfl
  have hE : PySem.W.EachIs StR its xs := eachS rv
  have hread : PySem.W.EachIs (fun v (b : Str) => ∃ as, Reads (g.push (seqObj "list" its.toArray 0)) v (PyData.str b) as ∧ g.objs.size ∉ as) its xs := hE.mono fun v b ⟨t, e1⟩ => by
    subst e1
    exact ⟨[], .str _ _, by simp⟩
  refine wpAny_bind (wpAny_holding (PySem.W.list_sort_data (A := X.A.in1) (s := { s with heap := g.push (seqObj "list" its.toArray 0) }) (enc := fun b : Str => PyData.str b) hoL hE hread ?_ ?_ (Nat.le_trans (by omega : xs.length ≤ 1000) (by decide)) (fun b _ => by show X.A.units + 1 + 1 + _ < _; simp only [PyData.depth]; omega) fun out hlen hout => ?_))
  · intro d hd d' hd'
    obtain ⟨x, _, rfl⟩ := List.mem_map.mp hd
    obtain ⟨y, _, rfl⟩ := List.mem_map.mp hd'
    rfl
  · exact .inr fun d hd => by
      obtain ⟨x, _, rfl⟩ := List.mem_map.mp hd
      exact ⟨(by intro z; cases z), fun ys z => (by cases z)⟩
  · obtain ⟨e', he'⟩ := PyProof.Rows.sortedHeap_at (vs := its) (out := out.toArray) hoL
    have v1 := eachS_inv hout
    have pm := List.mergeSort_perm xs (PySem.W.dataLe false fun b : Str => PyData.str b)
    have hl2 : ((xs.mergeSort (PySem.W.dataLe false fun b : Str => PyData.str b)).map V.str).length ≤ sizeLine := by
      rw [List.length_map, pm.length_eq, sizeLine_eq]; omega
    refine wpAny_pure ⟨_, rfl, .ref g.objs.size, upd H g.objs.size (.lst ((xs.mergeSort (PySem.W.dataLe false fun b : Str => PyData.str b)).map V.str)), J.laid (t' := s.toks) (fun b u e => ?_) (Nat.le_refl _)
      (show ObjOk X.prog X.w _ _ _ (.lst ((xs.mergeSort (PySem.W.dataLe false fun b : Str => PyData.str b)).map V.str)) from ⟨hl2, out, e', v1, he'⟩), rfl, q _ (J.hok.fresh (Nat.le_refl _))⟩
    have hb : b < g.objs.size := Heap.lt_size e
    rw [PyProof.Rows.sortedHeap_old (Nat.ne_of_lt hb) (by rw [size_push']; exact Nat.lt_succ_of_lt hb)]
    exact Heap.get?_push_of_some _ e
end KN

set_option Elab.async false
set_option linter.all false
set_option maxRecDepth 100000
set_option maxHeartbeats 4000000
/-! Own rules: sets of anything that a dict may have for a key in the heap (tuples of numbers and texts, nested ones). -/
namespace GS
open PySem PySem.Spec PyProof.Rows L2
section
variable {P : Program} {w : World} {κ : Type} [DecidableEq κ]
/-- keys that a set may hold: they stay, they are of no class statement, whether their hash is their value's is told -/
structure Fit (G : HeapKind P w κ) : Prop where
  stays : HeapKind.Stays G
  dull : ∀ {A : Around} {E : Value → Shared → Prop} {s : Shared} {k : κ} {b : Addr} {Q : Bool → Shared → Prop}, G.is s.heap k b → Q false s → wpAny (model P w) A (ofAClassStatement 8 (.ref b)) Q E s
  worth : ∀ {A : Around} {E : Value → Shared → Prop} {s : Shared} {k : κ} {b : Addr} {Q : Bool → Shared → Prop}, G.is s.heap k b → (∀ v, Q v s) → wpAny (model P w) A (hashByValue 8 (.ref b)) Q E s
theorem Fit.grow {G : HeapKind P w κ} (F : Fit G) {h h' : Heap} {k : κ} {b : Addr} (x : G.is h k b) (e : ∀ c o, h.get? c = some o → h'.get? c = some o) : G.is h' k b := F.stays.stays (fun c o _ _ q _ => e c o q) x
/-- another set written -/
theorem Fit.aside {G : HeapKind P w κ} (F : Fit G) {h h' : Heap} {k : κ} {b S : Addr} {o : Obj} {es : Array (Int × Value)} {ep : Nat} {t : SetTable} (x : G.is h k b) (at_ : h.get? S = some o) (dat : o.data = .set es ep t) (but : Heap.SameBut S h h') : G.is h' k b :=
  F.stays.stays (fun c u vs n q d => by
    have off : c ≠ S := fun z => by
      rw [z, at_] at q
      cases q
      rw [dat] at d
      cases d
    exact (but.2 c off).trans q) x
/-- the set at S holds the keys of M, in the order of its rows -/
structure Held (G : HeapKind P w κ) (h : Heap) (S : Addr) (M : List (κ × Addr)) (es : Array (Int × Value)) (ep : Nat) (t : SetTable) : Prop where
  obj : ∃ o, h.get? S = some o ∧ o.ExactSet ∧ o.data = .set es ep t
  ent : es.toList = M.map fun q => (G.hash q.1, Value.ref q.2)
  tab : TabOk t (M.map fun q => G.hash q.1)
  one : (M.map Prod.fst).Nodup
  key : ∀ q ∈ M, G.is h q.1 q.2
  led : w.params.followText "set-order" = true ∨ t.led = true
  room : M.length * 5 < t.mask * 3
  few : M.length < 64
section
variable {A : Around} {E : Value → Shared → Prop} {s : Shared} {G : HeapKind P w κ} {S : Addr} {M : List (κ × Addr)} {es : Array (Int × Value)} {ep : Nat} {t : SetTable}
theorem many {es : Array (Int × Value)} (e : es.toList = M.map fun q => (G.hash q.1, Value.ref q.2)) : es.size = M.length := by
  rw [← Array.length_toList, e, List.length_map]
theorem nth_ent {es : Array (Int × Value)} (e : es.toList = M.map fun q => (G.hash q.1, Value.ref q.2)) {i : Nat} {q : κ × Addr} (hq : M[i]? = some q) : es[i]? = some (G.hash q.1, Value.ref q.2) := by
  rw [← Array.getElem?_toList, e, List.getElem?_map, hq] <;> rfl
theorem Held.places (U : Held G s.heap S M es ep t) : t.place.toList.length = M.length := by
  rw [Array.length_toList, U.tab.sz, List.length_map]
theorem Held.fit (U : Held G s.heap S M es ep t) : t.fits es.size = true := by
  have z := U.places
  have r := U.room
  rw [Array.length_toList] at z
  unfold SetTable.fits SetTable.fill
  rw [U.tab.dm, many U.ent, Bool.and_eq_true, beq_iff_eq, decide_eq_true_eq]
  exact ⟨z, by show t.place.size + 0 ≤ t.mask; omega⟩
theorem Held.firm (U : Held G s.heap S M es ep t) : ¬ t.gaveWay = true := by
  unfold SetTable.gaveWay
  rw [mask_odd U.tab.mok] <;> decide
/-- looking among keys shows nothing -/
theorem unseen (F : Fit G) {k : κ} {b : Addr} {ys : List Value} {Q : Bool → Shared → Prop} (x : G.is s.heap k b) (all : ∀ y ∈ ys, ∃ k' c, y = Value.ref c ∧ G.is s.heap k' c) (go : Q false s) : wpAny (model P w) A (searchCouldBeSeen (.ref b) ys) Q E s := by
  unfold searchCouldBeSeen
  refine wpAny_bind (wpAny_forIn_list _ (fun rest r z => r.1 = none ∧ z = s ∧ ∀ y ∈ rest, ∃ k' c, y = Value.ref c ∧ G.is s.heap k' c) _ ?_ ?_ _ _ ⟨rfl, rfl, all⟩)
  · rintro v rest r z ⟨_, rfl, al⟩
    obtain ⟨k', c, rfl, xc⟩ := al v List.mem_cons_self
    have tail := fun u hu => al u (List.mem_cons_of_mem _ hu)
    dsimp only
    by_cases same : (b == c || (carriedByValue (.ref b) && carriedByValue (.ref c))) = true
    · exact wp_if_pos same (wpAny_pure ⟨rfl, rfl, tail⟩)
    · refine wp_if_neg same (wpAny_bind (G.quiet x ?_))
      simp only [Bool.not_true, Bool.false_eq_true, if_false]
      refine wpAny_bind (G.quiet xc ?_)
      simp only [Bool.not_true, Bool.false_eq_true, if_false]
      refine wpAny_bind (F.dull x ?_)
      simp only [Bool.false_eq_true, if_false]
      refine wpAny_bind (F.dull xc ?_)
      simp only [Bool.false_eq_true, if_false]
      exact wpAny_pure ⟨rfl, rfl, tail⟩
  · rintro ⟨r1, r2⟩ z ⟨e, rfl, _⟩
    simp only at e
    subst e
    exact wpAny_pure go
/-- the way of a key through the table -/
abbrev from_ (t : SetTable) (h : Int) (c : Nat) : SetTable.Probe := nth t.mask (runAt t.mask (SetTable.bits h % (t.mask + 1)) (SetTable.bits h)) c
theorem from_add (t : SetTable) (h : Int) (c q : Nat) : nth t.mask (from_ t h c) q = from_ t h (c + q) := (nth_add t.mask c _ q).symm
theorem clean (m : Nat) : ∀ (n : Nat) (p : SetTable.Probe), p.dummy = none → (nth m p n).dummy = none
  | 0, _, e => e
  | n + 1, p, e => clean m n (adv m p) (by unfold adv; split <;> exact e)
/-- the search, from the c-th place of the way on -/
theorem seek (F : Fit G) (U : Held G s.heap S M es ep t) {x : Addr} {k : κ} (hx : G.is s.heap k x) (hr : G.room A) {N : Nat} (lim : N < 10 * SetTable.turns t.mask)
    (open_ : way t.mask (G.hash k) N ∉ t.place.toList) (shut : ∀ c, c < N → way t.mask (G.hash k) c ∈ t.place.toList) {Q : SetFound → Shared → Prop} (yes : k ∈ M.map Prod.fst → Q (.there none) s) (no : k ∉ M.map Prod.fst → Q (.free (way t.mask (G.hash k) N) false) s) :
    ∀ (n c : Nat) (stand : Option SetTable.Probe), N - c < n → c ≤ N → stand.getD (t.probeStart (G.hash k)) = from_ t (G.hash k) c →
      (∀ (i : Nat) q, M[i]? = some q → q.1 = k → ∃ c', c ≤ c' ∧ c' < N ∧ t.place.toList[i]? = some (way t.mask (G.hash k) c')) → wpAny (model P w) A (setSearchFrom S (.ref x) (G.hash k) true n stand) Q E s := by
  obtain ⟨o, at_, ex, dat⟩ := U.obj
  intro n
  induction n with
  | zero => intro c stand z; omega
  | succ n ih =>
    intro c stand left below st ahead
    rw [setSearchFrom_succ]
    refine wpAny_bind (wpAny_setState_of at_ dat U.fit ?_)
    dsimp only
    refine wp_if_neg U.firm ?_
    try refine wpAny_bind (wpAny_pure ?_)
    have jj : ∀ q, (nth t.mask (from_ t (G.hash k) c) q).j = way t.mask (G.hash k) (c + q) := fun q => congrArg SetTable.Probe.j (from_add t (G.hash k) c q)
    have hh : ∀ (i : Nat) q, M[i]? = some q → (fun i => (es[i]?.map (·.1)).getD 0) i = G.hash q.1 := fun i q e => by
      show (es[i]?.map (·.1)).getD 0 = _
      rw [nth_ent U.ent e] <;> rfl
    have met := go_spec t U.tab.ris U.tab.dm (fun i => (es[i]?.map (·.1)).getD 0) (G.hash k) (10 * SetTable.turns t.mask) (N - c) (from_ t (G.hash k) c) (clean _ c _ rfl) (by omega)
      (fun q lt => by rw [jj]; exact shut (c + q) (by omega)) (by rw [jj, show c + (N - c) = N by omega]; exact open_)
    rcases met with ⟨q, i, lt, here, same, none_, go⟩ | ⟨none_, go⟩
    · have go2 : t.probe (fun i => (es[i]?.map (·.1)).getD 0) (G.hash k) (stand.getD (t.probeStart (G.hash k))) = some (.candidate (way t.mask (G.hash k) (c + q)) i (from_ t (G.hash k) (c + (q + 1)))) := by
        rw [st, ← jj, ← from_add]; exact go
      rw [go2]
      dsimp only
      rw [jj] at here
      have lti : i < M.length := by rw [← U.places]; exact (List.getElem?_eq_some_iff.mp here).1
      obtain ⟨p, hp⟩ : ∃ p, M[i]? = some p := ⟨_, List.getElem?_eq_getElem lti⟩
      have pin := List.mem_of_getElem? hp
      have tail : wpAny (model P w) A (searchRest S (.ref x) (G.hash k) true n es t (way t.mask (G.hash k) (c + q)) i (from_ t (G.hash k) (c + (q + 1)))) Q E s := by
        unfold searchRest
        rw [nth_ent U.ent hp]
        dsimp only
        refine wpAny_bind (wpAny_holding (G.eqBool hr (U.key p pin) hx (wpAny_bind (wpAny_setState_of at_ dat U.fit ?_))))
        dsimp only
        by_cases eq : p.1 = k
        · refine wp_if_pos (by simp [eq]) (wpAny_pure (yes (List.mem_map.mpr ⟨p, pin, eq⟩)))
        · refine wp_if_neg (by simp [eq]) ?_
          try refine wpAny_bind (wpAny_pure ?_)
          rw [sameMem]
          dsimp only
          have live := slot_live U.tab.ris here
          simp only [if_true, live, nth_ent U.ent hp]
          refine wpAny_bind (wpAny_isSame_ref_self (wpAny_bind (wpAny_pure ?_)))
          simp only [if_true]
          refine wp_if_neg (by simp [eq]) (ih (c + (q + 1)) _ (by omega) (by omega) rfl fun j r hj ej => ?_)
          obtain ⟨c', b1, b2, b3⟩ := ahead j r hj ej
          refine ⟨c', ?_, b2, b3⟩
          by_cases early : c' < c + q
          · exact absurd ((hh j r hj).trans (congrArg G.hash ej)) (none_ (c' - c) j (by omega) (by rw [jj, show c + (c' - c) = c' by omega]; exact b3))
          · by_cases late : c' = c + q
            · rw [late] at b3
              have live2 := slot_live U.tab.ris b3
              rw [live] at live2
              injection live2 with ij
              rw [← ij, hp] at hj
              cases hj
              exact absurd ej eq
            · omega
      by_cases led : t.led = true
      · refine wp_if_neg (by simp [led]) ?_
        try refine wpAny_bind (wpAny_pure ?_)
        exact tail
      · refine wp_if_pos (by simp [led]) (wpAny_bind (unseen F hx (fun y hy => ?_) ?_))
        · obtain ⟨e, he, rfl⟩ := List.mem_map.mp hy
          have h1 : e ∈ es.toList := by
            have : e ∈ es ∧ e.1 = G.hash k := by simpa using he
            simpa using this.1
          rw [U.ent] at h1
          obtain ⟨r, hr2, rfl⟩ := List.mem_map.mp h1
          exact ⟨r.1, r.2, rfl, U.key r hr2⟩
        · refine wp_if_neg (by decide) ?_
          try refine wpAny_bind (wpAny_pure ?_)
          exact tail
    · have go2 : t.probe (fun i => (es[i]?.map (·.1)).getD 0) (G.hash k) (stand.getD (t.probeStart (G.hash k))) = some (.empty (way t.mask (G.hash k) N) none) := by
        have e2 := jj (N - c)
        rw [show c + (N - c) = N by omega] at e2
        rw [st, ← e2]; exact go
      rw [go2]
      dsimp only
      refine wpAny_pure (no fun inM => ?_)
      obtain ⟨r, hr2, er⟩ := List.mem_map.mp inM
      obtain ⟨i, hi⟩ := List.mem_iff_getElem?.mp hr2
      obtain ⟨c', b1, b2, b3⟩ := ahead i r hi er
      exact none_ (c' - c) i (by omega) (by rw [jj, show c + (c' - c) = c' by omega]; exact b3) ((hh i r hi).trans (congrArg G.hash er))
/-- the search that adding asks for -/
theorem search (F : Fit G) (U : Held G s.heap S M es ep t) {x : Addr} {k : κ} (hx : G.is s.heap k x) (hr : G.room A) {Q : SetFound → Shared → Prop} (yes : k ∈ M.map Prod.fst → Q (.there none) s)
    (no : ∀ N, k ∉ M.map Prod.fst → way t.mask (G.hash k) N ∉ t.place.toList → (∀ c, c < N → way t.mask (G.hash k) c ∈ t.place.toList) → Q (.free (way t.mask (G.hash k) N) false) s) : wpAny (model P w) A (setSearch S (.ref x) (G.hash k) true) Q E s := by
  have r := U.room
  obtain ⟨N, lim, open_, shut⟩ := U.tab.first (by rw [List.length_map]; omega) (G.hash k)
  have turns : 10 * SetTable.turns t.mask ≤ 1420 := by
    unfold SetTable.turns
    rcases U.tab.mok with e | e | e <;> omega
  unfold setSearch
  refine seek F U hx hr lim open_ shut yes (fun n => no N n open_ shut) 100000 0 none (by omega) (Nat.zero_le _) rfl fun i q hq e => ?_
  have lt : i < t.place.toList.length := by rw [U.places]; exact (List.getElem?_eq_some_iff.mp hq).1
  obtain ⟨c, h1, h2⟩ := U.tab.before open_ (show (M.map fun q => G.hash q.1)[i]? = some (G.hash k) by rw [List.getElem?_map, hq, ← e] <;> rfl) (List.getElem?_eq_getElem lt)
  exact ⟨c, Nat.zero_le _, h1, by rw [List.getElem?_eq_getElem lt, h2]⟩
/-- the rows in another order -/
theorem shuffle {es : Array (Int × Value)} (e : es.toList = M.map fun q => (G.hash q.1, Value.ref q.2)) {order : Array Nat} (pm : order.toList.Perm (List.range M.length)) :
    ∃ M2 : List (κ × Addr), (order.filterMap (es[·]?)).toList = (M2.map fun q => (G.hash q.1, Value.ref q.2)) ∧ M2.Perm M ∧ (M2.map fun q => G.hash q.1) = order.toList.map fun i => (es.map (·.1)).getD i 0 := by
  have all : ∀ l : List Nat, (∀ i ∈ l, i < M.length) → l.filterMap (fun i => es[i]?) = ((l.filterMap fun i => M[i]?).map fun q => (G.hash q.1, Value.ref q.2)) ∧ ((l.filterMap fun i => M[i]?).map fun q => G.hash q.1) = l.map fun i => (es.map (·.1)).getD i 0 := by
    intro l
    induction l with
    | nil => exact fun _ => ⟨rfl, rfl⟩
    | cons i l ih =>
      intro small
      have lt := small i List.mem_cons_self
      have q := List.getElem?_eq_getElem lt
      have eq := nth_ent e q
      obtain ⟨h1, h2⟩ := ih fun j hj => small j (List.mem_cons_of_mem _ hj)
      refine ⟨?_, ?_⟩
      · rw [List.filterMap_cons_some eq, List.filterMap_cons_some q, List.map_cons, h1]
      · rw [List.filterMap_cons_some q, List.map_cons, List.map_cons, h2]
        congr 1
        simp [Array.getD_eq_getD_getElem?, eq]
  obtain ⟨h1, h2⟩ := all order.toList fun i hi => List.mem_range.mp (pm.mem_iff.mp hi)
  refine ⟨_, by first | (rw [Array.toList_filterMap]; exact h1) | simpa using h1, ?_, h2⟩
  have whole : ∀ n, n ≤ M.length → (List.range n).filterMap (fun i => M[i]?) = M.take n := by
    intro n
    induction n with
    | zero => exact fun _ => rfl
    | succ n ih =>
      intro le
      rw [List.range_succ, List.filterMap_append, ih (by omega), List.take_add_one]
      congr 1
  have p2 := pm.filterMap fun i => M[i]?
  rw [whole M.length (Nat.le_refl _), List.take_length] at p2
  exact p2
/-- a larger table -/
theorem larger (F : Fit G) {o : Obj} (at_ : s.heap.get? S = some o) (ex : o.ExactSet) (dat : o.data = .set es ep t) (e : es.toList = M.map fun q => (G.hash q.1, Value.ref q.2)) (sz : t.place.size = es.size) (dm : t.dummies = #[]) (fill : es.size ≤ t.mask) (one : (M.map Prod.fst).Nodup) (key : ∀ q ∈ M, G.is s.heap q.1 q.2)
    (led : w.params.followText "set-order" = true ∨ t.led = true) (few : M.length < 64) {wanted m : Nat} (hm : SetTable.sizeAbove wanted - 1 = m) (ok : MaskOk m) (le : SetTable.sizeAbove wanted ≤ 128) (room : M.length * 5 < m * 3) {Q : Unit → Shared → Prop}
    (go : ∀ h2 M2 es2 ep2 t2, Heap.SameBut S s.heap h2 → Held G h2 S M2 es2 ep2 t2 → M2.Perm M → Q () { s with heap := h2 }) : wpAny (model P w) A (setRelay S wanted) Q E s := by
  have n := many e
  have fits : t.fits es.size = true := by
    unfold SetTable.fits SetTable.fill
    rw [dm, Bool.and_eq_true, beq_iff_eq, decide_eq_true_eq]
    exact ⟨sz, by show t.place.size + 0 ≤ t.mask; omega⟩
  obtain ⟨t2, order, re, pm, tab, em, el, epl, _⟩ := relaid_ok t (hs := es.map (·.1)) (wanted := wanted) hm ok (by rw [Array.size_map, n]; omega)
  rw [Array.size_map, n] at pm
  obtain ⟨M2, e2, p2, h2⟩ := shuffle e pm
  rw [← h2] at tab
  have n2 : (order.filterMap (es[·]?)).size = es.size := by rw [many e2, p2.length_eq, n]
  rw [setRelay_eq]
  refine wpAny_bind (wpAny_setState_of at_ dat fits ?_)
  dsimp only
  refine wp_if_neg (by rw [sizeLine_eq]; omega) ?_
  try refine wpAny_bind (wpAny_pure ?_)
  rw [re]
  dsimp only
  refine wpAny_bind (wp_if_neg (by rw [n2]; simp) ?_)
  try refine wpAny_bind (wpAny_pure ?_)
  refine wpAny_pure ?_
  dsimp only
  refine wpAny_storeSet_of at_ dat ?_ (by rw [n2, n, sizeLine_eq]; omega)
  have but := Heap.SameBut.update (a := S) (h := s.heap) (f := Obj.putSet (order.filterMap (es[·]?)) t2)
  exact go _ M2 _ (ep + 1) t2 but ⟨⟨_, store_at at_ dat, ⟨ex.1, ex.2.1, ex.2.2⟩, rfl⟩, e2, tab, (p2.map Prod.fst).nodup_iff.mpr one, fun q hq => F.aside (key q (p2.mem_iff.mp hq)) at_ dat but, by rw [el]; exact led, by rw [p2.length_eq, em]; exact room, by rw [p2.length_eq]; exact few⟩ p2
theorem perm_in {α : Type} (l : List α) (i : Nat) (x : α) : (l.take i ++ x :: l.drop i).Perm (x :: l) := by
  have := List.perm_middle (a := x) (l₁ := l.take i) (l₂ := l.drop i)
  rwa [List.take_append_drop] at this
theorem tab_plain {t : SetTable} {hs : List Int} (T : TabOk t hs) (v : Bool) : TabOk { t with plain := v } hs := ⟨T.ris, T.dm, T.sz, T.mok, T.bd, T.reach⟩
/-- one more -/
theorem add (F : Fit G) (U : Held G s.heap S M es ep t) {x : Addr} {k : κ} (hx : G.is s.heap k x) (hr : G.room A) (few : M.length + 1 < 64) {Q : Bool → Shared → Prop}
    (go : ∀ b h2 M2 es2 ep2 t2, Heap.SameBut S s.heap h2 → Held G h2 S M2 es2 ep2 t2 → ((k ∈ M.map Prod.fst ∧ M2 = M) ∨ (k ∉ M.map Prod.fst ∧ M2.Perm ((k, x) :: M))) → Q b { s with heap := h2 }) : wpAny (model P w) A (setAddHashed S (.ref x) (G.hash k)) Q E s := by
  obtain ⟨o, at_, ex, dat⟩ := U.obj
  have n := many U.ent
  have r := U.room
  unfold setAddHashed
  refine wpAny_holding ?_
  rw [show (100000 : Nat) = 99999 + 1 from rfl, setAddHashedIn_succ]
  refine wpAny_bind (wpAny_setState_of at_ dat U.fit ?_)
  dsimp only
  refine wp_if_neg (by simp [byScan, Value.scannable]) ?_
  try refine wpAny_bind (wpAny_pure ?_)
  refine wpAny_bind (search F U hx hr (fun yes => ?_) fun N no open_ shut => ?_)
  · exact wpAny_pure (go false s.heap M es ep t (Heap.SameBut.refl S s.heap) U (.inl ⟨yes, rfl⟩))
  dsimp only
  refine wpAny_bind (wpAny_setState_of at_ dat U.fit ?_)
  dsimp only
  obtain ⟨q1, q2, q3, q4, q5, q6, q7, q8, q9⟩ := U.tab.put open_ shut
  generalize t.put (way t.mask (G.hash k) N) = tp at q1 q3 q4 q5 q6 q7 q8 q9 ⊢
  obtain ⟨t1, i⟩ := tp
  dsimp only at q1 q3 q4 q5 q6 q7 q8 q9 ⊢
  subst q1
  generalize SetTable.below t.place (way t.mask (G.hash k) N) = i at q2 q3 ⊢
  have ins : (SetTable.insertAt es i (G.hash k, Value.ref x)).toList = (M.take i ++ (k, x) :: M.drop i).map fun q => (G.hash q.1, Value.ref q.2) := by
    rw [SetTable.toList_insertAt, U.ent, List.map_append, List.map_cons, List.map_take, List.map_drop]
  have hashes : (M.take i ++ (k, x) :: M.drop i).map (fun q => G.hash q.1) = (M.map fun q => G.hash q.1).take i ++ G.hash k :: (M.map fun q => G.hash q.1).drop i := by
    rw [List.map_append, List.map_cons, List.map_take, List.map_drop]
  rw [← hashes] at q3
  have pm := perm_in M i (k, x)
  generalize SetTable.insertAt es i (G.hash k, Value.ref x) = es1 at ins ⊢
  generalize M.take i ++ (k, x) :: M.drop i = M1 at ins pm q3
  have len : M1.length = M.length + 1 := pm.length_eq
  have n1 : es1.size = M.length + 1 := by rw [many ins, len]
  have one : (M1.map Prod.fst).Nodup := (pm.map Prod.fst).nodup_iff.mpr (by rw [List.map_cons]; exact List.nodup_cons.mpr ⟨no, U.one⟩)
  have tail : ∀ t2 : SetTable, TabOk t2 (M1.map fun q => G.hash q.1) → t2.mask = t.mask → t2.led = t.led → wpAny (model P w) A (do
      storeSet S es1 t2
      if (!false && t2.tooFull) = true then (do
        setRelay S (SetTable.grown (es.size + 1))
        pure true) else pure true) Q E s := fun t2 T m2 l2 => by
    refine wpAny_bind (wpAny_storeSet_of at_ dat ?_ (by rw [n1, sizeLine_eq]; omega))
    have but := Heap.SameBut.update (a := S) (h := s.heap) (f := Obj.putSet es1 t2)
    have at2 := store_at (es' := es1) (t' := t2) at_ dat
    generalize s.heap.update S (Obj.putSet es1 t2) = h1 at but at2 ⊢
    have key : ∀ q ∈ M1, G.is h1 q.1 q.2 := fun q hq => by
      rcases List.mem_cons.mp (pm.mem_iff.mp hq) with rfl | h
      · exact F.aside hx at_ dat but
      · exact F.aside (U.key q h) at_ dat but
    have led : w.params.followText "set-order" = true ∨ t2.led = true := by rw [l2]; exact U.led
    have sz : t2.place.size = M.length + 1 := by rw [T.sz, List.length_map, len]
    have full : t2.tooFull = decide ((M.length + 1) * 5 ≥ t.mask * 3) := by
      unfold SetTable.tooFull SetTable.fill
      rw [T.dm, sz, m2] <;> rfl
    rw [full]
    by_cases f : (M.length + 1) * 5 ≥ t.mask * 3
    · refine wp_if_pos (by simp [f]) ?_
      have two : (t.mask = 7 ∧ M.length = 4) ∨ (t.mask = 31 ∧ M.length = 18) := by
        rcases U.tab.mok with e | e | e <;> rw [e] at f r <;> omega
      have on : ∀ m, SetTable.sizeAbove (SetTable.grown (es.size + 1)) - 1 = m → MaskOk m → SetTable.sizeAbove (SetTable.grown (es.size + 1)) ≤ 128 → (M.length + 1) * 5 < m * 3 → wpAny (model P w) A (do
          setRelay S (SetTable.grown (es.size + 1))
          pure true) Q E { s with heap := h1 } := fun m e1 e2 e3 e4 => by
        refine wpAny_bind (larger F (s := { s with heap := h1 }) at2 ⟨ex.1, ex.2.1, ex.2.2⟩ rfl ins (by rw [sz, n1]) T.dm (by rw [n1, m2]; rcases two with ⟨e, _⟩ | ⟨e, _⟩ <;> omega) one key led (by rw [len]; exact few) e1 e2 e3 (by rw [len]; exact e4) ?_)
        intro h2 M2 es2 ep2 t3 but2 U2 pm2
        exact wpAny_pure (go true h2 M2 es2 ep2 t3 (but.trans but2) U2 (.inr ⟨no, pm2.trans pm⟩))
      rcases two with ⟨_, e⟩ | ⟨_, e⟩
      · exact on 31 (by rw [n, e, size_20]) (.inr (.inl rfl)) (by rw [n, e, size_20]; decide) (by omega)
      · exact on 127 (by rw [n, e, size_76]) (.inr (.inr rfl)) (by rw [n, e, size_76]; decide) (by omega)
    · refine wp_if_neg (by simp [f]) (wpAny_pure ?_)
      exact go true h1 M1 es1 (ep + 1) t2 but ⟨⟨_, at2, ⟨ex.1, ex.2.1, ex.2.2⟩, rfl⟩, ins, T, one, key, led, by rw [len, m2]; omega, by rw [len]; exact few⟩ (.inr ⟨no, pm⟩)
  have both : ∀ v : Bool, wpAny (model P w) A (do
      storeSet S es1 (if v = true then t1 else { t1 with plain := false })
      if (!false && (if v = true then t1 else { t1 with plain := false }).tooFull) = true then (do
        setRelay S (SetTable.grown (es.size + 1))
        pure true) else pure true) Q E s := fun v => by
    cases v with
    | true => exact tail t1 q3 q4 q5
    | false => exact tail { t1 with plain := false } (tab_plain q3 false) q4 q5
  by_cases pl : t1.plain = true
  · exact wp_if_pos pl (wpAny_bind (F.worth hx fun v => both v))
  · exact wp_if_neg pl (wpAny_bind (wpAny_pure (both true)))
/-- what the set has of the first i keys -/
structure Has (ks : List (κ × Addr)) (i : Nat) (M : List (κ × Addr)) : Prop where
  sub : ∀ q ∈ M, q ∈ ks.take i
  all : ∀ q ∈ ks.take i, q.1 ∈ M.map Prod.fst
  len : M.length ≤ i
theorem Has.next {ks M M2 : List (κ × Addr)} {i : Nat} {q : κ × Addr} (g : Has ks i M) (h : ks[i]? = some q) (c : (q.1 ∈ M.map Prod.fst ∧ M2 = M) ∨ (q.1 ∉ M.map Prod.fst ∧ M2.Perm (q :: M))) : Has ks (i + 1) M2 := by
  have e : ks.take (i + 1) = ks.take i ++ [q] := by rw [List.take_add_one, h] <;> rfl
  rcases c with ⟨c, rfl⟩ | ⟨_, pm⟩
  · refine ⟨fun r hr => by rw [e]; exact List.mem_append_left _ (g.sub r hr), fun r hr => ?_, Nat.le_succ_of_le g.len⟩
    rw [e] at hr
    rcases List.mem_append.mp hr with z | z
    · exact g.all r z
    · rw [List.mem_singleton.mp z]; exact c
  · refine ⟨fun r hr => ?_, fun r hr => ?_, by rw [pm.length_eq]; exact Nat.succ_le_succ g.len⟩
    · rw [e]
      rcases List.mem_cons.mp (pm.mem_iff.mp hr) with z | z
      · rw [z]; simp
      · exact List.mem_append_left _ (g.sub r z)
    · rw [e] at hr
      refine ((pm.map Prod.fst).mem_iff).mpr ?_
      rcases List.mem_append.mp hr with z | z
      · exact List.mem_cons_of_mem _ (g.all r z)
      · rw [List.mem_singleton.mp z]; exact List.mem_cons_self
theorem Held.keep (U : Held G s.heap S M es ep t) {h : Heap} (here : ∀ o, s.heap.get? S = some o → h.get? S = some o) (keys : ∀ q ∈ M, G.is h q.1 q.2) : Held G h S M es ep t :=
  let ⟨o, a, r⟩ := U.obj
  ⟨⟨o, here o a, r⟩, U.ent, U.tab, U.one, keys, U.led, U.room, U.few⟩
end
section
variable {B : Around} {Z : Result → Shared → Prop} {it S : Addr} {seen wrote : List Addr} {J : Array GenState → Array GenState → Prop} {m : Nat} {Is : Nat → Value → Prop} {At : Nat → Shared → Prop} {G : HeapKind P w κ}
/-- the loop that puts them in -/
theorem puts (fit : Fit G) (walk : WalksS P w B.in1 it seen wrote J m Is At) (off : S ∉ seen) (ks : List (κ × Addr)) (hm : m = ks.length) (few : ks.length < 64) (isK : ∀ i v, Is i v → ∃ q, ks[i]? = some q ∧ v = .ref q.2)
    (h0 : Heap) (keys : ∀ q ∈ ks, G.is h0 q.1 q.2) (newS : h0.get? S = none) (newW : ∀ b ∈ wrote, h0.get? b = none) (room : G.room B.in1) :
    ∀ (left i : Nat) (s : Shared), m - i = left → i ≤ m → At i s → (∀ b o, h0.get? b = some o → s.heap.get? b = some o) → (∃ M es ep t, Held G s.heap S M es ep t ∧ Has ks i M) →
      (∀ z M es ep t, Moved (S :: wrote) J s z → Held G z.heap S M es ep t → Has ks m M → (∀ b o, h0.get? b = some o → z.heap.get? b = some o) → Z (.ok (.ret .none)) z) → codeAny (model P w) B (.builtin "set.update.loop" ⟨[.ref S, .ref it], []⟩) Z s := by
  have offW : S ∉ wrote := fun h => off (walk.sub _ h)
  have wider : ∀ b ∈ wrote, b ∈ S :: wrote := fun b => List.mem_cons_of_mem S
  have old : ∀ {x z : Shared}, Moved wrote J x z → (∀ b o, h0.get? b = some o → x.heap.get? b = some o) → ∀ b o, h0.get? b = some o → z.heap.get? b = some o := fun mv k b o e =>
    mv.heap b o (fun hb => by rw [newW b hb] at e; cases e) (k b o e)
  have held : ∀ {x z : Shared} {i : Nat} {M : List (κ × Addr)} {es : Array (Int × Value)} {ep : Nat} {t : SetTable}, Moved wrote J x z → (∀ b o, h0.get? b = some o → z.heap.get? b = some o) → Held G x.heap S M es ep t → Has ks i M → Held G z.heap S M es ep t := fun mv k U g =>
    U.keep (fun o e => mv.heap S o offW e) fun q hq => fit.grow (keys q (List.mem_of_mem_take (g.sub q hq))) k
  intro left
  induction left with
  | zero =>
    rintro i s e hi st k ⟨M, es, ep, t, U, g⟩ fin
    obtain rfl : i = m := by omega
    refine codeAny_builtin F.entry_set_update_loop ?_
    rw [Around.under_plainId F.plain_set_update_loop _]
    show wpAny _ B.in1 (pyNext (.ref it) >>= _) _ _ s
    exact wpAny_bind (walk.done s _ _ st fun z mv => wpAny_pure (fin z M es ep t (mv.mono wider) (held mv (old mv k) U g) g (old mv k)))
  | succ left ih =>
    rintro i s e hi st k ⟨M, es, ep, t, U, g⟩ fin
    have lt : i < m := by omega
    refine codeAny_builtin F.entry_set_update_loop ?_
    rw [Around.under_plainId F.plain_set_update_loop _]
    show wpAny _ B.in1 (pyNext (.ref it) >>= _) _ _ s
    refine wpAny_bind (walk.item i s _ _ lt st fun v z pv st2 mv => ?_)
    obtain ⟨q, hq, rfl⟩ := isK i v pv
    have k2 := old mv k
    have U2 := held mv k2 U g
    have x := fit.grow (keys q (List.mem_of_getElem? hq)) k2
    show wpAny _ B.in1 (holding [Value.ref q.2] (setAdd S (.ref q.2)) >>= _) _ _ z
    refine wpAny_bind (wpAny_holding ?_)
    unfold setAdd
    refine wpAny_holding (wpAny_bind (G.pyHash room x ?_))
    refine add fit (s := { z with toks := z.toks + G.draws q.1 }) U2 x room (by have := g.len; omega) fun b h2 M2 es2 ep2 t2 but U3 c => ?_
    have k3 : ∀ b o, h0.get? b = some o → h2.get? b = some o := fun b o eo => (but.2 b fun h => by rw [h, newS] at eo; cases eo).trans (k2 b o eo)
    refine wpAny_pure ⟨plainId_quiet F.plain_set_update_loop _, ih (i + 1) _ (by omega) lt (walk.frame _ z _ _ st2 (Nat.le_add_right _ _) fun b hb o eo => ?_) k3 ⟨M2, es2, ep2, t2, U3, g.next hq c⟩ fun z2 M4 es4 ep4 t4 mv2 U4 g4 k4 => ?_⟩
    · rw [but.2 b fun h => off (h ▸ hb)]; exact eo
    · refine fin z2 M4 es4 ep4 t4 (Moved.trans walk.gtrans ((mv.mono wider).then_heap (Nat.le_add_right _ _) fun b o hb eo => ?_) mv2) U4 g4 k4
      rw [but.2 b fun h => hb (h ▸ List.mem_cons_self)]; exact eo
end
section
variable {B : Around} {E : Value → Shared → Prop} {s : Shared} {G : HeapKind P w κ}
theorem bare {h : Heap} {S : Addr} (at_ : h.get? S = some { cls := .type "set", dict := none, data := .set #[] 0 (.fresh 0 0 (!w.params.followText "set-order")) }) : Held G h S [] #[] 0 (.fresh 0 0 (!w.params.followText "set-order")) where
  obj := ⟨_, at_, ⟨rfl, rfl, rfl⟩, rfl⟩
  ent := rfl
  tab := ⟨List.Pairwise.nil, rfl, rfl, .inl rfl, (fun _ h => by cases h), (fun i _ _ h => by simp at h)⟩
  one := List.nodup_nil
  key := fun _ h => by cases h
  led := by
    show _ ∨ (!w.params.followText "set-order") = true
    cases w.params.followText "set-order" <;> simp
  room := by show 0 * 5 < 7 * 3; decide
  few := by show 0 < 64; decide
set_option maxHeartbeats 3200000 in
/-- set(l), l a list of keys -/
theorem set_list (fit : Fit G) {l : Addr} {its : Array Value} {ks : List (κ × Addr)} {Q : Value → Shared → Prop} (calm : B.handled = none) (tl : s.heap.IsList l its) (ts : its.toList = ks.map fun q => Value.ref q.2) (keys : ∀ q ∈ ks, G.is s.heap q.1 q.2) (few : ks.length < 64) (room : G.room B.in1.in1.in1)
    (fin : ∀ (g : Heap) (tk : Nat) M es ep t, Held G g s.heap.objs.size M es ep t → Has ks ks.length M → (∀ b o, s.heap.get? b = some o → g.get? b = some o) → Q (.ref s.heap.objs.size) { s with heap := g, toks := tk }) :
    wpAny (model P w) B (call (.type "set") [.ref l]) Q E s := by
  have hlen : its.size = ks.length := by rw [← Array.length_toList, ts, List.length_map]
  obtain ⟨c0, t0, q0⟩ := PySem.F.called_set.mro
  have q1 := PySem.F.called_set.made
  have q2 := PySem.F.called_set.sub
  refine wpAny_call (codeAny_of_tree ?_)
  show wpAny _ _ (callAny (.type "set") _) _ _ _
  refine wpAny_pure ⟨Code.quiet_builtin _ (by decide +kernel), codeAny_builtin PySem.F.entry_type_call ?_⟩
  rw [Around.under_plain (weight_type_call_type "set" [.ref l] []) rfl]
  have q3 := PySem.F.called_set.notType
  have q4 := PySem.F.called_set.canCreate
  have q5 := PySem.F.typeCall_set_1 (.ref l)
  repeat (any_goals (first | assumption | wp_step))
  refine codeAny_mono (code_set_led1 (.ref l) (E := E) (Q₁ := fun v z => v = .ref s.heap.objs.size ∧ z = { s with heap := s.heap.push { cls := .type "set", dict := none, data := .set #[] 0 (.fresh 0 0 (!w.params.followText "set-order")) } }) ⟨rfl, rfl⟩) fun r z hz => ?_
  rcases r with e | fl
  · exact hz
  cases fl
  case ret v =>
    obtain ⟨rfl, rfl⟩ := hz
    have fresh : (s.heap.push ({ cls := .type "set", dict := none, data := .set #[] 0 (.fresh 0 0 (!w.params.followText "set-order")) } : Obj)).get? s.heap.objs.size = some ({ cls := .type "set", dict := none, data := .set #[] 0 (.fresh 0 0 (!w.params.followText "set-order")) } : Obj) := Heap.get?_push_size _ rfl
    have isSet : Shared.TypeIs { s with heap := s.heap.push ({ cls := .type "set", dict := none, data := .set #[] 0 (.fresh 0 0 (!w.params.followText "set-order")) } : Obj) } (.ref s.heap.objs.size) "set" := ⟨_, fresh, rfl⟩
    have q6 := PySem.F.called_set.init.lookup
    have q7 := PySem.F.called_set.init.bind (.ref s.heap.objs.size)
    have tl2 : (s.heap.push ({ cls := .type "set", dict := none, data := .set #[] 0 (.fresh 0 0 (!w.params.followText "set-order")) } : Obj)).IsList l its := tl.push _
    have below : l < s.heap.objs.size := let ⟨_, h, _⟩ := tl; Heap.lt_size h
    repeat (any_goals (first | assumption | wp_step))
    refine codeAny_mono (codeAny_call_builtin (R := wants (fun v z => v = .none ∧ ∃ g tk M es ep t, z = { s with heap := g, toks := tk } ∧ Held G g s.heap.objs.size M es ep t ∧ Has ks ks.length M ∧
      ∀ b o, s.heap.get? b = some o → g.get? b = some o) E) PySem.F.called_set.init.plain PySem.F.entry_set_init (check_set_init_1 isSet ?_)) fun r z hz => ?_
    · obtain ⟨⟨c, dd, dt, sl⟩, hol, hc, nl, hd⟩ := tl
      simp only at hc hd
      subst hc
      subst hd
      have q8 := PySem.F.sub_list_set
      have q9 := PySem.F.sub_list_frozenset
      have qa : (Value.type "list" == Value.type "dict") = false := by decide
      have seenL : (s.heap.push ({ cls := .type "set", dict := none, data := .set #[] 0 (.fresh 0 0 (!w.params.followText "set-order")) } : Obj)).get? l = some { cls := .type "list", dict := dd, data := .seq its nl, slots := sl } := Heap.get?_push_of_some _ hol
      unfold Builtin.«set.__init__» noKeywords Builtin.Frozenset.updateFrom
      generalize hIt : pyIter = It
      wp_walk
      subst hIt
      refine wpAny_pyIter_list tl2 ?_
      refine wpAny_bind (wpAny_runValue ?_)
      have szP : (s.heap.push ({ cls := .type "set", dict := none, data := .set #[] 0 (.fresh 0 0 (!w.params.followText "set-order")) } : Obj)).objs.size = s.heap.objs.size + 1 := Heap.size_push ..
      have lI : l ≠ (s.heap.push ({ cls := .type "set", dict := none, data := .set #[] 0 (.fresh 0 0 (!w.params.followText "set-order")) } : Obj)).objs.size := by rw [szP]; exact Nat.ne_of_lt (Nat.lt_succ_of_lt below)
      have aOut : s.heap.objs.size ∉ [(s.heap.push ({ cls := .type "set", dict := none, data := .set #[] 0 (.fresh 0 0 (!w.params.followText "set-order")) } : Obj)).objs.size, l] := by
        rw [szP]
        intro h
        rcases List.mem_cons.mp h with e | h
        · exact absurd e (Nat.ne_of_lt (Nat.lt_succ_self _))
        · exact absurd (List.mem_singleton.mp h).symm (Nat.ne_of_lt below)
      have isK : ∀ (i : Nat) (v : Value), its[i]? = some v → ∃ q, ks[i]? = some q ∧ v = .ref q.2 := fun i v hv => by
        have h1 : its.toList[i]? = some v := by rw [Array.getElem?_toList]; exact hv
        rw [ts, List.getElem?_map] at h1
        cases h2 : ks[i]? with
        | none => rw [h2] at h1; cases h1
        | some q => rw [h2] at h1; exact ⟨q, rfl, (Option.some.inj h1).symm⟩
      have quiet3 : B.in1.in1.in1.handled = none := by simp [calm]
      have none_ : ∀ b, s.heap.objs.size ≤ b → s.heap.get? b = none := fun b hb => by
        cases q : s.heap.get? b with
        | none => rfl
        | some o => exact absurd (Heap.lt_size q) (Nat.not_lt.mpr hb)
      refine puts fit ((Walks.list quiet3 _ l lI its).toS) aOut ks hlen few isK s.heap keys (none_ _ (Nat.le_refl _)) (fun b hb => none_ b (by
        rw [List.mem_singleton.mp hb, szP]; exact Nat.le_succ _)) room (its.size - 0) 0 _ rfl (Nat.zero_le _) ⟨⟨_, Heap.get?_push_size _ rfl, rfl, rfl⟩, tl2.push _⟩ (fun b o e => Heap.get?_push_of_some _ (Heap.get?_push_of_some _ e)) ?_ ?_
      · have kept : ((s.heap.push ({ cls := .type "set", dict := none, data := .set #[] 0 (.fresh 0 0 (!w.params.followText "set-order")) } : Obj)).push { cls := .type "list_iterator", data := .fields #[.ref l, .int 0 0] }).get? s.heap.objs.size = some ({ cls := .type "set", dict := none, data := .set #[] 0 (.fresh 0 0 (!w.params.followText "set-order")) } : Obj) := Heap.get?_push_of_some _ fresh
        exact ⟨[], #[], 0, _, bare kept, ⟨fun _ h => (by cases h), fun _ h => (by simp at h), Nat.le_refl _⟩⟩
      · rintro ⟨g, gn, dr, tk, os⟩ M es ep t mv hg hs hk
        obtain rfl : gn = s.gens := mv.gens
        obtain rfl : dr = s.drawn := mv.drawn
        obtain rfl : os = s.os := mv.os
        show wpAny _ _ _ _ _ _
        refine wpAny_pure ?_
        show wpAny _ _ (ret Value.none) _ _ _
        rw [hlen] at hs
        exact wpAny_pure ⟨rfl, g, tk, M, es, ep, t, rfl, hg, hs, hk⟩
    · rcases r with e | fl
      · exact hz
      cases fl
      case ret v =>
        obtain ⟨rfl, g, tk, M, es, ep, t, rfl, hg, hs, hk⟩ := hz
        repeat (any_goals (first | assumption | wp_step))
        exact fin _ _ M es ep t hg hs hk
      all_goals exact hz.elim
  all_goals exact hz.elim
end
end
end GS

set_option Elab.async false
set_option linter.all false
set_option maxRecDepth 100000
set_option maxHeartbeats 4000000
/-! Own rule: sorted() of a list of data. -/
namespace KN
open PySem PySem.Spec PyProof.Rows L2
def DatR (H : Hp) (v : Value) (b : V × PyData) : Prop := RelV b.1 v ∧ Tp H b.1 b.2
theorem eachDat {H : Hp} : ∀ {xs : List V} {us : List Value} {ds : List PyData}, Vals xs us → TpAll H xs ds → PySem.W.EachIs (DatR H) us (xs.zip ds)
  | [], _, _, .nil, h => by cases h; exact .nil
  | x :: xs, _, _, .cons r t, h => by
    cases h with
    | cons h1 h2 => exact .cons ⟨r, h1⟩ (eachDat t h2)
theorem eachDat_inv {H : Hp} : ∀ {out : List Value} {bs : List (V × PyData)}, PySem.W.EachIs (DatR H) out bs → Vals (bs.map (·.1)) out ∧ TpAll H (bs.map (·.1)) (bs.map (·.2))
  | _, _, .nil => ⟨.nil, .nil⟩
  | _, _, .cons h hs => let ⟨a, b⟩ := eachDat_inv hs; ⟨.cons h.1 a, .cons h.2 b⟩
theorem zip_fst {α β : Type} : ∀ {xs : List α} {ys : List β}, xs.length = ys.length → (xs.zip ys).map (·.1) = xs
  | [], [], _ => rfl
  | x :: xs, y :: ys, h => by rw [List.zip_cons_cons, List.map_cons, zip_fst (by simpa using h)]
theorem zip_snd {α β : Type} : ∀ {xs : List α} {ys : List β}, xs.length = ys.length → (xs.zip ys).map (·.2) = ys
  | [], [], _ => rfl
  | x :: xs, y :: ys, h => by rw [List.zip_cons_cons, List.map_cons, zip_snd (by simpa using h)]
def sortD (ds : List PyData) : List PyData := ds.mergeSort (PySem.W.dataLe false fun d => d)
theorem sortD_perm (ds : List PyData) : (sortD ds).Perm ds := List.mergeSort_perm _ _
def rSortedDat (K : PySem.W.Frag) : List V → Hp → VK → Prop := fun vs H Q => ∃ (a : Addr) (ds : List PyData), vs = [.ref a] ∧ Ls H a ds ∧ ds.length < 1000 ∧ PySem.W.AllAlike ds ∧ PySem.W.Sortable ds ∧ (∀ d ∈ ds, d.depth ≤ 20) ∧
  ∀ (ys : List V) (p : Addr), TpAll H ys (sortD ds) → H p = none → Q (.ref p) (upd H p (.lst ys))
theorem cr_sortedDat {X : Cx} (hun : X.A.units + 64 < cLine) : CallR X (.builtin "sorted") (rSortedDat X.K) := by
  intro pins s σ H vs us Q I r h
  obtain ⟨a, ds, rfl, ⟨xs, hs, rx⟩, hl, hal, hk, hdp, q⟩ := h
  obtain ⟨its, rv, pl, hz⟩ := I.list (SqL.of hs)
  obtain ⟨u, rfl, ru⟩ := vals1 r
  obtain rfl : u = Value.ref a := ru
  have hxl : xs.length = ds.length := rx.len
  have hbl : (xs.zip ds).length = ds.length := by rw [List.length_zip, hxl, Nat.min_self]
  have e2 : (xs.zip ds).map (·.2) = ds := zip_snd hxl
  have hE := eachDat rv rx
  have hrd : PySem.W.EachIs (fun v (b : V × PyData) => ∃ as, Reads s.heap v b.2 as) its (xs.zip ds) := hE.mono fun v b hh => Dp.reads I b.2 b.1 v hh.2.d hh.1
  have hdu : ∀ b, b ∈ xs.zip ds → X.A.units + 2 + b.2.depth < cLine := fun b hb => by
    have h1 : b.2 ∈ ds := by rw [← e2]; exact List.mem_map.mpr ⟨b, hb, rfl⟩
    have h2 := hdp _ h1
    omega
  have em : ((xs.zip ds).mergeSort (PySem.W.dataLe false fun b : V × PyData => b.2)).map (·.2) = sortD ds := by
    unfold sortD
    exact (List.map_mergeSort (r := PySem.W.dataLe false fun b : V × PyData => b.2) (s := PySem.W.dataLe false fun d => d) (f := Prod.snd) (l := xs.zip ds) (fun a _ b _ => rfl)).trans (by rw [show (xs.zip ds).map Prod.snd = ds from e2])
  refine PySem.W.sorted_data (R := DatR H) (bs := xs.zip ds) (enc := fun b : V × PyData => b.2) pl.isList hE hrd (by rw [e2]; exact hal) (by rw [e2]; exact hk) (by rw [hbl, sizeLine_eq]; omega) hdu (fun out hol hout => ?_)
  obtain ⟨v1, v2⟩ := eachDat_inv hout
  obtain ⟨e', he'⟩ := PyProof.Rows.sortedAll_at s.heap its (List.toArray out)
  rw [em] at v2
  have hl2 : (((xs.zip ds).mergeSort (PySem.W.dataLe false fun b : V × PyData => b.2)).map (·.1)).length ≤ sizeLine := by
    rw [List.length_map, (List.mergeSort_perm _ _).length_eq, hbl, sizeLine_eq]; omega
  have hd : s.heap.objs.size ≤ s.heap.objs.size + 1 := Nat.le_succ _
  refine ⟨.ref (s.heap.objs.size + 1), upd H (s.heap.objs.size + 1) (.lst (((xs.zip ds).mergeSort (PySem.W.dataLe false fun b : V × PyData => b.2)).map (·.1))), I.laid (t' := s.toks) (fun b o => PyProof.Rows.sortedAll_old) hd ⟨hl2, out, e', v1, he'⟩, rfl, q _ _ v2 (I.hok.fresh hd)⟩
/-! ### a new dict read once: locked for good -/
def tFrz (t : TE) : TE := fun σ H Q => t σ H fun x H1 => ∃ d u, x = .ref d ∧ H1 d = some u ∧ Mut (some u) ∧ ∀ od, Q x (upd H1 d (.frz od u))
theorem pe_frz {X : Cx} {e : Expr} {t : TE} (h : PE X e t) : PE X e (tFrz t) := by
  refine ⟨fun pins s σ H Q I hw => ?_⟩
  refine thn (h.run pins s σ H _ I hw) fun v s1 ⟨x, H1, I1, r, d, u, ex, hd, mu, q⟩ => ?_
  obtain ⟨od, I2⟩ := I1.lock hd mu
  exact ⟨x, _, I2, r, q od⟩
theorem pi_Fkeys {X : Cx} {tg e : Expr} {td : TE} (he : PE X e td) : PI X tg e (iKeys (tFrz td)) := pi_keys (pe_frz he)
end KN

set_option Elab.async false
set_option linter.all false
set_option maxRecDepth 100000
set_option maxHeartbeats 4000000
/-! Own rules: sorted(set(l)), l a list of tuples of numbers and texts. -/
namespace GS
open PySem PySem.Spec PyProof.Rows L2
section
variable {P : Program} {w : World} {κ : Type} [DecidableEq κ] {B : Around} {E : Value → Shared → Prop} {s : Shared} {G : HeapKind P w κ} {S : Addr} {M : List (κ × Addr)} {es : Array (Int × Value)} {ep : Nat} {t : SetTable}
/-- values in some order are the keys' addresses in that order -/
theorem as_keys : ∀ {vs : List Value}, (∀ v ∈ vs, ∃ q ∈ M, v = Value.ref q.2) → ∃ N : List (κ × Addr), vs = N.map (fun q => Value.ref q.2) ∧ ∀ q ∈ N, q ∈ M
  | [], _ => ⟨[], rfl, fun _ h => by cases h⟩
  | v :: vs, h => by
    obtain ⟨q, hq, e⟩ := h v List.mem_cons_self
    obtain ⟨N, e2, sub⟩ := as_keys fun u hu => h u (List.mem_cons_of_mem _ hu)
    refine ⟨q :: N, by rw [List.map_cons, e, e2], fun r hr => ?_⟩
    rcases List.mem_cons.mp hr with z | z
    · rw [z]; exact hq
    · exact sub r z
theorem Held.one_of (U : Held G s.heap S M es ep t) {q r : κ × Addr} (hq : q ∈ M) (hr : r ∈ M) (e : q.2 = r.2) : q = r := by
  have a := U.key q hq
  have b := U.key r hr
  rw [e] at a
  exact Prod.ext (G.inj a b) e
theorem Held.nodup (U : Held G s.heap S M es ep t) : M.Nodup := List.Pairwise.of_map Prod.fst (fun _ _ ne e => ne (congrArg Prod.fst e)) U.one
theorem Held.refs (U : Held G s.heap S M es ep t) : (M.map fun q => Value.ref q.2).Nodup := by
  refine List.pairwise_map.mpr (List.Pairwise.imp_of_mem (fun {q r} hq hr ne e => ?_) U.nodup)
  injection e with e
  exact ne (U.one_of hq hr e)
theorem Held.perm (U : Held G s.heap S M es ep t) {N : List (κ × Addr)} (sub : ∀ q ∈ N, q ∈ M) (pm : (N.map fun q => Value.ref q.2).Perm (M.map fun q => Value.ref q.2)) : N.Perm M := by
  have nN : N.Nodup := List.Pairwise.of_map (fun q : κ × Addr => Value.ref q.2) (fun _ _ ne e => ne (by rw [e])) (pm.nodup_iff.mpr U.refs)
  refine (List.perm_ext_iff_of_nodup nN U.nodup).mpr fun q => ⟨sub q, fun hq => ?_⟩
  obtain ⟨r, hr, e⟩ := List.mem_map.mp (pm.mem_iff.mpr (List.mem_map.mpr ⟨q, hq, rfl⟩))
  injection e with e
  rw [← U.one_of (sub r hr) hq e]; exact hr
theorem each_of {R : Value → κ × Addr → Prop} : ∀ {N : List (κ × Addr)}, (∀ q ∈ N, R (.ref q.2) q) → PySem.W.EachIs R (N.map fun q => Value.ref q.2) N
  | [], _ => .nil
  | q :: N, h => .cons (h q List.mem_cons_self) (each_of fun r hr => h r (List.mem_cons_of_mem _ hr))
theorem out_of : ∀ {out : List Value} {N : List (κ × Addr)}, PySem.W.EachIs (fun v q => v = Value.ref q.2) out N → out = N.map fun q => Value.ref q.2
  | _, _, .nil => rfl
  | _, _, .cons h t => by rw [List.map_cons, h, out_of t]
theorem sorted_held (U : Held G s.heap S M es ep t) (calm : B.handled = none) {enc : κ → PyData} (rd : ∀ q ∈ M, Reads s.heap (.ref q.2) (enc q.1) []) (al : ∀ q ∈ M, ∀ r ∈ M, PySem.W.alike (enc q.1) (enc r.1) = true) (tup : ∀ q ∈ M, ∃ x r, enc q.1 = .tuple (x :: r)) (dp : ∀ q ∈ M, B.units + 2 + (enc q.1).depth < cLine) {Q : Value → Shared → Prop}
    (fin : ∀ z p (out : Array Value) (c : Nat) (N : List (κ × Addr)), (∀ b o, s.heap.get? b = some o → z.heap.get? b = some o) → z.gens = s.gens → z.os = s.os → s.heap.objs.size ≤ p → z.heap.get? p = some (seqObj "list" out c) → N.Perm M → out.toList = (N.mergeSort (PySem.W.dataLe false fun q => enc q.1)).map (fun q => Value.ref q.2) → Q (.ref p) z) :
    wpAny (model P w) B (call (.builtin "sorted") [.ref S]) Q E s := by
  obtain ⟨o, at_, ex, dat⟩ := id U.obj
  have few := U.few
  have n := many U.ent
  refine Calls.call_function_entry kind_sorted plain_sorted entry_sorted (args_sorted1 _) ?_
  unfold Builtin.«sorted»
  refine wpAny_bind (m := checkCount "sorted" 1 1 _) (wpAny_pure ?_)
  refine wpAny_bind (collect_set (A := B.in1) calm ⟨o, at_, ex.1, dat⟩ U.fit (by unfold scanBound; omega) U.tab.ris U.led fun z vs old le gn os pm => ?_)
  have ee : es.toList.map (·.2) = M.map fun q => Value.ref q.2 := by rw [U.ent, List.map_map] <;> rfl
  rw [ee] at pm
  obtain ⟨N, rfl, sub⟩ := as_keys fun v hv => by
    obtain ⟨q, hq, e⟩ := List.mem_map.mp (pm.mem_iff.mp hv)
    exact ⟨q, hq, e.symm⟩
  have pN := U.perm sub pm
  have lN : N.length < 64 := by rw [pN.length_eq]; exact few
  refine wpAny_bind (wpAny_newList ?_ (by rw [List.length_map, sizeLine_eq]; omega))
  have atL : (z.heap.push (seqObj "list" (N.map fun q => Value.ref q.2).toArray 0)).get? z.heap.objs.size = some (seqObj "list" (N.map fun q => Value.ref q.2).toArray 0) := Heap.get?_push_size _ rfl
  have reads : ∀ q ∈ N, Reads (z.heap.push (seqObj "list" (N.map fun q => Value.ref q.2).toArray 0)) (.ref q.2) (enc q.1) [] := fun q hq => PyProof.Rows.Reads.keeps (fun b u e => Heap.get?_push_of_some _ (old b u e)) (rd q (sub q hq))
  refine wpAny_bind (wpAny_holding (PySem.W.list_sort_data (s := { z with heap := z.heap.push (seqObj "list" (N.map fun q => Value.ref q.2).toArray 0) }) (R := fun v q => v = Value.ref q.2) (bs := N) (enc := fun q : κ × Addr => enc q.1) atL (each_of fun q _ => rfl) (each_of fun q hq => ⟨[], reads q hq, List.not_mem_nil⟩)
    (fun d hd d' hd' => ?_) (.inl fun d hd => ?_) (by rw [sizeLine_eq]; omega) (fun q hq => ?_) fun out ol oe => ?_))
  · obtain ⟨q, hq, rfl⟩ := List.mem_map.mp hd
    obtain ⟨r, hr, rfl⟩ := List.mem_map.mp hd'
    exact al q (sub q hq) r (sub r hr)
  · obtain ⟨q, hq, rfl⟩ := List.mem_map.mp hd
    exact tup q (sub q hq)
  · have := dp q (sub q hq)
    show B.units + 1 + 1 + (enc q.1).depth < cLine
    omega
  · obtain ⟨c, hc⟩ := sortedHeap_at (vs := N.map fun q => Value.ref q.2) (out := List.toArray out) atL
    refine wpAny_pure ⟨_, rfl, fin _ z.heap.objs.size (List.toArray out) c N (fun b u e => ?_) gn os le hc pN (by simpa using out_of oe)⟩
    have lt := Heap.lt_size (old b u e)
    show (sortedHeap (z.heap.push (seqObj "list" (N.map fun q => Value.ref q.2).toArray 0)) z.heap.objs.size (N.map fun q => Value.ref q.2) (List.toArray out)).get? b = some u
    rw [sortedHeap_old (Nat.ne_of_lt lt) (by rw [size_push']; exact Nat.lt_succ_of_lt lt)]
    exact Heap.get?_push_of_some _ (old b u e)
/-! ### tuples of numbers and texts -/
theorem state_value (n : Nat) (v : Value) (h : carriedByValue v = true) : ofAClassStatement n v = pure false := by
  cases v <;> first | rfl | (cases n <;> rfl) | exact absurd h Bool.false_ne_true
theorem by_value {κ : Type} [DecidableEq κ] {kk : KeyKind P w κ} {k : List κ} {vs : List Value} (h : ItemsAre kk k vs) : ∀ v ∈ vs, carriedByValue v = true := by
  induction h with
  | nil => intro v hv; cases hv
  | cons a _ ih =>
    intro v hv
    rcases List.mem_cons.mp hv with rfl | hv
    · exact kk.byValue _ _ a
    · exact ih v hv
theorem value_hash (n : Nat) (v : Value) (h : carriedByValue v = true) : ∃ b, hashByValue n v = pure b := by
  cases v <;> first | exact absurd h Bool.false_ne_true | exact ⟨_, by cases n <;> rfl⟩
theorem tuple_dull {κ : Type} [DecidableEq κ] {kk : KeyKind P w κ} {k : List κ} {b : Addr} {Q : Bool → Shared → Prop} (x : IsTupleKey kk s.heap k b) (go : Q false s) : wpAny (model P w) B (ofAClassStatement 8 (.ref b)) Q E s := by
  have ty := x.typeIs
  obtain ⟨o, items, n, at_, _, dat, its⟩ := x
  have val := by_value its
  unfold ofAClassStatement
  refine wpAny_bind (wpAny_typeOf ty ?_)
  dsimp only
  have e : (("tuple" : String) == "tuple") = true := by decide
  simp only [e, if_true, Bool.not_true, Bool.false_eq_true, if_false]
  try refine wpAny_bind (wpAny_pure ?_)
  try simp only [Bool.not_true, Bool.false_eq_true, if_false]
  refine wpAny_bind (wpAny_seqItems at_ dat (wpAny_bind ?_))
  show wpAny _ _ (forIn items _ _) _ _ s
  rw [← Array.forIn_toList]
  refine wpAny_forIn_list _ (fun rest r z => r.1 = none ∧ z = s ∧ ∀ v ∈ rest, carriedByValue v = true) _ ?_ ?_ _ _ ⟨rfl, rfl, val⟩
  · rintro v rest r z ⟨_, rfl, al⟩
    rw [state_value _ v (al v List.mem_cons_self)]
    refine wpAny_bind (wpAny_pure ?_)
    simp only [Bool.false_eq_true, if_false]
    exact wpAny_pure ⟨rfl, rfl, fun u hu => al u (List.mem_cons_of_mem _ hu)⟩
  · rintro ⟨r1, r2⟩ z ⟨e, rfl, _⟩
    simp only at e
    subst e
    exact wpAny_pure go
theorem tuple_worth {κ : Type} [DecidableEq κ] {kk : KeyKind P w κ} {k : List κ} {b : Addr} {Q : Bool → Shared → Prop} (x : IsTupleKey kk s.heap k b) (go : ∀ v, Q v s) : wpAny (model P w) B (hashByValue 8 (.ref b)) Q E s := by
  have ty := x.typeIs
  obtain ⟨o, items, n, at_, _, dat, its⟩ := x
  have val := by_value its
  unfold hashByValue
  refine wpAny_bind (wpAny_specialOf ty F.slot_tuple_hash.lookup ?_)
  show wpAny _ _ (seqItems? (.ref b) >>= _) _ _ s
  refine wpAny_bind (wpAny_seqItems at_ dat (wpAny_bind ?_))
  show wpAny _ _ (forIn items _ _) _ _ s
  rw [← Array.forIn_toList]
  refine wpAny_forIn_list _ (fun rest r z => z = s ∧ ∀ v ∈ rest, carriedByValue v = true) _ ?_ ?_ _ _ ⟨rfl, val⟩
  · rintro v rest r z ⟨rfl, al⟩
    obtain ⟨c, ec⟩ := value_hash 7 v (al v List.mem_cons_self)
    rw [ec]
    refine wpAny_bind (wpAny_pure ?_)
    cases c with
    | true =>
      simp only [Bool.not_true, Bool.false_eq_true, if_false]
      exact wpAny_pure ⟨rfl, fun u hu => al u (List.mem_cons_of_mem _ hu)⟩
    | false =>
      simp only [Bool.not_false, if_true]
      exact wpAny_pure (show wpAny _ _ (pure _) Q E _ from wpAny_pure (go _))
  · rintro ⟨r1, r2⟩ z ⟨rfl, _⟩
    cases r1 with
    | none => exact wpAny_pure (go _)
    | some v => exact wpAny_pure (go _)
theorem tuple_fit {κ : Type} [DecidableEq κ] {kk : KeyKind P w κ} : Fit (tupleKind kk) := ⟨tupleKind_stays, fun x go => tuple_dull x go, fun x go => tuple_worth x go⟩
end
end GS

set_option Elab.async false
set_option linter.all false
set_option maxRecDepth 100000
set_option maxHeartbeats 4000000
namespace KN
open PySem PySem.Spec PyProof.Rows L2
/-! The order of nodes and of texts; sorted(d) of a dict by nodes, sorted(set(l)) of nodes, sorted of a list or a tuple of texts. -/
def nLe (a b : Nd) : Bool := decide (a.1 < b.1 ∨ (a.1 = b.1 ∧ a.2.cps.toList ≤ b.2.cps.toList))
theorem nLt_data (a b : Nd) : PySem.W.dataLt (nD a) (nD b) = decide (a.1 < b.1 ∨ (a.1 = b.1 ∧ a.2.cps.toList < b.2.cps.toList)) := by
  unfold nD
  rw [PySem.W.dataLt_pair (by simp [PySem.W.alike]) (by simp [PySem.W.alike]), PySem.W.dataLt_int, PySem.W.dataLt_str]
  simp only [PyData.eqv, beq_iff_eq]
  by_cases h1 : a.1 = b.1
  · by_cases h2 : a.2 = b.2
    · rw [if_pos h1, if_pos h2]
      refine (decide_eq_false ?_).symm
      rintro (h | ⟨_, h⟩)
      · omega
      · rw [h2] at h; exact List.lt_irrefl _ h
    · rw [if_pos h1, if_neg h2]
      exact decide_eq_decide.mpr ⟨fun h => .inr ⟨h1, h⟩, fun h => by rcases h with h | h; omega; exact h.2⟩
  · rw [if_neg h1]
    exact decide_eq_decide.mpr ⟨fun h => .inl h, fun h => by rcases h with h | h; exact h; exact absurd h.1 h1⟩
theorem nLe_data {β : Type} (k : β → Nd) : PySem.W.dataLe false (fun b => nD (k b)) = fun a b => nLe (k a) (k b) := by
  funext a b
  show (!PySem.W.dataLt (nD (k b)) (nD (k a))) = _
  rw [nLt_data]
  unfold nLe
  by_cases h : (k b).1 < (k a).1 ∨ ((k b).1 = (k a).1 ∧ (k b).2.cps.toList < (k a).2.cps.toList)
  · rw [decide_eq_true h]
    refine (decide_eq_false ?_).symm
    rintro (g | ⟨g, g2⟩)
    · omega
    · rcases h with h | ⟨_, h⟩
      · omega
      · exact List.not_lt.mpr g2 h
  · rw [decide_eq_false h]
    refine (decide_eq_true ?_).symm
    by_cases g : (k a).1 < (k b).1
    · exact .inl g
    · have e : (k a).1 = (k b).1 := by
        have : ¬ (k b).1 < (k a).1 := fun q => h (.inl q)
        omega
      exact .inr ⟨e, List.not_lt.mp fun q => h (.inr ⟨e.symm, q⟩)⟩
theorem str_ext {x y : Str} (h : x.cps.toList = y.cps.toList) : x = y := by
  cases x; cases y
  simp only at h
  rw [Array.toList_inj.mp h]
theorem nLe_anti {a b : Nd} (h : nLe a b = true) (g : nLe b a = true) : a = b := by
  have h := of_decide_eq_true h
  have g := of_decide_eq_true g
  have e1 : a.1 = b.1 := by rcases h with h | h <;> rcases g with g | g <;> omega
  have e2 : a.2 = b.2 := by
    rcases h with h | ⟨_, h⟩
    · omega
    · rcases g with g | ⟨_, g⟩
      · omega
      · exact str_ext (List.le_antisymm h g)
  exact Prod.ext e1 e2
theorem nLe_trans (a b c : Nd) (h : nLe a b = true) (g : nLe b c = true) : nLe a c = true := by
  have h := of_decide_eq_true h
  have g := of_decide_eq_true g
  refine decide_eq_true ?_
  rcases h with h | ⟨h, h2⟩
  · rcases g with g | ⟨g, _⟩
    · exact .inl (by omega)
    · exact .inl (by omega)
  · rcases g with g | ⟨g, g2⟩
    · exact .inl (by omega)
    · exact .inr ⟨by omega, List.le_trans h2 g2⟩
theorem nLe_total (a b : Nd) : (nLe a b || nLe b a) = true := by
  rw [Bool.or_eq_true]
  by_cases h : a.1 < b.1
  · exact .inl (decide_eq_true (.inl h))
  · by_cases g : b.1 < a.1
    · exact .inr (decide_eq_true (.inl g))
    · have e : a.1 = b.1 := by omega
      rcases List.le_total a.2.cps.toList b.2.cps.toList with q | q
      · exact .inl (decide_eq_true (.inr ⟨e, q⟩))
      · exact .inr (decide_eq_true (.inr ⟨e.symm, q⟩))
abbrev NUp (ns : List Nd) : Prop := ns.Pairwise fun a b => nLe a b = true
theorem nup_one {xs ys : List Nd} (p : xs.Perm ys) (hx : NUp xs) (hy : NUp ys) : xs = ys :=
  List.Perm.eq_of_pairwise (fun a b _ _ h g => nLe_anti h g) hx hy p
def srtN (ns : List Nd) : List Nd := ns.mergeSort nLe
theorem srtN_perm (ns : List Nd) : (srtN ns).Perm ns := List.mergeSort_perm ns _
theorem srtN_up (ns : List Nd) : NUp (srtN ns) := List.pairwise_mergeSort nLe_trans nLe_total ns
theorem srtN_of {xs ns : List Nd} (p : xs.Perm ns) (h : NUp xs) : xs = srtN ns := nup_one (p.trans (srtN_perm ns).symm) h (srtN_up ns)
abbrev SUp (ss : List Str) : Prop := ss.Pairwise fun a b => a.cps.toList ≤ b.cps.toList
theorem rising_up : ∀ (ss : List Str) (p : Str), risingS p ss = true → SUp (p :: ss)
  | [], p, _ => List.pairwise_singleton _ _
  | x :: ss, p, h => by
    unfold risingS at h
    rw [Bool.and_eq_true, ltCps_eq, Bool.not_eq_true', decide_eq_false_iff_not] at h
    have r := rising_up ss x h.2
    refine List.Pairwise.cons (fun y hy => ?_) r
    rcases List.mem_cons.mp hy with rfl | hy
    · exact List.not_lt.mp h.1
    · exact List.le_trans (List.not_lt.mp h.1) (List.rel_of_pairwise_cons r hy)
theorem sup_of {ss : List Str} (h : sortedS ss = true) : SUp ss := by
  cases ss with
  | nil => exact List.Pairwise.nil
  | cons x r => exact rising_up r x h
theorem sup_one {xs ys : List Str} (p : xs.Perm ys) (hx : SUp xs) (hy : SUp ys) : xs = ys :=
  List.Perm.eq_of_pairwise (fun a b _ _ h g => str_ext (List.le_antisymm h g)) hx hy p
theorem sortS_up (xs : List Str) : SUp (sortS xs) := by
  unfold sortS
  rw [PySem.W.dataLe_str (fun b : Str => b)]
  have := List.pairwise_mergeSort (le := fun a b : Str => decide (a.cps.toList ≤ b.cps.toList)) (fun a b c h g => decide_eq_true (List.le_trans (of_decide_eq_true h) (of_decide_eq_true g))) (fun a b => by
    rw [Bool.or_eq_true]
    rcases List.le_total a.cps.toList b.cps.toList with q | q
    · exact .inl (decide_eq_true q)
    · exact .inr (decide_eq_true q)) xs
  exact this.imp fun h => of_decide_eq_true h
theorem sortS_of {xs ss : List Str} (p : xs.Perm ss) (h : SUp xs) : xs = sortS ss := sup_one (p.trans (sortS_perm ss).symm) h (sortS_up ss)
theorem sortS_filter (ss : List Str) (p : Str → Bool) : sortS (ss.filter p) = (sortS ss).filter p := (sortS_of ((sortS_perm ss).filter p) ((sortS_up ss).filter p)).symm
theorem srtN_filter (ns : List Nd) (p : Nd → Bool) : srtN (ns.filter p) = (srtN ns).filter p := (srtN_of ((srtN_perm ns).filter p) ((srtN_up ns).filter p)).symm
def rSortedN2 : List V → Hp → VK → Prop := fun xs H Q => ∃ (a : Addr) (kvs : List (List Key × V)) (ns : List Nd), xs = [.ref a] ∧ Rd H a (.dT kvs) ∧ kvs.map (·.1) = ns.map nK ∧ ns.length < 1000 ∧
  ∀ (ys : List (Addr × Nd)) (p : Addr), (ys.map Prod.snd).Perm ns → NUp (ys.map Prod.snd) → (∀ y ∈ ys, NdA H y.1 y.2) → H p = none → Q (.ref p) (upd H p (.lst (ys.map fun y => V.ref y.1)))
theorem cr_sortedN2 {X : Cx} (hcalm : X.calm = true) (hun : X.A.units + 64 < cLine) : CallR X (.builtin "sorted") rSortedN2 := by
  intro pins s σ H xs us Q I r q
  obtain ⟨a, kvs, ns, rfl, hd, hks, hl, q⟩ := q
  obtain ⟨u, eu, rx⟩ := vals1 r
  subst eu
  cases rx
  obtain ⟨z, hs, ks, pr, o, es, ep, ho, hx, hdt, he, hn⟩ := (show ObjOk X.prog X.w H s.heap a (.dT kvs) from hd.ok I.hok)
  obtain ⟨bs, b1, b2, b3⟩ := ktN pr hks
  have l1 : es.size = ks.length := size_of_entries he
  have l3 : ks.length = bs.length := by
    have e := congrArg List.length b2
    rw [List.length_map, List.length_map] at e; exact e
  have l2 : kvs.length = ks.length := Paired.length pr
  have l4 : bs.length = ns.length := by rw [← b1, List.length_map]
  refine Calls.call_function_entry PyProof.Rows.kind_sorted PyProof.Rows.plain_sorted PyProof.Rows.entry_sorted (PyProof.Rows.args_sorted1 _) ?_
  unfold Builtin.«sorted»
  refine wpAny_bind (m := checkCount "sorted" 1 1 _) (wpAny_pure ?_)
  refine wpAny_bind (PySem.W.kdu_collect (A := X.A.in1) (kdl_raw hs hx hdt) (I.ok.hd hcalm) ho (by omega) fun g tk acc hk hacc => ?_)
  have ea : acc.toList = bs.map fun b => Value.ref b.1 := by
    rw [← b2]
    apply List.ext_getElem?
    intro j
    rw [List.getElem?_map]
    cases hj : acc.toList[j]? with
    | none =>
      have h1 := List.getElem?_eq_none_iff.mp hj
      have h2 : acc.toList.length = ks.length := by rw [Array.length_toList, hacc.1]; exact l1
      rw [List.getElem?_eq_none (by omega)]
      all_goals rfl
    | some v =>
      obtain ⟨en, hen, hv⟩ := hacc.2 j v (by rw [← Array.getElem?_toList]; exact hj)
      have qe := entry_at he j
      rw [hen] at qe
      cases hb : ks[j]? with
      | none => rw [hb] at qe; cases qe
      | some x =>
        rw [hb] at qe
        have : en = entryOfKey (tupleKind (mixKind X.prog X.w)) x := Option.some.inj qe
        rw [hv, this]; rfl
  have hal : acc.toList.length = bs.length := by rw [ea, List.length_map]
  have J : Inv X pins σ H { s with heap := g, toks := tk } := I.kept hk
  refine wpAny_bind (wpAny_newList ?_ (by rw [hal, sizeLine_eq]; omega))
  have hoL : (g.push (seqObj "list" acc.toList.toArray 0)).get? g.objs.size = some (seqObj "list" acc.toList.toArray 0) := Heap.get?_push_size _ rfl
  have J2 : Inv X pins σ H { s with heap := g.push (seqObj "list" acc.toList.toArray 0), toks := tk } := J.kept fun b o e => Heap.get?_push_of_some _ e
  show wpAny _ _ _ _ _ { s with heap := g.push (seqObj "list" acc.toList.toArray 0), toks := tk }
  have hE : PySem.W.EachIs (NdR H) acc.toList bs := by rw [ea]; exact eachN b3
  have hread : PySem.W.EachIs (fun v (b : Addr × Nd) => ∃ as, Reads (g.push (seqObj "list" acc.toList.toArray 0)) v (nD b.2) as ∧ g.objs.size ∉ as) acc.toList bs := hE.mono fun v b ⟨e1, e2⟩ => by
    obtain ⟨its, rv, pt, _⟩ := J2.tuple (SqT.of e2)
    obtain ⟨ob, c1, c2, n1, c3⟩ := pt
    subst e1
    cases rv with
    | cons ra rv =>
    cases rv with
    | cons rc rv =>
    cases rv
    obtain ⟨t1, rfl⟩ := ra
    obtain ⟨t2, rfl⟩ := rc
    exact ⟨[], .tuple c1 c2 c3 (.cons (.int _ _) (.cons (.str _ _) .nil)), by simp⟩
  have hdp : ∀ b : Addr × Nd, (nD b.2).depth ≤ 2 := fun b => by simp [nD, PyData.depth, PyData.depthAll]
  refine wpAny_bind (wpAny_holding (PySem.W.list_sort_data (A := X.A.in1) (s := { s with heap := g.push (seqObj "list" acc.toList.toArray 0), toks := tk }) (enc := fun b : Addr × Nd => nD b.2) hoL hE hread ?_ ?_ (Nat.le_trans (by omega : bs.length ≤ 1000) (by decide)) (fun b _ => by have := hdp b; show X.A.units + 1 + 1 + _ < _; omega) fun out hlen hout => ?_))
  · intro d hd d' hd'
    obtain ⟨x, _, rfl⟩ := List.mem_map.mp hd
    obtain ⟨y, _, rfl⟩ := List.mem_map.mp hd'
    rfl
  · exact .inl fun d hd => by
      obtain ⟨x, _, rfl⟩ := List.mem_map.mp hd
      exact ⟨_, _, rfl⟩
  · obtain ⟨e', he'⟩ := PyProof.Rows.sortedHeap_at (vs := acc.toList) (out := out.toArray) hoL
    obtain ⟨v1, v2⟩ := eachN_inv hout
    have pm := List.mergeSort_perm bs (PySem.W.dataLe false fun b : Addr × Nd => nD b.2)
    have hl2 : ((bs.mergeSort (PySem.W.dataLe false fun b : Addr × Nd => nD b.2)).map fun b => V.ref b.1).length ≤ sizeLine := by
      rw [List.length_map, pm.length_eq, sizeLine_eq]; omega
    refine wpAny_pure ⟨_, rfl, .ref g.objs.size, upd H g.objs.size (.lst ((bs.mergeSort (PySem.W.dataLe false fun b : Addr × Nd => nD b.2)).map fun b => V.ref b.1)), J.laid (t' := tk) (fun b u e => ?_) (Nat.le_refl _)
      (show ObjOk X.prog X.w _ _ _ (.lst ((bs.mergeSort (PySem.W.dataLe false fun b : Addr × Nd => nD b.2)).map fun b => V.ref b.1)) from ⟨hl2, out, e', v1, he'⟩), rfl, q _ _ (by rw [← b1]; exact pm.map _) (by rw [nLe_data (fun b : Addr × Nd => b.2)]; exact List.pairwise_map.mpr (List.pairwise_mergeSort (fun a b c => nLe_trans a.2 b.2 c.2) (fun a b => nLe_total a.2 b.2) bs)) v2 (J.hok.fresh (Nat.le_refl _))⟩
    have hb : b < g.objs.size := Heap.lt_size e
    rw [PyProof.Rows.sortedHeap_old (Nat.ne_of_lt hb) (by rw [size_push']; exact Nat.lt_succ_of_lt hb)]
    exact Heap.get?_push_of_some _ e
/-! ### sorted of a list or a tuple of texts -/
def rSortedSq (K : PySem.W.Frag) : List V → Hp → VK → Prop := fun vs H Q => ∃ (a : Addr) (xs : List Str), vs = [.ref a] ∧ (H a = some (.lst (xs.map V.str)) ∨ H a = some (.tup (xs.map V.str))) ∧ xs.length < 64 ∧
  ∀ p : Addr, H p = none → Q (.ref p) (upd H p (.lst ((sortS xs).map V.str)))
theorem cr_sortedSq {X : Cx} (hun : X.A.units + 64 < cLine) : CallR X (.builtin "sorted") (rSortedSq X.K) := by
  intro pins s σ H xs us Q I r q
  obtain ⟨a, ss, rfl, ha, hl, q⟩ := q
  rcases ha with ha | ha
  · exact cr_sortedS pins s σ H _ us Q I r ⟨a, ss, rfl, SqL.of ha, hl, fun ys p pm so hp => by rw [sortS_of pm (sup_of so)]; exact q p hp⟩
  · exact cr_sortedTS2 hun pins s σ H _ us Q I r ⟨a, ss, rfl, ha, by omega, q⟩
/-! ### sorted(set(l)) of nodes -/
def tSortedSet (K : PySem.W.Frag) (ta : TE) : TE := fun σ H Q => ta σ H fun x H1 => ∃ l, ∃ ks : List (Addr × Nd), x = .ref l ∧ SqL K H1 l (ks.map fun k => V.ref k.1) ∧ (∀ k ∈ ks, NdA H1 k.1 k.2) ∧ ks.length < 64 ∧
  ∀ (ys : List (Addr × Nd)) (p : Addr), NUp (ys.map Prod.snd) → (ys.map Prod.snd).Nodup → (∀ n, n ∈ ys.map Prod.snd ↔ n ∈ ks.map Prod.snd) → ys.length < 64 → (∀ y ∈ ys, NdA H1 y.1 y.2) → H1 p = none → Q (.ref p) (upd H1 p (.lst (ys.map fun y => V.ref y.1)))
def unK : List Key → Nd
  | .inl i :: .inr z :: _ => (i, z)
  | _ => (0, Str.empty)
theorem unK_nK (n : Nd) : unK (nK n) = n := rfl
theorem pe_sortedSet {X : Cx} {a : Expr} {ta : TE} {p p2 q pos : Pos} (calm : X.calm = true) (hun : X.A.units + 64 < cLine) (g1 : Gl X "sorted") (m1 : X.mg "sorted" = none) (g2 : Gl X "set") (m2 : X.mg "set" = none) (ha : PE X a ta)
    (one : starEach [a] X.env = (false, eval a X.env) :: starEach [] X.env := by rfl) : PE X (.Call (.Name "sorted" p) [.Call (.Name "set" p2) [a] [] q] [] pos) (tSortedSet X.K ta) := ⟨fun pins s σ H Q I h => by
  refine Call_ (ld_blt I g1 m1 boot_sorted (callWith_builtin1 (args_cons ?_ rfl) rfl rfl))
  refine Call_ (ld_blt I g2 m2 boot_set (callWith_type1 (args_cons (thn (ha.run pins s σ H _ I h) fun v z ⟨x, H1, J, rx, k⟩ => args_nil ?_) one) one rfl))
  obtain ⟨l, ks, rfl, sq, isn, few, k⟩ := k
  obtain rfl : v = Value.ref l := rx
  obtain ⟨its, r, pl, _⟩ := J.list sq
  have eits : its = ks.map fun k => Value.ref k.1 := by
    have := refs_at (ps := ks.map (·.1)) (us := its) (by rw [List.map_map]; exact r)
    rw [this, List.map_map]; rfl
  refine GS.set_list (G := tupleKind (mixKind X.prog X.w)) (ks := ks.map fun k => (nK k.2, k.1)) GS.tuple_fit (J.ok.hd calm) pl.isList (by rw [eits, List.map_map] <;> rfl) ?_ (by rw [List.length_map]; exact few) (by show X.A.units + 1 + 1 + 1 < cLine; omega) fun g tk M es ep t hs has keep => args_nil ?_
  · intro k hk
    obtain ⟨k2, hk2, rfl⟩ := List.mem_map.mp hk
    exact key_of J.hok (isn k2 hk2)
  have J2 : Inv X pins σ H1 { z with heap := g, toks := tk } := J.kept fun b o e => keep b o e
  have inM : ∀ q ∈ M, ∃ k ∈ ks, q = (nK k.2, k.1) := fun q hq => by
    obtain ⟨k, hk, e⟩ := List.mem_map.mp (List.mem_of_mem_take (has.sub q hq))
    exact ⟨k, hk, e.symm⟩
  have isM : ∀ q ∈ M, NdA H1 q.2 (unK q.1) := fun q hq => by
    obtain ⟨k, hk, rfl⟩ := inM q hq
    exact isn k hk
  have rdM : ∀ q ∈ M, Reads g (.ref q.2) (nD (unK q.1)) [] := fun q hq => by
    obtain ⟨its, rv, pt, _⟩ := J2.tuple (SqT.of (isM q hq))
    obtain ⟨ob, c1, c2, n1, c3⟩ := pt
    cases rv with
    | cons ra rv =>
    cases rv with
    | cons rc rv =>
    cases rv
    obtain ⟨t1, rfl⟩ := ra
    obtain ⟨t2, rfl⟩ := rc
    exact .tuple c1 c2 c3 (.cons (.int _ _) (.cons (.str _ _) .nil))
  refine GS.sorted_held (s := { z with heap := g, toks := tk }) hs (J.ok.hd calm) (enc := fun k => nD (unK k)) rdM (fun _ _ _ _ => rfl) (fun q _ => ⟨_, _, rfl⟩) (fun q _ => by simp only [nD, PyData.depth, PyData.depthAll]; show X.A.units + 2 + _ < cLine; omega) fun z' p' out c N old gn os lt hp pN eo => ?_
  have eN : N.mergeSort (PySem.W.dataLe false fun q : List Key × Addr => nD (unK q.1)) = N.mergeSort (fun a b => nLe (unK a.1) (unK b.1)) := by rw [nLe_data (fun q : List Key × Addr => unK q.1)]
  rw [eN] at eo
  have pS := List.mergeSort_perm N (fun a b => nLe (unK a.1) (unK b.1))
  have upS := List.pairwise_mergeSort (le := fun a b : List Key × Addr => nLe (unK a.1) (unK b.1)) (fun a b c => nLe_trans _ _ _) (fun a b => nLe_total _ _) N
  generalize hS : N.mergeSort (fun a b => nLe (unK a.1) (unK b.1)) = S at eo pS upS
  have pM := pS.trans pN
  have lM : S.length < 64 := by rw [pM.length_eq]; exact hs.few
  have isS : ∀ q ∈ S, NdA H1 q.2 (unK q.1) := fun q hq => isM q (pM.mem_iff.mp hq)
  have nd1 : (S.map fun q => unK q.1).Nodup := by
    have h1 : (M.map fun q => unK q.1).Nodup := by
      refine List.pairwise_map.mpr (List.Pairwise.imp_of_mem (fun {x y} hx hy ne e => ?_) (List.pairwise_map.mp hs.one))
      obtain ⟨k1, _, rfl⟩ := inM x hx
      obtain ⟨k2, _, rfl⟩ := inM y hy
      exact ne (by show nK k1.2 = nK k2.2; rw [show k1.2 = k2.2 from e])
    exact (pM.map _).nodup_iff.mpr h1
  have hn : H1 p' = none := J2.hok.fresh lt
  have out_ : ObjOk X.prog X.w (upd H1 p' (.lst ((S.map fun q => (q.2, unK q.1)).map fun y => V.ref y.1))) z'.heap p' (.lst ((S.map fun q => (q.2, unK q.1)).map fun y => V.ref y.1)) :=
    ⟨by rw [List.length_map, List.length_map, sizeLine_eq]; omega, out.toList, c, by
      rw [eo, List.map_map]
      exact vals_maps _ _ S fun _ _ => rfl, hp⟩
  have JJ : Inv X pins σ (upd H1 p' (.lst ((S.map fun q => (q.2, unK q.1)).map fun y => V.ref y.1))) { ({ z with heap := g, toks := tk } : Shared) with heap := z'.heap, gens := z'.gens, drawn := z'.drawn, toks := z'.toks } :=
    J2.call (ch := []) (Un.laid old lt hn) (J2.hok.laid old lt out_) (by rw [gn]; exact J2.bare) (fun _ z => nomatch z)
  have ez : z' = { ({ z with heap := g, toks := tk } : Shared) with heap := z'.heap, gens := z'.gens, drawn := z'.drawn, toks := z'.toks } := by
    cases z'
    cases z
    cases os
    rfl
  rw [← ez] at JJ
  refine ⟨.ref p', upd H1 p' (.lst ((S.map fun q => (q.2, unK q.1)).map fun y => V.ref y.1)), JJ, rfl, k (S.map fun q => (q.2, unK q.1)) p' ?_ ?_ ?_ (by rw [List.length_map]; exact lM) ?_ (J2.hok.fresh lt)⟩
  · rw [List.map_map]; exact List.pairwise_map.mpr upS
  · rw [List.map_map]; exact nd1
  · intro n
    rw [List.map_map]
    constructor
    · intro h
      obtain ⟨q, hq, e⟩ := List.mem_map.mp h
      obtain ⟨k1, h1, rfl⟩ := inM q (pM.mem_iff.mp hq)
      exact List.mem_map.mpr ⟨k1, h1, e⟩
    · intro h
      obtain ⟨k1, h1, rfl⟩ := List.mem_map.mp h
      have h2 := has.all (nK k1.2, k1.1) (by rw [List.length_map, List.take_of_length_le (by rw [List.length_map]; exact Nat.le_refl _)]; exact List.mem_map.mpr ⟨k1, h1, rfl⟩)
      obtain ⟨q, hq, e⟩ := List.mem_map.mp h2
      exact List.mem_map.mpr ⟨q, pM.mem_iff.mpr hq, by show unK q.1 = _; rw [e]; rfl⟩
  · intro y hy
    obtain ⟨q, hq, rfl⟩ := List.mem_map.mp hy
    exact isS q hq⟩
end KN

set_option Elab.async false
set_option linter.all false
set_option maxRecDepth 100000
set_option maxHeartbeats 4000000
namespace KN
open PySem L2
/-! Trees asked: the kind of a sheet, the nodes of rank 0, all sheets; a bare tree. -/
def kO (pl : List (Str × Nd)) (z : Str) : Option Nd := (pl.find? fun p => decide (p.1 = z)).map (·.2)
theorem kO_val {H : Hp} {kvs : List (Key × V)} {pl : List (Str × Nd)} (h : Paired (PlR H) kvs pl) (z : Str) : Tp H ((valV kvs (Sum.inr z : Key)).getD .non) (oN (kO pl z)) := by
  unfold kO
  induction h with
  | nil => exact .non
  | @cons q p kvs pl f _ ih =>
    obtain ⟨f1, a, f2, f3⟩ := f
    by_cases e : p.1 = z
    · subst e
      rw [valV_pos f1, f2, List.find?_cons_of_pos (by simp)]
      exact Tp.nd f3
    · rw [valV_neg (fun z' => e (Sum.inr.inj (f1.symm.trans z'))), List.find?_cons_of_neg (by simpa using e)]
      exact ih
def spKindOf (C : Addr) : Sp := fun vs H Q _ => ∃ (t : Addr) (z : Str) (pl : List (Str × Nd)) (L : List (Nd × Option Nd)), vs = [.ref t, .str z] ∧ TreeAt C H t pl L ∧ ∀ H' v, Same H H' → Tp H' v (oN (kO pl z)) → Q v H'
def n0 (L : List (Nd × Option Nd)) : List Nd := (srtN (L.map (·.1))).filter fun n => decide (n.1 = 0)
def spNodes0 (C : Addr) : Sp := fun vs H Q _ => ∃ (t : Addr) (pl : List (Str × Nd)) (L : List (Nd × Option Nd)), vs = [.ref t, .int 0] ∧ TreeAt C H t pl L ∧ ∀ H' l (ys : List (Addr × Nd)), Same H H' → H l = none → H' l = some (.lst (ys.map fun y => V.ref y.1)) → ys.map Prod.snd = n0 L → ys.length ≤ 360 → (∀ y ∈ ys, NdA H' y.1 y.2) → Q (.ref l) H'
def spSheets0 (C : Addr) : Sp := fun vs H Q _ => ∃ (t : Addr) (pl : List (Str × Nd)) (L : List (Nd × Option Nd)), vs = [.ref t, .non] ∧ TreeAt C H t pl L ∧ ∀ H' l, Same H H' → H l = none → H' l = some (.lst ((sortS (pl.map (·.1))).map V.str)) → Q (.ref l) H'
section
variable {P : Program} {w : World} {K : PySem.W.Frag} {mg : Str → Option Value} {base : Heap} {C : Addr}
theorem sc_Tree_kind_of : FnScope ["self", "sheet"] ["self", "sheet"] (defScope s_Tree_kind_of) := ⟨rfl, rfl, rfl, by decide +kernel, rfl, by decide +kernel, by decide +kernel⟩
theorem ok_Tree_kind_of {f : Addr} {fd : FuncData} (F : Fun K "kind_of" "Tree.kind_of" s_Tree_kind_of f fd) (T : TrT K C) (m_isinstance : mg "isinstance" = none) (m_str : mg "str" = none) : FnOk P w K mg base CX0 1 f fd ["self", "sheet"] (spKindOf C) := by
  refine F.ok sc_Tree_kind_of (fun vs H Q E h => ?_) (fun cdv A outer s H vs Q E hr h => ?_)
  · obtain ⟨t, z, pl, L, rfl, _⟩ := h; rfl
  · obtain ⟨t, z, pl, L, rfl, ⟨dx, kk, l, kvs, lvs, B⟩, k⟩ := h
    have hu := hu_of hr
    refine ⟨_, (pss_one (ps_ret (pe_ifExp (pt_val (pe_callB call_isi (by rfl) m_isinstance (by decide +kernel) (pa_cons (pv 1) (pa_cons (pe_bltn (v := .ty "str") (u := .type "str") rfl m_str (by decide +kernel) rfl) pa_nil)))) (pe_dget1 hu (pe_fld (pv 0) rfl) (pv 1) ⟨rfl, rfl, rfl, rfl⟩) pe_non))), ?_⟩
    refine ⟨_, rfl, _, _, _, _, true, rfl, .ty _, .base (.str z), kit_ty (by decide +kernel), _, rfl, iteT ?_⟩
    refine ⟨_, rfl, t, C, dx, _, _, rfl, B.ob, T.cl, T.nK, tf_k _ _, kk, rfl, .inl ⟨_, Rd.of B.kd⟩, _, rfl, _, DGet.k (k := .inr z) B.kd, ?_⟩
    exact k _ _ (Same.refl _) (kO_val B.kr z)
theorem ok_Tree_nodes0 {f : Addr} {fd : FuncData} {kws : List (Str × V)} (F : FunD K "nodes" "Tree.nodes" (defArgs s_Tree_nodes) (defBody s_Tree_nodes) (defScope s_Tree_nodes) [] kws f fd) (T : TrT K C) (m_sorted : mg "sorted" = none) : FnOk P w K mg base CX0 5 f fd ["self", "rank"] (spNodes0 C) := by
  refine F.ok sc_Tree_nodes (fun vs H Q E h => ?_) (fun cdv A outer s H vs Q E hr h => ?_)
  · obtain ⟨t, pl, L, rfl, _⟩ := h; rfl
  · obtain ⟨t, pl, L, rfl, ⟨dx, kk, l, kvs, lvs, B⟩, k⟩ := h
    refine cut_nox ⟨_, (pss_one (ps_ret (pe_lc (own := [("node", 2)]) (g := gName 2) rfl sc_Tree_nodes.nd (pi_list (pe_callB (cr_sortedN2 rfl hr.units) (by rfl) m_sorted (by decide +kernel) (pa_cons (pe_fld (pv 0) rfl) pa_nil))) (blkOk_by (own := [("node", 2)]) (N := ["self", "rank", "node"]) (sc := defScope s_Tree_nodes) (by decide +kernel)) (fun _ _ _ _ _ => pg_name (i := 2) sc_Tree_nodes.nd rfl (Or.inl rfl)) (fun _ _ _ _ _ => (pts_one (PW.pt (pw_or (pt_cmpR op_isN (pv 1) pe_non (nomark _)) (pw_or1 (pt_cmpR op_eq (pe_ix (ix_tupK K) (pv 2) pe_int (fun _ _ => rfl)) (pv 1) (nomark _))))))) (fun _ _ _ _ _ => (pv 2))))), ?_⟩
    refine ⟨_, rfl, t, C, dx, _, _, rfl, B.ob, T.cl, T.nL, tf_l _ _, l, lvs, L.map (·.1), rfl, Rd.of B.ly, pa_keys B.lr, by rw [List.length_map]; have := B.ok.lln; omega, fun ys p pm up hy hp => ?_⟩
    have sp := Same.new (o := .lst (ys.map fun y => V.ref y.1)) hp
    have es : ys.map Prod.snd = srtN (L.map (·.1)) := srtN_of pm up
    have hlen : ys.length ≤ 360 := by have := pm.length_eq; rw [List.length_map, List.length_map] at this; have := B.ok.lln; omega
    refine ⟨p, rfl, ⟨_, SqL.of upd_same⟩, fun D hD => ?_⟩
    refine lc_list (K := K) (a := p) (xs := ys.map fun y => V.ref y.1) (fun i H' => Same (upd H p (.lst (ys.map fun y => V.ref y.1))) H' ∧ ∃ zs : List (Addr × Nd), H' D = some (.lst (zs.map fun y => V.ref y.1)) ∧ zs.map Prod.snd = ((ys.take i).map Prod.snd).filter (fun n => decide (n.1 = 0)) ∧ zs.length ≤ i ∧ ∀ y ∈ zs, y ∈ ys)
      ⟨Same.new hD, [], upd_same, rfl, Nat.le_refl _, fun _ h => by cases h⟩ (fun i H' _ q => SqL.of (q.1 _ _ upd_same)) ?_ ?_
    · rintro i x H2 hi ⟨s2, zs, e2, ez, lz, sub⟩
      rw [List.getElem?_map] at hi
      obtain ⟨y, hy1, rfl⟩ : ∃ y, ys[i]? = some y ∧ x = .ref y.1 := by
        cases e : ys[i]? with
        | none => rw [e] at hi; cases hi
        | some y => rw [e] at hi; exact ⟨y, rfl, (Option.some.inj hi).symm⟩
      have hlt : i < ys.length := (List.getElem?_eq_some_iff.mp hy1).1
      have hya : NdA H2 y.1 y.2 := s2 _ _ (sp _ _ (hy y (List.mem_of_getElem? hy1)))
      have step : ((ys.take (i + 1)).map Prod.snd).filter (fun n => decide (n.1 = 0)) = ((ys.take i).map Prod.snd).filter (fun n => decide (n.1 = 0)) ++ if y.2.1 = 0 then [y.2] else [] := by
        rw [List.take_add_one, hy1, List.map_append, List.filter_append]
        by_cases q : y.2.1 = 0
        · rw [if_pos q]; simp [q]
        · rw [if_neg q]; simp [q]
      refine ⟨rfl, _, rfl, rfl, _, rfl, iteF ?_⟩
      refine ⟨_, rfl, _, _, _, _, rfl, rfl, SqT.of hya, at_of (j := 0) rfl rfl, _, rfl, rfl, ?_⟩
      by_cases q : y.2.1 = 0
      · rw [if_pos q] at step
        rw [show (decide (V.int y.2.1 = V.int 0)) = true by rw [q]; rfl]
        refine ⟨_, rfl, iteT ⟨_, rfl, _, e2, by rw [List.length_map]; exact small1000 (by omega), fun b o e => ?_, zs ++ [y], by rw [upd_same, List.map_append]; rfl, ?_, by rw [List.length_append, List.length_singleton]; omega, fun u hu => ?_⟩⟩
        · rw [upd_ne (ne_of_none e hD)]; exact s2 _ _ e
        · rw [step, List.map_append, ez]; rfl
        · rcases List.mem_append.mp hu with h | h
          · exact sub u h
          · rw [List.mem_singleton] at h; subst h; exact List.mem_of_getElem? hy1
      · rw [if_neg q, List.append_nil] at step
        rw [show (decide (V.int y.2.1 = V.int 0)) = false from decide_eq_false fun z => q (by injection z)]
        exact ⟨_, rfl, iteF ⟨s2, zs, e2, by rw [step]; exact ez, by omega, sub⟩⟩
    · rintro H2 ⟨s2, zs, e2, ez, lz, sub⟩
      rw [List.length_map] at lz
      rw [List.length_map, List.take_length, es] at ez
      exact k H2 D zs (sp.trans s2) (sp.free hD) e2 ez (by omega) fun y hy' => s2 _ _ (sp _ _ (hy y (sub y hy')))
theorem ok_Tree_sheets0 {f : Addr} {fd : FuncData} (F : FunD K "sheets" "Tree.sheets" (defArgs s_Tree_sheets) (defBody s_Tree_sheets) (defScope s_Tree_sheets) [V.non] [] f fd) (T : TrT K C) (m_sorted : mg "sorted" = none) (c_Tree__refuse : C8.Met P w K mg base 3 C "_refuse" (spTRefuse C) []) (c_Tree_above : C8.Met P w K mg base 4 C "above" (spAbove C) []) : FnOk P w K mg base CX0 5 f fd ["self", "node"] (spSheets0 C) := by
  refine F.ok sc_Tree_sheets (fun vs H Q E h => ?_) (fun cdv A outer s H vs Q E hr h => ?_)
  · obtain ⟨t, pl, L, rfl, _⟩ := h; rfl
  · obtain ⟨t, pl, L, rfl, ⟨dx, kk, l, kvs, lvs, B⟩, k⟩ := h
    have hu := hu_of hr
    refine ⟨_, (pss_cons (ps_if (pt_cmpR op_isN (pv 1) pe_non (nomark _)) (pss_one (ps_ret (pe_callB (call_sortedD rfl) (by rfl) m_sorted (by decide +kernel) (pa_cons (pe_fld (pv 0) rfl) pa_nil)))) pss_nil)
      (pss_cons (ps_expr (C8.pe_mt c_Tree__refuse hr (by decide) (pv 0) (pa_cons (pv 1) pa_nil)))
      (pss_one (ps_ret (pe_lc (own := [("sheet", 2)]) (g := gName 2) rfl sc_Tree_sheets.nd (pi_list (pe_callB (call_sortedD rfl) (by rfl) m_sorted (by decide +kernel) (pa_cons (pe_fld (pv 0) rfl) pa_nil))) (blkOk_by (own := [("sheet", 2)]) (N := ["self", "node", "sheet"]) (sc := defScope s_Tree_sheets) (by decide +kernel)) (fun _ _ _ _ _ => pg_name (i := 2) sc_Tree_sheets.nd rfl (Or.inl rfl)) (fun _ _ _ _ _ => (pts_one (pt_cmpR (op_eqDK K hr.units) (C8.pe_mt c_Tree_above hr (by decide) (pv 0) (pa_cons (pe_dget (by exact hu) (pe_fldK K (pv 0) rfl) (pv 2) (fun _ _ => rfl)) (pa_cons (pe_ix (ix_tupK K) (pv 1) pe_int (fun _ _ => rfl)) pa_nil))) (pv 1) (nomark _)))) (fun _ _ _ _ _ => (pv 2))))))), ?_⟩
    refine ⟨_, rfl, rfl, _, rfl, iteT ?_⟩
    refine ⟨_, rfl, t, C, dx, _, _, rfl, B.ob, T.cl, T.nK, tf_k _ _, kk, kvs, pl.map (·.1), rfl, Rd.of B.kd, pl_keys B.kr, by rw [List.length_map]; have := B.ok.pln; omega, fun ys p pm hso hp => ?_⟩
    rw [sortS_of pm (sup_of hso)]
    exact k _ p (Same.new hp) hp upd_same
/-- a tree without anything -/
def spTInit0 (C : Addr) : Sp := fun vs H Q _ => ∃ (t dx : Addr), vs = [.ref t, .non, .non] ∧ H t = some (.ins C dx []) ∧ ∀ H' , (∀ a o, a ≠ t → H a = some o → H' a = some o) → TreeAt C H' t [] [] → Q .non H'
theorem ok_Tree_init0 {f : Addr} {fd : FuncData} (F : FunD K "__init__" "Tree.__init__" (defArgs s_Tree___init__) (defBody s_Tree___init__) (defScope s_Tree___init__) [V.non, V.non] [] f fd) (T : TrT K C) (c__is_kinds : C8.Cal P w K mg base 3 "_is_kinds" spIsKinds []) (c__places : C8.Cal P w K mg base 1 "_places" spPlaces []) (c__is_parents : C8.Cal P w K mg base 4 "_is_parents" spIsParents []) (c__upward : C8.Cal P w K mg base 1 "_upward" spUpward []) : FnOk P w K mg base CX0 5 f fd ["self", "kinds", "parents"] (spTInit0 C) := by
  refine F.ok sc_Tree___init__ (fun vs H Q E h => ?_) (fun cdv A outer s H vs Q E hr h => ?_)
  · obtain ⟨t, dx, rfl, _⟩ := h; rfl
  · obtain ⟨t, dx, rfl, ht, k⟩ := h
    have hu := hu_of hr
    refine ⟨_, (pss_cons (ps_set (i := 3) sc_Tree___init__.nd rfl (Or.inl rfl) (pe_ifExp (pt_cmpR op_isN (pv 1) pe_non (nomark _)) pe_dnewT (pv 1)))
      (pss_cons (ps_set (i := 4) sc_Tree___init__.nd rfl (Or.inl rfl) (pe_ifExp (pt_cmpR op_isN (pv 2) pe_non (nomark _)) pe_dnewT (pv 2)))
      (pss_cons (ps_if (pt_not (pt_val (C8.pe_c c__is_kinds hr (by decide) rfl (pa_cons (pv 3) pa_nil)))) (pss_one ps_never) pss_nil)
      (pss_cons (ps_fld (pv 0) (C8.pe_c c__places hr (by decide) rfl (pa_cons (pv 3) pa_nil)) rfl)
      (pss_cons (ps_if (pt_not (pt_val (C8.pe_c c__is_parents hr (by decide) rfl (pa_cons (pv 4) pa_nil)))) (pss_one ps_never) pss_nil)
      (pss_one (ps_fld (pv 0) (C8.pe_c c__upward hr (by decide) rfl (pa_cons (pv 3) (pa_cons (pv 4) pa_nil))) rfl))))))), ?_⟩
    refine ⟨_, rfl, rfl, _, rfl, iteT ?_⟩
    refine fun d hd0 => ?_
    refine ⟨_, rfl, rfl, _, rfl, iteT ?_⟩
    refine fun d2 hd20 => ?_
    obtain ⟨ks, eks⟩ : ∃ ks : List (Nd × List Str), ks = [] := ⟨_, rfl⟩
    obtain ⟨ps, eps⟩ : ∃ ps : List (Nd × Option Nd), ps = [] := ⟨_, rfl⟩
    have ndd : d ≠ d2 := fun z => by subst z; rw [upd_same] at hd20; cases hd20
    have hk0 : KindsAt (upd (upd H d (.dT [])) d2 (.dT [])) d ks := by subst eks; exact ⟨[], by rw [upd_ne ndd]; exact upd_same, .nil⟩
    have hp0 : ParAt (upd (upd H d (.dT [])) d2 (.dT [])) d2 ps := by subst eps; exact ⟨[], upd_same, .nil⟩
    have s0 : Same H (upd (upd H d (.dT [])) d2 (.dT [])) := (Same.new hd0).trans (Same.new hd20)
    have ht0 := s0 _ _ ht
    have k0 : ∀ H' L, (∀ a o, a ≠ t → (upd (upd H d (.dT [])) d2 (.dT [])) a = some o → H' a = some o) → TreeAt C H' t (plOf ks) L → LyP ks ps none L → (∀ k ∈ ks, k.1 ∈ L.map (·.1)) → Q .non H' := fun H' L h1 h2 h3 _ => by
      subst eks
      have e : L = [] := by
        cases L with
        | nil => rfl
        | cons p L => obtain ⟨k, hk, _⟩ := h3.up p List.mem_cons_self; cases hk
      subst e
      exact k H' (fun a o n e => h1 a o n (s0 _ _ e)) h2
    have kok : ∀ k ∈ ks, KdOk k := fun k h => by subst eks; cases h
    have pok : ∀ p ∈ ps, PaOk p := fun k h => by subst eps; cases h
    have k60 : ks.length ≤ 60 := by subst eks; decide
    have p60 : ps.length ≤ 60 := by subst eps; decide
    have pnd : ((plOf ks).map (·.1)).Nodup := by subst eks; exact List.nodup_nil
    have pl60 : (plOf ks).length ≤ 60 := by subst eks; decide
    clear k eks eps ht s0
    generalize (upd (upd H d (.dT [])) d2 (.dT [])) = G at hk0 hp0 ht0 k0 ⊢
    have hk := hk0
    have hp := hp0
    have ht := ht0
    have k := k0
    clear hk0 hp0 ht0 k0 hd0 hd20
    refine ⟨_, rfl, d, ks, rfl, hk, kok, k60, fun H1 s1 => ⟨_, rfl, iteF ?_⟩⟩
    have hk1 : ∀ {G2 : Hp}, Same G G2 → KindsAt G2 d ks := fun s => by
      obtain ⟨kvs, e, r⟩ := hk
      exact ⟨kvs, s _ _ e, L2.Paired.mapP r fun _ _ f => ⟨f.1, f.2.imp fun l g => ⟨g.1, s _ _ g.2⟩⟩⟩
    refine ⟨_, rfl, d, ks, rfl, hk1 s1, pnd, pl60, k60, fun H2 r s2 hr0 hpl => ?_⟩
    have s12 := s1.trans s2
    refine ⟨_, rfl, t, C, dx, [], rfl, s12 _ _ ht, T.cl, T.nK, (by show 0 < 1000; decide), ?_⟩
    have tk3 : TK H2 (upd H2 t (.ins C dx (putF "_kind_of" (.ref r) []))) := TK.put (s12 _ _ ht) (by intro z; exact nofun)
    have ndt : d ≠ t := by obtain ⟨_, e, _⟩ := hk; rintro rfl; rw [ht] at e; cases e
    have nd2t : d2 ≠ t := by obtain ⟨_, e, _⟩ := hp; rintro rfl; rw [ht] at e; cases e
    have nrt : r ≠ t := fun z => by subst z; rw [s1 _ _ ht] at hr0; cases hr0
    have hk3 : KindsAt (upd H2 t (.ins C dx (putF "_kind_of" (.ref r) []))) d ks := by
      obtain ⟨kvs, e, rr⟩ := hk
      refine ⟨kvs, by rw [upd_ne ndt]; exact s12 _ _ e, L2.Paired.mapP rr fun _ _ f => ⟨f.1, f.2.imp fun l g => ⟨g.1, ?_⟩⟩⟩
      rw [upd_ne (by rintro rfl; rw [ht] at g; cases g.2)]; exact s12 _ _ g.2
    have hp3 : ParAt (upd H2 t (.ins C dx (putF "_kind_of" (.ref r) []))) d2 ps := by
      obtain ⟨kvs, e, rr⟩ := hp
      exact ⟨kvs, by rw [upd_ne nd2t]; exact s12 _ _ e, L2.Paired.mapP rr fun _ _ f => ⟨f.1, f.2.to ((TK.of s12).trans tk3)⟩⟩
    refine ⟨_, rfl, d2, ps, rfl, hp3, pok, p60, fun H4 s4 => ⟨_, rfl, iteF ?_⟩⟩
    have hk4 : KindsAt H4 d ks := by
      obtain ⟨kvs, e, rr⟩ := hk3
      exact ⟨kvs, s4 _ _ e, L2.Paired.mapP rr fun _ _ f => ⟨f.1, f.2.imp fun l g => ⟨g.1, s4 _ _ g.2⟩⟩⟩
    have hp4 : ParAt H4 d2 ps := by
      obtain ⟨kvs, e, rr⟩ := hp3
      exact ⟨kvs, s4 _ _ e, L2.Paired.mapP rr fun _ _ f => ⟨f.1, f.2.to (TK.of s4)⟩⟩
    refine ⟨_, rfl, _, rfl, d, d2, ks, ps, rfl, hk4, hp4, ndd, kok, pok, k60, fun H5 ly L s5 hly hL P5 al l360 => ?_⟩
    have s35 := s4.trans s5
    have ht5 := s35 _ _ (upd_same (H := H2) (a := t) (o := .ins C dx (putF "_kind_of" (.ref r) [])))
    have tk6 : TK H5 (upd H5 t (.ins C dx (tf r ly))) := TK.put ht5 (by intro z; exact nofun)
    have nly : ly ≠ t := fun z => by subst z; rw [s4 _ _ upd_same] at hly; cases hly
    refine ⟨_, rfl, t, C, dx, _, rfl, ht5, T.cl, T.nL, (by show 1 < 1000; decide), ?_⟩
    obtain ⟨pkv, hpk, prr⟩ := hpl
    obtain ⟨lkv, hlk, lrr⟩ := hL
    refine k _ L (fun a o na ea => ?_) ⟨dx, r, ly, pkv, lkv, upd_same, by rw [upd_ne nrt]; exact s35 _ _ (by rw [upd_ne nrt]; exact hpk), L2.Paired.mapP prr fun _ _ f => f.to ((tk3.trans (TK.of s35)).trans tk6), by rw [upd_ne nly]; exact hlk,
      L2.Paired.mapP lrr fun _ _ f => ⟨f.1, f.2.to tk6⟩, trok_of kok pok pnd pl60 P5 al l360⟩ P5 al
    rw [upd_ne na]
    exact s35 _ _ (by rw [upd_ne na]; exact s12 _ _ ea)
end
end KN


set_option Elab.async false
set_option linter.all false
set_option maxRecDepth 100000
set_option maxHeartbeats 4000000
/-! Own rule: {k: v for x in iter if ..} whose keys are tuples. -/
namespace KN
open PySem PySem.Spec PyProof.Rows L2
theorem setT {X : Cx} {pins : List (Addr × Obj)} {σ : L2.St} {H : Hp} {s : Shared} {E : Value → Shared → Prop} {d b : Addr} {kvs : List (List Key × V)} {k : List Key} {v : V} {r : Value} {Q : Unit → Shared → Prop} (hu : X.A.units + 1 < cLine) (J : Inv X pins σ H s)
    (e : H d = some (.dT kvs)) (eb : H b = some (.tup (k.map kV))) (room : kvs.length < sizeLine) (rv : RelV v r) (go : ∀ t, Inv X pins σ (upd H d (.dT (putK kvs k v))) t → Q () t) : wpAny (model X.prog X.w) X.A (dictSet d (.ref b) r) Q E s := by
  obtain ⟨z, lo, xs, rel, dd⟩ := dt_of J.hok e
  have few : xs.length ≤ sizeLine := by rw [← Paired.length rel]; exact z
  refine wpAny_dictSet_heap (hsz := few) (show X.A.units < cLine by omega) (key_of J.hok eb) dd fun g dd' same => go _ ?_
  obtain ⟨ob, es, ep, c1, c2, c3, c4, _, c5⟩ := dd'
  refine d_write J (by rw [e]; exact True.intro) same ⟨ob, c1⟩ ⟨?_, lo, _, (KT.put rel k eb rv).keeps fun c ys ec => ?_, ob, es, ep, c1, c2, c3, c4, c5⟩
  · have := length_putK kvs k v; omega
  · rw [upd_ne (ne_of ec e (fun z => nomatch z))]; exact ec
def tDcT (wi : TI) (g : TG) (tt : TT) (tk tv : TE) (vs : List Nat) : TE := fun σ H Q => wi σ H fun J G => ∀ D, G D = none → ∃ W : Nat → Nat → Hp → Prop, (∃ m, W 0 m (upd G D (.dT []))) ∧ ∀ i m H, W i m H →
  (J.stop i H ∧ Q (.ref D) H) ∨ (J.go i H ∧ ∃ N : Hp → Prop, (∀ H', N H' → ∃ m', m' < m ∧ W (i + 1) m' H') ∧ ∀ x H', J.yld i H x H' → g x (wipe σ vs) H' fun σ2 H2 => wipe σ2 vs = wipe σ vs ∧ tt σ2 H2 fun c H3 =>
    if c = true then tk σ2 H3 fun y H4 => tv σ2 H4 fun z H5 => ∃ (kvs : List (List Key × V)) (k : List Key) (b : Addr), y = .ref b ∧ H5 b = some (.tup (k.map kV)) ∧ H5 D = some (.dT kvs) ∧ kvs.length < sizeLine ∧ N (upd H5 D (.dT (putK kvs k z))) else N H3)
theorem pe_dcT {X : Cx} {ek ev tg iter : Expr} {ifs : List Expr} {sc : Scope} {own : List (Str × Nat)} {pos : Pos} {wi : TI} {g : TG} {tt : TT} {tk tv : TE} (hu : X.A.units + 1 < cLine) (calm : X.calm = true) (nodup : X.N.Nodup) (hi : PI X tg iter wi) (ok : BlkOk X.N X.env.scope sc own)
    (hg : ∀ (s : Shared) (H : Hp) (c : Addr) (cl : List (Str × Addr)) (fp : List Addr), PG (X.blk s H sc (compEnvC sc cl c X.env) fp) tg g)
    (ht : ∀ (s : Shared) (H : Hp) (c : Addr) (cl : List (Str × Addr)) (fp : List Addr), PTs (X.blk s H sc (compEnvC sc cl c X.env) fp) ifs tt)
    (hk : ∀ (s : Shared) (H : Hp) (c : Addr) (cl : List (Str × Addr)) (fp : List Addr), PE (X.blk s H sc (compEnvC sc cl c X.env) fp) ek tk)
    (hv : ∀ (s : Shared) (H : Hp) (c : Addr) (cl : List (Str × Addr)) (fp : List Addr), PE (X.blk s H sc (compEnvC sc cl c X.env) fp) ev tv)
    (fold : ∀ x, foldedSetIterable iter X.env x = pure x := by intro _; rfl) : PE X (.DictComp ek ev [⟨tg, iter, ifs, 0⟩] sc pos) (tDcT wi g tt tk tv (own.map (·.2))) := by
  refine ⟨fun pins s σ H Q I h => ?_⟩
  rw [arm_eval_DictComp]
  have open_ : ∀ y ∈ sc.names, y.2 = .free → ∃ c, X.env.cells.lookup y.1 = some c := fun y hy e => by
    rcases ok.free y hy e with q | q
    · exact I.ok.has _ (.inl q)
    · exact I.ok.has _ (.inr q)
  refine wpAny_comprehension_free (use := none) rfl fold (closure_ok open_) ok.kind (fun y hy e => by rw [ok.uniq y hy, e]) (thn (hi.run pins s σ H _ I h) fun xv t1 a => thn a fun iv t2 a2 => ?_)
  obtain ⟨it, fp, tn, J, G, rfl, I2, T, at0, off, q⟩ := a2
  refine wpAny_newObj_type (newEnv_comp ?_)
  generalize eD : t2.heap.objs.size = D
  have dn : G D = none := I2.hok.fresh (Nat.le_of_eq eD)
  obtain ⟨W, ⟨m0, w0⟩, turn⟩ := q D dn
  generalize e3 : ({ t2 with heap := t2.heap.push { cls := .type "dict", data := .dict #[] } } : Shared) = t3
  have eh : t3.heap = t2.heap.push { cls := .type "dict", data := .dict #[] } := by rw [← e3]
  have I3 : Inv X pins σ (upd G D (.dT [])) t3 := by
    rw [← e3]
    exact I2.laid (t' := t2.toks) (fun b o e => Heap.get?_push_of_some _ e) (Nat.le_of_eq eD) (by rw [← eD]; exact dt_empty t2.heap I2.big)
  have far : ∀ b ∈ fp, FpOk X pins (upd G D (.dT [])) b ∧ b < t3.heap.objs.size := fun b hb => by
    obtain ⟨o, e, _⟩ := T.obj _ _ at0 b hb
    have lt := Heap.lt_size e
    refine ⟨⟨?_, (off b hb).2⟩, by rw [eh, Heap.size_push]; exact Nat.lt_succ_of_lt lt⟩
    rw [upd_ne (by rw [← eD]; exact Nat.ne_of_lt lt)]; exact (off b hb).1
  have at3 : tn 0 t3.heap := T.keep _ _ _ at0 fun b _ o e => by rw [eh]; exact Heap.get?_push_of_some _ e
  have I4 := block_start I3 ok nodup far
  generalize eC : cellsFrom (t3.heap.objs.size + 1) sc.names (cloFrom X.env.cells sc.names []) = cl at I4
  have pg := hg t3 (upd G D (.dT [])) t3.heap.objs.size cl fp
  have pt := ht t3 (upd G D (.dT [])) t3.heap.objs.size cl fp
  have pk := hk t3 (upd G D (.dT [])) t3.heap.objs.size cl fp
  have pv := hv t3 (upd G D (.dT [])) t3.heap.objs.size cl fp
  have none0 : ∀ b ∈ fp, (upd G D (.dT [])) b = none := fun b hb => (far b hb).1.1
  have fin0 : ∀ t' H', Inv X pins σ H' t' → Q (.ref D) H' → ∀ m, t'.heap.Ns t3.heap.objs.size m → FpOk X pins H' t3.heap.objs.size → compPost (model X.prog X.w) X.A X.xe none (fun r t => ∃ x H', Inv X pins σ H' t ∧ RelV x r ∧ Q x H') (.ref D) t3.heap.objs.size (.ok .next) t' := by
    intro t' H' I' q m hn f
    refine ⟨m, hn, fun h'' sb => ?_⟩
    obtain ⟨f0, f1, f2, f3, f4, f5⟩ := f
    exact ⟨.ref D, H', I'.turned (t' := t'.toks) (fun b o hb e => (sb.2 b hb).trans e) f0 f1 f3 f4 f5, rfl, q⟩
  show codeAny (model X.prog X.w) X.A (.compStart (.DictComp ek ev [⟨tg, iter, ifs, 0⟩] sc pos) 0 (.ref it) (.ref D) (compEnvC sc cl t3.heap.objs.size X.env)) _ { t3 with heap := pushCells (t3.heap.push { cls := .type "dict", data := .dict #[] }) sc.names }
  generalize ee : compEnvC sc cl t3.heap.objs.size X.env = ce at I4 pg pt pk pv ⊢
  have el : ce.locals = t3.heap.objs.size := by subst ee; rfl
  generalize eG : upd G D (.dT []) = G3 at I3 I4 pg pt pk pv w0 none0 far
  generalize e4 : ({ t3 with heap := pushCells (t3.heap.push { cls := .type "dict", data := .dict #[] }) sc.names } : Shared) = t4 at I4 ⊢
  have at4 : tn 0 t4.heap := T.keep _ _ _ at3 fun b _ o e => by rw [← e4]; exact pushCells_keeps _ _ _ _ (Heap.get?_push_of_some _ e)
  have stand : ∀ {τ : L2.St} {H' : Hp} {t : Shared}, Inv (X.blk t3 G3 sc ce fp) [] τ H' t → (∀ b ∈ fp, H' b = none) → ∀ b ∈ fp, FpOk (X.blk t3 G3 sc ce fp) [] H' b := fun {τ H' t} I' n b hb =>
    ⟨n b hb, (I'.ok.exf b hb).1, I'.ok.exfs b hb, .inl hb, fun x c e => (I'.ok.exf b hb).2 x c e, fun p hp => absurd (show p ∈ ([] : List (Addr × Obj)) ++ [] from hp) (by simp)⟩
  have loop : codeAny (model X.prog X.w) X.A (.compLoop (.DictComp ek ev [⟨tg, iter, ifs, 0⟩] sc pos) 0 (.ref it) (.ref D) ce) (compPost (model X.prog X.w) X.A X.xe none (fun r t => ∃ x H', Inv X pins σ H' t ∧ RelV x r ∧ Q x H') (.ref D) t3.heap.objs.size) t4 := by
    refine compLoop_anyD (fun n t => ∃ i H', Inv (X.blk t3 G3 sc ce fp) [] (wipe σ (own.map (·.2))) H' t ∧ tn i t.heap ∧ (∀ b ∈ fp, H' b = none) ∧ W i n H') ?_ m0 ⟨0, G3, I4, at4, none0, w0⟩
    rintro n t5 ⟨i, H5, I5, at5, n5, w5⟩
    rcases turn i n H5 w5 with ⟨ends, fin⟩ | ⟨goes, N, less, step⟩
    · refine thnF (T.done (X.blk t3 G3 sc ce fp) rfl rfl rfl calm i [] t5 _ H5 (fun _ _ => False) I5 (stand I5 n5) at5 ends) fun r t6 ⟨er, I6⟩ => ?_
      subst er
      have I7 : Inv X pins σ H5 t6 := I3.call' (ch := fp) I6.os I6.base I6.hok I6.bare fun b hb => let f := (far b hb).1.2; ⟨f.2.2.1, f.1, f.2.2.2.1, f.2.2.2.2⟩
      have nC : H5 t3.heap.objs.size = none := by
        have z : H5 ce.locals = none := I6.free
        rw [el] at z; exact z
      obtain ⟨m, hn, _⟩ := I6.loc
      have hn' : t6.heap.Ns ce.locals m := hn
      rw [el] at hn'
      exact fin0 t6 H5 I7 fin m hn' (I3.fpOk (Nat.le_refl _) nC)
    · refine thnF (T.item (X.blk t3 G3 sc ce fp) rfl rfl rfl calm i [] t5 _ H5 (fun _ _ => False) I5 (stand I5 n5) at5 goes) fun r t6 ⟨u, er, h6⟩ => ?_
      subst er
      refine thnF h6 fun _ t7 ⟨x, H7, I7, r7, y7, at7, n7⟩ => ?_
      have I7p := I7.pinned (stand I7 n7) (T.obj _ _ at7)
      refine thnF (pg.run _ t7 _ H7 x u _ I7p r7 (step x H7 y7)) fun _ t8 ⟨σ8, H8, I8, same, q8⟩ => thnF (pt.run _ t8 σ8 H8 _ I8 q8) fun c t9 ⟨H9, I9, q9⟩ => ?_
      have back : ∀ {t : Shared} {H' : Hp}, Inv (X.blk t3 G3 sc ce fp) ([] ++ pinsAt fp t7.heap) σ8 H' t → N H' → ∃ m, m < n ∧ ∃ i H', Inv (X.blk t3 G3 sc ce fp) [] (wipe σ (own.map (·.2))) H' t ∧ tn i t.heap ∧ (∀ b ∈ fp, H' b = none) ∧ W i m H' := fun {t H'} I' nx => by
        obtain ⟨m', lt, w'⟩ := less H' nx
        have pin : ∀ b ∈ fp, ∀ o, t7.heap.get? b = some o → t.heap.get? b = some o ∧ H' b = none := fun b hb o e => by
          have z := I'.pin (b, o) (List.mem_append_right _ (List.mem_append_right _ (mem_pinsAt hb e)))
          exact ⟨z.1, z.2.1⟩
        refine ⟨m', lt, i + 1, H', (I'.unpinned (pins := [])).weak (by rw [← same, wipe_length]) (fun j v e => ?_), T.keep _ _ _ at7 fun b hb o e => (pin b hb o e).1, fun b hb => ?_, w'⟩
        · rw [← same] at e; exact (wipe_some e).1
        · obtain ⟨o, e, _⟩ := T.obj _ _ at7 b hb
          exact (pin b hb o e).2
      cases c with
      | false =>
        rw [if_neg Bool.false_ne_true] at q9 ⊢
        exact back I9 q9
      | true =>
        rw [if_pos rfl] at q9 ⊢
        refine thnF (pk.run _ t9 σ8 H9 _ I9 q9) fun z t10 ⟨yk, H10, I10, r10, q10⟩ => thnF (pv.run _ t10 σ8 H10 _ I10 q10) fun z2 t11 ⟨yv, H11, I11, r11, kvs, k, b, ek', eb, eD', room, nx⟩ => ?_
        subst ek'
        obtain rfl : z = Value.ref b := r10
        exact setT (X := X.blk t3 G3 sc ce fp) hu I11 eD' eb room r11 fun t12 I12 => back I12 nx
  exact codeAny_compStart_dict loop (T.self X.A 0 _ _ _ at4 loop)
theorem dcT_it {J : It} {n : Nat} {Gd : Hp → Prop} {Y : Nat → Hp → V → Hp → Prop} (w : Walk J n Gd Y) {g : TG} {tt : TT} {tk tv : TE} {vs : List Nat} {σ : L2.St} {G : Hp} {D : Addr} {Qd : Hp → Prop} (Pv : Nat → Hp → Prop) (h0 : Pv 0 (upd G D (.dT []))) (hG : ∀ i H, i ≤ n → Pv i H → Gd H)
    (hs : ∀ i x H H', i < n → Pv i H → Y i H x H' → g x (wipe σ vs) H' fun σ2 H2 => wipe σ2 vs = wipe σ vs ∧ tt σ2 H2 fun c H3 =>
      if c = true then tk σ2 H3 fun y H4 => tv σ2 H4 fun z H5 => ∃ (kvs : List (List Key × V)) (k : List Key) (b : Addr), y = .ref b ∧ H5 b = some (.tup (k.map kV)) ∧ H5 D = some (.dT kvs) ∧ kvs.length < sizeLine ∧ Pv (i + 1) (upd H5 D (.dT (putK kvs k z))) else Pv (i + 1) H3)
    (hd : ∀ H, Pv n H → Qd H) : ∃ W : Nat → Nat → Hp → Prop, (∃ m, W 0 m (upd G D (.dT []))) ∧ ∀ i m H, W i m H → (J.stop i H ∧ Qd H) ∨ (J.go i H ∧ ∃ N : Hp → Prop, (∀ H', N H' → ∃ m', m' < m ∧ W (i + 1) m' H') ∧
      ∀ x H', J.yld i H x H' → g x (wipe σ vs) H' fun σ2 H2 => wipe σ2 vs = wipe σ vs ∧ tt σ2 H2 fun c H3 =>
        if c = true then tk σ2 H3 fun y H4 => tv σ2 H4 fun z H5 => ∃ (kvs : List (List Key × V)) (k : List Key) (b : Addr), y = .ref b ∧ H5 b = some (.tup (k.map kV)) ∧ H5 D = some (.dT kvs) ∧ kvs.length < sizeLine ∧ N (upd H5 D (.dT (putK kvs k z))) else N H3) := by
  refine ⟨fun i m H => m = n - i ∧ i ≤ n ∧ Pv i H, ⟨n, (Nat.sub_zero n).symm, Nat.zero_le _, h0⟩, ?_⟩
  rintro i m H ⟨rfl, hi, p⟩
  have good := hG i H hi p
  rcases Nat.lt_or_ge i n with lt | ge
  · exact .inr ⟨w.goes i H lt good, Pv (i + 1), fun H' p' => ⟨n - (i + 1), by omega, rfl, lt, p'⟩, fun x H' y => hs i x H H' lt p (w.yields i H x H' lt good y)⟩
  · obtain rfl : i = n := by omega
    exact .inl ⟨w.stops H good, hd H p⟩
end KN

set_option Elab.async false
set_option linter.all false
set_option maxRecDepth 100000
set_option maxHeartbeats 4000000
/-! Own rules: an attribute as a part of a target, any() of lists. -/
namespace KN
open PySem PySem.Spec PyProof.Rows L2
def gFld (K : PySem.W.Frag) (to : TE) (f : Str) : TG := fun v σ H Q => to σ H fun x G => ∃ a C dx fs, x = .ref a ∧ G a = some (.ins C dx fs) ∧ Cls K C ∧ NoAttr K C f ∧ fs.length < 1000 ∧ Q σ (upd G a (.ins C dx (putF f v fs)))
theorem pg_fld {X : Cx} {o : Expr} {f : Str} {to : TE} {pos : Pos} (ho : PE X o to) : PG X (.Attribute o f pos) (gFld X.K to f) := by
  refine ⟨fun pins s σ H v u Q I r h => ?_⟩
  rw [assign_Attribute]
  refine wpAny_bind (wpAny_holding (thn (ho.run pins s σ H _ I h) fun ov t ⟨x, G, J, rx, a, C, dx, fs, ex, ea, c, n, l, q⟩ => ?_))
  subst ex
  obtain rfl : ov = Value.ref a := rx
  refine wpAny_bind (wpAny_standAt (wpAny_bind (wpAny_holding (setattr_ok J ea c n l r fun t2 J2 => ?_))))
  exact wpAny_release ⟨σ, _, J2, q⟩
section
variable {prog : Program} {w : World} {A : Around} {R : Result → Shared → Prop}
theorem anyL_loop {I l : Addr} {its : Array Value} {g0 : Heap} (calm : A.handled = none) (ne : l ≠ I) (hI : g0.get? I = none ∨ True) (tr : Nat → Bool) (htr : ∀ i v (s : Shared) (Q : Bool → Shared → Prop) (E : Value → Shared → Prop), its[i]? = some v → (∀ b o, g0.get? b = some o → b ≠ I → s.heap.get? b = some o) → (∀ tk, Q (tr i) { s with toks := tk }) → wpAny (model prog w) A.in1 (truthy v) Q E s) :
    ∀ (k i : Nat) (s : Shared), its.size - i = k → i ≤ its.size → s.heap.IsListIter I l i ∧ s.heap.IsList l its → (∀ b o, g0.get? b = some o → b ≠ I → s.heap.get? b = some o) →
    (∀ h' tk, (∀ b o, g0.get? b = some o → b ≠ I → h'.get? b = some o) → R (.ok (.ret (.bool (((List.range its.size).drop i).any tr)))) { s with heap := h', toks := tk }) → codeAny (model prog w) A (.builtin "any.loop" ⟨[.ref I], []⟩) R s := by
  have W := Walks.list (prog := prog) (w := w) (A := A.in1) calm I l ne its
  intro k
  induction k with
  | zero =>
    intro i s e le at_ kept out
    obtain rfl : i = its.size := by omega
    refine codeAny_builtin F.entry_any_loop ?_
    rw [Around.under_plainId F.plain_any_loop _]
    show wpAny _ A.in1 (pyNext (.ref I) >>= _) _ _ s
    refine wpAny_bind (W.done s _ _ at_ fun h' tk keep => wpAny_bind (wpAny_rule (wpAny_pure ?_)))
    have z := out h' tk fun b o e n => keep b o (by rw [List.mem_singleton]; exact n) (kept b o e n)
    rwa [List.drop_of_length_le (by rw [List.length_range]; exact Nat.le_refl _)] at z
  | succ k ih =>
    intro i s e le at_ kept out
    have lt : i < its.size := by omega
    have cut : (List.range its.size).drop i = i :: (List.range its.size).drop (i + 1) := by
      rw [List.drop_eq_getElem_cons (by rw [List.length_range]; exact lt), List.getElem_range]
    refine codeAny_builtin F.entry_any_loop ?_
    rw [Around.under_plainId F.plain_any_loop _]
    show wpAny _ A.in1 (pyNext (.ref I) >>= _) _ _ s
    refine wpAny_bind (W.item i s _ _ lt at_ fun v h' tk hv at' keep => ?_)
    have kept' : ∀ b o, g0.get? b = some o → b ≠ I → h'.get? b = some o := fun b o e n => keep b o (by rw [List.mem_singleton]; exact n) (kept b o e n)
    refine wpAny_bind (wpAny_holding (htr i v _ _ _ hv kept' fun tk2 => wpAny_bind (wpAny_letGo ?_)))
    cases c : tr i with
    | false =>
      rw [if_neg Bool.false_ne_true]
      refine wpAny_pure ⟨plainId_quiet F.plain_any_loop _, ih (i + 1) _ (by omega) lt at' kept' fun h2 tk2 kept2 => ?_⟩
      have z := out h2 tk2 kept2
      rwa [cut, List.any_cons, c, Bool.false_or] at z
    | true =>
      rw [if_pos rfl]
      refine wpAny_bind (wpAny_rule (wpAny_pure ?_))
      have z := out h' tk2 kept'
      rwa [cut, List.any_cons, c, Bool.true_or] at z
end
def rAnyL (K : PySem.W.Frag) : List V → Hp → VK → Prop := fun vs H Q => ∃ (a : Addr) (ls : List (Addr × List V)), vs = [.ref a] ∧ SqL K H a (ls.map fun p => V.ref p.1) ∧ (∀ p ∈ ls, SqL K H p.1 p.2) ∧ Q (.bl (ls.any fun p => !p.2.isEmpty)) H
theorem range_any {α : Type} (f : α → Bool) (d : Bool) : ∀ (xs : List α), (List.range xs.length).any (fun i => ((xs[i]?).map f).getD d) = xs.any f
  | [] => rfl
  | x :: xs => by
    rw [List.length_cons, List.range_succ_eq_map, List.any_cons, List.any_map, List.any_cons]
    congr 1
    exact range_any f d xs
theorem cr_anyL {X : Cx} (calm : X.calm = true) : CallR X (.builtin "any") (rAnyL X.K) := by
  intro pins s σ H vs us Q I r h
  obtain ⟨a, ls, rfl, hs, each, q⟩ := h
  obtain ⟨its, rv, hl, _⟩ := I.list hs
  rw [Vals.ref1 r]
  have len := rv.length
  rw [List.length_map] at len
  refine call_function_tree F.kind_any F.plain_any F.entry_any (F.args_any1 _) ?_
  unfold Builtin.«any»
  refine wpAny_bind (m := oneArg "any" _) (wpAny_pure ?_)
  refine wpAny_bind (iter_any hl.isList fun t et st ne => ?_)
  refine wpAny_pure ⟨plainId_quiet F.plain_any_loop _, anyL_loop (g0 := s.heap) (I.ok.hd calm) ne (.inr trivial) (fun i => ((ls[i]?).map fun p => !p.2.isEmpty).getD false) (fun i v t2 Q2 E2 hv kept q2 => ?_) _ 0 t rfl (Nat.zero_le _) st (fun b o e n => ?_) fun g tk kept => ?_⟩
  · have hv' : its[i]? = some v := by simpa using hv
    obtain ⟨y, hy, ry⟩ : ∃ y, (ls.map fun p => V.ref p.1)[i]? = some y ∧ RelV y v := by
      have := rv.length
      have hi : i < its.length := (List.getElem?_eq_some_iff.mp hv').1
      obtain ⟨u, hu, ru⟩ := rv.get (List.getElem?_eq_getElem (by omega : i < (ls.map fun p => V.ref p.1).length))
      rw [hv'] at hu; cases hu
      exact ⟨_, List.getElem?_eq_getElem (by omega), ru⟩
    rw [List.getElem?_map] at hy
    obtain ⟨p, hp, rfl⟩ := Option.map_eq_some_iff.mp hy
    cases ry
    obtain ⟨js, rj, hj, hz⟩ := I.list (each p (List.mem_of_getElem? hp))
    have e : (!js.toArray.isEmpty) = !p.2.isEmpty := isEmpty_of rj
    rw [hp] at q2
    have lj := hj.isList
    have lj2 : t2.heap.IsList p.1 js.toArray := lj.at fun o eo => kept _ _ eo (Nat.ne_of_lt (Heap.lt_size eo))
    have hlen := rj.length
    refine wpAny_truthy_list lj2 (by simp only [List.size_toArray]; have := line63; omega) ?_
    rw [e]
    exact q2 _
  · subst et
    exact Heap.get?_push_of_some _ e
  · subst et
    refine ⟨.bl _, H, I.kept fun b o eo => kept b o eo (Nat.ne_of_lt (Heap.lt_size eo)), ?_, q⟩
    show Value.bool _ = Value.bool _
    congr 1
    rw [List.drop_zero, List.size_toArray, ← len]
    exact range_any (fun p : Addr × List V => !p.2.isEmpty) false ls
end KN
namespace KN
open PySem PySem.Spec PyProof.Rows L2
theorem cr_anyLK {X : Cx} (K : PySem.W.Frag) (calm : X.calm = true) (h : X.K = K := by rfl) : CallR X (.builtin "any") (rAnyL K) := by subst h; exact cr_anyL calm
theorem cr_allK {X : Cx} (K : PySem.W.Frag) (calm : X.calm = true) (h : X.K = K := by rfl) : CallR X (.builtin "all") (rAll K) := by subst h; exact cr_all calm
end KN
namespace KN
open PySem PySem.Spec PyProof.Rows L2
theorem pi_listK {X : Cx} (K : PySem.W.Frag) {tg e : Expr} {te : TE} (he : PE X e te) (h : X.K = K := by rfl) : PI X tg e (iList K te) := by subst h; exact pi_list he
end KN

set_option Elab.async false
set_option linter.all false
set_option maxRecDepth 100000
set_option maxHeartbeats 4000000
/-! Own rule: dict(l), a list of pairs whose first parts are tuples. -/
namespace KN
open PySem PySem.Spec PyProof.Rows L2
abbrev PRow := Addr × List Key × Addr × V
def rDictT (K : PySem.W.Frag) : List V → Hp → VK → Prop := fun vs H Q => ∃ (a : Addr) (ps : List PRow), vs = [.ref a] ∧ SqL K H a (ps.map fun p => V.ref p.1) ∧ (∀ p ∈ ps, H p.1 = some (.tup [.ref p.2.2.1, p.2.2.2]) ∧ H p.2.2.1 = some (.tup (p.2.1.map kV))) ∧ (ps.map (·.2.1)).Nodup ∧ ps.length < 1000 ∧
  ∀ d, H d = none → Q (.ref d) (upd H d (.dT (ps.map fun p => (p.2.1, p.2.2.2))))
def PZ (h : Heap) (p : PRow) (z : List Key × Addr × Value) : Prop := z.1 = p.2.1 ∧ z.2.1 = p.2.2.1 ∧ RelV p.2.2.2 z.2.2 ∧ h.IsTuple p.1 #[.ref z.2.1, z.2.2]
theorem pz_all {X : Cx} {pins : List (Addr × Obj)} {σ : L2.St} {H : Hp} {s : Shared} (I : Inv X pins σ H s) : ∀ {ps : List PRow}, (∀ p ∈ ps, H p.1 = some (.tup [.ref p.2.2.1, p.2.2.2]) ∧ H p.2.2.1 = some (.tup (p.2.1.map kV))) → ∃ zs, Paired (PZ s.heap) ps zs
  | [], _ => ⟨[], .nil⟩
  | p :: ps, h => by
    obtain ⟨zs, r⟩ := pz_all I fun q hq => h q (List.mem_cons_of_mem _ hq)
    obtain ⟨h1, h2⟩ := h p List.mem_cons_self
    obtain ⟨its, rv, pt, _⟩ := I.tuple (SqT.of h1)
    cases rv with
    | cons r1 t =>
      cases t with
      | cons r2 t =>
        cases t
        cases r1
        exact ⟨(p.2.1, p.2.2.1, _) :: zs, .cons ⟨rfl, rfl, r2, pt⟩ r⟩
theorem pz_keys {h : Heap} : ∀ {ps : List PRow} {zs : List (List Key × Addr × Value)}, Paired (PZ h) ps zs → zs.map (·.1) = ps.map (·.2.1)
  | _, _, .nil => rfl
  | _, _, .cons f t => by rw [List.map_cons, List.map_cons, pz_keys t, f.1]
theorem pz_kt {h : Heap} {H : Hp} {d : Addr} {o : HO} (fr : H d = none) : ∀ {ps : List PRow} {zs : List (List Key × Addr × Value)}, Paired (PZ h) ps zs → (∀ p ∈ ps, H p.1 = some (.tup [.ref p.2.2.1, p.2.2.2]) ∧ H p.2.2.1 = some (.tup (p.2.1.map kV))) → KT (upd H d o) (ps.map fun p => (p.2.1, p.2.2.2)) zs
  | _, _, .nil, _ => .nil
  | p :: ps, _, .cons f t, each => by
    refine .cons ⟨f.1.symm, ?_, f.2.2.1⟩ (pz_kt fr t fun q hq => each q (List.mem_cons_of_mem _ hq))
    have e := (each p List.mem_cons_self).2
    rw [f.2.1, upd_ne (ne_of_none e fr)]
    exact e
theorem cr_dictT {X : Cx} (calm : X.calm = true) (hu : X.A.units + 64 < cLine) : CallR X (.type "dict") (rDictT X.K) := by
  intro pins s σ H vs us Q I r h
  obtain ⟨a, ps, rfl, hs, each, nd, few, q⟩ := h
  obtain ⟨its, rv, pl, _⟩ := I.list hs
  rw [Vals.ref1 r]
  obtain ⟨zs, pz⟩ := pz_all I each
  have len := Paired.length pz
  have len2 := rv.length
  rw [List.length_map] at len2
  have items : PairItems s.heap its.toArray (fun j => ((ps[j]?).map fun p => p.1).getD 0) (zs.map fun z => (Value.ref z.2.1, z.2.2)) := by
    refine ⟨by rw [List.size_toArray, List.length_map]; omega, fun j k v hj => ?_⟩
    rw [List.getElem?_map] at hj
    obtain ⟨z, hz, e⟩ := Option.map_eq_some_iff.mp hj
    cases e
    have hjl : j < zs.length := (List.getElem?_eq_some_iff.mp hz).1
    obtain ⟨p, hp⟩ : ∃ p, ps[j]? = some p := ⟨ps[j], List.getElem?_eq_getElem (by omega)⟩
    obtain ⟨z', hz', f1, f2, f3, f4⟩ := paired_get pz hp
    rw [hz] at hz'; cases hz'
    have hp' : (ps.map fun p => V.ref p.1)[j]? = some (.ref p.1) := by rw [List.getElem?_map, hp]; rfl
    obtain ⟨u, hu', ru⟩ := rv.get hp'
    cases ru
    have eT : ((ps[j]?).map fun p => p.1).getD 0 = p.1 := by rw [hp]; rfl
    show its.toArray[j]? = some (.ref (((ps[j]?).map fun p => p.1).getD 0)) ∧ PairAt s.heap (((ps[j]?).map fun p => p.1).getD 0) _ _
    rw [eT]
    exact ⟨by simpa using hu', .inl f4⟩
  have keys := pz_keys pz
  have is0 : ∀ z ∈ zs, (tupleKind (mixKind X.prog X.w)).is s.heap z.1 z.2.1 := fun z hz => by
    obtain ⟨j, hj⟩ := List.mem_iff_getElem?.mp hz
    have hjl : j < zs.length := (List.getElem?_eq_some_iff.mp hj).1
    obtain ⟨p, hp⟩ : ∃ p, ps[j]? = some p := ⟨ps[j], List.getElem?_eq_getElem (by omega)⟩
    obtain ⟨z', hz', f1, f2, f3, f4⟩ := paired_get pz hp
    rw [hj] at hz'; cases hz'
    rw [f1, f2]
    exact key_of I.hok (each p (List.mem_of_getElem? hp)).2
  refine call_dict_pairsH (knd := tupleKind (mixKind X.prog X.w)) (ps := zs) (PairArg.list a its.toArray (fun j => ((ps[j]?).map fun p => p.1).getD 0) (zs.map fun z => (Value.ref z.2.1, z.2.2))) (I.ok.hd calm) (show X.A.units + 2 < cLine by omega) ⟨pl, items⟩ ⟨by rw [List.length_map], fun i key v hj => ?_⟩ (fun h' hk x hx => ?_) (by rw [List.length_map, sizeLine_eq]; omega) fun h' tk hd' hk => ?_
  · have hj : (zs.map fun z => (Value.ref z.2.1, z.2.2))[i]? = some (key, v) := hj
    rw [List.getElem?_map] at hj
    obtain ⟨z, hz, e⟩ := Option.map_eq_some_iff.mp hj
    cases e
    exact ⟨z.1, z.2.1, hz, rfl⟩
  · exact tupleKind_stays.all h' (fun b o hb e => hk b o (Nat.ne_of_lt (Heap.lt_size e)) hb e) _ _ (is0 x hx)
  · rw [storedAllH_nil_of_nodup zs (by rw [keys]; exact nd)] at hd'
    obtain ⟨ob, es, ep, hq, h2, h3, h4, _, h5⟩ := hd'
    refine ⟨.ref s.heap.objs.size, upd H s.heap.objs.size (.dT (ps.map fun p => (p.2.1, p.2.2.2))), I.laid (a := s.heap.objs.size) (t' := tk) (fun b o e => hk b o (fun z => nomatch z) e) (Nat.le_refl _) ⟨by rw [List.length_map, sizeLine_eq]; omega, beq_eq_false_iff_ne.mpr (Ne.symm (Nat.ne_of_lt I.big)), zs, pz_kt (I.hok.fresh (Nat.le_refl _)) pz each, ob, es, ep, hq, h2, h3, h4, h5⟩, rfl, q _ (I.hok.fresh (Nat.le_refl _))⟩
end KN

set_option Elab.async false
set_option linter.all false
set_option maxRecDepth 100000
set_option maxHeartbeats 4000000
/-! Own rules: list(v) of the items of a dict by tuples; dict(l), pairs by tuples, a key perhaps twice. -/
namespace KN
open PySem PySem.Spec PyProof.Rows L2
theorem mk_ts {α : Type} {F : Addr → Addr → α → Prop} : ∀ (as : List Addr) (qs : List α), as.length = qs.length → (∀ (j : Nat) (a : Addr) (q : α), as[j]? = some a → qs[j]? = some q → ∃ b, F a b q) →
    ∃ ts : List (Addr × Addr), ts.map Prod.fst = as ∧ Paired (fun (t : Addr × Addr) q => F t.1 t.2 q) ts qs
  | [], [], _, _ => ⟨[], rfl, .nil⟩
  | [], _ :: _, l, _ => by cases l
  | _ :: _, [], l, _ => by cases l
  | a :: as, q :: qs, l, h => by
    obtain ⟨b, hb⟩ := h 0 a q rfl rfl
    obtain ⟨ts, e, r⟩ := mk_ts as qs (Nat.succ.inj l) fun j a' q' h1 h2 => h (j + 1) a' q' h1 h2
    exact ⟨(a, b) :: ts, by rw [List.map_cons, e], .cons hb r⟩
theorem keys_kt {H : Hp} : ∀ {kvs : List (List Key × V)} {xs : List (List Key × Addr × Value)}, KT H kvs xs → kvs.map (·.1) = xs.map (·.1)
  | _, _, .nil => rfl
  | p :: ps, x :: xs, .cons f t => by
    show p.1 :: ps.map (·.1) = x.1 :: xs.map (·.1)
    rw [keys_kt t, f.1]
/-- list(view): each item a new pair, its first part the dict's own key -/
def rListIt : List V → Hp → VK → Prop := fun vs H Q => ∃ (p a : Addr) (kvs : List (List Key × V)), vs = [.ref p] ∧ H p = some (L2.DX.itemsO p a) ∧ H a = some (.dT kvs) ∧
  ∀ (H' : Hp) (l : Addr) (ts : List (Addr × Addr)), (∀ b o, H b = some o → H' b = some o) → H l = none → H' l = some (.lst (ts.map fun t => V.ref t.1)) →
    Paired (fun (t : Addr × Addr) (q : List Key × V) => H' t.1 = some (.tup [.ref t.2, q.2]) ∧ H' t.2 = some (.tup (q.1.map kV))) ts kvs → (kvs.map (·.1)).Nodup → Q (.ref l) H'
theorem cr_listItemsT {X : Cx} (calm : X.calm = true) : CallR X (.type "list") rListIt := by
  intro pins s σ H vs us Q I r h
  obtain ⟨p, a, kvs, rfl, hp, ha, q⟩ := h
  obtain rfl := Vals.ref1 r
  have seen : s.heap.IsItemsView p a := (show ObjOk X.prog X.w H s.heap p (L2.DX.itemsO p a) from I.hok p _ hp).1
  obtain ⟨hz, ns, zs, kt, ob, es, ep, g1, g2, g3, g4, _, g5⟩ := dt_of I.hok ha
  have n1 := Paired.length kt
  have n2 : es.size = zs.length := size_of_entries g4
  refine PySem.W.dil_call (es := es) (ep := ep) (I.ok.hd calm) seen ⟨ob, g1, g2, g3⟩ (by omega) fun h' tk acc c as keep made many dg told => ?_
  have un : as.Nodup := dg.rise.imp fun z => Nat.ne_of_lt z
  have ha0 : H s.heap.objs.size = none := I.hok.fresh (Nat.le_refl _)
  have rv : Vals (as.map V.ref) acc.toList := by rw [told]; exact vals_refs as
  have I1 : Inv X pins σ (upd H s.heap.objs.size (.lst (as.map V.ref))) { s with heap := h', toks := tk } :=
    I.laid (t' := tk) keep (Nat.le_refl _) ⟨by rw [List.length_map]; omega, acc.toList, c, rv, by rw [Array.toArray_toList]; exact made⟩
  have each : ∀ (j : Nat) (b : Addr), as[j]? = some b → ∃ (kv : List Key × V) (z : List Key × Addr × Value), kvs[j]? = some kv ∧ (kv.1 = z.1 ∧ H z.2.1 = some (.tup (kv.1.map kV)) ∧ RelV kv.2 z.2.2) ∧ h'.get? b = some { cls := .type "tuple", data := .seq #[.ref z.2.1, z.2.2] } := by
    intro j b hj
    obtain ⟨lt, e⟩ := dg.pairs j b hj
    have lt2 : j < zs.length := by omega
    have ez : es[j] = entryOfKey (tupleKind (mixKind X.prog X.w)) zs[j] := by
      have t := entry_at g4 j
      rw [Array.getElem?_eq_getElem lt, List.getElem?_eq_getElem lt2] at t
      exact Option.some.inj t
    have lt3 : j < kvs.length := by omega
    obtain ⟨z, hzj, f⟩ := paired_get kt (List.getElem?_eq_getElem lt3)
    rw [List.getElem?_eq_getElem lt2] at hzj
    cases hzj
    refine ⟨_, _, List.getElem?_eq_getElem lt3, f, ?_⟩
    rw [e, ez]; rfl
  obtain ⟨H2, I2, k2, made2⟩ := L2.DX.takeT (P := fun b vs => ∃ (j : Nat) (kv : List Key × V) (x : Addr), as[j]? = some b ∧ kvs[j]? = some kv ∧ vs = [.ref x, kv.2] ∧ H x = some (.tup (kv.1.map kV))) I as _ I1 un fun b hb => by
    have up := dg.above b hb
    refine ⟨Nat.le_of_lt up, by rw [upd_ne (Nat.ne_of_gt up)]; exact I.hok.fresh (Nat.le_of_lt up), ?_⟩
    obtain ⟨j, hj⟩ := List.mem_iff_getElem?.mp hb
    obtain ⟨kv, z, e1, ⟨f1, f2, f3⟩, e2⟩ := each j b hj
    exact ⟨_, ⟨j, kv, z.2.1, hj, e1, rfl, f2⟩, fun H2 => ⟨by show 2 ≤ sizeLine; decide, [.ref z.2.1, z.2.2], .cons rfl (.cons f3 .nil), _, e2, rfl, _, rfl⟩⟩
  obtain ⟨ts, et, pt⟩ := mk_ts (F := fun b x kv => H2 b = some (.tup [.ref x, kv.2]) ∧ H2 x = some (.tup (kv.1.map kV))) as kvs (by omega) fun j b kv hj hk => by
    obtain ⟨vs, ⟨j', kv', x, e1, e2, rfl, e3⟩, e4⟩ := made2 b (List.mem_of_getElem? hj)
    obtain ⟨l1, m1⟩ := List.getElem?_eq_some_iff.mp hj
    obtain ⟨l2, m2⟩ := List.getElem?_eq_some_iff.mp e1
    have := (List.getElem_inj un).mp (m1.trans m2.symm)
    subst this
    rw [hk] at e2
    cases e2
    exact ⟨x, e4, k2 _ _ (by rw [upd_ne (ne_of_none e3 ha0)]; exact e3)⟩
  have kn : (kvs.map (·.1)).Nodup := by
    have := keys_kt kt
    rw [this]; exact g5
  have em : ts.map (fun t => V.ref t.1) = as.map V.ref := by rw [← et, List.map_map]; rfl
  refine ⟨.ref s.heap.objs.size, H2, I2, rfl, q H2 _ ts (fun b o e => k2 _ _ (by rw [upd_ne (ne_of_none e ha0)]; exact e)) ha0 (by rw [em]; exact k2 _ _ upd_same) pt kn⟩
def putAll (ps : List PRow) : List (List Key × V) := ps.foldl (fun acc p => putK acc p.2.1 p.2.2.2) []
def rDictAll (K : PySem.W.Frag) : List V → Hp → VK → Prop := fun vs H Q => ∃ (a : Addr) (ps : List PRow), vs = [.ref a] ∧ SqL K H a (ps.map fun p => V.ref p.1) ∧ (∀ p ∈ ps, H p.1 = some (.tup [.ref p.2.2.1, p.2.2.2]) ∧ H p.2.2.1 = some (.tup (p.2.1.map kV))) ∧ ps.length ≤ 1000 ∧
  ∀ d, H d = none → Q (.ref d) (upd H d (.dT (putAll ps)))
theorem kt_all {h : Heap} {H : Hp} : ∀ {ps : List PRow} {zs : List (List Key × Addr × Value)} {kvs : List (List Key × V)} {xs : List (List Key × Addr × Value)}, KT H kvs xs → Paired (PZ h) ps zs → (∀ p ∈ ps, H p.2.2.1 = some (.tup (p.2.1.map kV))) →
    KT H (ps.foldl (fun acc p => putK acc p.2.1 p.2.2.2) kvs) (storedAllH xs zs)
  | _, _, _, _, k, .nil, _ => k
  | p :: ps, z :: zs, kvs, xs, k, .cons f t, e => by
    have e1 := e p List.mem_cons_self
    have := kt_all (k.put z.1 (b := z.2.1) (y := p.2.2.2) (u := z.2.2) (by rw [f.1, f.2.1]; exact e1) f.2.2.1) t fun q hq => e q (List.mem_cons_of_mem _ hq)
    rw [f.1] at this
    show KT H (ps.foldl _ (putK kvs p.2.1 p.2.2.2)) (storedAllH (storedH xs z.1 z.2.1 z.2.2) zs)
    rw [f.1]
    exact this
theorem cr_dictAll {X : Cx} (calm : X.calm = true) (hu : X.A.units + 64 < cLine) : CallR X (.type "dict") (rDictAll X.K) := by
  intro pins s σ H vs us Q I r h
  obtain ⟨a, ps, rfl, hs, each, few, q⟩ := h
  obtain ⟨its, rv, pl, _⟩ := I.list hs
  rw [Vals.ref1 r]
  obtain ⟨zs, pz⟩ := pz_all I each
  have n1 := Paired.length pz
  have n2 := rv.length
  rw [List.length_map] at n2
  have adr : ∀ {j : Nat} {p : PRow}, ps[j]? = some p → ((ps[j]?).map fun p => p.1).getD 0 = p.1 := fun e => by rw [e]; rfl
  have rows : ∀ (j : Nat) (z : List Key × Addr × Value), zs[j]? = some z → ∃ p, ps[j]? = some p ∧ PZ s.heap p z := fun j z hz => by
    have lt : j < ps.length := by have := (List.getElem?_eq_some_iff.mp hz).1; omega
    obtain ⟨z', hz', f⟩ := paired_get pz (List.getElem?_eq_getElem lt)
    rw [hz] at hz'; cases hz'
    exact ⟨_, List.getElem?_eq_getElem lt, f⟩
  have items : PairItems s.heap its.toArray (fun j => ((ps[j]?).map fun p => p.1).getD 0) (zs.map fun z => (Value.ref z.2.1, z.2.2)) := by
    refine ⟨by rw [List.size_toArray, List.length_map]; omega, fun j k v hj => ?_⟩
    rw [List.getElem?_map] at hj
    obtain ⟨z, hz, e⟩ := Option.map_eq_some_iff.mp hj
    cases e
    obtain ⟨p, hp, f⟩ := rows j z hz
    obtain ⟨u, hu', ru⟩ := rv.get (show (ps.map fun p => V.ref p.1)[j]? = some (.ref p.1) by rw [List.getElem?_map, hp]; rfl)
    cases ru
    refine ⟨?_, .inl ?_⟩
    · show its.toArray[j]? = some (.ref (((ps[j]?).map fun p => p.1).getD 0))
      rw [adr hp]; simpa using hu'
    · show s.heap.IsTuple (((ps[j]?).map fun p => p.1).getD 0) _
      rw [adr hp]; exact f.2.2.2
  have is0 : ∀ z ∈ zs, (tupleKind (mixKind X.prog X.w)).is s.heap z.1 z.2.1 := fun z hz => by
    obtain ⟨j, hj⟩ := List.mem_iff_getElem?.mp hz
    obtain ⟨p, hp, f⟩ := rows j z hj
    rw [f.1, f.2.1]
    exact key_of I.hok (each p (List.mem_of_getElem? hp)).2
  have nw : H s.heap.objs.size = none := I.hok.fresh (Nat.le_refl _)
  refine call_dict_pairsH (knd := tupleKind (mixKind X.prog X.w)) (ps := zs) (PairArg.list a its.toArray (fun j => ((ps[j]?).map fun p => p.1).getD 0) (zs.map fun z => (Value.ref z.2.1, z.2.2))) (I.ok.hd calm) (show X.A.units + 2 < cLine by omega) ⟨pl, items⟩ ⟨by rw [List.length_map], fun i key v hj => ?_⟩ (fun h' hk x hx => ?_) (by rw [List.length_map, sizeLine_eq]; omega) fun h' tk made keep => ?_
  · have hj : (zs.map fun z => (Value.ref z.2.1, z.2.2))[i]? = some (key, v) := hj
    rw [List.getElem?_map] at hj
    obtain ⟨z, hz, e⟩ := Option.map_eq_some_iff.mp hj
    cases e
    exact ⟨z.1, z.2.1, hz, rfl⟩
  · exact tupleKind_stays.all h' (fun b o hb e => hk b o (Nat.ne_of_lt (Heap.lt_size e)) hb e) _ _ (is0 x hx)
  · obtain ⟨ob, es, ep, g1, g2, g3, g4, _, g5⟩ := made
    have kt : KT H (putAll ps) (storedAllH [] zs) := kt_all .nil pz fun p hp => (each p hp).2
    have n3 := Paired.length kt
    have n4 := storedAllH_length zs []
    refine ⟨.ref s.heap.objs.size, upd H s.heap.objs.size (.dT (putAll ps)), I.laid (a := s.heap.objs.size) (t' := tk) (fun b o e => keep b o (fun z => nomatch z) e) (Nat.le_refl _) ⟨by rw [sizeLine_eq]; rw [List.length_nil] at n4; omega, beq_eq_false_iff_ne.mpr (Ne.symm (Nat.ne_of_lt I.big)), _, kt.keeps (fun b ys e => by rw [upd_ne (ne_of_none e nw)]; exact e), ob, es, ep, g1, g2, g3, g4, g5⟩, rfl, q _ nw⟩
end KN

set_option Elab.async false
set_option linter.all false
set_option maxRecDepth 100000
/-! Rings of links: peeling, and what a new link closes. -/
namespace KN
open PySem L2
/-- some link comes back to its own start -/
def Ring (ls : List Lnk) : Prop := ∃ l ∈ ls, Rch ls l.2.2 l.2.1
def peel (ls : List Lnk) : List Lnk := ls.filter fun l => decide (l.2.1 ∈ ls.map (·.2.2))
def peels : Nat → List Lnk → List Lnk
  | 0, ls => ls
  | n + 1, ls => peel (peels n ls)
theorem peel_le (ls : List Lnk) : (peel ls).length ≤ ls.length := List.length_filter_le _ _
theorem peels_le (n : Nat) (ls : List Lnk) : (peels n ls).length ≤ ls.length := by
  induction n with
  | zero => exact Nat.le_refl _
  | succ n ih => exact Nat.le_trans (peel_le _) ih
theorem peel_sub {ls : List Lnk} {l : Lnk} (h : l ∈ peel ls) : l ∈ ls := (List.mem_filter.mp h).1
theorem peels_sub {n : Nat} {ls : List Lnk} {l : Lnk} (h : l ∈ peels n ls) : l ∈ ls := by
  induction n with
  | zero => exact h
  | succ n ih => exact ih (peel_sub h)
theorem peel_fix {ls : List Lnk} (h : (peel ls).length = ls.length) : peel ls = ls := List.filter_eq_self.mpr (List.length_filter_eq_length_iff.mp h)
/-- after as many turns as there are links nothing changes any more -/
theorem peels_fix (ls : List Lnk) : peel (peels ls.length ls) = peels ls.length ls := by
  have g : ∀ n, peel (peels n ls) = peels n ls ∨ (peels n ls).length + n ≤ ls.length := by
    intro n
    induction n with
    | zero => exact .inr (Nat.le_refl _)
    | succ n ih =>
      rcases ih with h | h
      · left; show peel (peel (peels n ls)) = peel (peels n ls); rw [h, h]
      · by_cases q : (peel (peels n ls)).length = (peels n ls).length
        · left; have := peel_fix q; show peel (peel (peels n ls)) = peel (peels n ls); rw [this, this]
        · right
          have := peel_le (peels n ls)
          show (peel (peels n ls)).length + (n + 1) ≤ ls.length
          omega
  rcases g ls.length with h | h
  · exact h
  · have h0 : peels ls.length ls = [] := List.length_eq_zero_iff.mp (by omega)
    rw [h0]; rfl
theorem filter_le {α : Type} {p q : α → Bool} : ∀ {xs : List α}, (∀ j ∈ xs, p j = true → q j = true) → (xs.filter p).length ≤ (xs.filter q).length
  | [], _ => Nat.le_refl _
  | x :: xs, h => by
    have r := filter_le (xs := xs) fun j hj => h j (List.mem_cons_of_mem _ hj)
    by_cases a : p x = true
    · rw [List.filter_cons_of_pos a, List.filter_cons_of_pos (h x List.mem_cons_self a), List.length_cons, List.length_cons]; omega
    · rw [List.filter_cons_of_neg a]
      by_cases b : q x = true
      · rw [List.filter_cons_of_pos b, List.length_cons]; omega
      · rw [List.filter_cons_of_neg b]; exact r
theorem filter_lt {α : Type} {p q : α → Bool} {k : α} : ∀ {xs : List α}, (∀ j ∈ xs, p j = true → q j = true) → k ∈ xs → q k = true → ¬ p k = true → (xs.filter p).length < (xs.filter q).length
  | [], _, hk, _, _ => by cases hk
  | x :: xs, h, hk, hq, hp => by
    have r := filter_le (xs := xs) fun j hj => h j (List.mem_cons_of_mem _ hj)
    rcases List.mem_cons.mp hk with e | hk
    · subst e
      rw [List.filter_cons_of_neg hp, List.filter_cons_of_pos hq, List.length_cons]; omega
    · have r := filter_lt (xs := xs) (fun j hj => h j (List.mem_cons_of_mem _ hj)) hk hq hp
      by_cases a : p x = true
      · rw [List.filter_cons_of_pos a, List.filter_cons_of_pos (h x List.mem_cons_self a), List.length_cons, List.length_cons]; omega
      · rw [List.filter_cons_of_neg a]
        by_cases b : q x = true
        · rw [List.filter_cons_of_pos b, List.length_cons]; omega
        · rw [List.filter_cons_of_neg b]; exact r
/-- a set of links each of which starts where one of them ends has a ring -/
theorem fix_ring {ls : List Lnk} (h : peel ls = ls) (h0 : ls ≠ []) : Ring ls := by
  have pre : ∀ l ∈ ls, ∃ k ∈ ls, k.2.2 = l.2.1 := fun l hl => by
    rw [← h] at hl
    obtain ⟨k, hk, e⟩ := List.mem_map.mp (of_decide_eq_true (List.mem_filter.mp hl).2)
    exact ⟨k, hk, e⟩
  apply Classical.byContradiction
  intro nr
  have noc : ∀ l ∈ ls, ¬ Rch ls l.2.2 l.2.1 := fun l hl r => nr ⟨l, hl, r⟩
  classical
  have go : ∀ (n : Nat) (l : Lnk), l ∈ ls → (ls.filter fun k => decide (Rch ls k.2.2 l.2.1)).length = n → False := by
    intro n
    induction n using Nat.strongRecOn with
    | ind n ih =>
      intro l hl hn
      obtain ⟨k, hk, ek⟩ := pre l hl
      refine ih (ls.filter fun j => decide (Rch ls j.2.2 k.2.1)).length ?_ k hk rfl
      rw [← hn]
      -- k itself is in the one, not in the other
      have sub : ∀ j ∈ ls, decide (Rch ls j.2.2 k.2.1) = true → decide (Rch ls j.2.2 l.2.1) = true := fun j _ hj => decide_eq_true (by
        have := Rch.step (of_decide_eq_true hj) hk rfl
        rw [ek] at this; exact this)
      have kin : decide (Rch ls k.2.2 l.2.1) = true := decide_eq_true (by rw [ek]; exact .refl)
      have kout : ¬ decide (Rch ls k.2.2 k.2.1) = true := fun z => noc k hk (of_decide_eq_true z)
      exact filter_lt (p := fun j : Lnk => decide (Rch ls j.2.2 k.2.1)) (q := fun j : Lnk => decide (Rch ls j.2.2 l.2.1)) sub hk kin kout
  obtain ⟨l, hl⟩ := List.exists_mem_of_ne_nil ls h0
  exact go _ l hl rfl
theorem Ring.mono {ls ls' : List Lnk} (h : ∀ l ∈ ls, l ∈ ls') (r : Ring ls) : Ring ls' :=
  let ⟨l, hl, q⟩ := r
  ⟨l, h l hl, q.mono h⟩
/-- the links of rings are never taken out -/
theorem ring_stays {ls : List Lnk} {l : Lnk} (hl : l ∈ ls) (hr : Rch ls l.2.2 l.2.1) : ∀ n, l ∈ peels n ls := by
  have all : ∀ n, ∀ l ∈ ls, Rch ls l.2.2 l.2.1 → l ∈ peels n ls := by
    intro n
    induction n with
    | zero => intro l hl _; exact hl
    | succ n ih =>
      intro l hl hr
      refine List.mem_filter.mpr ⟨ih l hl hr, decide_eq_true ?_⟩
      -- the last step of the way back
      have last : ∀ {a b : Mo}, Rch ls a b → a = b ∨ ∃ k ∈ ls, k.2.2 = b ∧ Rch ls a k.2.1 := fun r => by
        cases r with
        | refl => exact .inl rfl
        | step r hk e => exact .inr ⟨_, hk, rfl, by rw [e]; exact r⟩
      rcases last hr with e | ⟨k, hk, e, rk⟩
      · exact List.mem_map.mpr ⟨l, ih l hl hr, e⟩
      · have kr : Rch ls k.2.2 k.2.1 := by
          rw [e]
          exact (Rch.step .refl hl rfl).trans rk
        exact List.mem_map.mpr ⟨k, ih k hk kr, e⟩
  exact fun n => all n l hl hr
theorem ring_iff (ls : List Lnk) : peels ls.length ls ≠ [] ↔ Ring ls := by
  constructor
  · intro h
    exact (fix_ring (peels_fix ls) h).mono fun l hl => peels_sub hl
  · rintro ⟨l, hl, r⟩ z
    have := ring_stays hl r ls.length
    rw [z] at this; cases this
theorem rch_snoc {ls : List Lnk} {x : Lnk} {a b : Mo} (r : Rch (ls ++ [x]) a b) : Rch ls a b ∨ (Rch ls a x.2.1 ∧ Rch ls x.2.2 b) := by
  induction r with
  | refl => exact .inl .refl
  | step r hk e ih =>
    rcases List.mem_append.mp hk with h | h
    · rcases ih with q | ⟨q1, q2⟩
      · exact .inl (.step q h e)
      · exact .inr ⟨q1, .step q2 h e⟩
    · rw [List.mem_singleton] at h
      subst h
      rcases ih with q | ⟨q1, q2⟩
      · exact .inr ⟨by rw [e]; exact q, .refl⟩
      · exact .inr ⟨q1, .refl⟩
/-- a new link closes a ring just where its end leads to its start -/
theorem ring_snoc {ls : List Lnk} {x : Lnk} (h : ¬ Ring ls) : Ring (ls ++ [x]) ↔ Rch ls x.2.2 x.2.1 := by
  constructor
  · rintro ⟨l, hl, r⟩
    rcases List.mem_append.mp hl with q | q
    · rcases rch_snoc r with z | ⟨z1, z2⟩
      · exact absurd ⟨l, q, z⟩ h
      · exact (Rch.step z2 q rfl).trans z1
    · rw [List.mem_singleton] at q
      subst q
      rcases rch_snoc r with z | ⟨z1, _⟩
      · exact z
      · exact z1
  · intro r
    exact ⟨x, List.mem_append_right _ (List.mem_singleton.mpr rfl), r.mono fun l hl => List.mem_append_left _ hl⟩
end KN

set_option Elab.async false
set_option linter.all false
set_option maxRecDepth 100000
set_option maxHeartbeats 4000000
namespace KN
open PySem L2
/-! ### lists of data -/
theorem depthAll_le {k : Nat} : ∀ {ds : List PyData}, (∀ d ∈ ds, d.depth ≤ k) → PyData.depthAll ds ≤ k
  | [], _ => by simp [PyData.depthAll]
  | d :: ds, h => by
    have h1 := h d List.mem_cons_self
    have h2 := depthAll_le (ds := ds) fun x hx => h x (List.mem_cons_of_mem _ hx)
    simp only [PyData.depthAll]; omega
theorem shaped_list {ds : List PyData} (h : ∀ d ∈ ds, okD d = true ∧ d.depth ≤ 60) : SeqAt.shaped (.list ds) = true := by
  refine shaped_of (by simpa [okD] using okDs_all.mpr fun d hd => (h d hd).1) ?_
  have := depthAll_le fun d hd => (h d hd).2
  simp only [PyData.depth]; omega
theorem depth_m (m : Mo) : (mD m).depth ≤ 60 := by simp [mD, PyData.depth, PyData.depthAll]
theorem depth_l (l : Lnk) : (lD l).depth ≤ 60 := by simp [lD, mD, PyData.depth, PyData.depthAll]
theorem shaped_ms (ns : List Mo) : SeqAt.shaped (.list (ns.map mD)) = true := shaped_list fun d hd => by
  obtain ⟨m, _, rfl⟩ := List.mem_map.mp hd; exact ⟨rfl, depth_m m⟩
theorem shaped_ls (ls : List Lnk) : SeqAt.shaped (.list (ls.map lD)) = true := shaped_list fun d hd => by
  obtain ⟨m, _, rfl⟩ := List.mem_map.mp hd; exact ⟨rfl, depth_l m⟩
theorem shaped_l (l : Lnk) : SeqAt.shaped (lD l) = true := shaped_of rfl (by have := depth_l l; omega)
theorem any_m (m : Mo) (ns : List Mo) : ((ns.map mD).any fun z => PyData.eqv z (mD m)) = decide (m ∈ ns) := by
  have h : ((ns.map mD).any fun z => PyData.eqv z (mD m)) = true ↔ m ∈ ns := by
    rw [any_eqv rfl (okDs_all.mpr fun d hd => by obtain ⟨x, _, rfl⟩ := List.mem_map.mp hd; rfl), List.mem_map]
    exact ⟨fun ⟨x, hx, e⟩ => by rw [mD_inj e] at hx; exact hx, fun h => ⟨m, h, rfl⟩⟩
  by_cases q : m ∈ ns
  · rw [decide_eq_true q]; exact h.mpr q
  · rw [decide_eq_false q]; exact Bool.eq_false_iff.mpr fun z => q (h.mp z)
theorem any_l (l : Lnk) (ls : List Lnk) : ((ls.map lD).any fun z => PyData.eqv z (lD l)) = decide (l ∈ ls) := by
  have h : ((ls.map lD).any fun z => PyData.eqv z (lD l)) = true ↔ l ∈ ls := by
    rw [any_eqv rfl (okDs_all.mpr fun d hd => by obtain ⟨x, _, rfl⟩ := List.mem_map.mp hd; rfl), List.mem_map]
    exact ⟨fun ⟨x, hx, e⟩ => by rw [lD_inj e] at hx; exact hx, fun h => ⟨l, h, rfl⟩⟩
  by_cases q : l ∈ ls
  · rw [decide_eq_true q]; exact h.mpr q
  · rw [decide_eq_false q]; exact Bool.eq_false_iff.mpr fun z => q (h.mp z)
/-- a part of a list read with its data -/
theorem Ls.get {K : PySem.W.Frag} {H : Hp} {a : Addr} {ds : List PyData} {xs : List V} {i : Nat} {x : V} (hx : xs[i]? = some x) (r : TpAll H xs ds) : ∃ d, ds[i]? = some d ∧ Tp H x d := r.getv hx

/-! ### what may be told to a book -/
def CanTell (rs : List Row) (r : Row) : Prop := MoOk r.mo ∧ r.mo ∉ rs.map Row.mo ∧ rs.length ≤ 60 ∧ match r with
  | .nm m rank ws ss like => NmOk rank ws ss like ∧ ∀ l, like = some l → ¬ mLt m l ∧ ∃ rk ws' ss' l', Row.nm l rk ws' ss' l' ∈ rs ∧ (if rank = 0 then decide (rk = 0) else decide (rk < rank)) = true
  | .ah m n o => ¬ mLt m n ∧ ¬ mLt m o ∧ n ≠ o ∧ ∃ rk, (∃ ws ss l, Row.nm n rk ws ss l ∈ rs) ∧ ∃ ws ss l, Row.nm o rk ws ss l ∈ rs
  | .ch m n z => ¬ mLt m n ∧ ∃ rk ws ss lk, Row.nm n rk ws ss lk ∈ rs ∧ z ∈ ss ∧ ∀ w ∈ ss, IsW w
  | .st m n _ => ¬ mLt m n ∧ n ∈ nms rs
def spTell (C : Addr) : Sp := fun vs H Q _ => ∃ (b : Addr) (v : V) (r : Row) (rs : List Row), vs = [.ref b, v] ∧ BookAt C H b rs ∧ Tp H v r.d ∧ CanTell rs r ∧ ∀ H', KD b H H' → BookAt C H' b (rs ++ [r]) → Q .non H'
def spBookOf (C : Addr) : Sp := fun vs H Q _ => ∃ (a : Addr) (rs : List Row), vs = [.ref a] ∧ Ls H a (rs.map Row.d) ∧ (∀ i r, rs[i]? = some r → CanTell (rs.take i) r) ∧ ∀ H' b, Same H H' → H b = none → BookAt C H' b rs → Q (.ref b) H'
def spThereR : Sp := fun vs H Q _ => ∃ (a : Addr) (v : V) (u : Option Mo) (rs : List Row), vs = [.ref a, v] ∧ Ls H a (rs.map Row.d) ∧ UpV H v u ∧ rs.length ≤ 500 ∧ ∀ (H' : Hp) (l : Addr), Same H H' → H l = none → Ls H' l ((rs.filter fun r => upB r.mo u).map Row.d) → Q (.ref l) H'
def spReached : Sp := fun vs H Q _ => ∃ (a st : Addr) (s : Mo) (ls : List Lnk), vs = [.ref a, .ref st] ∧ Ls H a (ls.map lD) ∧ ls.length ≤ 500 ∧ H st = some (.tup [.int s.1, .int s.2]) ∧
  ∀ (H' : Hp) (l : Addr) (ns : List Mo), Same H H' → Ls H' l (ns.map mD) → (∀ g, g ∈ ns ↔ Rch ls s g) → Q (.ref l) H'
def spAheadsR : Sp := fun vs H Q _ => ∃ (a : Addr) (v : V) (u : Option Mo) (rs : List Row), vs = [.ref a, v] ∧ Ls H a (rs.map Row.d) ∧ UpV H v u ∧ rs.length ≤ 64 ∧ ∀ (H' : Hp) (l : Addr), Same H H' → H l = none → Ls H' l ((ahF (rs.filter fun r => upB r.mo u)).map lD) → Q (.ref l) H'
def spRing : Sp := fun vs H Q _ => ∃ (a : Addr) (ls : List Lnk), vs = [.ref a] ∧ Ls H a (ls.map lD) ∧ ls.length ≤ 500 ∧ ∀ (H' : Hp) (k : Bool), Same H H' → (k = true ↔ Ring ls) → Q (.bl k) H'
/-- rows of a book as parts of a tuple -/
theorem Tp.tstr {H : Hp} {v : V} {ss : List Str} (h : Tp H v (.tuple (ss.map PyData.str))) : ∃ a, v = .ref a ∧ H a = some (.tup (ss.map V.str)) := by
  obtain ⟨a, xs, rfl, e, r⟩ := Tp.inv h
  rw [TpAll.of_strs r] at e
  exact ⟨a, rfl, e⟩
theorem Tp.up {H : Hp} {v : V} {u : Option Mo} (h : Tp H v (oD u)) : UpV H v u := by
  cases u with
  | none => cases h; rfl
  | some m => exact Tp.mo_inv h
section
variable {P : Program} {w : World} {K : PySem.W.Frag} {mg : Str → Option Value} {base : Heap} {C : Addr}
end
end KN


set_option Elab.async false
set_option linter.all false
set_option maxRecDepth 100000
set_option maxHeartbeats 4000000
namespace KN
open PySem L2
theorem cut_to {xs : List V} (k : Nat) : cutV xs none (some (k : Int)) = xs.take k := by
  unfold cutV
  rw [HT.sIx_none, HT.sIx_nat, List.drop_zero, Nat.sub_zero]
  rcases Nat.le_total k xs.length with h | h
  · rw [Nat.min_eq_left h]
  · rw [Nat.min_eq_right h, List.take_length, List.take_of_length_le h]
theorem cut_from {xs : List V} (k : Nat) : cutV xs (some (k : Int)) none = xs.drop k := by
  unfold cutV
  rw [HT.sIx_none, HT.sIx_nat]
  rcases Nat.le_total k xs.length with h | h
  · rw [Nat.min_eq_left h]; exact List.take_of_length_le (by rw [List.length_drop]; omega)
  · rw [Nat.min_eq_right h, Nat.sub_self, List.take_zero, List.drop_eq_nil_of_le h]
def spUntil : Sp := fun vs H Q _ => ∃ (p c : Addr) (b : Int) (a : Addr) (rs : List Row), vs = [.ref p, .ref a] ∧ Pen H p c b ∧ b ≤ 1000000000 ∧ Ls H a (rs.map Row.d) ∧ rs ≠ [] ∧ rs.length ≤ 500 ∧ ∀ H' v u, Kp p H H' → Pen H' p c (b + 2) → UpV H' v u → Q v H'
theorem pick_yes {α : Type} {H1 H' : Hp} {D : Addr} {Y : List α} {p : α → Bool} {g : α → PyData} {i : Nat} {r : α} {v : V} (hD : H1 D = none) (hl : Y.length ≤ 900) (P : Same H1 H' ∧ Ls H' D (((Y.take i).filter p).map g)) (hr : Y[i]? = some r) (q : p r = true) (tv : Tp H' v (g r)) :
    ∃ acc, H' D = some (.lst acc) ∧ acc.length < sizeLine ∧ (Same H1 (upd H' D (.lst (acc ++ [v]))) ∧ Ls (upd H' D (.lst (acc ++ [v]))) D (((Y.take (i + 1)).filter p).map g)) := by
  obtain ⟨s, xs, hx, rx⟩ := P
  have hxl : xs.length ≤ 900 := by rw [rx.len, List.length_map]; have := List.length_filter_le p (Y.take i); have := List.length_take_le' i Y; omega
  refine ⟨xs, hx, small1000 (by omega), fun c o ec => by rw [upd_ne (ne_of_none ec hD)]; exact s _ _ ec, _, upd_same, ?_⟩
  rw [filter_step hr, if_pos q, List.map_append]
  have tk : TK H' (upd H' D (.lst (xs ++ [v]))) := TK.put hx (by intro z; exact nofun)
  exact (rx.to tk).snoc (tv.to tk)
theorem pick_no {α : Type} {H1 H' : Hp} {D : Addr} {Y : List α} {p : α → Bool} {g : α → PyData} {i : Nat} {r : α} (P : Same H1 H' ∧ Ls H' D (((Y.take i).filter p).map g)) (hr : Y[i]? = some r) (q : ¬ p r = true) :
    Same H1 H' ∧ Ls H' D (((Y.take (i + 1)).filter p).map g) := by
  obtain ⟨s, xs, hx, rx⟩ := P
  exact ⟨s, xs, hx, by rw [filter_step hr, if_neg q, List.append_nil]; exact rx⟩
theorem pick_zero {α : Type} {H1 : Hp} {D : Addr} {Y : List α} {p : α → Bool} {g : α → PyData} (hD : H1 D = none) : Same H1 (upd H1 D (.lst [])) ∧ Ls (upd H1 D (.lst [])) D (((Y.take 0).filter p).map g) :=
  ⟨Same.new hD, [], upd_same, by rw [List.take_zero]; exact .nil⟩
/-- the data of a list, one by one -/
theorem data_at {α : Type} {H : Hp} {xs : List V} {Y : List α} {g : α → PyData} {i : Nat} {x : V} (rx : TpAll H xs (Y.map g)) (hi : xs[i]? = some x) : ∃ r, Y[i]? = some r ∧ Tp H x (g r) := by
  obtain ⟨d, hd, tx⟩ := rx.getv hi
  rw [List.getElem?_map] at hd
  cases q : Y[i]? with
  | none => rw [q] at hd; cases hd
  | some r => rw [q] at hd; cases hd; exact ⟨r, rfl, tx⟩
def stOf (n : Mo) : Row → Bool
  | .st _ q _ => decide (q = n)
  | _ => false
def strikesL (rs : List Row) (n : Mo) (u : Option Mo) (ow : Bool) : List Row := (rs.filter fun r => upB r.mo u).filter fun r => stOf n r && (wholeB r || !ow)
def spRowOf : Sp := fun vs H Q _ => ∃ (a an : Addr) (r : Row) (rs : List Row), vs = [.ref a, .ref an] ∧ Ls H a (rs.map Row.d) ∧ H an = some (.tup [.int r.mo.1, .int r.mo.2]) ∧ r ∈ rs ∧ (rs.map Row.mo).Nodup ∧ rs.length ≤ 500 ∧ ∀ H' x, Same H H' → Tp H' x r.d → Q x H'
def spStrikesL : Sp := fun vs H Q _ => ∃ (a an : Addr) (n : Mo) (v : V) (u : Option Mo) (ow : Bool) (rs : List Row), vs = [.ref a, .ref an, v, .bl ow] ∧ Ls H a (rs.map Row.d) ∧ H an = some (.tup [.int n.1, .int n.2]) ∧ UpV H v u ∧ rs.length ≤ 500 ∧
  ∀ (H' : Hp) (l : Addr), Same H H' → H l = none → Ls H' l ((strikesL rs n u ow).map fun r => mD r.mo) → Q (.ref l) H'
def rankL (rs : List Row) (rk : Int) (u : Option Mo) : List Row := (rs.filter fun r => upB r.mo u).filter (rankB (some rk))
def spOfRank : Sp := fun vs H Q _ => ∃ (a : Addr) (rk : Int) (v : V) (u : Option Mo) (rs : List Row), vs = [.ref a, .int rk, v] ∧ Ls H a (rs.map Row.d) ∧ UpV H v u ∧ rs.length ≤ 500 ∧
  ∀ (H' : Hp) (l : Addr), Same H H' → H l = none → Ls H' l ((rankL rs rk u).map fun r => mD r.mo) → Q (.ref l) H'
theorem one_row {rs : List Row} (nd : (rs.map Row.mo).Nodup) {r : Row} (h : r ∈ rs) : rs.filter (fun x => decide (x.mo = r.mo)) = [r] := by
  induction rs with
  | nil => cases h
  | cons x rs ih =>
    rw [List.map_cons, List.nodup_cons] at nd
    rcases List.mem_cons.mp h with rfl | h
    · rw [List.filter_cons_of_pos (by simp)]
      congr 1
      exact List.filter_eq_nil_iff.mpr fun y hy z => nd.1 (by rw [← of_decide_eq_true z]; exact List.mem_map.mpr ⟨y, hy, rfl⟩)
    · rw [List.filter_cons_of_neg (by
        rw [decide_eq_true_eq]; intro z
        exact nd.1 (by rw [z]; exact List.mem_map.mpr ⟨r, h, rfl⟩))]
      exact ih nd.2 h
def takersL (rs : List Row) (rk : Int) (u : Option Mo) (n : Mo) (ws : List Str) : List Row := (rankL rs rk u).filter (takes rs u n ws)
def spTakersL : Sp := fun vs H Q _ => ∃ (a an : Addr) (n : Mo) (rk : Int) (ws ss : List Str) (lk : Option Mo) (v : V) (u : Option Mo) (rs : List Row), vs = [.ref a, .ref an, v] ∧ Ls H a (rs.map Row.d) ∧ H an = some (.tup [.int n.1, .int n.2]) ∧ Row.nm n rk ws ss lk ∈ rs ∧ UpV H v u ∧ rs.length ≤ 500 ∧ (rs.map Row.mo).Nodup ∧ (∀ r ∈ rs, RowW r) ∧
  ∀ (H' : Hp) (l : Addr), Same H H' → H l = none → Ls H' l ((takersL rs rk u n ws).map fun r => mD r.mo) → Q (.ref l) H'
/-- no whole strike, told two ways -/
theorem strikes_nil {rs : List Row} {u : Option Mo} {m : Mo} : strikesL rs m u true = [] ↔ wholeB' rs u m = false := by
  unfold strikesL wholeB'
  rw [List.filter_filter, List.filter_eq_nil_iff, List.any_eq_false]
  refine forall_congr' fun r => forall_congr' fun hr => not_congr ?_
  have e : (stOf m r && (wholeB r || !true) && upB r.mo u) = (decide (m ∈ r.names) && (upB r.mo u && wholeB r)) := by
    cases r with
    | st q x wh =>
      show (decide (x = m) && (wh || false) && upB q u) = (decide (m ∈ [x]) && (upB q u && wh))
      by_cases h : x = m
      · rw [decide_eq_true h, decide_eq_true (by rw [h]; exact List.mem_singleton.mpr rfl)]
        cases wh <;> cases upB q u <;> rfl
      · rw [decide_eq_false h, decide_eq_false (fun z => h (List.mem_singleton.mp z).symm)]; rfl
    | nm q x y z t => show (false && _ && _) = (_ && (_ && false)); simp
    | ch q x y => show (false && _ && _) = (_ && (_ && false)); simp
    | ah q x y => show (false && _ && _) = (_ && (_ && false)); simp
  rw [e]
theorem mo_nil {α : Type} (Y : List α) (g : α → Mo) : PyData.eqv (.list (Y.map fun r => mD (g r))) (.list []) = decide (Y = []) := by
  cases Y with
  | nil => rfl
  | cons x xs => simp [PyData.eqv, PyData.eqvAll]
section
variable {P : Program} {w : World} {K : PySem.W.Frag} {mg : Str → Option Value} {base : Heap} {C : Addr}
end
end KN


set_option Elab.async false
set_option linter.all false
set_option maxRecDepth 100000
set_option maxHeartbeats 4000000
namespace KN
open PySem L2
theorem op_neDK {X : Cx} (K : PySem.W.Frag) (hu : X.A.units + 64 < cLine) (h : X.K = K := by rfl) : OpR X (compareOp .NotEq) (rNeD K) := by subst h; exact op_neD hu
theorem call_len_seqK {X : Cx} (K : PySem.W.Frag) (h : X.K = K := by rfl) : CallR X (.builtin "len") (fun xs H Q => ∃ p ys, xs = [.ref p] ∧ (SqL K H p ys ∨ SqT K H p ys) ∧ Q (.int ys.length) H) := by subst h; exact call_len_seq
theorem shareH {B S : Hp → Prop} {P : Prop} (h : (∀ H, S H → B H) → P) (g : ∀ H, S H → B H) : P := h g
theorem getD_some {α : Type} {xs : List α} {i : Nat} (d : α) (h : i < xs.length) : xs[i]? = some (xs.getD i d) := by
  rw [List.getD_eq_getElem?_getD, List.getElem?_eq_getElem h]; rfl
theorem str_at {ss : List Str} {r : Int} (h0 : 0 ≤ r) (h1 : r < ss.length) : atI (ss.map V.str) r = some (.str (ss.getD r.toNat "")) := by
  refine at_ofG h0 ?_
  rw [List.getElem?_map, getD_some ("" : Str) (by omega)]; rfl
theorem isW_at {ss : List Str} (h : ∀ s ∈ ss, IsW s) {r : Nat} (k : r < ss.length) : IsW (ss.getD r "") := h _ (List.mem_of_getElem? (getD_some ("" : Str) k))
theorem z3_at {d : Int} {r : Int} (h : 0 ≤ r) (k : r < 3) : ∃ f : Int, atI [V.int 0, V.int 0, V.int d] r = some (.int f) ∧ (f = 0 ∨ f = d) := by
  have : r = 0 ∨ r = 1 ∨ r = 2 := by omega
  rcases this with rfl | rfl | rfl
  · exact ⟨_, rfl, .inl rfl⟩
  · exact ⟨_, rfl, .inl rfl⟩
  · exact ⟨_, rfl, .inr rfl⟩
theorem Pen.kb {H H' : Hp} {p c : Addr} {b : Int} (h : Pen H p c b) (k : Kp p H H') : KB H H' :=
  let ⟨_, _, _, e1, _⟩ := h
  KB.kp k e1
theorem Ls.kp {H H' : Hp} {p c a : Addr} {b : Int} {ds : List PyData} (h : Ls H a ds) (pen : Pen H p c b) (k : Kp p H H') : Ls H' a ds :=
  let ⟨xs, e, r⟩ := h
  ⟨xs, k _ _ (pen.ne e) e, r.to (pen.tk k)⟩
/-- some texts of a lot, from a place on, round -/
def roundL (lot : List Str) (at_ : Int) (many : Nat) : List Str := (List.range many).map fun (j : Nat) => lot.getD ((at_ + (0 + (j : Int))) % (lot.length : Int)).toNat ""
theorem okD_nm {r : Row} (h : RowW r) (hn : r.isNm = true) : okD r.d = true ∧ r.d.depth ≤ 60 := by
  cases r with
  | nm m rk ws ss lk =>
    have h1 := okD_ws h.2.1
    have h2 := okD_ws h.2.2.1
    have h3 : PyData.strOk (Str.ofString "name") = true := by decide +kernel
    have h4 : okD (oD lk) = true := by cases lk <;> rfl
    have d1 := depth_ws ws
    have d2 := depth_ws ss
    have d3 : (oD lk).depth ≤ 2 := by cases lk <;> simp [oD, mD, PyData.depth, PyData.depthAll]
    refine ⟨?_, ?_⟩
    · show okDs [.str "name", mD m, .int rk, .tuple (ws.map PyData.str), .tuple (ss.map PyData.str), oD lk] = true
      simp only [okDs]
      rw [h1, h2, h4, okD_m]
      simp only [okD, h3]; rfl
    · show (PyData.tuple [.str "name", mD m, .int rk, .tuple (ws.map PyData.str), .tuple (ss.map PyData.str), oD lk]).depth ≤ 60
      have d4 : (mD m).depth ≤ 2 := by simp [mD, PyData.depth, PyData.depthAll]
      have := depthAll_le (k := 2) (ds := [.str "name", mD m, .int rk, .tuple (ws.map PyData.str), .tuple (ss.map PyData.str), oD lk]) fun d hd => by
        rcases List.mem_cons.mp hd with rfl | hd
        · simp [PyData.depth]
        rcases List.mem_cons.mp hd with rfl | hd
        · exact d4
        rcases List.mem_cons.mp hd with rfl | hd
        · simp [PyData.depth]
        rcases List.mem_cons.mp hd with rfl | hd
        · exact d1
        rcases List.mem_cons.mp hd with rfl | hd
        · exact d2
        rw [List.mem_singleton] at hd; subst hd; exact d3
      simp only [PyData.depth] at this ⊢; omega
  | _ => cases hn
theorem shaped_nms {N : List Row} (h : ∀ r ∈ N, RowW r ∧ r.isNm = true) : SeqAt.shaped (.list (N.map Row.d)) = true := shaped_list fun d hd => by
  obtain ⟨r, hr, rfl⟩ := List.mem_map.mp hd
  exact okD_nm (h r hr).1 (h r hr).2
theorem rows_nil (Y : List Row) : PyData.eqv (.list (Y.map Row.d)) (.list []) = decide (Y = []) := by
  cases Y with
  | nil => rfl
  | cons x xs => simp [PyData.eqv, PyData.eqvAll]
theorem share {B P : Prop} (h : B → P) (b : B) : P := h b
def ownB : Row → Bool
  | .nm _ _ _ ss _ => !decide (ss = [])
  | _ => false
def alikeB (n : Mo) (rk : Int) : Row → Bool
  | .nm m r _ _ _ => decide (r = rk) && !decide (m = n)
  | _ => false
structure Good (rs : List Row) : Prop where
  W : ∀ r ∈ rs, RowW r
  ok : ∀ r ∈ rs, MoOk r.mo
  rk : ∀ m rk ws ss lk, Row.nm m rk ws ss lk ∈ rs → 0 ≤ rk ∧ rk ≤ 5
  own : (∃ r ∈ rs, r.isNm = true) → ∃ m rk ws ss lk, Row.nm m rk ws ss lk ∈ rs ∧ ss ≠ []
theorem Good.add {rs : List Row} {r : Row} (G : Good rs) (hW : RowW r) (hok : MoOk r.mo) (hrk : ∀ m rk ws ss lk, r = Row.nm m rk ws ss lk → 0 ≤ rk ∧ rk ≤ 5)
    (hown : r.isNm = true → (∃ m rk ws ss lk, r = Row.nm m rk ws ss lk ∧ ss ≠ []) ∨ ∃ x ∈ rs, x.isNm = true) : Good (rs ++ [r]) := by
  refine ⟨fun x hx => ?_, fun x hx => ?_, fun m rk ws ss lk hx => ?_, ?_⟩
  · rcases List.mem_append.mp hx with h | h
    · exact G.W x h
    · rw [List.mem_singleton] at h; subst h; exact hW
  · rcases List.mem_append.mp hx with h | h
    · exact G.ok x h
    · rw [List.mem_singleton] at h; subst h; exact hok
  · rcases List.mem_append.mp hx with h | h
    · exact G.rk _ _ _ _ _ h
    · rw [List.mem_singleton] at h; exact hrk _ _ _ _ _ h.symm
  · rintro ⟨x, hx, hn⟩
    have old : (∃ x ∈ rs, x.isNm = true) → ∃ m rk ws ss lk, Row.nm m rk ws ss lk ∈ rs ++ [r] ∧ ss ≠ [] := fun h => by
      obtain ⟨m, rk, ws, ss, lk, h1, h2⟩ := G.own h
      exact ⟨m, rk, ws, ss, lk, List.mem_append_left _ h1, h2⟩
    rcases List.mem_append.mp hx with h | h
    · exact old ⟨x, h, hn⟩
    · rw [List.mem_singleton] at h; subst h
      rcases hown hn with ⟨m, rk, ws, ss, lk, e, h2⟩ | h
      · exact ⟨m, rk, ws, ss, lk, List.mem_append_right _ (by rw [e]; exact List.mem_singleton.mpr rfl), h2⟩
      · exact old h
theorem round_ok {lot : List Str} {at_ : Int} {many : Nat} (a0 : 0 ≤ at_) (m1 : 1 ≤ many) (m3 : many ≤ 3) (ll : lot.length = 6) (nd : lot.Nodup) (wl : ∀ s ∈ lot, IsW s) : SheetsOk (roundL lot at_ many) := by
  have hlen : (roundL lot at_ many).length = many := by unfold roundL; rw [List.length_map, List.length_range]
  have bnd : ∀ j : Nat, 0 ≤ (at_ + (0 + (j : Int))) % (lot.length : Int) ∧ (at_ + (0 + (j : Int))) % (lot.length : Int) < 6 := fun j => by rw [ll]; omega
  refine ⟨fun z => by rw [z] at hlen; simp at hlen; omega, by omega, ?_, fun s hs => ?_⟩
  · refine nd_of fun i j s u ij hi hj e => ?_
    subst e
    have hj' := (List.getElem?_eq_some_iff.mp hj).1
    rw [hlen] at hj'
    unfold roundL at hi hj
    rw [List.getElem?_map, List.getElem?_range (by omega)] at hi hj
    have e : lot.getD ((at_ + (0 + (i : Int))) % (lot.length : Int)).toNat ("" : Str) = lot.getD ((at_ + (0 + (j : Int))) % (lot.length : Int)).toNat ("" : Str) := (Option.some.inj hi).trans (Option.some.inj hj).symm
    have b1 := bnd i
    have b2 := bnd j
    have h1 := getD_some (xs := lot) ("" : Str) (i := ((at_ + (0 + (i : Int))) % (lot.length : Int)).toNat) (by omega)
    have h2 := getD_some (xs := lot) ("" : Str) (i := ((at_ + (0 + (j : Int))) % (lot.length : Int)).toNat) (by omega)
    rw [e] at h1
    obtain ⟨p1, q1⟩ := List.getElem?_eq_some_iff.mp h1
    obtain ⟨p2, q2⟩ := List.getElem?_eq_some_iff.mp h2
    have := (List.getElem_inj nd).mp (q1.trans q2.symm)
    rw [ll] at this b1 b2
    omega
  · unfold roundL at hs
    obtain ⟨j, _, rfl⟩ := List.mem_map.mp hs
    exact isW_at wl (by have := bnd j; omega)
def spRecord : Sp := fun vs H Q _ => ∃ (p c : Addr) (b : Int) (a am fa oa la : Addr) (m : Mo) (rs : List Row) (fs os lot : List Str), vs = [.ref p, .ref a, .ref am, .ref fa, .ref oa, .ref la] ∧ Pen H p c b ∧ b ≤ 100000000 ∧ Ls H a (rs.map Row.d) ∧ H am = some (.tup [.int m.1, .int m.2]) ∧
  H fa = some (.lst (fs.map V.str)) ∧ H oa = some (.lst (os.map V.str)) ∧ H la = some (.lst (lot.map V.str)) ∧ fs.length = 2 ∧ os.length = 3 ∧ lot.length = 6 ∧ lot.Nodup ∧ (∀ s ∈ fs, IsW s) ∧ (∀ s ∈ os, IsW s) ∧ (∀ s ∈ lot, IsW s) ∧ MoOk m ∧ rs.length ≤ 40 ∧ Good rs ∧ (∀ r ∈ rs, mLt r.mo m) ∧
  ∀ H' v r, Kp p H H' → Pen H' p c (b + 20) → Tp H' v r.d → r.mo = m → CanTell rs r → Good (rs ++ [r]) → Q v H'
section
variable {P : Program} {w : World} {K : PySem.W.Frag} {mg : Str → Option Value} {base : Heap}
end
end KN


set_option Elab.async false
set_option linter.all false
set_option maxRecDepth 100000
set_option maxHeartbeats 4000000
namespace KN
open PySem L2
structure Told (rs : List Row) : Prop where
  good : Good rs
  rise : Rise rs
  tell : ∀ i r, rs[i]? = some r → CanTell (rs.take i) r
  mo : ∀ r ∈ rs, MoS r.mo
theorem Told.nil : Told [] := ⟨⟨fun _ h => (by cases h), fun _ h => (by cases h), fun _ _ _ _ _ h => (by cases h), fun ⟨_, h, _⟩ => (by cases h)⟩, .nil, fun i r h => by simp at h, fun _ h => (by cases h)⟩
theorem tell_snoc {rs : List Row} {r : Row} (h : ∀ i x, rs[i]? = some x → CanTell (rs.take i) x) (k : CanTell rs r) : ∀ i x, (rs ++ [r])[i]? = some x → CanTell ((rs ++ [r]).take i) x := by
  intro i x hx
  by_cases q : i < rs.length
  · rw [List.getElem?_append_left q] at hx
    rw [List.take_append_of_le_length (by omega)]; exact h i x hx
  · rw [List.getElem?_append_right (by omega)] at hx
    have hl := (List.getElem?_eq_some_iff.mp hx).1
    rw [List.length_singleton] at hl
    have e : i = rs.length := by omega
    subst e
    rw [Nat.sub_self] at hx
    cases hx
    rw [List.take_left']; exact k; rfl
theorem rise_snoc {rs : List Row} {r : Row} (h : Rise rs) (k : ∀ x ∈ rs, mLt x.mo r.mo) : Rise (rs ++ [r]) :=
  List.pairwise_append.mpr ⟨h, List.pairwise_singleton _ _, fun a ha b hb => by rw [List.mem_singleton] at hb; subst hb; exact k a ha⟩
theorem Told.snoc {rs : List Row} {r : Row} (T : Told rs) (g : Good (rs ++ [r])) (k : CanTell rs r) (l : ∀ x ∈ rs, mLt x.mo r.mo) (m : MoS r.mo) : Told (rs ++ [r]) :=
  ⟨g, rise_snoc T.rise l, tell_snoc T.tell k, fun x hx => by
    rcases List.mem_append.mp hx with h | h
    · exact T.mo x h
    · rw [List.mem_singleton] at h; subst h; exact m⟩
theorem Told.named {rs : List Row} (T : Told rs) (h : rs ≠ []) : nms rs ≠ [] := by
  cases rs with
  | nil => exact absurd rfl h
  | cons r rs =>
    have h1 := T.tell 0 r rfl
    rw [List.take_zero] at h1
    cases r with
    | nm m rk ws ss lk => exact fun z => by have : m ∈ nms (Row.nm m rk ws ss lk :: rs) := row_nms List.mem_cons_self; rw [z] at this; cases this
    | ch m n z => obtain ⟨_, _, _, _, rk, ws, ss, lk, h2, _⟩ := h1; cases h2
    | st m n w => obtain ⟨_, _, _, _, h2⟩ := h1; cases h2
    | ah m n o => obtain ⟨_, _, _, _, _, _, rk, ⟨ws, ss, l, h2⟩, _⟩ := h1; cases h2
def spRecords : Sp := fun vs H Q _ => ∃ (p c : Addr) (b : Int) (la : Addr) (lot : List Str) (many : Int), vs = [.ref p, .ref la, .int many] ∧ Pen H p c b ∧ b ≤ 10000000 ∧ H la = some (.lst (lot.map V.str)) ∧ lot.length = 6 ∧ lot.Nodup ∧ (∀ s ∈ lot, IsW s) ∧ 1 ≤ many ∧ many ≤ 30 ∧
  ∀ (H' : Hp) (l : Addr) (rs : List Row), Kp p H H' → Pen H' p c (b + 1000) → H l = none → Ls H' l (rs.map Row.d) → Told rs → rs.length = many.toNat → Q (.ref l) H'
section
variable {P : Program} {w : World} {K : PySem.W.Frag} {mg : Str → Option Value} {base : Heap} {C : Addr}
end
end KN


set_option Elab.async false
set_option linter.all false
set_option maxRecDepth 100000
set_option maxHeartbeats 4000000
namespace KN
open PySem L2
theorem rise_perm : ∀ {a b : List Row}, a.Perm b → Rise a → Rise b → a = b
  | [], b, p, _, _ => (List.nil_perm.mp p).symm
  | x :: a, [], p, _, _ => absurd p.length_eq (by simp)
  | x :: a, y :: b, p, ha, hb => by
    have hx : x ∈ y :: b := p.mem_iff.mp List.mem_cons_self
    have hy : y ∈ x :: a := p.mem_iff.mpr List.mem_cons_self
    have e : x = y := by
      rcases List.mem_cons.mp hx with e | hx
      · exact e
      rcases List.mem_cons.mp hy with e | hy
      · exact e.symm
      exact absurd (((List.pairwise_cons.mp ha).1 y hy).trans ((List.pairwise_cons.mp hb).1 x hx)) mLt.irr
    subst e
    rw [rise_perm (List.Perm.cons_inv p) (List.pairwise_cons.mp ha).2 (List.pairwise_cons.mp hb).2]
theorem rise_nd {rs : List Row} (h : Rise rs) : (rs.map Row.mo).Nodup := List.pairwise_map.mpr (h.imp fun k e => by rw [e] at k; exact mLt.irr k)
theorem rise_sub {rs : List Row} (h : Rise rs) (p : Row → Bool) : Rise (rs.filter p) := List.Pairwise.sublist List.filter_sublist h
theorem st_eq {rs S : List Row} {n : Mo} {u : Option Mo} {ow : Bool} {g : Row → Bool} (rise : Rise rs) (sp : S.Perm (rs.filter fun r => decide (n ∈ r.names))) (riseS : Rise S) (hg : ∀ r, g r = (wholeB r || !ow)) :
    (S.filter fun r => upB r.mo u && decide (r.sort = ("strike" : Str)) && g r) = strikesL rs n u ow := by
  rw [rise_perm sp riseS (rise_sub rise _)]
  unfold strikesL
  rw [List.filter_filter, List.filter_filter]
  refine congrArg (fun p => rs.filter p) (funext fun r => ?_)
  rw [hg]
  have n1 : ¬ ("name" : Str) = "strike" := by decide +kernel
  have n2 : ¬ ("choice" : Str) = "strike" := by decide +kernel
  have n3 : ¬ ("ahead" : Str) = "strike" := by decide +kernel
  cases r with
  | st q x wh =>
    show (upB q u && decide (("strike" : Str) = "strike") && (wh || !ow) && decide (n ∈ [x])) = (decide (x = n) && (wh || !ow) && upB q u)
    rw [decide_eq_true (rfl : ("strike" : Str) = "strike")]
    by_cases h : x = n
    · rw [decide_eq_true h, decide_eq_true (by rw [h]; exact List.mem_singleton.mpr rfl)]
      cases upB q u <;> cases (wh || !ow) <;> rfl
    · rw [decide_eq_false h, decide_eq_false (fun z => h (List.mem_singleton.mp z).symm)]; simp
  | nm q x y z t =>
    show (upB q u && decide (("name" : Str) = "strike") && _ && _) = (false && _ && _)
    rw [decide_eq_false n1]; simp
  | ch q x y =>
    show (upB q u && decide (("choice" : Str) = "strike") && _ && _) = (false && _ && _)
    rw [decide_eq_false n2]; simp
  | ah q x y =>
    show (upB q u && decide (("ahead" : Str) = "strike") && _ && _) = (false && _ && _)
    rw [decide_eq_false n3]; simp
theorem tk_eq {rs S : List Row} {n : Mo} {u : Option Mo} {rk : Int} {ws : List Str} (rise : Rise rs) (sp : S.Perm rs) (riseS : Rise S) :
    ((S.filter fun r => upB r.mo u && rankB (some rk) r).filter (takes rs u n ws)) = takersL rs rk u n ws := by
  rw [rise_perm sp riseS rise]
  unfold takersL rankL
  rw [List.filter_filter (p := rankB (some rk))]
  exact congrArg (fun p => (rs.filter p).filter (takes rs u n ws)) (funext fun r => Bool.and_comm _ _)
/-- the first of some rows, or none -/
def fstD (L : List Row) : PyData := oD (L.head?.map Row.mo)
theorem fst_ok (L : List Row) : okD (fstD L) = true ∧ (fstD L).depth ≤ 60 := by
  unfold fstD
  cases L with
  | nil => exact ⟨rfl, by simp [oD, PyData.depth]⟩
  | cons r L => exact ⟨rfl, depth_m r.mo⟩
theorem okD_fst (Ls3 : List (List Row)) : okD (.list (Ls3.map fstD)) = true := by
  simp only [okD]
  exact okDs_all.mpr fun d hd => by obtain ⟨x, _, rfl⟩ := List.mem_map.mp hd; exact (fst_ok x).1
theorem shaped_fst (Ls3 : List (List Row)) : SeqAt.shaped (.list (Ls3.map fstD)) = true := shaped_list fun d hd => by
  obtain ⟨x, _, rfl⟩ := List.mem_map.mp hd; exact fst_ok x
end KN


set_option Elab.async false
set_option linter.all false
set_option maxRecDepth 100000
set_option maxHeartbeats 4000000
namespace KN
open PySem L2
/-! Sheets led to the kinds of a tree. -/
def grp (pl : List (Str × Nd)) (xs : List Str) (n : Nd) : List Str := xs.filter fun z => decide (kO pl z = some n)
def noW (pl : List (Str × Nd)) (xs : List Str) : List Str := xs.filter fun z => decide (kO pl z = none)
theorem grp_snoc (pl : List (Str × Nd)) (xs : List Str) (z : Str) (n : Nd) : grp pl (xs ++ [z]) n = grp pl xs n ++ if kO pl z = some n then [z] else [] := by
  unfold grp
  rw [List.filter_append]
  by_cases h : kO pl z = some n
  · rw [if_pos h]; simp [h]
  · rw [if_neg h]; simp [h]
theorem noW_snoc (pl : List (Str × Nd)) (xs : List Str) (z : Str) : noW pl (xs ++ [z]) = noW pl xs ++ if kO pl z = none then [z] else [] := by
  unfold noW
  rw [List.filter_append]
  by_cases h : kO pl z = none
  · rw [if_pos h]; simp [h]
  · rw [if_neg h]; simp [h]
/-- what the rows are -/
def rowV (pl : List (Str × Nd)) (ss : List Str) (a : Addr) (n : Nd) : List V := [.ref a, .int ((grp pl (sortS ss) n).length : Nat), .str ((grp pl (sortS ss) n).headD "")]
/-- the kinds that the sheets lie in, risen -/
structure KindsOf (pl : List (Str × Nd)) (ss : List Str) (ms : List Nd) : Prop where
  up : NUp ms
  nd : ms.Nodup
  mem : ∀ n, n ∈ ms ↔ ∃ z ∈ ss, kO pl z = some n
theorem KindsOf.one {pl : List (Str × Nd)} {ss : List Str} {ms ns : List Nd} (a : KindsOf pl ss ms) (b : KindsOf pl ss ns) : ms = ns :=
  nup_one ((List.perm_ext_iff_of_nodup a.nd b.nd).mpr fun n => (a.mem n).trans (b.mem n).symm) a.up b.up
structure LedAt (H : Hp) (r p q : Addr) (pl : List (Str × Nd)) (ss : List Str) (ms : List Nd) : Prop where
  tu : H r = some (.tup [.ref p, .ref q])
  ro : ∃ zs : List (Addr × Nd), zs.map Prod.snd = ms ∧ H p = some (.lst (zs.map fun z => V.ref z.1)) ∧ ∀ z ∈ zs, ∃ a, H z.1 = some (.tup (rowV pl ss a z.2)) ∧ NdA H a z.2
  no : H q = some (.lst ((noW pl (sortS ss)).map V.str))
  ks : KindsOf pl ss ms
def spLed (C : Addr) : Sp := fun vs H Q _ => ∃ (a t : Addr) (ss : List Str) (pl : List (Str × Nd)) (L : List (Nd × Option Nd)), vs = [.ref a, .ref t] ∧ (H a = some (.lst (ss.map V.str)) ∨ H a = some (.tup (ss.map V.str))) ∧ ss.length < 64 ∧ TreeAt C H t pl L ∧
  ∀ H' r p q ms, Same H H' → H r = none → H p = none → H q = none → LedAt H' r p q pl ss ms → Q (.ref r) H'
/-- the groups so far -/
structure Grps (Hb H : Hp) (d q : Addr) (pl : List (Str × Nd)) (xs : List Str) (gs : List (Nd × Addr)) : Prop where
  di : H d = some (.dT (gs.map fun g => (nK g.1, V.ref g.2)))
  n1 : (gs.map Prod.fst).Nodup
  n2 : (gs.map Prod.snd).Nodup
  nw : ∀ g ∈ gs, Hb g.2 = none
  li : ∀ g ∈ gs, H g.2 = some (.lst ((grp pl xs g.1).map V.str))
  mem : ∀ n, n ∈ gs.map Prod.fst ↔ ∃ z ∈ xs, kO pl z = some n
  no : H q = some (.lst ((noW pl xs).map V.str))
  kp : ∀ a o, a ≠ d → a ≠ q → Hb a = some o → H a = some o
  ln : gs.length ≤ xs.length
theorem gs_val {gs : List (Nd × Addr)} {n : Nd} {l : Addr} (nd : (gs.map Prod.fst).Nodup) (h : (n, l) ∈ gs) : valV (gs.map fun g => (nK g.1, V.ref g.2)) (nK n) = some (.ref l) := by
  induction gs with
  | nil => cases h
  | cons g gs ih =>
    rw [List.map_cons, List.nodup_cons] at nd
    rw [List.map_cons]
    rcases List.mem_cons.mp h with rfl | h
    · rw [valV_pos rfl]
    · rw [valV_neg (fun z => nd.1 (by rw [nK_inj z]; exact List.mem_map.mpr ⟨_, h, rfl⟩))]
      exact ih nd.2 h
theorem gs_no {gs : List (Nd × Addr)} {n : Nd} (h : n ∉ gs.map Prod.fst) : valV (gs.map fun g => (nK g.1, V.ref g.2)) (nK n) = none := by
  refine val_no fun m => h ?_
  obtain ⟨p, hp, e⟩ := List.mem_map.mp m
  obtain ⟨g, hg, rfl⟩ := List.mem_map.mp hp
  exact List.mem_map.mpr ⟨g, hg, nK_inj e⟩
theorem inj_of_nodup {α β : Type} {f : α → β} : ∀ {xs : List α}, (xs.map f).Nodup → ∀ {x y : α}, x ∈ xs → y ∈ xs → f x = f y → x = y
  | [], _, _, _, h, _, _ => by cases h
  | z :: xs, nd, x, y, hx, hy, e => by
    rw [List.map_cons, List.nodup_cons] at nd
    rcases List.mem_cons.mp hx with e1 | hx1
    · rcases List.mem_cons.mp hy with e2 | hy1
      · rw [e1, e2]
      · exact absurd (List.mem_map.mpr ⟨y, hy1, by rw [← e, e1]⟩) nd.1
    · rcases List.mem_cons.mp hy with e2 | hy1
      · exact absurd (List.mem_map.mpr ⟨x, hx1, by rw [e, e2]⟩) nd.1
      · exact inj_of_nodup nd.2 hx1 hy1 e
section
variable {P : Program} {w : World} {K : PySem.W.Frag} {mg : Str → Option Value} {base : Heap} {C : Addr}
end
end KN


set_option Elab.async false
set_option linter.all false
set_option maxRecDepth 100000
set_option maxHeartbeats 4000000
/-! Own rule: l.count(x), data of any depth. -/
namespace KN
open PySem PySem.Spec PyProof.Rows L2
def rCountD (K : PySem.W.Frag) : V → List V → Hp → VK → Prop := fun x xs H Q => ∃ (a : Addr) (y : V) (d : PyData) (ds : List PyData), x = V.ref a ∧ xs = [y] ∧ Dp K H (V.ref a) (.list ds) ∧ Dp K H y d ∧
  SeqAt.shaped (.list ds) = true ∧ SeqAt.shaped d = true ∧ Q (.int ((ds.countP fun z => PyData.eqv z d : Nat) : Int)) H
theorem mt_countD {X : Cx} (hu : X.A.units + 65 < cLine) : MtR X "list.count" (rCountD X.K) := by
  intro pins s σ H x xs v us Q I rx rxs h
  obtain ⟨a, y, d, ds, rfl, rfl, hl, hy, sl, sd, q⟩ := h
  cases rx
  cases rxs with
  | cons ry rt =>
    rename_i uy ut
    cases rt
    obtain ⟨bs, r1⟩ := Dp.reads I d y uy hy ry
    have hxs : PyData.canLayAll0 ds = true := SeqAt.canLay_of_shaped sl
    have hroom : X.A.units + 1 + min (PyData.depthAll ds) d.depth < cLine := room_in_shaped sd hu
    cases hl with
    | lst hs ha =>
      obtain ⟨its, rv, ⟨⟨cls, dd, data, sls⟩, n, ho, hc, hdn, hdt⟩, hlen⟩ := I.list hs
      simp only at hc hdt
      subst hc hdt
      obtain ⟨as, h4⟩ := Dp.readsAll I ds _ its ha rv
      have hmap : its.map (SeqAt.readOf s.heap) = ds := SeqAt.readsAll_map ds its as hxs h4
      have hcnt : its.countP (fun u => PyData.eqv (SeqAt.readOf s.heap u) d) = ds.countP fun z => PyData.eqv z d := by
        rw [← hmap, List.countP_map]; rfl
      refine call_meets PySem.F.slot_list_count ⟨_, ho, rfl⟩ PySem.F.entry_list_count (PySem.F.args_list_count_2 _ _)
        (SeqAt.list_countAt a its.toArray n dd sls uy (fun u => PyData.eqv (SeqAt.readOf s.heap u) d)) ⟨ho, SeqAt.items_eqAt (vs := its.toArray) (show ReadsAll s.heap its.toArray.toList ds as from h4) r1 hxs (SeqAt.canLay_of_shaped sd) hroom, ?_⟩
      show _
      rw [show its.toArray.toList = its from rfl, hcnt]
      exact ⟨.int ((ds.countP fun z => PyData.eqv z d : Nat) : Int), H, I.tok _, ⟨_, rfl⟩, q⟩
theorem mt_countDK {X : Cx} (K : PySem.W.Frag) (hu : X.A.units + 65 < cLine) (h : X.K = K := by rfl) : MtR X "list.count" (rCountD K) := by subst h; exact mt_countD hu
theorem pe_bmK {X : Cx} (K : PySem.W.Frag) {o e : Expr} {es : List Expr} {to : TE} {t : TA} {name : Str} {apos cpos : Pos} {T id : String} {r : V → List V → Hp → VK → Prop} (pa : PlainAttrs T) (slot : Slot T name id) (hty : typeOf (.builtin id) = pure (.type "method_descriptor")) (hm : MtR X id r) (ho : PE X o to) (ha : PA X (e :: es) t)
    (hbase : attributeBase o name X.env (eval o X.env) = eval o X.env := by rfl)
    (hfew : ((backTo cpos (starEach (e :: es) X.env)).all (fun x => !x.1) && (backToKw cpos (keywordEach [] X.env)).all (fun x => x.1.isSome)
      && decide ((e :: es).length + ([] : List Keyword).length + (if ([] : List Keyword).isEmpty then 0 else 1) < 30)) = true := by rfl)
    (hline : (apos.endLine == cpos.line) = true := by rfl) (hs : starEach (e :: es) X.env = (false, eval e X.env) :: starEach es X.env := by rfl) (hplain : (backTo cpos (starEach es X.env)).any (·.1) = false := by rfl) (h : X.K = K := by rfl) :
    PE X (.Call (.Attribute o name apos) (e :: es) [] cpos) (tBM K T r to t) := by subst h; exact pe_bm pa slot hty hm ho ha hbase hfew hline hs hplain
end KN

set_option Elab.async false
set_option linter.all false
set_option maxRecDepth 100000
set_option maxHeartbeats 4000000
namespace KN
open PySem L2
/-! What the law draws: words, a row turned. -/
def spPick : Sp := fun vs H Q _ => ∃ (p c l : Addr) (b : Int) (xs : List V), vs = [.ref p, .ref l] ∧ Pen H p c b ∧ b ≤ 100000000000 ∧ H l = some (.lst xs) ∧ xs ≠ [] ∧ xs.length ≤ 60 ∧ ∀ H' v, Kp p H H' → Pen H' p c (b + 1) → v ∈ xs → Q v H'
def spPickS : Sp := fun vs H Q _ => ∃ (p c : Addr) (b : Int), vs = [.ref p, .str letters] ∧ Pen H p c b ∧ b ≤ 100000000000 ∧ ∀ H' k, Kp p H H' → Pen H' p c (b + 1) → 97 ≤ k ∧ k ≤ 122 → Q (.str ⟨#[k]⟩) H'
def spWordsL : Sp := fun vs H Q _ => ∃ (p c : Addr) (b many : Int), vs = [.ref p, .int many] ∧ Pen H p c b ∧ b ≤ 1000000000 ∧ 0 ≤ many ∧ many ≤ 26 ∧
  ∀ (H' : Hp) (l : Addr) (ss : List Str), Kp p H H' → Pen H' p c (b + 16) → H l = none → H' l = some (.lst (ss.map V.str)) → ss.length = many.toNat → (∀ s ∈ ss, IsW s) → ss.Nodup → Q (.ref l) H'
def spTurned : Sp := fun vs H Q _ => ∃ (p c l : Addr) (b : Int) (ss : List Str), vs = [.ref p, .ref l] ∧ Pen H p c b ∧ b ≤ 1000000000 ∧ H l = some (.lst (ss.map V.str)) ∧ ss.length ≤ 60 ∧
  ∀ (H' : Hp) (r : Addr) (zs : List Str), Kp p H H' → Pen H' p c (b + 60) → H r = none → H' r = some (.lst (zs.map V.str)) → zs.Perm ss → Q (.ref r) H'
theorem map_eraseIdx {α β : Type} (f : α → β) : ∀ (xs : List α) (n : Nat), (xs.eraseIdx n).map f = (xs.map f).eraseIdx n
  | [], _ => rfl
  | _ :: _, 0 => rfl
  | x :: xs, n + 1 => by rw [List.eraseIdx_cons_succ, List.map_cons, List.map_cons, List.eraseIdx_cons_succ, map_eraseIdx f xs n]
section
variable {P : Program} {w : World} {K : PySem.W.Frag} {mg : Str → Option Value} {base : Heap}
theorem sc__law_pick : FnScope ["_law_pen_here", "_law_some"] ["_law_pen_here", "_law_some"] (defScope s__law_pick) := ⟨rfl, rfl, rfl, by decide +kernel, rfl, by decide +kernel, by decide +kernel⟩
theorem ok__law_pick {f : Addr} {fd : FuncData} (F : Fun K "_law_pick" "_law_pick" s__law_pick f fd) (m_len : mg "len" = none) (c__law_draw : C8.Cal P w K mg base 1 "_law_draw" spDraw []) : FnOk P w K mg base CX0 2 f fd ["_law_pen_here", "_law_some"] spPick := by
  refine F.ok sc__law_pick (fun vs H Q E h => ?_) (fun cdv A outer s H vs Q E hr h => ?_)
  · obtain ⟨p, c, l, b, xs, rfl, _⟩ := h; rfl
  · obtain ⟨p, c, l, b, xs, rfl, pen, hb, hl, hne, h60, k⟩ := h
    refine ⟨_, (pss_one (ps_ret (pe_ix ix_list (pv 1) (C8.pe_c c__law_draw hr (by decide) rfl (pa_cons (pv 0) (pa_cons (pe_callB call_len_seq (by rfl) m_len (by decide +kernel) (pa_cons (pv 1) pa_nil)) pa_nil))) (fun _ _ => rfl)))), ?_⟩
    have hpos : 0 < xs.length := List.length_pos_iff.mpr hne
    refine ⟨_, rfl, _, rfl, _, rfl, l, _, rfl, .inl (SqL.of hl), p, c, b, _, rfl, pen, by omega, by omega, by omega, fun H1 r k1 pen1 r0 r1 => ?_⟩
    have hl1 := k1 _ _ (pen.ne hl) hl
    obtain ⟨v, hv⟩ : ∃ v, xs[r.toNat]? = some v := ⟨_, List.getElem?_eq_getElem (by omega)⟩
    refine ⟨l, _, _, v, rfl, rfl, SqL.of hl1, at_of (j := r.toNat) (by omega) hv, ?_⟩
    exact k _ _ k1 pen1 (List.mem_of_getElem? hv)
theorem ok_s__law_pick {f : Addr} {fd : FuncData} (F : Fun K "_law_pick" "_law_pick" s__law_pick f fd) (m_len : mg "len" = none) (c__law_draw : C8.Cal P w K mg base 1 "_law_draw" spDraw []) : FnOk P w K mg base CX0 2 f fd ["_law_pen_here", "_law_some"] spPickS := by
  refine F.ok sc__law_pick (fun vs H Q E h => ?_) (fun cdv A outer s H vs Q E hr h => ?_)
  · obtain ⟨p, c, b, rfl, _⟩ := h; rfl
  · obtain ⟨p, c, b, rfl, pen, hb, k⟩ := h
    refine ⟨_, (pss_one (ps_ret (pe_ix ix_str (pv 1) (C8.pe_c c__law_draw hr (by decide) rfl (pa_cons (pv 0) (pa_cons (pe_callB call_len_str (by rfl) m_len (by decide +kernel) (pa_cons (pv 1) pa_nil)) pa_nil))) (fun _ _ => rfl)))), ?_⟩
    refine ⟨_, rfl, _, rfl, _, rfl, letters, rfl, by decide, p, c, b, _, rfl, pen, by omega, by decide, by decide, fun H1 r k1 pen1 r0 r1 => ?_⟩
    have r1' : r < 26 := r1
    refine ⟨_, _, _, rfl, rfl, by decide, letter_at r0 r1', ?_⟩
    exact k _ _ k1 pen1 ⟨by omega, by omega⟩
theorem sc__law_words : FnScope ["_law_pen_here", "_law_many", "_law_letters", "_law_tail", "_law_first", "_law_by", "_law_way", "_law_found", "_law_k", "_law_letter"] ["_law_pen_here", "_law_many"] (defScope s__law_words) := ⟨rfl, rfl, rfl, by decide +kernel, rfl, by decide +kernel, by decide +kernel⟩
theorem ok__law_words {f : Addr} {fd : FuncData} (F : Fun K "_law_words" "_law_words" s__law_words f fd) (m_range : mg "range" = none) (c__law_draw : C8.Cal P w K mg base 1 "_law_draw" spDraw []) (c__law_pick : C8.Cal P w K mg base 2 "_law_pick" spPickS []) : FnOk P w K mg base CX0 3 f fd ["_law_pen_here", "_law_many"] spWordsL := by
  refine F.ok sc__law_words (fun vs H Q E h => ?_) (fun cdv A outer s H vs Q E hr h => ?_)
  · obtain ⟨p, c, b, many, rfl, _⟩ := h; rfl
  · obtain ⟨p, c, b, many, rfl, pen, hb, m0, m1, k⟩ := h
    have hu := hu_of hr
    refine ⟨_, (pss_cons (ps_set (i := 2) sc__law_words.nd rfl (Or.inr rfl) pe_str)
      (pss_cons (ps_set (i := 3) sc__law_words.nd rfl (Or.inl rfl) (pe_join pe_str (pe_lc (own := [("_law_k", 8)]) (g := gName 8) (tt := tYes) rfl sc__law_words.nd (pi_range1 rfl m_range (pa_cons (C8.pe_c c__law_draw hr (by decide) rfl (pa_cons (pv 0) (pa_cons pe_int pa_nil))) pa_nil)) (blkOk_by (own := [("_law_k", 8)]) (N := ["_law_pen_here", "_law_many", "_law_letters", "_law_tail", "_law_first", "_law_by", "_law_way", "_law_found", "_law_k", "_law_letter"]) (sc := defScope s__law_words) (by decide +kernel)) (fun _ _ _ _ _ => pg_name (i := 8) sc__law_words.nd rfl (Or.inl rfl)) (fun _ _ _ _ _ => pts_nil) (fun _ _ _ _ _ => (C8.pe_c c__law_pick hr (by decide) rfl (pa_cons (pv 0) (pa_cons (pv 2) pa_nil)))))))
      (pss_cons (ps_par3 (i := 4) (j := 5) (l := 6) rfl sc__law_words.nd rfl rfl rfl (by decide) (by decide) (by decide) rfl rfl rfl (pa_cons (C8.pe_c c__law_draw hr (by decide) rfl (pa_cons (pv 0) (pa_cons pe_int pa_nil))) (pa_cons (pe_ix ix_list (pe_lst (pa_cons pe_int (pa_cons pe_int (pa_cons pe_int (pa_cons pe_int (pa_cons pe_int (pa_cons pe_int pa_nil))))))) (C8.pe_c c__law_draw hr (by decide) rfl (pa_cons (pv 0) (pa_cons pe_int pa_nil))) (fun _ _ => rfl)) (pa_cons (C8.pe_c c__law_draw hr (by decide) rfl (pa_cons (pv 0) (pa_cons pe_int pa_nil))) pa_nil))) (by rfl))
      (pss_cons (ps_set (i := 7) sc__law_words.nd rfl (Or.inl rfl) (pe_lst pa_nil))
      (pss_cons (ps_for PassesOwn.never rfl (pi_range1 rfl m_range (pa_cons (pv 1) pa_nil)) (pg_name (i := 8) sc__law_words.nd rfl (Or.inl rfl))
      (pss_cons (ps_set (i := 9) sc__law_words.nd rfl (Or.inl rfl) (pe_ix ix_str (pv 2) (pe_op op_mod (pe_op op_add (pv 4) (pe_op op_mul (pv 5) (pv 8))) pe_int) (fun _ _ => rfl)))
      (pss_one (ps_expr (pe_bm PySem.F.plainAttrs_list PySem.F.slot_list_append PySem.F.type_list_append mt_append (pv 7) (pa_cons (pe_ix ix_list (pe_lst (pa_cons (pe_op op_add_str (pv 9) (pv 3)) (pa_cons (pe_op op_add_str (pv 3) (pv 9)) (pa_cons (pe_op op_add_str (pe_slice sl_str (pv 3) po_none (po_some (pe_op op_mod (pv 8) pe_int))) (pv 9)) pa_nil)))) (pv 6) (fun _ _ => rfl)) pa_nil))))))
      (pss_one (ps_ret (pv 7)))))))), ?_⟩
    refine ⟨⟨_, rfl⟩, _, rfl, p, c, b, 12, rfl, pen, by omega, by decide, by decide, fun H1 r1 k1 pen1 r10 r11 => ?_⟩
    refine ⟨_, rfl, by omega, by omega, fun D hD => ?_⟩
    have nD := pen1.off hD
    refine lc_range (lo := 0) (n := r1.toNat) (fun i H' => Kp p H1 H' ∧ Pen H' p c (b + 1 + i) ∧ ∃ ss : List Str, H' D = some (.lst (ss.map V.str)) ∧ ss.length = i ∧ One ss)
      ⟨Kp.new hD, (pen1.put nD).up (by omega), [], upd_same, rfl, fun s hs => by cases hs⟩ ?_ ?_
    · rintro i H2 hi ⟨k2, pen2, ss, hs, hl, ho⟩
      refine ⟨rfl, _, rfl, _, rfl, p, c, _, rfl, pen2, by omega, fun H3 ch k3 pen3 hch => ?_⟩
      refine ⟨_, k3 _ _ nD.1 hs, by rw [List.length_map, hl]; exact small1000 (by omega), fun a o na e => ?_, (pen3.put nD).up (by omega), ss ++ [⟨#[ch]⟩], by rw [upd_same, List.map_append]; rfl, by rw [List.length_append, hl]; rfl, fun s hs => ?_⟩
      · rw [upd_ne (ne_of_none e hD)]
        exact k3 _ _ na (k2 _ _ na e)
      · rcases List.mem_append.mp hs with h | h
        · exact ho s h
        · rw [List.mem_singleton] at h
          subst h
          exact ⟨_, rfl, hch.1, hch.2⟩
    · rintro H2 ⟨k2, pen2, ss, hs, hl, ho⟩
      obtain ⟨hwl, hwc⟩ := ho.word
      have hw11 : (tl (Txt.join "" ss)).length ≤ 11 := by rw [hwl]; omega
      refine ⟨_, D, ss, rfl, rfl, .inl (SqL.of hs), ?_, ?_⟩
      · rw [ho.sum, show ("" : Str).length = 0 from rfl]; omega
      generalize Txt.join "" ss = W at hw11 hwc
      have k02 : Kp p H H2 := k1.trans k2
      refine ⟨_, rfl, p, c, _, 26, rfl, pen2, by omega, by decide, by decide, fun H4 first k4 pen4 f0 f1 => ?_⟩
      refine ⟨by show 6 ≤ sizeLine; decide, fun L hL => ?_⟩
      refine ⟨_, rfl, p, c, _, 6, rfl, pen4.put (pen4.off hL), by omega, by decide, by decide, fun H5 r5 k5 pen5 r50 r51 => ?_⟩
      obtain ⟨by_, eb, b0, b1, bodd⟩ := six_at r50 r51
      have nL := pen4.off hL
      refine ⟨L, _, _, _, rfl, rfl, SqL.of (k5 _ _ nL.1 upd_same), eb, _, rfl, p, c, _, 3, rfl, pen5, by omega, by decide, by decide, fun H6 way k6 pen6 w0 w1 => ?_⟩
      have k06 : Kp p H H6 := k02.trans (k4.trans ((Kp.new hL).trans (k5.trans k6)))
      refine ⟨_, _, _, rfl, ?_⟩
      refine ⟨Nat.zero_le _, fun F hF => ?_⟩
      have nF := pen6.off hF
      have hF0 : H F = none := k06.free nF.1 hF
      obtain ⟨g, g0, g1⟩ : ∃ g : List Nat → Option Nat, (way = 0 → g = List.head?) ∧ (way ≠ 0 → g = List.getLast?) := by
        by_cases q : way = 0
        · exact ⟨List.head?, fun _ => rfl, fun h => absurd q h⟩
        · exact ⟨List.getLast?, fun h => absurd h q, fun _ => rfl⟩
      refine ⟨_, rfl, _, rfl, by omega, by omega, ?_⟩
      refine for_range (lo := 0) (n := many.toNat) (fun i σ' H' => ∃ (v8 v9 : Option V) (ss : List Str), σ' = [some (.ref p), some (.int many), some (.str letters), some (.str W), some (.int first), some (.int by_), some (.int way), some (.ref F), v8, v9] ∧
          Kp p H6 H' ∧ Pen H' p c (b + 16) ∧ H' F = some (.lst (ss.map V.str)) ∧ ss.length = i ∧ (∀ s ∈ ss, IsW s) ∧ ∀ (j : Nat) (s : Str), ss[j]? = some s → g (tl s) = some (((first + by_ * (0 + (j : Int))) % 26).toNat + 97))
        ⟨none, none, [], rfl, Kp.new hF, (pen6.put nF).up (by omega), upd_same, rfl, (fun s hs => by cases hs), fun i s hi => by simp at hi⟩ ?_ ?_
      · rintro i σ7 H7 hi ⟨v8, v9, ss, rfl, k7, pen7, hs, hl, hw, hsh⟩
        have qm := mod_lt (x := first + by_ * (0 + (i : Int))) (m := 26) (by decide)
        have q4 := mod_lt (x := 0 + (i : Int)) (m := 4) (by decide)
        refine ⟨_, rfl, _, rfl, _, rfl, _, rfl, _, _, rfl, rfl, .inr (by constructor <;> omega), _, _, rfl, rfl, _, _, rfl, rfl, (by show (0 : Int) < 26; decide), _, _, _, rfl, rfl, by decide, letter_at qm.1 qm.2, ?_⟩
        generalize hch : ((first + by_ * (0 + (i : Int))) % 26).toNat + 97 = ch
        have lch : 97 ≤ ch ∧ ch ≤ 122 := by omega
        have hc0 : ∀ q : Str, (tl q).length ≤ 12 → q.length ≤ sizeLine := fun q hq => by rw [slen]; exact Nat.le_trans hq (by decide)
        have e2 : ∀ x y : Str, tl (x ++ y) = tl x ++ tl y := TL.tl_append
        have l1 : tl (⟨#[ch]⟩ : Str) = [ch] := rfl
        have small : ∀ x y : Str, (tl x).length + (tl y).length ≤ 24 → x.length + y.length ≤ sizeLine := fun x y h => by rw [slen, slen]; exact Nat.le_trans h (by decide)
        have lcut := len_cut W none (some ((0 + (i : Int)) % 4))
        refine ⟨_, rfl, .inl ⟨rfl, _, SqL.of hs⟩, _, rfl, _, rfl, _, _, rfl, rfl, small _ _ (by rw [l1]; simp only [List.length_singleton]; omega), _, rfl, _, rfl, _, _, rfl, rfl, small _ _ (by rw [l1]; simp only [List.length_singleton]; omega), _, rfl, _, rfl, _, _, rfl, rfl, (by show (0 : Int) < 4; decide), _, rfl, _, rfl, hc0 W (by omega), _, rfl, _, _, rfl, rfl, small _ _ (by rw [l1]; simp only [List.length_singleton]; omega), by show 3 ≤ sizeLine; decide, fun L3 hL3 => ?_⟩
        have nL3 := pen7.off hL3
        have hF7 : upd H7 L3 (.lst [V.str ((⟨#[ch]⟩ : Str) ++ W), .str (W ++ ⟨#[ch]⟩), .str (cutS W none (some ((0 + (i : Int)) % 4)) ++ ⟨#[ch]⟩)]) F = some (.lst (ss.map V.str)) := by rw [upd_ne (ne_of_none hs hL3)]; exact hs
        obtain ⟨wd, ew, ww, wg⟩ : ∃ wd : Str, atI [V.str ((⟨#[ch]⟩ : Str) ++ W), .str (W ++ ⟨#[ch]⟩), .str (cutS W none (some ((0 + (i : Int)) % 4)) ++ ⟨#[ch]⟩)] way = some (.str wd) ∧ IsW wd ∧ g (tl wd) = some ch := by
          have hl1 : Lt (tl (⟨#[ch]⟩ : Str)) := fun d hd => by rw [l1, List.mem_singleton] at hd; omega
          have : way = 0 ∨ way = 1 ∨ way = 2 := by omega
          rcases this with h | h | h
          · subst h
            refine ⟨(⟨#[ch]⟩ : Str) ++ W, rfl, ⟨?_, ?_, ?_⟩, ?_⟩
            · rw [e2, List.length_append, l1]; simp only [List.length_singleton]; omega
            · rw [e2, List.length_append, l1]; simp only [List.length_singleton]; omega
            · rw [e2]; exact hl1.app hwc
            · rw [g0 rfl, e2, l1]; rfl
          · subst h
            refine ⟨W ++ (⟨#[ch]⟩ : Str), rfl, ⟨?_, ?_, ?_⟩, ?_⟩
            · rw [e2, List.length_append, l1]; simp only [List.length_singleton]; omega
            · rw [e2, List.length_append, l1]; simp only [List.length_singleton]; omega
            · rw [e2]; exact Lt.app hwc hl1
            · rw [g1 (by decide), e2, l1, List.getLast?_concat]
          · subst h
            refine ⟨cutS W none (some ((0 + (i : Int)) % 4)) ++ (⟨#[ch]⟩ : Str), rfl, ⟨?_, ?_, ?_⟩, ?_⟩
            · rw [e2, List.length_append, l1]; simp only [List.length_singleton]; omega
            · rw [e2, List.length_append, l1]; simp only [List.length_singleton]; omega
            · rw [e2]; exact Lt.app (hwc.cut _ _) hl1
            · rw [g1 (by decide), e2, l1, List.getLast?_concat]
        refine ⟨_, rfl, L3, _, _, _, rfl, rfl, SqL.of upd_same, ew, F, _, _, rfl, rfl, hF7, by rw [List.length_map, hl]; exact small1000 (by omega), ?_⟩
        refine ⟨_, _, ss ++ [wd], rfl, fun a o na ea => ?_, (pen7.put nL3).put nF, by rw [upd_same, List.map_append]; rfl, by rw [List.length_append, hl]; rfl, fun s hs' => ?_, fun j s hj => ?_⟩
        · rw [upd_ne (ne_of_none ea hF), upd_ne (ne_of_none (k7 _ _ na ea) hL3)]
          exact k7 _ _ na ea
        · rcases List.mem_append.mp hs' with h | h
          · exact hw s h
          · rw [List.mem_singleton] at h
            subst h
            exact ww
        · by_cases q : j < ss.length
          · rw [List.getElem?_append_left q] at hj; exact hsh j s hj
          · rw [List.getElem?_append_right (by omega)] at hj
            have hj1 := (List.getElem?_eq_some_iff.mp hj).1
            rw [List.length_singleton] at hj1
            have ej : j = i := by omega
            rw [show j - ss.length = 0 by omega] at hj
            cases hj
            subst ej
            rw [wg, ← hch]
      · rintro σ7 H7 ⟨v8, v9, ss, rfl, k7, pen7, hs, hl, hw, hsh⟩
        refine ⟨_, rfl, k H7 F ss (k06.trans k7) pen7 hF0 hs hl hw (nd_of fun i j s u ij hi hj e => ?_)⟩
        subst e
        have e := (hsh i s hi).symm.trans (hsh j s hj)
        injection e with e
        have jl : j < ss.length := (List.getElem?_eq_some_iff.mp hj).1
        refine odd_ne (f := first) bodd (i := 0 + (i : Int)) (j := 0 + (j : Int)) (by omega) (by omega) (by omega) ?_
        have q1 := Int.emod_nonneg (first + by_ * (0 + (i : Int))) (by decide : (26 : Int) ≠ 0)
        have q2 := Int.emod_nonneg (first + by_ * (0 + (j : Int))) (by decide : (26 : Int) ≠ 0)
        omega
end
end KN


set_option Elab.async false
set_option linter.all false
set_option maxRecDepth 100000
set_option maxHeartbeats 4000000
namespace KN
open PySem L2
/-! Who bears a name. -/
theorem told_like {rs : List Row} (T : Told rs) {m : Mo} {rk : Int} {ws ss : List Str} {x : Mo} (h : Row.nm m rk ws ss (some x) ∈ rs) : mLt x m ∧ x ∈ nms rs := by
  obtain ⟨i, hi⟩ := List.mem_iff_getElem?.mp h
  obtain ⟨_, _, _, hn, hl⟩ := T.tell i _ hi
  obtain ⟨_, rk', ws', ss', l', hm, _⟩ := hl x rfl
  have hm' := List.mem_of_mem_take hm
  refine ⟨?_, row_nms hm'⟩
  obtain ⟨j, hj⟩ := List.mem_iff_getElem?.mp hm
  have hlt : j < i := by
    have := (List.getElem?_eq_some_iff.mp hj).1
    rw [List.length_take] at this; omega
  rw [List.getElem?_take_of_lt hlt] at hj
  exact List.pairwise_iff_getElem.mp T.rise j i (List.getElem?_eq_some_iff.mp hj).1 (List.getElem?_eq_some_iff.mp hi).1 hlt |> fun z => by
    have e1 := (List.getElem?_eq_some_iff.mp hj).2
    have e2 := (List.getElem?_eq_some_iff.mp hi).2
    rw [e1, e2] at z
    exact z
theorem told_own {rs : List Row} (T : Told rs) {m : Mo} {rk : Int} {ws ss : List Str} (h : Row.nm m rk ws ss none ∈ rs) : SheetsOk ss := by
  obtain ⟨i, hi⟩ := List.mem_iff_getElem?.mp h
  obtain ⟨_, _, _, hn, _⟩ := T.tell i _ hi
  obtain ⟨_, _, _, _, h | ⟨_, m, h, _⟩⟩ := hn
  · exact h.2.2
  · cases h
theorem told_ws {rs : List Row} (T : Told rs) {m : Mo} {rk : Int} {ws ss : List Str} {l : Option Mo} (h : Row.nm m rk ws ss l ∈ rs) : 0 ≤ rk ∧ rk ≤ 5 ∧ ws.length = (if rk = 0 then 2 else 1) ∧ (∀ w ∈ ws, IsW w) := by
  obtain ⟨i, hi⟩ := List.mem_iff_getElem?.mp h
  obtain ⟨_, _, _, hn, _⟩ := T.tell i _ hi
  exact ⟨hn.1, hn.2.1, hn.2.2.1, hn.2.2.2.1⟩
theorem told_ch {rs : List Row} (T : Told rs) {m n : Mo} {z : Str} (h : Row.ch m n z ∈ rs) : IsW z := by
  obtain ⟨i, hi⟩ := List.mem_iff_getElem?.mp h
  obtain ⟨_, _, _, _, rk, ws, ss, lk, _, h1, h2⟩ := T.tell i _ hi
  exact h2 z h1
theorem told_nd {rs : List Row} (T : Told rs) : (rs.map Row.mo).Nodup := rise_nd T.rise
def isAt (m : Mo) (r : Row) : Bool := r.isNm && decide (r.mo = m)
def likeOf (rs : List Row) (m : Mo) : Option Mo := match rs.find? (isAt m) with
  | some (.nm _ _ _ _ l) => l
  | _ => none
theorem find_row {rs : List Row} (nd : (rs.map Row.mo).Nodup) {m : Mo} {rk : Int} {ws ss : List Str} {l : Option Mo} (h : Row.nm m rk ws ss l ∈ rs) : rs.find? (isAt m) = some (.nm m rk ws ss l) := by
  induction rs with
  | nil => cases h
  | cons r rs ih =>
    rw [List.map_cons, List.nodup_cons] at nd
    rcases List.mem_cons.mp h with e | h
    · subst e
      rw [List.find?_cons_of_pos]
      simp [isAt, Row.isNm, Row.mo]
    · rw [List.find?_cons_of_neg]
      · exact ih nd.2 h
      · intro z
        unfold isAt at z
        rw [Bool.and_eq_true] at z
        have : r.mo = m := of_decide_eq_true z.2
        exact nd.1 (List.mem_map.mpr ⟨_, h, this.symm⟩)
theorem likeOf_eq {rs : List Row} (nd : (rs.map Row.mo).Nodup) {m : Mo} {rk : Int} {ws ss : List Str} {l : Option Mo} (h : Row.nm m rk ws ss l ∈ rs) : likeOf rs m = l := by
  unfold likeOf; rw [find_row nd h]
def sheetsOf (rs : List Row) (m : Mo) : List Str := match rs.find? (isAt m) with
  | some (.nm _ _ _ ss _) => ss
  | _ => []
theorem sheetsOf_eq {rs : List Row} (nd : (rs.map Row.mo).Nodup) {m : Mo} {rk : Int} {ws ss : List Str} {l : Option Mo} (h : Row.nm m rk ws ss l ∈ rs) : sheetsOf rs m = ss := by
  unfold sheetsOf; rw [find_row nd h]
def baseF (rs : List Row) : Nat → Mo → Mo
  | 0, m => m
  | f + 1, m => match likeOf rs m with
    | none => m
    | some x => baseF rs f x
def baseD (rs : List Row) (m : Mo) : Mo := baseF rs rs.length m
noncomputable def cntB (rs : List Row) (m : Mo) : Nat := by
  classical exact (rs.filter fun r => r.isNm && decide (mLt r.mo m)).length
theorem cnt_lt {rs : List Row} {x m : Mo} (hx : x ∈ nms rs) (h : mLt x m) : cntB rs x < cntB rs m := by
  classical
  unfold cntB
  obtain ⟨rk, ws, ss, l, hr⟩ := nms_row hx
  have key : ∀ ys : List Row, Row.nm x rk ws ss l ∈ ys → (ys.filter fun r => r.isNm && decide (mLt r.mo x)).length < (ys.filter fun r => r.isNm && decide (mLt r.mo m)).length := by
    have le : ∀ ys : List Row, (ys.filter fun r => r.isNm && decide (mLt r.mo x)).length ≤ (ys.filter fun r => r.isNm && decide (mLt r.mo m)).length := fun ys => by
      induction ys with
      | nil => exact Nat.le_refl _
      | cons r ys ih =>
        rw [List.filter_cons, List.filter_cons]
        by_cases q : (r.isNm && decide (mLt r.mo x)) = true
        · have q2 : (r.isNm && decide (mLt r.mo m)) = true := by
            rw [Bool.and_eq_true] at q ⊢
            exact ⟨q.1, decide_eq_true ((of_decide_eq_true q.2 : mLt r.mo x).trans h)⟩
          rw [if_pos q, if_pos q2]; simpa using ih
        · rw [if_neg q]
          by_cases q2 : (r.isNm && decide (mLt r.mo m)) = true
          · rw [if_pos q2]; simp only [List.length_cons]; omega
          · rw [if_neg q2]; exact ih
    intro ys hm
    induction ys with
    | nil => cases hm
    | cons r ys ih =>
      rw [List.filter_cons, List.filter_cons]
      rcases List.mem_cons.mp hm with e | hm
      · subst e
        rw [if_neg (by intro z; rw [Bool.and_eq_true] at z; exact mLt.irr (of_decide_eq_true z.2 : mLt x x)), if_pos (by rw [Bool.and_eq_true]; exact ⟨rfl, decide_eq_true (h : mLt x m)⟩)]
        have := le ys
        simp only [List.length_cons]; omega
      · by_cases q : (r.isNm && decide (mLt r.mo x)) = true
        · have q2 : (r.isNm && decide (mLt r.mo m)) = true := by
            rw [Bool.and_eq_true] at q ⊢
            exact ⟨q.1, decide_eq_true ((of_decide_eq_true q.2 : mLt r.mo x).trans h)⟩
          rw [if_pos q, if_pos q2]; have := ih hm; simp only [List.length_cons]; omega
        · rw [if_neg q]
          by_cases q2 : (r.isNm && decide (mLt r.mo m)) = true
          · rw [if_pos q2]; have := ih hm; simp only [List.length_cons]; omega
          · rw [if_neg q2]; exact ih hm
  exact key rs hr
theorem cnt_le (rs : List Row) (m : Mo) : cntB rs m ≤ rs.length := by
  classical
  unfold cntB; exact List.length_filter_le _ _
theorem base_in {rs : List Row} (T : Told rs) : ∀ {f : Nat} {m : Mo}, m ∈ nms rs → cntB rs m ≤ f → baseF rs f m ∈ nms rs ∧ likeOf rs (baseF rs f m) = none
  | 0, m, hm, hc => by
    obtain ⟨rk, ws, ss, l, hr⟩ := nms_row hm
    refine ⟨hm, ?_⟩
    show likeOf rs m = none
    rw [likeOf_eq (told_nd T) hr]
    cases l with
    | none => rfl
    | some x =>
      have := cnt_lt (told_like T hr).2 (told_like T hr).1
      omega
  | f + 1, m, hm, hc => by
    obtain ⟨rk, ws, ss, l, hr⟩ := nms_row hm
    have e := likeOf_eq (told_nd T) hr
    show (match likeOf rs m with | none => m | some x => baseF rs f x) ∈ nms rs ∧ likeOf rs (match likeOf rs m with | none => m | some x => baseF rs f x) = none
    rw [e]
    cases l with
    | none => exact ⟨hm, e⟩
    | some x =>
      have h := told_like T hr
      have := cnt_lt h.2 h.1
      exact base_in T h.2 (by omega)
theorem base_row {rs : List Row} (T : Told rs) {m : Mo} (hm : m ∈ nms rs) : ∃ rk ws ss, Row.nm (baseD rs m) rk ws ss none ∈ rs ∧ sheetsOf rs (baseD rs m) = ss ∧ SheetsOk ss := by
  obtain ⟨h1, h2⟩ := base_in T hm (cnt_le rs m)
  obtain ⟨rk, ws, ss, l, hr⟩ := nms_row h1
  have e := likeOf_eq (told_nd T) hr
  have : l = none := e.symm.trans h2
  subst this
  exact ⟨rk, ws, ss, hr, sheetsOf_eq (told_nd T) hr, told_own T hr⟩
def chOf (n : Mo) (u : Option Mo) : Row → Bool
  | .ch m b _ => decide (b = n) && upB m u
  | _ => false
def sheetOf : Row → Option Str
  | .ch _ _ z => some z
  | _ => none
def chosenD (rs : List Row) (u : Option Mo) (n : Mo) : Option Str := match rs.find? (chOf (baseD rs n) u) with
  | some r => sheetOf r
  | none => match sheetsOf rs (baseD rs n) with
    | [z] => some z
    | _ => none
def bearD (rs : List Row) (u : Option Mo) (n : Mo) : List Str := match chosenD rs u n with
  | some z => [z]
  | none => sheetsOf rs (baseD rs n)
def spBase (C : Addr) : Sp := fun vs H Q _ => ∃ (b a : Addr) (n : Mo) (rs : List Row), vs = [.ref b, .ref a] ∧ BookAt C H b rs ∧ H a = some (.tup [.int n.1, .int n.2]) ∧ n ∈ nms rs ∧ Told rs ∧ ∀ x, Tp H x (mD (baseD rs n)) → Q x H
def sO : Option Str → PyData
  | none => .none
  | some z => .str z
def spChosen (C : Addr) : Sp := fun vs H Q _ => ∃ (b a : Addr) (n : Mo) (v : V) (u : Option Mo) (rs : List Row), vs = [.ref b, .ref a, v] ∧ BookAt C H b rs ∧ H a = some (.tup [.int n.1, .int n.2]) ∧ n ∈ nms rs ∧ upB n u = true ∧ UpV H v u ∧ Told rs ∧ rs.length < 64 ∧
  ∀ H' x, Same H H' → Tp H' x (sO (chosenD rs u n)) → Q x H'
def spBearers (C : Addr) : Sp := fun vs H Q _ => ∃ (b a : Addr) (n : Mo) (v : V) (u : Option Mo) (rs : List Row), vs = [.ref b, .ref a, v] ∧ BookAt C H b rs ∧ H a = some (.tup [.int n.1, .int n.2]) ∧ n ∈ nms rs ∧ upB n u = true ∧ UpV H v u ∧ Told rs ∧ rs.length < 64 ∧
  ∀ H' l (zs : List Str), Same H H' → H l = none → H' l = some (.lst (zs.map V.str)) → zs.Perm (bearD rs u n) → Q (.ref l) H'
section
variable {P : Program} {w : World} {K : PySem.W.Frag} {mg : Str → Option Value} {base : Heap} {C : Addr}
end
end KN


set_option Elab.async false
set_option linter.all false
set_option maxRecDepth 100000
set_option maxHeartbeats 4000000
/-! Own rules for dicts whose keys are a number and a tuple of words. -/
namespace KN
open PySem PySem.Spec PyProof.Rows L2
abbrev Wk := Int × List Str
def wkN (k : Wk) : NestedKey := .tup [.num k.1, .tup (k.2.map .text)]
theorem texts_inj : ∀ {a b : List Str}, a.map NestedKey.text = b.map NestedKey.text → a = b
  | [], [], _ => rfl
  | [], _ :: _, h => by cases h
  | _ :: _, [], h => by cases h
  | x :: a, y :: b, h => by
    rw [List.map_cons, List.map_cons] at h
    injection h with h1 h2
    injection h1 with h1
    rw [h1, texts_inj h2]
theorem wkN_inj {a b : Wk} (h : wkN a = wkN b) : a = b := by
  unfold wkN at h
  injection h with h
  injection h with h1 h2
  injection h2 with h2 _
  injection h1 with h1
  injection h2 with h2
  exact Prod.ext h1 (texts_inj h2)
def WkA (H : Hp) (b : Addr) (k : Wk) : Prop := ∃ wb, H b = some (.tup [.int k.1, .ref wb]) ∧ H wb = some (.tup (k.2.map V.str))
theorem WkA.to {H H' : Hp} {b : Addr} {k : Wk} (h : WkA H b k) (t : TK H H') : WkA H' b k := by
  obtain ⟨wb, h1, h2⟩ := h; exact ⟨wb, t _ _ h1, t _ _ h2⟩
section
variable {P : Program} {w : World} {H : Hp} {h : Heap}
theorem texts_are : ∀ {ws : List Str} {us : List Value}, Vals (ws.map V.str) us → NestedAll h (ws.map .text) us
  | [], _, .nil => .nil
  | x :: ws, _, .cons r t => by
    obtain ⟨tk, rfl⟩ := r
    exact .cons (.text x tk) (texts_are t)
theorem depth_texts : ∀ ws : List Str, NestedKey.depthAll (ws.map .text) = 0
  | [] => rfl
  | x :: ws => by rw [List.map_cons, NestedKey.depthAll, depth_texts ws]; rfl
theorem wk_is {b : Addr} {k : Wk} (ok : HOk P w H h) (x : WkA H b k) : (nestedKind P w).is h (wkN k) b := by
  obtain ⟨wb, h1, h2⟩ := x
  obtain ⟨_, its, rv, o, ho, hc, n, hd⟩ := ok b _ h1
  obtain ⟨_, its2, rv2, o2, ho2, hc2, n2, hd2⟩ := ok wb _ h2
  refine ⟨?_, ?_⟩
  · cases rv with
    | cons r1 t =>
      cases t with
      | cons r2 t =>
        cases t
        obtain ⟨tk, rfl⟩ := r1
        cases r2
        exact .tup ho hc hd (.cons (.int _ tk) (.cons (.tup ho2 hc2 hd2 (texts_are rv2)) .nil))
  · show (NestedKey.depthAll [.num k.1, .tup (k.2.map .text)]) + 1 ≤ 8
    simp only [NestedKey.depthAll, NestedKey.depth, depth_texts]; decide
end
/-- rows of such a dict -/
abbrev NRow := Wk × Addr × V
def NRel (p : NRow) (q : NestedKey × Addr × Value) : Prop := q.1 = wkN p.1 ∧ q.2.1 = p.2.1 ∧ RelV p.2.2 q.2.2
def valN (xs : List NRow) (k : Wk) : Option V := (xs.find? fun p => decide (p.1 = k)).map (·.2.2)
theorem nval {xs : List NRow} {zs : List (NestedKey × Addr × Value)} (r : Paired NRel xs zs) (k : Wk) : RelO (valN xs k) ((atKey zs (wkN k)).map (·.2)) := by
  unfold valN atKey
  induction r with
  | nil => exact True.intro
  | @cons p q ps qs f _ ih =>
    obtain ⟨f1, f2, f3⟩ := f
    by_cases e : p.1 = k
    · rw [List.find?_cons_of_pos (by rw [decide_eq_true_iff]; exact e), List.find?_cons_of_pos (by rw [decide_eq_true_iff, f1, e])]
      exact f3
    · rw [List.find?_cons_of_neg (by rw [decide_eq_true_iff]; exact e), List.find?_cons_of_neg (by rw [decide_eq_true_iff, f1]; exact fun z => e (wkN_inj z))]
      exact ih
def NDk (P : Program) (w : World) (h : Heap) (a : Addr) (xs : List NRow) : Prop := ∃ zs : List (NestedKey × Addr × Value), Paired NRel xs zs ∧ (zs.map (·.1)).Nodup ∧ xs.length ≤ sizeLine ∧ (a == sysModules) = false ∧
  ∃ o es ep, h.get? a = some o ∧ o.ExactDict ∧ o.data = .dict es ep ∧ es.toList = zs.map (entryOfKey (nestedKind P w))
def NDO (P : Program) (w : World) (a : Addr) (xs : List NRow) : HO := .ext fun h => NDk P w h a xs
theorem ndo_new {P : Program} {w : World} {H : Hp} {h : Heap} {a : Addr} {xs : List NRow} (x : NDk P w h a xs) : ObjOk P w H h a (NDO P w a xs) := by
  have ⟨zs, r, nd, hl, hs, o, es, ep, ho, q⟩ := x
  refine ⟨x, ⟨o, ho⟩, fun h1 h2 p k => ?_⟩
  have ⟨zs', r', nd', hl', hs', o', es', ep', ho', q'⟩ := p
  exact ⟨zs', r', nd', hl', hs', o', es', ep', k o' ho', q'⟩
def NDAt (P : Program) (w : World) (H : Hp) (a : Addr) (xs : List NRow) : Prop := H a = some (NDO P w a xs) ∧ ∀ p ∈ xs, WkA H p.2.1 p.1
theorem paired_mem2 {α β : Type} {F : α → β → Prop} : ∀ {xs : List α} {ys : List β}, Paired F xs ys → ∀ y ∈ ys, ∃ x ∈ xs, F x y
  | _, _, .nil, y, h => by cases h
  | _, _, .cons f t, y, h => by
    rcases List.mem_cons.mp h with e | h
    · subst e; exact ⟨_, List.mem_cons_self, f⟩
    · obtain ⟨x, hx, g⟩ := paired_mem2 t y h
      exact ⟨x, List.mem_cons_of_mem _ hx, g⟩
section
variable {X : Cx} {pins : List (Addr × Obj)} {σ : L2.St} {H : Hp} {s : Shared} {a : Addr} {xs : List NRow}
theorem nd_open (I : Inv X pins σ H s) (x : NDAt X.prog X.w H a xs) : ∃ zs, Paired NRel xs zs ∧ s.heap.DictOfH (nestedKind X.prog X.w) a zs ∧ xs.length ≤ sizeLine ∧ (a == sysModules) = false := by
  obtain ⟨h1, h2⟩ := x
  obtain ⟨zs, r, nd, hl, hs, o, es, ep, ho, hx, hd, he⟩ := (I.hok a _ h1).1
  refine ⟨zs, r, ⟨o, es, ep, ho, hx, hd, he, fun z hz => ?_, nd⟩, hl, hs⟩
  obtain ⟨p, hp, f1, f2, _⟩ := paired_mem2 r z hz
  rw [f1, f2]
  exact wk_is I.hok (h2 p hp)
end
/-- {}, to be such a dict -/
def tDNewN (P : Program) (w : World) : TE := fun _ H Q => ∀ p, H p = none → Q (.ref p) (upd H p (NDO P w p []))
theorem pe_dnewN {X : Cx} {pos : Pos} : PE X (.Dict [] [] pos) (tDNewN X.prog X.w) := ⟨fun pins s σ H Q I h =>
  wpAny_Dict_empty ⟨.ref s.heap.objs.size, _, I.laid (a := s.heap.objs.size) (o := NDO X.prog X.w s.heap.objs.size []) (t' := s.toks) (fun _ _ q => Heap.get?_push_of_some _ q) (Nat.le_refl _)
    (ndo_new ⟨[], .nil, List.nodup_nil, Nat.zero_le _, beq_eq_false_iff_ne.mpr (Ne.symm (Nat.ne_of_lt I.big)), _, #[], 0, Heap.get?_push_size _ rfl, ⟨rfl, rfl, rfl⟩, rfl, rfl⟩), rfl, h _ (I.hok.fresh (Nat.le_refl _))⟩⟩
theorem room8 {A : Around} (hu : A.units + 64 < cLine) {P : Program} {w : World} : (nestedKind P w).room A.in1 := by
  show A.in1.units + 8 < cLine
  have : A.in1.units = A.units + 1 := rfl
  omega
/-! ### d.setdefault(k, x), d.get(k, x) -/
def tSetdN (P : Program) (w : World) (td ty tx : TE) : TE := fun σ H Q => td σ H fun x H1 => ∃ (a : Addr) (xs0 : List NRow), x = .ref a ∧ NDAt P w H1 a xs0 ∧ ty σ H1 fun y H2 => tx σ H2 fun z H3 => ∃ (xs : List NRow) (k : Wk) (b : Addr), NDAt P w H3 a xs ∧ y = .ref b ∧ WkA H3 b k ∧ xs.length < sizeLine ∧
  (∀ v, valN xs k = some v → Q v H3) ∧ (valN xs k = none → Q z (upd H3 a (NDO P w a (xs ++ [(k, b, z)]))))
theorem pe_setdN {X : Cx} {o e f : Expr} {td ty tx : TE} {apos cpos : Pos} (hu : X.A.units + 64 < cLine) (ho : PE X o td) (he : PE X e ty) (hf : PE X f tx) (m : M2 X o "setdefault" apos e f cpos) : PE X (.Call (.Attribute o "setdefault" apos) [e, f] [] cpos) (tSetdN X.prog X.w td ty tx) := by
  refine ⟨fun pins s σ H Q I h => ?_⟩
  refine wpAny_Call_method m.base m.few m.line PySem.F.plainAttrs_dict PySem.F.slot_dict_setdefault PySem.F.type_dict_setdefault (thn (ho.run pins s σ H _ I h) fun u s1 ⟨x, H1, I1, rx, a, xs0, ex, d, q1⟩ => ?_)
  subst ex
  obtain rfl : u = Value.ref a := rx
  obtain ⟨z0, r0, dd0, lo0, hs0⟩ := nd_open I1 d
  refine ⟨dd0.typeIs, ?_, ?_⟩
  · obtain ⟨ob, es, ep, h1, h2, h3⟩ := dd0
    exact fun c e => by cases e; exact ⟨ob, h1, h2.2.1⟩
  rw [m.trees]
  refine Calls.callWith_builtin rfl (Calls.evalArgs_plain (Calls.spliced_cons (thn (he.run pins s1 σ H1 _ I1 q1) fun iv s2 ⟨y, H2, I2, ry, q2⟩ =>
    Calls.spliced_cons (thn (hf.run pins s2 σ H2 _ I2 q2) fun fv s3 ⟨z, H3, I3, rz, xs, k, b, ea, ey, eb, hl, q3, q4⟩ => Calls.spliced_nil ?_))))
  subst ey
  obtain rfl : iv = Value.ref b := ry
  obtain ⟨zs, rel, dd, lo, hsy⟩ := nd_open I3 ea
  have hxl : zs.length = xs.length := (Paired.length rel).symm
  have r := nval rel k
  refine call_setdefault_heap (room8 hu) (wk_is I3.hok eb) hsy dd (fun p hp => ?_) (fun hno g dd' hs => ?_) (by omega)
  · rw [hp] at r
    cases ev : valN xs k with
    | none => rw [ev] at r; exact (show False from r).elim
    | some v0 =>
      rw [ev] at r
      exact ⟨v0, H3, I3.tok _, r, q3 v0 ev⟩
  · have ev : valN xs k = none := by
      cases ev : valN xs k with
      | none => rfl
      | some v0 => rw [ev, hno] at r; exact (show False from r).elim
    rw [storedH_new hno] at dd'
    obtain ⟨ob, es, ep, hq, h2, h3, h4, _, h5⟩ := dd'
    refine ⟨z, upd H3 a (NDO X.prog X.w a (xs ++ [(k, b, z)])), d_write (ob := NDO X.prog X.w a (xs ++ [(k, b, z)])) I3 (by rw [ea.1]; exact True.intro) hs ⟨ob, hq⟩ (ndo_new ⟨_, rel.snoc ⟨rfl, rfl, rz⟩, h5, by rw [List.length_append]; exact hl, hsy, ob, es, ep, hq, h2, h3, h4⟩), rz, q4 ev⟩
def tDGetN (P : Program) (w : World) (td ty tx : TE) : TE := fun σ H Q => td σ H fun x H1 => ∃ (a : Addr) (xs0 : List NRow), x = .ref a ∧ NDAt P w H1 a xs0 ∧ ty σ H1 fun y H2 => tx σ H2 fun z H3 => ∃ (xs : List NRow) (k : Wk) (b : Addr), NDAt P w H3 a xs ∧ y = .ref b ∧ WkA H3 b k ∧ Q ((valN xs k).getD z) H3
theorem pe_dgetN {X : Cx} {o e f : Expr} {td ty tx : TE} {apos cpos : Pos} (hu : X.A.units + 64 < cLine) (ho : PE X o td) (he : PE X e ty) (hf : PE X f tx) (m : M2 X o "get" apos e f cpos) : PE X (.Call (.Attribute o "get" apos) [e, f] [] cpos) (tDGetN X.prog X.w td ty tx) := by
  refine ⟨fun pins s σ H Q I h => ?_⟩
  refine wpAny_Call_method m.base m.few m.line PySem.F.plainAttrs_dict PySem.F.slot_dict_get PySem.F.type_dict_get (thn (ho.run pins s σ H _ I h) fun u s1 ⟨x, H1, I1, rx, a, xs0, ex, d, q1⟩ => ?_)
  subst ex
  obtain rfl : u = Value.ref a := rx
  obtain ⟨z0, r0, dd0, lo0, hs0⟩ := nd_open I1 d
  refine ⟨dd0.typeIs, ?_, ?_⟩
  · obtain ⟨ob, es, ep, h1, h2, h3⟩ := dd0
    exact fun c e => by cases e; exact ⟨ob, h1, h2.2.1⟩
  rw [m.trees]
  refine Calls.callWith_builtin rfl (Calls.evalArgs_plain (Calls.spliced_cons (thn (he.run pins s1 σ H1 _ I1 q1) fun iv s2 ⟨y, H2, I2, ry, q2⟩ =>
    Calls.spliced_cons (thn (hf.run pins s2 σ H2 _ I2 q2) fun fv s3 ⟨z, H3, I3, rz, xs, k, b, ea, ey, eb, q3⟩ => Calls.spliced_nil ?_))))
  subst ey
  obtain rfl : iv = Value.ref b := ry
  obtain ⟨zs, rel, dd, lo, hsy⟩ := nd_open I3 ea
  have r := nval rel k
  refine getOr_keyed (room8 hu) (wk_is I3.hok eb) hsy ⟨zs, dd, rfl⟩ ?_
  rw [valueAt_pairsH]
  refine ⟨(valN xs k).getD z, H3, I3.tok _, ?_, q3⟩
  cases ev : valN xs k with
  | none =>
    cases ea : atKey zs (wkN k) with
    | none => exact rz
    | some p => rw [ev, ea] at r; exact (show False from r).elim
  | some v0 =>
    cases ea : atKey zs (wkN k) with
    | none => rw [ev, ea] at r; exact (show False from r).elim
    | some p => rw [ev, ea] at r; exact r
end KN
namespace KN
open PySem PySem.Spec PyProof.Rows L2
/-! ### d.setdefault(k, x) by a text or a number -/
def tSetdK (td ty tx : TE) : TE := fun σ H Q => td σ H fun x H1 => ∃ (a : Addr) (kvs0 : List (Key × V)), x = .ref a ∧ H1 a = some (.dK kvs0) ∧ ty σ H1 fun y H2 => tx σ H2 fun z H3 => ∃ (kvs : List (Key × V)) (k : Key), H3 a = some (.dK kvs) ∧ y = kV k ∧ kvs.length < sizeLine ∧
  (∀ v, valV kvs k = some v → Q v H3) ∧ (valV kvs k = none → Q z (upd H3 a (.dK (putK kvs k z))))
theorem pe_setdK {X : Cx} {o e f : Expr} {td ty tx : TE} {apos cpos : Pos} (ho : PE X o td) (he : PE X e ty) (hf : PE X f tx) (m : M2 X o "setdefault" apos e f cpos) : PE X (.Call (.Attribute o "setdefault" apos) [e, f] [] cpos) (tSetdK td ty tx) := by
  refine ⟨fun pins s σ H Q I h => ?_⟩
  refine wpAny_Call_method m.base m.few m.line PySem.F.plainAttrs_dict PySem.F.slot_dict_setdefault PySem.F.type_dict_setdefault (thn (ho.run pins s σ H _ I h) fun u s1 ⟨x, H1, I1, rx, a, kvs0, ex, d, q1⟩ => ?_)
  subst ex
  obtain rfl : u = Value.ref a := rx
  obtain ⟨z0, lo0, xs0, rel0, dd0⟩ := dk_of I1.hok d
  refine ⟨dd0.typeIs, ?_, ?_⟩
  · obtain ⟨ob, es, ep, h1, h2, h3⟩ := dd0
    exact fun c e => by cases e; exact ⟨ob, h1, h2.2.1⟩
  rw [m.trees]
  refine Calls.callWith_builtin rfl (Calls.evalArgs_plain (Calls.spliced_cons (thn (he.run pins s1 σ H1 _ I1 q1) fun iv s2 ⟨y, H2, I2, ry, q2⟩ =>
    Calls.spliced_cons (thn (hf.run pins s2 σ H2 _ I2 q2) fun fv s3 ⟨z, H3, I3, rz, kvs, k, ea, ey, hl, q3, q4⟩ => Calls.spliced_nil ?_))))
  subst ey
  obtain ⟨zz, lo, vs, rel, dd⟩ := dk_of I3.hok ea
  have r := rel.val k
  have hz : vs.length ≤ sizeLine := by rw [← rel.length]; exact zz
  have hl2 : (putK kvs k z).length ≤ sizeLine := by have := length_putK kvs k z; omega
  refine call_meetsIn PySem.F.slot_dict_setdefault dd.typeIs PySem.F.entry_dict_setdefault (PySem.F.args_dict_setdefault_3 _ _ _) (kt_meets_setdefault (mixKind X.prog X.w) a (kV_is ry) lo fv) ⟨vs, dd, hz, fun v hv => ?_, fun hno g dd' hs => ?_⟩
  · rw [hv] at r
    cases ev : valV kvs k with
    | none => rw [ev] at r; exact (show False from r).elim
    | some v0 =>
      rw [ev] at r
      exact ⟨v0, H3, I3.tok _, r, q3 v0 ev⟩
  · have ev : valV kvs k = none := by
      cases ev : valV kvs k with
      | none => rfl
      | some v0 => rw [ev, hno] at r; exact (show False from r).elim
    have heq : ∃ q, g.get? a = some q := let ⟨q, _, _, hq, _⟩ := dd'; ⟨q, hq⟩
    exact ⟨z, upd H3 a (.dK (putK kvs k z)), d_write I3 (by rw [ea]; exact True.intro) hs heq (dk_new hl2 lo (rel.put k rz) dd'), rz, q4 ev⟩
end KN
namespace KN
open PySem PySem.Spec PyProof.Rows L2
/-! ### x not in (): an empty tuple -/
def rNotInE (K : PySem.W.Frag) : R2 := fun x y H Q => ∃ p, y = .ref p ∧ SqT K H p [] ∧ Q (.bl true) H
theorem op_notInE {X : Cx} (K : PySem.W.Frag) (h : X.K = K := by rfl) : OpR X (compareOp .NotIn) (rNotInE K) := by
  subst h
  intro pins s σ H x y v u Q I rx ry h
  obtain ⟨p, rfl, hq, q⟩ := h
  cases ry
  obtain ⟨its, r, pl, hz⟩ := I.tuple hq
  cases r
  refine SeqAt.notIn_tupleAt (fun _ => false) pl (fun w hw => by simp at hw) ?_
  rw [show (!((([] : List Value).toArray).any fun _ => false)) = true from by simp]
  exact ⟨.bl true, H, I, rfl, q⟩
/-! ### x not in a list of data, or in an empty tuple -/
def rNotIn2 (K : PySem.W.Frag) : R2 := fun x y H Q => rNotInE K x y H Q ∨ rNotInD K x y H Q
theorem op_notIn2 {X : Cx} (K : PySem.W.Frag) (hu : X.A.units + 65 < cLine) (h : X.K = K := by rfl) : OpR X (compareOp .NotIn) (rNotIn2 K) := by
  intro pins s σ H x y v u Q I rx ry hh
  rcases hh with z | z
  · exact op_notInE K h pins s σ H x y v u Q I rx ry z
  · exact op_notInDK K hu h pins s σ H x y v u Q I rx ry z
end KN

set_option Elab.async false
set_option linter.all false
set_option maxRecDepth 100000
set_option maxHeartbeats 4000000
namespace KN
open PySem L2
/-! Names: what a book tells up to a moment, laid out. -/
/-- the list that stands under a key -/
def GV (Hf H : Hp) (vo : Option V) (ms : List Mo) : Prop := match vo with
  | none => ms = []
  | some v => ∃ l, v = .ref l ∧ Hf l = none ∧ Ls H l (ms.map mD)
theorem GV.mono {Hf H H' : Hp} {vo : Option V} {ms : List Mo} (h : GV Hf H vo ms) (k : ∀ l xs, vo = some (.ref l) → H l = some (.lst xs) → H' l = some (.lst xs)) (tk : TK H H') : GV Hf H' vo ms := by
  cases vo with
  | none => exact h
  | some v =>
    obtain ⟨l, rfl, h0, xs, hx, rx⟩ := h
    exact ⟨l, rfl, h0, xs, k l xs rfl hx, rx.to tk⟩
theorem GV.app {Hf H : Hp} {l : Addr} {ms : List Mo} {zs : List V} {x : V} {m : Mo} (h : GV Hf H (some (.ref l)) ms) (hz : H l = some (.lst zs)) (tx : Tp H x (mD m)) : GV Hf (upd H l (.lst (zs ++ [x]))) (some (.ref l)) (ms ++ [m]) := by
  obtain ⟨l', e, h0, xs, hx, rx⟩ := h
  cases e
  rw [hz] at hx; cases hx
  have tk : TK H (upd H l (.lst (zs ++ [x]))) := TK.put hz (by intro z; exact nofun)
  refine ⟨l, rfl, h0, _, upd_same, ?_⟩
  rw [List.map_append]
  exact (rx.to tk).snoc (tx.to tk)
/-- a family of such lists, apart from each other -/
structure Grp {κ : Type} (Hf H : Hp) (val : κ → Option V) (f : κ → List Mo) : Prop where
  at_ : ∀ k, GV Hf H (val k) (f k)
  inj : ∀ k k' v, val k = some v → val k' = some v → k = k'
theorem Grp.mono {κ : Type} {Hf H H' : Hp} {val : κ → Option V} {f : κ → List Mo} (g : Grp Hf H val f) (k : ∀ l xs c, val c = some (.ref l) → H l = some (.lst xs) → H' l = some (.lst xs)) (tk : TK H H') : Grp Hf H' val f :=
  ⟨fun c => (g.at_ c).mono (fun l xs e h => k l xs c e h) tk, g.inj⟩
theorem Grp.app {κ : Type} [DecidableEq κ] {Hf H : Hp} {val : κ → Option V} {f f' : κ → List Mo} (g : Grp Hf H val f) {c : κ} {l : Addr} {zs : List V} {x : V} {m : Mo} (hc : val c = some (.ref l)) (hz : H l = some (.lst zs)) (tx : Tp H x (mD m)) (h1 : f' c = f c ++ [m]) (h2 : ∀ k, k ≠ c → f' k = f k) :
    Grp Hf (upd H l (.lst (zs ++ [x]))) val f' := by
  refine ⟨fun k => ?_, g.inj⟩
  by_cases e : k = c
  · subst e
    have := g.at_ k
    rw [hc] at this ⊢
    rw [h1]
    exact this.app hz tx
  · rw [h2 k e]
    refine (g.at_ k).mono (fun l' xs e' h => ?_) (TK.put hz (by intro z; exact nofun))
    rw [upd_ne (fun z => by subst z; exact e (g.inj _ _ _ e' hc))]
    exact h
/-- a new list under a new key -/
theorem Grp.add {κ : Type} [DecidableEq κ] {Hf H H' : Hp} {val val' : κ → Option V} {f : κ → List Mo} (g : Grp Hf H val f) {c : κ} {l : Addr} (hl : H l = none) (hf : Hf l = none) (hc : val c = none) (hv : ∀ k, val' k = if k = c then some (.ref l) else val k) (hn : H' l = some (.lst [])) (k : ∀ l' xs, l' ≠ l → H l' = some (.lst xs) → H' l' = some (.lst xs)) (tk : TK H H') :
    Grp Hf H' val' f := by
  have ne : ∀ c', val c' ≠ some (.ref l) := fun c' e => by
    have := g.at_ c'
    rw [e] at this
    obtain ⟨l', e', _, xs, hx, _⟩ := this
    cases e'
    rw [hl] at hx; cases hx
  refine ⟨fun k' => ?_, fun a b v ha hb => ?_⟩
  · rw [hv]
    by_cases e : k' = c
    · subst e
      rw [if_pos rfl]
      have := g.at_ k'
      rw [hc] at this
      rw [show f k' = [] from this]
      exact ⟨l, rfl, hf, [], hn, .nil⟩
    · rw [if_neg e]
      exact (g.at_ k').mono (fun l' xs e' h => k l' xs (fun z => by subst z; exact ne _ e') h) tk
  · rw [hv] at ha hb
    by_cases ea : a = c
    · by_cases eb : b = c
      · rw [ea, eb]
      · rw [if_pos ea] at ha; rw [if_neg eb] at hb; cases ha; exact absurd hb (ne b)
    · by_cases eb : b = c
      · rw [if_neg ea] at ha; rw [if_pos eb] at hb; cases hb; exact absurd ha (ne a)
      · rw [if_neg ea] at ha; rw [if_neg eb] at hb; exact g.inj a b v ha hb
def inU (rs : List Row) (u : Option Mo) : List Row := rs.filter fun r => upB r.mo u
/-- up to what, and without what, names are told -/
abbrev UpB := Option Mo × List Mo
instance : Coe UpB (Option Mo) := ⟨Prod.fst⟩
def nmB (u : UpB) (r : Row) : Bool := r.isNm && !decide (r.mo ∈ u.2)
theorem nm_of {u : UpB} {r : Row} (h : nmB u r = true) : r.isNm = true := (Bool.and_eq_true_iff.mp h).1
theorem nb_of {u : UpB} {r : Row} (h : nmB u r = true) : r.mo ∉ u.2 := fun z => by
  have := (Bool.and_eq_true_iff.mp h).2
  rw [decide_eq_true z] at this; cases this
def tN (rs : List Row) (u : UpB) : List Row := (inU rs u).filter (nmB u)
def stB (n : Mo) : Row → Bool
  | .st _ q _ => decide (q = n)
  | _ => false
def strk (rs : List Row) (u : Option Mo) (n : Mo) : List Mo := ((inU rs u).filter (stB n)).map Row.mo
def standL (rs : List Row) (u : UpB) : List Row := (tN rs u).filter fun r => !wholeB' rs u r.mo
def wkB (k : Wk) : Row → Bool
  | .nm _ rk ws _ _ => decide (rk = k.1 ∧ ws = k.2)
  | _ => false
def bwL (rs : List Row) (u : UpB) (k : Wk) : List Mo := ((standL rs u).filter (wkB k)).map Row.mo
def ownB' (z : Str) : Row → Bool
  | .nm _ rk ws _ _ => decide (rk = 0 ∧ ws.getD 1 "" = z)
  | _ => false
def boL (rs : List Row) (u : UpB) (z : Str) : List Mo := ((standL rs u).filter (ownB' z)).map Row.mo
def f1 (b : V) : List (Str × V) := putF "_book" b []
def f2 (b u : V) : List (Str × V) := putF "_upto" u (f1 b)
def f3 (b u r : V) : List (Str × V) := putF "_records" r (f2 b u)
def f4 (b u r e : V) : List (Str × V) := putF "_bearing" e (f3 b u r)
def f5 (b u r e a : V) : List (Str × V) := putF "_aheads" a (f4 b u r e)
def f6 (b u r e a s : V) : List (Str × V) := putF "_strikes" s (f5 b u r e a)
def f7 (b u r e a s w : V) : List (Str × V) := putF "_by_words" w (f6 b u r e a s)
def f8 (b u r e a s w o : V) : List (Str × V) := putF "_by_own" o (f7 b u r e a s w)
section
variable {b u r e a s w o : V}
theorem nf_0_1 : ¬ (("_book" : Str) = "_upto") := by decide +kernel
theorem nf_0_2 : ¬ (("_book" : Str) = "_records") := by decide +kernel
theorem nf_1_2 : ¬ (("_upto" : Str) = "_records") := by decide +kernel
theorem nf_0_3 : ¬ (("_book" : Str) = "_bearing") := by decide +kernel
theorem nf_1_3 : ¬ (("_upto" : Str) = "_bearing") := by decide +kernel
theorem nf_2_3 : ¬ (("_records" : Str) = "_bearing") := by decide +kernel
theorem nf_0_4 : ¬ (("_book" : Str) = "_aheads") := by decide +kernel
theorem nf_1_4 : ¬ (("_upto" : Str) = "_aheads") := by decide +kernel
theorem nf_2_4 : ¬ (("_records" : Str) = "_aheads") := by decide +kernel
theorem nf_3_4 : ¬ (("_bearing" : Str) = "_aheads") := by decide +kernel
theorem nf_0_5 : ¬ (("_book" : Str) = "_strikes") := by decide +kernel
theorem nf_1_5 : ¬ (("_upto" : Str) = "_strikes") := by decide +kernel
theorem nf_2_5 : ¬ (("_records" : Str) = "_strikes") := by decide +kernel
theorem nf_3_5 : ¬ (("_bearing" : Str) = "_strikes") := by decide +kernel
theorem nf_4_5 : ¬ (("_aheads" : Str) = "_strikes") := by decide +kernel
theorem nf_0_6 : ¬ (("_book" : Str) = "_by_words") := by decide +kernel
theorem nf_1_6 : ¬ (("_upto" : Str) = "_by_words") := by decide +kernel
theorem nf_2_6 : ¬ (("_records" : Str) = "_by_words") := by decide +kernel
theorem nf_3_6 : ¬ (("_bearing" : Str) = "_by_words") := by decide +kernel
theorem nf_4_6 : ¬ (("_aheads" : Str) = "_by_words") := by decide +kernel
theorem nf_5_6 : ¬ (("_strikes" : Str) = "_by_words") := by decide +kernel
theorem nf_0_7 : ¬ (("_book" : Str) = "_by_own") := by decide +kernel
theorem nf_1_7 : ¬ (("_upto" : Str) = "_by_own") := by decide +kernel
theorem nf_2_7 : ¬ (("_records" : Str) = "_by_own") := by decide +kernel
theorem nf_3_7 : ¬ (("_bearing" : Str) = "_by_own") := by decide +kernel
theorem nf_4_7 : ¬ (("_aheads" : Str) = "_by_own") := by decide +kernel
theorem nf_5_7 : ¬ (("_strikes" : Str) = "_by_own") := by decide +kernel
theorem nf_6_7 : ¬ (("_by_words" : Str) = "_by_own") := by decide +kernel
theorem f1_0 : (f1 b).lookup ("_book" : Str) = some b := by
  unfold f1; rw [lookup_putF, if_pos rfl]
theorem f2_0 : (f2 b u).lookup ("_book" : Str) = some b := by
  unfold f2 f1; rw [lookup_putF, if_neg nf_0_1, lookup_putF, if_pos rfl]
theorem f2_1 : (f2 b u).lookup ("_upto" : Str) = some u := by
  unfold f2; rw [lookup_putF, if_pos rfl]
theorem f3_0 : (f3 b u r).lookup ("_book" : Str) = some b := by
  unfold f3 f2 f1; rw [lookup_putF, if_neg nf_0_2, lookup_putF, if_neg nf_0_1, lookup_putF, if_pos rfl]
theorem f3_1 : (f3 b u r).lookup ("_upto" : Str) = some u := by
  unfold f3 f2; rw [lookup_putF, if_neg nf_1_2, lookup_putF, if_pos rfl]
theorem f3_2 : (f3 b u r).lookup ("_records" : Str) = some r := by
  unfold f3; rw [lookup_putF, if_pos rfl]
theorem f4_0 : (f4 b u r e).lookup ("_book" : Str) = some b := by
  unfold f4 f3 f2 f1; rw [lookup_putF, if_neg nf_0_3, lookup_putF, if_neg nf_0_2, lookup_putF, if_neg nf_0_1, lookup_putF, if_pos rfl]
theorem f4_1 : (f4 b u r e).lookup ("_upto" : Str) = some u := by
  unfold f4 f3 f2; rw [lookup_putF, if_neg nf_1_3, lookup_putF, if_neg nf_1_2, lookup_putF, if_pos rfl]
theorem f4_2 : (f4 b u r e).lookup ("_records" : Str) = some r := by
  unfold f4 f3; rw [lookup_putF, if_neg nf_2_3, lookup_putF, if_pos rfl]
theorem f4_3 : (f4 b u r e).lookup ("_bearing" : Str) = some e := by
  unfold f4; rw [lookup_putF, if_pos rfl]
theorem f5_0 : (f5 b u r e a).lookup ("_book" : Str) = some b := by
  unfold f5 f4 f3 f2 f1; rw [lookup_putF, if_neg nf_0_4, lookup_putF, if_neg nf_0_3, lookup_putF, if_neg nf_0_2, lookup_putF, if_neg nf_0_1, lookup_putF, if_pos rfl]
theorem f5_1 : (f5 b u r e a).lookup ("_upto" : Str) = some u := by
  unfold f5 f4 f3 f2; rw [lookup_putF, if_neg nf_1_4, lookup_putF, if_neg nf_1_3, lookup_putF, if_neg nf_1_2, lookup_putF, if_pos rfl]
theorem f5_2 : (f5 b u r e a).lookup ("_records" : Str) = some r := by
  unfold f5 f4 f3; rw [lookup_putF, if_neg nf_2_4, lookup_putF, if_neg nf_2_3, lookup_putF, if_pos rfl]
theorem f5_3 : (f5 b u r e a).lookup ("_bearing" : Str) = some e := by
  unfold f5 f4; rw [lookup_putF, if_neg nf_3_4, lookup_putF, if_pos rfl]
theorem f5_4 : (f5 b u r e a).lookup ("_aheads" : Str) = some a := by
  unfold f5; rw [lookup_putF, if_pos rfl]
theorem f6_0 : (f6 b u r e a s).lookup ("_book" : Str) = some b := by
  unfold f6 f5 f4 f3 f2 f1; rw [lookup_putF, if_neg nf_0_5, lookup_putF, if_neg nf_0_4, lookup_putF, if_neg nf_0_3, lookup_putF, if_neg nf_0_2, lookup_putF, if_neg nf_0_1, lookup_putF, if_pos rfl]
theorem f6_1 : (f6 b u r e a s).lookup ("_upto" : Str) = some u := by
  unfold f6 f5 f4 f3 f2; rw [lookup_putF, if_neg nf_1_5, lookup_putF, if_neg nf_1_4, lookup_putF, if_neg nf_1_3, lookup_putF, if_neg nf_1_2, lookup_putF, if_pos rfl]
theorem f6_2 : (f6 b u r e a s).lookup ("_records" : Str) = some r := by
  unfold f6 f5 f4 f3; rw [lookup_putF, if_neg nf_2_5, lookup_putF, if_neg nf_2_4, lookup_putF, if_neg nf_2_3, lookup_putF, if_pos rfl]
theorem f6_3 : (f6 b u r e a s).lookup ("_bearing" : Str) = some e := by
  unfold f6 f5 f4; rw [lookup_putF, if_neg nf_3_5, lookup_putF, if_neg nf_3_4, lookup_putF, if_pos rfl]
theorem f6_4 : (f6 b u r e a s).lookup ("_aheads" : Str) = some a := by
  unfold f6 f5; rw [lookup_putF, if_neg nf_4_5, lookup_putF, if_pos rfl]
theorem f6_5 : (f6 b u r e a s).lookup ("_strikes" : Str) = some s := by
  unfold f6; rw [lookup_putF, if_pos rfl]
theorem f7_0 : (f7 b u r e a s w).lookup ("_book" : Str) = some b := by
  unfold f7 f6 f5 f4 f3 f2 f1; rw [lookup_putF, if_neg nf_0_6, lookup_putF, if_neg nf_0_5, lookup_putF, if_neg nf_0_4, lookup_putF, if_neg nf_0_3, lookup_putF, if_neg nf_0_2, lookup_putF, if_neg nf_0_1, lookup_putF, if_pos rfl]
theorem f7_1 : (f7 b u r e a s w).lookup ("_upto" : Str) = some u := by
  unfold f7 f6 f5 f4 f3 f2; rw [lookup_putF, if_neg nf_1_6, lookup_putF, if_neg nf_1_5, lookup_putF, if_neg nf_1_4, lookup_putF, if_neg nf_1_3, lookup_putF, if_neg nf_1_2, lookup_putF, if_pos rfl]
theorem f7_2 : (f7 b u r e a s w).lookup ("_records" : Str) = some r := by
  unfold f7 f6 f5 f4 f3; rw [lookup_putF, if_neg nf_2_6, lookup_putF, if_neg nf_2_5, lookup_putF, if_neg nf_2_4, lookup_putF, if_neg nf_2_3, lookup_putF, if_pos rfl]
theorem f7_3 : (f7 b u r e a s w).lookup ("_bearing" : Str) = some e := by
  unfold f7 f6 f5 f4; rw [lookup_putF, if_neg nf_3_6, lookup_putF, if_neg nf_3_5, lookup_putF, if_neg nf_3_4, lookup_putF, if_pos rfl]
theorem f7_4 : (f7 b u r e a s w).lookup ("_aheads" : Str) = some a := by
  unfold f7 f6 f5; rw [lookup_putF, if_neg nf_4_6, lookup_putF, if_neg nf_4_5, lookup_putF, if_pos rfl]
theorem f7_5 : (f7 b u r e a s w).lookup ("_strikes" : Str) = some s := by
  unfold f7 f6; rw [lookup_putF, if_neg nf_5_6, lookup_putF, if_pos rfl]
theorem f7_6 : (f7 b u r e a s w).lookup ("_by_words" : Str) = some w := by
  unfold f7; rw [lookup_putF, if_pos rfl]
theorem f8_0 : (f8 b u r e a s w o).lookup ("_book" : Str) = some b := by
  unfold f8 f7 f6 f5 f4 f3 f2 f1; rw [lookup_putF, if_neg nf_0_7, lookup_putF, if_neg nf_0_6, lookup_putF, if_neg nf_0_5, lookup_putF, if_neg nf_0_4, lookup_putF, if_neg nf_0_3, lookup_putF, if_neg nf_0_2, lookup_putF, if_neg nf_0_1, lookup_putF, if_pos rfl]
theorem f8_1 : (f8 b u r e a s w o).lookup ("_upto" : Str) = some u := by
  unfold f8 f7 f6 f5 f4 f3 f2; rw [lookup_putF, if_neg nf_1_7, lookup_putF, if_neg nf_1_6, lookup_putF, if_neg nf_1_5, lookup_putF, if_neg nf_1_4, lookup_putF, if_neg nf_1_3, lookup_putF, if_neg nf_1_2, lookup_putF, if_pos rfl]
theorem f8_2 : (f8 b u r e a s w o).lookup ("_records" : Str) = some r := by
  unfold f8 f7 f6 f5 f4 f3; rw [lookup_putF, if_neg nf_2_7, lookup_putF, if_neg nf_2_6, lookup_putF, if_neg nf_2_5, lookup_putF, if_neg nf_2_4, lookup_putF, if_neg nf_2_3, lookup_putF, if_pos rfl]
theorem f8_3 : (f8 b u r e a s w o).lookup ("_bearing" : Str) = some e := by
  unfold f8 f7 f6 f5 f4; rw [lookup_putF, if_neg nf_3_7, lookup_putF, if_neg nf_3_6, lookup_putF, if_neg nf_3_5, lookup_putF, if_neg nf_3_4, lookup_putF, if_pos rfl]
theorem f8_4 : (f8 b u r e a s w o).lookup ("_aheads" : Str) = some a := by
  unfold f8 f7 f6 f5; rw [lookup_putF, if_neg nf_4_7, lookup_putF, if_neg nf_4_6, lookup_putF, if_neg nf_4_5, lookup_putF, if_pos rfl]
theorem f8_5 : (f8 b u r e a s w o).lookup ("_strikes" : Str) = some s := by
  unfold f8 f7 f6; rw [lookup_putF, if_neg nf_5_7, lookup_putF, if_neg nf_5_6, lookup_putF, if_pos rfl]
theorem f8_6 : (f8 b u r e a s w o).lookup ("_by_words" : Str) = some w := by
  unfold f8 f7; rw [lookup_putF, if_neg nf_6_7, lookup_putF, if_pos rfl]
theorem f8_7 : (f8 b u r e a s w o).lookup ("_by_own" : Str) = some o := by
  unfold f8; rw [lookup_putF, if_pos rfl]
theorem f8_no {m : Str} (h0 : ¬ m = "_book") (h1 : ¬ m = "_upto") (h2 : ¬ m = "_records") (h3 : ¬ m = "_bearing") (h4 : ¬ m = "_aheads") (h5 : ¬ m = "_strikes") (h6 : ¬ m = "_by_words") (h7 : ¬ m = "_by_own") : (f8 b u r e a s w o).lookup m = none := by
  unfold f8 f7 f6 f5 f4 f3 f2 f1; rw [lookup_putF, if_neg h7, lookup_putF, if_neg h6, lookup_putF, if_neg h5, lookup_putF, if_neg h4, lookup_putF, if_neg h3, lookup_putF, if_neg h2, lookup_putF, if_neg h1, lookup_putF, if_neg h0]; rfl
end
structure NmsI (P : Program) (w : World) (C Cb : Addr) (H : Hp) (a dx b : Addr) (uv : V) (r be ah st bw bo : Addr) (rs : List Row) (u : UpB) : Prop where
  ob : H a = some (.ins C dx (f8 (.ref b) uv (.ref r) (.ref be) (.ref ah) (.ref st) (.ref bw) (.ref bo)))
  uv : UpV H uv u
  bk : BookAt Cb H b rs
  rc : ∃ kvs, H r = some (.dT kvs) ∧ EntR H kvs (tN rs u)
  br : ∃ kvs, H be = some (.dT kvs) ∧ Paired (fun q (x : Row) => q.1 = mK x.mo ∧ ∃ (l : Addr) (zs : List Str), q.2 = .ref l ∧ H l = some (.lst (zs.map V.str)) ∧ zs.Perm (bearD rs u x.mo)) kvs (tN rs u)
  ad : Ls H ah ((ahF (inU rs u)).map lD)
  sk : ∃ kvs Hf, H st = some (.dT kvs) ∧ Grp Hf H (fun n => valV kvs (mK n)) (strk rs u)
  wd : ∃ xs Hf, NDAt P w H bw xs ∧ Grp Hf H (valN xs) (bwL rs u)
  on : ∃ kvs Hf, H bo = some (.dK kvs) ∧ Grp Hf H (fun z => valV kvs (Sum.inr z : Key)) (boL rs u)
def NmsAt (P : Program) (w : World) (C Cb : Addr) (H : Hp) (a : Addr) (rs : List Row) (u : UpB) : Prop := ∃ dx b uv r be ah st bw bo, NmsI P w C Cb H a dx b uv r be ah st bw bo rs u
theorem NDAt.keep {P : Program} {w : World} {H H' : Hp} {a : Addr} {xs : List NRow} (x : NDAt P w H a xs) (s : Same H H') : NDAt P w H' a xs := ⟨s _ _ x.1, fun p hp => (x.2 p hp).to (TK.of s)⟩
theorem Grp.keep {κ : Type} {Hf H H' : Hp} {val : κ → Option V} {f : κ → List Mo} (g : Grp Hf H val f) (s : Same H H') : Grp Hf H' val f := g.mono (fun l xs c _ h => s _ _ h) (TK.of s)
theorem UpV.keep {H H' : Hp} {v : V} {u : Option Mo} (x : UpV H v u) (k : TK H H') : UpV H' v u := by
  cases u with
  | none => exact x
  | some m => obtain ⟨a, e, h⟩ := x; exact ⟨a, e, k _ _ h⟩
theorem NmsI.keep {P : Program} {w : World} {C Cb : Addr} {H H' : Hp} {a dx b : Addr} {uv : V} {r be ah st bw bo : Addr} {rs : List Row} {u : UpB} (N : NmsI P w C Cb H a dx b uv r be ah st bw bo rs u) (s : Same H H') : NmsI P w C Cb H' a dx b uv r be ah st bw bo rs u where
  ob := s _ _ N.ob
  uv := N.uv.keep (TK.of s)
  bk := N.bk.keep (KB.of s)
  rc := let ⟨kvs, h1, h2⟩ := N.rc; ⟨kvs, s _ _ h1, h2.to (TK.of s)⟩
  br := let ⟨kvs, h1, h2⟩ := N.br; ⟨kvs, s _ _ h1, L2.Paired.mapP h2 fun _ _ f => ⟨f.1, let ⟨l, zs, g1, g2, g3⟩ := f.2; ⟨l, zs, g1, s _ _ g2, g3⟩⟩⟩
  ad := N.ad.to s
  sk := let ⟨kvs, Hf, h1, h2⟩ := N.sk; ⟨kvs, Hf, s _ _ h1, h2.keep s⟩
  wd := let ⟨xs, Hf, h1, h2⟩ := N.wd; ⟨xs, Hf, h1.keep s, h2.keep s⟩
  on := let ⟨kvs, Hf, h1, h2⟩ := N.on; ⟨kvs, Hf, s _ _ h1, h2.keep s⟩
theorem NmsAt.keep {P : Program} {w : World} {C Cb : Addr} {H H' : Hp} {a : Addr} {rs : List Row} {u : UpB} (N : NmsAt P w C Cb H a rs u) (s : Same H H') : NmsAt P w C Cb H' a rs u := by
  obtain ⟨dx, b, uv, r, be, ah, st, bw, bo, N⟩ := N
  exact ⟨dx, b, uv, r, be, ah, st, bw, bo, N.keep s⟩
end KN


set_option Elab.async false
set_option linter.all false
set_option maxRecDepth 100000
set_option maxHeartbeats 4000000
namespace KN
open PySem L2
theorem BookAt.but {C : Addr} {H H' : Hp} {a b c dx : Addr} {fs : List (Str × V)} {rs : List Row} (B : BookAt C H b rs) (ha : H a = some (.ins c dx fs)) (n : ∀ e n, fs ≠ bf e n) (k : ∀ x o, x ≠ a → H x = some o → H' x = some o) : BookAt C H' b rs := by
  obtain ⟨dxb, e, nn, kvs, nkv, B⟩ := B
  have ne : ∀ x o, H x = some o → (∀ c d f, o ≠ .ins c d f) → x ≠ a := fun x o e n z => by subst z; rw [ha] at e; cases e; exact n _ _ _ rfl
  have tk : TK H H' := fun x xs e => k _ _ (ne _ _ e (by intro _ _ _; exact nofun)) e
  refine ⟨dxb, e, nn, kvs, nkv, ⟨k _ _ (fun z => ?_) B.ob, k _ _ (ne _ _ B.en (by intro _ _ _; exact nofun)) B.en, k _ _ (ne _ _ B.nb (by intro _ _ _; exact nofun)) B.nb, B.ne, B.er.to tk, B.nr.off fun u kvs _ _ e => k _ _ (ne _ _ e (by intro _ _ _; exact nofun)) e, B.nd, B.md, B.ok, B.cl⟩⟩
  have e := B.ob
  rw [z, ha] at e
  have e := Option.some.inj e
  injection e with _ _ e
  exact n _ _ e
def KA (a : Addr) (H H' : Hp) : Prop := ∀ x o, x ≠ a → H x = some o → H' x = some o
theorem KA.trans {a : Addr} {H H1 H2 : Hp} (x : KA a H H1) (y : KA a H1 H2) : KA a H H2 := fun b o n e => y b o n (x b o n e)
theorem KA.of {a : Addr} {H H' : Hp} (s : Same H H') : KA a H H' := fun b o _ e => s b o e
theorem KA.put {a : Addr} {H : Hp} {o : HO} : KA a H (upd H a o) := fun b u n e => by rw [upd_ne n]; exact e
theorem KA.tk {a c dx : Addr} {H H' : Hp} {fs : List (Str × V)} (x : KA a H H') (ha : H a = some (.ins c dx fs)) : TK H H' := fun b xs e => x b _ (fun z => by subst z; rw [ha] at e; cases e) e
theorem KA.ls {a c dx : Addr} {H H' : Hp} {fs : List (Str × V)} (x : KA a H H') (ha : H a = some (.ins c dx fs)) {l : Addr} {ds : List PyData} (h : Ls H l ds) : Ls H' l ds := by
  obtain ⟨xs, e, r⟩ := h
  exact ⟨xs, x _ _ (fun z => by subst z; rw [ha] at e; cases e) e, r.to (x.tk ha)⟩
theorem st_step {U : List Row} {i : Nat} {r : Row} (h : U[i]? = some r) (n : Mo) : ((U.take (i + 1)).filter (stB n)).map Row.mo = ((U.take i).filter (stB n)).map Row.mo ++ (if stB n r = true then [r.mo] else []) := by
  rw [filter_step h, List.map_append]
  by_cases q : stB n r = true
  · rw [if_pos q, if_pos q]; rfl
  · rw [if_neg q, if_neg q]; rfl
/-- the second loop: names by words, by their own word -/
structure L2I (P : Program) (w : World) (Hf H : Hp) (bw bo : Addr) (xs : List NRow) (okv : List (Key × V)) (fk : Wk → List Mo) (fz : Str → List Mo) : Prop where
  kp : ∀ x o, x ≠ bw → x ≠ bo → Hf x = some o → H x = some o
  wd : NDAt P w H bw xs
  on : H bo = some (.dK okv)
  gk : Grp Hf H (valN xs) fk
  gz : Grp Hf H (fun z => valV okv (Sum.inr z : Key)) fz
  sep : ∀ k z l, valN xs k = some (.ref l) → valV okv (Sum.inr z : Key) ≠ some (.ref l)
theorem L2I.fresh {P : Program} {w : World} {Hf H : Hp} {bw bo : Addr} {xs : List NRow} {okv : List (Key × V)} {fk : Wk → List Mo} {fz : Str → List Mo} {T : Addr} {o : HO} (L : L2I P w Hf H bw bo xs okv fk fz) (h : H T = none) : L2I P w Hf (upd H T o) bw bo xs okv fk fz where
  kp := fun x u n1 n2 e => Same.new h _ _ (L.kp x u n1 n2 e)
  wd := L.wd.keep (Same.new h)
  on := Same.new h _ _ L.on
  gk := L.gk.keep (Same.new h)
  gz := L.gz.keep (Same.new h)
  sep := L.sep
theorem nd_ne_lst {P : Program} {w : World} {a : Addr} {xs : List NRow} {zs : List V} : NDO P w a xs ≠ .lst zs := by intro z; cases z
theorem L2I.app1 {P : Program} {w : World} {Hf H : Hp} {bw bo : Addr} {xs : List NRow} {okv : List (Key × V)} {fk fk' : Wk → List Mo} {fz : Str → List Mo} (I : L2I P w Hf H bw bo xs okv fk fz) {k : Wk} {l : Addr} {zs : List V} {x : V} {m : Mo} (hv : valN xs k = some (.ref l)) (hz : H l = some (.lst zs)) (tx : Tp H x (mD m))
    (h1 : fk' k = fk k ++ [m]) (h2 : ∀ k', k' ≠ k → fk' k' = fk k') : L2I P w Hf (upd H l (.lst (zs ++ [x]))) bw bo xs okv fk' fz := by
  have tk : TK H (upd H l (.lst (zs ++ [x]))) := TK.put hz (by intro z; exact nofun)
  have g0 := I.gk.at_ k
  rw [hv] at g0
  obtain ⟨l', e', h0, _⟩ := g0
  cases e'
  have n1 : bw ≠ l := fun z => by subst z; have := I.wd.1; rw [hz] at this; cases this
  have n2 : bo ≠ l := fun z => by subst z; have := I.on; rw [hz] at this; cases this
  refine ⟨fun y o a b e => ?_, ⟨by rw [upd_ne n1]; exact I.wd.1, fun p hp => (I.wd.2 p hp).to tk⟩, by rw [upd_ne n2]; exact I.on, I.gk.app hv hz tx h1 h2, I.gz.mono (fun l2 ys c e h => ?_) tk, I.sep⟩
  · rw [upd_ne (fun z => by subst z; rw [h0] at e; cases e)]; exact I.kp y o a b e
  · rw [upd_ne (fun z => by subst z; exact I.sep k c _ hv e)]; exact h
theorem L2I.app2 {P : Program} {w : World} {Hf H : Hp} {bw bo : Addr} {xs : List NRow} {okv : List (Key × V)} {fk : Wk → List Mo} {fz fz' : Str → List Mo} (I : L2I P w Hf H bw bo xs okv fk fz) {k : Str} {l : Addr} {zs : List V} {x : V} {m : Mo} (hv : valV okv (Sum.inr k : Key) = some (.ref l)) (hz : H l = some (.lst zs)) (tx : Tp H x (mD m))
    (h1 : fz' k = fz k ++ [m]) (h2 : ∀ k', k' ≠ k → fz' k' = fz k') : L2I P w Hf (upd H l (.lst (zs ++ [x]))) bw bo xs okv fk fz' := by
  have tk : TK H (upd H l (.lst (zs ++ [x]))) := TK.put hz (by intro z; exact nofun)
  have g0 : GV Hf H (valV okv (Sum.inr k : Key)) (fz k) := I.gz.at_ k
  rw [hv] at g0
  obtain ⟨l', e', h0, _⟩ := g0
  cases e'
  have n1 : bw ≠ l := fun z => by subst z; have := I.wd.1; rw [hz] at this; cases this
  have n2 : bo ≠ l := fun z => by subst z; have := I.on; rw [hz] at this; cases this
  refine ⟨fun y o a b e => ?_, ⟨by rw [upd_ne n1]; exact I.wd.1, fun p hp => (I.wd.2 p hp).to tk⟩, by rw [upd_ne n2]; exact I.on, I.gk.mono (fun l2 ys c e h => ?_) tk, I.gz.app (c := k) hv hz tx h1 h2, I.sep⟩
  · rw [upd_ne (fun z => by subst z; rw [h0] at e; cases e)]; exact I.kp y o a b e
  · rw [upd_ne (fun z => by subst z; exact I.sep c k _ e hv)]; exact h
theorem valN_snoc {xs : List NRow} {k : Wk} {T : Addr} {v : V} (h : valN xs k = none) (k' : Wk) : valN (xs ++ [(k, T, v)]) k' = if k' = k then some v else valN xs k' := by
  unfold valN at h ⊢
  rw [List.find?_append]
  by_cases e : k' = k
  · subst e
    have : xs.find? (fun p => decide (p.1 = k')) = none := by
      cases f : xs.find? (fun p => decide (p.1 = k')) with
      | none => rfl
      | some p => rw [f] at h; cases h
    rw [this, if_pos rfl]; simp
  · rw [if_neg e]
    cases f : xs.find? (fun p => decide (p.1 = k')) with
    | none => simp; exact fun z => e z.symm
    | some p => rfl
theorem L2I.none_of {P : Program} {w : World} {Hf H : Hp} {bw bo : Addr} {xs : List NRow} {okv : List (Key × V)} {fk : Wk → List Mo} {fz : Str → List Mo} (I : L2I P w Hf H bw bo xs okv fk fz) {L : Addr} (h : H L = none) : Hf L = none := by
  cases e : Hf L with
  | none => rfl
  | some o =>
    by_cases a : L = bw
    · subst a; rw [I.wd.1] at h; cases h
    · by_cases b : L = bo
      · subst b; rw [I.on] at h; cases h
      · rw [I.kp L o a b e] at h; cases h
theorem GV.ne {Hf H : Hp} {vo : Option V} {ms : List Mo} (g : GV Hf H vo ms) {L : Addr} (h : H L = none) : vo ≠ some (.ref L) := fun e => by
  rw [e] at g
  obtain ⟨l, e', _, xs, hx, _⟩ := g
  cases e'
  rw [h] at hx; cases hx
theorem L2I.add1 {P : Program} {w : World} {Hf H : Hp} {bw bo : Addr} {xs : List NRow} {okv : List (Key × V)} {fk : Wk → List Mo} {fz : Str → List Mo} (I : L2I P w Hf H bw bo xs okv fk fz) {k : Wk} {T L : Addr} (hv : valN xs k = none) (hT : WkA H T k) (hL : H L = none) (nb : bw ≠ bo) :
    L2I P w Hf (upd (upd H L (.lst [])) bw (NDO P w bw (xs ++ [(k, T, .ref L)]))) bw bo (xs ++ [(k, T, .ref L)]) okv fk fz ∧ (upd (upd H L (.lst [])) bw (NDO P w bw (xs ++ [(k, T, .ref L)]))) L = some (.lst []) := by
  have sL : Same H (upd H L (.lst [])) := Same.new hL
  have nL : L ≠ bw := fun z => by subst z; rw [I.wd.1] at hL; cases hL
  have tk : TK (upd H L (.lst [])) (upd (upd H L (.lst [])) bw (NDO P w bw (xs ++ [(k, T, .ref L)]))) := TK.put (sL _ _ I.wd.1) (by intro z e; cases e)
  have keepl : ∀ l' ys, H l' = some (.lst ys) → (upd (upd H L (.lst [])) bw (NDO P w bw (xs ++ [(k, T, .ref L)]))) l' = some (.lst ys) := fun l' ys e => by
    rw [upd_ne (fun z => by subst z; rw [I.wd.1] at e; cases e)]; exact sL _ _ e
  have hLL : (upd (upd H L (.lst [])) bw (NDO P w bw (xs ++ [(k, T, .ref L)]))) L = some (.lst []) := by rw [upd_ne nL, upd_same]
  have hf := I.none_of hL
  refine ⟨⟨fun y o a b e => by rw [upd_ne a]; exact sL _ _ (I.kp y o a b e), ⟨upd_same, fun p hp => ?_⟩, by rw [upd_ne nb.symm]; exact sL _ _ I.on, I.gk.add hL hf hv (valN_snoc hv) hLL (fun l' ys _ e => keepl l' ys e) ((TK.of sL).trans tk), I.gz.mono (fun l ys c _ e => keepl l ys e) ((TK.of sL).trans tk), fun k' z l h1 h2 => ?_⟩, hLL⟩
  · rcases List.mem_append.mp hp with h | h
    · exact (I.wd.2 p h).to ((TK.of sL).trans tk)
    · rw [List.mem_singleton] at h; subst h; exact hT.to ((TK.of sL).trans tk)
  · rw [valN_snoc hv] at h1
    by_cases e : k' = k
    · rw [if_pos e] at h1
      cases h1
      exact (I.gz.at_ z).ne hL h2
    · rw [if_neg e] at h1
      exact I.sep k' z l h1 h2
theorem L2I.add2 {P : Program} {w : World} {Hf H : Hp} {bw bo : Addr} {xs : List NRow} {okv : List (Key × V)} {fk : Wk → List Mo} {fz : Str → List Mo} (I : L2I P w Hf H bw bo xs okv fk fz) {k : Str} {L : Addr} (hv : valV okv (Sum.inr k : Key) = none) (hL : H L = none) (nb : bw ≠ bo) :
    L2I P w Hf (upd (upd H L (.lst [])) bo (.dK (putK okv (Sum.inr k) (.ref L)))) bw bo xs (putK okv (Sum.inr k) (.ref L)) fk fz ∧ (upd (upd H L (.lst [])) bo (.dK (putK okv (Sum.inr k) (.ref L)))) L = some (.lst []) := by
  have sL : Same H (upd H L (.lst [])) := Same.new hL
  have nL : L ≠ bo := fun z => by subst z; rw [I.on] at hL; cases hL
  have tk : TK (upd H L (.lst [])) (upd (upd H L (.lst [])) bo (.dK (putK okv (Sum.inr k) (.ref L)))) := TK.put (sL _ _ I.on) (by intro z e; cases e)
  have keepl : ∀ l' ys, H l' = some (.lst ys) → (upd (upd H L (.lst [])) bo (.dK (putK okv (Sum.inr k) (.ref L)))) l' = some (.lst ys) := fun l' ys e => by
    rw [upd_ne (fun z => by subst z; rw [I.on] at e; cases e)]; exact sL _ _ e
  have hLL : (upd (upd H L (.lst [])) bo (.dK (putK okv (Sum.inr k) (.ref L)))) L = some (.lst []) := by rw [upd_ne nL, upd_same]
  have hf := I.none_of hL
  have hval : ∀ z : Str, valV (putK okv (Sum.inr k) (.ref L)) (Sum.inr z : Key) = if z = k then some (.ref L) else valV okv (Sum.inr z : Key) := fun z => by
    rw [valV_put]
    by_cases e : z = k
    · rw [if_pos e, if_pos (by rw [e])]
    · rw [if_neg e, if_neg (fun h => e (Sum.inr.inj h))]
  refine ⟨⟨fun y o a b e => by rw [upd_ne b]; exact sL _ _ (I.kp y o a b e), ⟨by rw [upd_ne nb]; exact sL _ _ I.wd.1, fun p hp => (I.wd.2 p hp).to ((TK.of sL).trans tk)⟩, upd_same, I.gk.mono (fun l ys c _ e => keepl l ys e) ((TK.of sL).trans tk), I.gz.add (c := k) hL hf hv hval hLL (fun l' ys _ e => keepl l' ys e) ((TK.of sL).trans tk), fun k' z l h1 h2 => ?_⟩, hLL⟩
  rw [hval] at h2
  by_cases e : z = k
  · rw [if_pos e] at h2
    cases h2
    exact (I.gk.at_ k').ne hL h1
  · rw [if_neg e] at h2
    exact I.sep k' z l h1 h2
theorem row_step {U : List Row} {i : Nat} {r : Row} (p : Row → Bool) (h : U[i]? = some r) : ((U.take (i + 1)).filter p).map Row.mo = ((U.take i).filter p).map Row.mo ++ (if p r = true then [r.mo] else []) := by
  rw [filter_step h, List.map_append]
  by_cases q : p r = true
  · rw [if_pos q, if_pos q]; rfl
  · rw [if_neg q, if_neg q]; rfl
structure NmT (K : PySem.W.Frag) (C : Addr) : Prop where
  cl : Cls K C
  n0 : NoAttr K C "_book"
  n1 : NoAttr K C "_upto"
  n2 : NoAttr K C "_records"
  n3 : NoAttr K C "_bearing"
  n4 : NoAttr K C "_aheads"
  n5 : NoAttr K C "_strikes"
  n6 : NoAttr K C "_by_words"
  n7 : NoAttr K C "_by_own"
def ButV (K : PySem.W.Frag) (H : Hp) (b : Addr) (bt : List Mo) : Prop := (bt = [] ∧ ∀ H', SqT K H' b []) ∨ Ls H b (bt.map mD)
theorem ButV.to {K : PySem.W.Frag} {H H' : Hp} {b : Addr} {bt : List Mo} (x : ButV K H b bt) (k : ∀ l ds, Ls H l ds → Ls H' l ds) : ButV K H' b bt := x.imp id (k _ _)
theorem not_in2 {K : PySem.W.Frag} {H : Hp} {a but : Addr} {m : Mo} {bt : List Mo} {Q : V → Hp → Prop} (ha : H a = some (.tup [.int m.1, .int m.2])) (hb : ButV K H but bt) (k : ∀ b, b = !decide (m ∈ bt) → Q (.bl b) H) : rNotIn2 K (.ref a) (.ref but) H Q := by
  rcases hb with ⟨rfl, h⟩ | h
  · exact .inl ⟨but, rfl, h H, k true rfl⟩
  · exact .inr ⟨mD m, bt.map mD, (Tp.mo ha).d, Ls.dp h, shaped_m m, shaped_ms bt, by rw [any_m]; exact k _ rfl⟩
def spNmsInit (K : PySem.W.Frag) (P : Program) (w : World) (C Cb : Addr) : Sp := fun vs H Q _ => ∃ (a dx b but : Addr) (uv : V) (rs : List Row) (u : UpB), vs = [.ref a, .ref b, uv, .ref but] ∧ H a = some (.ins C dx []) ∧ BookAt Cb H b rs ∧ UpV H uv u ∧ Told rs ∧ rs.length ≤ 40 ∧ ButV K H but u.2 ∧
  ∀ H', (∀ x o, x ≠ a → H x = some o → H' x = some o) → NmsAt P w C Cb H' a rs u → Q .non H'
section
variable {P : Program} {w : World} {K : PySem.W.Frag} {mg : Str → Option Value} {base : Heap} {C Cb : Addr}
end
end KN


set_option Elab.async false
set_option linter.all false
set_option maxRecDepth 100000
set_option maxHeartbeats 4000000
namespace KN
open PySem L2
def nmL (rs : List Row) (u : UpB) (rk : Int) : List Mo := ((tN rs u).filter (rankB (some rk))).map Row.mo
def takL (rs : List Row) (u : UpB) (k : Wk) (n : Mo) : List Mo := (bwL rs u k).filter fun m => decide (mLt m n)
def rivL (rs : List Row) (u : UpB) (z : Str) (n : Mo) : List Mo := (boL rs u z).filter fun m => decide (mLt m n)
def spOfRank' (P : Program) (w : World) (C Cb : Addr) : Sp := fun vs H Q _ => ∃ (a : Addr) (rk : Int) (rs : List Row) (u : UpB), vs = [.ref a, .int rk] ∧ NmsAt P w C Cb H a rs u ∧ rs.length ≤ 40 ∧ ∀ H' l, Same H H' → H l = none → Ls H' l ((nmL rs u rk).map mD) → Q (.ref l) H'
def spBear (P : Program) (w : World) (C Cb : Addr) : Sp := fun vs H Q _ => ∃ (a q : Addr) (n : Mo) (rs : List Row) (u : UpB), vs = [.ref a, .ref q] ∧ NmsAt P w C Cb H a rs u ∧ H q = some (.tup [.int n.1, .int n.2]) ∧ n ∈ (tN rs u).map Row.mo ∧ ∀ l (zs : List Str), H l = some (.lst (zs.map V.str)) → zs.Perm (bearD rs u n) → Q (.ref l) H
def spAheadsN (P : Program) (w : World) (C Cb : Addr) : Sp := fun vs H Q _ => ∃ (a : Addr) (rs : List Row) (u : UpB), vs = [.ref a] ∧ NmsAt P w C Cb H a rs u ∧ ∀ l, Ls H l ((ahF (inU rs u)).map lD) → Q (.ref l) H
def spStrk (P : Program) (w : World) (C Cb : Addr) : Sp := fun vs H Q _ => ∃ (a q : Addr) (n : Mo) (rs : List Row) (u : UpB), vs = [.ref a, .ref q] ∧ NmsAt P w C Cb H a rs u ∧ H q = some (.tup [.int n.1, .int n.2]) ∧ ∀ H' l, Same H H' → Ls H' l ((strk rs u n).map mD) → Q (.ref l) H'
def spTak (P : Program) (w : World) (C Cb : Addr) : Sp := fun vs H Q _ => ∃ (a q : Addr) (n : Mo) (rk : Int) (ws ss : List Str) (lk : Option Mo) (rs : List Row) (u : UpB), vs = [.ref a, .ref q] ∧ NmsAt P w C Cb H a rs u ∧ (rs.map Row.mo).Nodup ∧ rs.length ≤ 40 ∧ H q = some (.tup [.int n.1, .int n.2]) ∧ Row.nm n rk ws ss lk ∈ tN rs u ∧ ∀ H' l, Same H H' → H l = none → Ls H' l ((takL rs u (rk, ws) n).map mD) → Q (.ref l) H'
def spRiv (P : Program) (w : World) (C Cb : Addr) : Sp := fun vs H Q _ => ∃ (a q : Addr) (n : Mo) (w0 w1 : Str) (ss : List Str) (lk : Option Mo) (rs : List Row) (u : UpB), vs = [.ref a, .ref q] ∧ NmsAt P w C Cb H a rs u ∧ (rs.map Row.mo).Nodup ∧ rs.length ≤ 40 ∧ H q = some (.tup [.int n.1, .int n.2]) ∧ Row.nm n 0 [w0, w1] ss lk ∈ tN rs u ∧ ∀ H' l, Same H H' → H l = none → Ls H' l ((rivL rs u w1 n).map mD) → Q (.ref l) H'
def spNRefuse (P : Program) (w : World) (C Cb : Addr) : Sp := fun vs H Q _ => ∃ (a q : Addr) (n : Mo) (rk : Int) (rs : List Row) (u : UpB), vs = [.ref a, .ref q, .int rk] ∧ NmsAt P w C Cb H a rs u ∧ rs.length ≤ 40 ∧ H q = some (.tup [.int n.1, .int n.2]) ∧ n ∈ nmL rs u rk ∧ ∀ H', Same H H' → Q .non H'
theorem len_inU (rs : List Row) (u : Option Mo) : (inU rs u).length ≤ rs.length := List.length_filter_le _ _
theorem len_tN (rs : List Row) (u : UpB) : (tN rs u).length ≤ rs.length := Nat.le_trans (List.length_filter_le _ _) (len_inU rs u)
theorem len_bw (rs : List Row) (u : UpB) (k : Wk) : (bwL rs u k).length ≤ rs.length := by
  unfold bwL; rw [List.length_map]; exact Nat.le_trans (List.length_filter_le _ _) (Nat.le_trans (List.length_filter_le _ _) (len_tN rs u))
theorem len_bo (rs : List Row) (u : UpB) (k : Str) : (boL rs u k).length ≤ rs.length := by
  unfold boL; rw [List.length_map]; exact Nat.le_trans (List.length_filter_le _ _) (Nat.le_trans (List.length_filter_le _ _) (len_tN rs u))
theorem tn_sub {rs : List Row} {u : UpB} {r : Row} (h : r ∈ tN rs u) : r ∈ rs ∧ upB r.mo u = true ∧ r.isNm = true :=
  ⟨(List.mem_filter.mp (List.mem_filter.mp h).1).1, (List.mem_filter.mp (List.mem_filter.mp h).1).2, nm_of (List.mem_filter.mp h).2⟩
section
variable {P : Program} {w : World} {K : PySem.W.Frag} {mg : Str → Option Value} {base : Heap} {C Cb : Addr}
end
end KN


set_option Elab.async false
set_option linter.all false
set_option maxRecDepth 100000
set_option maxHeartbeats 4000000
namespace KN
open PySem L2
/-! Fits: which names are fit in a node. -/
def sPr (pl : List (Str × Nd)) (L : List (Nd × Option Nd)) (n : Nd) (z : Str) : Prop := ∃ k, (z, k) ∈ pl ∧ abvD L k n.1 = some n
def fPr (pl : List (Str × Nd)) (L : List (Nd × Option Nd)) (n : Nd) (z : Str) : Prop := n.1 = 0 ∧ ∃ m, abvD L n 1 = some m ∧ sPr pl L m z
def wordsOf (rs : List Row) (m : Mo) : List Str := match rs.find? (isAt m) with
  | some (.nm _ _ ws _ _) => ws
  | _ => []
theorem wordsOf_eq {rs : List Row} (nd : (rs.map Row.mo).Nodup) {m : Mo} {rk : Int} {ws ss : List Str} {l : Option Mo} (h : Row.nm m rk ws ss l ∈ rs) : wordsOf rs m = ws := by
  unfold wordsOf; rw [find_row nd h]
section
variable (rs : List Row) (u : UpB) (rk : Int) (sP fP : Str → Prop)
def uE (n : Mo) : Prop := ∃ z ∈ bearD rs u n, ¬ sP z
def uS (n : Mo) : Prop := strk rs u n ≠ []
def uT (n : Mo) : Prop := takL rs u (rk, wordsOf rs n) n ≠ []
def inF (m : Mo) : Prop := ∀ z ∈ bearD rs u m, fP z
def uB (n : Mo) : Prop := (∃ z, fP z) ∧ ∃ m ∈ rivL rs u ((wordsOf rs n).getD 1 "") n, inF rs u fP m
def unf (n : Mo) : Prop := uE rs u sP n ∨ uS rs u n ∨ uT rs u rk n ∨ uB rs u fP n
open Classical in
noncomputable def fitB (n : Mo) : Bool := decide (¬ unf rs u rk sP fP n)
open Classical in
theorem fitB_iff (n : Mo) : fitB rs u rk sP fP n = true ↔ ¬ unf rs u rk sP fP n := by unfold fitB; exact decide_eq_true_iff
noncomputable def fitL : List Mo := (nmL rs u rk).filter (fitB rs u rk sP fP)
open Classical in
noncomputable def wayB (n : Mo) (l : Lnk) : Bool := decide (l.2.2 = n ∧ l.2.1 ∈ fitL rs u rk sP fP)
open Classical in
theorem wayB_iff (n : Mo) (l : Lnk) : wayB rs u rk sP fP n l = true ↔ l.2.2 = n ∧ l.2.1 ∈ fitL rs u rk sP fP := by unfold wayB; exact decide_eq_true_iff
noncomputable def waysL (n : Mo) : List Mo := ((ahF (inU rs u)).filter (wayB rs u rk sP fP n)).map (·.1)
noncomputable def bestL : Option Mo := (fitL rs u rk sP fP).find? fun n => (waysL rs u rk sP fP n).isEmpty
end
structure FitB (P : Program) (w : World) (C Cn Cb : Addr) (H : Hp) (a : Addr) (rs : List Row) (u : UpB) (rk : Int) (sP fP : Str → Prop) (dx : Addr) (fs : List (Str × V)) (sh fm nm : Addr) (S Fm : List Str) : Prop where
  ob : H a = some (.ins C dx fs)
  l1 : fs.lookup ("_sheets" : Str) = some (.ref sh)
  l2 : fs.lookup ("_family" : Str) = some (.ref fm)
  l3 : fs.lookup ("_names" : Str) = some (.ref nm)
  m1 : fs.lookup ("unfit" : Str) = none
  m2 : fs.lookup ("_bars" : Str) = none
  m3 : fs.lookup ("_is_in_family" : Str) = none
  hs : H sh = some (.lst (S.map V.str))
  hf : H fm = some (.lst (Fm.map V.str))
  is : ∀ z, z ∈ S ↔ sP z
  if_ : ∀ z, z ∈ Fm ↔ fP z
  ws : ∀ z ∈ S, IsW z
  wf : ∀ z ∈ Fm, IsW z
  s60 : S.length ≤ 60
  f60 : Fm.length ≤ 60
  f0 : (∃ z, fP z) → rk = 0
  nm : NmsAt P w Cn Cb H nm rs u
  td : Told rs
  len : rs.length ≤ 40
def FitBAt (P : Program) (w : World) (C Cn Cb : Addr) (H : Hp) (a : Addr) (rs : List Row) (u : UpB) (rk : Int) (sP fP : Str → Prop) : Prop := ∃ dx fs sh fm nm S Fm, FitB P w C Cn Cb H a rs u rk sP fP dx fs sh fm nm S Fm
theorem FitB.keep {P : Program} {w : World} {C Cn Cb : Addr} {H H' : Hp} {a : Addr} {rs : List Row} {u : UpB} {rk : Int} {sP fP : Str → Prop} {dx : Addr} {fs : List (Str × V)} {sh fm nm : Addr} {S Fm : List Str} (B : FitB P w C Cn Cb H a rs u rk sP fP dx fs sh fm nm S Fm) (s : Same H H') : FitB P w C Cn Cb H' a rs u rk sP fP dx fs sh fm nm S Fm :=
  { B with ob := s _ _ B.ob, hs := s _ _ B.hs, hf := s _ _ B.hf, nm := B.nm.keep s }
theorem FitBAt.keep {P : Program} {w : World} {C Cn Cb : Addr} {H H' : Hp} {a : Addr} {rs : List Row} {u : UpB} {rk : Int} {sP fP : Str → Prop} (B : FitBAt P w C Cn Cb H a rs u rk sP fP) (s : Same H H') : FitBAt P w C Cn Cb H' a rs u rk sP fP := by
  obtain ⟨dx, fs, sh, fm, nm, S, Fm, B⟩ := B
  exact ⟨dx, fs, sh, fm, nm, S, Fm, B.keep s⟩
structure FiT (K : PySem.W.Frag) (C : Addr) : Prop where
  cl : Cls K C
  n0 : NoAttr K C "_sheets"
  n1 : NoAttr K C "_family"
  n2 : NoAttr K C "_names"
  n3 : NoAttr K C "_rank"
  n4 : NoAttr K C "_of_rank"
  n5 : NoAttr K C "_fit"
def spInFam (P : Program) (w : World) (C Cn Cb : Addr) : Sp := fun vs H Q _ => ∃ (a q : Addr) (n : Mo) (rs : List Row) (u : UpB) (rk : Int) (sP fP : Str → Prop), vs = [.ref a, .ref q] ∧ FitBAt P w C Cn Cb H a rs u rk sP fP ∧ H q = some (.tup [.int n.1, .int n.2]) ∧ n ∈ (tN rs u).map Row.mo ∧
  ∀ H' b, Same H H' → (b = true ↔ inF rs u fP n) → Q (.bl b) H'
theorem bear_w {rs : List Row} (T : Told rs) {u : Option Mo} {n : Mo} (hn : n ∈ nms rs) : ∀ z ∈ bearD rs u n, IsW z := by
  obtain ⟨rk, ws, ss, hr, hs, ok⟩ := base_row T hn
  unfold bearD
  cases hc : chosenD rs u n with
  | none =>
    rw [hs]; exact ok.2.2.2
  | some z =>
    intro y hy
    have hy' : y = z := by simpa using hy
    subst hy'
    unfold chosenD at hc
    cases hf : rs.find? (chOf (baseD rs n) u) with
    | some r =>
      rw [hf] at hc
      have hm := List.mem_of_find?_eq_some hf
      have hp := List.find?_some hf
      cases r with
      | ch m b z => cases hc; exact told_ch T hm
      | nm => cases hp
      | st => cases hp
      | ah => cases hp
    | none =>
      rw [hf, hs] at hc
      match ss, hc with
      | [x], hc => cases hc; exact ok.2.2.2 _ List.mem_cons_self
theorem bear_len {rs : List Row} (T : Told rs) {u : Option Mo} {n : Mo} (hn : n ∈ nms rs) : (bearD rs u n).length ≤ 60 := by
  obtain ⟨rk, ws, ss, hr, hs, ok⟩ := base_row T hn
  unfold bearD
  cases hc : chosenD rs u n with
  | none => rw [hs]; have := ok.2.1; omega
  | some z => show 1 ≤ 60; decide
theorem tn_nms {rs : List Row} {u : UpB} {n : Mo} (h : n ∈ (tN rs u).map Row.mo) : n ∈ nms rs := by
  obtain ⟨r, hr, rfl⟩ := List.mem_map.mp h
  obtain ⟨h1, _, h3⟩ := tn_sub hr
  exact List.mem_map.mpr ⟨r, List.mem_filter.mpr ⟨h1, h3⟩, rfl⟩
theorem nml_tn {rs : List Row} {u : UpB} {rk : Int} {n : Mo} (h : n ∈ nmL rs u rk) : n ∈ (tN rs u).map Row.mo := by
  obtain ⟨r, hr, rfl⟩ := List.mem_map.mp h
  exact List.mem_map.mpr ⟨r, (List.mem_filter.mp hr).1, rfl⟩
open Classical in
noncomputable def inFB (rs : List Row) (u : UpB) (fP : Str → Prop) (m : Mo) : Bool := decide (inF rs u fP m)
open Classical in
noncomputable def barL (rs : List Row) (u : UpB) (fP : Str → Prop) (n : Mo) : List Mo := if ∃ z, fP z then (rivL rs u ((wordsOf rs n).getD 1 "") n).filter (inFB rs u fP) else []
open Classical in
theorem inFB_iff {rs : List Row} {u : UpB} {fP : Str → Prop} {m : Mo} : inFB rs u fP m = true ↔ inF rs u fP m := by unfold inFB; exact decide_eq_true_iff
theorem uB_bar {rs : List Row} {u : UpB} {fP : Str → Prop} {n : Mo} : barL rs u fP n ≠ [] ↔ uB rs u fP n := by
  unfold barL uB
  by_cases h : ∃ z, fP z
  · rw [if_pos h]
    constructor
    · intro e
      obtain ⟨m, hm⟩ := List.exists_mem_of_ne_nil _ e
      exact ⟨h, m, (List.mem_filter.mp hm).1, inFB_iff.mp (List.mem_filter.mp hm).2⟩
    · rintro ⟨_, m, hm, hf⟩ e
      have : m ∈ (rivL rs u ((wordsOf rs n).getD 1 "") n).filter (inFB rs u fP) := List.mem_filter.mpr ⟨hm, inFB_iff.mpr hf⟩
      rw [e] at this; cases this
  · rw [if_neg h]
    exact ⟨fun e => absurd rfl e, fun e => absurd e.1 h⟩
theorem barL_len {rs : List Row} {u : UpB} {fP : Str → Prop} {n : Mo} : (barL rs u fP n).length ≤ rs.length := by
  unfold barL
  by_cases h : ∃ z, fP z
  · rw [if_pos h]
    exact Nat.le_trans (List.length_filter_le _ _) (Nat.le_trans (List.length_filter_le _ _) (len_bo rs u _))
  · rw [if_neg h]; exact Nat.zero_le _
def spBars (P : Program) (w : World) (C Cn Cb : Addr) : Sp := fun vs H Q _ => ∃ (a q : Addr) (n : Mo) (rs : List Row) (u : UpB) (rk : Int) (sP fP : Str → Prop), vs = [.ref a, .ref q] ∧ FitBAt P w C Cn Cb H a rs u rk sP fP ∧ H q = some (.tup [.int n.1, .int n.2]) ∧ n ∈ nmL rs u rk ∧
  ∀ H' l, Same H H' → H l = none → Ls H' l ((barL rs u fP n).map mD) → Q (.ref l) H'
section
variable {P : Program} {w : World} {K : PySem.W.Frag} {mg : Str → Option Value} {base : Heap} {C Cn Cb : Addr}
end
end KN


set_option Elab.async false
set_option linter.all false
set_option maxRecDepth 100000
set_option maxHeartbeats 4000000
namespace KN
open PySem L2
def UnfAt (H : Hp) (l : Addr) (e s t b : Prop) : Prop := ∃ (t0 t1 t2 t3 l0 l1 l2 l3 : Addr) (x0 x1 x2 x3 : List V), H l = some (.lst [.ref t0, .ref t1, .ref t2, .ref t3]) ∧
  H t0 = some (.tup [.str "elsewhere", .ref l0]) ∧ H t1 = some (.tup [.str "struck", .ref l1]) ∧ H t2 = some (.tup [.str "taken", .ref l2]) ∧ H t3 = some (.tup [.str "barred", .ref l3]) ∧
  H l0 = some (.lst x0) ∧ H l1 = some (.lst x1) ∧ H l2 = some (.lst x2) ∧ H l3 = some (.lst x3) ∧ (x0 ≠ [] ↔ e) ∧ (x1 ≠ [] ↔ s) ∧ (x2 ≠ [] ↔ t) ∧ (x3 ≠ [] ↔ b)
theorem UnfAt.keep {H H' : Hp} {l : Addr} {e s t b : Prop} (x : UnfAt H l e s t b) (k : Same H H') : UnfAt H' l e s t b := by
  obtain ⟨t0, t1, t2, t3, l0, l1, l2, l3, x0, x1, x2, x3, h, h0, h1, h2, h3, g0, g1, g2, g3, r⟩ := x
  exact ⟨t0, t1, t2, t3, l0, l1, l2, l3, x0, x1, x2, x3, k _ _ h, k _ _ h0, k _ _ h1, k _ _ h2, k _ _ h3, k _ _ g0, k _ _ g1, k _ _ g2, k _ _ g3, r⟩
theorem tpall_ne {H : Hp} {xs : List V} {ds : List PyData} (h : TpAll H xs ds) : xs ≠ [] ↔ ds ≠ [] := by
  cases h <;> simp
/-- the four rows, each with all its things -/
def UnfX (H : Hp) (l : Addr) (rs : List Row) (u : UpB) (rk : Int) (sP fP : Str → Prop) (n : Mo) : Prop := ∃ (t0 t1 t2 t3 l0 l1 l2 l3 : Addr) (ys : List Str), H l = some (.lst [.ref t0, .ref t1, .ref t2, .ref t3]) ∧
  H t0 = some (.tup [.str "elsewhere", .ref l0]) ∧ H t1 = some (.tup [.str "struck", .ref l1]) ∧ H t2 = some (.tup [.str "taken", .ref l2]) ∧ H t3 = some (.tup [.str "barred", .ref l3]) ∧
  H l0 = some (.lst (ys.map V.str)) ∧ (∀ z ∈ ys, IsW z) ∧ (ys.length ≤ 60 ∧ ∀ z, z ∈ ys ↔ z ∈ bearD rs u n ∧ ¬ sP z) ∧ Ls H l1 ((strk rs u n).map mD) ∧ Ls H l2 ((takL rs u (rk, wordsOf rs n) n).map mD) ∧ Ls H l3 ((barL rs u fP n).map mD)
theorem out_ne {rs : List Row} {u : UpB} {sP : Str → Prop} {n : Mo} {ys : List Str} (h : ∀ z, z ∈ ys ↔ z ∈ bearD rs u n ∧ ¬ sP z) : ys ≠ [] ↔ uE rs u sP n := by
  constructor
  · intro q
    obtain ⟨z, hz⟩ := List.exists_mem_of_ne_nil _ q
    exact ⟨z, ((h z).mp hz).1, ((h z).mp hz).2⟩
  · rintro ⟨z, h1, h2⟩ e
    have := (h z).mpr ⟨h1, h2⟩
    rw [e] at this; cases this
theorem UnfX.at {H : Hp} {l : Addr} {rs : List Row} {u : UpB} {rk : Int} {sP fP : Str → Prop} {n : Mo} (h : UnfX H l rs u rk sP fP n) : UnfAt H l (uE rs u sP n) (uS rs u n) (uT rs u rk n) (uB rs u fP n) := by
  obtain ⟨t0, t1, t2, t3, l0, l1, l2, l3, ys, h0, h1, h2, h3, h4, h5, hw, he, ⟨x1, g1, r1⟩, ⟨x2, g2, r2⟩, ⟨x3, g3, r3⟩⟩ := h
  refine ⟨t0, t1, t2, t3, l0, l1, l2, l3, ys.map V.str, x1, x2, x3, h0, h1, h2, h3, h4, h5, g1, g2, g3, ?_, ?_, ?_, ?_⟩
  · rw [show (ys.map V.str ≠ []) ↔ ys ≠ [] by cases ys <;> simp, out_ne he.2]
  · rw [tpall_ne r1]; unfold uS; cases strk rs u n <;> simp
  · rw [tpall_ne r2]; unfold uT; cases takL rs u (rk, wordsOf rs n) n <;> simp
  · rw [tpall_ne r3, ← uB_bar]; cases barL rs u fP n <;> simp
def spUnfit (P : Program) (w : World) (C Cn Cb : Addr) : Sp := fun vs H Q _ => ∃ (a q : Addr) (n : Mo) (rs : List Row) (u : UpB) (rk : Int) (sP fP : Str → Prop), vs = [.ref a, .ref q] ∧ FitBAt P w C Cn Cb H a rs u rk sP fP ∧ H q = some (.tup [.int n.1, .int n.2]) ∧ n ∈ nmL rs u rk ∧
  ∀ H' l, Same H H' → H l = none → UnfX H' l rs u rk sP fP n → Q (.ref l) H'
theorem nml_row {rs : List Row} {u : UpB} {rk : Int} {n : Mo} (h : n ∈ nmL rs u rk) : ∃ ws ss lk, Row.nm n rk ws ss lk ∈ tN rs u := by
  obtain ⟨r0, hr0, rfl⟩ := List.mem_map.mp h
  have hr1 := (List.mem_filter.mp hr0).1
  have hrk := (List.mem_filter.mp hr0).2
  obtain ⟨hrs, hup, hnm⟩ := tn_sub hr1
  cases r0 with
  | ch => cases hnm
  | st => cases hnm
  | ah => cases hnm
  | nm m rr ws ss lk =>
    have hrr : rr = rk := of_decide_eq_true (show decide (rr = rk) = true from hrk)
    subst hrr
    exact ⟨ws, ss, lk, hr1⟩
section
variable {P : Program} {w : World} {K : PySem.W.Frag} {mg : Str → Option Value} {base : Heap} {C Cn Cb : Addr}
end
end KN


set_option Elab.async false
set_option linter.all false
set_option maxRecDepth 100000
set_option maxHeartbeats 4000000
namespace KN
open PySem L2
def g1 (s : V) : List (Str × V) := putF "_sheets" s []
def g2 (s f : V) : List (Str × V) := putF "_family" f (g1 s)
def g3 (s f n : V) : List (Str × V) := putF "_names" n (g2 s f)
def g4 (s f n r : V) : List (Str × V) := putF "_rank" r (g3 s f n)
def g5 (s f n r o : V) : List (Str × V) := putF "_of_rank" o (g4 s f n r)
def g6 (s f n r o t : V) : List (Str × V) := putF "_fit" t (g5 s f n r o)
section
variable {s f n r o t : V}
theorem gf_0_1 : ¬ (("_sheets" : Str) = "_family") := by decide +kernel
theorem gf_0_2 : ¬ (("_sheets" : Str) = "_names") := by decide +kernel
theorem gf_1_2 : ¬ (("_family" : Str) = "_names") := by decide +kernel
theorem gf_0_3 : ¬ (("_sheets" : Str) = "_rank") := by decide +kernel
theorem gf_1_3 : ¬ (("_family" : Str) = "_rank") := by decide +kernel
theorem gf_2_3 : ¬ (("_names" : Str) = "_rank") := by decide +kernel
theorem gf_0_4 : ¬ (("_sheets" : Str) = "_of_rank") := by decide +kernel
theorem gf_1_4 : ¬ (("_family" : Str) = "_of_rank") := by decide +kernel
theorem gf_2_4 : ¬ (("_names" : Str) = "_of_rank") := by decide +kernel
theorem gf_3_4 : ¬ (("_rank" : Str) = "_of_rank") := by decide +kernel
theorem gf_0_5 : ¬ (("_sheets" : Str) = "_fit") := by decide +kernel
theorem gf_1_5 : ¬ (("_family" : Str) = "_fit") := by decide +kernel
theorem gf_2_5 : ¬ (("_names" : Str) = "_fit") := by decide +kernel
theorem gf_3_5 : ¬ (("_rank" : Str) = "_fit") := by decide +kernel
theorem gf_4_5 : ¬ (("_of_rank" : Str) = "_fit") := by decide +kernel
theorem g1_0 : (g1 s).lookup ("_sheets" : Str) = some s := by
  unfold g1; rw [lookup_putF, if_pos rfl]
theorem g2_0 : (g2 s f).lookup ("_sheets" : Str) = some s := by
  unfold g2 g1; rw [lookup_putF, if_neg gf_0_1, lookup_putF, if_pos rfl]
theorem g2_1 : (g2 s f).lookup ("_family" : Str) = some f := by
  unfold g2; rw [lookup_putF, if_pos rfl]
theorem g3_0 : (g3 s f n).lookup ("_sheets" : Str) = some s := by
  unfold g3 g2 g1; rw [lookup_putF, if_neg gf_0_2, lookup_putF, if_neg gf_0_1, lookup_putF, if_pos rfl]
theorem g3_1 : (g3 s f n).lookup ("_family" : Str) = some f := by
  unfold g3 g2; rw [lookup_putF, if_neg gf_1_2, lookup_putF, if_pos rfl]
theorem g3_2 : (g3 s f n).lookup ("_names" : Str) = some n := by
  unfold g3; rw [lookup_putF, if_pos rfl]
theorem g4_0 : (g4 s f n r).lookup ("_sheets" : Str) = some s := by
  unfold g4 g3 g2 g1; rw [lookup_putF, if_neg gf_0_3, lookup_putF, if_neg gf_0_2, lookup_putF, if_neg gf_0_1, lookup_putF, if_pos rfl]
theorem g4_1 : (g4 s f n r).lookup ("_family" : Str) = some f := by
  unfold g4 g3 g2; rw [lookup_putF, if_neg gf_1_3, lookup_putF, if_neg gf_1_2, lookup_putF, if_pos rfl]
theorem g4_2 : (g4 s f n r).lookup ("_names" : Str) = some n := by
  unfold g4 g3; rw [lookup_putF, if_neg gf_2_3, lookup_putF, if_pos rfl]
theorem g4_3 : (g4 s f n r).lookup ("_rank" : Str) = some r := by
  unfold g4; rw [lookup_putF, if_pos rfl]
theorem g5_0 : (g5 s f n r o).lookup ("_sheets" : Str) = some s := by
  unfold g5 g4 g3 g2 g1; rw [lookup_putF, if_neg gf_0_4, lookup_putF, if_neg gf_0_3, lookup_putF, if_neg gf_0_2, lookup_putF, if_neg gf_0_1, lookup_putF, if_pos rfl]
theorem g5_1 : (g5 s f n r o).lookup ("_family" : Str) = some f := by
  unfold g5 g4 g3 g2; rw [lookup_putF, if_neg gf_1_4, lookup_putF, if_neg gf_1_3, lookup_putF, if_neg gf_1_2, lookup_putF, if_pos rfl]
theorem g5_2 : (g5 s f n r o).lookup ("_names" : Str) = some n := by
  unfold g5 g4 g3; rw [lookup_putF, if_neg gf_2_4, lookup_putF, if_neg gf_2_3, lookup_putF, if_pos rfl]
theorem g5_3 : (g5 s f n r o).lookup ("_rank" : Str) = some r := by
  unfold g5 g4; rw [lookup_putF, if_neg gf_3_4, lookup_putF, if_pos rfl]
theorem g5_4 : (g5 s f n r o).lookup ("_of_rank" : Str) = some o := by
  unfold g5; rw [lookup_putF, if_pos rfl]
theorem g6_0 : (g6 s f n r o t).lookup ("_sheets" : Str) = some s := by
  unfold g6 g5 g4 g3 g2 g1; rw [lookup_putF, if_neg gf_0_5, lookup_putF, if_neg gf_0_4, lookup_putF, if_neg gf_0_3, lookup_putF, if_neg gf_0_2, lookup_putF, if_neg gf_0_1, lookup_putF, if_pos rfl]
theorem g6_1 : (g6 s f n r o t).lookup ("_family" : Str) = some f := by
  unfold g6 g5 g4 g3 g2; rw [lookup_putF, if_neg gf_1_5, lookup_putF, if_neg gf_1_4, lookup_putF, if_neg gf_1_3, lookup_putF, if_neg gf_1_2, lookup_putF, if_pos rfl]
theorem g6_2 : (g6 s f n r o t).lookup ("_names" : Str) = some n := by
  unfold g6 g5 g4 g3; rw [lookup_putF, if_neg gf_2_5, lookup_putF, if_neg gf_2_4, lookup_putF, if_neg gf_2_3, lookup_putF, if_pos rfl]
theorem g6_3 : (g6 s f n r o t).lookup ("_rank" : Str) = some r := by
  unfold g6 g5 g4; rw [lookup_putF, if_neg gf_3_5, lookup_putF, if_neg gf_3_4, lookup_putF, if_pos rfl]
theorem g6_4 : (g6 s f n r o t).lookup ("_of_rank" : Str) = some o := by
  unfold g6 g5; rw [lookup_putF, if_neg gf_4_5, lookup_putF, if_pos rfl]
theorem g6_5 : (g6 s f n r o t).lookup ("_fit" : Str) = some t := by
  unfold g6; rw [lookup_putF, if_pos rfl]
theorem g5_no {m : Str} (h0 : ¬ m = "_sheets") (h1 : ¬ m = "_family") (h2 : ¬ m = "_names") (h3 : ¬ m = "_rank") (h4 : ¬ m = "_of_rank") : (g5 s f n r o).lookup m = none := by
  unfold g5 g4 g3 g2 g1; rw [lookup_putF, if_neg h4, lookup_putF, if_neg h3, lookup_putF, if_neg h2, lookup_putF, if_neg h1, lookup_putF, if_neg h0]; rfl
theorem g6_no {m : Str} (h0 : ¬ m = "_sheets") (h1 : ¬ m = "_family") (h2 : ¬ m = "_names") (h3 : ¬ m = "_rank") (h4 : ¬ m = "_of_rank") (h5 : ¬ m = "_fit") : (g6 s f n r o t).lookup m = none := by
  unfold g6 g5 g4 g3 g2 g1; rw [lookup_putF, if_neg h5, lookup_putF, if_neg h4, lookup_putF, if_neg h3, lookup_putF, if_neg h2, lookup_putF, if_neg h1, lookup_putF, if_neg h0]; rfl
end
theorem NmsAt.but {P : Program} {w : World} {Cn Cb : Addr} {H H' : Hp} {a c dx nm : Addr} {rs : List Row} {u : UpB} (N : NmsAt P w Cn Cb H nm rs u) (ha : H a = some (.ins c dx [])) (k : KA a H H') : NmsAt P w Cn Cb H' nm rs u := by
  obtain ⟨dxn, b, uv, r, be, ah, st, bw, bo, N⟩ := N
  have ne : ∀ x o, H x = some o → (∀ c d, o ≠ .ins c d []) → x ≠ a := fun x o e n z => by subst z; rw [ha] at e; cases e; exact n _ _ rfl
  have tk := k.tk ha
  have kl : ∀ l xs, H l = some (.lst xs) → H' l = some (.lst xs) := fun l xs e => k _ _ (ne _ _ e (by intro _ _; exact nofun)) e
  have f8ne : f8 (.ref b) uv (.ref r) (.ref be) (.ref ah) (.ref st) (.ref bw) (.ref bo) ≠ [] := fun z => by
    have := f8_0 (b := .ref b) (u := uv) (r := .ref r) (e := .ref be) (a := .ref ah) (s := .ref st) (w := .ref bw) (o := .ref bo)
    rw [z] at this; cases this
  refine ⟨dxn, b, uv, r, be, ah, st, bw, bo, k _ _ (ne _ _ N.ob (fun c d z => by injection z with _ _ z; exact f8ne z)) N.ob, N.uv.keep tk, N.bk.but ha (fun e n z => by rw [bf_eq] at z; cases z) k, ?_, ?_, k.ls ha N.ad, ?_, ?_, ?_⟩
  · obtain ⟨kvs, h1, h2⟩ := N.rc
    exact ⟨kvs, k _ _ (ne _ _ h1 (by intro _ _; exact nofun)) h1, h2.to tk⟩
  · obtain ⟨kvs, h1, h2⟩ := N.br
    exact ⟨kvs, k _ _ (ne _ _ h1 (by intro _ _; exact nofun)) h1, L2.Paired.mapP h2 fun _ _ f => ⟨f.1, let ⟨l, zs, e1, e2, e3⟩ := f.2; ⟨l, zs, e1, kl _ _ e2, e3⟩⟩⟩
  · obtain ⟨kvs, Hf, h1, h2⟩ := N.sk
    exact ⟨kvs, Hf, k _ _ (ne _ _ h1 (by intro _ _; exact nofun)) h1, h2.mono (fun l xs _ _ e => kl l xs e) tk⟩
  · obtain ⟨xs, Hf, h1, h2⟩ := N.wd
    exact ⟨xs, Hf, ⟨k _ _ (ne _ _ h1.1 (by intro _ _ z; cases z)) h1.1, fun p hp => (h1.2 p hp).to tk⟩, h2.mono (fun l xs _ _ e => kl l xs e) tk⟩
  · obtain ⟨kvs, Hf, h1, h2⟩ := N.on
    exact ⟨kvs, Hf, k _ _ (ne _ _ h1 (by intro _ _; exact nofun)) h1, h2.mono (fun l xs _ _ e => kl l xs e) tk⟩
/-- the names of the node's rank -/
def OfR (H : Hp) (o : V) (rs : List Row) (u : UpB) (rk : Int) : Prop := ∃ oa, o = .ref oa ∧ Ls H oa ((nmL rs u rk).map mD)
def FitAt (P : Program) (w : World) (C Cn Cb : Addr) (H : Hp) (a : Addr) (rs : List Row) (u : UpB) (rk : Int) (sP fP : Str → Prop) : Prop := ∃ dx sh fm nm o ft S Fm, FitB P w C Cn Cb H a rs u rk sP fP dx (g6 (.ref sh) (.ref fm) (.ref nm) (.int rk) o (.ref ft)) sh fm nm S Fm ∧ Ls H ft ((fitL rs u rk sP fP).map mD) ∧ OfR H o rs u rk
theorem FitAt.keep {P : Program} {w : World} {C Cn Cb : Addr} {H H' : Hp} {a : Addr} {rs : List Row} {u : UpB} {rk : Int} {sP fP : Str → Prop} (B : FitAt P w C Cn Cb H a rs u rk sP fP) (s : Same H H') : FitAt P w C Cn Cb H' a rs u rk sP fP := by
  obtain ⟨dx, sh, fm, nm, o, ft, S, Fm, B, l, oa, e, lo⟩ := B
  exact ⟨dx, sh, fm, nm, o, ft, S, Fm, B.keep s, l.to s, oa, e, lo.to s⟩
def spAround (Ct : Addr) : Sp := fun vs H Q _ => ∃ (t na : Addr) (n : Nd) (pl : List (Str × Nd)) (L : List (Nd × Option Nd)), vs = [.ref t, .ref na] ∧ TreeAt Ct H t pl L ∧ NdA H na n ∧ n ∈ L.map (·.1) ∧
  ∀ H' T sh fm (S Fm : List Str), Same H H' → H' T = some (.tup [.ref sh, .ref fm]) → H' sh = some (.lst (S.map V.str)) → H' fm = some (.lst (Fm.map V.str)) → (∀ z, z ∈ S ↔ sPr pl L n z) → (∀ z, z ∈ Fm ↔ fPr pl L n z) → S.length ≤ 60 → Fm.length ≤ 60 → Q (.ref T) H'
def spFInit (P : Program) (w : World) (C Cn Cb Ct : Addr) : Sp := fun vs H Q _ => ∃ (a dx nm t na : Addr) (n : Nd) (pl : List (Str × Nd)) (L : List (Nd × Option Nd)) (rs : List Row) (u : UpB), vs = [.ref a, .ref nm, .ref t, .ref na] ∧ H a = some (.ins C dx []) ∧ NmsAt P w Cn Cb H nm rs u ∧ TreeAt Ct H t pl L ∧ NdA H na n ∧ n ∈ L.map (·.1) ∧ Told rs ∧ rs.length ≤ 40 ∧
  ∀ H', KA a H H' → FitAt P w C Cn Cb H' a rs u n.1 (sPr pl L n) (fPr pl L n) → Q .non H'
def spWays (P : Program) (w : World) (C Cn Cb : Addr) : Sp := fun vs H Q _ => ∃ (a q : Addr) (n : Mo) (rs : List Row) (u : UpB) (rk : Int) (sP fP : Str → Prop), vs = [.ref a, .ref q] ∧ FitAt P w C Cn Cb H a rs u rk sP fP ∧ H q = some (.tup [.int n.1, .int n.2]) ∧
  ∀ H' l, Same H H' → H l = none → Ls H' l ((waysL rs u rk sP fP n).map mD) → Q (.ref l) H'
def spBest (P : Program) (w : World) (C Cn Cb : Addr) : Sp := fun vs H Q _ => ∃ (a : Addr) (rs : List Row) (u : UpB) (rk : Int) (sP fP : Str → Prop), vs = [.ref a] ∧ FitAt P w C Cn Cb H a rs u rk sP fP ∧ ∀ H' x, Same H H' → Tp H' x (oD (bestL rs u rk sP fP)) → Q x H'
def spFRefuse (P : Program) (w : World) (C Cn Cb : Addr) : Sp := fun vs H Q _ => ∃ (a q : Addr) (n : Mo) (rs : List Row) (u : UpB) (rk : Int) (sP fP : Str → Prop), vs = [.ref a, .ref q] ∧ FitAt P w C Cn Cb H a rs u rk sP fP ∧ H q = some (.tup [.int n.1, .int n.2]) ∧ n ∈ nmL rs u rk ∧ ∀ H', Same H H' → Q .non H'
theorem ahF_le (rs : List Row) (u : Option Mo) : (ahF (inU rs u)).length ≤ rs.length := Nat.le_trans (ahF_len _) (len_inU rs u)
section
variable {P : Program} {w : World} {K : PySem.W.Frag} {mg : Str → Option Value} {base : Heap} {C Cn Cb Ct : Addr}
end
end KN


set_option Elab.async false
set_option linter.all false
set_option maxRecDepth 100000
set_option maxHeartbeats 4000000
namespace KN
open PySem L2
abbrev Rsn := Str × Addr × List V
def RsAt (H : Hp) (l : Addr) (es : List Rsn) : Prop := ∃ ts : List Addr, H l = some (.lst (ts.map V.ref)) ∧ Paired (fun t (e : Rsn) => H t = some (.tup [.str e.1, .ref e.2.1]) ∧ H e.2.1 = some (.lst e.2.2)) ts es
theorem RsAt.keep {H H' : Hp} {l : Addr} {es : List Rsn} (x : RsAt H l es) (k : Same H H') : RsAt H' l es := by
  obtain ⟨ts, h, p⟩ := x
  exact ⟨ts, k _ _ h, L2.Paired.mapP p fun _ _ f => ⟨k _ _ f.1, k _ _ f.2⟩⟩
/-- all that the first four lists hold -/
def RsD (H : Hp) (x0 x1 x2 x3 : List V) (rs : List Row) (u : UpB) (rk : Int) (sP fP : Str → Prop) (n : Mo) : Prop := ∃ ys : List Str, x0 = ys.map V.str ∧ (∀ z ∈ ys, IsW z) ∧ (ys.length ≤ 60 ∧ ∀ z, z ∈ ys ↔ z ∈ bearD rs u n ∧ ¬ sP z) ∧ TpAll H x1 ((strk rs u n).map mD) ∧ TpAll H x2 ((takL rs u (rk, wordsOf rs n) n).map mD) ∧ TpAll H x3 ((barL rs u fP n).map mD)
def spReasons (P : Program) (w : World) (C Cn Cb : Addr) : Sp := fun vs H Q _ => ∃ (a q : Addr) (n : Mo) (rs : List Row) (u : UpB) (rk : Int) (sP fP : Str → Prop), vs = [.ref a, .ref q] ∧ FitAt P w C Cn Cb H a rs u rk sP fP ∧ H q = some (.tup [.int n.1, .int n.2]) ∧ n ∈ nmL rs u rk ∧
  ∀ H' l (l0 l1 l2 l3 l4 : Addr) (x0 x1 x2 x3 x4 : List V), Same H H' → H l = none → RsAt H' l [("elsewhere", l0, x0), ("struck", l1, x1), ("taken", l2, x2), ("barred", l3, x3), ("gives way", l4, x4)] → (x0 ≠ [] ↔ uE rs u sP n) → (x1 ≠ [] ↔ uS rs u n) → (x2 ≠ [] ↔ uT rs u rk n) → (x3 ≠ [] ↔ uB rs u fP n) → TpAll H' x4 ((waysL rs u rk sP fP n).map mD) → RsD H' x0 x1 x2 x3 rs u rk sP fP n → Q (.ref l) H'
/-- the first reason by which a name is unfit -/
def NoW (rs : List Row) (u : UpB) (rk : Int) (sP fP : Str → Prop) (n : Mo) (s : Str) : Prop := (s = "elsewhere" ∧ uE rs u sP n) ∨ (s = "struck" ∧ ¬ uE rs u sP n ∧ uS rs u n) ∨ (s = "taken" ∧ ¬ uE rs u sP n ∧ ¬ uS rs u n ∧ uT rs u rk n) ∨ (s = "barred" ∧ ¬ uE rs u sP n ∧ ¬ uS rs u n ∧ ¬ uT rs u rk n ∧ uB rs u fP n)
def WhyF (H : Hp) (x : V) (rs : List Row) (u : UpB) (rk : Int) (sP fP : Str → Prop) (n : Mo) : Prop :=
  (unf rs u rk sP fP n ∧ ∃ t s v, x = .ref t ∧ H t = some (.tup [.str s, v]) ∧ NoW rs u rk sP fP n s) ∨
  (¬ unf rs u rk sP fP n ∧ ∃ m R, waysL rs u rk sP fP n = m :: R ∧ ∃ t v, x = .ref t ∧ H t = some (.tup [.str "gives way", v]) ∧ Tp H v (mD m)) ∨
  (¬ unf rs u rk sP fP n ∧ waysL rs u rk sP fP n = [] ∧ x = .non)
def spFirst (P : Program) (w : World) (C Cn Cb : Addr) : Sp := fun vs H Q _ => ∃ (a q : Addr) (n : Mo) (rs : List Row) (u : UpB) (rk : Int) (sP fP : Str → Prop), vs = [.ref a, .ref q] ∧ FitAt P w C Cn Cb H a rs u rk sP fP ∧ H q = some (.tup [.int n.1, .int n.2]) ∧ n ∈ nmL rs u rk ∧ ∀ H' x, Same H H' → WhyF H' x rs u rk sP fP n → Q x H'
section
variable {P : Program} {w : World} {K : PySem.W.Frag} {mg : Str → Option Value} {base : Heap} {C Cn Cb Ct : Addr}
end
end KN


set_option Elab.async false
set_option linter.all false
set_option maxRecDepth 100000
set_option maxHeartbeats 4000000
namespace KN
open PySem L2
theorem nml_len (rs : List Row) (u : UpB) (rk : Int) : (nmL rs u rk).length ≤ rs.length := by
  unfold nmL; rw [List.length_map]; exact Nat.le_trans (List.length_filter_le _ _) (len_tN rs u)
section
variable {P : Program} {w : World} {K : PySem.W.Frag} {mg : Str → Option Value} {base : Heap} {C Cn Cb Ct : Addr}
end
end KN


set_option Elab.async false
set_option linter.all false
set_option maxRecDepth 100000
set_option maxHeartbeats 4000000
namespace KN
open PySem L2
def WhyN (H : Hp) (x : V) (rs : List Row) (u : UpB) (rk : Int) (sP fP : Str → Prop) (n : Mo) : Prop :=
  (unf rs u rk sP fP n ∧ ∃ t s v, x = .ref t ∧ H t = some (.tup [.str s, v]) ∧ NoW rs u rk sP fP n s) ∨
  (¬ unf rs u rk sP fP n ∧ ∃ m R, waysL rs u rk sP fP n = m :: R ∧ ∃ t v, x = .ref t ∧ H t = some (.tup [.str "gives way", v]) ∧ Tp H v (mD m)) ∨
  (¬ unf rs u rk sP fP n ∧ waysL rs u rk sP fP n = [] ∧ bestL rs u rk sP fP = some n ∧ x = .non) ∨
  (¬ unf rs u rk sP fP n ∧ waysL rs u rk sP fP n = [] ∧ ∃ b, bestL rs u rk sP fP = some b ∧ b ≠ n ∧ ∃ t v, x = .ref t ∧ H t = some (.tup [.str "younger", v]) ∧ Tp H v (mD b))
def spWhy (Ct Cb : Addr) : Sp := fun vs H Q _ => ∃ (b t na q : Addr) (uv : V) (n : Nd) (m : Mo) (pl : List (Str × Nd)) (L : List (Nd × Option Nd)) (rs : List Row) (u : Option Mo), vs = [.ref b, .ref t, .ref na, .ref q, uv] ∧ BookAt Cb H b rs ∧ TreeAt Ct H t pl L ∧ NdA H na n ∧ n ∈ L.map (·.1) ∧ UpV H uv u ∧ Told rs ∧ rs.length ≤ 40 ∧ H q = some (.tup [.int m.1, .int m.2]) ∧ m ∈ nmL rs (u, []) n.1 ∧
  ∀ H' x, Same H H' → WhyN H' x rs (u, []) n.1 (sPr pl L n) (fPr pl L n) m → Q x H'
def spRight (Ct Cb : Addr) : Sp := fun vs H Q _ => ∃ (b t na : Addr) (uv : V) (n : Nd) (pl : List (Str × Nd)) (L : List (Nd × Option Nd)) (rs : List Row) (u : Option Mo), vs = [.ref b, .ref t, .ref na, uv] ∧ BookAt Cb H b rs ∧ TreeAt Ct H t pl L ∧ NdA H na n ∧ n ∈ L.map (·.1) ∧ UpV H uv u ∧ Told rs ∧ rs.length ≤ 40 ∧
  ∀ H' x, Same H H' → Tp H' x (oD (bestL rs (u, []) n.1 (sPr pl L n) (fPr pl L n))) → Q x H'
section
variable {P : Program} {w : World} {K : PySem.W.Frag} {mg : Str → Option Value} {base : Heap} {C Cn Cb Ct : Addr}
end
end KN


set_option Elab.async false
set_option linter.all false
set_option maxRecDepth 100000
set_option maxHeartbeats 4000000
namespace KN
open PySem L2
/-! Kinds and what they lie in, as the law draws them. -/
def wAt (ws : List Str) (k : Nat) : Str := ws.getD k ""
def Nn (ws : List Str) (i : Nat) : List Nd := (List.range i).map fun k => ((0 : Int), wAt ws k)
theorem Nn_succ (ws : List Str) (i : Nat) : Nn ws (i + 1) = Nn ws i ++ [(0, wAt ws i)] := by unfold Nn; rw [List.range_succ, List.map_append]; rfl
theorem Nn_get {ws : List Str} {M i : Nat} {n : Nd} (h : (Nn ws M)[i]? = some n) : n = (0, wAt ws i) ∧ i < M := by
  unfold Nn at h
  rw [List.getElem?_map] at h
  obtain ⟨k, hk, rfl⟩ := Option.map_eq_some_iff.mp h
  obtain ⟨h1, h2⟩ := List.getElem?_eq_some_iff.mp hk
  rw [List.length_range] at h1
  rw [List.getElem_range] at h2
  subst h2
  exact ⟨rfl, h1⟩
theorem Nn_at {ws : List Str} {M i : Nat} (h : i < M) : (Nn ws M)[i]? = some (0, wAt ws i) := by
  unfold Nn
  rw [List.getElem?_map, List.getElem?_eq_getElem (by rw [List.length_range]; exact h), List.getElem_range]; rfl
theorem Nn_take {ws : List Str} {M i : Nat} (h : i ≤ M) : (Nn ws M).take i = Nn ws i := by
  unfold Nn; rw [← List.map_take, List.take_range, Nat.min_eq_left h]
theorem Nn_len (ws : List Str) (M : Nat) : (Nn ws M).length = M := by unfold Nn; rw [List.length_map, List.length_range]
theorem Nn_nd {ws : List Str} {M : Nat} (nd : ws.Nodup) (h : M ≤ ws.length) : (Nn ws M).Nodup := by
  refine List.pairwise_iff_getElem.mpr fun i j hi hj hij e => ?_
  rw [Nn_len] at hi hj
  have e1 := Nn_at (ws := ws) hi
  have e2 := Nn_at (ws := ws) hj
  rw [List.getElem?_eq_getElem (by rw [Nn_len]; exact hi)] at e1
  rw [List.getElem?_eq_getElem (by rw [Nn_len]; exact hj)] at e2
  have e3 : wAt ws i = wAt ws j := by
    have := (Option.some.inj e1).symm.trans (e.trans (Option.some.inj e2))
    exact congrArg Prod.snd this
  have g : ∀ k, (h : k < ws.length) → wAt ws k = ws[k] := fun k h => by unfold wAt; rw [List.getD_eq_getElem?_getD, List.getElem?_eq_getElem h]; rfl
  rw [g i (by omega), g j (by omega)] at e3
  exact List.pairwise_iff_getElem.mp nd i j (by omega) (by omega) hij e3
theorem set_app : ∀ {F : List (Nd × List Str)} {j : Nat} {n : Nd} {ss : List Str} {z : Str}, F[j]? = some (n, ss) → ((F.set j (n, ss ++ [z])).flatMap (·.2)).Perm (F.flatMap (·.2) ++ [z])
  | [], j, n, ss, z, h => by simp at h
  | k :: F, 0, n, ss, z, h => by
    rw [List.getElem?_cons_zero] at h
    cases h
    rw [List.set_cons_zero, List.flatMap_cons, List.flatMap_cons]
    show ((ss ++ [z]) ++ F.flatMap (·.2)).Perm (ss ++ F.flatMap (·.2) ++ [z])
    rw [List.append_assoc, List.append_assoc]
    exact List.Perm.append_left _ List.perm_append_comm
  | k :: F, j + 1, n, ss, z, h => by
    rw [List.getElem?_cons_succ] at h
    rw [List.set_cons_succ, List.flatMap_cons, List.flatMap_cons, List.append_assoc]
    exact List.Perm.append_left _ (set_app h)
theorem plOf_fst (F : List (Nd × List Str)) : (plOf F).map (·.1) = F.flatMap (·.2) := by
  unfold plOf
  rw [List.map_flatMap]
  congr 1
  funext k
  rw [List.map_map]
  show k.2.map (fun z => z) = k.2
  exact List.map_id' k.2
theorem par_put {H : Hp} {n : Nd} {o : Option Nd} {v : V} (tv : Tp H v (oN o)) (ok : PaOk (n, o)) : ∀ {kvs : List (List Key × V)} {ps : List (Nd × Option Nd)}, Paired (PaR H) kvs ps → (∀ p ∈ ps, PaOk p) → ∃ ps', Paired (PaR H) (putK kvs (nK n) v) ps' ∧ (∀ p ∈ ps', PaOk p) ∧ ps'.length ≤ ps.length + 1 := by
  intro kvs ps h hp
  cases e : valV kvs (nK n) with
  | none =>
    rw [putK_new _ e]
    refine ⟨ps ++ [(n, o)], h.snoc ⟨rfl, tv⟩, fun p hm => ?_, by rw [List.length_append]; exact Nat.le_refl _⟩
    rcases List.mem_append.mp hm with h | h
    · exact hp p h
    · rw [List.mem_singleton] at h; subst h; exact ok
  | some v0 =>
    have hany : (kvs.any fun kv => decide (kv.1 = nK n)) = true := by rw [valV_any, e]; rfl
    unfold putK
    rw [if_pos hany]
    clear e hany
    have : ∃ ps', Paired (PaR H) (kvs.map fun kv => if kv.1 = nK n then (kv.1, v) else kv) ps' ∧ (∀ p ∈ ps', PaOk p) ∧ ps'.length = ps.length := by
      induction h with
      | nil => exact ⟨[], .nil, (fun p h => (by cases h)), rfl⟩
      | @cons q p kvs ps f _ ih =>
        obtain ⟨ps', h1, h2, h3⟩ := ih fun p hm => hp p (List.mem_cons_of_mem _ hm)
        by_cases e : q.1 = nK n
        · refine ⟨(n, o) :: ps', ?_, fun p hm => ?_, by rw [List.length_cons, List.length_cons, h3]⟩
          · rw [List.map_cons, if_pos e]; exact .cons ⟨e, tv⟩ h1
          · rcases List.mem_cons.mp hm with h | h
            · subst h; exact ok
            · exact h2 p h
        · refine ⟨p :: ps', ?_, fun p' hm => ?_, by rw [List.length_cons, List.length_cons, h3]⟩
          · rw [List.map_cons, if_neg e]; exact .cons f h1
          · rcases List.mem_cons.mp hm with h | h
            · subst h; exact hp p' List.mem_cons_self
            · exact h2 p' h
    obtain ⟨ps', h1, h2, h3⟩ := this
    exact ⟨ps', h1, h2, by omega⟩
def XR (q : List Key × V) (x : Nd × Addr) : Prop := q.1 = nK x.1 ∧ q.2 = .ref x.2
theorem xr_val {kvs : List (List Key × V)} {xs : List (Nd × Addr)} (h : Paired XR kvs xs) (nd : (xs.map (·.1)).Nodup) {x : Nd × Addr} (hx : x ∈ xs) : valV kvs (nK x.1) = some (.ref x.2) := by
  induction h with
  | nil => cases hx
  | @cons q y kvs xs f _ ih =>
    rw [List.map_cons, List.nodup_cons] at nd
    rcases List.mem_cons.mp hx with e | hx
    · subst e; rw [valV_pos f.1, f.2]
    · rw [valV_neg (fun z => nd.1 (by rw [nK_inj (f.1.symm.trans z)]; exact List.mem_map.mpr ⟨x, hx, rfl⟩))]
      exact ih nd.2 hx
/-- the lists of sheets at their addresses -/
def FnR (H : Hp) (x : Nd × Addr) (k : Nd × List Str) : Prop := k.1 = x.1 ∧ H x.2 = some (.lst (k.2.map V.str))
theorem fnr_set {H H' : Hp} : ∀ {xs : List (Nd × Addr)} {F : List (Nd × List Str)} {j : Nat} {x : Nd × Addr} {ss : List Str} {z : Str}, Paired (FnR H) xs F → (xs.map (·.2)).Nodup → xs[j]? = some x → F[j]? = some (x.1, ss) → H' x.2 = some (.lst ((ss ++ [z]).map V.str)) → (∀ l, l ≠ x.2 → ∀ o, H l = some o → H' l = some o) → Paired (FnR H') xs (F.set j (x.1, ss ++ [z]))
  | _, _, j, x, ss, z, .nil, _, h, _, _, _ => by simp at h
  | y :: xs, k :: F, 0, x, ss, z, .cons f t, nd, h, hF, h1, h2 => by
    rw [List.getElem?_cons_zero] at h hF
    cases h; cases hF
    rw [List.map_cons, List.nodup_cons] at nd
    rw [List.set_cons_zero]
    refine .cons ⟨rfl, h1⟩ ?_
    have : ∀ {xs : List (Nd × Addr)} {F : List (Nd × List Str)}, Paired (FnR H) xs F → y.2 ∉ xs.map (·.2) → Paired (FnR H') xs F := by
      intro xs F h ni
      induction h with
      | nil => exact .nil
      | @cons w k xs F f _ ih =>
        rw [List.map_cons, List.mem_cons, not_or] at ni
        exact .cons ⟨f.1, h2 _ (fun e => ni.1 e.symm) _ f.2⟩ (ih ni.2)
    exact this t nd.1
  | y :: xs, k :: F, j + 1, x, ss, z, .cons f t, nd, h, hF, h1, h2 => by
    rw [List.getElem?_cons_succ] at h hF
    rw [List.map_cons, List.nodup_cons] at nd
    rw [List.set_cons_succ]
    refine .cons ⟨f.1, h2 _ (fun e => nd.1 ?_) _ f.2⟩ (fnr_set t nd.2 h hF h1 h2)
    rw [e]; exact List.mem_map.mpr ⟨x, List.mem_of_getElem? h, rfl⟩
theorem paired_mapl {α β γ : Type} {F : α → β → Prop} {G : γ → β → Prop} {f : α → γ} (h : ∀ a b, F a b → G (f a) b) : ∀ {xs : List α} {ys : List β}, Paired F xs ys → Paired G (xs.map f) ys
  | _, _, .nil => .nil
  | _, _, .cons a t => .cons (h _ _ a) (paired_mapl h t)
theorem paired_eq {α β γ : Type} {F : α → β → Prop} {f : α → γ} {g : β → γ} (h : ∀ a b, F a b → f a = g b) : ∀ {xs : List α} {ys : List β}, Paired F xs ys → ys.map g = xs.map f
  | _, _, .nil => rfl
  | _, _, .cons a t => by rw [List.map_cons, List.map_cons, paired_eq h t, h _ _ a]
theorem sub_flat : ∀ {F : List (Nd × List Str)} {k : Nd × List Str}, k ∈ F → k.2.Sublist (F.flatMap (·.2))
  | k' :: F, k, h => by
    rw [List.flatMap_cons]
    rcases List.mem_cons.mp h with e | h
    · subst e; exact List.sublist_append_left _ _
    · exact (sub_flat h).trans (List.sublist_append_right _ _)
def spParted : Sp := fun vs H Q _ => ∃ (p c : Addr) (b : Int) (la wa : Addr) (lot ws : List Str), vs = [.ref p, .ref la, .ref wa] ∧ Pen H p c b ∧ b ≤ 1000000000 ∧ H la = some (.lst (lot.map V.str)) ∧ H wa = some (.lst (ws.map V.str)) ∧ lot.length = 6 ∧ ws.length = 6 ∧ lot.Nodup ∧ ws.Nodup ∧ (∀ z ∈ lot, IsW z) ∧ (∀ z ∈ ws, IsW z) ∧
  ∀ H' T d d2 (ks : List (Nd × List Str)) (ps : List (Nd × Option Nd)), Kp p H H' → Pen H' p c (b + 30) → H' T = some (.tup [.ref d, .ref d2]) → KindsAt H' d ks → ParAt H' d2 ps → d ≠ d2 → (∀ k ∈ ks, KdOk k) → (∀ q ∈ ps, PaOk q) → ks.length ≤ 60 → ps.length ≤ 60 → ((plOf ks).map (·.1)).Nodup → (plOf ks).length ≤ 60 → (ks.map (·.1)).Nodup → Q (.ref T) H'
section
variable {P : Program} {w : World} {K : PySem.W.Frag} {mg : Str → Option Value} {base : Heap}
end
end KN


set_option Elab.async false
set_option linter.all false
set_option maxRecDepth 100000
set_option maxHeartbeats 4000000
namespace KN
open PySem L2
/-! Sheets dealt to kinds; nodes laid into nodes. -/
theorem kd_no {H : Hp} {kvs : List (List Key × V)} {ks : List (Nd × List Str)} (h : Paired (KdR H) kvs ks) {n : Nd} (e : valV kvs (nK n) = none) : n ∉ ks.map (·.1) := by
  induction h with
  | nil => exact fun h => by cases h
  | @cons q k kvs ks f _ ih =>
    rw [List.map_cons]
    by_cases g : q.1 = nK n
    · rw [valV_pos g] at e; cases e
    · rw [valV_neg g] at e
      refine fun h => ?_
      rcases List.mem_cons.mp h with h | h
      · exact g (by rw [f.1, h])
      · exact ih e h
theorem kd_val {H : Hp} {kvs : List (List Key × V)} {ks : List (Nd × List Str)} (h : Paired (KdR H) kvs ks) {n : Nd} {v : V} (e : valV kvs (nK n) = some v) : ∃ l old, v = .ref l ∧ H l = some (.lst (old.map V.str)) ∧ (n, old) ∈ ks := by
  induction h with
  | nil => cases e
  | @cons q k kvs ks f _ ih =>
    by_cases g : q.1 = nK n
    · rw [valV_pos g] at e; cases e
      obtain ⟨l, e1, e2⟩ := f.2
      exact ⟨l, k.2, e1, e2, by rw [← nK_inj (f.1.symm.trans g)]; exact List.mem_cons_self⟩
    · rw [valV_neg g] at e
      obtain ⟨l, old, h1, h2, h3⟩ := ih e
      exact ⟨l, old, h1, h2, List.mem_cons_of_mem _ h3⟩
theorem kd_put {H : Hp} {n : Nd} {old : List Str} {z : Str} {l' : Addr} (hl : H l' = some (.lst ((old ++ [z]).map V.str))) : ∀ {kvs : List (List Key × V)} {ks : List (Nd × List Str)}, Paired (KdR H) kvs ks → (ks.map (·.1)).Nodup → (n, old) ∈ ks →
    ∃ ks', Paired (KdR H) (kvs.map fun kv => if kv.1 = nK n then (kv.1, V.ref l') else kv) ks' ∧ ks'.map (·.1) = ks.map (·.1) ∧ (ks'.flatMap (·.2)).Perm (ks.flatMap (·.2) ++ [z]) ∧ ∀ k ∈ ks', k = (n, old ++ [z]) ∨ k ∈ ks
  | _, _, .nil, _, h => by cases h
  | q :: kvs, k :: ks, .cons f t, nd, h => by
    rw [List.map_cons, List.nodup_cons] at nd
    rcases List.mem_cons.mp h with e | h
    · have hk : k.1 = n := by rw [← e]
      have hk2 : k.2 = old := by rw [← e]
      have same : ∀ {kvs : List (List Key × V)} {ks : List (Nd × List Str)}, Paired (KdR H) kvs ks → n ∉ ks.map (·.1) → (kvs.map fun kv => if kv.1 = nK n then (kv.1, V.ref l') else kv) = kvs := by
        intro kvs ks t ni
        induction t with
        | nil => rfl
        | @cons q2 k2 kvs ks f2 _ ih =>
          rw [List.map_cons, List.mem_cons, not_or] at ni
          rw [List.map_cons, if_neg (fun z => ni.1 (nK_inj (f2.1.symm.trans z)).symm), ih ni.2]
      refine ⟨(n, old ++ [z]) :: ks, ?_, ?_, ?_, fun k' h' => ?_⟩
      · rw [List.map_cons, if_pos (by rw [f.1, hk]), same t (by rw [← hk]; exact nd.1)]
        exact .cons ⟨by rw [f.1, hk], l', rfl, hl⟩ t
      · rw [List.map_cons, List.map_cons, hk]
      · rw [List.flatMap_cons, List.flatMap_cons, hk2]
        show ((old ++ [z]) ++ ks.flatMap (·.2)).Perm (old ++ ks.flatMap (·.2) ++ [z])
        rw [List.append_assoc, List.append_assoc]
        exact List.Perm.append_left _ List.perm_append_comm
      · rcases List.mem_cons.mp h' with h' | h'
        · exact .inl h'
        · exact .inr (List.mem_cons_of_mem _ h')
    · have ne : k.1 ≠ n := fun e => nd.1 (by rw [e]; exact List.mem_map.mpr ⟨_, h, rfl⟩)
      obtain ⟨ks', h1, h2, h3, h4⟩ := kd_put hl t nd.2 h
      refine ⟨k :: ks', ?_, ?_, ?_, fun k' h' => ?_⟩
      · rw [List.map_cons, if_neg (fun z => ne (nK_inj (f.1.symm.trans z)))]
        exact .cons f h1
      · rw [List.map_cons, List.map_cons, h2]
      · rw [List.flatMap_cons, List.flatMap_cons, List.append_assoc]
        exact List.Perm.append_left _ h3
      · rcases List.mem_cons.mp h' with h' | h'
        · exact .inr (by rw [h']; exact List.mem_cons_self)
        · exact (h4 k' h').imp id (List.mem_cons_of_mem _)
theorem sub_len {α : Type} [DecidableEq α] : ∀ {xs ys : List α}, xs.Nodup → (∀ z ∈ xs, z ∈ ys) → xs.length ≤ ys.length
  | [], _, _, _ => Nat.zero_le _
  | x :: xs, ys, nd, h => by
    rw [List.nodup_cons] at nd
    have hx := h x List.mem_cons_self
    have := sub_len (ys := ys.erase x) nd.2 fun z hz => (List.mem_erase_of_ne (fun e => nd.1 (by rw [← e]; exact hz))).mpr (h z (List.mem_cons_of_mem _ hz))
    rw [List.length_erase_of_mem hx] at this
    have := List.length_pos_of_mem hx
    rw [List.length_cons]; omega
def NdsAt (H : Hp) (a : Addr) (ys : List (Addr × Nd)) : Prop := H a = some (.lst (ys.map fun y => V.ref y.1)) ∧ ∀ y ∈ ys, NdA H y.1 y.2 ∧ NdOk y.2
def spDealt : Sp := fun vs H Q _ => ∃ (p c l kl : Addr) (b : Int) (ss : List Str) (ys : List (Addr × Nd)), vs = [.ref p, .ref l, .ref kl] ∧ Pen H p c b ∧ b ≤ 1000000000 ∧ H l = some (.lst (ss.map V.str)) ∧ NdsAt H kl ys ∧ (∀ y ∈ ys, y.2.1 = 0) ∧ ys.length < 64 ∧ ss.Nodup ∧ ss.length ≤ 60 ∧ (∀ z ∈ ss, IsW z) ∧
  ∀ H' d ks, Kp p H H' → Pen H' p c (b + 60) → H d = none → KindsAt H' d ks → (∀ k ∈ ks, KdOk k) → ks.length ≤ ss.length → ((plOf ks).map (·.1)).Nodup → (plOf ks).length ≤ 60 → Q (.ref d) H'
def spLaid : Sp := fun vs H Q _ => ∃ (p c nl : Addr) (b : Int) (ys : List (Addr × Nd)), vs = [.ref p, .ref nl] ∧ Pen H p c b ∧ b ≤ 1000000000 ∧ NdsAt H nl ys ∧ ys.length ≤ 58 ∧
  ∀ H' d ps, Kp p H H' → Pen H' p c (b + 120) → H d = none → ParAt H' d ps → (∀ q ∈ ps, PaOk q) → ps.length ≤ ys.length → Q (.ref d) H'
section
variable {P : Program} {w : World} {K : PySem.W.Frag} {mg : Str → Option Value} {base : Heap}
theorem sc__law_dealt : FnScope ["_law_pen_here", "_law_sheets", "_law_kinds", "_law_found", "_law_sheet", "_law_at"] ["_law_pen_here", "_law_sheets", "_law_kinds"] (defScope s__law_dealt) := ⟨rfl, rfl, rfl, by decide +kernel, rfl, by decide +kernel, by decide +kernel⟩
theorem ok__law_dealt {f : Addr} {fd : FuncData} (F : Fun K "_law_dealt" "_law_dealt" s__law_dealt f fd) (m_len : mg "len" = none) (c__law_draw : C8.Cal P w K mg base 1 "_law_draw" spDraw []) : FnOk P w K mg base CX0 2 f fd ["_law_pen_here", "_law_sheets", "_law_kinds"] spDealt := by
  refine F.ok sc__law_dealt (fun vs H Q E h => ?_) (fun cdv A outer s H vs Q E hr h => ?_)
  · obtain ⟨p, c, l, kl, b, ss, ys, rfl, _⟩ := h; rfl
  · obtain ⟨p, c, l, kl, b, ss, ys, rfl, pen, hb, hl, ⟨hkl, hys⟩, h0, ly, nd, l60, hw, k⟩ := h
    have hu := hu_of hr
    refine ⟨_, (pss_cons (ps_set (i := 3) sc__law_dealt.nd rfl (Or.inl rfl) pe_dnewT)
      (pss_cons (ps_for PassesOwn.never rfl (pi_list (pv 1)) (pg_name (i := 4) sc__law_dealt.nd rfl (Or.inl rfl))
      (pss_cons (ps_set (i := 5) sc__law_dealt.nd rfl (Or.inl rfl) (C8.pe_c c__law_draw hr (by decide) rfl (pa_cons (pv 0) (pa_cons (pe_op op_add (pe_callB call_len_seq (by rfl) m_len (by decide +kernel) (pa_cons (pv 2) pa_nil)) pe_int) pa_nil))))
      (pss_one (ps_if (pt_cmpR op_lt (pv 5) (pe_callB call_len_seq (by rfl) m_len (by decide +kernel) (pa_cons (pv 2) pa_nil)) (nomark _)) (pss_one (ps_dput hu (pv 3) (pe_ix ix_list (pv 2) (pv 5) (fun _ _ => rfl)) (pe_op op_cat (pe_dget2 hu (pv 3) (pe_ix ix_list (pv 2) (pv 5) (fun _ _ => rfl)) (pe_lst pa_nil) ⟨rfl, rfl, rfl, rfl⟩) (pe_lst (pa_cons (pv 4) pa_nil))) rfl)) pss_nil))))
      (pss_one (ps_ret (pv 3))))), ?_⟩
    refine fun d hd => ?_
    have nd_ := pen.off hd
    have pen0 := pen.put (o := .dT []) nd_
    have sd := Same.new (o := .dT []) hd
    have hpl := pen.ne hl
    have hpk := pen.ne hkl
    have ndl : l ≠ d := ne_of_none hl hd
    have ndk : kl ≠ d := ne_of_none hkl hd
    refine ⟨_, rfl, l, rfl, ⟨_, SqL.of (sd _ _ hl)⟩, ?_⟩
    refine for_list (K := K) (a := l) (xs := ss.map V.str) (fun i σ' H' => ∃ (v4 v5 : Option V) (kvs : List (List Key × V)) (ks : List (Nd × List Str)), σ' = [some (.ref p), some (.ref l), some (.ref kl), some (.ref d), v4, v5] ∧ (∀ a o, a ≠ p → a ≠ d → H a = some o → H' a = some o) ∧ Pen H' p c (b + i) ∧
        H' d = some (.dT kvs) ∧ Paired (KdR H') kvs ks ∧ (ks.map (·.1)).Nodup ∧ (∀ k ∈ ks, k.1 ∈ ys.map (·.2) ∧ k.2 ≠ []) ∧ (ks.flatMap (·.2)).Nodup ∧ (∀ z ∈ ks.flatMap (·.2), z ∈ ss.take i) ∧ ks.length ≤ i)
      ⟨none, none, [], [], rfl, fun a o _ _ e => sd _ _ e, pen0.up (by omega), upd_same, .nil, List.nodup_nil, (fun _ h => by cases h), List.nodup_nil, (fun _ h => by cases h), Nat.le_refl _⟩
      (fun i σ' H' _ ⟨_, _, _, _, _, k2, _⟩ => SqL.of (k2 _ _ hpl ndl hl)) ?_ ?_
    · rintro i x σ6 H6 hi ⟨v4, v5, kvs, ks, rfl, k6, pen6, hd6, pr, n1, sub, n2, sin, lk⟩
      rw [List.getElem?_map] at hi
      obtain ⟨z, hz, rfl⟩ : ∃ z, ss[i]? = some z ∧ x = .str z := by
        cases e : ss[i]? with
        | none => rw [e] at hi; cases hi
        | some z => rw [e] at hi; exact ⟨z, rfl, (Option.some.inj hi).symm⟩
      have hil : i < ss.length := (List.getElem?_eq_some_iff.mp hz).1
      have step : ss.take (i + 1) = ss.take i ++ [z] := by rw [List.take_add_one, hz]; rfl
      have hkl6 := k6 _ _ hpk ndk hkl
      refine ⟨_, rfl, _, rfl, kl, _, rfl, .inl (SqL.of hkl6), _, _, rfl, rfl, p, c, _, _, rfl, pen6, by omega, by rw [List.length_map]; omega, by rw [List.length_map]; omega, fun H7 r k7 pen7 r0 r1 => ?_⟩
      rw [List.length_map] at r1
      have hkl7 := k7 _ _ hpk hkl6
      have hd7 := k7 _ _ nd_.1 hd6
      have tk7 := pen6.tk k7
      have nlp : ∀ {a : Addr} {xs : List V}, H6 a = some (.lst xs) → a ≠ p := fun e => pen6.ne e
      have pr7 : Paired (KdR H7) kvs ks := L2.Paired.mapP pr fun _ _ f => ⟨f.1, f.2.imp fun l g => ⟨g.1, k7 _ _ (nlp g.2) g.2⟩⟩
      refine ⟨_, rfl, _, rfl, kl, _, rfl, .inl (SqL.of hkl7), _, _, rfl, rfl, _, rfl, ite2 (fun h1 => ?_) (fun h1 => ?_)⟩
      · have h1 := of_decide_eq_true h1
        rw [List.length_map] at h1
        obtain ⟨y, hy⟩ : ∃ y, ys[r.toNat]? = some y := ⟨_, List.getElem?_eq_getElem (by omega)⟩
        have hym := List.mem_of_getElem? hy
        have hat : atI (ys.map fun y => V.ref y.1) r = some (.ref y.1) := at_ofG r0 (by rw [List.getElem?_map, hy]; rfl)
        obtain ⟨ha0, hok⟩ := hys y hym
        have ha7 : NdA H7 y.1 y.2 := k7 _ _ (fun z => by obtain ⟨_, _, _, e1, _⟩ := pen; unfold NdA at ha0; rw [z, e1] at ha0; cases ha0) (k6 _ _ (fun z => by obtain ⟨_, _, _, e1, _⟩ := pen; unfold NdA at ha0; rw [z, e1] at ha0; cases ha0) (ne_of_none ha0 hd) ha0)
        have lkv : kvs.length = ks.length := Paired.length pr
        refine ⟨_, rfl, d, rfl, .inr ⟨_, Rd.of hd7⟩, _, rfl, _, rfl, kl, _, _, _, rfl, rfl, SqL.of hkl7, hat, Nat.zero_le _, fun l0 hl0 => ?_⟩
        have s0 := Same.new (o := .lst []) hl0
        refine ⟨_, DGet.n (s0 _ _ hd7) (s0 _ _ ha7), ?_⟩
        obtain ⟨lo, old, ev, hlo, hold⟩ : ∃ lo old, (valV kvs (nK y.2)).getD (V.ref l0) = .ref lo ∧ upd H7 l0 (.lst []) lo = some (.lst (old.map V.str)) ∧ ((valV kvs (nK y.2) = none ∧ old = []) ∨ (valV kvs (nK y.2) ≠ none ∧ (y.2, old) ∈ ks)) := by
          cases e : valV kvs (nK y.2) with
          | none => exact ⟨l0, [], rfl, upd_same, .inl ⟨rfl, rfl⟩⟩
          | some v =>
            obtain ⟨lo, old, e1, e2, e3⟩ := kd_val pr7 e
            exact ⟨lo, old, e1, s0 _ _ e2, .inr ⟨nofun, e3⟩⟩
        rw [ev]
        refine ⟨_, rfl, by show 1 ≤ sizeLine; decide, fun l1 hl1 => ?_⟩
        have s1 := Same.new (o := .lst [V.str z]) hl1
        have flen : ∀ k ∈ ks, k.2.length ≤ i := fun k hk => by
          have h1 := (sub_flat hk).length_le
          have h2 : (ks.flatMap (·.2)).length ≤ (ss.take i).length := sub_len n2 sin
          rw [List.length_take] at h2; omega
        have lold : old.length ≤ i := by
          rcases hold with ⟨_, e⟩ | ⟨_, e⟩
          · rw [e]; exact Nat.zero_le _
          · exact flen _ e
        refine ⟨lo, l1, _, _, rfl, rfl, s1 _ _ hlo, upd_same, by rw [List.length_map]; exact Nat.le_trans (by simp only [List.length_singleton]; omega : _ ≤ 1000) (by decide), fun l2 hl2 => ?_⟩
        have s2 := Same.new (o := .lst (old.map V.str ++ [V.str z])) hl2
        have s02 := (s0.trans s1).trans s2
        refine ⟨_, rfl, _, rfl, _, rfl, kl, _, _, _, rfl, rfl, SqL.of (s02 _ _ hkl7), hat, d, _, rfl, DPut.t (k := nK y.2) (s02 _ _ hd7) (s02 _ _ ha7) (Nat.lt_of_le_of_lt (by omega : kvs.length ≤ 60) (by decide)), ?_⟩
        have nl2d : l2 ≠ d := fun e => by
          have := (s0.trans s1) _ _ hd7
          rw [← e, hl2] at this; cases this
        have hl2' : (upd (upd (upd H7 l0 (.lst [])) l1 (.lst [V.str z])) l2 (.lst (old.map V.str ++ [V.str z]))) l2 = some (.lst ((old ++ [z]).map V.str)) := by rw [upd_same, List.map_append]; rfl
        generalize upd (upd (upd H7 l0 (.lst [])) l1 (.lst [V.str z])) l2 (.lst (old.map V.str ++ [V.str z])) = H8 at s02 hl2' ⊢
        have hd8 := s02 _ _ hd7
        have keep : ∀ a o, a ≠ d → H8 a = some o → upd H8 d (.dT (putK kvs (nK y.2) (.ref l2))) a = some o := fun a o n e => by rw [upd_ne n]; exact e
        have pr9 : Paired (KdR (upd H8 d (.dT (putK kvs (nK y.2) (.ref l2))))) kvs ks := L2.Paired.mapP pr7 fun _ _ f => ⟨f.1, f.2.imp fun l g => ⟨g.1, keep _ _ (fun e => by rw [e, hd7] at g; cases g.2) (s02 _ _ g.2)⟩⟩
        have hl9 := keep _ _ nl2d hl2'
        have znew : z ∉ ks.flatMap (·.2) := fun h => by
          have h2 := sin z h
          obtain ⟨j, hj⟩ := List.mem_iff_getElem?.mp h2
          rw [List.getElem?_take] at hj
          split at hj
          · rename_i hji
            obtain ⟨hjl, e1⟩ := List.getElem?_eq_some_iff.mp hj
            obtain ⟨_, e2⟩ := List.getElem?_eq_some_iff.mp hz
            exact absurd (e1.trans e2.symm) (List.pairwise_iff_getElem.mp nd j i hjl hil hji)
          · cases hj
        obtain ⟨ks', g1, g2, g3, g4, g5⟩ : ∃ ks', Paired (KdR (upd H8 d (.dT (putK kvs (nK y.2) (.ref l2))))) (putK kvs (nK y.2) (.ref l2)) ks' ∧ (ks'.map (·.1)).Nodup ∧ (∀ k ∈ ks', k.1 ∈ ys.map (·.2) ∧ k.2 ≠ []) ∧ (ks'.flatMap (·.2)).Perm (ks.flatMap (·.2) ++ [z]) ∧ ks'.length ≤ i + 1 := by
          rcases hold with ⟨e, e0⟩ | ⟨e, hm⟩
          · refine ⟨ks ++ [(y.2, [z])], ?_, ?_, fun k hk => ?_, ?_, by rw [List.length_append]; simp only [List.length_singleton]; omega⟩
            · rw [putK_new _ e] at hl9 pr9 ⊢
              exact pr9.snoc ⟨rfl, l2, rfl, by rw [e0] at hl9; exact hl9⟩
            · rw [List.map_append]
              exact List.nodup_append.mpr ⟨n1, List.pairwise_singleton _ _, fun x hx y' hy' exy => by
                rw [List.mem_singleton.mp hy'] at exy
                exact kd_no pr7 e (by have e9 : x = y.2 := exy; rw [← e9]; exact hx)⟩
            · rcases List.mem_append.mp hk with h | h
              · exact sub k h
              · rw [List.mem_singleton] at h; subst h; exact ⟨List.mem_map.mpr ⟨y, hym, rfl⟩, nofun⟩
            · rw [List.flatMap_append]; exact List.Perm.refl _
          · obtain ⟨ks', h1', h2', h3', h4'⟩ := kd_put hl9 pr9 n1 hm
            have hany : (kvs.any fun kv => decide (kv.1 = nK y.2)) = true := by
              rw [valV_any]
              cases e9 : valV kvs (nK y.2) with
              | none => exact absurd e9 e
              | some _ => rfl
            have epu : putK kvs (nK y.2) (.ref l2) = kvs.map fun kv => if kv.1 = nK y.2 then (kv.1, V.ref l2) else kv := by unfold putK; rw [if_pos hany]
            refine ⟨ks', by rw [epu] at h1' ⊢; exact h1', by rw [h2']; exact n1, fun k hk => ?_, h3', by have := congrArg List.length h2'; rw [List.length_map, List.length_map] at this; omega⟩
            rcases h4' k hk with h | h
            · rw [h]; exact ⟨List.mem_map.mpr ⟨y, hym, rfl⟩, by simp⟩
            · exact sub k h
        refine ⟨_, _, _, ks', rfl, fun a o n1' n2' e => ?_, ?_, upd_same, g1, g2, g3, ?_, fun u hu' => ?_, g5⟩
        · exact keep _ _ n2' (s02 _ _ (k7 _ _ n1' (k6 _ _ n1' n2' e)))
        · exact ((pen7.to s02).put nd_).up (by omega)
        · refine g4.nodup_iff.mpr (List.nodup_append.mpr ⟨n2, List.pairwise_singleton _ _, fun x hx y' hy' exy => ?_⟩)
          rw [List.mem_singleton.mp hy'] at exy
          exact znew (by rw [← exy]; exact hx)
        · rw [step]
          rcases List.mem_append.mp (g4.mem_iff.mp hu') with h | h
          · exact List.mem_append_left _ (sin u h)
          · exact List.mem_append_right _ h
      · refine ⟨_, _, kvs, ks, rfl, fun a o n1' n2' e => k7 _ _ n1' (k6 _ _ n1' n2' e), pen7.up (by omega), hd7, pr7, n1, sub, n2, fun u hu' => ?_, by omega⟩
        rw [step]; exact List.mem_append_left _ (sin u hu')
    · rintro σ6 H6 ⟨v4, v5, kvs, ks, rfl, k6, pen6, hd6, pr, n1, sub, n2, sin, lk⟩
      rw [List.length_map] at lk pen6 sin
      rw [List.take_length] at sin
      have hfl : (ks.flatMap (·.2)).length ≤ ss.length := sub_len n2 sin
      refine ⟨_, rfl, k H6 d ks (fun a o n e => k6 a o n (ne_of_none e hd) e) (pen6.up (by omega)) hd ⟨kvs, hd6, pr⟩ (fun q hq => ?_) (by omega) (by rw [plOf_fst]; exact n2) (by have := congrArg List.length (plOf_fst ks); rw [List.length_map] at this; omega)⟩
      obtain ⟨h1, h2⟩ := sub q hq
      obtain ⟨y, hy, e⟩ := List.mem_map.mp h1
      have sf := sub_flat hq
      refine ⟨by rw [← e]; exact (hys y hy).2, by rw [← e]; exact h0 y hy, h2, by have := sf.length_le; omega, sf.nodup n2, fun z hz => hw z (sin z (sf.subset hz))⟩
theorem sc__law_laid : FnScope ["_law_pen_here", "_law_nodes_here", "_law_found", "_law_node", "_law_over", "_law_one"] ["_law_pen_here", "_law_nodes_here"] (defScope s__law_laid) := ⟨rfl, rfl, rfl, by decide +kernel, rfl, by decide +kernel, by decide +kernel⟩
theorem ok__law_laid {f : Addr} {fd : FuncData} (F : Fun K "_law_laid" "_law_laid" s__law_laid f fd) (c__law_draw : C8.Cal P w K mg base 1 "_law_draw" spDraw []) (c__law_pick : C8.Cal P w K mg base 2 "_law_pick" spPick []) : FnOk P w K mg base CX0 3 f fd ["_law_pen_here", "_law_nodes_here"] spLaid := by
  refine F.ok sc__law_laid (fun vs H Q E h => ?_) (fun cdv A outer s H vs Q E hr h => ?_)
  · obtain ⟨p, c, nl, b, ys, rfl, _⟩ := h; rfl
  · obtain ⟨p, c, nl, b, ys, rfl, pen, hb, ⟨hnl, hys⟩, ly, k⟩ := h
    have hu := hu_of hr
    refine ⟨_, (pss_cons (ps_set (i := 2) sc__law_laid.nd rfl (Or.inl rfl) pe_dnewT)
      (pss_cons (ps_for PassesOwn.never rfl (pi_list (pv 1)) (pg_name (i := 3) sc__law_laid.nd rfl (Or.inr rfl))
      (pss_cons (ps_set (i := 4) sc__law_laid.nd rfl (Or.inl rfl) (pe_op op_cat (pe_lc (own := [("_law_one", 5)]) (g := gName 5) rfl sc__law_laid.nd (pi_list (pv 1)) (blkOk_by (own := [("_law_one", 5)]) (N := ["_law_pen_here", "_law_nodes_here", "_law_found", "_law_node", "_law_over", "_law_one"]) (sc := defScope s__law_laid) (by decide +kernel)) (fun _ _ _ _ _ => pg_name (i := 5) sc__law_laid.nd rfl (Or.inl rfl)) (fun _ _ _ _ _ => (pts_one (pt_cmpR op_gt (pe_ix (ix_tupK K) (pv 5) pe_int (fun _ _ => rfl)) (pe_ix (ix_tupK K) (pv 3) pe_int (fun _ _ => rfl)) (nomark _)))) (fun _ _ _ _ _ => (pv 5))) (pe_lst (pa_cons pe_non pa_nil))))
      (pss_one (ps_if (pt_cmpR op_gt (C8.pe_c c__law_draw hr (by decide) rfl (pa_cons (pv 0) (pa_cons pe_int pa_nil))) pe_int (nomark _)) (pss_one (ps_dput hu (pv 2) (pv 3) (C8.pe_c c__law_pick hr (by decide) rfl (pa_cons (pv 0) (pa_cons (pv 4) pa_nil))) rfl)) pss_nil))))
      (pss_one (ps_ret (pv 2))))), ?_⟩
    refine fun d hd => ?_
    have nd_ := pen.off hd
    have pen0 := pen.put (o := .dT []) nd_
    have sd := Same.new (o := .dT []) hd
    have hpn := pen.ne hnl
    have ndn : nl ≠ d := ne_of_none hnl hd
    have offp : ∀ {a : Addr} {n : Nd}, NdA H a n → a ≠ p ∧ a ≠ d := fun e => ⟨fun z => (by obtain ⟨_, _, _, e1, _⟩ := pen; unfold NdA at e; rw [z, e1] at e; cases e), ne_of_none e hd⟩
    refine ⟨_, rfl, nl, rfl, ⟨_, SqL.of (sd _ _ hnl)⟩, ?_⟩
    refine for_list (K := K) (a := nl) (xs := ys.map fun y => V.ref y.1) (fun i σ' H' => ∃ (v3 v4 v5 : Option V) (kvs : List (List Key × V)) (ps : List (Nd × Option Nd)), σ' = [some (.ref p), some (.ref nl), some (.ref d), v3, v4, v5] ∧ (∀ a o, a ≠ p → a ≠ d → H a = some o → H' a = some o) ∧ Pen H' p c (b + 2 * i) ∧
        H' d = some (.dT kvs) ∧ Paired (PaR H') kvs ps ∧ (∀ q ∈ ps, PaOk q) ∧ ps.length ≤ i)
      ⟨none, none, none, [], [], rfl, fun a o _ _ e => sd _ _ e, pen0.up (by omega), upd_same, .nil, (fun _ h => by cases h), Nat.le_refl _⟩
      (fun i σ' H' _ ⟨_, _, _, _, _, _, k2, _⟩ => SqL.of (k2 _ _ hpn ndn hnl)) ?_ ?_
    · rintro i x σ6 H6 hi ⟨v3, v4, v5, kvs, ps, rfl, k6, pen6, hd6, pr, pok, lk⟩
      rw [List.getElem?_map] at hi
      obtain ⟨y, hy, rfl⟩ : ∃ y, ys[i]? = some y ∧ x = .ref y.1 := by
        cases e : ys[i]? with
        | none => rw [e] at hi; cases hi
        | some y => rw [e] at hi; exact ⟨y, rfl, (Option.some.inj hi).symm⟩
      have hil : i < ys.length := (List.getElem?_eq_some_iff.mp hy).1
      have hym := List.mem_of_getElem? hy
      obtain ⟨ha0, hok⟩ := hys y hym
      have nd6 : ∀ u ∈ ys, NdA H6 u.1 u.2 := fun u hu' => k6 _ _ (offp (hys u hu').1).1 (offp (hys u hu').1).2 (hys u hu').1
      have hnl6 := k6 _ _ hpn ndn hnl
      refine ⟨_, rfl, nl, rfl, ⟨_, SqL.of hnl6⟩, fun D hD => ?_⟩
      refine lc_list (K := K) (a := nl) (xs := ys.map fun y => V.ref y.1) (fun j H' => Same H6 H' ∧ ∃ zs : List (Addr × Nd), H' D = some (.lst (zs.map fun y => V.ref y.1)) ∧ zs.length ≤ j ∧ ∀ u ∈ zs, u ∈ ys ∧ y.2.1 < u.2.1)
        ⟨Same.new hD, [], upd_same, Nat.le_refl _, fun _ h => by cases h⟩ (fun j H' _ q => SqL.of (q.1 _ _ hnl6)) ?_ ?_
      · rintro j x H7 hj ⟨s7, zs, e7, lz, hz⟩
        rw [List.getElem?_map] at hj
        obtain ⟨u, hu1, rfl⟩ : ∃ u, ys[j]? = some u ∧ x = .ref u.1 := by
          cases e : ys[j]? with
          | none => rw [e] at hj; cases hj
          | some u => rw [e] at hj; exact ⟨u, rfl, (Option.some.inj hj).symm⟩
        have hum := List.mem_of_getElem? hu1
        have hjl : j < ys.length := (List.getElem?_eq_some_iff.mp hu1).1
        refine ⟨rfl, _, rfl, _, _, _, _, rfl, rfl, SqT.of (s7 _ _ (nd6 u hum)), at_of (j := 0) rfl rfl, _, rfl, _, _, _, _, rfl, rfl, SqT.of (s7 _ _ (nd6 y hym)), at_of (j := 0) rfl rfl, _, _, rfl, rfl, ?_⟩
        by_cases q : y.2.1 < u.2.1
        · refine ⟨_, rfl, ?_⟩
          rw [show ∀ I : Decidable (y.2.1 < u.2.1), @decide _ I = true from fun I => @decide_eq_true _ I q]
          refine iteT ⟨_, rfl, _, e7, by rw [List.length_map]; exact small1000 (by omega), fun a o e => ?_, zs ++ [u], by rw [upd_same, List.map_append]; rfl, by rw [List.length_append, List.length_singleton]; omega, fun u' h' => ?_⟩
          · rw [upd_ne (ne_of_none e hD)]; exact s7 _ _ e
          · rcases List.mem_append.mp h' with h | h
            · exact hz u' h
            · rw [List.mem_singleton] at h; subst h; exact ⟨hum, q⟩
        · refine ⟨_, rfl, ?_⟩
          rw [show ∀ I : Decidable (y.2.1 < u.2.1), @decide _ I = false from fun I => @decide_eq_false _ I q]
          exact iteF ⟨s7, zs, e7, by omega, hz⟩
      · rintro H7 ⟨s7, zs, e7, lz, hz⟩
        rw [List.length_map] at lz
        refine ⟨by show 1 ≤ sizeLine; decide, fun l1 hl1 => ?_⟩
        have s1 := Same.new (o := .lst [V.non]) hl1
        refine ⟨D, l1, _, _, rfl, rfl, s1 _ _ e7, upd_same, by rw [List.length_map]; exact Nat.le_trans (by simp only [List.length_singleton]; omega : _ ≤ 1000) (by decide), fun l2 hl2 => ?_⟩
        have s2 := Same.new (o := .lst (zs.map (fun y => V.ref y.1) ++ [V.non])) hl2
        have e2 : (upd (upd H7 l1 (.lst [V.non])) l2 (.lst (zs.map (fun y => V.ref y.1) ++ [V.non]))) l2 = some (.lst (zs.map (fun y => V.ref y.1) ++ [V.non])) := upd_same
        have s02 := (s7.trans s1).trans s2
        generalize upd (upd H7 l1 (.lst [V.non])) l2 (.lst (zs.map (fun y => V.ref y.1) ++ [V.non])) = H8 at s02 e2 ⊢
        have pen8 := pen6.to s02
        refine ⟨_, rfl, p, c, _, 5, rfl, pen8, by omega, by decide, by decide, fun H9 r k9 pen9 r0 r1 => ⟨_, _, rfl, rfl, _, rfl, ite2 (fun h1 => ?_) (fun h1 => ?_)⟩⟩
        · have e9 := k9 _ _ (pen8.ne e2) e2
          refine ⟨_, rfl, _, rfl, p, c, l2, _, _, rfl, pen9, by omega, e9, by simp, by rw [List.length_append, List.length_map]; simp only [List.length_singleton]; omega, fun Ha v ka pena hv => ?_⟩
          have tk6 : TK H6 Ha := ((TK.of s02).trans (pen8.tk k9)).trans (pen9.tk ka)
          have hda := ka _ _ nd_.1 (k9 _ _ nd_.1 (s02 _ _ hd6))
          have tkp : TK Ha (upd Ha d (.dT (putK kvs (nK y.2) v))) := TK.put hda (by intro z; exact nofun)
          obtain ⟨o, tv, hpo⟩ : ∃ o, Tp Ha v (oN o) ∧ PaOk (y.2, o) := by
            rcases List.mem_append.mp hv with h | h
            · obtain ⟨u, hu1, rfl⟩ := List.mem_map.mp h
              exact ⟨some u.2, Tp.nd (tk6 _ _ (nd6 u (hz u hu1).1)), hok, fun x e => by cases e; exact ⟨(hys u (hz u hu1).1).2, (hz u hu1).2⟩⟩
            · rw [List.mem_singleton] at h; subst h
              exact ⟨none, .non, hok, fun x e => by cases e⟩
          have pra : Paired (PaR (upd Ha d (.dT (putK kvs (nK y.2) v)))) kvs ps := L2.Paired.mapP pr fun _ _ f => ⟨f.1, f.2.to (tk6.trans tkp)⟩
          obtain ⟨ps', g1, g2, g3⟩ := par_put (tv.to tkp) hpo pra pok
          have lkv : kvs.length = ps.length := Paired.length pr
          refine ⟨_, rfl, _, rfl, d, _, rfl, DPut.t (k := nK y.2) hda (tk6 _ _ (nd6 y hym)) (Nat.lt_of_le_of_lt (by omega : kvs.length ≤ 60) (by decide)), ?_⟩
          refine ⟨_, _, _, _, ps', rfl, fun a o n1 n2 e => ?_, (pena.put nd_).up (by omega), upd_same, g1, g2, by omega⟩
          rw [upd_ne n2]
          exact ka _ _ n1 (k9 _ _ n1 (s02 _ _ (k6 _ _ n1 n2 e)))
        · refine ⟨_, _, _, kvs, ps, rfl, fun a o n1 n2 e => k9 _ _ n1 (s02 _ _ (k6 _ _ n1 n2 e)), pen9.up (by omega), k9 _ _ nd_.1 (s02 _ _ hd6), L2.Paired.mapP pr fun _ _ f => ⟨f.1, f.2.to ((TK.of s02).trans (pen8.tk k9))⟩, pok, by omega⟩
    · rintro σ6 H6 ⟨v3, v4, v5, kvs, ps, rfl, k6, pen6, hd6, pr, pok, lk⟩
      rw [List.length_map] at lk pen6
      exact ⟨_, rfl, k H6 d ps (fun a o n e => k6 a o n (ne_of_none e hd) e) (pen6.up (by omega)) hd ⟨kvs, hd6, pr⟩ pok (by omega)⟩
end
end KN


set_option Elab.async false
set_option linter.all false
set_option maxRecDepth 100000
set_option maxHeartbeats 4000000
namespace KN
open PySem L2
/-! Nodes drawn, a scene, a tree grown. -/
def spNodesL : Sp := fun vs H Q _ => ∃ (p c : Addr) (b ki ot : Int), vs = [.ref p, .int ki, .int ot] ∧ Pen H p c b ∧ b ≤ 100000000 ∧ 1 ≤ ki ∧ ki ≤ 6 ∧ 0 ≤ ot ∧ ot ≤ 8 ∧
  ∀ (H' : Hp) (l : Addr) (ys : List (Addr × Nd)), Kp p H H' → Pen H' p c (b + 60) → H l = none → NdsAt H' l ys → ys.length ≤ 48 → (∃ y ∈ ys, y.2.1 = 0) → Q (.ref l) H'
theorem cut_strs (ws : List Str) (lo hi : Option Int) : ∃ vs : List Str, cutV (ws.map V.str) lo hi = vs.map V.str ∧ vs.Sublist ws := by
  unfold cutV
  rw [← List.map_drop, ← List.map_take]
  exact ⟨_, rfl, (List.take_sublist _ _).trans (List.drop_sublist _ _)⟩
theorem NdsAt.to {H H' : Hp} {a : Addr} {ys : List (Addr × Nd)} (h : NdsAt H a ys) (h1 : H' a = H a) (k : TK H H') : NdsAt H' a ys := ⟨by rw [h1]; exact h.1, fun y hy => ⟨k _ _ (h.2 y hy).1, (h.2 y hy).2⟩⟩
section
variable {P : Program} {w : World} {K : PySem.W.Frag} {mg : Str → Option Value} {base : Heap} {C : Addr}
theorem sc__law_nodes : FnScope ["_law_pen_here", "_law_kinds", "_law_others", "_law_words_here", "_law_found", "_law_word"] ["_law_pen_here", "_law_kinds", "_law_others"] (defScope s__law_nodes) := ⟨rfl, rfl, rfl, by decide +kernel, rfl, by decide +kernel, by decide +kernel⟩
theorem ok__law_nodes {f : Addr} {fd : FuncData} (F : Fun K "_law_nodes" "_law_nodes" s__law_nodes f fd) (m_sorted : mg "sorted" = none) (m_set : mg "set" = none) (c__law_words : C8.Cal P w K mg base 3 "_law_words" spWordsL []) (c__law_pick : C8.Cal P w K mg base 2 "_law_pick" spPick []) : FnOk P w K mg base CX0 4 f fd ["_law_pen_here", "_law_kinds", "_law_others"] spNodesL := by
  refine F.ok sc__law_nodes (fun vs H Q E h => ?_) (fun cdv A outer s H vs Q E hr h => ?_)
  · obtain ⟨p, c, b, ki, ot, rfl, _⟩ := h; rfl
  · obtain ⟨p, c, b, ki, ot, rfl, pen, hb, k1_, k6_, o0, o3, k⟩ := h
    have hu := hu_of hr
    refine ⟨_, (pss_cons (ps_set (i := 3) sc__law_nodes.nd rfl (Or.inl rfl) (C8.pe_c c__law_words hr (by decide) rfl (pa_cons (pv 0) (pa_cons (pe_op op_add (pv 1) (pv 2)) pa_nil))))
      (pss_cons (ps_setLc (i := 4) (own := [("_law_word", 5)]) (g := gName 5) (tt := tYes) rfl sc__law_nodes.nd rfl rfl (sw_true rfl rfl rfl (by decide +kernel)) (pi_list (pe_slice sl_list (pv 3) po_none (po_some (pv 1)))) (blkOk_by (own := [("_law_word", 5)]) (N := ["_law_pen_here", "_law_kinds", "_law_others", "_law_words_here", "_law_found", "_law_word"]) (sc := defScope s__law_nodes) (by decide +kernel)) (fun _ _ _ _ _ => pg_name (i := 5) sc__law_nodes.nd rfl (Or.inl rfl)) (fun _ _ _ _ _ => pts_nil) (fun _ _ _ _ _ => (pe_tup (pa_cons pe_int (pa_cons (pv 5) pa_nil)))))
      (pss_cons (ps_for PassesOwn.never rfl (pi_list (pe_slice sl_list (pv 3) (po_some (pv 1)) po_none)) (pg_name (i := 5) sc__law_nodes.nd rfl (Or.inl rfl))
      (pss_one (ps_expr (pe_bm PySem.F.plainAttrs_list PySem.F.slot_list_append PySem.F.type_list_append mt_append (pv 4) (pa_cons (pe_tup (pa_cons (C8.pe_c c__law_pick hr (by decide) rfl (pa_cons (pv 0) (pa_cons (pe_lst (pa_cons pe_int (pa_cons pe_int (pa_cons pe_int (pa_cons pe_int (pa_cons pe_int (pa_cons pe_int (pa_cons pe_int (pa_cons pe_int pa_nil))))))))) pa_nil))) (pa_cons (C8.pe_c c__law_pick hr (by decide) rfl (pa_cons (pv 0) (pa_cons (pe_lst (pa_cons (pv 5) (pa_cons (pv 5) (pa_cons (pe_ix ix_list (pv 3) pe_int (fun _ _ => rfl)) pa_nil)))) pa_nil))) pa_nil))) pa_nil)))))
      (pss_one (ps_ret (pe_sortedSet rfl hr.units rfl m_sorted rfl m_set (pv 4))))))), ?_⟩
    refine ⟨_, rfl, _, rfl, _, rfl, _, _, rfl, rfl, p, c, b, _, rfl, pen, by omega, by omega, by omega, fun H1 wl ws k1 pen1 hwl0 hwl lws wws ndws => ?_⟩
    obtain ⟨vs, evs, svs⟩ := cut_strs ws none (some ki)
    obtain ⟨us, eus, sus⟩ := cut_strs ws (some ki) none
    have lws9 : ws.length ≤ 14 := by omega
    have lvs := svs.length_le
    have lus := sus.length_le
    refine ⟨_, rfl, _, rfl, ki, rfl, wl, _, rfl, SqL.of hwl, fun S hS => ?_⟩
    rw [evs]
    have sS := Same.new (o := .lst (vs.map V.str)) hS
    refine ⟨S, rfl, ⟨_, SqL.of upd_same⟩, fun D hD => ?_⟩
    have sD := Same.new (o := .lst []) hD
    refine lc_list (K := K) (a := S) (xs := vs.map V.str) (fun j H' => Same (upd H1 S (.lst (vs.map V.str))) H' ∧ ∃ zs : List (Addr × Nd), H' D = some (.lst (zs.map fun y => V.ref y.1)) ∧ zs.length = j ∧ (∀ z ∈ zs, z.2.1 = 0) ∧ ∀ z ∈ zs, NdA H' z.1 z.2 ∧ NdOk z.2)
      ⟨sD, [], upd_same, rfl, (fun _ h => by cases h), fun _ h => by cases h⟩ (fun j H' _ q => SqL.of (q.1 _ _ upd_same)) ?_ ?_
    · rintro j x H2 hj ⟨s2, zs, e2, lz, z0, hz⟩
      rw [List.getElem?_map] at hj
      obtain ⟨z, hz1, rfl⟩ : ∃ z, vs[j]? = some z ∧ x = .str z := by
        cases e : vs[j]? with
        | none => rw [e] at hj; cases hj
        | some z => rw [e] at hj; exact ⟨z, rfl, (Option.some.inj hj).symm⟩
      have hjl : j < vs.length := (List.getElem?_eq_some_iff.mp hz1).1
      have hzw := wws z (svs.subset (List.mem_of_getElem? hz1))
      refine ⟨rfl, _, rfl, by show 2 ≤ sizeLine; decide, fun T hT => ?_⟩
      have sT := Same.new (o := .tup [.int 0, .str z]) hT
      have nTD : T ≠ D := fun q => by rw [q, e2] at hT; cases hT
      refine ⟨_, sT _ _ e2, by rw [List.length_map, lz]; exact small1000 (by omega), fun a o e => ?_, zs ++ [(T, ((0 : Int), z))], by rw [upd_same, List.map_append]; rfl, by rw [List.length_append, lz]; rfl, fun u hu' => ?_, fun u hu' => ?_⟩
      · rw [upd_ne (ne_of_none e hD)]; exact sT _ _ (s2 _ _ e)
      · rcases List.mem_append.mp hu' with h | h
        · exact z0 u h
        · rw [List.mem_singleton] at h; subst h; rfl
      · rcases List.mem_append.mp hu' with h | h
        · obtain ⟨h1, h2⟩ := hz u h
          refine ⟨?_, h2⟩
          unfold NdA at h1 ⊢
          rw [upd_ne (fun q => by rw [q, e2] at h1; cases h1)]; exact sT _ _ h1
        · rw [List.mem_singleton] at h; subst h
          refine ⟨?_, by show (0 : Int) ≤ 0; decide, by show (0 : Int) ≤ 5; decide, hzw⟩
          unfold NdA
          rw [upd_ne nTD]; exact upd_same
    · rintro H2 ⟨s2, zs, e2, lz, z0, hz⟩
      rw [List.length_map] at lz
      have some0 : ∃ z ∈ zs, z.2.1 = 0 := by
        cases zs with
        | nil =>
          have h1 : vs.length = (cutV (ws.map V.str) none (some ki)).length := by rw [evs, List.length_map]
          rw [show ki = ((ki.toNat : Nat) : Int) by omega, cut_to, List.length_take, List.length_map] at h1
          simp only [List.length_nil] at lz
          omega
        | cons z zs => exact ⟨z, List.mem_cons_self, z0 z List.mem_cons_self⟩
      have s12 := sS.trans s2
      have nDp := (pen1.to sS).off hD
      have pen2 := pen1.to s12
      have hwl2 := s12 _ _ hwl
      have nwlD : wl ≠ D := fun q => by subst q; rw [sS _ _ hwl] at hD; cases hD
      have nwlp := pen1.ne hwl
      refine ⟨_, rfl, _, rfl, ki, rfl, wl, _, rfl, SqL.of hwl2, fun S2 hS2 => ?_⟩
      rw [eus]
      have sS2 := Same.new (o := .lst (us.map V.str)) hS2
      have hS2e : upd H2 S2 (.lst (us.map V.str)) S2 = some (.lst (us.map V.str)) := upd_same
      have e2' := sS2 _ _ e2
      have nS2D : S2 ≠ D := fun q => by rw [q, e2] at hS2; cases hS2
      have nS2p : S2 ≠ p := (pen2.off hS2).1
      have pen3 := pen2.to sS2
      have hz3 : ∀ z ∈ zs, NdA (upd H2 S2 (.lst (us.map V.str))) z.1 z.2 ∧ NdOk z.2 := fun z h => ⟨sS2 _ _ (hz z h).1, (hz z h).2⟩
      have hwl3 := sS2 _ _ hwl2
      have k03 : Kp p H (upd H2 S2 (.lst (us.map V.str))) := k1.trans (Kp.of (s12.trans sS2))
      refine ⟨S2, rfl, ⟨_, SqL.of hS2e⟩, ?_⟩
      have hD0 : H D = none := k1.free nDp.1 (sS.free hD)
      generalize upd H2 S2 (.lst (us.map V.str)) = G at hS2e e2' pen3 hz3 hwl3 k03 ⊢
      have w0ex : ∃ w0, ws[0]? = some w0 := ⟨_, List.getElem?_eq_getElem (by omega)⟩
      obtain ⟨w0, hw0⟩ := w0ex
      have w0w := wws w0 (List.mem_of_getElem? hw0)
      refine for_list (K := K) (a := S2) (xs := us.map V.str) (fun i σ' H' => ∃ (v5 : Option V) (zs : List (Addr × Nd)), σ' = [some (.ref p), some (.int ki), some (.int ot), some (.ref wl), some (.ref D), v5] ∧ (∀ a o, a ≠ p → a ≠ D → G a = some o → H' a = some o) ∧ Pen H' p c (b + 16 + 2 * i) ∧
          H' D = some (.lst (zs.map fun y => V.ref y.1)) ∧ zs.length = vs.length + i ∧ (∃ z ∈ zs, z.2.1 = 0) ∧ ∀ z ∈ zs, NdA H' z.1 z.2 ∧ NdOk z.2)
        ⟨none, zs, rfl, fun _ _ _ _ e => e, pen3.up (by omega), e2', by omega, some0, hz3⟩ (fun i σ' H' _ ⟨_, _, _, k2, _⟩ => SqL.of (k2 _ _ nS2p nS2D hS2e)) ?_ ?_
      · rintro i x σ6 H6 hi ⟨v5, zs, rfl, k6, pen6, e6, lz6, so6, hz6⟩
        rw [List.getElem?_map] at hi
        obtain ⟨z, hz1, rfl⟩ : ∃ z, us[i]? = some z ∧ x = .str z := by
          cases e : us[i]? with
          | none => rw [e] at hi; cases hi
          | some z => rw [e] at hi; exact ⟨z, rfl, (Option.some.inj hi).symm⟩
        have hil : i < us.length := (List.getElem?_eq_some_iff.mp hz1).1
        have hzw := wws z (sus.subset (List.mem_of_getElem? hz1))
        refine ⟨_, rfl, .inl ⟨rfl, _, SqL.of e6⟩, _, rfl, by show 8 ≤ sizeLine; decide, fun L1 hL1 => ?_⟩
        have s1 := Same.new (o := .lst [V.int 1, .int 1, .int 1, .int 2, .int 2, .int 3, .int 4, .int 5]) hL1
        refine ⟨p, c, L1, _, _, rfl, pen6.put (pen6.off hL1), by omega, upd_same, nofun, by decide, fun H7 v k7 pen7 hv => ?_⟩
        obtain ⟨r, rfl, r0, r5⟩ : ∃ r : Int, v = .int r ∧ 0 ≤ r ∧ r ≤ 5 := by
          simp only [List.mem_cons, List.not_mem_nil, or_false] at hv
          rcases hv with rfl | rfl | rfl | rfl | rfl | rfl | rfl | rfl <;> exact ⟨_, rfl, by decide, by decide⟩
        have k67 : Kp p H6 H7 := (Kp.of s1).trans k7
        have e7 := k67 _ _ nDp.1 e6
        have hwl7 := k67 _ _ nwlp (k6 _ _ nwlp nwlD hwl3)
        refine ⟨_, rfl, _, rfl, _, rfl, _, rfl, wl, _, _, _, rfl, rfl, SqL.of hwl7, at_of (j := 0) rfl (by rw [List.getElem?_map, hw0]; rfl), by show 3 ≤ sizeLine; decide, fun L2 hL2 => ?_⟩
        have s2' := Same.new (o := .lst [V.str z, .str z, .str w0]) hL2
        refine ⟨p, c, L2, _, _, rfl, pen7.put (pen7.off hL2), by omega, upd_same, nofun, by show 3 ≤ 60; decide, fun H8 v' k8 pen8 hv' => ?_⟩
        obtain ⟨zz, rfl, zw⟩ : ∃ zz : Str, v' = .str zz ∧ IsW zz := by
          simp only [List.mem_cons, List.not_mem_nil, or_false] at hv'
          rcases hv' with rfl | rfl | rfl
          · exact ⟨_, rfl, hzw⟩
          · exact ⟨_, rfl, hzw⟩
          · exact ⟨_, rfl, w0w⟩
        have k78 : Kp p H7 H8 := (Kp.of s2').trans k8
        have e8 := k78 _ _ nDp.1 e7
        refine ⟨by show 2 ≤ sizeLine; decide, fun T hT => ?_⟩
        have sT := Same.new (o := .tup [.int r, .str zz]) hT
        have nTD : T ≠ D := fun q => by rw [q, e8] at hT; cases hT
        have k68 := k67.trans k78
        refine ⟨D, _, _, rfl, rfl, sT _ _ e8, by rw [List.length_map, lz6]; exact small1000 (by omega), ?_⟩
        refine ⟨_, zs ++ [(T, (r, zz))], rfl, fun a o n1 n2 e => ?_, ((pen8.to sT).put nDp).up (by omega), by rw [upd_same, List.map_append]; rfl, by rw [List.length_append, lz6]; rfl, (let ⟨z, h1, h2⟩ := so6; ⟨z, List.mem_append_left _ h1, h2⟩), fun u hu' => ?_⟩
        · rw [upd_ne n2]; exact sT _ _ (k68 _ _ n1 (k6 _ _ n1 n2 e))
        · rcases List.mem_append.mp hu' with h | h
          · obtain ⟨h1, h2⟩ := hz6 u h
            refine ⟨?_, h2⟩
            have h3 : NdA H8 u.1 u.2 := (pen7.tk k78) _ _ ((pen6.tk k67) _ _ h1)
            unfold NdA at h1 h3 ⊢
            rw [upd_ne (fun q => by rw [q, e6] at h1; cases h1)]; exact sT _ _ h3
          · rw [List.mem_singleton] at h; subst h
            refine ⟨?_, r0, r5, zw⟩
            unfold NdA
            rw [upd_ne nTD]; exact upd_same
      · rintro σ6 H6 ⟨v5, zs, rfl, k6, pen6, e6, lz6, so6, hz6⟩
        rw [List.length_map] at lz6 pen6
        refine ⟨_, rfl, D, zs, rfl, SqL.of e6, fun z h => (hz6 z h).1, by omega, fun ys q up nd mem l64 hy hq => ?_⟩
        have sq := Same.new (o := .lst (ys.map fun y => V.ref y.1)) hq
        have lys : ys.length ≤ zs.length := by
          have := sub_len nd fun n hn => (mem n).mp hn
          rw [List.length_map, List.length_map] at this; exact this
        refine k _ q ys ?_ ((pen6.to sq).up (by omega)) ?_ ⟨upd_same, fun y hy' => ⟨sq _ _ (hy y hy'), ?_⟩⟩ (by omega) (by
          obtain ⟨z, h1, h2⟩ := so6
          obtain ⟨y, hy', e⟩ := List.mem_map.mp ((mem z.2).mpr (List.mem_map.mpr ⟨z, h1, rfl⟩))
          exact ⟨y, hy', by rw [e]; exact h2⟩)
        · exact fun a o n e => sq _ _ (k6 _ _ n (ne_of_none e hD0) (k03 _ _ n e))
        · have nqp : q ≠ p := (pen6.off hq).1
          cases e : H q with
          | none => rfl
          | some o => exact absurd (k6 _ _ nqp (ne_of_none e hD0) (k03 _ _ nqp e)) (by rw [hq]; exact nofun)
        · obtain ⟨z, hz', e⟩ := List.mem_map.mp ((mem y.2).mp (List.mem_map.mpr ⟨y, hy', rfl⟩))
          rw [← e]; exact (hz6 z hz').2
end
end KN


set_option Elab.async false
set_option linter.all false
set_option maxRecDepth 100000
set_option maxHeartbeats 4000000
namespace KN
open PySem L2
/-! A scene, a tree grown. -/
theorem TreeAt.kp {C : Addr} {H H' : Hp} {t p c : Addr} {b : Int} {pl : List (Str × Nd)} {L : List (Nd × Option Nd)} (B : TreeAt C H t pl L) (pen : Pen H p c b) (k : Kp p H H') : TreeAt C H' t pl L := by
  obtain ⟨dx, kk, l, kvs, lvs, B⟩ := B
  obtain ⟨n, m, ns, hp, _⟩ := id pen
  have nk : kk ≠ p := fun z => by
    subst z
    have e := B.kd
    rw [hp] at e
    have e' : kvs = penD c n m := by injection e with e; injection e with e; exact e.symm
    have r := B.kr
    rw [e'] at r
    have : ∀ {kvs : List (Key × V)} {pl : List (Str × Nd)}, Paired (PlR H) kvs pl → ∀ q ∈ kvs, ∃ a, q.2 = V.ref a := by
      intro kvs pl h
      induction h with
      | nil => intro q hq; cases hq
      | cons f _ ih =>
        intro q hq
        rcases List.mem_cons.mp hq with z | z
        · subst z; obtain ⟨_, a, h, _⟩ := f; exact ⟨a, h⟩
        · exact ih q z
    obtain ⟨a, ha⟩ := this r ((Sum.inr ("at" : Str) : Key), V.int n) (by simp [penD])
    cases ha
  have nt : t ≠ p := ne_of B.ob hp (by intro z; cases z)
  have nl : l ≠ p := ne_of B.ly hp (by intro z; cases z)
  exact ⟨dx, kk, l, kvs, lvs, k _ _ nt B.ob, k _ _ nk B.kd, L2.Paired.mapP B.kr fun _ _ f => f.to (pen.tk k), k _ _ nl B.ly, L2.Paired.mapP B.lr fun _ _ f => ⟨f.1, f.2.to (pen.tk k)⟩, B.ok⟩
def scD (a m n : Addr) : List (Key × V) := [(.inr "sheets", .ref a), (.inr "minds", .ref m), (.inr "nodes", .ref n)]
structure Scene (H : Hp) (r : Addr) (ss : List Str) (ys : List (Addr × Nd)) : Prop where
  ex : ∃ a m n, H r = some (.dK (scD a m n)) ∧ H a = some (.lst (ss.map V.str)) ∧ NdsAt H n ys
  nd : ss.Nodup
  ln : ss.length ≤ 26
  wd : ∀ z ∈ ss, IsW z
  ly : ys.length ≤ 58
def spScene : Sp := fun vs H Q _ => ∃ (p c : Addr) (b sh ki ot : Int), vs = [.ref p, .int sh, .int ki, .int ot, .int 0] ∧ Pen H p c b ∧ b ≤ 10000000 ∧ 0 ≤ sh ∧ sh ≤ 16 ∧ 1 ≤ ki ∧ ki ≤ 6 ∧ 0 ≤ ot ∧ ot ≤ 3 ∧
  ∀ (H' : Hp) (r : Addr) (ss : List Str) (ys : List (Addr × Nd)), Kp p H H' → Pen H' p c (b + 60) → H r = none → Scene H' r ss ys → Q (.ref r) H'
def spGrown (C : Addr) : Sp := fun vs H Q _ => ∃ (p c r : Addr) (b : Int) (ss : List Str) (ys : List (Addr × Nd)), vs = [.ref p, .ref r] ∧ Pen H p c b ∧ b ≤ 10000000 ∧ Scene H r ss ys ∧ r ≠ p ∧
  ∀ (H' : Hp) (t : Addr) (pl : List (Str × Nd)) (L : List (Nd × Option Nd)), Kp p H H' → Pen H' p c (b + 200) → H t = none → TreeAt C H' t pl L → (∀ q ∈ pl, q.2.1 = 0) → Q (.ref t) H'
theorem sm_ : ¬ (("sheets" : Str) = ("minds" : Str)) := by decide +kernel
theorem sn_ : ¬ (("sheets" : Str) = ("nodes" : Str)) := by decide +kernel
theorem mn_ : ¬ (("minds" : Str) = ("nodes" : Str)) := by decide +kernel
theorem sc_sheets (a m n : Addr) : valV (scD a m n) (.inr "sheets") = some (.ref a) := by unfold scD; rw [valV_pos rfl]
theorem sc_nodes (a m n : Addr) : valV (scD a m n) (.inr "nodes") = some (.ref n) := by unfold scD; rw [valV_neg (kne sn_), valV_neg (kne mn_), valV_pos rfl]
section
variable {P : Program} {w : World} {K : PySem.W.Frag} {mg : Str → Option Value} {base : Heap} {C : Addr}
end
end KN


set_option Elab.async false
set_option linter.all false
set_option maxRecDepth 100000
set_option maxHeartbeats 4000000
namespace KN
open PySem L2
/-! Trees: the sheets of a kind in their order; a tree of kinds alone. -/
theorem kO_iff {pl : List (Str × Nd)} (nd : (pl.map (·.1)).Nodup) {z : Str} {n : Nd} : kO pl z = some n ↔ (z, n) ∈ pl := by
  induction pl with
  | nil => exact ⟨fun h => (by cases h), fun h => (by cases h)⟩
  | cons p pl ih =>
    rw [List.map_cons, List.nodup_cons] at nd
    unfold kO at ih ⊢
    by_cases e : p.1 = z
    · rw [List.find?_cons_of_pos (by simpa using e)]
      constructor
      · intro h
        have h' : p.2 = n := Option.some.inj h
        rw [← e, ← h']; exact List.mem_cons_self
      · intro h
        rcases List.mem_cons.mp h with h | h
        · rw [← h]; rfl
        · exact absurd (by rw [e]; exact List.mem_map.mpr ⟨_, h, rfl⟩) nd.1
    · rw [List.find?_cons_of_neg (by simpa using e), ih nd.2]
      exact ⟨List.mem_cons_of_mem _, fun h => (List.mem_cons.mp h).elim (fun h => absurd (by rw [← h]) e) id⟩
theorem kO_none {pl : List (Str × Nd)} {z : Str} : kO pl z = none ↔ z ∉ pl.map (·.1) := by
  unfold kO
  rw [Option.map_eq_none_iff, List.find?_eq_none]
  constructor
  · intro h m
    obtain ⟨p, hp, e⟩ := List.mem_map.mp m
    exact h p hp (decide_eq_true e)
  · intro h p hp e
    exact h (List.mem_map.mpr ⟨p, hp, of_decide_eq_true e⟩)
theorem abv0 {L : List (Nd × Option Nd)} {k n : Nd} (h : k.1 = 0) : abvD L k 0 = some n ↔ k = n := by
  unfold abvD
  show (if k.1 = 0 then some k else _) = some n ↔ _
  rw [if_pos h]
  exact ⟨Option.some.inj, fun e => by rw [e]⟩
def shK (pl : List (Str × Nd)) (n : Nd) : List Str := (sortS (pl.map (·.1))).filter fun z => decide (kO pl z = some n)
def spSheetsK (C : Addr) : Sp := fun vs H Q _ => ∃ (t a : Addr) (n : Nd) (pl : List (Str × Nd)) (L : List (Nd × Option Nd)), vs = [.ref t, .ref a] ∧ TreeAt C H t pl L ∧ NdA H a n ∧ n ∈ L.map (·.1) ∧ n.1 = 0 ∧ (∀ q ∈ pl, q.2.1 = 0) ∧
  ∀ H' l, Same H H' → H l = none → H' l = some (.lst ((shK pl n).map V.str)) → Q (.ref l) H'
def spTInit1 (C : Addr) : Sp := fun vs H Q _ => ∃ (t dx d : Addr) (ks : List (Nd × List Str)), vs = [.ref t, .ref d, .non] ∧ H t = some (.ins C dx []) ∧ KindsAt H d ks ∧ (∀ k ∈ ks, KdOk k) ∧ ks.length ≤ 60 ∧
  ((plOf ks).map (·.1)).Nodup ∧ (plOf ks).length ≤ 60 ∧ ∀ H' L, (∀ a o, a ≠ t → H a = some o → H' a = some o) → TreeAt C H' t (plOf ks) L → Q .non H'
section
variable {P : Program} {w : World} {K : PySem.W.Frag} {mg : Str → Option Value} {base : Heap} {C : Addr}
theorem ok_Tree_sheetsK {f : Addr} {fd : FuncData} (F : FunD K "sheets" "Tree.sheets" (defArgs s_Tree_sheets) (defBody s_Tree_sheets) (defScope s_Tree_sheets) [V.non] [] f fd) (T : TrT K C) (m_sorted : mg "sorted" = none) (c_Tree__refuse : C8.Met P w K mg base 3 C "_refuse" (spTRefuse C) []) (c_Tree_above : C8.Met P w K mg base 4 C "above" (spAbove C) []) : FnOk P w K mg base CX0 5 f fd ["self", "node"] (spSheetsK C) := by
  refine F.ok sc_Tree_sheets (fun vs H Q E h => ?_) (fun cdv A outer s H vs Q E hr h => ?_)
  · obtain ⟨t, a, n, pl, L, rfl, _⟩ := h; rfl
  · obtain ⟨t, a, n, pl, L, rfl, TA, ha, hn, hn0, p0, k⟩ := h
    have hu := hu_of hr
    refine ⟨_, (pss_cons (ps_if (pt_cmpR op_isN (pv 1) pe_non (nomark _)) (pss_one (ps_ret (pe_callB (call_sortedD rfl) (by rfl) m_sorted (by decide +kernel) (pa_cons (pe_fld (pv 0) rfl) pa_nil)))) pss_nil)
      (pss_cons (ps_expr (C8.pe_mt c_Tree__refuse hr (by decide) (pv 0) (pa_cons (pv 1) pa_nil)))
      (pss_one (ps_ret (pe_lc (own := [("sheet", 2)]) (g := gName 2) rfl sc_Tree_sheets.nd (pi_list (pe_callB (call_sortedD rfl) (by rfl) m_sorted (by decide +kernel) (pa_cons (pe_fld (pv 0) rfl) pa_nil))) (blkOk_by (own := [("sheet", 2)]) (N := ["self", "node", "sheet"]) (sc := defScope s_Tree_sheets) (by decide +kernel)) (fun _ _ _ _ _ => pg_name (i := 2) sc_Tree_sheets.nd rfl (Or.inl rfl)) (fun _ _ _ _ _ => (pts_one (pt_cmpR (op_eqDK K hr.units) (C8.pe_mt c_Tree_above hr (by decide) (pv 0) (pa_cons (pe_dget (by exact hu) (pe_fldK K (pv 0) rfl) (pv 2) (fun _ _ => rfl)) (pa_cons (pe_ix (ix_tupK K) (pv 1) pe_int (fun _ _ => rfl)) pa_nil))) (pv 1) (nomark _)))) (fun _ _ _ _ _ => (pv 2))))))), ?_⟩
    obtain ⟨dx, kk, l, kvs, lvs, B⟩ := id TA
    refine ⟨_, rfl, rfl, _, rfl, iteF ?_⟩
    refine ⟨_, rfl, t, dx, _, rfl, B.ob, tf_no _ _ (by decide +kernel) (by decide +kernel), _, rfl, t, a, n, pl, L, rfl, TA, ha, hn, fun H1 s1 => ?_⟩
    have B1 := B.keep s1
    refine ⟨_, rfl, t, C, dx, _, _, rfl, B1.ob, T.cl, T.nK, tf_k _ _, kk, kvs, pl.map (·.1), rfl, Rd.of B1.kd, pl_keys B1.kr, by rw [List.length_map]; have := B.ok.pln; omega, fun ys p pm hso hp => ?_⟩
    have eys : ys = sortS (pl.map (·.1)) := sortS_of pm (sup_of hso)
    have sp := Same.new (o := .lst (ys.map V.str)) hp
    have hylen : ys.length ≤ 60 := by have := pm.length_eq; rw [List.length_map] at this; have := B.ok.pln; omega
    refine ⟨p, rfl, ⟨_, SqL.of upd_same⟩, fun D hD => ?_⟩
    refine lc_list (K := K) (a := p) (xs := ys.map V.str) (fun i H' => Same (upd H1 p (.lst (ys.map V.str))) H' ∧ H' D = some (.lst (((ys.take i).filter fun z => decide (kO pl z = some n)).map V.str)))
      ⟨Same.new hD, upd_same⟩ (fun i H' _ q => SqL.of (q.1 _ _ upd_same)) ?_ ?_
    · rintro i x H2 hi ⟨s2, e2⟩
      rw [List.getElem?_map] at hi
      obtain ⟨y, hy1, rfl⟩ : ∃ y, ys[i]? = some y ∧ x = .str y := by
        cases e : ys[i]? with
        | none => rw [e] at hi; cases hi
        | some y => rw [e] at hi; exact ⟨y, rfl, (Option.some.inj hi).symm⟩
      have hlt : i < ys.length := (List.getElem?_eq_some_iff.mp hy1).1
      have hym : y ∈ pl.map (·.1) := pm.mem_iff.mp (List.mem_of_getElem? hy1)
      have s02 := (s1.trans sp).trans s2
      have B2 := B.keep s02
      obtain ⟨kn, ka, hk1, hk2, hk3, hk4⟩ := pl_some B2.kr B.ok.pnd hym
      have hkin := B.ok.pk _ hk1
      have step : ys.take (i + 1) = ys.take i ++ [y] := by rw [List.take_add_one, hy1]; rfl
      have hnok := B.ok.nd_ok hn
      refine ⟨rfl, _, rfl, t, dx, _, rfl, B2.ob, tf_no _ _ (by decide +kernel) (by decide +kernel), _, rfl, t, C, dx, _, _, rfl, B2.ob, T.cl, T.nK, tf_k _ _, _, rfl, kk, .ref ka, rfl, by rw [← hk2]; exact DGet.k (k := .inr y) B2.kd, ?_⟩
      refine ⟨_, rfl, _, _, _, _, rfl, rfl, SqT.of (s02 _ _ ha), at_of (j := 0) rfl rfl, t, ka, kn, n.1, pl, L, rfl, ⟨dx, kk, l, kvs, lvs, B2⟩, hk3, hkin, fun H3 v s3 tv => ?_⟩
      have hao : ∀ m, abvD L kn n.1 = some m → NdOk m := fun m e => B.ok.nd_ok (abv_in B.ok (fun y e => by cases e; exact hkin) e)
      have hok1 := okD_o hao
      have hok2 := okD_n hnok
      refine ⟨_, rfl, oN (abvD L kn n.1), nD n, tv.d, (Tp.nd (s3 _ _ (s02 _ _ ha))).d, shaped_o hok1, shaped_of hok2 (by simp [nD, PyData.depth, PyData.depthAll]), _, rfl, ?_⟩
      rw [eqv_dec (p := abvD L kn n.1 = some n) hok1 hok2 oN_some]
      have hk0 : kO pl y = some kn := (kO_iff B.ok.pnd).mpr hk1
      have hiff : abvD L kn n.1 = some n ↔ kO pl y = some n := by
        have h0 : kn.1 = 0 := p0 _ hk1
        rw [hn0, abv0 h0, hk0]
        exact ⟨fun h => by rw [h], fun h => Option.some.inj h⟩
      have fstep : (ys.take (i + 1)).filter (fun z => decide (kO pl z = some n)) = (ys.take i).filter (fun z => decide (kO pl z = some n)) ++ if kO pl y = some n then [y] else [] := by
        rw [step, List.filter_append]
        by_cases q : kO pl y = some n
        · rw [if_pos q]; simp [q]
        · rw [if_neg q]; simp [q]
      have lfl : ((ys.take i).filter fun z => decide (kO pl z = some n)).length ≤ 60 := Nat.le_trans (List.length_filter_le _ _) (by rw [List.length_take]; omega)
      by_cases q : abvD L kn n.1 = some n
      · rw [decide_eq_true q]
        refine iteT ⟨_, rfl, _, s3 _ _ e2, by rw [List.length_map]; exact small1000 (by omega), fun b o e => ?_, by rw [upd_same, fstep, if_pos (hiff.mp q), List.map_append]; rfl⟩
        rw [upd_ne (ne_of_none e hD)]; exact s3 _ _ (s2 _ _ e)
      · rw [decide_eq_false q]
        refine iteF ⟨fun b o e => s3 _ _ (s2 _ _ e), ?_⟩
        rw [fstep, if_neg (fun h => q (hiff.mpr h)), List.append_nil]; exact s3 _ _ e2
    · rintro H2 ⟨s2, e2⟩
      rw [List.length_map, List.take_length, eys] at e2
      exact k H2 D ((s1.trans sp).trans s2) (s1.free (sp.free hD)) e2
theorem ok_Tree_init1 {f : Addr} {fd : FuncData} (F : FunD K "__init__" "Tree.__init__" (defArgs s_Tree___init__) (defBody s_Tree___init__) (defScope s_Tree___init__) [V.non, V.non] [] f fd) (T : TrT K C) (c__is_kinds : C8.Cal P w K mg base 3 "_is_kinds" spIsKinds []) (c__places : C8.Cal P w K mg base 1 "_places" spPlaces []) (c__is_parents : C8.Cal P w K mg base 4 "_is_parents" spIsParents []) (c__upward : C8.Cal P w K mg base 1 "_upward" spUpward []) : FnOk P w K mg base CX0 5 f fd ["self", "kinds", "parents"] (spTInit1 C) := by
  refine F.ok sc_Tree___init__ (fun vs H Q E h => ?_) (fun cdv A outer s H vs Q E hr h => ?_)
  · obtain ⟨t, dx, d, ks, rfl, _⟩ := h; rfl
  · obtain ⟨t, dx, d, ks, rfl, ht, hk, kok, k60, pnd, pl60, k⟩ := h
    have hu := hu_of hr
    refine ⟨_, (pss_cons (ps_set (i := 3) sc_Tree___init__.nd rfl (Or.inl rfl) (pe_ifExp (pt_cmpR op_isN (pv 1) pe_non (nomark _)) pe_dnewT (pv 1)))
      (pss_cons (ps_set (i := 4) sc_Tree___init__.nd rfl (Or.inl rfl) (pe_ifExp (pt_cmpR op_isN (pv 2) pe_non (nomark _)) pe_dnewT (pv 2)))
      (pss_cons (ps_if (pt_not (pt_val (C8.pe_c c__is_kinds hr (by decide) rfl (pa_cons (pv 3) pa_nil)))) (pss_one ps_never) pss_nil)
      (pss_cons (ps_fld (pv 0) (C8.pe_c c__places hr (by decide) rfl (pa_cons (pv 3) pa_nil)) rfl)
      (pss_cons (ps_if (pt_not (pt_val (C8.pe_c c__is_parents hr (by decide) rfl (pa_cons (pv 4) pa_nil)))) (pss_one ps_never) pss_nil)
      (pss_one (ps_fld (pv 0) (C8.pe_c c__upward hr (by decide) rfl (pa_cons (pv 3) (pa_cons (pv 4) pa_nil))) rfl))))))), ?_⟩
    refine ⟨_, rfl, rfl, _, rfl, iteF ⟨_, rfl, _, rfl, rfl, _, rfl, iteT ?_⟩⟩
    refine fun d2 hd20 => ?_
    obtain ⟨ps, eps⟩ : ∃ ps : List (Nd × Option Nd), ps = [] := ⟨_, rfl⟩
    have s0 : Same H (upd H d2 (.dT [])) := Same.new hd20
    have ndd : d ≠ d2 := by obtain ⟨_, e, _⟩ := hk; exact ne_of_none e hd20
    have hk0 : KindsAt (upd H d2 (.dT [])) d ks := by
      obtain ⟨kvs, e, r⟩ := hk
      exact ⟨kvs, s0 _ _ e, L2.Paired.mapP r fun _ _ f => ⟨f.1, f.2.imp fun l g => ⟨g.1, s0 _ _ g.2⟩⟩⟩
    have hp0 : ParAt (upd H d2 (.dT [])) d2 ps := by subst eps; exact ⟨[], upd_same, .nil⟩
    have ht0 := s0 _ _ ht
    have k0 : ∀ H' L, (∀ a o, a ≠ t → (upd H d2 (.dT [])) a = some o → H' a = some o) → TreeAt C H' t (plOf ks) L → LyP ks ps none L → (∀ k ∈ ks, k.1 ∈ L.map (·.1)) → Q .non H' := fun H' L h1 h2 _ _ => k H' L (fun a o n e => h1 a o n (s0 _ _ e)) h2
    have pok : ∀ p ∈ ps, PaOk p := fun k h => by subst eps; cases h
    have p60 : ps.length ≤ 60 := by subst eps; decide
    clear k eps ht s0 hk
    generalize (upd H d2 (.dT [])) = G at hk0 hp0 ht0 k0 ⊢
    have hk := hk0
    have hp := hp0
    have ht := ht0
    have k := k0
    clear hk0 hp0 ht0 k0 hd20
    refine ⟨_, rfl, d, ks, rfl, hk, kok, k60, fun H1 s1 => ⟨_, rfl, iteF ?_⟩⟩
    have hk1 : ∀ {G2 : Hp}, Same G G2 → KindsAt G2 d ks := fun s => by
      obtain ⟨kvs, e, r⟩ := hk
      exact ⟨kvs, s _ _ e, L2.Paired.mapP r fun _ _ f => ⟨f.1, f.2.imp fun l g => ⟨g.1, s _ _ g.2⟩⟩⟩
    refine ⟨_, rfl, d, ks, rfl, hk1 s1, pnd, pl60, k60, fun H2 r s2 hr0 hpl => ?_⟩
    have s12 := s1.trans s2
    refine ⟨_, rfl, t, C, dx, [], rfl, s12 _ _ ht, T.cl, T.nK, (by show 0 < 1000; decide), ?_⟩
    have tk3 : TK H2 (upd H2 t (.ins C dx (putF "_kind_of" (.ref r) []))) := TK.put (s12 _ _ ht) (by intro z; exact nofun)
    have ndt : d ≠ t := by obtain ⟨_, e, _⟩ := hk; rintro rfl; rw [ht] at e; cases e
    have nd2t : d2 ≠ t := by obtain ⟨_, e, _⟩ := hp; rintro rfl; rw [ht] at e; cases e
    have nrt : r ≠ t := fun z => by subst z; rw [s1 _ _ ht] at hr0; cases hr0
    have hk3 : KindsAt (upd H2 t (.ins C dx (putF "_kind_of" (.ref r) []))) d ks := by
      obtain ⟨kvs, e, rr⟩ := hk
      refine ⟨kvs, by rw [upd_ne ndt]; exact s12 _ _ e, L2.Paired.mapP rr fun _ _ f => ⟨f.1, f.2.imp fun l g => ⟨g.1, ?_⟩⟩⟩
      rw [upd_ne (by rintro rfl; rw [ht] at g; cases g.2)]; exact s12 _ _ g.2
    have hp3 : ParAt (upd H2 t (.ins C dx (putF "_kind_of" (.ref r) []))) d2 ps := by
      obtain ⟨kvs, e, rr⟩ := hp
      exact ⟨kvs, by rw [upd_ne nd2t]; exact s12 _ _ e, L2.Paired.mapP rr fun _ _ f => ⟨f.1, f.2.to ((TK.of s12).trans tk3)⟩⟩
    refine ⟨_, rfl, d2, ps, rfl, hp3, pok, p60, fun H4 s4 => ⟨_, rfl, iteF ?_⟩⟩
    have hk4 : KindsAt H4 d ks := by
      obtain ⟨kvs, e, rr⟩ := hk3
      exact ⟨kvs, s4 _ _ e, L2.Paired.mapP rr fun _ _ f => ⟨f.1, f.2.imp fun l g => ⟨g.1, s4 _ _ g.2⟩⟩⟩
    have hp4 : ParAt H4 d2 ps := by
      obtain ⟨kvs, e, rr⟩ := hp3
      exact ⟨kvs, s4 _ _ e, L2.Paired.mapP rr fun _ _ f => ⟨f.1, f.2.to (TK.of s4)⟩⟩
    refine ⟨_, rfl, _, rfl, d, d2, ks, ps, rfl, hk4, hp4, ndd, kok, pok, k60, fun H5 ly L s5 hly hL P5 al l360 => ?_⟩
    have s35 := s4.trans s5
    have ht5 := s35 _ _ (upd_same (H := H2) (a := t) (o := .ins C dx (putF "_kind_of" (.ref r) [])))
    have tk6 : TK H5 (upd H5 t (.ins C dx (tf r ly))) := TK.put ht5 (by intro z; exact nofun)
    have nly : ly ≠ t := fun z => by subst z; rw [s4 _ _ upd_same] at hly; cases hly
    refine ⟨_, rfl, t, C, dx, _, rfl, ht5, T.cl, T.nL, (by show 1 < 1000; decide), ?_⟩
    obtain ⟨pkv, hpk, prr⟩ := hpl
    obtain ⟨lkv, hlk, lrr⟩ := hL
    refine k _ L (fun a o na ea => ?_) ⟨dx, r, ly, pkv, lkv, upd_same, by rw [upd_ne nrt]; exact s35 _ _ (by rw [upd_ne nrt]; exact hpk), L2.Paired.mapP prr fun _ _ f => f.to ((tk3.trans (TK.of s35)).trans tk6), by rw [upd_ne nly]; exact hlk,
      L2.Paired.mapP lrr fun _ _ f => ⟨f.1, f.2.to tk6⟩, trok_of kok pok pnd pl60 P5 al l360⟩ P5 al
    rw [upd_ne na]
    exact s35 _ _ (by rw [upd_ne na]; exact s12 _ _ ea)
end
end KN


set_option Elab.async false
set_option linter.all false
set_option maxRecDepth 100000
set_option maxHeartbeats 4000000
/-! Own rule: == of two dicts by texts or numbers whose values are data (the alike ones). -/
namespace KN
open PySem PySem.Spec PyProof.Rows L2
def rEqKD (K : PySem.W.Frag) : R2 := fun x y H Q => ∃ a b ks ls, x = .ref a ∧ y = .ref b ∧ H a = some (.dK ks) ∧ H b = some (.dK ls) ∧ ks.length = ls.length ∧ (∀ p ∈ ks, ∃ (v : V) (d : PyData), valV ls p.1 = some v ∧ Dp K H p.2 d ∧ Dp K H v d ∧ okD d = true ∧ d.depth ≤ 64) ∧ Q (.bl true) H
theorem kv_hits {X : Cx} {pins : List (Addr × Obj)} {σ : L2.St} {H : Hp} {s : Shared} (I : Inv X pins σ H s) {A : Around} (hu : A.in1.units + 64 < cLine) {ls : List (Key × V)} {vb : List (Key × Value)} (rb : KV ls vb) : ∀ {ks : List (Key × V)} {va : List (Key × Value)}, KV ks va →
    (∀ p ∈ ks, ∃ (v : V) (d : PyData), valV ls p.1 = some v ∧ Dp X.K H p.2 d ∧ Dp X.K H v d ∧ okD d = true ∧ d.depth ≤ 64) → PySem.W.KeqHits A.in1 s vb va true
  | _, _, .nil, _ => .nil
  | p :: ps, (k, v) :: qs, .cons h t, hp => by
    obtain ⟨h1, h2⟩ := h
    have h1' : p.1 = k := h1
    obtain ⟨w, d, e, d1, d2, ok, dep⟩ := hp p List.mem_cons_self
    obtain ⟨y, hy, ry⟩ := (show RelO (some w) (valueAt vb p.1) by rw [← e]; exact rb.val p.1).some_of
    obtain ⟨as, r1⟩ := Dp.reads I d p.2 v d1 h2
    obtain ⟨bs, r2⟩ := Dp.reads I d w y d2 ry
    have sh : SeqAt.shaped d = true := shaped_of ok dep
    have at_ := PySem.W.keq_at (A := A) r1 r2 sh sh hu
    rw [(eqv_iff ok ok).mpr rfl] at at_
    rw [h1'] at hy
    exact PySem.W.KeqHits.hit (b := true) hy at_ (kv_hits I hu rb t fun q hq => hp q (List.mem_cons_of_mem _ hq))
theorem op_eqKD {X : Cx} (hu : X.A.units + 65 < cLine) : OpR X (compareOp .Eq) (rEqKD X.K) := by
  intro pins s σ H x y v u Q I rx ry h
  obtain ⟨a, b, ks, ls, rfl, rfl, ea, eb, hlen, hp, q⟩ := h
  obtain rfl : v = Value.ref a := rx
  obtain rfl : u = Value.ref b := ry
  obtain ⟨_, ya, va, ra, da⟩ := (show ObjOk X.prog X.w H s.heap a (.dK ks) from I.hok a _ ea)
  obtain ⟨_, yb, vb, rb, db⟩ := (show ObjOk X.prog X.w H s.heap b (.dK ls) from I.hok b _ eb)
  have hl : va.length = vb.length := by rw [← ra.length, ← rb.length]; exact hlen
  exact PySem.W.keq_eq (knd := mixKind X.prog X.w) (r := true) ya yb da db (by omega) (fun _ => kv_hits I (A := X.A) (by show X.A.units + 1 + 64 < cLine; omega) rb ra hp) (fin_bl I q (by simp [hl]))
end KN

set_option Elab.async false
set_option linter.all false
set_option maxRecDepth 100000
set_option maxHeartbeats 4000000
/-! Own rule: == of two dicts by tuples whose values are data (the alike ones). -/
namespace KN
open PySem PySem.Spec PyProof.Rows L2
theorem one_key {α β : Type} {xs : List (α × β)} (nd : (xs.map (·.1)).Nodup) {x y : α × β} (hx : x ∈ xs) (hy : y ∈ xs) (e : x.1 = y.1) : x = y := by
  induction xs with
  | nil => cases hx
  | cons z xs ih =>
    rw [List.map_cons, List.nodup_cons] at nd
    rcases List.mem_cons.mp hx with e1 | hx
    · rcases List.mem_cons.mp hy with e2 | hy
      · rw [e1, e2]
      · exact absurd (List.mem_map.mpr ⟨y, hy, by rw [← e, e1]⟩) nd.1
    · rcases List.mem_cons.mp hy with e2 | hy
      · exact absurd (List.mem_map.mpr ⟨x, hx, by rw [e, e2]⟩) nd.1
      · exact ih nd.2 hx hy
section
variable {P : Program} {w : World} {κ : Type} [DecidableEq κ] {G : HeapKind P w κ} {A : Around} {E : Value → Shared → Prop} {s : Shared}
theorem same_pairs {nm : String} {a b : Addr} {xs ys : List (κ × Addr × Value)} {Q : Bool → Shared → Prop} (na : (a == sysModules) = false) (nb : (b == sysModules) = false) (da : s.heap.DictOfH G a xs) (db : s.heap.DictOfH G b ys) (hr : G.room A) (hl : xs.length = ys.length)
    (al : ∀ x ∈ xs, ∃ p, ((x.1, p) : κ × Addr × Value) ∈ ys ∧ SeqAt.EqAt A s x.2.2 p.2 true) (go : Q true s) : wpAny (model P w) A (Builtin.Dict.samePairs nm a b) Q E s := by
  obtain ⟨oa, es, ep, oa1, _, oa2, oa3, oa4, oa5⟩ := da
  obtain ⟨ob, fs, eq, ob1, _, ob2, ob3, ob4, ob5⟩ := db
  have z1 : es.size = xs.length := size_of_entries oa3
  have z2 : fs.size = ys.length := size_of_entries ob3
  unfold Builtin.Dict.samePairs Builtin.Dict.showsAll
  rw [na, nb]
  simp only [Bool.false_eq_true, if_false]
  refine wpAny_bind (wpAny_pure ?_)
  refine wpAny_bind (wpAny_pure ?_)
  refine wpAny_bind (wpAny_dictEntries oa1 oa2 ?_)
  refine wpAny_bind (wpAny_dictEntries ob1 ob2 ?_)
  have zz : (es.size != fs.size) = false := by rw [z1, z2, hl]; simp
  rw [zz]
  simp only [Bool.false_eq_true, if_false]
  refine wpAny_bind (wpAny_dictEpoch oa1 oa2 ?_)
  refine wpAny_bind ?_
  rw [Std.Legacy.Range.forIn_eq_forIn_range']
  simp only [Std.Legacy.Range.size, Nat.sub_zero, Nat.add_sub_cancel, Nat.div_one]
  refine wpAny_forIn_list _ (fun rest q z => z = s ∧ q.1 = none ∧ ∀ i ∈ rest, i < es.size) _ ?_ ?_ _ _ ⟨rfl, rfl, fun i hi => by simpa using hi⟩
  · rintro i rest q z ⟨rfl, hq, lt⟩
    have hi : i < es.size := lt i List.mem_cons_self
    have hx : i < xs.length := by omega
    obtain ⟨p, hp, eqv⟩ := al xs[i] (List.getElem_mem hx)
    obtain ⟨j, hj⟩ := List.mem_iff_getElem?.mp hp
    refine wpAny_bind (wpAny_dictEntries oa1 oa2 ?_)
    rw [entry_at oa3 i, List.getElem?_eq_getElem hx]
    show wpAny _ _ (holding [Value.ref xs[i].2.1, xs[i].2.2] _ >>= _) _ _ _
    refine wpAny_bind (wpAny_holding ?_)
    refine wpAny_bind (wpAny_dictFind_heap hr (oa4 _ (List.getElem_mem hx)) ob1 ob2 ob3 ob4 ob5 (fun no => absurd hj (no j p)) fun j2 p2 hj2 => ?_)
    have ep2 : p2 = p := by
      have := one_key ob5 (List.mem_of_getElem? hj2) hp rfl
      exact congrArg Prod.snd this
    subst ep2
    dsimp only
    refine wpAny_bind (wpAny_dictEntries ob1 ob2 ?_)
    rw [entry_at ob3 j2, hj2]
    refine wpAny_holding (eqv P w _ _ ?_)
    simp only [Bool.not_true, Bool.false_eq_true, if_false]
    refine wpAny_bind (wpAny_dictEpoch oa1 oa2 ?_)
    rw [if_neg (by simp)]
    exact wpAny_pure ⟨rfl, by first | rfl | exact hq, fun i hi => lt i (List.mem_cons_of_mem _ hi)⟩
  · rintro ⟨r1, r2⟩ z ⟨rfl, e, _⟩
    simp only at e
    subst e
    exact wpAny_pure go
theorem pairs_eq {a b : Addr} {xs ys : List (κ × Addr × Value)} {Q : Value → Shared → Prop} (na : (a == sysModules) = false) (nb : (b == sysModules) = false) (da : s.heap.DictOfH G a xs) (db : s.heap.DictOfH G b ys) (hu : A.units < cLine) (hr : G.room A.in1) (hl : xs.length = ys.length)
    (al : ∀ x ∈ xs, ∃ p, ((x.1, p) : κ × Addr × Value) ∈ ys ∧ SeqAt.EqAt A.in1 s x.2.2 p.2 true) (go : Q (.bool true) s) : wpAny (model P w) A (compareOp .Eq (.ref a) (.ref b)) Q E s := by
  refine wpAny_richCompare_same_room (op := .Eq) da.typeIs db.typeIs PySem.F.slot_dict_eq (wpAny_call_entry PySem.F.slot_dict_eq da.typeIs PySem.F.entry_dict_eq ?_ (PySem.F.args_dict_eq_2 _ _)) hu
  show wpAny _ _ (Builtin.Dict.dictSlotArgs "__eq__" ⟨[.ref a, .ref b], []⟩ >>= _) _ _ s
  refine wpAny_bind ?_
  unfold Builtin.Dict.dictSlotArgs
  refine wpAny_bind (wpAny_notOrdered_dict da.typeIs ?_)
  show wpAny _ _ (pure (Value.ref a, Value.ref b)) _ _ s
  refine wpAny_pure (wpAny_bind (wpAny_isInstance (T := "dict") db.typeIs PySem.F.sub_dict_dict ?_))
  rw [show (!true) = false from rfl]
  simp only [Bool.false_eq_true, if_false]
  refine wpAny_bind (wpAny_pure (wpAny_bind (wpAny_pure (wpAny_bind (same_pairs na nb da db hr hl al ?_)))))
  exact wpAny_pure ⟨_, rfl, (fun z => nomatch z), by simpa using go⟩
end
def rEqTD (K : PySem.W.Frag) : R2 := fun x y H Q => ∃ a b ks ls, x = .ref a ∧ y = .ref b ∧ H a = some (.dT ks) ∧ H b = some (.dT ls) ∧ ks.length = ls.length ∧ (∀ p ∈ ks, ∃ (v : V) (d : PyData), valV ls p.1 = some v ∧ Dp K H p.2 d ∧ Dp K H v d ∧ okD d = true ∧ d.depth ≤ 64) ∧ Q (.bl true) H
theorem kt_at {H : Hp} {kvs : List (List Key × V)} {xs : List (List Key × Addr × Value)} (r : KT H kvs xs) {x : List Key × Addr × Value} (hx : x ∈ xs) : ∃ p ∈ kvs, p.1 = x.1 ∧ RelV p.2 x.2.2 := by
  induction r with
  | nil => cases hx
  | cons f _ ih =>
    rcases List.mem_cons.mp hx with e | hx
    · exact ⟨_, List.mem_cons_self, by rw [e]; exact f.1, by rw [e]; exact f.2.2⟩
    · obtain ⟨p, h1, h2⟩ := ih hx; exact ⟨p, List.mem_cons_of_mem _ h1, h2⟩
theorem kt_val {H : Hp} {kvs : List (List Key × V)} {xs : List (List Key × Addr × Value)} (r : KT H kvs xs) {k : List Key} {v : V} (e : valV kvs k = some v) : ∃ p : Addr × Value, (k, p) ∈ xs ∧ RelV v p.2 := by
  induction r with
  | nil => cases e
  | @cons q x kvs xs f _ ih =>
    by_cases g : q.1 = k
    · rw [valV_pos g] at e; cases e
      exact ⟨x.2, by rw [← g, f.1]; exact List.mem_cons_self, f.2.2⟩
    · rw [valV_neg g] at e
      obtain ⟨p, h1, h2⟩ := ih e; exact ⟨p, List.mem_cons_of_mem _ h1, h2⟩
theorem op_eqTD {X : Cx} (hu : X.A.units + 65 < cLine) : OpR X (compareOp .Eq) (rEqTD X.K) := by
  intro pins s σ H x y v u Q I rx ry h
  obtain ⟨a, b, ks, ls, rfl, rfl, ea, eb, hlen, hp, q⟩ := h
  obtain rfl : v = Value.ref a := rx
  obtain rfl : u = Value.ref b := ry
  obtain ⟨_, ya, xa, ra, da⟩ := dt_of I.hok ea
  obtain ⟨_, yb, xb, rb, db⟩ := dt_of I.hok eb
  have hl : xa.length = xb.length := by rw [← Paired.length ra, ← Paired.length rb]; exact hlen
  refine pairs_eq ya yb da db (by omega) (by show X.A.units + 1 < cLine; omega) hl (fun x hx => ?_) ⟨.bl true, H, I, rfl, q⟩
  obtain ⟨p, h1, h2, h3⟩ := kt_at ra hx
  obtain ⟨w, d, e, d1, d2, ok, dep⟩ := hp p h1
  obtain ⟨r, g1, g2⟩ := kt_val rb e
  obtain ⟨as, r1⟩ := Dp.reads I d p.2 x.2.2 d1 h3
  obtain ⟨bs, r2⟩ := Dp.reads I d w r.2 d2 g2
  have sh : SeqAt.shaped d = true := shaped_of ok dep
  have at_ := PySem.W.keq_at (A := X.A) r1 r2 sh sh (by show X.A.units + 1 + 64 < cLine; omega)
  rw [(eqv_iff ok ok).mpr rfl] at at_
  exact ⟨r, by rw [← h2]; exact g1, at_⟩
end KN

set_option Elab.async false
set_option linter.all false
set_option maxRecDepth 100000
set_option maxHeartbeats 4000000
namespace KN
open PySem L2
/-! Trees: what lies right in a node, how many sheets, == of trees. -/
def inN (L : List (Nd × Option Nd)) (n : Nd) : List Nd := (srtN (L.map (·.1))).filter fun m => decide (par L m = some n)
def spInner (C : Addr) : Sp := fun vs H Q _ => ∃ (t a : Addr) (n : Nd) (pl : List (Str × Nd)) (L : List (Nd × Option Nd)), vs = [.ref t, .ref a] ∧ TreeAt C H t pl L ∧ NdA H a n ∧ n ∈ L.map (·.1) ∧
  ∀ H' l (ys : List (Addr × Nd)), Same H H' → H l = none → H' l = some (.lst (ys.map fun y => V.ref y.1)) → ys.map Prod.snd = inN L n → ys.length ≤ 360 → (∀ y ∈ ys, NdA H' y.1 y.2) → Q (.ref l) H'
def spTLen (C : Addr) : Sp := fun vs H Q _ => ∃ (t : Addr) (pl : List (Str × Nd)) (L : List (Nd × Option Nd)), vs = [.ref t] ∧ TreeAt C H t pl L ∧ Q (.int (pl.length : Nat)) H
/-- trees alike: as maps -/
structure Alike (pl pl2 : List (Str × Nd)) (L L2 : List (Nd × Option Nd)) : Prop where
  n1 : pl.length = pl2.length
  k : ∀ p ∈ pl, kO pl2 p.1 = some p.2
  n2 : L.length = L2.length
  p : ∀ q ∈ L, q.1 ∈ L2.map (·.1) ∧ par L2 q.1 = q.2
def spTEq (C : Addr) : Sp := fun vs H Q _ => ∃ (t t2 : Addr) (pl pl2 : List (Str × Nd)) (L L2 : List (Nd × Option Nd)), vs = [.ref t, .ref t2] ∧ TreeAt C H t pl L ∧ TreeAt C H t2 pl2 L2 ∧ Alike pl pl2 L L2 ∧ Q (.bl true) H
theorem paired_at1 {α β : Type} {F : α → β → Prop} {xs : List α} {ys : List β} (h : Paired F xs ys) {x : α} (hx : x ∈ xs) : ∃ y ∈ ys, F x y := by
  induction h with
  | nil => cases hx
  | cons f _ ih =>
    rcases List.mem_cons.mp hx with e | hx
    · exact ⟨_, List.mem_cons_self, by rw [e]; exact f⟩
    · obtain ⟨y, h1, h2⟩ := ih hx; exact ⟨y, List.mem_cons_of_mem _ h1, h2⟩
section
variable {P : Program} {w : World} {K : PySem.W.Frag} {mg : Str → Option Value} {base : Heap} {C : Addr}
theorem sc_Tree___len__ : FnScope ["self"] ["self"] (defScope s_Tree___len__) := ⟨rfl, rfl, rfl, by decide +kernel, rfl, by decide +kernel, by decide +kernel⟩
theorem ok_Tree_len {f : Addr} {fd : FuncData} (F : Fun K "__len__" "Tree.__len__" s_Tree___len__ f fd) (T : TrT K C) (m_len : mg "len" = none) : FnOk P w K mg base CX0 1 f fd ["self"] (spTLen C) := by
  refine F.ok sc_Tree___len__ (fun vs H Q E h => ?_) (fun cdv A outer s H vs Q E hr h => ?_)
  · obtain ⟨t, pl, L, rfl, _⟩ := h; rfl
  · obtain ⟨t, pl, L, rfl, ⟨dx, kk, l, kvs, lvs, B⟩, k⟩ := h
    refine ⟨_, (pss_one (ps_ret (pe_callB call_lenD (by rfl) m_len (by decide +kernel) (pa_cons (pe_fld (pv 0) rfl) pa_nil)))), ?_⟩
    refine ⟨_, rfl, t, C, dx, _, _, rfl, B.ob, T.cl, T.nK, tf_k _ _, kk, kvs, rfl, B.kd, ?_⟩
    rw [Paired.length B.kr]
    exact k
theorem sc_Tree_inner : FnScope ["self", "node", "each"] ["self", "node"] (defScope s_Tree_inner) := ⟨rfl, rfl, rfl, by decide +kernel, rfl, by decide +kernel, by decide +kernel⟩
theorem ok_Tree_inner {f : Addr} {fd : FuncData} (F : Fun K "inner" "Tree.inner" s_Tree_inner f fd) (T : TrT K C) (m_sorted : mg "sorted" = none) (c_Tree__refuse : C8.Met P w K mg base 3 C "_refuse" (spTRefuse C) []) : FnOk P w K mg base CX0 4 f fd ["self", "node"] (spInner C) := by
  refine F.ok sc_Tree_inner (fun vs H Q E h => ?_) (fun cdv A outer s H vs Q E hr h => ?_)
  · obtain ⟨t, a, n, pl, L, rfl, _⟩ := h; rfl
  · obtain ⟨t, a, n, pl, L, rfl, TA, ha, hn, k⟩ := h
    have hu := hu_of hr
    refine ⟨_, (pss_cons (ps_expr (C8.pe_mt c_Tree__refuse hr (by decide) (pv 0) (pa_cons (pv 1) pa_nil)))
      (pss_one (ps_ret (pe_lc (own := [("each", 2)]) (g := gName 2) rfl sc_Tree_inner.nd (pi_list (pe_callB (cr_sortedN2 rfl hr.units) (by rfl) m_sorted (by decide +kernel) (pa_cons (pe_fld (pv 0) rfl) pa_nil))) (blkOk_by (own := [("each", 2)]) (N := ["self", "node", "each"]) (sc := defScope s_Tree_inner) (by decide +kernel)) (fun _ _ _ _ _ => pg_name (i := 2) sc_Tree_inner.nd rfl (Or.inl rfl)) (fun _ _ _ _ _ => (pts_one (pt_cmpR (op_eqDK K hr.units) (pe_dget (by exact hu) (pe_fldK K (pv 0) rfl) (pv 2) (fun _ _ => rfl)) (pv 1) (nomark _)))) (fun _ _ _ _ _ => (pv 2)))))), ?_⟩
    obtain ⟨dx, kk, l, kvs, lvs, B⟩ := id TA
    refine ⟨_, rfl, t, dx, _, rfl, B.ob, tf_no _ _ (by decide +kernel) (by decide +kernel), _, rfl, t, a, n, pl, L, rfl, TA, ha, hn, fun H1 s1 => ?_⟩
    have B1 := B.keep s1
    refine ⟨_, rfl, t, C, dx, _, _, rfl, B1.ob, T.cl, T.nL, tf_l _ _, l, lvs, L.map (·.1), rfl, Rd.of B1.ly, pa_keys B1.lr, by rw [List.length_map]; have := B.ok.lln; omega, fun ys p pm up hy hp => ?_⟩
    have sp := Same.new (o := .lst (ys.map fun y => V.ref y.1)) hp
    have es : ys.map Prod.snd = srtN (L.map (·.1)) := srtN_of pm up
    have hlen : ys.length ≤ 360 := by have := pm.length_eq; rw [List.length_map, List.length_map] at this; have := B.ok.lln; omega
    refine ⟨p, rfl, ⟨_, SqL.of upd_same⟩, fun D hD => ?_⟩
    refine lc_list (K := K) (a := p) (xs := ys.map fun y => V.ref y.1) (fun i H' => Same (upd H1 p (.lst (ys.map fun y => V.ref y.1))) H' ∧ ∃ zs : List (Addr × Nd), H' D = some (.lst (zs.map fun y => V.ref y.1)) ∧ zs.map Prod.snd = ((ys.take i).map Prod.snd).filter (fun m => decide (par L m = some n)) ∧ zs.length ≤ i ∧ ∀ y ∈ zs, y ∈ ys)
      ⟨Same.new hD, [], upd_same, rfl, Nat.le_refl _, fun _ h => by cases h⟩ (fun i H' _ q => SqL.of (q.1 _ _ upd_same)) ?_ ?_
    · rintro i x H2 hi ⟨s2, zs, e2, ez, lz, sub⟩
      rw [List.getElem?_map] at hi
      obtain ⟨y, hy1, rfl⟩ : ∃ y, ys[i]? = some y ∧ x = .ref y.1 := by
        cases e : ys[i]? with
        | none => rw [e] at hi; cases hi
        | some y => rw [e] at hi; exact ⟨y, rfl, (Option.some.inj hi).symm⟩
      have hym := List.mem_of_getElem? hy1
      have hlt : i < ys.length := (List.getElem?_eq_some_iff.mp hy1).1
      have hyL : y.2 ∈ L.map (·.1) := pm.mem_iff.mp (List.mem_map.mpr ⟨y, hym, rfl⟩)
      have s02 := (s1.trans sp).trans s2
      have B2 := B.keep s02
      have hya : NdA H2 y.1 y.2 := s2 _ _ (sp _ _ (hy y hym))
      have step : ((ys.take (i + 1)).map Prod.snd).filter (fun m => decide (par L m = some n)) = ((ys.take i).map Prod.snd).filter (fun m => decide (par L m = some n)) ++ if par L y.2 = some n then [y.2] else [] := by
        rw [List.take_add_one, hy1, List.map_append, List.filter_append]
        by_cases q : par L y.2 = some n
        · rw [if_pos q]; simp [q]
        · rw [if_neg q]; simp [q]
      obtain ⟨v, hv, tv⟩ := ly_some B2.lr hyL
      have hao : ∀ m, par L y.2 = some m → NdOk m := fun m e => B.ok.nd_ok ((rk_le B.ok hyL).2 m e)
      have hok1 := okD_o hao
      have hok2 := okD_n (B.ok.nd_ok hn)
      refine ⟨rfl, _, rfl, t, C, dx, _, _, rfl, B2.ob, T.cl, T.nL, tf_l _ _, _, rfl, l, v, rfl, by rw [← hv]; exact DGet.n B2.ly hya, ?_⟩
      refine ⟨_, rfl, oN (par L y.2), nD n, tv.d, (Tp.nd (s02 _ _ ha)).d, shaped_o hok1, shaped_of hok2 (by simp [nD, PyData.depth, PyData.depthAll]), _, rfl, ?_⟩
      rw [eqv_dec (p := par L y.2 = some n) hok1 hok2 oN_some]
      by_cases q : par L y.2 = some n
      · rw [if_pos q] at step
        rw [decide_eq_true q]
        refine iteT ⟨_, rfl, _, e2, by rw [List.length_map]; exact small1000 (by omega), fun b o e => ?_, zs ++ [y], by rw [upd_same, List.map_append]; rfl, ?_, by rw [List.length_append, List.length_singleton]; omega, fun u hu => ?_⟩
        · rw [upd_ne (ne_of_none e hD)]; exact s2 _ _ e
        · rw [step, List.map_append, ez]; rfl
        · rcases List.mem_append.mp hu with h | h
          · exact sub u h
          · rw [List.mem_singleton] at h; subst h; exact hym
      · rw [if_neg q, List.append_nil] at step
        rw [decide_eq_false q]
        exact iteF ⟨s2, zs, e2, by rw [step]; exact ez, by omega, sub⟩
    · rintro H2 ⟨s2, zs, e2, ez, lz, sub⟩
      rw [List.length_map] at lz
      rw [List.length_map, List.take_length, es] at ez
      exact k H2 D zs ((s1.trans sp).trans s2) (s1.free (sp.free hD)) e2 ez (by omega) fun y hy' => s2 _ _ (sp _ _ (hy y (sub y hy')))
theorem sc_Tree___eq__ : FnScope ["self", "other"] ["self", "other"] (defScope s_Tree___eq__) := ⟨rfl, rfl, rfl, by decide +kernel, rfl, by decide +kernel, by decide +kernel⟩
theorem ok_Tree_eq {f : Addr} {fd : FuncData} (F : Fun K "__eq__" "Tree.__eq__" s_Tree___eq__ f fd) (T : TrT K C) (I : C8.InsC K C) (m_isinstance : mg "isinstance" = none) (g_Tree : ∃ u, mg "Tree" = some u ∧ RelV (.ref C) u) : FnOk P w K mg base CX0 1 f fd ["self", "other"] (spTEq C) := by
  refine F.ok sc_Tree___eq__ (fun vs H Q E h => ?_) (fun cdv A outer s H vs Q E hr h => ?_)
  · obtain ⟨t, t2, pl, pl2, L, L2, rfl, _⟩ := h; rfl
  · obtain ⟨t, t2, pl, pl2, L, L2, rfl, ⟨dx, kk, l, kvs, lvs, B⟩, ⟨dx2, kk2, l2, kvs2, lvs2, B2⟩, al, k⟩ := h
    refine ⟨_, (pss_one (ps_ret (pe_and (pe_callB call_isi (by rfl) m_isinstance (by decide +kernel) (pa_cons (pv 1) (pa_cons (C8.pe_gc rfl g_Tree) pa_nil))) (pe_and (pe_cmpR (op_eqKD (u65 hr)) (pe_fld (pv 0) rfl) (pe_fld (pv 1) rfl) (nomark _)) (pe_one (pe_cmpR (op_eqTD (u65 hr)) (pe_fld (pv 0) rfl) (pe_fld (pv 1) rfl) (nomark _))))))), ?_⟩
    refine ⟨_, rfl, _, _, _, _, _, rfl, .own C, .base (.ins B2.ob I.cl I.ha I.hn I.htk I.hm), I.me, _, rfl, iteT ?_⟩
    refine ⟨_, rfl, t, C, dx, _, _, rfl, B.ob, T.cl, T.nK, tf_k _ _, _, rfl, t2, C, dx2, _, _, rfl, B2.ob, T.cl, T.nK, tf_k _ _, ?_⟩
    have kp := fun (p : Key × V) (hp : p ∈ kvs) => paired_at1 B.kr hp
    refine ⟨kk, kk2, kvs, kvs2, rfl, rfl, B.kd, B2.kd, by rw [Paired.length B.kr, Paired.length B2.kr]; exact al.n1, fun p hp => ?_, ?_⟩
    · obtain ⟨q, hq, f1, a, f2, f3⟩ := kp p hp
      have h1 := kO_val B2.kr q.1
      rw [al.k q hq] at h1
      have nok := B.ok.nd_ok (B.ok.pk _ hq)
      have hin : q.1 ∈ pl2.map (·.1) := by
        refine Decidable.byContradiction fun g => ?_
        have := al.k q hq
        rw [kO_none.mpr g] at this; cases this
      obtain ⟨k2, a2, g1, g2, g3, g4⟩ := pl_some B2.kr B2.ok.pnd hin
      have e2 : k2 = q.2 := Option.some.inj (((kO_iff B2.ok.pnd).mpr g1).symm.trans (al.k q hq))
      refine ⟨.ref a2, nD q.2, by rw [f1]; exact g2, by rw [f2]; exact (Tp.nd f3).d, (Tp.nd (by rw [← e2]; exact g3)).d, okD_n nok, by simp [nD, PyData.depth, PyData.depthAll]⟩
    · refine ⟨_, rfl, ?_⟩
      refine iteT ?_
      refine ⟨_, rfl, t, C, dx, _, _, rfl, B.ob, T.cl, T.nL, tf_l _ _, _, rfl, t2, C, dx2, _, _, rfl, B2.ob, T.cl, T.nL, tf_l _ _, ?_⟩
      refine ⟨l, l2, lvs, lvs2, rfl, rfl, B.ly, B2.ly, by rw [Paired.length B.lr, Paired.length B2.lr]; exact al.n2, fun p hp => ?_, k⟩
      obtain ⟨q, hq, f1, f2⟩ := paired_at1 B.lr hp
      obtain ⟨h1, h2⟩ := al.p q hq
      obtain ⟨v, hv, tv⟩ := ly_some B2.lr h1
      rw [h2] at tv
      have hao : ∀ m, q.2 = some m → NdOk m := fun m e => B.ok.nd_ok (B.ok.cl q hq m e)
      refine ⟨v, oN q.2, by rw [f1]; exact hv, f2.d, tv.d, okD_o hao, ?_⟩
      cases q.2 <;> simp [oN, nD, PyData.depth, PyData.depthAll]
end
end KN


set_option Elab.async false
set_option linter.all false
set_option maxRecDepth 100000
set_option maxHeartbeats 4000000
namespace KN
open PySem L2
/-! What lies above a node, from it on. -/
def lineN (L : List (Nd × Option Nd)) : Nat → Option Nd → List Nd
  | 0, _ => []
  | _ + 1, none => []
  | f + 1, some n => n :: lineN L f (par L n)
theorem lineN_none (L : List (Nd × Option Nd)) (f : Nat) : lineN L f none = [] := by cases f <;> rfl
theorem TreeAt.ok1 {C : Addr} {H : Hp} {t : Addr} {pl : List (Str × Nd)} {L : List (Nd × Option Nd)} (T : TreeAt C H t pl L) {n : Nd} (h : n ∈ L.map (·.1)) : NdOk n := by
  obtain ⟨_, _, _, _, _, B⟩ := T; exact B.ok.nd_ok h
theorem TreeAt.ok2 {C : Addr} {H : Hp} {t : Addr} {pl : List (Str × Nd)} {L : List (Nd × Option Nd)} (T : TreeAt C H t pl L) : TrOk pl L := by
  obtain ⟨_, _, _, _, _, B⟩ := T; exact B.ok
def spLine (C : Addr) : Sp := fun vs H Q _ => ∃ (t : Addr) (v : V) (o : Option Nd) (pl : List (Str × Nd)) (L : List (Nd × Option Nd)), vs = [.ref t, v] ∧ TreeAt C H t pl L ∧ Tp H v (oN o) ∧ (∀ x, o = some x → x ∈ L.map (·.1)) ∧
  ∀ H' l (ys : List (Addr × Nd)), Same H H' → H l = none → H' l = some (.lst (ys.map fun y => V.ref y.1)) → ys.map Prod.snd = lineN L 8 o → ys.length ≤ 8 → (∀ y ∈ ys, NdA H' y.1 y.2) → Q (.ref l) H'
section
variable {P : Program} {w : World} {K : PySem.W.Frag} {mg : Str → Option Value} {base : Heap} {C : Addr}
theorem sc__law_line : FnScope ["_law_tree", "_law_node", "_law_found"] ["_law_tree", "_law_node"] (defScope s__law_line) := ⟨rfl, rfl, rfl, by decide +kernel, rfl, by decide +kernel, by decide +kernel⟩
theorem ok__law_line {f : Addr} {fd : FuncData} (F : Fun K "_law_line" "_law_line" s__law_line f fd) (c_Tree_parent : C8.Met P w K mg base 4 C "parent" (spParent C) []) : FnOk P w K mg base CX0 5 f fd ["_law_tree", "_law_node"] (spLine C) := by
  refine F.ok sc__law_line (fun vs H Q E h => ?_) (fun cdv A outer s H vs Q E hr h => ?_)
  · obtain ⟨t, v, o, pl, L, rfl, _⟩ := h; rfl
  · obtain ⟨t, v, o, pl, L, rfl, TA, hv, ho, k⟩ := h
    refine ⟨_, (pss_cons (ps_set (i := 2) sc__law_line.nd rfl (Or.inl rfl) (pe_lst pa_nil))
      (pss_cons (ps_while PassesOwn.never (pt_cmpR op_notN (pv 1) pe_non (nomark _))
      (pss_cons (ps_expr (pe_bm PySem.F.plainAttrs_list PySem.F.slot_list_append PySem.F.type_list_append mt_append (pv 2) (pa_cons (pv 1) pa_nil)))
      (pss_one (ps_set (i := 1) sc__law_line.nd rfl (Or.inl rfl) (C8.pe_mt c_Tree_parent hr (by decide) (pv 0) (pa_cons (pv 1) pa_nil))))))
      (pss_one (ps_ret (pv 2))))), ?_⟩
    refine ⟨Nat.zero_le _, fun D hD => ?_⟩
    have sD := Same.new (o := .lst []) hD
    refine ⟨fun m σ H' => ∃ (at_ : Option Nd) (va : V) (ys : List (Addr × Nd)), σ = [some (.ref t), some va, some (.ref D)] ∧ Same H H' ∧ H' D = some (.lst (ys.map fun y => V.ref y.1)) ∧ Tp H' va (oN at_) ∧ (∀ x, at_ = some x → x ∈ L.map (·.1)) ∧ rk at_ + 1 ≤ m ∧ m ≤ 8 ∧ ys.length + m = 8 ∧ ys.map Prod.snd ++ lineN L m at_ = lineN L 8 o ∧ ∀ y ∈ ys, NdA H' y.1 y.2,
      ⟨8, o, v, [], rfl, sD, upd_same, hv.to (TK.of sD), ho, by
        cases o with
        | none => decide
        | some n => have := (TA.ok1 (ho n rfl)).1; show (6 - n.1).toNat + 1 ≤ 8; omega, Nat.le_refl _, rfl, rfl, fun _ h => by cases h⟩, ?_⟩
    rintro m σ1 H2 ⟨at_, va, ys, rfl, s2, e2, tv, hin, hm, m8, lm, heq, hy⟩
    obtain ⟨m, rfl⟩ : ∃ m', m = m' + 1 := ⟨m - 1, by omega⟩
    cases at_ with
    | none =>
      cases tv
      refine ⟨_, rfl, rfl, _, rfl, iteF ?_⟩
      rw [lineN_none, List.append_nil] at heq
      exact ⟨_, rfl, k H2 D ys s2 hD e2 heq (by omega) hy⟩
    | some x =>
      obtain ⟨b, rfl, hb⟩ := Tp.nd_inv tv
      have hx := hin x rfl
      refine ⟨_, rfl, rfl, _, rfl, iteT ?_⟩
      obtain ⟨h1, h2⟩ := rk_le TA.ok2 hx
      refine ⟨fun σ' H' => ∃ (at_ : Option Nd) (va : V) (ys : List (Addr × Nd)), σ' = [some (.ref t), some va, some (.ref D)] ∧ Same H H' ∧ H' D = some (.lst (ys.map fun y => V.ref y.1)) ∧ Tp H' va (oN at_) ∧ (∀ x, at_ = some x → x ∈ L.map (·.1)) ∧ rk at_ + 1 ≤ m ∧ m ≤ 8 ∧ ys.length + m = 8 ∧ ys.map Prod.snd ++ lineN L m at_ = lineN L 8 o ∧ ∀ y ∈ ys, NdA H' y.1 y.2,
        fun σ' H' ⟨at_, va, ys, h⟩ => ⟨m, Nat.lt_succ_self m, at_, va, ys, h⟩, ?_⟩
      have nbD : b ≠ D := fun q => by
        have hb' := hb
        unfold NdA at hb'
        rw [q, e2] at hb'; cases hb'
      refine ⟨_, rfl, .inl ⟨rfl, _, SqL.of e2⟩, _, rfl, D, _, _, rfl, rfl, e2, by rw [List.length_map]; exact small1000 (by omega), ?_⟩
      have s3 : Same H (upd H2 D (.lst (ys.map (fun y => V.ref y.1) ++ [.ref b]))) := fun q u e => by rw [upd_ne (ne_of_none e hD)]; exact s2 _ _ e
      have hb3 : NdA (upd H2 D (.lst (ys.map (fun y => V.ref y.1) ++ [.ref b]))) b x := by unfold NdA at hb ⊢; rw [upd_ne nbD]; exact hb
      have hy3 : ∀ y ∈ ys ++ [(b, x)], NdA (upd H2 D (.lst (ys.map (fun y => V.ref y.1) ++ [.ref b]))) y.1 y.2 := fun y hy' => by
        rcases List.mem_append.mp hy' with h | h
        · have := hy y h
          unfold NdA at this ⊢
          rw [upd_ne (fun q => by rw [q, e2] at this; cases this)]; exact this
        · rw [List.mem_singleton] at h; subst h; exact hb3
      have e3 : upd H2 D (.lst (ys.map (fun y => V.ref y.1) ++ [.ref b])) D = some (.lst ((ys ++ [(b, x)]).map fun y => V.ref y.1)) := by rw [upd_same, List.map_append]; rfl
      generalize upd H2 D (.lst (ys.map (fun y => V.ref y.1) ++ [.ref b])) = H3 at s3 hb3 hy3 e3 ⊢
      have T3 := TA.keep s3
      obtain ⟨dx3, kk3, l3, kvs3, lvs3, B3⟩ := id T3
      refine ⟨_, rfl, t, dx3, _, rfl, B3.ob, tf_no _ _ (by decide +kernel) (by decide +kernel), _, rfl, t, b, x, pl, L, rfl, T3, hb3, hx, fun H4 v4 s4 t4 => ?_⟩
      refine ⟨par L x, v4, ys ++ [(b, x)], rfl, s3.trans s4, s4 _ _ e3, t4, h2, by omega, by omega, by rw [List.length_append, List.length_singleton]; omega, ?_, fun y hy' => s4 _ _ (hy3 y hy')⟩
      rw [List.map_append, List.append_assoc]
      exact heq
end
end KN


set_option Elab.async false
set_option linter.all false
set_option maxRecDepth 100000
set_option maxHeartbeats 4000000
namespace KN
open PySem L2
/-! What holds of a tree that was told: its nodes lie above its sheets. -/
theorem par_at {L : List (Nd × Option Nd)} (nd : (L.map (·.1)).Nodup) {p : Nd × Option Nd} (hp : p ∈ L) : par L p.1 = p.2 := by
  unfold par
  induction L with
  | nil => cases hp
  | cons q L ih =>
    rw [List.map_cons, List.nodup_cons] at nd
    rcases List.mem_cons.mp hp with e | hp
    · rw [e, List.find?_cons_of_pos (by simp)]; rfl
    · have ne : q.1 ≠ p.1 := fun e => nd.1 (by rw [e]; exact List.mem_map.mpr ⟨p, hp, rfl⟩)
      rw [List.find?_cons_of_neg (by simpa using ne)]
      exact ih nd.2 hp
theorem up_head {L : List (Nd × Option Nd)} {a n : Nd} (h : Up L a n) : n = a ∨ ∃ x, par L a = some x ∧ Up L x n := by
  induction h with
  | rf => exact .inl rfl
  | st h e ih =>
    rcases ih with rfl | ⟨x, h1, h2⟩
    · exact .inr ⟨_, e, .rf _⟩
    · exact .inr ⟨x, h1, h2.st e⟩
theorem up_cons {L : List (Nd × Option Nd)} {a x n : Nd} (e : par L a = some x) (h : Up L x n) : Up L a n := by
  induction h with
  | rf => exact (Up.rf a).st e
  | st _ e2 ih => exact ih.st e2
theorem line_up {L : List (Nd × Option Nd)} : ∀ {f : Nat} {m n : Nd}, n ∈ lineN L f (some m) → Up L m n
  | 0, _, _, h => by cases h
  | f + 1, m, n, h => by
    rcases List.mem_cons.mp (show n ∈ m :: lineN L f (par L m) from h) with e | h
    · rw [e]; exact .rf _
    · cases e : par L m with
      | none => rw [e, lineN_none] at h; cases h
      | some x => rw [e] at h; exact up_cons e (line_up h)
theorem up_line {pl : List (Str × Nd)} {L : List (Nd × Option Nd)} (T : TrOk pl L) : ∀ {f : Nat} {m n : Nd}, m ∈ L.map (·.1) → rk (some m) + 1 ≤ f → Up L m n → n ∈ lineN L f (some m)
  | 0, m, n, _, hf, _ => by omega
  | f + 1, m, n, hm, hf, h => by
    show n ∈ m :: lineN L f (par L m)
    rcases up_head h with e | ⟨x, h1, h2⟩
    · rw [e]; exact List.mem_cons_self
    · obtain ⟨g1, g2⟩ := rk_le T hm
      rw [h1] at g1 ⊢
      exact List.mem_cons_of_mem _ (up_line T (g2 x h1) (by omega) h2)
/-- a tree that was told of kinds and what they lie in: each node has a sheet beneath it -/
structure Grown (pl : List (Str × Nd)) (L : List (Nd × Option Nd)) : Prop where
  ok : TrOk pl L
  sh : ∀ n ∈ L.map (·.1), ∃ q ∈ pl, Up L q.2 n
  k0 : ∀ q ∈ pl, q.2.1 = 0
  few : L.length ≤ 60
theorem grown_of {ks : List (Nd × List Str)} {ps L : List (Nd × Option Nd)} (T : TrOk (plOf ks) L) (P : LyP ks ps none L) (hk : ∀ k ∈ ks, KdOk k) (al : ∀ k ∈ ks, k.1 ∈ L.map (·.1)) (few : ks.length + ps.length ≤ 60) : Grown (plOf ks) L where
  ok := T
  sh := fun n hn => by
    obtain ⟨p, hp, rfl⟩ := List.mem_map.mp hn
    obtain ⟨k, hk1, hu⟩ := P.up p hp
    obtain ⟨z, hz⟩ := List.exists_mem_of_ne_nil _ (hk k hk1).2.2.1
    refine ⟨(z, k.1), List.mem_flatMap.mpr ⟨k, hk1, List.mem_map.mpr ⟨z, hz, rfl⟩⟩, ?_⟩
    have step : ∀ {m : Nd}, Up ps k.1 m → Up L k.1 m ∧ m ∈ L.map (·.1) := fun h => by
      induction h with
      | rf => exact ⟨.rf _, al k hk1⟩
      | @st b c h e ih =>
        obtain ⟨i1, i2⟩ := ih
        have e2 : par L b = some c := by
          obtain ⟨q, hq, rfl⟩ := List.mem_map.mp i2
          rw [par_at T.nd hq, P.par q hq]; exact e
        exact ⟨i1.st e2, (rk_le T i2).2 _ e2⟩
    exact (step hu).1
  k0 := fun q hq => by
    obtain ⟨g, hg, e⟩ := List.mem_flatMap.mp hq
    obtain ⟨z, _, e⟩ := List.mem_map.mp e
    rw [← e]; exact (hk g hg).2.1
  few := by
    have h := sub_len (ys := ks.map (·.1) ++ ps.filterMap (·.2)) T.nd fun n hn => by
      obtain ⟨p, hp, rfl⟩ := List.mem_map.mp hn
      obtain ⟨k, hk1, hu⟩ := P.up p hp
      have : ∀ {m : Nd}, Up ps k.1 m → m = k.1 ∨ m ∈ ps.filterMap (·.2) := fun h => by
        induction h with
        | rf => exact .inl rfl
        | @st b c _ e _ =>
          unfold par at e
          cases f : ps.find? (fun p => decide (p.1 = b)) with
          | none => rw [f] at e; cases e
          | some q =>
            rw [f] at e
            exact .inr (List.mem_filterMap.mpr ⟨q, List.mem_of_find?_eq_some f, e⟩)
      rcases this hu with e | e
      · exact List.mem_append_left _ (by rw [e]; exact List.mem_map.mpr ⟨k, hk1, rfl⟩)
      · exact List.mem_append_right _ e
    rw [List.length_map, List.length_append, List.length_map] at h
    have := List.length_filterMap_le (fun p : Nd × Option Nd => p.2) ps
    omega
/-- a node of rank 0 is a kind -/
theorem Grown.kind {pl : List (Str × Nd)} {L : List (Nd × Option Nd)} (G : Grown pl L) {n : Nd} (hn : n ∈ L.map (·.1)) (h0 : n.1 = 0) : ∃ z, (z, n) ∈ pl := by
  obtain ⟨q, hq, hu⟩ := G.sh n hn
  have hle : ∀ {m : Nd}, Up L q.2 m → m = q.2 ∨ q.2.1 < m.1 := fun h => by
    have hin : ∀ {m : Nd}, Up L q.2 m → m ∈ L.map (·.1) := fun h => by
      induction h with
      | rf => exact G.ok.pk q hq
      | st _ e ih => exact (rk_le G.ok ih).2 _ e
    induction h with
    | rf => exact .inl rfl
    | @st b c h e ih =>
      obtain ⟨p, hp, rfl⟩ := List.mem_map.mp (hin h)
      rw [par_at G.ok.nd hp] at e
      have := G.ok.up p hp _ e
      rcases ih with i | i
      · rw [← i]; exact .inr this
      · exact .inr (by omega)
  rcases hle hu with e | e
  · exact ⟨q.1, by rw [e]; exact hq⟩
  · have := G.k0 q hq; omega
end KN


set_option Elab.async false
set_option linter.all false
set_option maxRecDepth 100000
set_option maxHeartbeats 4000000
namespace KN
open PySem L2
/-! A tree told again from what it says. -/
def ksOf (pl : List (Str × Nd)) (L : List (Nd × Option Nd)) : List (Nd × List Str) := (n0 L).map fun n => (n, shK pl n)
def psOn (L : List (Nd × Option Nd)) (ns : List Nd) : List (Nd × Option Nd) := ns.map fun n => (n, par L n)
theorem psOf_par {L : List (Nd × Option Nd)} {ns : List Nd} (pm : ns.Perm (L.map (·.1))) (T : (L.map (·.1)).Nodup) {n : Nd} (h : n ∈ L.map (·.1)) : par (psOn L ns) n = par L n := by
  have nd : ((psOn L ns).map (·.1)).Nodup := by
    have : (psOn L ns).map (·.1) = ns := by unfold psOn; rw [List.map_map]; exact List.map_id' _
    rw [this]; exact pm.nodup_iff.mpr T
  exact par_at nd (p := (n, par L n)) (List.mem_map.mpr ⟨n, pm.mem_iff.mpr h, rfl⟩)
theorem n0_mem {L : List (Nd × Option Nd)} {n : Nd} : n ∈ n0 L ↔ n ∈ L.map (·.1) ∧ n.1 = 0 := by
  unfold n0
  rw [List.mem_filter, decide_eq_true_eq, (srtN_perm _).mem_iff]
theorem shK_mem' {pl : List (Str × Nd)} {n : Nd} {z : Str} : z ∈ shK pl n ↔ kO pl z = some n := by
  unfold shK
  rw [List.mem_filter, decide_eq_true_eq, (sortS_perm _).mem_iff]
  refine ⟨fun h => h.2, fun h => ⟨?_, h⟩⟩
  refine Decidable.byContradiction fun g => ?_
  rw [kO_none.mpr g] at h; cases h
/-- what is told again is well told -/
theorem ks_ok {pl : List (Str × Nd)} {L : List (Nd × Option Nd)} (G : Grown pl L) : ∀ k ∈ ksOf pl L, KdOk k := fun k hk => by
  obtain ⟨n, hn, rfl⟩ := List.mem_map.mp hk
  obtain ⟨h1, h2⟩ := n0_mem.mp hn
  obtain ⟨z, hz⟩ := G.kind h1 h2
  have hz' : z ∈ shK pl n := shK_mem'.mpr ((kO_iff G.ok.pnd).mpr hz)
  refine ⟨G.ok.nd_ok h1, h2, fun e => ?_, ?_, ?_, fun u hu => ?_⟩
  · have e' : shK pl n = [] := e
    rw [e'] at hz'; cases hz'
  · exact Nat.le_trans (List.length_filter_le _ _) (by rw [(sortS_perm _).length_eq, List.length_map]; exact G.ok.pln)
  · exact ((sortS_perm _).nodup_iff.mpr G.ok.pnd).filter _
  · exact G.ok.pw _ ((kO_iff G.ok.pnd).mp (shK_mem'.mp hu))
theorem ps_ok {pl : List (Str × Nd)} {L : List (Nd × Option Nd)} (G : Grown pl L) {ns : List Nd} (pm : ns.Perm (L.map (·.1))) : ∀ p ∈ psOn L ns, PaOk p := fun p hp => by
  obtain ⟨n, hn, rfl⟩ := List.mem_map.mp hp
  have h1 := pm.mem_iff.mp hn
  refine ⟨G.ok.nd_ok h1, fun x e => ?_⟩
  have h2 := (rk_le G.ok h1).2 x e
  obtain ⟨q, hq, rfl⟩ := List.mem_map.mp h1
  have e' : par L q.1 = some x := e
  rw [par_at G.ok.nd hq] at e'
  exact ⟨G.ok.nd_ok h2, G.ok.up q hq x e'⟩
theorem grp_cons (pl : List (Str × Nd)) (z : Str) (xs : List Str) (n : Nd) : grp pl (z :: xs) n = (if kO pl z = some n then [z] else []) ++ grp pl xs n := by
  unfold grp
  by_cases h : kO pl z = some n
  · rw [if_pos h]; simp [h]
  · rw [if_neg h]; simp [h]
theorem noW_cons (pl : List (Str × Nd)) (z : Str) (xs : List Str) : noW pl (z :: xs) = (if kO pl z = none then [z] else []) ++ noW pl xs := by
  unfold noW
  by_cases h : kO pl z = none
  · rw [if_pos h]; simp [h]
  · rw [if_neg h]; simp [h]
theorem sum_one {ms : List Nd} {m : Nd} {f : Nd → Nat} (nd : ms.Nodup) (h : m ∈ ms) : (ms.map fun n => (if m = n then 1 else 0) + f n).sum = 1 + (ms.map f).sum := by
  induction ms with
  | nil => cases h
  | cons a ms ih =>
    rw [List.nodup_cons] at nd
    rw [List.map_cons, List.sum_cons, List.map_cons, List.sum_cons]
    rcases List.mem_cons.mp h with e | h
    · subst e
      have : (ms.map fun n => (if m = n then 1 else 0) + f n) = ms.map f := List.map_congr_left fun n hn => by
        rw [if_neg (fun e => nd.1 (by rw [e]; exact hn))]; omega
      rw [this, if_pos rfl]; omega
    · have ne : m ≠ a := fun e => nd.1 (by rw [← e]; exact h)
      rw [ih nd.2 h, if_neg ne]; omega
theorem part_sum {pl : List (Str × Nd)} {ms : List Nd} (nd : ms.Nodup) : ∀ xs : List Str, (∀ z ∈ xs, ∀ n, kO pl z = some n → n ∈ ms) → (ms.map fun n => (grp pl xs n).length).sum + (noW pl xs).length = xs.length
  | [], _ => by
    have : (ms.map fun n => (grp pl [] n).length) = ms.map fun _ => 0 := rfl
    rw [this]
    have : ∀ l : List Nd, (l.map fun _ => 0).sum = 0 := fun l => by induction l with
      | nil => rfl
      | cons _ _ ih => rw [List.map_cons, List.sum_cons, ih]
    rw [this]; rfl
  | z :: xs, h => by
    have ih := part_sum nd xs fun u hu => h u (List.mem_cons_of_mem _ hu)
    rw [noW_cons]
    cases e : kO pl z with
    | none =>
      have : (ms.map fun n => (grp pl (z :: xs) n).length) = ms.map fun n => (grp pl xs n).length := List.map_congr_left fun n _ => by rw [grp_cons, e]; rfl
      rw [this, if_pos rfl, List.length_append, List.length_cons, List.length_cons, List.length_nil]; omega
    | some m =>
      have : (ms.map fun n => (grp pl (z :: xs) n).length) = ms.map fun n => (if m = n then 1 else 0) + (grp pl xs n).length := List.map_congr_left fun n _ => by
        rw [grp_cons, e, List.length_append]
        by_cases g : m = n
        · rw [if_pos g, if_pos (by rw [g])]; rfl
        · rw [if_neg g, if_neg (fun z => g (Option.some.inj z))]; rfl
      rw [this, sum_one nd (h z List.mem_cons_self m e), if_neg nofun, List.length_append, List.length_nil, List.length_cons]; omega
theorem flat_sum (pl : List (Str × Nd)) : ∀ ms : List Nd, ((ms.map fun n => (n, shK pl n)).flatMap (·.2)).length = (ms.map fun n => (shK pl n).length).sum
  | [] => rfl
  | n :: ms => by rw [List.map_cons, List.flatMap_cons, List.length_append, flat_sum pl ms, List.map_cons, List.sum_cons]
theorem flat_nd {pl : List (Str × Nd)} (pnd : (pl.map (·.1)).Nodup) : ∀ {ms : List Nd}, ms.Nodup → ((ms.map fun n => (n, shK pl n)).flatMap (·.2)).Nodup
  | [], _ => List.nodup_nil
  | n :: ms, nd => by
    rw [List.nodup_cons] at nd
    rw [List.map_cons, List.flatMap_cons]
    refine List.nodup_append.mpr ⟨((sortS_perm _).nodup_iff.mpr pnd).filter _, flat_nd pnd nd.2, fun x hx y hy e => ?_⟩
    subst e
    obtain ⟨k, hk, hx2⟩ := List.mem_flatMap.mp hy
    obtain ⟨m, hm, rfl⟩ := List.mem_map.mp hk
    have e1 := shK_mem'.mp hx
    have e2 := shK_mem'.mp hx2
    rw [e1] at e2
    exact nd.1 (by rw [Option.some.inj e2]; exact hm)
theorem ks_nd {pl : List (Str × Nd)} {L : List (Nd × Option Nd)} (G : Grown pl L) : ((plOf (ksOf pl L)).map (·.1)).Nodup := by
  rw [plOf_fst]
  exact flat_nd G.ok.pnd (((srtN_perm _).nodup_iff.mpr G.ok.nd).filter _)
theorem ks_len {pl : List (Str × Nd)} {L : List (Nd × Option Nd)} (G : Grown pl L) : (plOf (ksOf pl L)).length = pl.length := by
  have h1 : (plOf (ksOf pl L)).length = ((plOf (ksOf pl L)).map (·.1)).length := (List.length_map ..).symm
  rw [h1, plOf_fst]
  unfold ksOf
  rw [flat_sum]
  have nd0 : (n0 L).Nodup := ((srtN_perm _).nodup_iff.mpr G.ok.nd).filter _
  have h2 := part_sum (pl := pl) nd0 (sortS (pl.map (·.1))) fun z _ n e => by
    have := (kO_iff G.ok.pnd).mp e
    exact n0_mem.mpr ⟨G.ok.pk _ this, G.k0 _ this⟩
  have h3 : noW pl (sortS (pl.map (·.1))) = [] := List.filter_eq_nil_iff.mpr fun z hz h => by
    exact kO_none.mp (of_decide_eq_true h) ((sortS_perm _).mem_iff.mp hz)
  rw [h3, (sortS_perm _).length_eq, List.length_map] at h2
  exact h2
theorem again_alike {pl : List (Str × Nd)} {L L' : List (Nd × Option Nd)} (G : Grown pl L) {ns : List Nd} (pm : ns.Perm (L.map (·.1))) (T : TrOk (plOf (ksOf pl L)) L') (P : LyP (ksOf pl L) (psOn L ns) none L') (al : ∀ k ∈ ksOf pl L, k.1 ∈ L'.map (·.1)) : Alike (plOf (ksOf pl L)) pl L' L := by
  have inL : ∀ n ∈ L'.map (·.1), n ∈ L.map (·.1) := fun n hn => by
    obtain ⟨p, hp, rfl⟩ := List.mem_map.mp hn
    obtain ⟨k, hk, hu⟩ := P.up p hp
    obtain ⟨m, hm, rfl⟩ := List.mem_map.mp hk
    have : ∀ {b : Nd}, Up (psOn L ns) m b → b ∈ L.map (·.1) := fun h => by
      induction h with
      | rf => exact (n0_mem.mp hm).1
      | @st b c _ e ih =>
        rw [psOf_par pm G.ok.nd ih] at e
        exact (rk_le G.ok ih).2 c e
    exact this hu
  have inL' : ∀ n ∈ L.map (·.1), n ∈ L'.map (·.1) := fun n hn => by
    obtain ⟨q, hq, hu⟩ := G.sh n hn
    have hq2 := G.ok.pk q hq
    have h0 : q.2 ∈ L'.map (·.1) := al (q.2, shK pl q.2) (List.mem_map.mpr ⟨q.2, n0_mem.mpr ⟨hq2, G.k0 q hq⟩, rfl⟩)
    have : ∀ {b : Nd}, Up L q.2 b → b ∈ L'.map (·.1) ∧ b ∈ L.map (·.1) := fun h => by
      induction h with
      | rf => exact ⟨h0, hq2⟩
      | @st b c _ e ih =>
        obtain ⟨i1, i2⟩ := ih
        obtain ⟨p, hp, rfl⟩ := List.mem_map.mp i1
        refine ⟨?_, (rk_le G.ok i2).2 c e⟩
        exact T.cl p hp c (by rw [P.par p hp, psOf_par pm G.ok.nd i2]; exact e)
    exact (this hu).1
  refine ⟨?_, fun p hp => ?_, ?_, fun q hq => ?_⟩
  · have h1 : (plOf (ksOf pl L)).length = ((plOf (ksOf pl L)).map (·.1)).length := (List.length_map ..).symm
    rw [h1, plOf_fst]
    unfold ksOf
    rw [flat_sum]
    have nd0 : (n0 L).Nodup := ((srtN_perm _).nodup_iff.mpr G.ok.nd).filter _
    have h2 := part_sum (pl := pl) nd0 (sortS (pl.map (·.1))) fun z _ n e => by
      have := (kO_iff G.ok.pnd).mp e
      exact n0_mem.mpr ⟨G.ok.pk _ this, G.k0 _ this⟩
    have h3 : noW pl (sortS (pl.map (·.1))) = [] := List.filter_eq_nil_iff.mpr fun z hz h => by
      exact kO_none.mp (of_decide_eq_true h) ((sortS_perm _).mem_iff.mp hz)
    rw [h3, (sortS_perm _).length_eq, List.length_map] at h2
    exact h2
  · obtain ⟨k, hk, e⟩ := List.mem_flatMap.mp hp
    obtain ⟨n, hn, rfl⟩ := List.mem_map.mp hk
    obtain ⟨z, hz, rfl⟩ := List.mem_map.mp e
    exact shK_mem'.mp hz
  · have a := sub_len T.nd inL
    have b := sub_len G.ok.nd inL'
    rw [List.length_map, List.length_map] at a b
    omega
  · have hm : q.1 ∈ L'.map (·.1) := List.mem_map.mpr ⟨q, hq, rfl⟩
    exact ⟨inL _ hm, by rw [P.par q hq, psOf_par pm G.ok.nd (inL _ hm)]⟩
end KN


set_option Elab.async false
set_option linter.all false
set_option maxRecDepth 100000
set_option maxHeartbeats 4000000
namespace KN
open PySem L2
/-! _law_again. -/
def spAgain (C : Addr) : Sp := fun vs H Q _ => ∃ (t : Addr) (pl : List (Str × Nd)) (L : List (Nd × Option Nd)), vs = [.ref t] ∧ TreeAt C H t pl L ∧ Grown pl L ∧
  ∀ H' t' L', Same H H' → H t' = none → TreeAt C H' t' (plOf (ksOf pl L)) L' → Alike (plOf (ksOf pl L)) pl L' L → Q (.ref t') H'
structure KR where
  T : Addr
  k : Addr
  n : Nd
  v : V
section
variable {P : Program} {w : World} {K : PySem.W.Frag} {mg : Str → Option Value} {base : Heap} {C : Addr}
theorem sc__law_again : FnScope ["_law_tree", "_law_kinds", "_law_kind", "_law_node"] ["_law_tree"] (defScope s__law_again) := ⟨rfl, rfl, rfl, by decide +kernel, rfl, by decide +kernel, by decide +kernel⟩
theorem ok__law_again {f : Addr} {fd : FuncData} (F : Fun K "_law_again" "_law_again" s__law_again f fd) (m_dict : mg "dict" = none) (c_Tree_nodes_rank : MetK P w K mg base 5 C "nodes" (spNodes0 C) 1 ["rank"] (fun vs zs => vs ++ zs)) (c_Tree_sheets : C8.Met P w K mg base 5 C "sheets" (spSheetsK C) []) (c_Tree_nodes : C8.Met P w K mg base 5 C "nodes" (spNodes C) [.non]) (c_Tree_parent : C8.Met P w K mg base 4 C "parent" (spParent C) []) (c_Tree : C8.Mak P w K mg base 5 "Tree" C (spTInit C) []) : FnOk P w K mg base CX0 7 f fd ["_law_tree"] (spAgain C) := by
  refine F.ok sc__law_again (fun vs H Q E h => ?_) (fun cdv A outer s H vs Q E hr h => ?_)
  · obtain ⟨t, pl, L, rfl, _⟩ := h; rfl
  · obtain ⟨t, pl, L, rfl, TA, G, k⟩ := h
    have hu := hu_of hr
    refine ⟨_, (pss_cons (ps_set (i := 1) sc__law_again.nd rfl (Or.inl rfl) (pe_callTy (cr_dictT rfl hr.units) (by rfl) m_dict (by decide +kernel) (pa_cons (pe_lc (own := [("_law_kind", 2)]) (g := gName 2) (tt := tYes) rfl sc__law_again.nd (pi_list (pe_mtK0 c_Tree_nodes_rank hr (by decide) (pv 0) (pk_cons pe_int pk_nil))) (blkOk_by (own := [("_law_kind", 2)]) (N := ["_law_tree", "_law_kinds", "_law_kind", "_law_node"]) (sc := defScope s__law_again) (by decide +kernel)) (fun _ _ _ _ _ => pg_name (i := 2) sc__law_again.nd rfl (Or.inl rfl)) (fun _ _ _ _ _ => pts_nil) (fun _ _ _ _ _ => (pe_tup (pa_cons (pv 2) (pa_cons (C8.pe_mt c_Tree_sheets hr (by decide) (pv 0) (pa_cons (pv 2) pa_nil)) pa_nil))))) pa_nil)))
      (pss_one (ps_ret (C8.pe_mk c_Tree hr (by decide) rfl (pa_cons (pv 1) (pa_cons (pe_callTy (cr_dictT rfl hr.units) (by rfl) m_dict (by decide +kernel) (pa_cons (pe_lc (own := [("_law_node", 3)]) (g := gName 3) (tt := tYes) rfl sc__law_again.nd (pi_list (C8.pe_mt0 c_Tree_nodes hr (by decide) (pv 0))) (blkOk_by (own := [("_law_node", 3)]) (N := ["_law_tree", "_law_kinds", "_law_kind", "_law_node"]) (sc := defScope s__law_again) (by decide +kernel)) (fun _ _ _ _ _ => pg_name (i := 3) sc__law_again.nd rfl (Or.inl rfl)) (fun _ _ _ _ _ => pts_nil) (fun _ _ _ _ _ => (pe_tup (pa_cons (pv 3) (pa_cons (C8.pe_mt c_Tree_parent hr (by decide) (pv 0) (pa_cons (pv 3) pa_nil)) pa_nil))))) pa_nil)) pa_nil)))))), ?_⟩
    obtain ⟨dx, kk, l, kvs, lvs, B⟩ := id TA
    refine ⟨_, rfl, t, dx, _, rfl, B.ob, tf_no _ _ (by decide +kernel) (by decide +kernel), rfl, rfl, t, pl, L, rfl, TA, fun H1 N ys s1 hN0 hN eys lys hya => ?_⟩
    refine ⟨N, rfl, ⟨_, SqL.of hN⟩, fun D hD => ?_⟩
    refine lc_list (K := K) (a := N) (xs := ys.map fun y => V.ref y.1) (fun j H' => Same H1 H' ∧ ∃ Ps : List KR, H' D = some (.lst (Ps.map fun x => V.ref x.T)) ∧ Ps.map (·.n) = (ys.take j).map Prod.snd ∧ ∀ x ∈ Ps, H' x.T = some (.tup [.ref x.k, x.v]) ∧ NdA H' x.k x.n ∧ ∃ la, x.v = .ref la ∧ la ≠ D ∧ H' la = some (.lst ((shK pl x.n).map V.str)))
      ⟨Same.new hD, [], upd_same, rfl, fun _ h => by cases h⟩ (fun j H' _ q => SqL.of (q.1 _ _ hN)) ?_ ?_
    · rintro j x Hj hj ⟨sj, Ps, ej, en, rows⟩
      rw [List.getElem?_map] at hj
      obtain ⟨y, hy1, rfl⟩ : ∃ y, ys[j]? = some y ∧ x = .ref y.1 := by
        cases e : ys[j]? with
        | none => rw [e] at hj; cases hj
        | some y => rw [e] at hj; exact ⟨y, rfl, (Option.some.inj hj).symm⟩
      have hym := List.mem_of_getElem? hy1
      have hjl : j < ys.length := (List.getElem?_eq_some_iff.mp hy1).1
      obtain ⟨hyL, hy0⟩ := n0_mem.mp (by rw [← eys]; exact List.mem_map.mpr ⟨y, hym, rfl⟩ : y.2 ∈ n0 L)
      have Tj := (TA.keep s1).keep sj
      obtain ⟨dxj, kkj, llj, kvsj, lvsj, Bj⟩ := id Tj
      have hyj : NdA Hj y.1 y.2 := sj _ _ (hya y hym)
      refine ⟨rfl, _, rfl, _, rfl, t, dxj, _, rfl, Bj.ob, tf_no _ _ (by decide +kernel) (by decide +kernel), _, rfl, t, y.1, y.2, pl, L, rfl, Tj, hyj, hyL, hy0, G.k0, fun Hk S sk S0 hS => ?_⟩
      refine ⟨by show 2 ≤ sizeLine; decide, fun TT hTT => ?_⟩
      have sT := Same.new (o := .tup [.ref y.1, .ref S]) hTT
      have skT := sk.trans sT
      have eD := skT _ _ ej
      have hTe : upd Hk TT (.tup [.ref y.1, .ref S]) TT = some (.tup [.ref y.1, .ref S]) := upd_same
      have hSe := sT _ _ hS
      have nSD : S ≠ D := fun q => by rw [q, ej] at S0; cases S0
      generalize upd Hk TT (.tup [.ref y.1, .ref S]) = Hm at skT eD hTe hSe ⊢
      have lPs : Ps.length ≤ j := by have := congrArg List.length en; rw [List.length_map, List.length_map, List.length_take] at this; omega
      have kt : ∀ {q : Addr} {xs : List V}, Hm q = some (.tup xs) → upd Hm D (.lst (Ps.map (fun x => V.ref x.T) ++ [.ref TT])) q = some (.tup xs) := fun e => by
        rw [upd_ne (fun z => by rw [z, eD] at e; cases e)]; exact e
      refine ⟨_, eD, by rw [List.length_map]; exact small1000 (by omega), fun b o q => ?_, Ps ++ [⟨TT, y.1, y.2, .ref S⟩], by rw [upd_same, List.map_append]; rfl, by rw [List.map_append, en, List.take_add_one, hy1, List.map_append]; rfl, fun x hx => ?_⟩
      · rw [upd_ne (ne_of_none q hD)]; exact skT _ _ (sj _ _ q)
      · rcases List.mem_append.mp hx with h | h
        · obtain ⟨g1, g2, la, g3, g4, g5⟩ := rows x h
          exact ⟨kt (skT _ _ g1), kt (skT _ _ g2), la, g3, g4, by rw [upd_ne g4]; exact skT _ _ g5⟩
        · rw [List.mem_singleton] at h; subst h
          exact ⟨kt hTe, kt (skT _ _ hyj), S, rfl, nSD, (upd_ne nSD).trans hSe⟩
    · rintro Hj ⟨sj, Ps, ej, en, rows⟩
      rw [List.length_map, List.take_length, eys] at en
      have nd0 : (n0 L).Nodup := ((srtN_perm _).nodup_iff.mpr G.ok.nd).filter _
      have lPs : Ps.length ≤ 360 := by have := congrArg List.length en; rw [List.length_map] at this; have h2 := congrArg List.length eys; rw [List.length_map] at h2; omega
      refine ⟨D, Ps.map fun x => (x.T, nK x.n, x.k, x.v), rfl, SqL.of (by rw [List.map_map]; exact ej), fun p hp => ?_, ?_, by rw [List.length_map]; omega, fun d hd => ?_⟩
      · obtain ⟨x, hx, rfl⟩ := List.mem_map.mp hp
        exact ⟨(rows x hx).1, (rows x hx).2.1⟩
      · rw [List.map_map]
        have : (Ps.map fun x => nK x.n) = (n0 L).map nK := by rw [← en, List.map_map]; rfl
        show (Ps.map fun x => nK x.n).Nodup
        rw [this]
        exact List.pairwise_map.mpr (nd0.imp fun ne e => ne (nK_inj e))
      have sd := Same.new (o := .dT ((Ps.map fun x => (x.T, nK x.n, x.k, x.v)).map fun p => (p.2.1, p.2.2.2))) hd
      have hdd : upd Hj d (.dT ((Ps.map fun x => (x.T, nK x.n, x.k, x.v)).map fun p => (p.2.1, p.2.2.2))) d = some (.dT (Ps.map fun x => (nK x.n, x.v))) := by rw [upd_same, List.map_map]; rfl
      generalize upd Hj d (.dT ((Ps.map fun x => (x.T, nK x.n, x.k, x.v)).map fun p => (p.2.1, p.2.2.2))) = Hd at sd hdd ⊢
      have kAt : KindsAt Hd d (ksOf pl L) := by
        refine ⟨_, hdd, ?_⟩
        unfold ksOf
        rw [← en]
        clear en hdd ej
        induction Ps with
        | nil => exact .nil
        | cons x Ps ih =>
          obtain ⟨_, _, la, g3, _, g5⟩ := rows x List.mem_cons_self
          exact .cons ⟨rfl, la, g3, sd _ _ g5⟩ (ih (fun y hy => rows y (List.mem_cons_of_mem _ hy)) (by rw [List.length_cons] at lPs; omega))
      have s0d := (s1.trans sj).trans sd
      have Td := TA.keep s0d
      obtain ⟨dxd, kkd, ld, kvsd, lvsd, Bd⟩ := id Td
      refine ⟨_, rfl, _, rfl, t, dxd, _, rfl, Bd.ob, tf_no _ _ (by decide +kernel) (by decide +kernel), t, pl, L, rfl, Td, fun H2 N2 ys2 s2 N20 hN2 pm2 hya2 => ?_⟩
      have l2 : ys2.length ≤ 60 := by have := pm2.length_eq; rw [List.length_map, List.length_map] at this; have := G.few; omega
      have T2_ := Td.keep s2
      refine ⟨N2, rfl, ⟨_, SqL.of hN2⟩, fun D2 hD2 => ?_⟩
      refine lc_list (K := K) (a := N2) (xs := ys2.map fun y => V.ref y.1) (fun j H' => Same H2 H' ∧ ∃ Qs : List KR, H' D2 = some (.lst (Qs.map fun x => V.ref x.T)) ∧ Qs.map (·.n) = (ys2.take j).map Prod.snd ∧ ∀ x ∈ Qs, H' x.T = some (.tup [.ref x.k, x.v]) ∧ NdA H' x.k x.n ∧ Tp H' x.v (oN (par L x.n)))
        ⟨Same.new hD2, [], upd_same, rfl, fun _ h => by cases h⟩ (fun j H' _ q => SqL.of (q.1 _ _ hN2)) ?_ ?_
      · rintro j x Hq hj ⟨sq, Qs, eq_, enq, rowq⟩
        rw [List.getElem?_map] at hj
        obtain ⟨y, hy1, rfl⟩ : ∃ y, ys2[j]? = some y ∧ x = .ref y.1 := by
          cases e : ys2[j]? with
          | none => rw [e] at hj; cases hj
          | some y => rw [e] at hj; exact ⟨y, rfl, (Option.some.inj hj).symm⟩
        have hym := List.mem_of_getElem? hy1
        have hjl : j < ys2.length := (List.getElem?_eq_some_iff.mp hy1).1
        have hyL : y.2 ∈ L.map (·.1) := pm2.mem_iff.mp (List.mem_map.mpr ⟨y, hym, rfl⟩)
        obtain ⟨dxj, kkj, llj, kvsj, lvsj, Bj⟩ := id (T2_.keep sq)
        have hyq : NdA Hq y.1 y.2 := sq _ _ (hya2 y hym)
        refine ⟨rfl, _, rfl, _, rfl, t, dxj, _, rfl, Bj.ob, tf_no _ _ (by decide +kernel) (by decide +kernel), _, rfl, t, y.1, y.2, pl, L, rfl, T2_.keep sq, hyq, hyL, fun Hk v sk tv => ?_⟩
        refine ⟨by show 2 ≤ sizeLine; decide, fun TT hTT => ?_⟩
        have sT := Same.new (o := .tup [.ref y.1, v]) hTT
        have skT := sk.trans sT
        have eD := skT _ _ eq_
        have hTe : upd Hk TT (.tup [.ref y.1, v]) TT = some (.tup [.ref y.1, v]) := upd_same
        have tv2 := tv.to (TK.of sT)
        generalize upd Hk TT (.tup [.ref y.1, v]) = Hm at skT eD hTe tv2 ⊢
        have lQs : Qs.length ≤ j := by have := congrArg List.length enq; rw [List.length_map, List.length_map, List.length_take] at this; omega
        have kt : TK Hm (upd Hm D2 (.lst (Qs.map (fun x => V.ref x.T) ++ [.ref TT]))) := TK.put eD (by intro z; exact nofun)
        refine ⟨_, eD, by rw [List.length_map]; exact small1000 (by omega), fun b o q => ?_, Qs ++ [⟨TT, y.1, y.2, v⟩], by rw [upd_same, List.map_append]; rfl, by rw [List.map_append, enq, List.take_add_one, hy1, List.map_append]; rfl, fun x hx => ?_⟩
        · rw [upd_ne (ne_of_none q hD2)]; exact skT _ _ (sq _ _ q)
        · rcases List.mem_append.mp hx with h | h
          · obtain ⟨g1, g2, g3⟩ := rowq x h
            exact ⟨kt _ _ (skT _ _ g1), kt _ _ (skT _ _ g2), g3.to ((TK.of skT).trans kt)⟩
          · rw [List.mem_singleton] at h; subst h
            exact ⟨kt _ _ hTe, kt _ _ (skT _ _ hyq), tv2.to kt⟩
      · rintro Hq ⟨sq, Qs, eq_, enq, rowq⟩
        rw [List.length_map, List.take_length] at enq
        have lQs : Qs.length ≤ 60 := by have := congrArg List.length enq; rw [List.length_map, List.length_map] at this; omega
        have pmq : (Qs.map (·.n)).Perm (L.map (·.1)) := by rw [enq]; exact pm2
        refine ⟨D2, Qs.map fun x => (x.T, nK x.n, x.k, x.v), rfl, SqL.of (by rw [List.map_map]; exact eq_), fun p hp => ?_, ?_, by rw [List.length_map]; omega, fun d2 hd2 => ?_⟩
        · obtain ⟨x, hx, rfl⟩ := List.mem_map.mp hp
          exact ⟨(rowq x hx).1, (rowq x hx).2.1⟩
        · rw [List.map_map]
          have : (Qs.map fun x => nK x.n) = (Qs.map (·.n)).map nK := by rw [List.map_map]; rfl
          show (Qs.map fun x => nK x.n).Nodup
          rw [this]
          exact List.pairwise_map.mpr ((pmq.nodup_iff.mpr G.ok.nd).imp fun ne e => ne (nK_inj e))
        have sd2 := Same.new (o := .dT ((Qs.map fun x => (x.T, nK x.n, x.k, x.v)).map fun p => (p.2.1, p.2.2.2))) hd2
        have hdd2 : upd Hq d2 (.dT ((Qs.map fun x => (x.T, nK x.n, x.k, x.v)).map fun p => (p.2.1, p.2.2.2))) d2 = some (.dT (Qs.map fun x => (nK x.n, x.v))) := by rw [upd_same, List.map_map]; rfl
        have ndd : d ≠ d2 := fun z => by
          have := (s2.trans sq) _ _ hdd
          rw [z, hd2] at this; cases this
        generalize upd Hq d2 (.dT ((Qs.map fun x => (x.T, nK x.n, x.k, x.v)).map fun p => (p.2.1, p.2.2.2))) = He at sd2 hdd2 ⊢
        have pAt : ParAt He d2 (psOn L (Qs.map (·.n))) := by
          refine ⟨_, hdd2, ?_⟩
          unfold psOn
          clear enq pmq hdd2 eq_ lQs
          induction Qs with
          | nil => exact .nil
          | cons x Qs ih =>
            exact .cons ⟨rfl, (rowq x List.mem_cons_self).2.2.to (TK.of sd2)⟩ (ih fun y hy => rowq y (List.mem_cons_of_mem _ hy))
        have sde := (s2.trans sq).trans sd2
        intro t' dx' nt ndx ne
        have s4 : Same He (upd (upd He dx' (.own t')) t' (.ins C dx' [])) := (Same.new ndx).trans (Same.new (by rw [upd_ne ne.symm]; exact nt))
        obtain ⟨kvk, hk1, hk2⟩ := kAt
        obtain ⟨kvp, hp1, hp2⟩ := pAt
        have few := G.few
        have lks : (ksOf pl L).length ≤ 60 := by
          unfold ksOf
          rw [List.length_map]
          exact Nat.le_trans (List.length_filter_le _ _) (by rw [(srtN_perm _).length_eq, List.length_map]; exact few)
        have pnd : ((plOf (ksOf pl L)).map (·.1)).Nodup := ks_nd G
        have pl60 : (plOf (ksOf pl L)).length ≤ 60 := by rw [ks_len G]; exact G.ok.pln
        refine ⟨t', dx', d, d2, ksOf pl L, psOn L (Qs.map (·.n)), rfl, upd_same, ⟨kvk, (sde.trans s4) _ _ hk1, L2.Paired.mapP hk2 fun _ _ f => ⟨f.1, f.2.imp fun l g => ⟨g.1, (sde.trans s4) _ _ g.2⟩⟩⟩, ⟨kvp, s4 _ _ hp1, L2.Paired.mapP hp2 fun _ _ f => ⟨f.1, f.2.to (TK.of s4)⟩⟩, ndd, ks_ok G, ps_ok G pmq, lks, by unfold psOn; rw [List.length_map, List.length_map]; omega, pnd, pl60, fun H5 L' k5 T5 P5 al5 => ⟨rfl, ?_⟩⟩
        have s0e := s0d.trans sde
        exact k H5 t' L' (fun x o e => k5 x o (ne_of_none (s0e _ _ e) nt) (s4 _ _ (s0e _ _ e))) (s0e.free nt) T5 (again_alike G pmq T5.ok2 P5 al5)
end
end KN


set_option Elab.async false
set_option linter.all false
set_option maxRecDepth 100000
set_option maxHeartbeats 4000000
namespace KN
open PySem L2
/-! The sheets of a node of any rank, in their order. -/
def onL (pl : List (Str × Nd)) (L : List (Nd × Option Nd)) (n : Nd) (z : Str) : Prop := ((kO pl z).bind fun k => abvD L k n.1) = some n
instance (pl : List (Str × Nd)) (L : List (Nd × Option Nd)) (n : Nd) (z : Str) : Decidable (onL pl L n z) := by unfold onL; infer_instance
def shR (pl : List (Str × Nd)) (L : List (Nd × Option Nd)) (n : Nd) : List Str := (sortS (pl.map (·.1))).filter fun z => decide (onL pl L n z)
def spSheetsR (C : Addr) : Sp := fun vs H Q _ => ∃ (t a : Addr) (n : Nd) (pl : List (Str × Nd)) (L : List (Nd × Option Nd)), vs = [.ref t, .ref a] ∧ TreeAt C H t pl L ∧ NdA H a n ∧ n ∈ L.map (·.1) ∧
  ∀ H' l, Same H H' → H l = none → H' l = some (.lst ((shR pl L n).map V.str)) → Q (.ref l) H'
section
variable {P : Program} {w : World} {K : PySem.W.Frag} {mg : Str → Option Value} {base : Heap} {C : Addr}
theorem ok_Tree_sheetsR {f : Addr} {fd : FuncData} (F : FunD K "sheets" "Tree.sheets" (defArgs s_Tree_sheets) (defBody s_Tree_sheets) (defScope s_Tree_sheets) [V.non] [] f fd) (T : TrT K C) (m_sorted : mg "sorted" = none) (c_Tree__refuse : C8.Met P w K mg base 3 C "_refuse" (spTRefuse C) []) (c_Tree_above : C8.Met P w K mg base 4 C "above" (spAbove C) []) : FnOk P w K mg base CX0 5 f fd ["self", "node"] (spSheetsR C) := by
  refine F.ok sc_Tree_sheets (fun vs H Q E h => ?_) (fun cdv A outer s H vs Q E hr h => ?_)
  · obtain ⟨t, a, n, pl, L, rfl, _⟩ := h; rfl
  · obtain ⟨t, a, n, pl, L, rfl, TA, ha, hn, k⟩ := h
    have hu := hu_of hr
    refine ⟨_, (pss_cons (ps_if (pt_cmpR op_isN (pv 1) pe_non (nomark _)) (pss_one (ps_ret (pe_callB (call_sortedD rfl) (by rfl) m_sorted (by decide +kernel) (pa_cons (pe_fld (pv 0) rfl) pa_nil)))) pss_nil)
      (pss_cons (ps_expr (C8.pe_mt c_Tree__refuse hr (by decide) (pv 0) (pa_cons (pv 1) pa_nil)))
      (pss_one (ps_ret (pe_lc (own := [("sheet", 2)]) (g := gName 2) rfl sc_Tree_sheets.nd (pi_list (pe_callB (call_sortedD rfl) (by rfl) m_sorted (by decide +kernel) (pa_cons (pe_fld (pv 0) rfl) pa_nil))) (blkOk_by (own := [("sheet", 2)]) (N := ["self", "node", "sheet"]) (sc := defScope s_Tree_sheets) (by decide +kernel)) (fun _ _ _ _ _ => pg_name (i := 2) sc_Tree_sheets.nd rfl (Or.inl rfl)) (fun _ _ _ _ _ => (pts_one (pt_cmpR (op_eqDK K hr.units) (C8.pe_mt c_Tree_above hr (by decide) (pv 0) (pa_cons (pe_dget (by exact hu) (pe_fldK K (pv 0) rfl) (pv 2) (fun _ _ => rfl)) (pa_cons (pe_ix (ix_tupK K) (pv 1) pe_int (fun _ _ => rfl)) pa_nil))) (pv 1) (nomark _)))) (fun _ _ _ _ _ => (pv 2))))))), ?_⟩
    obtain ⟨dx, kk, l, kvs, lvs, B⟩ := id TA
    refine ⟨_, rfl, rfl, _, rfl, iteF ?_⟩
    refine ⟨_, rfl, t, dx, _, rfl, B.ob, tf_no _ _ (by decide +kernel) (by decide +kernel), _, rfl, t, a, n, pl, L, rfl, TA, ha, hn, fun H1 s1 => ?_⟩
    have B1 := B.keep s1
    refine ⟨_, rfl, t, C, dx, _, _, rfl, B1.ob, T.cl, T.nK, tf_k _ _, kk, kvs, pl.map (·.1), rfl, Rd.of B1.kd, pl_keys B1.kr, by rw [List.length_map]; have := B.ok.pln; omega, fun ys p pm hso hp => ?_⟩
    have eys : ys = sortS (pl.map (·.1)) := sortS_of pm (sup_of hso)
    have sp := Same.new (o := .lst (ys.map V.str)) hp
    have hylen : ys.length ≤ 60 := by have := pm.length_eq; rw [List.length_map] at this; have := B.ok.pln; omega
    refine ⟨p, rfl, ⟨_, SqL.of upd_same⟩, fun D hD => ?_⟩
    refine lc_list (K := K) (a := p) (xs := ys.map V.str) (fun i H' => Same (upd H1 p (.lst (ys.map V.str))) H' ∧ H' D = some (.lst (((ys.take i).filter fun z => decide (onL pl L n z)).map V.str)))
      ⟨Same.new hD, upd_same⟩ (fun i H' _ q => SqL.of (q.1 _ _ upd_same)) ?_ ?_
    · rintro i x H2 hi ⟨s2, e2⟩
      rw [List.getElem?_map] at hi
      obtain ⟨y, hy1, rfl⟩ : ∃ y, ys[i]? = some y ∧ x = .str y := by
        cases e : ys[i]? with
        | none => rw [e] at hi; cases hi
        | some y => rw [e] at hi; exact ⟨y, rfl, (Option.some.inj hi).symm⟩
      have hlt : i < ys.length := (List.getElem?_eq_some_iff.mp hy1).1
      have hym : y ∈ pl.map (·.1) := pm.mem_iff.mp (List.mem_of_getElem? hy1)
      have s02 := (s1.trans sp).trans s2
      have B2 := B.keep s02
      obtain ⟨kn, ka, hk1, hk2, hk3, hk4⟩ := pl_some B2.kr B.ok.pnd hym
      have hkin := B.ok.pk _ hk1
      have step : ys.take (i + 1) = ys.take i ++ [y] := by rw [List.take_add_one, hy1]; rfl
      have hnok := B.ok.nd_ok hn
      refine ⟨rfl, _, rfl, t, dx, _, rfl, B2.ob, tf_no _ _ (by decide +kernel) (by decide +kernel), _, rfl, t, C, dx, _, _, rfl, B2.ob, T.cl, T.nK, tf_k _ _, _, rfl, kk, .ref ka, rfl, by rw [← hk2]; exact DGet.k (k := .inr y) B2.kd, ?_⟩
      refine ⟨_, rfl, _, _, _, _, rfl, rfl, SqT.of (s02 _ _ ha), at_of (j := 0) rfl rfl, t, ka, kn, n.1, pl, L, rfl, ⟨dx, kk, l, kvs, lvs, B2⟩, hk3, hkin, fun H3 v s3 tv => ?_⟩
      have hao : ∀ m, abvD L kn n.1 = some m → NdOk m := fun m e => B.ok.nd_ok (abv_in B.ok (fun y e => by cases e; exact hkin) e)
      have hok1 := okD_o hao
      have hok2 := okD_n hnok
      refine ⟨_, rfl, oN (abvD L kn n.1), nD n, tv.d, (Tp.nd (s3 _ _ (s02 _ _ ha))).d, shaped_o hok1, shaped_of hok2 (by simp [nD, PyData.depth, PyData.depthAll]), _, rfl, ?_⟩
      rw [eqv_dec (p := abvD L kn n.1 = some n) hok1 hok2 oN_some]
      have hk0 : kO pl y = some kn := (kO_iff B.ok.pnd).mpr hk1
      have hiff : abvD L kn n.1 = some n ↔ onL pl L n y := by
        unfold onL
        rw [hk0]; exact Iff.rfl
      have fstep : (ys.take (i + 1)).filter (fun z => decide (onL pl L n z)) = (ys.take i).filter (fun z => decide (onL pl L n z)) ++ if onL pl L n y then [y] else [] := by
        rw [step, List.filter_append]
        by_cases q : onL pl L n y
        · rw [if_pos q]; simp [q]
        · rw [if_neg q]; simp [q]
      have lfl : ((ys.take i).filter fun z => decide (onL pl L n z)).length ≤ 60 := Nat.le_trans (List.length_filter_le _ _) (by rw [List.length_take]; omega)
      by_cases q : abvD L kn n.1 = some n
      · rw [decide_eq_true q]
        refine iteT ⟨_, rfl, _, s3 _ _ e2, by rw [List.length_map]; exact small1000 (by omega), fun b o e => ?_, by rw [upd_same, fstep, if_pos (hiff.mp q), List.map_append]; rfl⟩
        rw [upd_ne (ne_of_none e hD)]; exact s3 _ _ (s2 _ _ e)
      · rw [decide_eq_false q]
        refine iteF ⟨fun b o e => s3 _ _ (s2 _ _ e), ?_⟩
        rw [fstep, if_neg (fun h => q (hiff.mpr h)), List.append_nil]; exact s3 _ _ e2
    · rintro H2 ⟨s2, e2⟩
      rw [List.length_map, List.take_length, eys] at e2
      exact k H2 D ((s1.trans sp).trans s2) (s1.free (sp.free hD)) e2
end
end KN


set_option Elab.async false
set_option linter.all false
set_option maxRecDepth 100000
set_option maxHeartbeats 4000000
namespace KN
open PySem L2
/-! Lines upwards: ranks rise, what is above is on the line. -/
theorem line_in {pl : List (Str × Nd)} {L : List (Nd × Option Nd)} (T : TrOk pl L) : ∀ {f : Nat} {o : Option Nd} {n : Nd}, (∀ x, o = some x → x ∈ L.map (·.1)) → n ∈ lineN L f o → n ∈ L.map (·.1)
  | 0, _, _, _, h => by cases h
  | f + 1, none, _, _, h => by rw [lineN_none] at h; cases h
  | f + 1, some m, n, hm, h => by
    rcases List.mem_cons.mp (show n ∈ m :: lineN L f (par L m) from h) with e | h
    · rw [e]; exact hm m rfl
    · exact line_in T (rk_le T (hm m rfl)).2 h
theorem par_lt {pl : List (Str × Nd)} {L : List (Nd × Option Nd)} (T : TrOk pl L) {m x : Nd} (hm : m ∈ L.map (·.1)) (e : par L m = some x) : m.1 < x.1 := by
  obtain ⟨p, hp, rfl⟩ := List.mem_map.mp hm
  rw [par_at T.nd hp] at e
  exact T.up p hp x e
theorem line_lt {pl : List (Str × Nd)} {L : List (Nd × Option Nd)} (T : TrOk pl L) : ∀ {f : Nat} {m n : Nd}, m ∈ L.map (·.1) → n ∈ lineN L f (par L m) → m.1 < n.1
  | 0, _, _, _, h => by cases h
  | f + 1, m, n, hm, h => by
    cases e : par L m with
    | none => rw [e, lineN_none] at h; cases h
    | some x =>
      rw [e] at h
      have hx := (rk_le T hm).2 x e
      have lt := par_lt T hm e
      rcases List.mem_cons.mp (show n ∈ x :: lineN L f (par L x) from h) with e2 | h2
      · rw [e2]; exact lt
      · have := line_lt T hx h2; omega
theorem abv_line {pl : List (Str × Nd)} {L : List (Nd × Option Nd)} (T : TrOk pl L) : ∀ {f : Nat} {o : Option Nd} {n : Nd} {r : Int}, (∀ x, o = some x → x ∈ L.map (·.1)) → (abv L f o r = some n ↔ n ∈ lineN L f o ∧ n.1 = r)
  | 0, _, _, _, _ => ⟨fun h => (by cases h), fun h => (by cases h.1)⟩
  | f + 1, none, n, r, _ => ⟨fun h => (by cases h), fun h => (by rw [lineN_none] at h; cases h.1)⟩
  | f + 1, some m, n, r, hm => by
    show (if m.1 = r then some m else abv L f (par L m) r) = some n ↔ n ∈ m :: lineN L f (par L m) ∧ n.1 = r
    have hmL := hm m rfl
    by_cases e : m.1 = r
    · rw [if_pos e]
      constructor
      · intro h; cases h; exact ⟨List.mem_cons_self, e⟩
      · rintro ⟨h1, h2⟩
        rcases List.mem_cons.mp h1 with h | h
        · rw [h]
        · have := line_lt T hmL h; omega
    · rw [if_neg e, abv_line T (rk_le T hmL).2]
      constructor
      · rintro ⟨h1, h2⟩; exact ⟨List.mem_cons_of_mem _ h1, h2⟩
      · rintro ⟨h1, h2⟩
        rcases List.mem_cons.mp h1 with h | h
        · rw [h] at h2; exact absurd h2 e
        · exact ⟨h, h2⟩
theorem onL_iff {pl : List (Str × Nd)} {L : List (Nd × Option Nd)} (T : TrOk pl L) {n : Nd} {z : Str} : onL pl L n z ↔ ∃ k, kO pl z = some k ∧ Up L k n := by
  unfold onL
  cases e : kO pl z with
  | none => exact ⟨fun h => (by cases h), fun ⟨_, h, _⟩ => (by cases h)⟩
  | some k =>
    have hk := T.pk _ ((kO_iff T.pnd).mp e)
    show abvD L k n.1 = some n ↔ _
    unfold abvD
    rw [abv_line T (fun x h => by cases h; exact hk)]
    constructor
    · rintro ⟨h, _⟩; exact ⟨k, rfl, line_up h⟩
    · rintro ⟨k', h1, h2⟩
      cases h1
      refine ⟨up_line T hk ?_ h2, rfl⟩
      have h0 : 0 ≤ k.1 := (T.nd_ok hk).1
      show (6 - k.1).toNat + 1 ≤ 8
      omega
/-- sheets lie on each node -/
theorem Grown.some_sh {pl : List (Str × Nd)} {L : List (Nd × Option Nd)} (G : Grown pl L) {n : Nd} (hn : n ∈ L.map (·.1)) : shR pl L n ≠ [] := by
  obtain ⟨q, hq, hu⟩ := G.sh n hn
  intro e
  have : q.1 ∈ shR pl L n := List.mem_filter.mpr ⟨(sortS_perm _).mem_iff.mpr (List.mem_map.mpr ⟨q, hq, rfl⟩), decide_eq_true ((onL_iff G.ok).mpr ⟨q.2, (kO_iff G.ok.pnd).mpr hq, hu⟩)⟩
  rw [e] at this; cases this
end KN


set_option Elab.async false
set_option linter.all false
set_option maxRecDepth 100000
set_option maxHeartbeats 4000000
namespace KN
open PySem L2
/-! What `_law_coheres` asks of a told tree, as truths of its pairs. -/
theorem up_le {pl : List (Str × Nd)} {L : List (Nd × Option Nd)} (T : TrOk pl L) {a n : Nd} (h : Up L a n) : a ∈ L.map (·.1) → n ∈ L.map (·.1) ∧ a.1 ≤ n.1 := by
  induction h with
  | rf => exact fun h => ⟨h, Int.le_refl _⟩
  | st h e ih =>
    intro ha
    obtain ⟨h1, h2⟩ := ih ha
    have := par_lt T h1 e
    exact ⟨(rk_le T h1).2 _ e, by omega⟩
theorem up_lin {L : List (Nd × Option Nd)} {k a : Nd} (ha : Up L k a) : ∀ {b : Nd}, Up L k b → Up L a b ∨ Up L b a := by
  induction ha with
  | rf => exact fun h => .inl h
  | st h e ih =>
    intro b hb
    rcases ih hb with h1 | h1
    · rcases up_head h1 with rfl | ⟨x, e2, h2⟩
      · exact .inr ((Up.rf _).st e)
      · rw [e] at e2; cases e2; exact .inl h2
    · exact .inr (h1.st e)
theorem Grown.kind_in {pl : List (Str × Nd)} {L : List (Nd × Option Nd)} (G : Grown pl L) {z : Str} {k : Nd} (h : kO pl z = some k) : k ∈ L.map (·.1) ∧ k.1 = 0 := by
  have hq := (kO_iff G.ok.pnd).mp h
  exact ⟨G.ok.pk _ hq, G.k0 _ hq⟩
theorem Grown.on_step {pl : List (Str × Nd)} {L : List (Nd × Option Nd)} (G : Grown pl L) {n : Nd} (hr : 0 < n.1) {z : Str} : onL pl L n z ↔ ∃ m, m ∈ L.map (·.1) ∧ par L m = some n ∧ onL pl L m z := by
  rw [onL_iff G.ok]
  constructor
  · rintro ⟨k, h1, h2⟩
    obtain ⟨hk, h0⟩ := G.kind_in h1
    cases h2 with
    | rf => omega
    | st h e => exact ⟨_, (up_le G.ok h hk).1, e, (onL_iff G.ok).mpr ⟨k, h1, h⟩⟩
  · rintro ⟨m, _, e, h⟩
    obtain ⟨k, h1, h2⟩ := (onL_iff G.ok).mp h
    exact ⟨k, h1, h2.st e⟩
theorem Grown.on_one {pl : List (Str × Nd)} {L : List (Nd × Option Nd)} (G : Grown pl L) {n m1 m2 : Nd} {z : Str} (e1 : par L m1 = some n) (e2 : par L m2 = some n) (h1 : onL pl L m1 z) (h2 : onL pl L m2 z) : m1 = m2 := by
  obtain ⟨k, k1, u1⟩ := (onL_iff G.ok).mp h1
  obtain ⟨k', k2, u2⟩ := (onL_iff G.ok).mp h2
  rw [k1] at k2; cases k2
  obtain ⟨hk, _⟩ := G.kind_in k1
  have hm1 := (up_le G.ok u1 hk).1
  have hm2 := (up_le G.ok u2 hk).1
  rcases up_lin u1 u2 with h | h
  · rcases up_head h with e | ⟨x, ex, hx⟩
    · exact e.symm
    · rw [e1] at ex; cases ex
      have := (up_le G.ok hx ((rk_le G.ok hm1).2 _ e1)).2
      have := par_lt G.ok hm2 e2
      omega
  · rcases up_head h with e | ⟨x, ex, hx⟩
    · exact e
    · rw [e2] at ex; cases ex
      have := (up_le G.ok hx ((rk_le G.ok hm2).2 _ e2)).2
      have := par_lt G.ok hm1 e1
      omega
theorem mem_shR {pl : List (Str × Nd)} {L : List (Nd × Option Nd)} {n : Nd} {z : Str} : z ∈ shR pl L n ↔ onL pl L n z := by
  unfold shR
  rw [List.mem_filter, decide_eq_true_eq]
  refine ⟨fun h => h.2, fun h => ⟨?_, h⟩⟩
  unfold onL at h
  cases e : kO pl z with
  | none => rw [e] at h; cases h
  | some k =>
    refine (sortS_perm _).mem_iff.mpr ?_
    unfold kO at e
    cases f : pl.find? (fun p => decide (p.1 = z)) with
    | none => rw [f] at e; cases e
    | some p => exact List.mem_map.mpr ⟨p, List.mem_of_find?_eq_some f, of_decide_eq_true (List.find?_some (p := fun (p : Str × Nd) => decide (p.1 = z)) f)⟩
theorem shR_nd {pl : List (Str × Nd)} {L : List (Nd × Option Nd)} (T : TrOk pl L) (n : Nd) : (shR pl L n).Nodup := by
  unfold shR
  exact (((sortS_perm _).nodup_iff).mpr T.pnd).filter _
theorem shR_up {pl : List (Str × Nd)} {L : List (Nd × Option Nd)} (n : Nd) : SUp (shR pl L n) := by
  unfold shR
  exact (sortS_up _).filter _
/-- what lies in a node, sorted, is the node's sheets -/
theorem Grown.parts {pl : List (Str × Nd)} {L : List (Nd × Option Nd)} (G : Grown pl L) {n : Nd} (hr : 0 < n.1) (ms : List Nd) (nd : ms.Nodup) (hm : ∀ m, m ∈ ms ↔ m ∈ L.map (·.1) ∧ par L m = some n) : sortS (ms.flatMap (shR pl L)) = shR pl L n := by
  refine (sortS_of ?_ (shR_up n)).symm
  refine (List.perm_ext_iff_of_nodup (shR_nd G.ok n) ?_).mpr fun z => ?_
  · unfold List.Nodup
    rw [List.pairwise_flatMap]
    refine ⟨fun m _ => shR_nd G.ok m, ?_⟩
    refine List.Pairwise.imp_of_mem ?_ nd
    intro a b ha hb hab x hx y hy exy
    rw [mem_shR] at hx hy
    rw [← exy] at hy
    exact hab (G.on_one ((hm a).mp ha).2 ((hm b).mp hb).2 hx hy)
  · rw [mem_shR, G.on_step hr, List.mem_flatMap]
    constructor
    · rintro ⟨m, h1, h2, h3⟩; exact ⟨m, (hm m).mpr ⟨h1, h2⟩, mem_shR.mpr h3⟩
    · rintro ⟨m, h1, h2⟩; exact ⟨m, ((hm m).mp h1).1, ((hm m).mp h1).2, mem_shR.mp h2⟩
/-- what is above a node, by one step -/
theorem Grown.abv_step {pl : List (Str × Nd)} {L : List (Nd × Option Nd)} (G : Grown pl L) {m : Nd} (hm : m ∈ L.map (·.1)) {r : Int} (hr : m.1 < r) : abvD L m r = (par L m).bind fun x => abvD L x r := by
  have one : ∀ {x : Nd}, x ∈ L.map (·.1) → ∀ n, abvD L x r = some n ↔ Up L x n ∧ n.1 = r := by
    intro x hx n
    unfold abvD
    rw [abv_line G.ok (fun y h => by cases h; exact hx)]
    constructor
    · rintro ⟨h1, h2⟩; exact ⟨line_up h1, h2⟩
    · rintro ⟨h1, h2⟩
      refine ⟨up_line G.ok hx ?_ h1, h2⟩
      have h0 : 0 ≤ x.1 := (G.ok.nd_ok hx).1
      show (6 - x.1).toNat + 1 ≤ 8
      omega
  apply Option.ext
  intro n
  rw [one hm]
  cases e : par L m with
  | none =>
    constructor
    · rintro ⟨h, h2⟩
      rcases up_head h with rfl | ⟨x, ex, _⟩
      · omega
      · rw [e] at ex; cases ex
    · intro h; cases h
  | some y =>
    show _ ↔ abvD L y r = some n
    rw [one ((rk_le G.ok hm).2 _ e)]
    constructor
    · rintro ⟨h, h2⟩
      rcases up_head h with rfl | ⟨x, ex, hx⟩
      · omega
      · rw [e] at ex; cases ex; exact ⟨hx, h2⟩
    · rintro ⟨h, h2⟩; exact ⟨up_cons e h, h2⟩
end KN


set_option Elab.async false
set_option linter.all false
set_option maxRecDepth 100000
set_option maxHeartbeats 4000000
namespace KN
open PySem L2
/-! The nodes a sheet lies on are its kind's line, and ranks rise along it. -/
theorem line_pw {pl : List (Str × Nd)} {L : List (Nd × Option Nd)} (T : TrOk pl L) : ∀ {f : Nat} {o : Option Nd}, (∀ x, o = some x → x ∈ L.map (·.1)) → (lineN L f o).Pairwise fun a b => a.1 < b.1
  | 0, _, _ => List.Pairwise.nil
  | f + 1, none, _ => by rw [lineN_none]; exact List.Pairwise.nil
  | f + 1, some m, hm => by
    have hmL := hm m rfl
    show (m :: lineN L f (par L m)).Pairwise _
    exact List.Pairwise.cons (fun n h => line_lt T hmL h) (line_pw T (rk_le T hmL).2)
theorem line_up_nd {pl : List (Str × Nd)} {L : List (Nd × Option Nd)} (T : TrOk pl L) {f : Nat} {o : Option Nd} (ho : ∀ x, o = some x → x ∈ L.map (·.1)) : NUp (lineN L f o) ∧ (lineN L f o).Nodup :=
  ⟨(line_pw T ho).imp fun h => decide_eq_true (.inl h), (line_pw T ho).imp fun {a b} h e => by rw [e] at h; omega⟩
theorem Grown.line_here {pl : List (Str × Nd)} {L : List (Nd × Option Nd)} (G : Grown pl L) {z : Str} {k : Nd} (h : kO pl z = some k) : ((srtN (L.map (·.1))).filter fun n => decide (z ∈ shR pl L n)) = lineN L 8 (some k) := by
  obtain ⟨hk, h0⟩ := G.kind_in h
  have ho : ∀ x, some k = some x → x ∈ L.map (·.1) := fun x e => by cases e; exact hk
  obtain ⟨u, nd⟩ := line_up_nd (f := 8) G.ok ho
  rw [← srtN_filter]
  refine (srtN_of ?_ u).symm
  refine (List.perm_ext_iff_of_nodup nd (G.ok.nd.filter _)).mpr fun n => ?_
  rw [List.mem_filter, decide_eq_true_eq, mem_shR, onL_iff G.ok]
  constructor
  · intro hn
    exact ⟨line_in G.ok ho hn, k, h, line_up hn⟩
  · rintro ⟨_, k', h1, h2⟩
    rw [h] at h1; cases h1
    refine up_line G.ok hk ?_ h2
    show (6 - k.1).toNat + 1 ≤ 8
    omega
theorem mem_inN {L : List (Nd × Option Nd)} {n m : Nd} : m ∈ inN L n ↔ m ∈ L.map (·.1) ∧ par L m = some n := by
  unfold inN
  rw [List.mem_filter, decide_eq_true_eq, (srtN_perm _).mem_iff]
theorem inN_nd {pl : List (Str × Nd)} {L : List (Nd × Option Nd)} (T : TrOk pl L) (n : Nd) : (inN L n).Nodup := by
  unfold inN
  exact (((srtN_perm _).nodup_iff).mpr T.nd).filter _
theorem Grown.parts_in {pl : List (Str × Nd)} {L : List (Nd × Option Nd)} (G : Grown pl L) {n : Nd} (hr : 0 < n.1) : sortS ((inN L n).flatMap (shR pl L)) = shR pl L n :=
  G.parts hr _ (inN_nd G.ok n) fun _ => mem_inN
/-- nothing lies in a node of rank 0 -/
theorem Grown.inN0 {pl : List (Str × Nd)} {L : List (Nd × Option Nd)} (G : Grown pl L) {n : Nd} (h0 : n.1 = 0) : inN L n = [] := by
  apply List.eq_nil_iff_forall_not_mem.mpr
  intro m hm
  obtain ⟨h1, h2⟩ := mem_inN.mp hm
  have := par_lt G.ok h1 h2
  have h3 : 0 ≤ m.1 := (G.ok.nd_ok h1).1
  omega
/-- as many sheets as kinds told -/
theorem Grown.all_len {pl : List (Str × Nd)} : (sortS (pl.map (·.1))).length = pl.length := by
  rw [(sortS_perm _).length_eq, List.length_map]
end KN


set_option Elab.async false
set_option linter.all false
set_option maxRecDepth 100000
set_option maxHeartbeats 4000000
namespace KN
open PySem L2
/-! A tree told again of fewer sheets: what `_law_fewer_right` asks. -/
structure Fewer (pl : List (Str × Nd)) (L : List (Nd × Option Nd)) (kp : List Str) (pl2 : List (Str × Nd)) (L2 : List (Nd × Option Nd)) : Prop where
  g : Grown pl L
  g2 : Grown pl2 L2
  kO : ∀ z k, kO pl2 z = some k ↔ kO pl z = some k ∧ z ∈ kp
  pr : ∀ n ∈ L2.map (·.1), par L2 n = par L n
theorem up_of_par {L L2 : List (Nd × Option Nd)} {pl2 : List (Str × Nd)} (T2 : TrOk pl2 L2) (pr : ∀ n ∈ L2.map (·.1), par L2 n = par L n) {a n : Nd} (ha : a ∈ L2.map (·.1)) : Up L2 a n ↔ Up L a n := by
  constructor
  · intro h
    induction h with
    | rf => exact .rf _
    | st h e ih => exact ih.st ((pr _ (up_le T2 h ha).1) ▸ e)
  · intro h
    induction h with
    | rf => exact .rf _
    | st h e ih => exact ih.st ((pr _ (up_le T2 ih ha).1).trans e)
theorem Fewer.on {pl pl2 : List (Str × Nd)} {L L2 : List (Nd × Option Nd)} {kp : List Str} (F : Fewer pl L kp pl2 L2) {n : Nd} {z : Str} : onL pl2 L2 n z ↔ onL pl L n z ∧ z ∈ kp := by
  rw [onL_iff F.g2.ok, onL_iff F.g.ok]
  constructor
  · rintro ⟨k, h1, h2⟩
    obtain ⟨h3, h4⟩ := (F.kO z k).mp h1
    exact ⟨⟨k, h3, (up_of_par F.g2.ok F.pr (F.g2.kind_in h1).1).mp h2⟩, h4⟩
  · rintro ⟨⟨k, h1, h2⟩, h3⟩
    have h4 := (F.kO z k).mpr ⟨h1, h3⟩
    exact ⟨k, h4, (up_of_par F.g2.ok F.pr (F.g2.kind_in h4).1).mpr h2⟩
theorem Fewer.sheets {pl pl2 : List (Str × Nd)} {L L2 : List (Nd × Option Nd)} {kp : List Str} (F : Fewer pl L kp pl2 L2) (n : Nd) : shR pl2 L2 n = (shR pl L n).filter fun z => decide (z ∈ kp) := by
  refine List.Perm.eq_of_pairwise (fun a b _ _ h g => str_ext (List.le_antisymm h g)) (shR_up n) ((shR_up n).filter _) ?_
  refine (List.perm_ext_iff_of_nodup (shR_nd F.g2.ok n) ((shR_nd F.g.ok n).filter _)).mpr fun z => ?_
  rw [mem_shR, F.on, List.mem_filter, mem_shR, decide_eq_true_eq]
theorem Grown.node_iff {pl : List (Str × Nd)} {L : List (Nd × Option Nd)} (G : Grown pl L) {n : Nd} : n ∈ L.map (·.1) ↔ shR pl L n ≠ [] := by
  refine ⟨G.some_sh, fun h => ?_⟩
  obtain ⟨z, hz⟩ := List.exists_mem_of_ne_nil _ h
  obtain ⟨k, h1, h2⟩ := (onL_iff G.ok).mp (mem_shR.mp hz)
  exact (up_le G.ok h2 (G.kind_in h1).1).1
/-- a node stays exactly when one of its sheets is kept -/
theorem Fewer.stays {pl pl2 : List (Str × Nd)} {L L2 : List (Nd × Option Nd)} {kp : List Str} (F : Fewer pl L kp pl2 L2) {n : Nd} : n ∈ L2.map (·.1) ↔ ((shR pl L n).filter fun z => decide (z ∈ kp)) ≠ [] := by
  rw [F.g2.node_iff, F.sheets]
/-- no node is new -/
theorem Fewer.old {pl pl2 : List (Str × Nd)} {L L2 : List (Nd × Option Nd)} {kp : List Str} (F : Fewer pl L kp pl2 L2) {n : Nd} (h : n ∈ L2.map (·.1)) : n ∈ L.map (·.1) := by
  have h2 := F.stays.mp h
  refine F.g.node_iff.mpr fun e => h2 ?_
  rw [e]; rfl
theorem Fewer.none_new {pl pl2 : List (Str × Nd)} {L L2 : List (Nd × Option Nd)} {kp : List Str} (F : Fewer pl L kp pl2 L2) : ((srtN (L2.map (·.1))).filter fun n => decide (¬ n ∈ srtN (L.map (·.1)))) = [] := by
  apply List.filter_eq_nil_iff.mpr
  intro n hn hd
  exact of_decide_eq_true hd ((srtN_perm _).mem_iff.mpr (F.old ((srtN_perm _).mem_iff.mp hn)))
end KN


set_option Elab.async false
set_option linter.all false
set_option maxRecDepth 100000
set_option maxHeartbeats 4000000
namespace KN
open PySem L2
/-! Told again of the kept sheets under the old parents: Fewer holds. -/
theorem grown_of2 {ks : List (Nd × List Str)} {ps L : List (Nd × Option Nd)} (T : TrOk (plOf ks) L) (P : LyP ks ps none L) (hk : ∀ k ∈ ks, KdOk k) (al : ∀ k ∈ ks, k.1 ∈ L.map (·.1)) (few : L.length ≤ 60) : Grown (plOf ks) L where
  ok := T
  few := few
  sh := fun n hn => by
    obtain ⟨p, hp, rfl⟩ := List.mem_map.mp hn
    obtain ⟨k, hk1, hu⟩ := P.up p hp
    obtain ⟨z, hz⟩ := List.exists_mem_of_ne_nil _ (hk k hk1).2.2.1
    refine ⟨(z, k.1), List.mem_flatMap.mpr ⟨k, hk1, List.mem_map.mpr ⟨z, hz, rfl⟩⟩, ?_⟩
    have step : ∀ {m : Nd}, Up ps k.1 m → Up L k.1 m ∧ m ∈ L.map (·.1) := fun h => by
      induction h with
      | rf => exact ⟨.rf _, al k hk1⟩
      | @st b c h e ih =>
        obtain ⟨i1, i2⟩ := ih
        have e2 : par L b = some c := by
          obtain ⟨q, hq, rfl⟩ := List.mem_map.mp i2
          rw [par_at T.nd hq, P.par q hq]; exact e
        exact ⟨i1.st e2, (rk_le T i2).2 _ e2⟩
    exact (step hu).1
  k0 := fun q hq => by
    obtain ⟨g, hg, e⟩ := List.mem_flatMap.mp hq
    obtain ⟨z, _, e⟩ := List.mem_map.mp e
    rw [← e]; exact (hk g hg).2.1
theorem fewer_of {pl : List (Str × Nd)} {L L2 : List (Nd × Option Nd)} {ks : List (Nd × List Str)} {kp : List Str} (G : Grown pl L) {ns : List Nd} (pm : ns.Perm (L.map (·.1))) (T : TrOk (plOf ks) L2) (P : LyP ks (psOn L ns) none L2) (hk : ∀ k ∈ ks, KdOk k) (al : ∀ k ∈ ks, k.1 ∈ L2.map (·.1)) (mem : ∀ z k, (z, k) ∈ plOf ks ↔ kO pl z = some k ∧ z ∈ kp) : Fewer pl L kp (plOf ks) L2 := by
  have kin : ∀ k ∈ ks, k.1 ∈ L.map (·.1) := fun k h => by
    obtain ⟨z, hz⟩ := List.exists_mem_of_ne_nil _ (hk k h).2.2.1
    have := (mem z k.1).mp (List.mem_flatMap.mpr ⟨k, h, List.mem_map.mpr ⟨z, hz, rfl⟩⟩)
    exact (G.kind_in this.1).1
  have inL : ∀ n ∈ L2.map (·.1), n ∈ L.map (·.1) := fun n hn => by
    obtain ⟨p, hp, rfl⟩ := List.mem_map.mp hn
    obtain ⟨k, hk1, hu⟩ := P.up p hp
    have : ∀ {b : Nd}, Up (psOn L ns) k.1 b → b ∈ L.map (·.1) := fun h => by
      induction h with
      | rf => exact kin k hk1
      | @st b c _ e ih =>
        rw [psOf_par pm G.ok.nd ih] at e
        exact (rk_le G.ok ih).2 c e
    exact this hu
  have few : L2.length ≤ 60 := by
    have a := sub_len T.nd inL
    rw [List.length_map, List.length_map] at a
    exact Nat.le_trans a G.few
  refine ⟨G, grown_of2 T P hk al few, fun z k => ?_, fun n hn => ?_⟩
  · rw [kO_iff T.pnd, mem]
  · obtain ⟨p, hp, rfl⟩ := List.mem_map.mp hn
    rw [par_at T.nd hp, P.par p hp, psOf_par pm G.ok.nd (inL _ hn)]
end KN


set_option Elab.async false
set_option linter.all false
set_option maxRecDepth 100000
set_option maxHeartbeats 4000000
namespace KN
open PySem L2
/-! One sheet more under a kind: the pairs grow by exactly that one. -/
theorem kd_put2 {H : Hp} {n : Nd} {old : List Str} {z : Str} {l' : Addr} (hl : H l' = some (.lst ((old ++ [z]).map V.str))) : ∀ {kvs : List (List Key × V)} {ks : List (Nd × List Str)}, Paired (KdR H) kvs ks → (ks.map (·.1)).Nodup → (n, old) ∈ ks →
    ∃ ks', Paired (KdR H) (kvs.map fun kv => if kv.1 = nK n then (kv.1, V.ref l') else kv) ks' ∧ ks'.map (·.1) = ks.map (·.1) ∧ (plOf ks').Perm (plOf ks ++ [(z, n)]) ∧ ∀ k ∈ ks', k = (n, old ++ [z]) ∨ k ∈ ks
  | _, _, .nil, _, h => by cases h
  | q :: kvs, k :: ks, .cons f t, nd, h => by
    rw [List.map_cons, List.nodup_cons] at nd
    rcases List.mem_cons.mp h with e | h
    · have hk : k.1 = n := by rw [← e]
      have hk2 : k.2 = old := by rw [← e]
      have same : ∀ {kvs : List (List Key × V)} {ks : List (Nd × List Str)}, Paired (KdR H) kvs ks → n ∉ ks.map (·.1) → (kvs.map fun kv => if kv.1 = nK n then (kv.1, V.ref l') else kv) = kvs := by
        intro kvs ks t ni
        induction t with
        | nil => rfl
        | @cons q2 k2 kvs ks f2 _ ih =>
          rw [List.map_cons, List.mem_cons, not_or] at ni
          rw [List.map_cons, if_neg (fun z => ni.1 (nK_inj (f2.1.symm.trans z)).symm), ih ni.2]
      refine ⟨(n, old ++ [z]) :: ks, ?_, ?_, ?_, fun k' h' => ?_⟩
      · rw [List.map_cons, if_pos (by rw [f.1, hk]), same t (by rw [← hk]; exact nd.1)]
        exact .cons ⟨by rw [f.1, hk], l', rfl, hl⟩ t
      · rw [List.map_cons, List.map_cons, hk]
      · show ((old ++ [z]).map (fun z => (z, n)) ++ plOf ks).Perm ((k.2.map fun z => (z, k.1)) ++ plOf ks ++ [(z, n)])
        rw [hk, hk2, List.map_append, List.append_assoc, List.append_assoc]
        exact List.Perm.append_left _ List.perm_append_comm
      · rcases List.mem_cons.mp h' with h' | h'
        · exact .inl h'
        · exact .inr (List.mem_cons_of_mem _ h')
    · have ne : k.1 ≠ n := fun e => nd.1 (by rw [e]; exact List.mem_map.mpr ⟨_, h, rfl⟩)
      obtain ⟨ks', h1, h2, h3, h4⟩ := kd_put2 hl t nd.2 h
      refine ⟨k :: ks', ?_, ?_, ?_, fun k' h' => ?_⟩
      · rw [List.map_cons, if_neg (fun z => ne (nK_inj (f.1.symm.trans z)))]
        exact .cons f h1
      · rw [List.map_cons, List.map_cons, h2]
      · show ((k.2.map fun z => (z, k.1)) ++ plOf ks').Perm ((k.2.map fun z => (z, k.1)) ++ plOf ks ++ [(z, n)])
        rw [List.append_assoc]
        exact List.Perm.append_left _ h3
      · rcases List.mem_cons.mp h' with h' | h'
        · exact .inr (by rw [h']; exact List.mem_cons_self)
        · exact (h4 k' h').imp id (List.mem_cons_of_mem _)
theorem plOf_new (ks : List (Nd × List Str)) (n : Nd) (z : Str) : plOf (ks ++ [(n, [z])]) = plOf ks ++ [(z, n)] := by
  unfold plOf
  rw [List.flatMap_append]
  rfl
/-- kept sheets under their kinds: the pairs so far -/
def kpP (pl : List (Str × Nd)) (xs : List Str) : List (Str × Nd) := xs.filterMap fun z => (kO pl z).map fun k => (z, k)
theorem kpP_add {pl : List (Str × Nd)} {xs : List Str} {z : Str} {k : Nd} (h : kO pl z = some k) : kpP pl (xs ++ [z]) = kpP pl xs ++ [(z, k)] := by
  unfold kpP
  rw [List.filterMap_append]
  simp [h]
theorem mem_kpP {pl : List (Str × Nd)} {xs : List Str} {z : Str} {k : Nd} : (z, k) ∈ kpP pl xs ↔ kO pl z = some k ∧ z ∈ xs := by
  unfold kpP
  rw [List.mem_filterMap]
  constructor
  · rintro ⟨y, hy, e⟩
    cases f : kO pl y with
    | none => rw [f] at e; cases e
    | some m =>
      rw [f] at e; cases e
      exact ⟨f, hy⟩
  · rintro ⟨e, h⟩
    exact ⟨z, h, by rw [e]; rfl⟩
end KN


set_option Elab.async false
set_option linter.all false
set_option maxRecDepth 100000
set_option maxHeartbeats 4000000
/-! Own rule: sorted(set(l)), l a list of numbers. -/
namespace GS
open PySem PySem.Spec PyProof.Rows L2
/-- what the set holds behind the first i numbers -/
def HasI (xs : List Int) (i : Nat) : Int → Bool := fun y => decide (y ∈ xs.take i)
theorem intsLen : ∀ {vs : List Value} {ns : List Int}, IntsAre vs ns → vs.length = ns.length
  | _, _, .nil => rfl
  | _, _, .cons _ _ h => by rw [List.length_cons, List.length_cons, intsLen h]
theorem hasI_next {xs : List Int} {i : Nat} (h : i < xs.length) (y : Int) : HasI xs (i + 1) y = (HasI xs i y || decide (y = xs.getD i 0)) := by
  unfold HasI
  rw [List.take_add_one, List.getElem?_eq_getElem h, List.getD_eq_getElem?_getD, List.getElem?_eq_getElem h]
  show decide (y ∈ List.take i xs ++ [xs[i]]) = (_ || decide (y = xs[i]))
  rw [← Bool.decide_or]
  exact decide_eq_decide.mpr (by rw [List.mem_append, List.mem_singleton])
section
variable {P : Program} {w : World} {B : Around} {Z : Result → Shared → Prop} {it S : Addr} {seen wrote : List Addr} {J : Array GenState → Array GenState → Prop} {m : Nat} {Is : Nat → Value → Prop} {At : Nat → Shared → Prop}
/-- the loop that puts them in -/
theorem puts_ints (walk : WalksS P w B.in1 it seen wrote J m Is At) (off : S ∉ seen) (xs : List Int) (hm : m = xs.length) (few : xs.length < 64) (isK : ∀ i v, Is i v → ∃ t, v = .int (xs.getD i 0) t)
    (h0 : Heap) (newS : h0.get? S = none) (newW : ∀ b ∈ wrote, h0.get? b = none) :
    ∀ (left i : Nat) (s : Shared), m - i = left → i ≤ m → At i s → (∀ b o, h0.get? b = some o → s.heap.get? b = some o) → (∃ n, n ≤ i ∧ SetR w s.heap S (HasI xs i) n) →
      (∀ z n, Moved (S :: wrote) J s z → n ≤ m → SetR w z.heap S (HasI xs m) n → (∀ b o, h0.get? b = some o → z.heap.get? b = some o) → Z (.ok (.ret .none)) z) → codeAny (model P w) B (.builtin "set.update.loop" ⟨[.ref S, .ref it], []⟩) Z s := by
  have offW : S ∉ wrote := fun h => off (walk.sub _ h)
  have wider : ∀ b ∈ wrote, b ∈ S :: wrote := fun b => List.mem_cons_of_mem S
  have old : ∀ {x z : Shared}, Moved wrote J x z → (∀ b o, h0.get? b = some o → x.heap.get? b = some o) → ∀ b o, h0.get? b = some o → z.heap.get? b = some o := fun mv k b o e =>
    mv.heap b o (fun hb => by rw [newW b hb] at e; cases e) (k b o e)
  intro left
  induction left with
  | zero =>
    rintro i s e hi st k ⟨n, hn, R⟩ fin
    obtain rfl : i = m := by omega
    refine codeAny_builtin F.entry_set_update_loop ?_
    rw [Around.under_plainId F.plain_set_update_loop _]
    show wpAny _ B.in1 (pyNext (.ref it) >>= _) _ _ s
    exact wpAny_bind (walk.done s _ _ st fun z mv => wpAny_pure (fin z n (mv.mono wider) hn (R.at fun o e => mv.heap S o offW e) (old mv k)))
  | succ left ih =>
    rintro i s e hi st k ⟨n, hn, R⟩ fin
    have lt : i < m := by omega
    refine codeAny_builtin F.entry_set_update_loop ?_
    rw [Around.under_plainId F.plain_set_update_loop _]
    show wpAny _ B.in1 (pyNext (.ref it) >>= _) _ _ s
    refine wpAny_bind (walk.item i s _ _ lt st fun v z pv st2 mv => ?_)
    obtain ⟨t, rfl⟩ := isK i v pv
    have k2 := old mv k
    have R2 : SetR w z.heap S (HasI xs i) n := R.at fun o e => mv.heap S o offW e
    show wpAny _ B.in1 (holding [Value.int (xs.getD i 0) t] (setAdd S (.int (xs.getD i 0) t)) >>= _) _ _ z
    refine wpAny_bind (wpAny_holding ?_)
    unfold setAdd
    refine wpAny_holding (wpAny_bind ((intKind P w).pyHash (intKind_is P w _ _) ?_))
    refine setR_add_hashed (P := P) (s := { z with toks := z.toks + 1 }) R2 (by unfold scanBound; omega) fun h2 but R3 => ?_
    have k3 : ∀ b o, h0.get? b = some o → h2.get? b = some o := fun b o eo => (but.2 b fun h => by rw [h, newS] at eo; cases eo).trans (k2 b o eo)
    have R4 : ∃ n', n' ≤ i + 1 ∧ SetR w h2 S (HasI xs (i + 1)) n' := by
      refine ⟨_, ?_, R3.congr fun y => hasI_next (by omega) y⟩
      split <;> omega
    refine wpAny_pure ⟨plainId_quiet F.plain_set_update_loop _, ih (i + 1) _ (by omega) lt (walk.frame _ z _ _ st2 (Nat.le_succ _) fun b hb o eo => ?_) k3 R4 fun z2 n2 mv2 hn2 U4 k4 => ?_⟩
    · rw [but.2 b fun h => off (h ▸ hb)]; exact eo
    · refine fin z2 n2 (Moved.trans walk.gtrans ((mv.mono wider).then_heap (Nat.le_succ _) fun b o hb eo => ?_) mv2) hn2 U4 k4
      rw [but.2 b fun h => hb (h ▸ List.mem_cons_self)]; exact eo
end
section
variable {P : Program} {w : World} {B : Around} {E : Value → Shared → Prop} {s : Shared}
set_option maxHeartbeats 3200000 in
/-- set(l), l a list of keys -/
theorem set_ints {l : Addr} {its : Array Value} {xs : List Int} {Q : Value → Shared → Prop} (calm : B.handled = none) (tl : s.heap.IsList l its) (ts : IntsAre its.toList xs) (few : xs.length < 64)
    (fin : ∀ (g : Heap) (tk : Nat) n, n ≤ xs.length → SetR w g s.heap.objs.size (HasI xs xs.length) n → (∀ b o, s.heap.get? b = some o → g.get? b = some o) → Q (.ref s.heap.objs.size) { s with heap := g, toks := tk }) :
    wpAny (model P w) B (call (.type "set") [.ref l]) Q E s := by
  have hlen : its.size = xs.length := by rw [← Array.length_toList]; exact intsLen ts
  obtain ⟨c0, t0, q0⟩ := PySem.F.called_set.mro
  have q1 := PySem.F.called_set.made
  have q2 := PySem.F.called_set.sub
  refine wpAny_call (codeAny_of_tree ?_)
  show wpAny _ _ (callAny (.type "set") _) _ _ _
  refine wpAny_pure ⟨Code.quiet_builtin _ (by decide +kernel), codeAny_builtin PySem.F.entry_type_call ?_⟩
  rw [Around.under_plain (weight_type_call_type "set" [.ref l] []) rfl]
  have q3 := PySem.F.called_set.notType
  have q4 := PySem.F.called_set.canCreate
  have q5 := PySem.F.typeCall_set_1 (.ref l)
  repeat (any_goals (first | assumption | wp_step))
  refine codeAny_mono (code_set_led1 (.ref l) (E := E) (Q₁ := fun v z => v = .ref s.heap.objs.size ∧ z = { s with heap := s.heap.push { cls := .type "set", dict := none, data := .set #[] 0 (.fresh 0 0 (!w.params.followText "set-order")) } }) ⟨rfl, rfl⟩) fun r z hz => ?_
  rcases r with e | fl
  · exact hz
  cases fl
  case ret v =>
    obtain ⟨rfl, rfl⟩ := hz
    have fresh : (s.heap.push ({ cls := .type "set", dict := none, data := .set #[] 0 (.fresh 0 0 (!w.params.followText "set-order")) } : Obj)).get? s.heap.objs.size = some ({ cls := .type "set", dict := none, data := .set #[] 0 (.fresh 0 0 (!w.params.followText "set-order")) } : Obj) := Heap.get?_push_size _ rfl
    have isSet : Shared.TypeIs { s with heap := s.heap.push ({ cls := .type "set", dict := none, data := .set #[] 0 (.fresh 0 0 (!w.params.followText "set-order")) } : Obj) } (.ref s.heap.objs.size) "set" := ⟨_, fresh, rfl⟩
    have q6 := PySem.F.called_set.init.lookup
    have q7 := PySem.F.called_set.init.bind (.ref s.heap.objs.size)
    have tl2 : (s.heap.push ({ cls := .type "set", dict := none, data := .set #[] 0 (.fresh 0 0 (!w.params.followText "set-order")) } : Obj)).IsList l its := tl.push _
    have below : l < s.heap.objs.size := let ⟨_, h, _⟩ := tl; Heap.lt_size h
    repeat (any_goals (first | assumption | wp_step))
    refine codeAny_mono (codeAny_call_builtin (R := wants (fun v z => v = .none ∧ ∃ g tk n, z = { s with heap := g, toks := tk } ∧ n ≤ xs.length ∧ SetR w g s.heap.objs.size (HasI xs xs.length) n ∧
      ∀ b o, s.heap.get? b = some o → g.get? b = some o) E) PySem.F.called_set.init.plain PySem.F.entry_set_init (check_set_init_1 isSet ?_)) fun r z hz => ?_
    · obtain ⟨⟨c, dd, dt, sl⟩, hol, hc, nl, hd⟩ := tl
      simp only at hc hd
      subst hc
      subst hd
      have q8 := PySem.F.sub_list_set
      have q9 := PySem.F.sub_list_frozenset
      have qa : (Value.type "list" == Value.type "dict") = false := by decide
      have seenL : (s.heap.push ({ cls := .type "set", dict := none, data := .set #[] 0 (.fresh 0 0 (!w.params.followText "set-order")) } : Obj)).get? l = some { cls := .type "list", dict := dd, data := .seq its nl, slots := sl } := Heap.get?_push_of_some _ hol
      unfold Builtin.«set.__init__» noKeywords Builtin.Frozenset.updateFrom
      generalize hIt : pyIter = It
      wp_walk
      subst hIt
      refine wpAny_pyIter_list tl2 ?_
      refine wpAny_bind (wpAny_runValue ?_)
      have szP : (s.heap.push ({ cls := .type "set", dict := none, data := .set #[] 0 (.fresh 0 0 (!w.params.followText "set-order")) } : Obj)).objs.size = s.heap.objs.size + 1 := Heap.size_push ..
      have lI : l ≠ (s.heap.push ({ cls := .type "set", dict := none, data := .set #[] 0 (.fresh 0 0 (!w.params.followText "set-order")) } : Obj)).objs.size := by rw [szP]; exact Nat.ne_of_lt (Nat.lt_succ_of_lt below)
      have aOut : s.heap.objs.size ∉ [(s.heap.push ({ cls := .type "set", dict := none, data := .set #[] 0 (.fresh 0 0 (!w.params.followText "set-order")) } : Obj)).objs.size, l] := by
        rw [szP]
        intro h
        rcases List.mem_cons.mp h with e | h
        · exact absurd e (Nat.ne_of_lt (Nat.lt_succ_self _))
        · exact absurd (List.mem_singleton.mp h).symm (Nat.ne_of_lt below)
      have isK : ∀ (i : Nat) (v : Value), its[i]? = some v → ∃ t, v = .int (xs.getD i 0) t := fun i v hv => IntsAre.int_at ts i v (by rw [Array.getElem?_toList]; exact hv)
      have quiet3 : B.in1.in1.in1.handled = none := by simp [calm]
      have none_ : ∀ b, s.heap.objs.size ≤ b → s.heap.get? b = none := fun b hb => by
        cases q : s.heap.get? b with
        | none => rfl
        | some o => exact absurd (Heap.lt_size q) (Nat.not_lt.mpr hb)
      refine puts_ints ((Walks.list quiet3 _ l lI its).toS) aOut xs hlen few isK s.heap (none_ _ (Nat.le_refl _)) (fun b hb => none_ b (by
        rw [List.mem_singleton.mp hb, szP]; exact Nat.le_succ _)) (its.size - 0) 0 _ rfl (Nat.zero_le _) ⟨⟨_, Heap.get?_push_size _ rfl, rfl, rfl⟩, tl2.push _⟩ (fun b o e => Heap.get?_push_of_some _ (Heap.get?_push_of_some _ e)) ?_ ?_
      · exact ⟨0, Nat.le_refl _, ((setR_fresh (h := s.heap) w).at fun o e => Heap.get?_push_of_some _ e).congr fun k => by simp [HasI]⟩
      · rintro ⟨g, gn, dr, tk, os⟩ n mv hn hg hk
        obtain rfl : gn = s.gens := mv.gens
        obtain rfl : dr = s.drawn := mv.drawn
        obtain rfl : os = s.os := mv.os
        show wpAny _ _ _ _ _ _
        refine wpAny_pure ?_
        show wpAny _ _ (ret Value.none) _ _ _
        rw [hlen] at hn hg
        exact wpAny_pure ⟨rfl, g, tk, n, rfl, hn, hg, hk⟩
    · rcases r with e | fl
      · exact hz
      cases fl
      case ret v =>
        obtain ⟨rfl, g, tk, n, rfl, hn, hg, hk⟩ := hz
        repeat (any_goals (first | assumption | wp_step))
        exact fin _ _ n hn hg hk
      all_goals exact hz.elim
  all_goals exact hz.elim
end
end GS

namespace KN
open PySem PySem.Spec PyProof.Rows L2
theorem ints_vals : ∀ {xs : List Int} {us : List Value}, Vals (xs.map V.int) us → IntsAre us xs
  | [], _, .nil => .nil
  | _ :: _, _, .cons r t => by
    obtain ⟨k, rfl⟩ := r
    exact .cons _ k (ints_vals t)
/-- sorted(set(l)), l a list of numbers -/
def tSortedSetI (K : PySem.W.Frag) (ta : TE) : TE := fun σ H Q => ta σ H fun x H1 => ∃ l, ∃ xs : List Int, x = .ref l ∧ SqL K H1 l (xs.map V.int) ∧ xs.length < 64 ∧
  ∀ (ns : List Int) (p : Addr), ns.Pairwise (· < ·) → (∀ k, k ∈ ns ↔ k ∈ xs) → H1 p = none → Q (.ref p) (upd H1 p (.lst (ns.map V.int)))
theorem pe_sortedSetI {X : Cx} {a : Expr} {ta : TE} {p p2 q pos : Pos} (calm : X.calm = true) (g1 : Gl X "sorted") (m1 : X.mg "sorted" = none) (g2 : Gl X "set") (m2 : X.mg "set" = none) (ha : PE X a ta)
    (one : starEach [a] X.env = (false, eval a X.env) :: starEach [] X.env := by rfl) : PE X (.Call (.Name "sorted" p) [.Call (.Name "set" p2) [a] [] q] [] pos) (tSortedSetI X.K ta) := ⟨fun pins s σ H Q I h => by
  refine Call_ (ld_blt I g1 m1 boot_sorted (callWith_builtin1 (args_cons ?_ rfl) rfl rfl))
  refine Call_ (ld_blt I g2 m2 boot_set (callWith_type1 (args_cons (thn (ha.run pins s σ H _ I h) fun v z ⟨x, H1, J, rx, k⟩ => args_nil ?_) one) one rfl))
  obtain ⟨l, xs, rfl, sq, few, k⟩ := k
  obtain rfl : v = Value.ref l := rx
  obtain ⟨its, r, pl, _⟩ := J.list sq
  refine GS.set_ints (J.ok.hd calm) pl.isList (ints_vals (by simpa using r)) few fun g tk n hn R keep => args_nil ?_
  have J2 : Inv X pins σ H1 { z with heap := g, toks := tk } := J.kept fun b o e => keep b o e
  refine sorted_set (s := { z with heap := g, toks := tk }) R (J.ok.hd calm) (by omega) fun s' p out c ns ke gn os hp hg hi hs hm hl => ?_
  have hlen : (ns.map V.int).length ≤ sizeLine := by rw [List.length_map, hl, sizeLine_eq]; omega
  have hnp : H1 p = none := J2.hok.fresh hp
  have JJ : Inv X pins σ (upd H1 p (.lst (ns.map V.int))) { ({ z with heap := g, toks := tk } : Shared) with heap := s'.heap, gens := s'.gens, drawn := s'.drawn, toks := s'.toks } :=
    J2.call (ch := []) (Un.laid ke hp hnp) (J2.hok.laid ke hp ⟨hlen, out.toList, c, vals_of_ints hi, hg⟩) (by rw [gn]; exact J2.bare) (fun _ z => nomatch z)
  have e : s' = { ({ z with heap := g, toks := tk } : Shared) with heap := s'.heap, gens := s'.gens, drawn := s'.drawn, toks := s'.toks } := by
    cases s'
    cases z
    cases os
    rfl
  rw [e]
  exact ⟨.ref p, _, JJ, rfl, k ns p hs (fun j => by rw [hm]; unfold GS.HasI; rw [List.take_of_length_le (Nat.le_refl _), decide_eq_true_eq]) hnp⟩⟩
theorem ris_one : ∀ {xs ys : List Int}, xs.Pairwise (· < ·) → ys.Pairwise (· < ·) → (∀ k, k ∈ xs ↔ k ∈ ys) → xs = ys := fun {xs ys} hx hy h =>
  List.Perm.eq_of_pairwise (le := (· < ·)) (fun a b _ _ h g => by omega) hx hy ((List.perm_ext_iff_of_nodup (hx.imp fun h => by omega) (hy.imp fun h => by omega)).mpr h)
end KN

set_option Elab.async false
set_option linter.all false
set_option maxRecDepth 100000
set_option maxHeartbeats 4000000
namespace KN
open PySem PySem.Spec PyProof.Rows L2
/-! Own rule: sum(lists, []). -/
theorem args_sum2 (a b : Value) : argsOk "sum" ⟨[a, b], []⟩ := by unfold argsOk; kernel_rfl
theorem lst_str : isSubtype (.type "list") (.type "str") = pure false := by rw [isSubtype_type]; kernel_rfl
theorem lst_bytes : isSubtype (.type "list") (.type "bytes") = pure false := by rw [isSubtype_type]; kernel_rfl
theorem lst_bytearray : isSubtype (.type "list") (.type "bytearray") = pure false := by rw [isSubtype_type]; kernel_rfl
abbrev Part := Addr × List Value
/-- the turns of sum over what is left -/
theorem sum_turns {P : Program} {w : World} {A : Around} {I a S : Addr} {all : List Part} {R : Result → Shared → Prop} (hh : A.in1.handled = none) (n1 : I ≠ S) (n2 : a ≠ I) (n3 : a ≠ S) :
    ∀ (rest gone : List Part) (s : Shared) (T : Addr) (acc : List Value) (c m : Nat), all = gone ++ rest → s.heap.IsListIter I a gone.length → s.heap.IsList a (all.map fun p => Value.ref p.1).toArray →
      s.heap.get? S = some { cls := .type "list", dict := none, data := .seq #[.ref T] c, slots := #[] } → IsL s.heap T acc.toArray m → (∀ p ∈ rest, p.1 ≠ I ∧ p.1 ≠ S ∧ ∃ k, IsL s.heap p.1 p.2.toArray k) → T ≠ I → T ≠ S →
      acc.length + (rest.flatMap (·.2)).length ≤ 100000 →
      (∀ g T' k, (∀ b o, b ≠ I → b ≠ S → s.heap.get? b = some o → g.get? b = some o) → IsL g T' (acc ++ rest.flatMap (·.2)).toArray k → (rest = [] → T' = T) → (rest ≠ [] → s.heap.objs.size ≤ T') → R (.ok (.ret (.ref T'))) { s with heap := g }) →
      codeAny (model P w) A (.builtin "sum.loop" ⟨[.ref I, .ref S, rawInt 2, rawInt 0], []⟩) R s
  | [], gone, s, T, acc, c, m, eq, hi, ha, hS, hT, _, t1, t2, _, fin => by
    refine codeAny_builtin F.entry_sum_loop ?_
    rw [Around.under_plainId F.plain_sum_loop _]
    have hend : (all.map fun p => Value.ref p.1).toArray[gone.length]? = none := by rw [eq]; simp
    show wpAny _ A.in1 (seqItems? (.ref S) >>= _) _ _ s
    refine wpAny_bind (wpAny_seqItems hS rfl ?_)
    show wpAny _ A.in1 (tryCatch (pyNext (.ref I)) _ >>= _) _ _ s
    refine wpAny_bind (wpAny_tryCatch (wpAny_pyNext_list_end hh hi ha hend fun g k => wpAny_pure ?_))
    refine fin g T m (fun b o b1 _ e => k b o b1 e) ?_ (fun _ => rfl) (fun z => absurd rfl z)
    rw [List.flatMap_nil, List.append_nil]
    exact k _ _ t1 hT
  | p :: rest, gone, s, T, acc, c, m, eq, hi, ha, hS, hT, hr, t1, t2, len, fin => by
    refine codeAny_builtin F.entry_sum_loop ?_
    rw [Around.under_plainId F.plain_sum_loop _]
    have hat : (all.map fun p => Value.ref p.1).toArray[gone.length]? = some (.ref p.1) := by rw [eq]; simp
    obtain ⟨p1, p2, kp, hp⟩ := hr p List.mem_cons_self
    rw [List.flatMap_cons, List.length_append] at len
    show wpAny _ A.in1 (seqItems? (.ref S) >>= _) _ _ s
    refine wpAny_bind (wpAny_seqItems hS rfl ?_)
    show wpAny _ A.in1 (tryCatch (pyNext (.ref I)) _ >>= _) _ _ s
    refine wpAny_bind (wpAny_tryCatch (wpAny_pyNext_list_item hi ha hat fun g1 hi1 f1 => ?_))
    have k1 : ∀ {b : Addr} {o : Obj}, b ≠ I → s.heap.get? b = some o → g1.get? b = some o := fun n e => (f1.2 _ n).trans e
    refine wpAny_bind (wpAny_attempt (wpAny_holding (PySem.P.add_list (k1 t1 hT) (k1 p1 hp) ?_ (by simp only [List.size_toArray]; exact Nat.le_trans (by omega : _ ≤ 100000) (by decide)))))
    have hS2 : (g1.push { cls := .type "list", data := .seq (acc.toArray ++ p.2.toArray) }).get? S = some { cls := .type "list", dict := none, data := .seq #[.ref T] c, slots := #[] } := Heap.get?_push_of_some _ (k1 n1.symm hS)
    have hN : (g1.push { cls := .type "list", data := .seq (acc.toArray ++ p.2.toArray) }).get? g1.objs.size = some { cls := .type "list", data := .seq (acc.toArray ++ p.2.toArray) } := Heap.get?_push_size _ rfl
    have up : ∀ {b : Addr} {o : Obj}, g1.get? b = some o → (g1.push { cls := .type "list", data := .seq (acc.toArray ++ p.2.toArray) }).get? b = some o := fun e => Heap.get?_push_of_some _ e
    have size1 : g1.objs.size = s.heap.objs.size := f1.1
    have new1 : ∀ {b : Addr} {o : Obj}, g1.get? b = some o → b ≠ g1.objs.size := fun e => Nat.ne_of_lt (Heap.lt_size e)
    have nNS : g1.objs.size ≠ S := fun z => new1 (k1 n1.symm hS) z.symm
    have nNI : g1.objs.size ≠ I := fun z => by obtain ⟨o, e, _⟩ := hi1; exact new1 e z.symm
    show wpAny _ _ (updateSeq S (fun _ => #[.ref g1.objs.size]) >>= _) _ _ _
    refine wpAny_bind (wpAny_updateSeq hS2 rfl (wpAny_bind (wpAny_letGo ?_)))
    have hS3 := Heap.get?_update_self (Obj.mapSeq fun _ => #[Value.ref g1.objs.size]) hS2 rfl
    have oth3 : ∀ {b : Addr}, b ≠ S → ((g1.push { cls := .type "list", data := .seq (acc.toArray ++ p.2.toArray) }).update S (Obj.mapSeq fun _ => #[Value.ref g1.objs.size])).get? b = (g1.push { cls := .type "list", data := .seq (acc.toArray ++ p.2.toArray) }).get? b := fun n => Heap.get?_update_other _ _ (Ne.symm n)
    show wpAny _ _ (updateSeq S (fun _ => #[.ref g1.objs.size]) >>= _) _ _ _
    refine wpAny_bind (wpAny_updateSeq hS3 rfl (wpAny_pure ⟨plainId_quiet F.plain_sum_loop _, ?_⟩))
    have hS4 := Heap.get?_update_self (Obj.mapSeq fun _ => #[Value.ref g1.objs.size]) hS3 rfl
    have oth4 : ∀ {b : Addr}, b ≠ S → (((g1.push { cls := .type "list", data := .seq (acc.toArray ++ p.2.toArray) }).update S (Obj.mapSeq fun _ => #[Value.ref g1.objs.size])).update S (Obj.mapSeq fun _ => #[Value.ref g1.objs.size])).get? b = (g1.push { cls := .type "list", data := .seq (acc.toArray ++ p.2.toArray) }).get? b := fun n => (Heap.get?_update_other _ _ (Ne.symm n)).trans (oth3 n)
    have go4 : ∀ {b : Addr} {o : Obj}, b ≠ S → g1.get? b = some o → (((g1.push { cls := .type "list", data := .seq (acc.toArray ++ p.2.toArray) }).update S (Obj.mapSeq fun _ => #[Value.ref g1.objs.size])).update S (Obj.mapSeq fun _ => #[Value.ref g1.objs.size])).get? b = some o := fun n e => (oth4 n).trans (up e)
    have hN4 := (oth4 nNS).trans hN
    refine sum_turns (all := all) (R := R) hh n1 n2 n3 rest (gone ++ [p]) _ g1.objs.size (acc ++ p.2) _ 0 (by rw [eq]; simp) ?_ ?_ hS4 ?_ ?_ nNI nNS (by rw [List.length_append]; omega) ?_
    · rw [List.length_append]; exact hi1.at fun o e => go4 n1 e
    · obtain ⟨o, e, r⟩ := ha; exact ⟨o, go4 n3 (k1 n2 e), r⟩
    · rw [show (acc ++ p.2).toArray = acc.toArray ++ p.2.toArray by simp]; exact hN4
    · intro q hq
      obtain ⟨q1, q2, kq, hq'⟩ := hr q (List.mem_cons_of_mem _ hq)
      exact ⟨q1, q2, kq, go4 q2 (k1 q1 hq')⟩
    · intro g T' k keep hT' e1 e2
      refine fin g T' k (fun b o b1 b2 e => keep b o b1 b2 (go4 b2 (k1 b1 e))) ?_ (fun z => by cases z) (fun _ => ?_)
      · rw [List.flatMap_cons, ← List.append_assoc]; exact hT'
      · cases rest with
        | nil => rw [e1 rfl, size1]; exact Nat.le_refl _
        | cons q qs =>
          refine Nat.le_trans ?_ (e2 (by simp))
          show s.heap.objs.size ≤ (((g1.push { cls := .type "list", data := .seq (acc.toArray ++ p.2.toArray) }).update S (Obj.mapSeq fun _ => #[Value.ref g1.objs.size])).update S (Obj.mapSeq fun _ => #[Value.ref g1.objs.size])).objs.size
          rw [Heap.size_update, Heap.size_update, Heap.size_push, size1]
          exact Nat.le_succ _
def rSumLL : List V → Hp → VK → Prop := fun vs H Q => ∃ (a z : Addr) (ls : List (Addr × List V)), vs = [.ref a, .ref z] ∧ H a = some (.lst (ls.map fun p => V.ref p.1)) ∧ H z = some (.lst []) ∧ (∀ p ∈ ls, H p.1 = some (.lst p.2)) ∧ (ls.flatMap (·.2)).length ≤ 100000 ∧
  ∀ (T : Addr) (H' : Hp), (∀ b o, H b = some o → H' b = some o) → H' T = some (.lst (ls.flatMap (·.2))) → Q (.ref T) H'
theorem parts_of {X : Cx} {pins : List (Addr × Obj)} {σ : L2.St} {H : Hp} {s : Shared} (I : Inv X pins σ H s) : ∀ {ls : List (Addr × List V)}, (∀ p ∈ ls, H p.1 = some (.lst p.2)) →
    ∃ ps : List Part, (ps.map fun p => Value.ref p.1) = ls.map (fun p => Value.ref p.1) ∧ (∀ p ∈ ps, ∃ k, IsL s.heap p.1 p.2.toArray k) ∧ Vals (ls.flatMap (·.2)) (ps.flatMap (·.2))
  | [], _ => ⟨[], rfl, (fun _ h => by cases h), .nil⟩
  | p :: ls, h => by
    obtain ⟨ps, e1, e2, e3⟩ := parts_of I (ls := ls) fun q hq => h q (List.mem_cons_of_mem _ hq)
    obtain ⟨_, its, n, rv, _, ob⟩ := I.lstM (h p List.mem_cons_self)
    refine ⟨(p.1, its) :: ps, by rw [List.map_cons, List.map_cons, e1], fun q hq => ?_, ?_⟩
    · rcases List.mem_cons.mp hq with rfl | hq
      · exact ⟨n, ob⟩
      · exact e2 q hq
    · rw [List.flatMap_cons, List.flatMap_cons]; exact rv.append e3
theorem vals_refs : ∀ {ls : List (Addr × List V)} {us : List Value}, Vals (ls.map fun p => V.ref p.1) us → us = ls.map fun p => Value.ref p.1
  | [], _, .nil => rfl
  | _ :: _, _, .cons r t => by cases r; rw [vals_refs t]; rfl
theorem cr_sumLL {X : Cx} (hc : X.calm = true) : CallR X (.builtin "sum") rSumLL := by
  intro pins s σ H xs us Q I r ⟨a, z, ls, ex, ha, hz, hl, hn, q⟩
  subst ex
  obtain ⟨ua, uz, rfl, ra, rz⟩ : ∃ ua uz, us = [ua, uz] ∧ RelV (.ref a) ua ∧ RelV (.ref z) uz := by
    cases r with | cons r rr => cases rr with | cons r' rr => cases rr; exact ⟨_, _, rfl, r, r'⟩
  cases ra
  cases rz
  obtain ⟨_, its, ka, va, _, oa⟩ := I.lstM ha
  have ei := vals_refs va
  subst ei
  obtain ⟨_, zs, kz, vz, _, oz⟩ := I.lstM hz
  cases vz
  obtain ⟨ps, e1, e2, e3⟩ := parts_of I hl
  have flen := e3.length
  have old : ∀ {b : Addr} {o : Obj}, s.heap.get? b = some o → b ≠ s.heap.objs.size ∧ b ≠ s.heap.objs.size + 1 := fun e => by
    have := Heap.lt_size e
    exact ⟨Nat.ne_of_lt this, Nat.ne_of_lt (Nat.lt_succ_of_lt this)⟩
  have la : s.heap.IsList a (ls.map fun p => Value.ref p.1).toArray := ⟨_, oa, rfl, _, rfl⟩
  refine call_function_tree F.kind_sum F.plain_sum F.entry_sum (args_sum2 _ _) ?_
  unfold Builtin.«sum»
  simp only [List.length_cons, List.length_nil]
  rw [if_neg (by decide)]
  refine wpAny_bind (wpAny_of_eq (show Builtin.Builtins.bindParams "sum" ["start"] 0 ⟨[.ref z], []⟩ = pure [some (.ref z)] from rfl) ?_)
  refine wpAny_bind (wpAny_pyIter_list la ?_)
  show wpAny _ _ (pure (Value.ref z, (2 : Int)) >>= _) _ _ _
  refine wpAny_bind (wpAny_pure ?_)
  simp only [List.forIn_cons, List.forIn_nil]
  have k1 : ∀ {b : Addr} {o : Obj}, s.heap.get? b = some o → (s.heap.push { cls := .type "list_iterator", data := .fields #[.ref a, .int 0 0] }).get? b = some o := fun e => Heap.get?_push_of_some _ e
  have tz : Shared.TypeIs { s with heap := s.heap.push { cls := .type "list_iterator", data := .fields #[.ref a, .int 0 0] } } (.ref z) "list" := ⟨_, k1 oz, rfl⟩
  refine wpAny_bind (wpAny_bind (wpAny_bind (wpAny_isInstance tz lst_str ?_)))
  simp only [Bool.false_eq_true, if_false]
  refine wpAny_pure (wpAny_bind (wpAny_bind (wpAny_isInstance tz lst_bytes ?_)))
  simp only [Bool.false_eq_true, if_false]
  refine wpAny_pure (wpAny_bind (wpAny_bind (wpAny_isInstance tz lst_bytearray ?_)))
  simp only [Bool.false_eq_true, if_false]
  refine wpAny_pure (wpAny_pure (wpAny_bind (wpAny_newList ?_)))
  have k2 : ∀ {b : Addr} {o : Obj}, s.heap.get? b = some o → ((s.heap.push { cls := .type "list_iterator", data := .fields #[.ref a, .int 0 0] }).push { cls := .type "list", data := .seq [Value.ref z].toArray }).get? b = some o := fun e => Heap.get?_push_of_some _ (k1 e)
  have sz1 : (s.heap.push { cls := .type "list_iterator", data := .fields #[.ref a, .int 0 0] }).objs.size = s.heap.objs.size + 1 := Heap.size_push ..
  refine wpAny_pure ⟨plainId_quiet F.plain_sum_loop _, ?_⟩
  have nSz : ∀ {b : Addr} {o : Obj}, s.heap.get? b = some o → b ≠ (s.heap.push { cls := .type "list_iterator", data := .fields #[.ref a, .int 0 0] }).objs.size := fun e => by rw [sz1]; exact (old e).2
  have hfst : ∀ p ∈ ps, p.1 ≠ s.heap.objs.size ∧ p.1 ≠ (s.heap.push { cls := .type "list_iterator", data := .fields #[.ref a, .int 0 0] }).objs.size ∧ ∃ k, IsL ((s.heap.push { cls := .type "list_iterator", data := .fields #[.ref a, .int 0 0] }).push { cls := .type "list", data := .seq [Value.ref z].toArray }) p.1 p.2.toArray k := fun p hp => by
    obtain ⟨k, hk⟩ := e2 p hp
    exact ⟨(old hk).1, nSz hk, k, k2 hk⟩
  have emp : ls = [] ↔ ps = [] := by
    have h := congrArg List.length e1
    simp only [List.length_map] at h
    exact ⟨fun z => List.length_eq_zero_iff.mp (by rw [h, z]; rfl), fun z => List.length_eq_zero_iff.mp (by rw [← h, z]; rfl)⟩
  refine sum_turns (all := ps) (show X.A.in1.handled = none from I.ok.hd hc) (by rw [sz1]; exact Nat.ne_of_lt (Nat.lt_succ_self _)) (old oa).1 (nSz oa) ps [] _ z [] 0 kz rfl ⟨_, Heap.get?_push_of_some _ (Heap.get?_push_size _ rfl), rfl, rfl⟩ ?_ (Heap.get?_push_size _ rfl) (k2 oz) hfst (old oz).1 (nSz oz) (by rw [← flen]; simpa using hn) ?_
  · rw [e1]; exact ⟨_, k2 oa, rfl, _, rfl⟩
  · intro g T k keep hT g1 g2
    have keep' : ∀ (b : Addr) (o : Obj), s.heap.get? b = some o → g.get? b = some o := fun b o e => keep b o (old e).1 (nSz e) (k2 e)
    rw [List.nil_append] at hT
    by_cases hls : ls = []
    · have := g1 (emp.mp hls)
      subst this
      exact ⟨.ref T, H, I.kept (t' := s.toks) keep', rfl, q T H (fun _ _ e => e) (by rw [hls]; exact hz)⟩
    · have big : s.heap.objs.size ≤ T := by
        refine Nat.le_trans ?_ (g2 fun z => hls (emp.mpr z))
        show s.heap.objs.size ≤ ((s.heap.push _).push _).objs.size
        rw [Heap.size_push, Heap.size_push]
        omega
      have lb : (ls.flatMap (·.2)).length ≤ sizeLine := by rw [sizeLine_eq]; omega
      have ob : ObjOk X.prog X.w (upd H T (.lst (ls.flatMap (·.2)))) g T (.lst (ls.flatMap (·.2))) := ⟨lb, _, k, e3, hT⟩
      exact ⟨.ref T, _, I.laid (t' := s.toks) keep' big ob, rfl, q T _ (fun b o e => by rw [upd_ne (fun z => by subst z; rw [I.hok.fresh big] at e; cases e)]; exact e) upd_same⟩
end KN

set_option Elab.async false
set_option linter.all false
set_option maxRecDepth 100000
set_option maxHeartbeats 4000000
/-! Own rule: len() of an instance whose class has an own __len__. -/
namespace KN
open PySem PySem.Spec PyProof.Rows L2
structure OwnLen (K : PySem.W.Frag) (C f : Addr) : Prop where
  ln : PySem.W.findIn K (.ref C) "__len__" = some (some (.ref f))
  fn : PySem.W.isFn K (.ref f) = true
section
variable {A : Around} {E : Value → Shared → Prop} {s : Shared} {K : PySem.W.Frag} {x C f : Addr} {ox : Obj} {od : Option Obj} {name : Str}
theorem own_special {M : Model} {args : List Value} {Q : Option Value → Shared → Prop} (X : K.In s.heap) (I : PySem.W.InstAt s.heap x ox C od) (at_ : PySem.W.findIn K (.ref C) name = some (some (.ref f))) (fn : PySem.W.isFn K (.ref f) = true)
    (q : wpAny M A (call (.ref f) (.ref x :: args)) (fun v => Q (some v)) E s) : wpAny M A (callSpecial? (.ref x) name args) Q E s := by
  unfold callSpecial?
  refine wpAny_bind (wpAny_bind (I.type.here ((PySem.W.looks_findIn X at_).here ?_)))
  refine wpAny_holding (wpAny_bind ((PySem.W.bind_fn X _ (beq_iff_eq.mp fn)).here ?_))
  exact wpAny_bind (wpAny_mono q (fun v s' o => wpAny_pure o) fun _ _ o => o)
end
section
variable {X : Cx} {n : Nat} {C f : Addr} {fd : FuncData} {ps : List Str} {sp : Sp}
def rLenO (C : Addr) (sp : Sp) : List V → Hp → VK → Prop := fun xs H Q => ∃ (a dx : Addr) (fs : List (Str × V)), xs = [.ref a] ∧ H a = some (.ins C dx fs) ∧ sp [.ref a] H (fun v H' => ∃ m : Nat, v = .int m ∧ m ≤ 1000 ∧ Q (.int m) H') (fun _ _ _ => False)
theorem run_len (F : FnOk X.prog X.w X.K X.mg X.base C8.CX0 n f fd ps sp) (hb : Binds X.K fd ps []) {A : Around} (hr : Room n A) (same : A.frames = X.A.frames) {pins : List (Addr × Obj)} {s : Shared} {σ : L2.St} {H : Hp} {x : V} {u : Value} (I : Inv X pins σ H s) (rx : RelV x u)
    {Q : VK} (q : sp [x] H Q (fun _ _ _ => False)) : wpAny (model X.prog X.w) A (call (.ref f) [u]) (EP X pins σ Q) X.xe s := by
  have e0 : Env0 X.prog X.w X.K X.mg X.base A X.stack s H :=
    ⟨by rw [same]; exact I.env0.frames, I.env0.mod, I.env0.bs, I.env0.bsz, I.env0.funs, I.env0.frf, I.env0.hok, I.env0.bare⟩
  have one : Vals [x] [u] := .cons rx .nil
  have len := F.len _ _ _ _ q
  have bd : BindsTo s fd ⟨[u], []⟩ (ps.zip [u]) := by
    have z := hb s [u] I.kIn (by simpa using len)
    simpa using z
  refine wpAny_call (codeAny_mono (F.run A X.stack s H ⟨[u], []⟩ [u] [x] Q _ hr e0 bd one q) fun r s' out => ?_)
  match r, out with
  | .ok (.ret z), out => exact I.after out
  | .error er, out => exact C8.pass0 (E := fun _ _ _ => False) pins σ H s er s' I out
theorem call_lenO (F : FnOk X.prog X.w X.K X.mg X.base C8.CX0 n f fd ps sp) (o : OwnLen X.K C f) (hb : Binds X.K fd ps []) (hr : Room (n + 1) X.A) : CallR X (.builtin "len") (rLenO C sp) := by
  intro pins s σ H xs us Q I r h
  obtain ⟨a, dx, fs, rfl, ha, q⟩ := h
  obtain ⟨u, rfl, rx⟩ := vals1 r
  have rx' := rx
  cases rx
  obtain ⟨mA, J, _⟩ := ins_get I.hok ha
  obtain ⟨od, J, _⟩ := J.look
  refine Calls.call_function_entry kind_len plain_len entry_len (args_len1 _) ?_
  unfold Builtin.«len»
  refine wpAny_bind (m := oneArg "len" _) (wpAny_pure ?_)
  refine wpAny_bind (m := callSpecial? (.ref a) (Str.ofString "__len__")) (own_special I.kIn J o.ln o.fn ?_)
  refine wpAny_mono (run_len F hb hr.in1 rfl I rx' q) (fun z s' w => ?_) fun _ _ z => z
  obtain ⟨z', H', I', rz, m, rfl, hm, q'⟩ := w
  obtain ⟨t, rfl⟩ := rz
  refine wpAny_bind (wpAny_holding (wpAny_pure ?_))
  refine wpAny_bind (wpAny_letGo ?_)
  show wpAny _ _ (if ((m : Nat) : Int) < 0 then _ else _) _ _ _
  rw [if_neg (by omega)]
  show wpAny _ _ (if ((m : Nat) : Int) ≥ 2 ^ 63 then _ else _) _ _ _
  rw [if_neg (by omega)]
  refine wpAny_bind (wpAny_mkInt (wpAny_pure ⟨_, rfl, .int m, H', I'.tok _, ⟨_, rfl⟩, q'⟩))
end
end KN

set_option Elab.async false
set_option linter.all false
set_option maxRecDepth 100000
set_option maxHeartbeats 4000000
namespace KN
open PySem L2
/-! Data of texts and nodes; all nodes of a tree in their order. -/
theorem eqv_self {d : PyData} (h : okD d = true) : PyData.eqv d d = true := (eqv_iff h h).mpr rfl
theorem dp_strs {K : PySem.W.Frag} {H : Hp} : ∀ ss : List Str, DpAll K H (ss.map V.str) (ss.map PyData.str)
  | [] => .nil
  | z :: ss => .cons (.str z) (dp_strs ss)
theorem in_strs (ss : List Str) (z : Str) : (ss.map PyData.str).any (fun x => PyData.eqv x (.str z)) = decide (z ∈ ss) := by
  rw [List.any_map]
  by_cases h : z ∈ ss
  · rw [decide_eq_true h]
    exact List.any_eq_true.mpr ⟨z, h, by simp [PyData.eqv]⟩
  · rw [decide_eq_false h]
    refine List.any_eq_false.mpr fun x hx => ?_
    simp only [Function.comp, PyData.eqv, Bool.not_eq_true]
    exact beq_eq_false_iff_ne.mpr fun e => h (by rw [← e]; exact hx)
theorem okDs_strs : ∀ {ss : List Str}, (∀ z ∈ ss, IsW z) → okDs (ss.map PyData.str) = true
  | [], _ => rfl
  | z :: ss, h => by
    have := strOk_w (h z List.mem_cons_self)
    have := okDs_strs fun x hx => h x (List.mem_cons_of_mem z hx)
    simp [okDs, okD, *]
theorem depth_strs : ∀ ss : List Str, PyData.depthAll (ss.map PyData.str) ≤ 1
  | [] => Nat.zero_le _
  | z :: ss => by
    have := depth_strs ss
    simp only [List.map_cons, PyData.depthAll, PyData.depth]; omega
theorem shaped_strs {ss : List Str} (h : ∀ z ∈ ss, IsW z) : SeqAt.shaped (.list (ss.map PyData.str)) = true :=
  shaped_of (by simpa [okD] using okDs_strs h) (by have := depth_strs ss; simp only [PyData.depth]; omega)
theorem shaped_str {z : Str} (h : IsW z) : SeqAt.shaped (.str z) = true := shaped_of (by simp [okD, strOk_w h]) (by simp [PyData.depth])
theorem nds_dp {K : PySem.W.Frag} {H : Hp} : ∀ {ys : List (Addr × Nd)}, (∀ y ∈ ys, NdA H y.1 y.2) → DpAll K H (ys.map fun y => V.ref y.1) (ys.map fun y => nD y.2)
  | [], _ => .nil
  | y :: ys, h => .cons (Tp.nd (h y List.mem_cons_self)).d (nds_dp fun u hu => h u (List.mem_cons_of_mem _ hu))
theorem okDs_nds : ∀ {ns : List Nd}, (∀ n ∈ ns, NdOk n) → okDs (ns.map nD) = true
  | [], _ => rfl
  | n :: ns, h => by
    have h1 := okD_n (h n List.mem_cons_self)
    have h2 := okDs_nds fun x hx => h x (List.mem_cons_of_mem n hx)
    simp [okDs, h1, h2]
theorem sh_nds {ns : List Nd} (h : ∀ n ∈ ns, NdOk n) : SeqAt.shaped (.list (ns.map nD)) = true := by
  have : ∀ l : List Nd, PyData.depthAll (l.map nD) ≤ 2 := fun l => by
    induction l with
    | nil => simp [PyData.depthAll]
    | cons y ys ih => simp only [List.map_cons, PyData.depthAll, nD, PyData.depth] at ih ⊢; omega
  exact shaped_of (by simpa [okD] using okDs_nds h) (by have := this ns; simp only [PyData.depth]; omega)
theorem in_nds {ns : List Nd} {n : Nd} (h : ∀ n ∈ ns, NdOk n) (hn : NdOk n) : (ns.map nD).any (fun x => PyData.eqv x (nD n)) = decide (n ∈ ns) := by
  rw [List.any_map]
  by_cases q : n ∈ ns
  · rw [decide_eq_true q]
    exact List.any_eq_true.mpr ⟨n, q, eqv_self (okD_n hn)⟩
  · rw [decide_eq_false q]
    refine List.any_eq_false.mpr fun x hx e => q ?_
    have e' : PyData.eqv (nD x) (nD n) = true := e
    rw [eqv_dec (p := x = n) (okD_n (h x hx)) (okD_n hn) ⟨fun h => nD_inj h, fun h => by rw [h]⟩] at e'
    rw [← of_decide_eq_true e']; exact hx
theorem paired_l {α β : Type} {F : α → β → Prop} {xs : List α} {ys : List β} (h : Paired F xs ys) {x : α} (hx : x ∈ xs) : ∃ y ∈ ys, F x y := by
  induction h with
  | nil => cases hx
  | cons f _ ih =>
    rcases List.mem_cons.mp hx with e | hx
    · exact ⟨_, List.mem_cons_self, by rw [e]; exact f⟩
    · obtain ⟨y, h1, h2⟩ := ih hx; exact ⟨y, List.mem_cons_of_mem _ h1, h2⟩
theorem paired_r {α β : Type} {F : α → β → Prop} {xs : List α} {ys : List β} (h : Paired F xs ys) {y : β} (hy : y ∈ ys) : ∃ x ∈ xs, F x y := by
  induction h with
  | nil => cases hy
  | cons f _ ih =>
    rcases List.mem_cons.mp hy with e | hy
    · exact ⟨_, List.mem_cons_self, by rw [e]; exact f⟩
    · obtain ⟨x, h1, h2⟩ := ih hy; exact ⟨x, List.mem_cons_of_mem _ h1, h2⟩
theorem paired_sum {α β γ : Type} {F : α × List γ → β → Prop} {g : β → Nat} {xs : List (α × List γ)} {ys : List β} (h : Paired F xs ys) (le : ∀ x y, F x y → x.2.length ≤ g y) : (xs.flatMap (·.2)).length ≤ (ys.map g).sum := by
  induction h with
  | nil => exact Nat.le_refl _
  | cons f _ ih =>
    rw [List.flatMap_cons, List.length_append, List.map_cons, List.sum_cons]
    have := le _ _ f
    omega
theorem flat_strs : ∀ Ls : List (Addr × List Str), (Ls.map fun x => (x.1, x.2.map V.str)).flatMap (·.2) = (Ls.flatMap (·.2)).map V.str
  | [] => rfl
  | x :: Ls => by rw [List.map_cons, List.flatMap_cons, List.flatMap_cons, List.map_append, flat_strs Ls]
theorem nds_dp2 {K : PySem.W.Frag} {H : Hp} {ys : List (Addr × Nd)} {ns : List Nd} (h : ∀ y ∈ ys, NdA H y.1 y.2) (e : ys.map Prod.snd = ns) : DpAll K H (ys.map fun y => V.ref y.1) (ns.map nD) := by
  rw [← e, List.map_map]; exact nds_dp h
def spNodesX (C : Addr) : Sp := fun vs H Q _ => ∃ (t : Addr) (pl : List (Str × Nd)) (L : List (Nd × Option Nd)), vs = [.ref t, .non] ∧ TreeAt C H t pl L ∧ ∀ H' l (ys : List (Addr × Nd)), Same H H' → H l = none → H' l = some (.lst (ys.map fun y => V.ref y.1)) → ys.map Prod.snd = srtN (L.map (·.1)) → ys.length ≤ 360 → (∀ y ∈ ys, NdA H' y.1 y.2) → Q (.ref l) H'
section
variable {P : Program} {w : World} {K : PySem.W.Frag} {mg : Str → Option Value} {base : Heap} {C : Addr}
theorem ok_Tree_nodesX {f : Addr} {fd : FuncData} {kws : List (Str × V)} (F : FunD K "nodes" "Tree.nodes" (defArgs s_Tree_nodes) (defBody s_Tree_nodes) (defScope s_Tree_nodes) [] kws f fd) (T : TrT K C) (m_sorted : mg "sorted" = none) : FnOk P w K mg base CX0 5 f fd ["self", "rank"] (spNodesX C) := by
  refine F.ok sc_Tree_nodes (fun vs H Q E h => ?_) (fun cdv A outer s H vs Q E hr h => ?_)
  · obtain ⟨t, pl, L, rfl, _⟩ := h; rfl
  · obtain ⟨t, pl, L, rfl, ⟨dx, kk, l, kvs, lvs, B⟩, k⟩ := h
    refine cut_nox ⟨_, (pss_one (ps_ret (pe_lc (own := [("node", 2)]) (g := gName 2) rfl sc_Tree_nodes.nd (pi_list (pe_callB (cr_sortedN2 rfl hr.units) (by rfl) m_sorted (by decide +kernel) (pa_cons (pe_fld (pv 0) rfl) pa_nil))) (blkOk_by (own := [("node", 2)]) (N := ["self", "rank", "node"]) (sc := defScope s_Tree_nodes) (by decide +kernel)) (fun _ _ _ _ _ => pg_name (i := 2) sc_Tree_nodes.nd rfl (Or.inl rfl)) (fun _ _ _ _ _ => (pts_one (PW.pt (pw_or (pt_cmpR op_isN (pv 1) pe_non (nomark _)) (pw_or1 (pt_cmpR op_eq (pe_ix (ix_tupK K) (pv 2) pe_int (fun _ _ => rfl)) (pv 1) (nomark _))))))) (fun _ _ _ _ _ => (pv 2))))), ?_⟩
    refine ⟨_, rfl, t, C, dx, _, _, rfl, B.ob, T.cl, T.nL, tf_l _ _, l, lvs, L.map (·.1), rfl, Rd.of B.ly, pa_keys B.lr, by rw [List.length_map]; have := B.ok.lln; omega, fun ys p pm up hy hp => ?_⟩
    have sp := Same.new (o := .lst (ys.map fun y => V.ref y.1)) hp
    have es : ys.map Prod.snd = srtN (L.map (·.1)) := srtN_of pm up
    have hlen : ys.length ≤ 360 := by have := pm.length_eq; rw [List.length_map, List.length_map] at this; have := B.ok.lln; omega
    refine ⟨p, rfl, ⟨_, SqL.of upd_same⟩, fun D hD => ?_⟩
    refine lc_list (K := K) (a := p) (xs := ys.map fun y => V.ref y.1) (fun i H' => Same (upd H p (.lst (ys.map fun y => V.ref y.1))) H' ∧ H' D = some (.lst ((ys.take i).map fun y => V.ref y.1)))
      ⟨Same.new hD, upd_same⟩ (fun i H' _ q => SqL.of (q.1 _ _ upd_same)) ?_ ?_
    · rintro i x H2 hi ⟨s2, e2⟩
      rw [List.getElem?_map] at hi
      obtain ⟨y, hy1, rfl⟩ : ∃ y, ys[i]? = some y ∧ x = .ref y.1 := by
        cases e : ys[i]? with
        | none => rw [e] at hi; cases hi
        | some y => rw [e] at hi; exact ⟨y, rfl, (Option.some.inj hi).symm⟩
      have hlt : i < ys.length := (List.getElem?_eq_some_iff.mp hy1).1
      refine ⟨rfl, _, rfl, rfl, _, rfl, iteT (iteT ?_)⟩
      refine ⟨_, rfl, _, e2, by rw [List.length_map, List.length_take]; exact small1000 (by omega), fun b o e => ?_, ?_⟩
      · rw [upd_ne (ne_of_none e hD)]; exact s2 _ _ e
      · rw [upd_same, List.take_add_one, hy1, List.map_append]; rfl
    · rintro H2 ⟨s2, e2⟩
      rw [List.length_map, List.take_length] at e2
      exact k H2 D ys (sp.trans s2) (sp.free hD) e2 es hlen fun y hy' => s2 _ _ (sp _ _ (hy y hy'))
end
end KN


set_option Elab.async false
set_option linter.all false
set_option maxRecDepth 100000
set_option maxHeartbeats 4000000
namespace KN
open PySem L2
/-! _law_coheres. -/
structure LenAt (P : Program) (w : World) (K : PySem.W.Frag) (mg : Str → Option Value) (base : Heap) (C : Addr) : Prop where
  ex : ∃ (f : Addr) (fd : FuncData), FnOk P w K mg base C8.CX0 1 f fd ["self"] (spTLen C) ∧ OwnLen K C f ∧ Binds K fd ["self"] []
def spCoh (C : Addr) : Sp := fun vs H Q _ => ∃ (t : Addr) (pl : List (Str × Nd)) (L : List (Nd × Option Nd)), vs = [.ref t] ∧ TreeAt C H t pl L ∧ Grown pl L ∧ ∀ H', Same H H' → Q (.bl true) H'
theorem dp_ints {K : PySem.W.Frag} {H : Hp} : ∀ ns : List Int, DpAll K H (ns.map V.int) (ns.map PyData.int)
  | [] => .nil
  | n :: ns => .cons (.int n) (dp_ints ns)
theorem okDs_ints : ∀ ns : List Int, okDs (ns.map PyData.int) = true
  | [] => rfl
  | n :: ns => by
    have := okDs_ints ns
    simp [okDs, okD, this]
theorem shaped_intsL (ns : List Int) : SeqAt.shaped (.list (ns.map PyData.int)) = true := by
  have : ∀ l : List Int, PyData.depthAll (l.map PyData.int) ≤ 1 := fun l => by
    induction l with
    | nil => simp [PyData.depthAll]
    | cons y ys ih => simp only [List.map_cons, PyData.depthAll, PyData.depth] at ih ⊢; omega
  exact shaped_of (by simpa [okD] using okDs_ints ns) (by have := this ns; simp only [PyData.depth]; omega)
theorem strs_nil {ss : List Str} (h : ∀ z ∈ ss, IsW z) (ne : ss ≠ []) : PyData.eqv (.list (ss.map PyData.str)) (.list []) = false := by
  rw [eqv_dec (p := False) (by simpa [okD] using okDs_strs h) (by decide +kernel)]
  · rfl
  · refine ⟨fun e => ne ?_, fun h => h.elim⟩
    cases ss with
    | nil => rfl
    | cons _ _ => cases e
theorem paired_flat {F : Addr × List Str → Addr × Nd → Prop} {g : Nd → List Str} {Ls : List (Addr × List Str)} {zs : List (Addr × Nd)} (h : Paired F Ls zs) (e : ∀ x z, F x z → x.2 = g z.2) : Ls.flatMap (·.2) = (zs.map Prod.snd).flatMap g := by
  induction h with
  | nil => rfl
  | cons f _ ih => rw [List.flatMap_cons, List.map_cons, List.flatMap_cons, ih, e _ _ f]
section
variable {P : Program} {w : World} {K : PySem.W.Frag} {mg : Str → Option Value} {base : Heap} {C : Addr}
theorem sc__law_coheres : FnScope ["_law_tree", "_law_node", "_law_parts", "_law_over", "_law_grade", "_law_sheet", "_law_line_here", "_law_one"] ["_law_tree"] (defScope s__law_coheres) := ⟨rfl, rfl, rfl, by decide +kernel, rfl, by decide +kernel, by decide +kernel⟩
theorem ok__law_coheres {f : Addr} {fd : FuncData} (F : Fun K "_law_coheres" "_law_coheres" s__law_coheres f fd) (LA : LenAt P w K mg base C) (m_sum : mg "sum" = none) (m_set : mg "set" = none) (m_sorted : mg "sorted" = none) (m_range : mg "range" = none) (m_len : mg "len" = none)
    (c_Tree_nodes : C8.Met P w K mg base 5 C "nodes" (spNodesX C) [.non]) (c_Tree_sheets : C8.Met P w K mg base 5 C "sheets" (spSheetsR C) []) (c_Tree_sheets0 : C8.Met P w K mg base 5 C "sheets" (spSheets0 C) [V.non]) (c_Tree_parent : C8.Met P w K mg base 4 C "parent" (spParent C) []) (c_Tree_above : C8.Met P w K mg base 4 C "above" (spAbove C) []) (c_Tree_inner : C8.Met P w K mg base 4 C "inner" (spInner C) []) (c_Tree_kind_of : C8.Met P w K mg base 1 C "kind_of" (spKindOf C) []) (c__law_line : C8.Cal P w K mg base 5 "_law_line" (spLine C) []) : FnOk P w K mg base CX0 6 f fd ["_law_tree"] (spCoh C) := by
  refine F.ok sc__law_coheres (fun vs H Q E h => ?_) (fun cdv A outer s H vs Q E hr h => ?_)
  · obtain ⟨t, pl, L, rfl, _⟩ := h; rfl
  · obtain ⟨t, pl, L, rfl, TA, G, k⟩ := h
    have hu := hu_of hr
    obtain ⟨fL, fdL, FL, OL, bL⟩ := LA.ex
    refine ⟨_, (pss_cons (ps_for PassesOwn.never rfl (pi_list (C8.pe_mt0 c_Tree_nodes hr (by decide) (pv 0))) (pg_name (i := 1) sc__law_coheres.nd rfl (Or.inl rfl))
      (pss_cons (ps_set (i := 2) sc__law_coheres.nd rfl (Or.inl rfl) (pe_callB (cr_sumLL rfl) (by rfl) m_sum (by decide +kernel) (pa_cons (pe_lc (own := [("_law_one", 7)]) (g := gName 7) (tt := tYes) rfl sc__law_coheres.nd (pi_list (C8.pe_mt c_Tree_inner hr (by decide) (pv 0) (pa_cons (pv 1) pa_nil))) (blkOk_by (own := [("_law_one", 7)]) (N := ["_law_tree", "_law_node", "_law_parts", "_law_over", "_law_grade", "_law_sheet", "_law_line_here", "_law_one"]) (sc := defScope s__law_coheres) (by decide +kernel)) (fun _ _ _ _ _ => pg_name (i := 7) sc__law_coheres.nd rfl (Or.inl rfl)) (fun _ _ _ _ _ => pts_nil) (fun _ _ _ _ _ => (C8.pe_mt c_Tree_sheets hr (by decide) (pv 0) (pa_cons (pv 7) pa_nil)))) (pa_cons (pe_lst pa_nil) pa_nil))))
      (pss_cons (ps_if (PW.pt (pw_or (pt_cmpR (op_eqD hr.units) (C8.pe_mt c_Tree_sheets hr (by decide) (pv 0) (pa_cons (pv 1) pa_nil)) (pe_lst pa_nil) (nomark _)) (pw_or1 (PW.pt (pw_and (pt_cmpR op_gt (pe_ix ix_tup (pv 1) pe_int (fun _ _ => rfl)) pe_int (nomark _)) (pw_and1 (pt_cmpR (op_neD hr.units) (pe_callB cr_sortedS (by rfl) m_sorted (by decide +kernel) (pa_cons (pv 2) pa_nil)) (C8.pe_mt c_Tree_sheets hr (by decide) (pv 0) (pa_cons (pv 1) pa_nil)) (nomark _)))))))) (pss_one (ps_ret pe_bl)) pss_nil)
      (pss_cons (ps_set (i := 3) sc__law_coheres.nd rfl (Or.inl rfl) (C8.pe_mt c_Tree_parent hr (by decide) (pv 0) (pa_cons (pv 1) pa_nil)))
      (pss_cons (ps_if (PW.pt (pw_or (PW.pt (pw_and (pt_cmpR op_eq (pe_ix ix_tup (pv 1) pe_int (fun _ _ => rfl)) pe_int (nomark _)) (pw_and1 (pt_cmpR (op_neD hr.units) (C8.pe_mt c_Tree_inner hr (by decide) (pv 0) (pa_cons (pv 1) pa_nil)) (pe_lst pa_nil) (nomark _))))) (pw_or1 (PW.pt (pw_and (pt_cmpR op_notN (pv 3) pe_non (nomark _)) (pw_and1 (pt_cmpR (op_notInD (u65 hr)) (pv 1) (C8.pe_mt c_Tree_inner hr (by decide) (pv 0) (pa_cons (pv 3) pa_nil)) rfl))))))) (pss_one (ps_ret pe_bl)) pss_nil)
      (pss_one (ps_for PassesOwn.never rfl (pi_range2 rfl m_range (pa_cons (pe_op op_add (pe_ix ix_tup (pv 1) pe_int (fun _ _ => rfl)) pe_int) (pa_cons pe_int pa_nil))) (pg_name (i := 4) sc__law_coheres.nd rfl (Or.inl rfl))
      (pss_one (ps_if (pt_cmpR (op_neD hr.units) (C8.pe_mt c_Tree_above hr (by decide) (pv 0) (pa_cons (pv 1) (pa_cons (pv 4) pa_nil))) (pe_ifExp (pt_cmpR op_isN (pv 3) pe_non (nomark _)) pe_non (C8.pe_mt c_Tree_above hr (by decide) (pv 0) (pa_cons (pv 3) (pa_cons (pv 4) pa_nil)))) (nomark _)) (pss_one (ps_ret pe_bl)) pss_nil)))))))))
      (pss_cons (ps_for PassesOwn.never rfl (pi_list (C8.pe_mt0 c_Tree_sheets0 hr (by decide) (pv 0))) (pg_name (i := 5) sc__law_coheres.nd rfl (Or.inr rfl))
      (pss_cons (ps_set (i := 6) sc__law_coheres.nd rfl (Or.inl rfl) (C8.pe_c c__law_line hr (by decide) rfl (pa_cons (pv 0) (pa_cons (C8.pe_mt c_Tree_kind_of hr (by decide) (pv 0) (pa_cons (pv 5) pa_nil)) pa_nil))))
      (pss_cons (ps_if (pt_cmpR (op_neD hr.units) (pe_lc (own := [("_law_node", 1)]) (g := gName 1) rfl sc__law_coheres.nd (pi_list (C8.pe_mt0 c_Tree_nodes hr (by decide) (pv 0))) (blkOk_by (own := [("_law_node", 1)]) (N := ["_law_tree", "_law_node", "_law_parts", "_law_over", "_law_grade", "_law_sheet", "_law_line_here", "_law_one"]) (sc := defScope s__law_coheres) (by decide +kernel)) (fun _ _ _ _ _ => pg_name (i := 1) sc__law_coheres.nd rfl (Or.inl rfl)) (fun _ _ _ _ _ => (pts_one (pt_cmpR (op_inDK K (u65 hr)) (pv 5) (C8.pe_mt c_Tree_sheets hr (by decide) (pv 0) (pa_cons (pv 1) pa_nil)) rfl))) (fun _ _ _ _ _ => (pv 1))) (pv 6) (nomark _)) (pss_one (ps_ret pe_bl)) pss_nil)
      (pss_one (ps_if (pt_cmpR (op_neD hr.units) (pe_lc (own := [("_law_node", 1)]) (g := gName 1) (tt := tYes) rfl sc__law_coheres.nd (pi_list (pv 6)) (blkOk_by (own := [("_law_node", 1)]) (N := ["_law_tree", "_law_node", "_law_parts", "_law_over", "_law_grade", "_law_sheet", "_law_line_here", "_law_one"]) (sc := defScope s__law_coheres) (by decide +kernel)) (fun _ _ _ _ _ => pg_name (i := 1) sc__law_coheres.nd rfl (Or.inl rfl)) (fun _ _ _ _ _ => pts_nil) (fun _ _ _ _ _ => (pe_ix (ix_tupK K) (pv 1) pe_int (fun _ _ => rfl)))) (pe_sortedSetI rfl rfl m_sorted rfl m_set (pe_lc (own := [("_law_node", 1)]) (g := gName 1) (tt := tYes) rfl sc__law_coheres.nd (pi_list (pv 6)) (blkOk_by (own := [("_law_node", 1)]) (N := ["_law_tree", "_law_node", "_law_parts", "_law_over", "_law_grade", "_law_sheet", "_law_line_here", "_law_one"]) (sc := defScope s__law_coheres) (by decide +kernel)) (fun _ _ _ _ _ => pg_name (i := 1) sc__law_coheres.nd rfl (Or.inl rfl)) (fun _ _ _ _ _ => pts_nil) (fun _ _ _ _ _ => (pe_ix (ix_tupK K) (pv 1) pe_int (fun _ _ => rfl))))) (nomark _)) (pss_one (ps_ret pe_bl)) pss_nil)))))
      (pss_one (ps_ret (pe_cmpR op_eq (pe_callB (call_lenO FL OL bL (hr.mono (by decide))) (by rfl) m_len (by decide +kernel) (pa_cons (pv 0) pa_nil)) (pe_callB call_len_seq (by rfl) m_len (by decide +kernel) (pa_cons (C8.pe_mt0 c_Tree_sheets0 hr (by decide) (pv 0)) pa_nil)) (nomark _)))))), ?_⟩
    have shl : ∀ n, (shR pl L n).length ≤ 60 := fun n => Nat.le_trans (List.length_filter_le _ _) (by rw [(sortS_perm _).length_eq, List.length_map]; exact G.ok.pln)
    have shw : ∀ n, ∀ z ∈ shR pl L n, IsW z := fun n z hz => by
      obtain ⟨k, h1, _⟩ := (onL_iff G.ok).mp (mem_shR.mp hz)
      exact G.ok.pw _ ((kO_iff G.ok.pnd).mp h1)
    have nok : ∀ n ∈ L.map (·.1), NdOk n := fun n h => G.ok.nd_ok h
    obtain ⟨dx, kk, l, kvs, lvs, B⟩ := id TA
    refine ⟨_, rfl, t, dx, _, rfl, B.ob, tf_no _ _ (by decide +kernel) (by decide +kernel), t, pl, L, rfl, TA, fun H1 N ys s1 hN0 hN eys lys hya => ?_⟩
    have ymem : ∀ y ∈ ys, y.2 ∈ L.map (·.1) := fun y hy => (srtN_perm _).mem_iff.mp (by rw [← eys]; exact List.mem_map.mpr ⟨y, hy, rfl⟩)
    refine ⟨N, rfl, ⟨_, SqL.of hN⟩, ?_⟩
    refine for_list (K := K) (a := N) (xs := ys.map fun y => V.ref y.1) (fun i σ' H' => ∃ (v1 v2 v3 v4 v5 v6 v7 : Option V), σ' = [some (.ref t), v1, v2, v3, v4, v5, v6, v7] ∧ Same H1 H')
      ⟨none, none, none, none, none, none, none, rfl, Same.refl _⟩ (fun i σ' H' _ ⟨_, _, _, _, _, _, _, _, s2⟩ => SqL.of (s2 _ _ hN)) ?_ ?_
    · rintro i x σ2 H2 hi ⟨v1, v2, v3, v4, v5, v6, v7, rfl, s2⟩
      rw [List.getElem?_map] at hi
      obtain ⟨y, hy1, rfl⟩ : ∃ y, ys[i]? = some y ∧ x = .ref y.1 := by
        cases e : ys[i]? with
        | none => rw [e] at hi; cases hi
        | some y => rw [e] at hi; exact ⟨y, rfl, (Option.some.inj hi).symm⟩
      have hym := List.mem_of_getElem? hy1
      have hyL := ymem y hym
      have hyk := nok _ hyL
      have T2 := TA.keep (s1.trans s2)
      have hy2 : NdA H2 y.1 y.2 := s2 _ _ (hya y hym)
      obtain ⟨dx2, _, _, _, _, B2⟩ := id T2
      -- parts
      refine ⟨_, rfl, t, dx2, _, rfl, B2.ob, tf_no _ _ (by decide +kernel) (by decide +kernel), _, rfl, t, y.1, y.2, pl, L, rfl, T2, hy2, hyL, fun H3 I zs s3 hI0 hI ezs lzs hza => ?_⟩
      have zmem : ∀ z ∈ zs, z.2 ∈ L.map (·.1) := fun z hz => (mem_inN.mp (by rw [← ezs]; exact List.mem_map.mpr ⟨z, hz, rfl⟩)).1
      refine ⟨I, rfl, ⟨_, SqL.of hI⟩, fun D hD => ?_⟩
      refine lc_list (K := K) (a := I) (xs := zs.map fun z => V.ref z.1) (fun j H' => Same H3 H' ∧ ∃ Ls : List (Addr × List Str), H' D = some (.lst (Ls.map fun x => V.ref x.1)) ∧ Paired (fun x (z : Addr × Nd) => x.1 ≠ D ∧ H' x.1 = some (.lst (x.2.map V.str)) ∧ x.2 = shR pl L z.2) Ls (zs.take j))
        ⟨Same.new hD, [], upd_same, .nil⟩ (fun j H' _ q => SqL.of (q.1 _ _ hI)) ?_ ?_
      · rintro j x H4 hj ⟨s4, Ls, e4, pr⟩
        rw [List.getElem?_map] at hj
        obtain ⟨z, hz1, rfl⟩ : ∃ z, zs[j]? = some z ∧ x = .ref z.1 := by
          cases e : zs[j]? with
          | none => rw [e] at hj; cases hj
          | some z => rw [e] at hj; exact ⟨z, rfl, (Option.some.inj hj).symm⟩
        have hzm := List.mem_of_getElem? hz1
        have T4 := (T2.keep s3).keep s4
        obtain ⟨dx4, _, _, _, _, B4⟩ := id T4
        refine ⟨rfl, _, rfl, t, dx4, _, rfl, B4.ob, tf_no _ _ (by decide +kernel) (by decide +kernel), _, rfl, t, z.1, z.2, pl, L, rfl, T4, s4 _ _ (hza z hzm), zmem z hzm, fun H5 S s5 S0 hS => ?_⟩
        have e45 := s5 _ _ e4
        have nSD : S ≠ D := fun q => by rw [q, e4] at S0; cases S0
        have lLs : Ls.length ≤ j := by have := Paired.length pr; rw [List.length_take] at this; omega
        have hjl : j < zs.length := (List.getElem?_eq_some_iff.mp hz1).1
        refine ⟨_, e45, by rw [List.length_map]; exact small1000 (by omega), fun b o q => ?_, Ls ++ [(S, shR pl L z.2)], by rw [upd_same, List.map_append]; rfl, ?_⟩
        · rw [upd_ne (ne_of_none q hD)]; exact s5 _ _ (s4 _ _ q)
        · rw [List.take_add_one, hz1]
          refine Paired.snoc (_root_.L2.Paired.mapP pr fun x u f => ?_) ?_
          · exact ⟨f.1, by rw [upd_ne f.1]; exact s5 _ _ f.2.1, f.2.2⟩
          · exact ⟨nSD, (upd_ne nSD).trans hS, rfl⟩
      · rintro H4 ⟨s4, Ls, e4, pr⟩
        rw [List.length_map, List.take_length] at pr
        refine ⟨Nat.zero_le _, fun Z hZ => ?_⟩
        have sZ := Same.new (o := .lst []) hZ
        have flat : Ls.flatMap (·.2) = (inN L y.2).flatMap (shR pl L) := by rw [← ezs]; exact paired_flat pr fun x z f => f.2.2
        have lflat : (Ls.flatMap (·.2)).length ≤ 100000 := by
          have h1 := paired_sum (g := fun _ : Addr × Nd => 60) pr fun x u f => by rw [f.2.2]; exact shl _
          have h2 : ∀ l : List (Addr × Nd), (l.map fun _ => 60).sum = 60 * l.length := fun l => by
            induction l with
            | nil => rfl
            | cons _ _ ih => rw [List.map_cons, List.sum_cons, ih, List.length_cons]; omega
          rw [h2] at h1; omega
        refine ⟨D, Z, Ls.map fun x => (x.1, x.2.map V.str), rfl, by rw [List.map_map]; exact sZ _ _ e4, upd_same, fun x hx => ?_, by rw [flat_strs, List.length_map]; exact lflat, fun T H5 s5 hT => ?_⟩
        · obtain ⟨u, hu', rfl⟩ := List.mem_map.mp hx
          obtain ⟨z, _, f⟩ := paired_l pr hu'
          exact sZ _ _ f.2.1
        rw [flat_strs, flat] at hT
        have s05 := ((((s1.trans s2).trans s3).trans s4).trans sZ).trans s5
        have s15 := (((s2.trans s3).trans s4).trans sZ).trans s5
        have hy5 : NdA H5 y.1 y.2 := ((((s3.trans s4).trans sZ).trans s5)) _ _ hy2
        have T5 := TA.keep s05
        clear e4 pr flat lflat sZ hZ
        obtain ⟨dx5, _, _, _, _, B5⟩ := id T5
        have sh0 : shR pl L y.2 ≠ [] := G.some_sh hyL
        refine ⟨_, rfl, t, dx5, _, rfl, B5.ob, tf_no _ _ (by decide +kernel) (by decide +kernel), _, rfl, t, y.1, y.2, pl, L, rfl, T5, hy5, hyL, fun H6 S s6 S0 hS => ⟨Nat.zero_le _, fun l0 hl0 => ?_⟩⟩
        have s60 := Same.new (o := .lst []) hl0
        refine ⟨.list ((shR pl L y.2).map .str), .list [], .lst (SqL.of (s60 _ _ hS)) (dp_strs _), .lst (SqL.of upd_same) .nil, shaped_strs (shw _), by decide +kernel, _, rfl, ?_⟩
        rw [strs_nil (shw _) sh0]
        refine iteF ?_
        have s56 := s6.trans s60
        have hT6 := s56 _ _ hT
        have hy6 := s56 _ _ hy5
        generalize upd H6 l0 (.lst []) = H7 at s56 hT6 hy6 ⊢
        clear s60 hS S0
        have T7 := T5.keep s56
        refine ⟨_, rfl, _, _, _, _, rfl, rfl, SqT.of hy6, at_of (j := 0) rfl rfl, _, _, rfl, rfl, ?_⟩
        by_cases q0 : 0 < y.2.1
        case' pos =>
          refine ⟨_, rfl, ?_⟩
          rw [show ∀ I : Decidable (0 < y.2.1), @decide _ I = true from fun I => @decide_eq_true _ I q0]
          have pin := G.parts_in q0
          have lin : ((inN L y.2).flatMap (shR pl L)).length ≤ 60 := by rw [← (sortS_perm ((inN L y.2).flatMap (shR pl L))).length_eq, pin]; exact shl _
          refine iteT ⟨_, rfl, T, _, rfl, SqL.of hT6, by omega, fun us p pm so hp => ?_⟩
          have eus : us = shR pl L y.2 := by rw [sortS_of pm (sup_of so)]; exact pin
          subst eus
          have sp := Same.new (o := .lst ((shR pl L y.2).map V.str)) hp
          have hp8 := upd_same (H := H7) (a := p) (o := .lst ((shR pl L y.2).map V.str))
          have T8 := T7.keep sp
          obtain ⟨dx8, _, _, _, _, B8⟩ := id T8
          refine ⟨_, rfl, t, dx8, _, rfl, B8.ob, tf_no _ _ (by decide +kernel) (by decide +kernel), _, rfl, t, y.1, y.2, pl, L, rfl, T8, sp _ _ hy6, hyL, fun H8 S2 s8 S20 hS2 => ?_⟩
          refine ⟨_, _, .lst (SqL.of (s8 _ _ hp8)) (dp_strs _), .lst (SqL.of hS2) (dp_strs _), shaped_strs (shw _), shaped_strs (shw _), _, rfl, ?_⟩
          rw [eqv_self (by simpa [okD] using okDs_strs (shw y.2))]
          refine iteF ?_
          have s7X := sp.trans s8
          clear pin lin pm so hp8 hS2 S20
        case' neg =>
          refine ⟨_, rfl, ?_⟩
          rw [show ∀ I : Decidable (0 < y.2.1), @decide _ I = false from fun I => @decide_eq_false _ I q0]
          refine iteF (iteF ?_)
          obtain ⟨HX, s7X, hHX⟩ : ∃ G, Same H7 G ∧ G = H7 := ⟨_, Same.refl _, rfl⟩
          rw [← hHX]
        case' pos => generalize hHX : H8 = HX at s7X ⊢
        all_goals
          clear hHX
          have hyX := s7X _ _ hy6
          have TX := T7.keep s7X
          have s0X := s05.trans (s56.trans s7X)
          obtain ⟨dxX, _, _, _, _, BX⟩ := id TX
          refine ⟨_, rfl, t, dxX, _, rfl, BX.ob, tf_no _ _ (by decide +kernel) (by decide +kernel), _, rfl, t, y.1, y.2, pl, L, rfl, TX, hyX, hyL, fun H9 vo s9 tv => ?_⟩
          have hy9 := s9 _ _ hyX
          have T9 := TX.keep s9
          obtain ⟨dx9, _, _, _, _, B9⟩ := id T9
          have s09 := s0X.trans s9
          clear hyX TX BX
          refine ⟨_, rfl, _, _, _, _, rfl, rfl, SqT.of hy9, at_of (j := 0) rfl rfl, rfl, ?_⟩
          by_cases r0 : y.2.1 = 0
          case' pos =>
            rw [show (decide (V.int y.2.1 = V.int 0)) = true by rw [r0]; rfl]
            refine ⟨_, rfl, iteT ?_⟩
            refine ⟨_, rfl, t, dx9, _, rfl, B9.ob, tf_no _ _ (by decide +kernel) (by decide +kernel), _, rfl, t, y.1, y.2, pl, L, rfl, T9, hy9, hyL, fun Ha I2 us sa I20 hI2 eus lus hua => ⟨Nat.zero_le _, fun l1 hl1 => ?_⟩⟩
            have sl1 := Same.new (o := .lst []) hl1
            have u0 : us = [] := List.map_eq_nil_iff.mp (eus.trans (G.inN0 r0))
            subst u0
            refine ⟨.list [], .list [], .lst (SqL.of (sl1 _ _ hI2)) .nil, .lst (SqL.of upd_same) .nil, by decide +kernel, by decide +kernel, _, rfl, ?_⟩
            rw [show PyData.eqv (.list []) (.list []) = true by decide +kernel]
            refine iteF ?_
            have s9Y := sa.trans sl1
            clear hI2 I20
          case' neg =>
            rw [show (decide (V.int y.2.1 = V.int 0)) = false from decide_eq_false fun z => r0 (by injection z)]
            refine ⟨_, rfl, iteF (iteF ?_)⟩
            obtain ⟨HY, s9Y, hHY⟩ : ∃ G, Same H9 G ∧ G = H9 := ⟨_, Same.refl _, rfl⟩
            rw [← hHY]
          case' pos => generalize hHY : upd Ha l1 (.lst []) = HY at s9Y ⊢
          all_goals
            clear hHY
            have tvY := tv.to (TK.of s9Y)
            have hyY := s9Y _ _ hy9
            have TY := T9.keep s9Y
            have s0Y := s09.trans s9Y
            obtain ⟨dxY, _, _, _, _, BY⟩ := id TY
            refine ⟨_, rfl, rfl, ?_⟩
            have zeq : (∃ x, par L y.2 = some x) ∨ par L y.2 = none := by
              cases par L y.2 with
              | none => exact .inr rfl
              | some x => exact .inl ⟨x, rfl⟩
            have tvY2 := tvY
            rcases zeq with ⟨x, hpar⟩ | hpar
            case' inl =>
              rw [hpar] at tvY2
              obtain ⟨ox, evo, hox⟩ := Tp.nd_inv tvY2
              have hxL := (rk_le G.ok hyL).2 x hpar
              refine ⟨_, rfl, ?_⟩
              rw [show (!decide (vo = V.non)) = true by rw [evo]; rfl]
              refine iteT ?_
              refine ⟨_, rfl, _, rfl, t, dxY, _, rfl, BY.ob, tf_no _ _ (by decide +kernel) (by decide +kernel), _, rfl, t, ox, x, pl, L, by rw [evo]; rfl, TY, hox, hxL, fun Hb I3 us sb I30 hI3 eus lus hub => ?_⟩
              have inok : ∀ n ∈ inN L x, NdOk n := fun n hn => nok n (mem_inN.mp hn).1
              refine ⟨_, _, (Tp.nd (sb _ _ hyY)).d, .lst (SqL.of hI3) (nds_dp2 hub eus), shaped_of (okD_n hyk) (by simp [nD, PyData.depth, PyData.depthAll]), sh_nds inok, _, rfl, ?_⟩
              rw [in_nds inok hyk, decide_eq_true (mem_inN.mpr ⟨hyL, hpar⟩)]
              refine iteF ?_
              have sYZ := sb
              clear hI3 I30 hub
            case' inr =>
              rw [hpar] at tvY2
              have evo : vo = V.non := by cases tvY2; rfl
              refine ⟨_, rfl, ?_⟩
              rw [show (!decide (vo = V.non)) = false by rw [evo]; rfl]
              refine iteF (iteF ?_)
              obtain ⟨HZ, sYZ, hHZ⟩ : ∃ G, Same HY G ∧ G = HY := ⟨_, Same.refl _, rfl⟩
              rw [← hHZ]
            case' inl => generalize hHZ : Hb = HZ at sYZ ⊢
            all_goals
              clear hHZ
              have tvZ := tvY.to (TK.of sYZ)
              have hyZ := sYZ _ _ hyY
              have TZ := TY.keep sYZ
              have s0Z := s0Y.trans sYZ
              refine ⟨_, rfl, _, _, _, _, rfl, rfl, SqT.of hyZ, at_of (j := 0) rfl rfl, _, _, rfl, rfl, ?_⟩
              have n0 : 0 ≤ y.2.1 := hyk.1
              have n5 : y.2.1 ≤ 5 := hyk.2.1
              refine ⟨_, _, rfl, ⟨by omega, by omega, by omega, by omega⟩, for_range (lo := y.2.1 + 1) (n := (6 - (y.2.1 + 1)).toNat) (fun _ σ' H' => ∃ (v4 v5 v6 v7 : Option V), σ' = [some (.ref t), some (.ref y.1), some (.ref T), some vo, v4, v5, v6, v7] ∧ Same HZ H')
                ⟨v4, v5, v6, v7, rfl, Same.refl _⟩ ?_ ?_⟩
              · rintro g σc Hc hg ⟨v4, v5, v6, v7, rfl, sc⟩
                have Tc := TZ.keep sc
                have hyc := sc _ _ hyZ
                have tvc := tvZ.to (TK.of sc)
                obtain ⟨dxc, _, _, _, _, Bc⟩ := id Tc
                refine ⟨_, rfl, t, dxc, _, rfl, Bc.ob, tf_no _ _ (by decide +kernel) (by decide +kernel), _, rfl, _, rfl, t, y.1, y.2, y.2.1 + 1 + (g : Int), pl, L, rfl, Tc, hyc, hyL, fun Hd va sd ta => ?_⟩
                have zc := tvc
                rcases (show (∃ x, par L y.2 = some x) ∨ par L y.2 = none by cases par L y.2 with | none => exact .inr rfl | some x => exact .inl ⟨x, rfl⟩) with ⟨x', hp'⟩ | hp'
                · rw [hp'] at zc
                  obtain ⟨ox', eo, hox'⟩ := Tp.nd_inv zc
                  have hxL' := (rk_le G.ok hyL).2 x' hp'
                  have Td := Tc.keep sd
                  obtain ⟨dxd, _, _, _, _, Bd⟩ := id Td
                  refine ⟨_, rfl, rfl, _, rfl, ?_⟩
                  rw [show (decide (vo = V.non)) = false by rw [eo]; rfl]
                  refine iteF ?_
                  refine ⟨_, rfl, t, dxd, _, rfl, Bd.ob, tf_no _ _ (by decide +kernel) (by decide +kernel), _, rfl, _, rfl, t, ox', x', y.2.1 + 1 + (g : Int), pl, L, by rw [eo]; rfl, Td, sd _ _ hox', hxL', fun He vb se tb => ?_⟩
                  have e1 : abvD L y.2 (y.2.1 + 1 + (g : Int)) = abvD L x' (y.2.1 + 1 + (g : Int)) := by
                    rw [G.abv_step hyL (by omega), hp']; rfl
                  have okx : ∀ m, abvD L x' (y.2.1 + 1 + (g : Int)) = some m → NdOk m := fun m e => nok m (abv_in G.ok (fun u e => by cases e; exact hxL') e)
                  rw [e1] at ta
                  refine ⟨_, _, (ta.to (TK.of se)).d, tb.d, shaped_o (okD_o okx), shaped_o (okD_o okx), _, rfl, ?_⟩
                  rw [eqv_self (okD_o okx)]
                  exact iteF ⟨_, _, _, _, rfl, sc.trans (sd.trans se)⟩
                · rw [hp'] at zc
                  have eo : vo = V.non := by cases zc; rfl
                  refine ⟨_, rfl, rfl, _, rfl, ?_⟩
                  rw [show (decide (vo = V.non)) = true by rw [eo]; rfl]
                  have e1 : abvD L y.2 (y.2.1 + 1 + (g : Int)) = none := by
                    rw [G.abv_step hyL (by omega), hp']; rfl
                  rw [e1] at ta
                  refine iteT ⟨_, _, ta.d, .non, by decide +kernel, by decide +kernel, _, rfl, ?_⟩
                  rw [show PyData.eqv (oN none) .none = true by decide +kernel]
                  exact iteF ⟨_, _, _, _, rfl, sc.trans sd⟩
              · rintro σc Hc ⟨v4, v5, v6, v7, rfl, sc⟩
                exact ⟨_, _, _, _, _, _, _, rfl, s15.trans (s56.trans (s7X.trans (s9.trans (s9Y.trans (sYZ.trans sc)))))⟩
    · rintro σ2 H2 ⟨v1, v2, v3, v4, v5, v6, v7, rfl, s2⟩
      have s02 := s1.trans s2
      clear hya hN hN0 lys eys ymem
      have T2 := TA.keep s02
      obtain ⟨dx2, _, _, _, _, B2⟩ := id T2
      refine ⟨_, rfl, t, dx2, _, rfl, B2.ob, tf_no _ _ (by decide +kernel) (by decide +kernel), t, pl, L, rfl, T2, fun H3 SL s3 SL0 hSL => ?_⟩
      refine ⟨SL, rfl, ⟨_, SqL.of hSL⟩, ?_⟩
      refine for_list (K := K) (a := SL) (xs := (sortS (pl.map (·.1))).map V.str) (fun i σ' H' => ∃ (v1 v2 v3 v4 v5 v6 v7 : Option V), σ' = [some (.ref t), v1, v2, v3, v4, v5, v6, v7] ∧ Same H3 H')
        ⟨v1, v2, v3, v4, v5, v6, v7, rfl, Same.refl _⟩ (fun i σ' H' _ ⟨_, _, _, _, _, _, _, _, s⟩ => SqL.of (s _ _ hSL)) ?_ ?_
      · rintro i x σ4 H4 hi ⟨v1, v2, v3, v4, v5, v6, v7, rfl, s4⟩
        rw [List.getElem?_map] at hi
        obtain ⟨z, hz1, rfl⟩ : ∃ z, (sortS (pl.map (·.1)))[i]? = some z ∧ x = .str z := by
          cases e : (sortS (pl.map (·.1)))[i]? with
          | none => rw [e] at hi; cases hi
          | some z => rw [e] at hi; exact ⟨z, rfl, (Option.some.inj hi).symm⟩
        have hzm := (sortS_perm _).mem_iff.mp (List.mem_of_getElem? hz1)
        obtain ⟨kn, hkn⟩ : ∃ kn, kO pl z = some kn := by
          cases e : kO pl z with
          | none => exact absurd hzm (kO_none.mp e)
          | some kn => exact ⟨kn, rfl⟩
        have hzw : IsW z := G.ok.pw _ ((kO_iff G.ok.pnd).mp hkn)
        obtain ⟨hknL, hkn0⟩ := G.kind_in hkn
        have ho : ∀ x, some kn = some x → x ∈ L.map (·.1) := fun x e => by cases e; exact hknL
        have T4 := (T2.keep s3).keep s4
        obtain ⟨dx4, _, _, _, _, B4⟩ := id T4
        refine ⟨_, rfl, _, rfl, t, dx4, _, rfl, B4.ob, tf_no _ _ (by decide +kernel) (by decide +kernel), _, rfl, t, z, pl, L, rfl, T4, fun H5 v s5 tv => ?_⟩
        rw [hkn] at tv
        have T5 := T4.keep s5
        refine ⟨t, v, some kn, pl, L, rfl, T5, tv, ho, fun H6 LL ls s6 LL0 hLL els lls hla => ?_⟩
        have T6 := T5.keep s6
        obtain ⟨dx6, _, _, _, _, B6⟩ := id T6
        refine ⟨_, rfl, t, dx6, _, rfl, B6.ob, tf_no _ _ (by decide +kernel) (by decide +kernel), t, pl, L, rfl, T6, fun H7 N7 ys s7 N70 hN7 eys lys hya => ?_⟩
        have ymem : ∀ y ∈ ys, y.2 ∈ L.map (·.1) := fun y hy => (srtN_perm _).mem_iff.mp (by rw [← eys]; exact List.mem_map.mpr ⟨y, hy, rfl⟩)
        have T7 := T6.keep s7
        have hLL7 := s7 _ _ hLL
        refine ⟨N7, rfl, ⟨_, SqL.of hN7⟩, fun D hD => ?_⟩
        refine lc_list (K := K) (a := N7) (xs := ys.map fun y => V.ref y.1) (fun j H' => Same H7 H' ∧ ∃ zs : List (Addr × Nd), H' D = some (.lst (zs.map fun y => V.ref y.1)) ∧ zs.map Prod.snd = ((ys.take j).map Prod.snd).filter (fun n => decide (z ∈ shR pl L n)) ∧ zs.length ≤ j ∧ ∀ u ∈ zs, u ∈ ys)
          ⟨Same.new hD, [], upd_same, rfl, Nat.le_refl _, fun _ h => by cases h⟩ (fun j H' _ q => SqL.of (q.1 _ _ hN7)) ?_ ?_
        · rintro j x H8 hj ⟨s8, zs, e8, ez, lz, sub⟩
          rw [List.getElem?_map] at hj
          obtain ⟨y, hy1, rfl⟩ : ∃ y, ys[j]? = some y ∧ x = .ref y.1 := by
            cases e : ys[j]? with
            | none => rw [e] at hj; cases hj
            | some y => rw [e] at hj; exact ⟨y, rfl, (Option.some.inj hj).symm⟩
          have hym := List.mem_of_getElem? hy1
          have hjl : j < ys.length := (List.getElem?_eq_some_iff.mp hy1).1
          have T8 := T7.keep s8
          obtain ⟨dx8, _, _, _, _, B8⟩ := id T8
          refine ⟨rfl, _, rfl, _, rfl, t, dx8, _, rfl, B8.ob, tf_no _ _ (by decide +kernel) (by decide +kernel), _, rfl, t, y.1, y.2, pl, L, rfl, T8, s8 _ _ (hya y hym), ymem y hym, fun H9 S s9 S0 hS => ?_⟩
          have step : ((ys.take (j + 1)).map Prod.snd).filter (fun n => decide (z ∈ shR pl L n)) = ((ys.take j).map Prod.snd).filter (fun n => decide (z ∈ shR pl L n)) ++ if z ∈ shR pl L y.2 then [y.2] else [] := by
            rw [List.take_add_one, hy1, List.map_append, List.filter_append]
            by_cases q : z ∈ shR pl L y.2
            · rw [if_pos q]; simp [q]
            · rw [if_neg q]; simp [q]
          refine ⟨_, _, .str z, .lst (SqL.of hS) (dp_strs _), shaped_str hzw, shaped_strs (shw _), _, rfl, ?_⟩
          rw [in_strs]
          by_cases q : z ∈ shR pl L y.2
          · rw [if_pos q] at step
            rw [decide_eq_true q]
            refine iteT ⟨_, rfl, _, s9 _ _ e8, by rw [List.length_map]; exact small1000 (by omega), fun b o e => ?_, zs ++ [y], by rw [upd_same, List.map_append]; rfl, ?_, by rw [List.length_append, List.length_singleton]; omega, fun u hu => ?_⟩
            · rw [upd_ne (ne_of_none e hD)]; exact s9 _ _ (s8 _ _ e)
            · rw [step, List.map_append, ez]; rfl
            · rcases List.mem_append.mp hu with h | h
              · exact sub u h
              · rw [List.mem_singleton] at h; subst h; exact hym
          · rw [if_neg q, List.append_nil] at step
            rw [decide_eq_false q]
            exact iteF ⟨s8.trans s9, zs, s9 _ _ e8, by rw [step]; exact ez, by omega, sub⟩
        · rintro H8 ⟨s8, zs, e8, ez, lz, sub⟩
          rw [List.length_map] at lz
          rw [List.length_map, List.take_length, eys, G.line_here hkn] at ez
          have lok : ∀ n ∈ lineN L 8 (some kn), NdOk n := fun n hn => nok n (line_in G.ok ho hn)
          refine ⟨_, rfl, _, _, .lst (SqL.of e8) (nds_dp2 (fun y hy => s8 _ _ (hya y (sub y hy))) ez), .lst (SqL.of (s8 _ _ hLL7)) (nds_dp2 (fun y hy => s8 _ _ (s7 _ _ (hla y hy))) els), sh_nds lok, sh_nds lok, _, rfl, ?_⟩
          rw [eqv_self (by simpa [okD] using okDs_nds lok)]
          refine iteF ?_
          have hLL8 := s8 _ _ hLL7
          have hla8 : ∀ y ∈ ls, NdA H8 y.1 y.2 := fun y hy => s8 _ _ (s7 _ _ (hla y hy))
          have s48 := ((s5.trans s6).trans s7).trans s8
          clear e8 hN7 hya sub ez
          refine ⟨_, rfl, LL, rfl, ⟨_, SqL.of hLL8⟩, fun D2 hD2 => ?_⟩
          refine lc_list (K := K) (a := LL) (xs := ls.map fun y => V.ref y.1) (fun j H' => Same H8 H' ∧ H' D2 = some (.lst ((((ls.take j).map Prod.snd).map (·.1)).map V.int)))
            ⟨Same.new hD2, upd_same⟩ (fun j H' _ q => SqL.of (q.1 _ _ hLL8)) ?_ ?_
          · rintro j x H9 hj ⟨s9, e9⟩
            rw [List.getElem?_map] at hj
            obtain ⟨y, hy1, rfl⟩ : ∃ y, ls[j]? = some y ∧ x = .ref y.1 := by
              cases e : ls[j]? with
              | none => rw [e] at hj; cases hj
              | some y => rw [e] at hj; exact ⟨y, rfl, (Option.some.inj hj).symm⟩
            have hjl : j < ls.length := (List.getElem?_eq_some_iff.mp hy1).1
            refine ⟨rfl, _, rfl, _, _, _, _, rfl, rfl, SqT.of (s9 _ _ (hla8 y (List.mem_of_getElem? hy1))), at_of (j := 0) rfl rfl, ?_⟩
            refine ⟨_, e9, by rw [List.length_map, List.length_map, List.length_map, List.length_take]; exact small1000 (by omega), fun b o e => ?_, ?_⟩
            · rw [upd_ne (ne_of_none e hD2)]; exact s9 _ _ e
            · rw [upd_same, List.take_add_one, hy1, List.map_append, List.map_append, List.map_append]; rfl
          rintro H9 ⟨s9, e9⟩
          rw [List.length_map, List.take_length, els] at e9
          have hLL9 := s9 _ _ hLL8
          have hla9 : ∀ y ∈ ls, NdA H9 y.1 y.2 := fun y hy => s9 _ _ (hla8 y hy)
          refine ⟨_, rfl, LL, rfl, ⟨_, SqL.of hLL9⟩, fun D3 hD3 => ?_⟩
          refine lc_list (K := K) (a := LL) (xs := ls.map fun y => V.ref y.1) (fun j H' => Same H9 H' ∧ H' D3 = some (.lst ((((ls.take j).map Prod.snd).map (·.1)).map V.int)))
            ⟨Same.new hD3, upd_same⟩ (fun j H' _ q => SqL.of (q.1 _ _ hLL9)) ?_ ?_
          · rintro j x Ha hj ⟨sa, ea⟩
            rw [List.getElem?_map] at hj
            obtain ⟨y, hy1, rfl⟩ : ∃ y, ls[j]? = some y ∧ x = .ref y.1 := by
              cases e : ls[j]? with
              | none => rw [e] at hj; cases hj
              | some y => rw [e] at hj; exact ⟨y, rfl, (Option.some.inj hj).symm⟩
            have hjl : j < ls.length := (List.getElem?_eq_some_iff.mp hy1).1
            refine ⟨rfl, _, rfl, _, _, _, _, rfl, rfl, SqT.of (sa _ _ (hla9 y (List.mem_of_getElem? hy1))), at_of (j := 0) rfl rfl, ?_⟩
            refine ⟨_, ea, by rw [List.length_map, List.length_map, List.length_map, List.length_take]; exact small1000 (by omega), fun b o e => ?_, ?_⟩
            · rw [upd_ne (ne_of_none e hD3)]; exact sa _ _ e
            · rw [upd_same, List.take_add_one, hy1, List.map_append, List.map_append, List.map_append]; rfl
          rintro Ha ⟨sa, ea⟩
          rw [List.length_map, List.take_length, els] at ea
          have rpw : ((lineN L 8 (some kn)).map (·.1)).Pairwise (· < ·) := List.pairwise_map.mpr (line_pw G.ok ho)
          have llen : ((lineN L 8 (some kn)).map (·.1)).length ≤ 8 := by rw [← els, List.length_map, List.length_map]; exact lls
          refine ⟨D3, _, rfl, SqL.of ea, by omega, fun ns p ris mem hp => ?_⟩
          have ens := ris_one ris rpw mem
          subst ens
          have sp := Same.new (o := .lst (((lineN L 8 (some kn)).map (·.1)).map V.int)) hp
          refine ⟨_, _, .lst (SqL.of (sp _ _ (sa _ _ e9))) (dp_ints _), .lst (SqL.of upd_same) (dp_ints _), shaped_intsL _, shaped_intsL _, _, rfl, ?_⟩
          rw [eqv_self (by simp only [okD]; exact okDs_ints _)]
          exact iteF ⟨_, _, _, _, _, _, _, rfl, s4.trans (s48.trans (s9.trans (sa.trans sp)))⟩
      · rintro σ4 H4 ⟨v1, v2, v3, v4, v5, v6, v7, rfl, s4⟩
        have T4 := (T2.keep s3).keep s4
        obtain ⟨dx4, _, _, _, _, B4⟩ := id T4
        refine ⟨_, rfl, t, dx4, _, rfl, B4.ob, t, pl, L, rfl, T4, pl.length, rfl, Nat.le_trans G.ok.pln (by decide), ?_⟩
        refine ⟨_, rfl, t, dx4, _, rfl, B4.ob, tf_no _ _ (by decide +kernel) (by decide +kernel), t, pl, L, rfl, T4, fun H5 S s5 S0 hS => ?_⟩
        refine ⟨S, _, rfl, .inl (SqL.of hS), ?_⟩
        refine ⟨rfl, ?_⟩
        show Q (V.bl (decide (V.int (pl.length : Nat) = V.int (((sortS (pl.map (·.1))).map V.str).length : Nat)))) H5
        rw [List.length_map, Grown.all_len, decide_eq_true rfl]
        exact k _ (s02.trans (s3.trans (s4.trans s5)))
end
end KN


set_option Elab.async false
set_option linter.all false
set_option maxRecDepth 100000
set_option maxHeartbeats 4000000
namespace KN
open PySem L2
/-! _law_fewer_right. -/
def spFewer (C : Addr) : Sp := fun vs H Q _ => ∃ (t l : Addr) (pl : List (Str × Nd)) (L : List (Nd × Option Nd)) (kp : List Str), vs = [.ref t, .ref l] ∧ TreeAt C H t pl L ∧ Grown pl L ∧ H l = some (.lst (kp.map V.str)) ∧ (∀ z ∈ kp, z ∈ pl.map (·.1)) ∧ kp.Nodup ∧ kp.length ≤ 60 ∧
  ∀ H', Same H H' → Q (.bl true) H'
theorem kpP_fst {pl : List (Str × Nd)} : ∀ {xs : List Str}, (∀ z ∈ xs, z ∈ pl.map (·.1)) → (kpP pl xs).map (fun p => p.1) = xs
  | [], _ => rfl
  | z :: xs, h => by
    cases e : kO pl z with
    | none => exact absurd (h z List.mem_cons_self) (kO_none.mp e)
    | some k =>
      have ih := kpP_fst fun x hx => h x (List.mem_cons_of_mem _ hx)
      unfold kpP at ih ⊢
      rw [List.filterMap_cons, e]
      show z :: (List.filterMap (fun z => (kO pl z).map fun k => (z, k)) xs).map (fun p => p.1) = z :: xs
      rw [ih]
section
variable {P : Program} {w : World} {K : PySem.W.Frag} {mg : Str → Option Value} {base : Heap} {C : Addr}
theorem sc__law_fewer_right : FnScope ["_law_tree", "_law_kept", "_law_kinds", "_law_sheet", "_law_kind", "_law_fewer", "_law_node", "_law_left"] ["_law_tree", "_law_kept"] (defScope s__law_fewer_right) := ⟨rfl, rfl, rfl, by decide +kernel, rfl, by decide +kernel, by decide +kernel⟩
theorem ok__law_fewer_right {f : Addr} {fd : FuncData} (F : Fun K "_law_fewer_right" "_law_fewer_right" s__law_fewer_right f fd) (m_dict : mg "dict" = none)
    (c_Tree_nodes : C8.Met P w K mg base 5 C "nodes" (spNodesX C) [.non]) (c_Tree_sheets : C8.Met P w K mg base 5 C "sheets" (spSheetsR C) []) (c_Tree_parent : C8.Met P w K mg base 4 C "parent" (spParent C) []) (c_Tree_kind_of : C8.Met P w K mg base 1 C "kind_of" (spKindOf C) []) (c_Tree : C8.Mak P w K mg base 5 "Tree" C (spTInit C) []) (c__law_coheres : C8.Cal P w K mg base 6 "_law_coheres" (spCoh C) []) : FnOk P w K mg base CX0 7 f fd ["_law_tree", "_law_kept"] (spFewer C) := by
  refine F.ok sc__law_fewer_right (fun vs H Q E h => ?_) (fun cdv A outer s H vs Q E hr h => ?_)
  · obtain ⟨t, l, pl, L, kp, rfl, _⟩ := h; rfl
  · obtain ⟨t, l, pl, L, kp, rfl, TA, G, hl, hin, knd, k60, k⟩ := h
    have hu := hu_of hr
    refine ⟨_, (pss_cons (ps_set (i := 2) sc__law_fewer_right.nd rfl (Or.inl rfl) pe_dnewT)
      (pss_cons (ps_for PassesOwn.never rfl (pi_list (pv 1)) (pg_name (i := 3) sc__law_fewer_right.nd rfl (Or.inl rfl))
      (pss_cons (ps_set (i := 4) sc__law_fewer_right.nd rfl (Or.inl rfl) (C8.pe_mt c_Tree_kind_of hr (by decide) (pv 0) (pa_cons (pv 3) pa_nil)))
      (pss_one (ps_dput hu (pv 2) (pv 4) (pe_op op_cat (pe_dget2 hu (pv 2) (pv 4) (pe_lst pa_nil) ⟨rfl, rfl, rfl, rfl⟩) (pe_lst (pa_cons (pv 3) pa_nil))) rfl))))
      (pss_cons (ps_set (i := 5) sc__law_fewer_right.nd rfl (Or.inl rfl) (C8.pe_mk c_Tree hr (by decide) rfl (pa_cons (pv 2) (pa_cons (pe_callTy (cr_dictT rfl hr.units) (by rfl) m_dict (by decide +kernel) (pa_cons (pe_lc (own := [("_law_node", 6)]) (g := gName 6) (tt := tYes) rfl sc__law_fewer_right.nd (pi_list (C8.pe_mt0 c_Tree_nodes hr (by decide) (pv 0))) (blkOk_by (own := [("_law_node", 6)]) (N := ["_law_tree", "_law_kept", "_law_kinds", "_law_sheet", "_law_kind", "_law_fewer", "_law_node", "_law_left"]) (sc := defScope s__law_fewer_right) (by decide +kernel)) (fun _ _ _ _ _ => pg_name (i := 6) sc__law_fewer_right.nd rfl (Or.inl rfl)) (fun _ _ _ _ _ => pts_nil) (fun _ _ _ _ _ => (pe_tup (pa_cons (pv 6) (pa_cons (C8.pe_mt c_Tree_parent hr (by decide) (pv 0) (pa_cons (pv 6) pa_nil)) pa_nil))))) pa_nil)) pa_nil))))
      (pss_cons (ps_for PassesOwn.never rfl (pi_list (C8.pe_mt0 c_Tree_nodes hr (by decide) (pv 0))) (pg_name (i := 6) sc__law_fewer_right.nd rfl (Or.inl rfl))
      (pss_cons (ps_setLc (i := 7) (own := [("_law_sheet", 3)]) (g := gName 3) rfl sc__law_fewer_right.nd rfl rfl (sw_true rfl rfl rfl (by decide +kernel)) (pi_list (C8.pe_mt c_Tree_sheets hr (by decide) (pv 0) (pa_cons (pv 6) pa_nil))) (blkOk_by (own := [("_law_sheet", 3)]) (N := ["_law_tree", "_law_kept", "_law_kinds", "_law_sheet", "_law_kind", "_law_fewer", "_law_node", "_law_left"]) (sc := defScope s__law_fewer_right) (by decide +kernel)) (fun _ _ _ _ _ => pg_name (i := 3) sc__law_fewer_right.nd rfl (Or.inl rfl)) (fun _ _ _ _ _ => (pts_one (pt_cmpR (op_inDK K (u65 hr)) (pv 3) (pv 1) rfl))) (fun _ _ _ _ _ => (pv 3)))
      (pss_one (ps_if (PW.pt (pw_or (pt_cmpR op_ne (pe_cmpR (op_inD (u65 hr)) (pv 6) (C8.pe_mt0 c_Tree_nodes hr (by decide) (pv 5)) rfl) (pe_cmpR (op_neD hr.units) (pv 7) (pe_lst pa_nil) (nomark _)) (nomark _)) (pw_or1 (PW.pt (pw_and (pt_cmpR (op_neD hr.units) (pv 7) (pe_lst pa_nil) (nomark _)) (pw_and1 (pt_cmpR (op_neD hr.units) (C8.pe_mt c_Tree_sheets hr (by decide) (pv 5) (pa_cons (pv 6) pa_nil)) (pv 7) (nomark _)))))))) (pss_one (ps_ret pe_bl)) pss_nil))))
      (pss_one (ps_ret (pe_and (C8.pe_c c__law_coheres hr (by decide) rfl (pa_cons (pv 5) pa_nil)) (pe_one (pe_cmpR (op_eqD hr.units) (pe_lc (own := [("_law_node", 6)]) (g := gName 6) rfl sc__law_fewer_right.nd (pi_list (C8.pe_mt0 c_Tree_nodes hr (by decide) (pv 5))) (blkOk_by (own := [("_law_node", 6)]) (N := ["_law_tree", "_law_kept", "_law_kinds", "_law_sheet", "_law_kind", "_law_fewer", "_law_node", "_law_left"]) (sc := defScope s__law_fewer_right) (by decide +kernel)) (fun _ _ _ _ _ => pg_name (i := 6) sc__law_fewer_right.nd rfl (Or.inl rfl)) (fun _ _ _ _ _ => (pts_one (pt_cmpR (op_notInDK K (u65 hr)) (pv 6) (C8.pe_mt0 c_Tree_nodes hr (by decide) (pv 0)) rfl))) (fun _ _ _ _ _ => (pv 6))) (pe_lst pa_nil) (nomark _)))))))))), ?_⟩
    refine fun d hd => ?_
    have sd := Same.new (o := .dT []) hd
    have nld : l ≠ d := ne_of_none hl hd
    refine ⟨_, rfl, l, rfl, ⟨_, SqL.of (sd _ _ hl)⟩, ?_⟩
    refine for_list (K := K) (a := l) (xs := kp.map V.str) (fun i σ' H' => ∃ (v3 v4 v5 v6 v7 : Option V) (kvs : List (List Key × V)) (ks : List (Nd × List Str)), σ' = [some (.ref t), some (.ref l), some (.ref d), v3, v4, v5, v6, v7] ∧ (∀ a o, a ≠ d → H a = some o → H' a = some o) ∧ H' d = some (.dT kvs) ∧ Paired (KdR H') kvs ks ∧ (ks.map (·.1)).Nodup ∧ (plOf ks).Perm (kpP pl (kp.take i)) ∧ (∀ k ∈ ks, k.2 ≠ [] ∧ k.1 ∈ L.map (·.1) ∧ k.1.1 = 0) ∧ ks.length ≤ i)
      ⟨none, none, none, none, none, [], [], rfl, fun a o n e => sd _ _ e, upd_same, .nil, List.nodup_nil, List.Perm.refl _, (fun _ h => by cases h), Nat.le_refl _⟩
      (fun i σ' H' _ ⟨_, _, _, _, _, _, _, _, k2, _⟩ => SqL.of (k2 _ _ nld hl)) ?_ ?_
    · rintro i x σ2 H2 hi ⟨v3, v4, v5, v6, v7, kvs, ks, rfl, k2, hd2, pr, n1, pm, sub, lk⟩
      rw [List.getElem?_map] at hi
      obtain ⟨z, hz, rfl⟩ : ∃ z, kp[i]? = some z ∧ x = .str z := by
        cases e : kp[i]? with
        | none => rw [e] at hi; cases hi
        | some z => rw [e] at hi; exact ⟨z, rfl, (Option.some.inj hi).symm⟩
      have hil : i < kp.length := (List.getElem?_eq_some_iff.mp hz).1
      have hzm := List.mem_of_getElem? hz
      have sH2 : Same H H2 := fun a o e => k2 a o (ne_of_none e hd) e
      have T2 := TA.keep sH2
      obtain ⟨kn, hkn⟩ : ∃ kn, kO pl z = some kn := by
        cases e : kO pl z with
        | none => exact absurd (hin z hzm) (kO_none.mp e)
        | some kn => exact ⟨kn, rfl⟩
      obtain ⟨hknL, hkn0⟩ := G.kind_in hkn
      obtain ⟨dx2, _, _, _, _, B2⟩ := id T2
      refine ⟨_, rfl, t, dx2, _, rfl, B2.ob, tf_no _ _ (by decide +kernel) (by decide +kernel), _, rfl, t, z, pl, L, rfl, T2, fun H3 v s3 tv => ?_⟩
      rw [hkn] at tv
      obtain ⟨ka, rfl, hka⟩ := Tp.nd_inv tv
      have hd3 := s3 _ _ hd2
      have pr3 : Paired (KdR H3) kvs ks := _root_.L2.Paired.mapP pr fun _ _ f => ⟨f.1, f.2.imp fun l g => ⟨g.1, s3 _ _ g.2⟩⟩
      have lkv : kvs.length = ks.length := Paired.length pr
      refine ⟨_, rfl, d, rfl, .inr ⟨_, Rd.of hd3⟩, _, rfl, Nat.zero_le _, fun l0 hl0 => ?_⟩
      have s0 := Same.new (o := .lst []) hl0
      refine ⟨_, DGet.n (s0 _ _ hd3) (s0 _ _ hka), ?_⟩
      obtain ⟨lo, old, ev, hlo, hold⟩ : ∃ lo old, (valV kvs (nK kn)).getD (V.ref l0) = .ref lo ∧ upd H3 l0 (.lst []) lo = some (.lst (old.map V.str)) ∧ ((valV kvs (nK kn) = none ∧ old = []) ∨ (valV kvs (nK kn) ≠ none ∧ (kn, old) ∈ ks)) := by
        cases e : valV kvs (nK kn) with
        | none => exact ⟨l0, [], rfl, upd_same, .inl ⟨rfl, rfl⟩⟩
        | some v =>
          obtain ⟨lo, old, e1, e2, e3⟩ := kd_val pr3 e
          exact ⟨lo, old, e1, s0 _ _ e2, .inr ⟨nofun, e3⟩⟩
      rw [ev]
      refine ⟨_, rfl, by show 1 ≤ sizeLine; decide, fun l1 hl1 => ?_⟩
      have s1 := Same.new (o := .lst [V.str z]) hl1
      have lpl : (plOf ks).length ≤ i := by
        rw [pm.length_eq]
        exact Nat.le_trans (List.length_filterMap_le _ _) (by rw [List.length_take]; omega)
      have lold : old.length ≤ 60 := by
        rcases hold with ⟨_, e⟩ | ⟨_, e⟩
        · rw [e]; exact Nat.zero_le _
        · have h1 := (sub_flat e).length_le
          have h2 := congrArg List.length (plOf_fst ks)
          rw [List.length_map] at h2
          have h3 : old.length ≤ (ks.flatMap (·.2)).length := h1
          omega
      refine ⟨lo, l1, _, _, rfl, rfl, s1 _ _ hlo, upd_same, by rw [List.length_map]; exact Nat.le_trans (by simp only [List.length_singleton]; omega : _ ≤ 1000) (by decide), fun l2 hl2 => ?_⟩
      have s2 := Same.new (o := .lst (old.map V.str ++ [V.str z])) hl2
      have s02 := (s0.trans s1).trans s2
      refine ⟨_, rfl, _, rfl, d, _, rfl, DPut.t (k := nK kn) (s02 _ _ hd3) (s02 _ _ hka) (Nat.lt_of_le_of_lt (by omega : kvs.length ≤ 60) (by decide)), ?_⟩
      have nl2d : l2 ≠ d := fun e => by
        have := (s0.trans s1) _ _ hd3
        rw [← e, hl2] at this; cases this
      have hl2' : (upd (upd (upd H3 l0 (.lst [])) l1 (.lst [V.str z])) l2 (.lst (old.map V.str ++ [V.str z]))) l2 = some (.lst ((old ++ [z]).map V.str)) := by rw [upd_same, List.map_append]; rfl
      generalize upd (upd (upd H3 l0 (.lst [])) l1 (.lst [V.str z])) l2 (.lst (old.map V.str ++ [V.str z])) = H8 at s02 hl2' ⊢
      have hd8 := s02 _ _ hd3
      have keep : ∀ a o, a ≠ d → H8 a = some o → upd H8 d (.dT (putK kvs (nK kn) (.ref l2))) a = some o := fun a o n e => by rw [upd_ne n]; exact e
      have pr9 : Paired (KdR (upd H8 d (.dT (putK kvs (nK kn) (.ref l2))))) kvs ks := _root_.L2.Paired.mapP pr3 fun _ _ f => ⟨f.1, f.2.imp fun l g => ⟨g.1, keep _ _ (fun e => by rw [e, hd3] at g; cases g.2) (s02 _ _ g.2)⟩⟩
      have hl9 := keep _ _ nl2d hl2'
      have tk1 : kp.take (i + 1) = kp.take i ++ [z] := by rw [List.take_add_one, hz]; rfl
      have fin : ∀ ks', Paired (KdR (upd H8 d (.dT (putK kvs (nK kn) (.ref l2))))) (putK kvs (nK kn) (.ref l2)) ks' → (ks'.map (·.1)).Nodup → (plOf ks').Perm (plOf ks ++ [(z, kn)]) → (∀ k ∈ ks', k.2 ≠ [] ∧ k.1 ∈ L.map (·.1) ∧ k.1.1 = 0) → ks'.length ≤ i + 1 →
          ∃ (u3 u4 u5 u6 u7 : Option V) (kvs' : List (List Key × V)) (ks' : List (Nd × List Str)), ([some (V.ref t), some (V.ref l), some (V.ref d), v3, v4, v5, v6, v7].set 3 (some (V.str z))).set 4 (some (V.ref ka)) = [some (.ref t), some (.ref l), some (.ref d), u3, u4, u5, u6, u7] ∧ (∀ a o, a ≠ d → H a = some o → upd H8 d (.dT (putK kvs (nK kn) (.ref l2))) a = some o) ∧ upd H8 d (.dT (putK kvs (nK kn) (.ref l2))) d = some (.dT kvs') ∧ Paired (KdR (upd H8 d (.dT (putK kvs (nK kn) (.ref l2))))) kvs' ks' ∧ (ks'.map (·.1)).Nodup ∧ (plOf ks').Perm (kpP pl (kp.take (i + 1))) ∧ (∀ k ∈ ks', k.2 ≠ [] ∧ k.1 ∈ L.map (·.1) ∧ k.1.1 = 0) ∧ ks'.length ≤ i + 1 := by
        intro ks' g1 g2 g3 g4 g5
        refine ⟨_, _, _, _, _, _, ks', rfl, fun a o n e => keep _ _ n (s02 _ _ (s3 _ _ (k2 _ _ n e))), upd_same, g1, g2, ?_, g4, g5⟩
        rw [tk1, kpP_add hkn]
        exact g3.trans (pm.append_right _)
      rcases hold with ⟨e, e0⟩ | ⟨e, hm⟩
      · refine fin (ks ++ [(kn, [z])]) ?_ ?_ ?_ (fun k hk => ?_) (by rw [List.length_append]; simp only [List.length_singleton]; omega)
        · rw [putK_new _ e] at hl9 pr9 ⊢
          exact pr9.snoc ⟨rfl, l2, rfl, by rw [e0] at hl9; exact hl9⟩
        · rw [List.map_append]
          exact List.nodup_append.mpr ⟨n1, List.pairwise_singleton _ _, fun x hx y' hy' exy => by
            rw [List.mem_singleton.mp hy'] at exy
            exact kd_no pr3 e (by have e9 : x = kn := exy; rw [← e9]; exact hx)⟩
        · rw [plOf_new]
        · rcases List.mem_append.mp hk with h | h
          · exact sub k h
          · rw [List.mem_singleton] at h; subst h; exact ⟨nofun, hknL, hkn0⟩
      · obtain ⟨ks', h1', h2', h3', h4'⟩ := kd_put2 hl9 pr9 n1 hm
        have hany : (kvs.any fun kv => decide (kv.1 = nK kn)) = true := by
          rw [valV_any]
          cases e9 : valV kvs (nK kn) with
          | none => exact absurd e9 e
          | some _ => rfl
        have epu : putK kvs (nK kn) (.ref l2) = kvs.map fun kv => if kv.1 = nK kn then (kv.1, V.ref l2) else kv := by unfold putK; rw [if_pos hany]
        refine fin ks' (by rw [epu] at h1' ⊢; exact h1') (by rw [h2']; exact n1) h3' (fun k hk => ?_) (by have := congrArg List.length h2'; rw [List.length_map, List.length_map] at this; omega)
        rcases h4' k hk with h | h
        · rw [h]; exact ⟨by simp, hknL, hkn0⟩
        · exact sub k h
    · rintro σ2 H2 ⟨v3, v4, v5, v6, v7, kvs, ks, rfl, k2, hd2, pr, n1, pm, sub, lk⟩
      rw [List.length_map] at lk
      rw [List.length_map, List.take_length] at pm
      have sH2 : Same H H2 := fun a o e => k2 a o (ne_of_none e hd) e
      have T2 := TA.keep sH2
      have few := G.few
      have pfst : ((plOf ks).map (·.1)).Perm kp := by
        have := pm.map (·.1)
        rw [kpP_fst hin] at this; exact this
      have pnd : ((plOf ks).map (·.1)).Nodup := pfst.nodup_iff.mpr knd
      have plen : (plOf ks).length = kp.length := by have := pfst.length_eq; rw [List.length_map] at this; exact this
      have pmem : ∀ z k, (z, k) ∈ plOf ks ↔ kO pl z = some k ∧ z ∈ kp := fun z k => by rw [pm.mem_iff, mem_kpP]
      have kok : ∀ q ∈ ks, KdOk q := fun q hq => by
        obtain ⟨g1, g2, g3⟩ := sub q hq
        have sf := sub_flat hq
        have h2 := congrArg List.length (plOf_fst ks)
        rw [List.length_map] at h2
        refine ⟨G.ok.nd_ok g2, g3, g1, by have := sf.length_le; omega, sf.nodup (by rw [← plOf_fst]; exact pnd), fun z hz => ?_⟩
        have : (z, q.1) ∈ plOf ks := List.mem_flatMap.mpr ⟨q, hq, List.mem_map.mpr ⟨z, hz, rfl⟩⟩
        exact G.ok.pw _ ((kO_iff G.ok.pnd).mp ((pmem z q.1).mp this).1)
      have kAt : KindsAt H2 d ks := ⟨kvs, hd2, pr⟩
      clear pm pfst hd2 pr n1 sub
      obtain ⟨dx2, _, _, _, _, B2⟩ := id T2
      refine ⟨_, rfl, _, rfl, t, dx2, _, rfl, B2.ob, tf_no _ _ (by decide +kernel) (by decide +kernel), t, pl, L, rfl, T2, fun H3 N2 ys2 s3 N20 hN2 eys2 lys2 hya2 => ?_⟩
      have ymem : ∀ y ∈ ys2, y.2 ∈ L.map (·.1) := fun y hy => (srtN_perm _).mem_iff.mp (by rw [← eys2]; exact List.mem_map.mpr ⟨y, hy, rfl⟩)
      have pm2 : (ys2.map Prod.snd).Perm (L.map (·.1)) := by rw [eys2]; exact srtN_perm _
      have l2 : ys2.length ≤ 60 := by have := pm2.length_eq; rw [List.length_map, List.length_map] at this; omega
      have T3 := T2.keep s3
      refine ⟨N2, rfl, ⟨_, SqL.of hN2⟩, fun D2 hD2 => ?_⟩
      refine lc_list (K := K) (a := N2) (xs := ys2.map fun y => V.ref y.1) (fun j H' => Same H3 H' ∧ ∃ Qs : List KR, H' D2 = some (.lst (Qs.map fun x => V.ref x.T)) ∧ Qs.map (·.n) = (ys2.take j).map Prod.snd ∧ ∀ x ∈ Qs, H' x.T = some (.tup [.ref x.k, x.v]) ∧ NdA H' x.k x.n ∧ Tp H' x.v (oN (par L x.n)))
        ⟨Same.new hD2, [], upd_same, rfl, fun _ h => by cases h⟩ (fun j H' _ q => SqL.of (q.1 _ _ hN2)) ?_ ?_
      · rintro j x Hq hj ⟨sq, Qs, eq_, enq, rowq⟩
        rw [List.getElem?_map] at hj
        obtain ⟨y, hy1, rfl⟩ : ∃ y, ys2[j]? = some y ∧ x = .ref y.1 := by
          cases e : ys2[j]? with
          | none => rw [e] at hj; cases hj
          | some y => rw [e] at hj; exact ⟨y, rfl, (Option.some.inj hj).symm⟩
        have hym := List.mem_of_getElem? hy1
        have hjl : j < ys2.length := (List.getElem?_eq_some_iff.mp hy1).1
        have hyL : y.2 ∈ L.map (·.1) := ymem y hym
        obtain ⟨dxj, kkj, llj, kvsj, lvsj, Bj⟩ := id (T3.keep sq)
        have hyq : NdA Hq y.1 y.2 := sq _ _ (hya2 y hym)
        refine ⟨rfl, _, rfl, _, rfl, t, dxj, _, rfl, Bj.ob, tf_no _ _ (by decide +kernel) (by decide +kernel), _, rfl, t, y.1, y.2, pl, L, rfl, T3.keep sq, hyq, hyL, fun Hk v sk tv => ?_⟩
        refine ⟨by show 2 ≤ sizeLine; decide, fun TT hTT => ?_⟩
        have sT := Same.new (o := .tup [.ref y.1, v]) hTT
        have skT := sk.trans sT
        have eD := skT _ _ eq_
        have hTe : upd Hk TT (.tup [.ref y.1, v]) TT = some (.tup [.ref y.1, v]) := upd_same
        have tv2 := tv.to (TK.of sT)
        generalize upd Hk TT (.tup [.ref y.1, v]) = Hm at skT eD hTe tv2 ⊢
        have lQs : Qs.length ≤ j := by have := congrArg List.length enq; rw [List.length_map, List.length_map, List.length_take] at this; omega
        have kt : TK Hm (upd Hm D2 (.lst (Qs.map (fun x => V.ref x.T) ++ [.ref TT]))) := TK.put eD (by intro z; exact nofun)
        refine ⟨_, eD, by rw [List.length_map]; exact small1000 (by omega), fun b o q => ?_, Qs ++ [⟨TT, y.1, y.2, v⟩], by rw [upd_same, List.map_append]; rfl, by rw [List.map_append, enq, List.take_add_one, hy1, List.map_append]; rfl, fun x hx => ?_⟩
        · rw [upd_ne (ne_of_none q hD2)]; exact skT _ _ (sq _ _ q)
        · rcases List.mem_append.mp hx with h | h
          · obtain ⟨g1, g2, g3⟩ := rowq x h
            exact ⟨kt _ _ (skT _ _ g1), kt _ _ (skT _ _ g2), g3.to ((TK.of skT).trans kt)⟩
          · rw [List.mem_singleton] at h; subst h
            exact ⟨kt _ _ hTe, kt _ _ (skT _ _ hyq), tv2.to kt⟩
      rintro Hq ⟨sq, Qs, eq_, enq, rowq⟩
      rw [List.length_map, List.take_length] at enq
      have lQs : Qs.length ≤ 60 := by have := congrArg List.length enq; rw [List.length_map, List.length_map] at this; omega
      have pmq : (Qs.map (·.n)).Perm (L.map (·.1)) := by rw [enq]; exact pm2
      refine ⟨D2, Qs.map fun x => (x.T, nK x.n, x.k, x.v), rfl, SqL.of (by rw [List.map_map]; exact eq_), fun p hp => ?_, ?_, by rw [List.length_map]; omega, fun d2 hd2 => ?_⟩
      · obtain ⟨x, hx, rfl⟩ := List.mem_map.mp hp
        exact ⟨(rowq x hx).1, (rowq x hx).2.1⟩
      · rw [List.map_map]
        have : (Qs.map fun x => nK x.n) = (Qs.map (·.n)).map nK := by rw [List.map_map]; rfl
        show (Qs.map fun x => nK x.n).Nodup
        rw [this]
        exact List.pairwise_map.mpr ((pmq.nodup_iff.mpr G.ok.nd).imp fun ne e => ne (nK_inj e))
      have sd2 := Same.new (o := .dT ((Qs.map fun x => (x.T, nK x.n, x.k, x.v)).map fun p => (p.2.1, p.2.2.2))) hd2
      have hdd2 : upd Hq d2 (.dT ((Qs.map fun x => (x.T, nK x.n, x.k, x.v)).map fun p => (p.2.1, p.2.2.2))) d2 = some (.dT (Qs.map fun x => (nK x.n, x.v))) := by rw [upd_same, List.map_map]; rfl
      have ndd : d ≠ d2 := fun z => by
        obtain ⟨_, hkd, _⟩ := kAt
        have := (s3.trans sq) _ _ hkd
        rw [z, hd2] at this; cases this
      generalize upd Hq d2 (.dT ((Qs.map fun x => (x.T, nK x.n, x.k, x.v)).map fun p => (p.2.1, p.2.2.2))) = He at sd2 hdd2 ⊢
      have pAt : ParAt He d2 (psOn L (Qs.map (·.n))) := by
        refine ⟨_, hdd2, ?_⟩
        unfold psOn
        clear enq pmq hdd2 eq_ lQs
        induction Qs with
        | nil => exact .nil
        | cons x Qs ih =>
          exact .cons ⟨rfl, (rowq x List.mem_cons_self).2.2.to (TK.of sd2)⟩ (ih fun y hy => rowq y (List.mem_cons_of_mem _ hy))
      have sde := (s3.trans sq).trans sd2
      intro t' dx' nt ndx ne
      have s4 : Same He (upd (upd He dx' (.own t')) t' (.ins C dx' [])) := (Same.new ndx).trans (Same.new (by rw [upd_ne ne.symm]; exact nt))
      obtain ⟨kvk, hk1, hk2⟩ := kAt
      obtain ⟨kvp, hp1, hp2⟩ := pAt
      refine ⟨t', dx', d, d2, ks, psOn L (Qs.map (·.n)), rfl, upd_same, ⟨kvk, (sde.trans s4) _ _ hk1, _root_.L2.Paired.mapP hk2 fun _ _ f => ⟨f.1, f.2.imp fun l g => ⟨g.1, (sde.trans s4) _ _ g.2⟩⟩⟩, ⟨kvp, s4 _ _ hp1, _root_.L2.Paired.mapP hp2 fun _ _ f => ⟨f.1, f.2.to (TK.of s4)⟩⟩, ndd, kok, ps_ok G pmq, by omega, by unfold psOn; rw [List.length_map, List.length_map]; omega, pnd, by omega, fun H5 L' k5 T5 P5 al5 => ⟨rfl, ?_⟩⟩
      have s0e : Same H He := sH2.trans sde
      have s05 : Same H H5 := fun x o e => k5 x o (ne_of_none (s0e _ _ e) nt) (s4 _ _ (s0e _ _ e))
      have FW := fewer_of G pmq T5.ok2 P5 kok al5 pmem
      clear hk1 hk2 hp1 hp2 eq_ rowq kok pmem pmq hdd2 enq hya2 hN2 pm2 P5 al5 k5
      have TA5 := TA.keep s05
      have hl5 := s05 _ _ hl
      generalize plOf ks = pl2 at T5 FW
      have kpw : ∀ z ∈ kp, IsW z := fun z hz => by
        obtain ⟨p, hp, e⟩ := List.mem_map.mp (hin z hz)
        rw [← e]; exact G.ok.pw _ hp
      have shl : ∀ n, (shR pl L n).length ≤ 60 := fun n => Nat.le_trans (List.length_filter_le _ _) (by rw [(sortS_perm _).length_eq, List.length_map]; exact G.ok.pln)
      have shw : ∀ n, ∀ z ∈ shR pl L n, IsW z := fun n z hz => by
        obtain ⟨k, h1, _⟩ := (onL_iff G.ok).mp (mem_shR.mp hz)
        exact G.ok.pw _ ((kO_iff G.ok.pnd).mp h1)
      have nok : ∀ n ∈ L.map (·.1), NdOk n := fun n h => G.ok.nd_ok h
      have nok2 : ∀ n ∈ srtN (L'.map (·.1)), NdOk n := fun n h => FW.g2.ok.nd_ok ((srtN_perm _).mem_iff.mp h)
      have nok1 : ∀ n ∈ srtN (L.map (·.1)), NdOk n := fun n h => nok n ((srtN_perm _).mem_iff.mp h)
      obtain ⟨dx5, _, _, _, _, B5⟩ := id TA5
      refine ⟨_, rfl, t, dx5, _, rfl, B5.ob, tf_no _ _ (by decide +kernel) (by decide +kernel), t, pl, L, rfl, TA5, fun H6 N ys s6 N0 hN eys lys hya => ?_⟩
      have ymem : ∀ y ∈ ys, y.2 ∈ L.map (·.1) := fun y hy => (srtN_perm _).mem_iff.mp (by rw [← eys]; exact List.mem_map.mpr ⟨y, hy, rfl⟩)
      refine ⟨N, rfl, ⟨_, SqL.of hN⟩, ?_⟩
      refine for_list (K := K) (a := N) (xs := ys.map fun y => V.ref y.1) (fun i σ' H' => ∃ (v3 v4 v6 v7 : Option V), σ' = [some (.ref t), some (.ref l), some (.ref d), v3, v4, some (.ref t'), v6, v7] ∧ Same H6 H')
        ⟨v3, v4, v6, v7, rfl, Same.refl _⟩ (fun i σ' H' _ ⟨_, _, _, _, _, s2⟩ => SqL.of (s2 _ _ hN)) ?_ ?_
      · rintro i x σ7 H7 hi ⟨v3, v4, v6, v7, rfl, s7⟩
        rw [List.getElem?_map] at hi
        obtain ⟨y, hy1, rfl⟩ : ∃ y, ys[i]? = some y ∧ x = .ref y.1 := by
          cases e : ys[i]? with
          | none => rw [e] at hi; cases hi
          | some y => rw [e] at hi; exact ⟨y, rfl, (Option.some.inj hi).symm⟩
        have hym := List.mem_of_getElem? hy1
        have hyL := ymem y hym
        have hyk := nok _ hyL
        have T7 := (TA5.keep s6).keep s7
        have U7 := (T5.keep s6).keep s7
        have hl7 := s7 _ _ (s6 _ _ hl5)
        have hy7 : NdA H7 y.1 y.2 := s7 _ _ (hya y hym)
        obtain ⟨dx7, _, _, _, _, B7⟩ := id T7
        refine ⟨_, rfl, t, dx7, _, rfl, B7.ob, tf_no _ _ (by decide +kernel) (by decide +kernel), _, rfl, t, y.1, y.2, pl, L, rfl, T7, hy7, hyL, fun H8 S s8 S0 hS => ?_⟩
        refine ⟨S, rfl, ⟨_, SqL.of hS⟩, fun D hD => ?_⟩
        have hl8 := s8 _ _ hl7
        refine lc_list (K := K) (a := S) (xs := (shR pl L y.2).map V.str) (fun j H' => Same H8 H' ∧ H' D = some (.lst ((((shR pl L y.2).take j).filter fun z => decide (z ∈ kp)).map V.str)))
          ⟨Same.new hD, upd_same⟩ (fun j H' _ q => SqL.of (q.1 _ _ hS)) ?_ ?_
        · rintro j x H9 hj ⟨s9, e9⟩
          rw [List.getElem?_map] at hj
          obtain ⟨z, hz1, rfl⟩ : ∃ z, (shR pl L y.2)[j]? = some z ∧ x = .str z := by
            cases e : (shR pl L y.2)[j]? with
            | none => rw [e] at hj; cases hj
            | some z => rw [e] at hj; exact ⟨z, rfl, (Option.some.inj hj).symm⟩
          have hjl : j < (shR pl L y.2).length := (List.getElem?_eq_some_iff.mp hz1).1
          have sl := shl y.2
          have hzw := shw y.2 z (List.mem_of_getElem? hz1)
          have step : ((shR pl L y.2).take (j + 1)).filter (fun z => decide (z ∈ kp)) = ((shR pl L y.2).take j).filter (fun z => decide (z ∈ kp)) ++ if z ∈ kp then [z] else [] := by
            rw [List.take_add_one, hz1, List.filter_append]
            by_cases q : z ∈ kp
            · rw [if_pos q]; simp [q]
            · rw [if_neg q]; simp [q]
          have lfl : (((shR pl L y.2).take j).filter fun z => decide (z ∈ kp)).length ≤ 60 := Nat.le_trans (List.length_filter_le _ _) (by rw [List.length_take]; omega)
          refine ⟨rfl, _, rfl, _, rfl, _, _, .str z, .lst (SqL.of (s9 _ _ hl8)) (dp_strs _), shaped_str hzw, shaped_strs kpw, _, rfl, ?_⟩
          rw [in_strs]
          by_cases q : z ∈ kp
          · rw [decide_eq_true q]
            refine iteT ⟨_, rfl, _, e9, by rw [List.length_map]; exact small1000 (by omega), fun b o e => ?_, by rw [upd_same, step, if_pos q, List.map_append]; rfl⟩
            rw [upd_ne (ne_of_none e hD)]; exact s9 _ _ e
          · rw [decide_eq_false q]
            refine iteF ⟨s9, ?_⟩
            rw [step, if_neg q, List.append_nil]; exact e9
        rintro H9 ⟨s9, e9⟩
        rw [List.length_map, List.take_length] at e9
        have U9 := (U7.keep s8).keep s9
        have hy9 := s9 _ _ (s8 _ _ hy7)
        obtain ⟨dx9, _, _, _, _, B9⟩ := id U9
        have lw : ∀ z ∈ (shR pl L y.2).filter fun z => decide (z ∈ kp), IsW z := fun z hz => shw y.2 z (List.mem_filter.mp hz).1
        refine ⟨_, rfl, _, rfl, t', dx9, _, rfl, B9.ob, tf_no _ _ (by decide +kernel) (by decide +kernel), t', pl2, L', rfl, U9, fun Ha Na zs sa Na0 hNa ezs lzs hza => ?_⟩
        refine ⟨_, _, (Tp.nd (sa _ _ hy9)).d, .lst (SqL.of hNa) (nds_dp2 hza ezs), shaped_of (okD_n hyk) (by simp [nD, PyData.depth, PyData.depthAll]), sh_nds nok2, ?_⟩
        rw [in_nds nok2 hyk]
        have eDa := sa _ _ e9
        have s6a := ((s7.trans s8).trans s9).trans sa
        have Ua := U9.keep sa
        have hya' := sa _ _ hy9
        have memL' : (y.2 ∈ srtN (L'.map (·.1))) ↔ ((shR pl L y.2).filter fun z => decide (z ∈ kp)) ≠ [] := by rw [(srtN_perm _).mem_iff]; exact FW.stays
        clear e9 hS hN hD hza hNa
        have shts := FW.sheets y.2
        generalize (shR pl L y.2).filter (fun z => decide (z ∈ kp)) = lf at eDa lw memL' shts
        refine ⟨_, rfl, Nat.zero_le _, fun l1 hl1 => ?_⟩
        have sl1 := Same.new (o := .lst []) hl1
        refine ⟨_, .list [], .lst (SqL.of (sl1 _ _ eDa)) (dp_strs lf), .lst (SqL.of upd_same) .nil, shaped_strs lw, by decide +kernel, ⟨rfl, ?_⟩⟩
        by_cases q : lf = []
        · have e1 : decide (y.2 ∈ srtN (L'.map (·.1))) = false := decide_eq_false fun h => memL'.mp h q
          rw [e1]
          subst q
          refine ⟨false, by decide +kernel, iteF ?_⟩
          refine ⟨_, rfl, Nat.zero_le _, fun l2 hl2 => ?_⟩
          have sl2 := Same.new (o := .lst []) hl2
          refine ⟨.list [], .list [], .lst (SqL.of (sl2 _ _ (sl1 _ _ eDa))) .nil, .lst (SqL.of upd_same) .nil, by decide +kernel, by decide +kernel, _, rfl, ?_⟩
          rw [show PyData.eqv (.list []) (.list []) = true by decide +kernel]
          exact iteF (iteF ⟨_, _, _, _, rfl, s6a.trans (sl1.trans sl2)⟩)
        · have e1 : decide (y.2 ∈ srtN (L'.map (·.1))) = true := decide_eq_true (memL'.mpr q)
          rw [e1, strs_nil lw q]
          refine ⟨false, by decide +kernel, iteF ?_⟩
          refine ⟨_, rfl, Nat.zero_le _, fun l2 hl2 => ?_⟩
          have sl2 := Same.new (o := .lst []) hl2
          refine ⟨_, .list [], .lst (SqL.of (sl2 _ _ (sl1 _ _ eDa))) (dp_strs lf), .lst (SqL.of upd_same) .nil, shaped_strs lw, by decide +kernel, _, rfl, ?_⟩
          rw [strs_nil lw q]
          refine iteT ?_
          have Ub := (Ua.keep sl1).keep sl2
          obtain ⟨dxb, _, _, _, _, Bb⟩ := id Ub
          have hyL' : y.2 ∈ L'.map (·.1) := (srtN_perm _).mem_iff.mp (memL'.mpr q)
          refine ⟨_, rfl, t', dxb, _, rfl, Bb.ob, tf_no _ _ (by decide +kernel) (by decide +kernel), _, rfl, t', y.1, y.2, pl2, L', rfl, Ub, sl2 _ _ (sl1 _ _ hya'), hyL', fun Hc Sc sc Sc0 hSc => ?_⟩
          rw [shts] at hSc
          refine ⟨_, rfl, _, _, .lst (SqL.of hSc) (dp_strs lf), .lst (SqL.of (sc _ _ (sl2 _ _ (sl1 _ _ eDa)))) (dp_strs lf), shaped_strs lw, shaped_strs lw, _, rfl, ?_⟩
          rw [eqv_self (by simpa [okD] using okDs_strs lw)]
          exact iteF ⟨_, _, _, _, rfl, s6a.trans (sl1.trans (sl2.trans sc))⟩
      · rintro σ7 H7 ⟨v3, v4, v6, v7, rfl, s7⟩
        have U7 := (T5.keep s6).keep s7
        have T7 := (TA5.keep s6).keep s7
        refine ⟨_, rfl, t', pl2, L', rfl, U7, FW.g2, fun H8 s8 => ?_⟩
        refine ⟨true, rfl, iteT ?_⟩
        have U8 := U7.keep s8
        have T8 := T7.keep s8
        obtain ⟨dx8, _, _, _, _, B8⟩ := id U8
        refine ⟨_, rfl, t', dx8, _, rfl, B8.ob, tf_no _ _ (by decide +kernel) (by decide +kernel), t', pl2, L', rfl, U8, fun H9 N9 zs s9 N90 hN9 ezs lzs hza => ?_⟩
        have zmem : ∀ z ∈ zs, z.2 ∈ L'.map (·.1) := fun z hz => (srtN_perm _).mem_iff.mp (by rw [← ezs]; exact List.mem_map.mpr ⟨z, hz, rfl⟩)
        have T9 := T8.keep s9
        refine ⟨N9, rfl, ⟨_, SqL.of hN9⟩, fun D hD => ?_⟩
        refine lc_list (K := K) (a := N9) (xs := zs.map fun y => V.ref y.1) (fun j H' => Same H9 H' ∧ H' D = some (.lst []))
          ⟨Same.new hD, upd_same⟩ (fun j H' _ q => SqL.of (q.1 _ _ hN9)) ?_ ?_
        · rintro j x Ha hj ⟨sa, ea⟩
          rw [List.getElem?_map] at hj
          obtain ⟨y, hy1, rfl⟩ : ∃ y, zs[j]? = some y ∧ x = .ref y.1 := by
            cases e : zs[j]? with
            | none => rw [e] at hj; cases hj
            | some y => rw [e] at hj; exact ⟨y, rfl, (Option.some.inj hj).symm⟩
          have hym := List.mem_of_getElem? hy1
          have hyL2 := zmem y hym
          have hyL := FW.old hyL2
          have Ta := T9.keep sa
          obtain ⟨dxa, _, _, _, _, Ba⟩ := id Ta
          refine ⟨rfl, _, rfl, _, rfl, t, dxa, _, rfl, Ba.ob, tf_no _ _ (by decide +kernel) (by decide +kernel), t, pl, L, rfl, Ta, fun Hb Nb us sb Nb0 hNb eus lus hua => ?_⟩
          refine ⟨_, _, (Tp.nd (sb _ _ (sa _ _ (hza y hym)))).d, .lst (SqL.of hNb) (nds_dp2 hua eus), shaped_of (okD_n (nok _ hyL)) (by simp [nD, PyData.depth, PyData.depthAll]), sh_nds nok1, _, rfl, ?_⟩
          rw [in_nds nok1 (nok _ hyL), decide_eq_true ((srtN_perm _).mem_iff.mpr hyL)]
          exact iteF ⟨sa.trans sb, sb _ _ ea⟩
        · rintro Ha ⟨sa, ea⟩
          refine ⟨Nat.zero_le _, fun l1 hl1 => ?_⟩
          have sl1 := Same.new (o := .lst []) hl1
          refine ⟨.list [], .list [], .lst (SqL.of (sl1 _ _ ea)) .nil, .lst (SqL.of upd_same) .nil, by decide +kernel, by decide +kernel, ?_⟩
          rw [show PyData.eqv (.list []) (.list []) = true by decide +kernel]
          exact k _ (s05.trans (s6.trans (s7.trans (s8.trans (s9.trans (sa.trans sl1))))))
end
end KN


set_option Elab.async false
set_option linter.all false
set_option maxRecDepth 100000
set_option maxHeartbeats 4000000
/-! Own rule: == of an instance whose class has an own __eq__. -/
namespace KN
open PySem PySem.Spec PyProof.Rows L2
/-- what is known of a class with its own == -/
structure OwnQ (K : PySem.W.Frag) (C f : Addr) : Prop where
  eq : PySem.W.findIn K (.ref C) "__eq__" = some (some (.ref f))
  fn : PySem.W.isFn K (.ref f) = true
section
variable {X : Cx} {n : Nat} {C f : Addr} {fd : FuncData} {ps : List Str} {sp : Sp}
/-- an instance of C beside anything: what its own == says -/
def rEqO (K : PySem.W.Frag) (C : Addr) (sp : Sp) : R2 := fun x y H Q => ∃ (a dx : Addr) (fs : List (Str × V)) (t : Value), x = .ref a ∧ H a = some (.ins C dx fs) ∧ TyX K H y t ∧ PySem.W.notFirst K C t = true ∧
  sp [x, y] H (fun v H' => ∃ b, v = .bl b ∧ Q (.bl b) H') (fun _ _ _ => False)
theorem run_eqQ (F : FnOk X.prog X.w X.K X.mg X.base C8.CX0 n f fd ps sp) (hb : Binds X.K fd ps []) {A : Around} (hr : Room n A) (hfr : A.frames = X.A.frames) {pins : List (Addr × Obj)} {s : Shared} {σ : L2.St} {H : Hp} {x y : V} {u v : Value} (I : Inv X pins σ H s) (rx : RelV x u) (ry : RelV y v)
    {Q : VK} (q : sp [x, y] H Q (fun _ _ _ => False)) : wpAny (model X.prog X.w) A (call (.ref f) [u, v]) (EP X pins σ Q) X.xe s := by
  have e0 : Env0 X.prog X.w X.K X.mg X.base A X.stack s H := by
    have e := I.env0
    exact ⟨by rw [hfr]; exact e.frames, e.mod, e.bs, e.bsz, e.funs, e.frf, e.hok, e.bare⟩
  have rv : Vals [x, y] [u, v] := .cons rx (.cons ry .nil)
  have len := F.len _ _ _ _ q
  have bd : BindsTo s fd ⟨[u, v], []⟩ (ps.zip [u, v]) := by
    have z := hb s [u, v] I.kIn (by simpa using len)
    simpa using z
  refine wpAny_call (codeAny_mono (F.run A X.stack s H ⟨[u, v], []⟩ [u, v] [x, y] Q _ hr e0 bd rv q) fun r s' out => ?_)
  match r, out with
  | .error er, out => exact C8.pass0 (E := fun _ _ _ => False) pins σ H s er s' I out
  | .ok (.ret z), out => exact I.after out
theorem op_eqQ (F : FnOk X.prog X.w X.K X.mg X.base C8.CX0 n f fd ps sp) (o : OwnQ X.K C f) (hb : Binds X.K fd ps []) (hr : Room (n + 1) X.A) : OpR X (compareOp .Eq) (rEqO X.K C sp) := by
  intro pins s σ H x y v u Q I rx ry hq
  obtain ⟨a, dx, fs, t, rfl, ha, ty, nf, q⟩ := hq
  have rx' := rx
  cases rx
  obtain ⟨mA, J, _⟩ := ins_get I.hok ha
  obtain ⟨od, J, _⟩ := J.look
  obtain ⟨P, kit, hP, _⟩ := kit_of I ry ty
  have hty := kit.ty (model X.prog X.w) s.heap I.kIn hP
  obtain ⟨m, hF⟩ := I.fr
  show wpAny (model X.prog X.w) X.A (richCompare .Eq (.ref a) u) (EP X pins σ Q) X.xe s
  refine PySem.W.cmp_K (op := .Eq) (tb := t) hr.units0 hF I.ok.mod.kin J hty nf o.eq o.fn ?_
  refine wpAny_mono (run_eqQ F hb (hr.mono (by omega)) rfl I rx' ry q) (fun z s' w => ?_) fun _ _ z => z
  obtain ⟨z', H', I', rz, b, rfl, q'⟩ := w
  cases rz
  exact ⟨.bl b, H', I', rfl, q'⟩
theorem own_firstQ (K : PySem.W.Frag) (C : Addr) : PySem.W.notFirst K C (.ref C) = true := by
  unfold PySem.W.notFirst; rw [beq_self_eq_true]; rfl
end
end KN

set_option Elab.async false
set_option linter.all false
set_option maxRecDepth 100000
set_option maxHeartbeats 4000000
namespace KN
open PySem PySem.Spec PyProof.Rows L2
/-! The law. -/
structure EqAtT (P : Program) (w : World) (K : PySem.W.Frag) (mg : Str → Option Value) (base : Heap) (C : Addr) : Prop where
  ex : ∃ (f : Addr) (fd : FuncData), FnOk P w K mg base C8.CX0 1 f fd ["self", "other"] (spTEq C) ∧ OwnQ K C f ∧ Binds K fd ["self", "other"] []
def spLawB (T : List (Addr × Str)) (K : PySem.W.Frag) : Sp := fun vs H Q _ => ∃ (a : Addr) (ns : List Int), vs = [.ref a] ∧ SqL K H a (ns.map V.int) ∧ ns.length ≤ 63 ∧ T = T ∧ ∀ H', Q (.bl true) H'
section
variable {P : Program} {w : World} {K : PySem.W.Frag} {mg : Str → Option Value} {base : Heap} {C : Addr}
theorem sc_law : FnScope ["_law_script", "_law_pen_here", "_law_turn", "_law_nodes_here", "_law_sheets", "_law_kinds", "_law_tree", "_law_again_here", "_law_node", "_law_sheet"] ["_law_script"] (defScope s_law) := ⟨rfl, rfl, rfl, by decide +kernel, rfl, by decide +kernel, by decide +kernel⟩
theorem run_law {f : Addr} {fd : FuncData} (F : Fun K "law" "law" s_law f fd) {T : List (Addr × Str)} (m_len : mg "len" = none) (m_range : mg "range" = none) (m_min : mg "min" = none) (I : C8.InsC K C) (Eq_ : EqAtT P w K mg base C)
    (c__law_pen : C8.Cal P w K mg base 1 "_law_pen" (spPen K) []) (c__law_draw : C8.Cal P w K mg base 1 "_law_draw" spDraw []) (c__law_nodes : C8.Cal P w K mg base 4 "_law_nodes" spNodesL []) (c__law_words : C8.Cal P w K mg base 3 "_law_words" spWordsL []) (c__law_dealt : C8.Cal P w K mg base 2 "_law_dealt" spDealt []) (c__law_laid : C8.Cal P w K mg base 3 "_law_laid" spLaid []) (c_Tree : C8.Mak P w K mg base 5 "Tree" C (spTInit C) []) (c__law_coheres : C8.Cal P w K mg base 6 "_law_coheres" (spCoh C) []) (c__law_again : C8.Cal P w K mg base 7 "_law_again" (spAgain C) []) (c__law_fewer_right : C8.Cal P w K mg base 7 "_law_fewer_right" (spFewer C) []) (c_Tree_sheets0 : C8.Met P w K mg base 5 C "sheets" (spSheets0 C) [V.non])
    {A : Around} {outer : List Env} {s : Shared} {H : Hp} {args : Args} {us : List Value} {vs : List V} {Q : VK} {E : XK} (hr0 : Room 8 A) (e0 : Env0 P w K mg base A outer s H) (hb : BindsTo s fd args (([("_law_script" : Str)]).zip us)) (rv : Vals vs us) (h : spLawB T K vs H Q E) :
    codeAny (model P w) A (.call (.ref f) args) (CR C8.CX0 outer P w H s Q E) s := by
  obtain ⟨oc, od, kV, doc, pm, an, cdv, ct, osl, rfl, lk, hcd⟩ := F.ex
  obtain ⟨a, ns, rfl, hS, hlen, _, k⟩ := h
  obtain ⟨fe, fde, Fe, Oe, be⟩ := Eq_.ex
  refine LamX.run_ofS lk hcd sc_law hr0 e0 hb rv rfl (fun hr => ?_)
  have main : ∃ t, PSs (cxOf C8.CX0 P w K mg base ["_law_script", "_law_pen_here", "_law_turn", "_law_nodes_here", "_law_sheets", "_law_kinds", "_law_tree", "_law_again_here", "_law_node", "_law_sheet"] "law" (defScope s_law) f cdv A outer s H E).nox (defBody s_law) t ∧ t { nx := fun _ H' => Q .non H', rt := Q } (L2.start ["_law_script", "_law_pen_here", "_law_turn", "_law_nodes_here", "_law_sheets", "_law_kinds", "_law_tree", "_law_again_here", "_law_node", "_law_sheet"] [.ref a]) H := by
    have hu := hu_of hr
    refine ⟨_, (pss_cons (ps_set (i := 1) sc_law.nd rfl (Or.inr rfl) (C8.pe_c c__law_pen hr (by decide) rfl (pa_cons (pv 0) pa_nil)))
      (pss_cons (ps_for PassesOwn.never rfl (pi_range1 rfl m_range (pa_cons (pe_op op_add pe_int (pe_callB (call_min2 rfl) (by rfl) m_min (by decide +kernel) (pa_cons pe_int (pa_cons (pe_callB call_len_seq (by rfl) m_len (by decide +kernel) (pa_cons (pv 0) pa_nil)) pa_nil)))) pa_nil)) (pg_name (i := 2) sc_law.nd rfl (Or.inl rfl))
      (pss_cons (ps_set (i := 3) sc_law.nd rfl (Or.inl rfl) (C8.pe_c c__law_nodes hr (by decide) rfl (pa_cons (pv 1) (pa_cons (pe_op op_add pe_int (C8.pe_c c__law_draw hr (by decide) rfl (pa_cons (pv 1) (pa_cons pe_int pa_nil)))) (pa_cons (C8.pe_c c__law_draw hr (by decide) rfl (pa_cons (pv 1) (pa_cons pe_int pa_nil))) pa_nil)))))
      (pss_cons (ps_set (i := 4) sc_law.nd rfl (Or.inl rfl) (C8.pe_c c__law_words hr (by decide) rfl (pa_cons (pv 1) (pa_cons (C8.pe_c c__law_draw hr (by decide) rfl (pa_cons (pv 1) (pa_cons pe_int pa_nil))) pa_nil))))
      (pss_cons (ps_set (i := 5) sc_law.nd rfl (Or.inl rfl) (C8.pe_c c__law_dealt hr (by decide) rfl (pa_cons (pv 1) (pa_cons (pv 4) (pa_cons (pe_lc (own := [("_law_node", 8)]) (g := gName 8) rfl sc_law.nd (pi_list (pv 3)) (blkOk_by (own := [("_law_node", 8)]) (N := ["_law_script", "_law_pen_here", "_law_turn", "_law_nodes_here", "_law_sheets", "_law_kinds", "_law_tree", "_law_again_here", "_law_node", "_law_sheet"]) (sc := defScope s_law) (by decide +kernel)) (fun _ _ _ _ _ => pg_name (i := 8) sc_law.nd rfl (Or.inl rfl)) (fun _ _ _ _ _ => (pts_one (pt_cmpR op_eq (pe_ix (ix_tupK K) (pv 8) pe_int (fun _ _ => rfl)) pe_int (nomark _)))) (fun _ _ _ _ _ => (pv 8))) pa_nil)))))
      (pss_cons (ps_set (i := 6) sc_law.nd rfl (Or.inl rfl) (C8.pe_mk c_Tree hr (by decide) rfl (pa_cons (pv 5) (pa_cons (C8.pe_c c__law_laid hr (by decide) rfl (pa_cons (pv 1) (pa_cons (pv 3) pa_nil))) pa_nil))))
      (pss_cons (ps_if (PW.pt (pw_or (pt_not (pt_val (C8.pe_c c__law_coheres hr (by decide) rfl (pa_cons (pv 6) pa_nil)))) (pw_or1 (pt_not (pt_cmpR (op_eqQ Fe Oe be (hr.mono (by decide))) (C8.pe_c c__law_again hr (by decide) rfl (pa_cons (pv 6) pa_nil)) (pv 6) (nomark _)))))) (pss_one (ps_ret pe_bl)) pss_nil)
      (pss_cons (ps_for PassesOwn.never rfl (pi_range1 rfl m_range (pa_cons pe_int pa_nil)) (pg_name (i := 7) sc_law.nd rfl (Or.inl rfl))
      (pss_one (ps_if (pt_not (pt_val (C8.pe_c c__law_fewer_right hr (by decide) rfl (pa_cons (pv 6) (pa_cons (pe_lc (own := [("_law_sheet", 9)]) (g := gName 9) rfl sc_law.nd (pi_list (C8.pe_mt0 c_Tree_sheets0 hr (by decide) (pv 6))) (blkOk_by (own := [("_law_sheet", 9)]) (N := ["_law_script", "_law_pen_here", "_law_turn", "_law_nodes_here", "_law_sheets", "_law_kinds", "_law_tree", "_law_again_here", "_law_node", "_law_sheet"]) (sc := defScope s_law) (by decide +kernel)) (fun _ _ _ _ _ => pg_name (i := 9) sc_law.nd rfl (Or.inl rfl)) (fun _ _ _ _ _ => (pts_one (pt_cmpR op_gt (C8.pe_c c__law_draw hr (by decide) rfl (pa_cons (pv 1) (pa_cons pe_int pa_nil))) pe_int (nomark _)))) (fun _ _ _ _ _ => (pv 9))) pa_nil))))) (pss_one (ps_ret pe_bl)) pss_nil)))
      (pss_one (ps_if (PW.pt (pw_or (pt_not (pt_val (C8.pe_c c__law_fewer_right hr (by decide) rfl (pa_cons (pv 6) (pa_cons (pe_lst pa_nil) pa_nil))))) (pw_or1 (pt_not (pt_val (C8.pe_c c__law_fewer_right hr (by decide) rfl (pa_cons (pv 6) (pa_cons (C8.pe_mt0 c_Tree_sheets0 hr (by decide) (pv 6)) pa_nil)))))))) (pss_one (ps_ret pe_bl)) pss_nil)))))))))
      (pss_one (ps_ret pe_bl)))), ?_⟩
    refine ⟨_, rfl, a, ns, rfl, hS, hlen, fun H1 p c s1 np nc pen1 => ?_⟩
    have hS1 := s1.seq hS
    refine ⟨_, rfl, _, _, rfl, .inl hS1, _, _, rfl, _, _, rfl, rfl, _, rfl, ?_⟩
    generalize hN : (3 + if ((ns.map V.int).length : Int) < 5 then ((ns.map V.int).length : Int) else 5) = N
    have hN0 : 0 ≤ N ∧ N ≤ 8 := by
      rw [← hN]
      split <;> omega
    refine ⟨by omega, by omega, for_range (lo := 0) (n := N.toNat) (fun i σ' H' => ∃ (v2 v3 v4 v5 v6 v7 v8 v9 : Option V), σ' = [some (.ref a), some (.ref p), v2, v3, v4, v5, v6, v7, v8, v9] ∧ Pen H' p c (3000 * i))
      ⟨none, none, none, none, none, none, none, none, rfl, pen1.up (by omega)⟩ ?_ ?_⟩
    · rintro i σ2 H2 hi ⟨v2, v3, v4, v5, v6, v7, v8, v9, rfl, pen2⟩
      refine ⟨_, rfl, _, rfl, p, c, _, 6, rfl, pen2, by omega, by decide, by decide, fun H3 ki k3 pen3 ki0 ki1 => ⟨_, _, rfl, rfl, ?_⟩⟩
      refine ⟨_, rfl, p, c, _, 9, rfl, pen3, by omega, by decide, by decide, fun H4 ot k4 pen4 ot0 ot1 => ?_⟩
      refine ⟨p, c, _, _, _, rfl, pen4, by omega, by omega, by omega, ot0, by omega, fun H5 nl ys k5 pen5 nl0 hnl lys _ => ?_⟩
      refine ⟨_, rfl, _, rfl, p, c, _, 13, rfl, pen5, by omega, by decide, by decide, fun H6 mn k6 pen6 mn0 mn1 => ?_⟩
      refine ⟨p, c, _, mn, rfl, pen6, by omega, mn0, by omega, fun H7 sl ss k7 pen7 sl0 hsl lss wss nds => ?_⟩
      obtain ⟨hnl0, hys⟩ := hnl
      have nnlp := pen5.ne hnl0
      have nslp := pen7.ne hsl
      have hnl7 := k7 _ _ nnlp (k6 _ _ nnlp hnl0)
      have nd7 : ∀ y ∈ ys, NdA H7 y.1 y.2 ∧ NdOk y.2 := fun y hy => ⟨(pen6.tk k7) _ _ ((pen5.tk k6) _ _ (hys y hy).1), (hys y hy).2⟩
      refine ⟨_, rfl, _, rfl, _, rfl, nl, rfl, ⟨_, SqL.of hnl7⟩, fun D hD => ?_⟩
      refine lc_list (K := K) (a := nl) (xs := ys.map fun y => V.ref y.1) (fun j H' => Same H7 H' ∧ ∃ zs : List (Addr × Nd), H' D = some (.lst (zs.map fun y => V.ref y.1)) ∧ zs.length ≤ j ∧ ∀ z ∈ zs, z ∈ ys ∧ z.2.1 = 0)
        ⟨Same.new hD, [], upd_same, Nat.le_refl _, fun _ h => by cases h⟩ (fun j H' _ q => SqL.of (q.1 _ _ hnl7)) ?_ ?_
      · rintro j x H8 hj ⟨s8, zs, e8, lz, hz⟩
        rw [List.getElem?_map] at hj
        obtain ⟨u, hu1, rfl⟩ : ∃ u, ys[j]? = some u ∧ x = .ref u.1 := by
          cases e : ys[j]? with
          | none => rw [e] at hj; cases hj
          | some u => rw [e] at hj; exact ⟨u, rfl, (Option.some.inj hj).symm⟩
        have hum := List.mem_of_getElem? hu1
        have hjl : j < ys.length := (List.getElem?_eq_some_iff.mp hu1).1
        refine ⟨rfl, _, rfl, _, _, _, _, rfl, rfl, SqT.of (s8 _ _ (nd7 u hum).1), at_of (j := 0) rfl rfl, rfl, ?_⟩
        by_cases q : u.2.1 = 0
        · rw [show (decide (V.int u.2.1 = V.int 0)) = true by rw [q]; rfl]
          refine ⟨_, rfl, iteT ⟨_, rfl, _, e8, by rw [List.length_map]; exact small1000 (by omega), fun o x e => ?_, zs ++ [u], by rw [upd_same, List.map_append]; rfl, by rw [List.length_append, List.length_singleton]; omega, fun u' h' => ?_⟩⟩
          · rw [upd_ne (ne_of_none e hD)]; exact s8 _ _ e
          · rcases List.mem_append.mp h' with h | h
            · exact hz u' h
            · rw [List.mem_singleton] at h; subst h; exact ⟨hum, q⟩
        · rw [show (decide (V.int u.2.1 = V.int 0)) = false from decide_eq_false fun z => q (by injection z)]
          exact ⟨_, rfl, iteF ⟨s8, zs, e8, by omega, hz⟩⟩
      rintro H8 ⟨s8, zs, e8, lz, hz⟩
      rw [List.length_map] at lz
      have pen8 := pen7.to s8
      have lss' : ss.length ≤ 12 := by omega
      refine ⟨p, c, sl, D, _, ss, zs, rfl, pen8, by omega, s8 _ _ hsl, ⟨e8, fun z h => ⟨s8 _ _ (nd7 z (hz z h).1).1, (nd7 z (hz z h).1).2⟩⟩, fun z h => (hz z h).2, by omega, nds, by omega, wss, fun H9 d ks k9 pen9 hd0 hks kok kln pnd pl60 => ?_⟩
      have hnl9 := k9 _ _ nnlp (s8 _ _ hnl7)
      refine ⟨_, rfl, _, rfl, _, rfl, p, c, nl, _, ys, rfl, pen9, by omega, ⟨hnl9, fun y h => ⟨(pen8.tk k9) _ _ (s8 _ _ (nd7 y h).1), (nd7 y h).2⟩⟩, by omega, fun Ha d2 ps ka pena hd20 hps pok pln => ?_⟩
      intro t' dx' nt ndx ne
      have s4 : Same Ha (upd (upd Ha dx' (.own t')) t' (.ins C dx' [])) := (Same.new ndx).trans (Same.new (by rw [upd_ne ne.symm]; exact nt))
      obtain ⟨kvs, hk1, hk2⟩ := hks
      obtain ⟨kvp, hp1, hp2⟩ := hps
      have ndp : d ≠ p := (pen8.off hd0).1
      have hda := ka _ _ ndp hk1
      have ndd : d ≠ d2 := fun q => by rw [q] at hk1; rw [hk1] at hd20; cases hd20
      have nlp : ∀ {x : Addr} {xs : List V}, H9 x = some (.lst xs) → x ≠ p := fun e => pen9.ne e
      refine ⟨t', dx', d, d2, ks, ps, rfl, upd_same, ⟨kvs, s4 _ _ hda, _root_.L2.Paired.mapP hk2 fun _ _ f => ⟨f.1, f.2.imp fun l g => ⟨g.1, s4 _ _ (ka _ _ (nlp g.2) g.2)⟩⟩⟩, ⟨kvp, s4 _ _ hp1, _root_.L2.Paired.mapP hp2 fun _ _ f => ⟨f.1, f.2.to (TK.of s4)⟩⟩, ndd, kok, pok, by omega, by omega, pnd, pl60, fun H5' L k5' T5 P5 al5 => ⟨rfl, ?_⟩⟩
      have G := grown_of T5.ok2 P5 kok al5 (by omega)
      have penb : Pen H5' p c _ := pena.to (fun x o e => k5' x o (ne_of_none e nt) (s4 _ _ e))
      have hpl12 : (plOf ks).length ≤ 60 := pl60
      generalize plOf ks = pl at T5 G hpl12
      refine ⟨_, rfl, t', pl, L, rfl, T5, G, fun H6' s6' => ?_⟩
      refine ⟨true, rfl, iteF ?_⟩
      refine ⟨_, rfl, t', pl, L, rfl, T5.keep s6', G, fun H7' t2 L2 s7' t20 U7 al => ?_⟩
      have T7 := (T5.keep s6').keep s7'
      obtain ⟨dxu, _, _, _, _, BU⟩ := id U7
      obtain ⟨dxt, _, _, _, _, BT⟩ := id T7
      refine ⟨_, rfl, t2, dxu, _, .ref C, rfl, BU.ob, .base (.ins BT.ob I.cl I.ha I.hn I.htk I.hm), own_firstQ K C, t2, t', _, pl, L2, L, rfl, U7, T7, al, true, rfl, _, rfl, iteF ?_⟩
      have pen7' := (penb.to s6').to s7'
      clear U7 BU al T5 s6' penb pena pen9 pen8 pen7 pen6 pen5 pen4 pen3 P5 al5 hk1 hk2 hp1 hp2 s4 k5'
      have pin : ∀ z ∈ sortS (pl.map (·.1)), z ∈ pl.map (·.1) := fun z hz => (sortS_perm _).mem_iff.mp hz
      have pnd' : (sortS (pl.map (·.1))).Nodup := (sortS_perm _).nodup_iff.mpr G.ok.pnd
      have plen : (sortS (pl.map (·.1))).length ≤ 60 := by rw [Grown.all_len]; exact hpl12
      refine ⟨_, rfl, by decide, by decide, for_range (lo := 0) (n := 3) (fun j σ' H' => ∃ (v7 v8 v9 : Option V), σ' = [some (.ref a), some (.ref p), some (.int (0 + (i : Int))), some (.ref nl), some (.ref sl), some (.ref d), some (.ref t'), v7, v8, v9] ∧ Kp p H7' H' ∧ Pen H' p c (3000 * i + 600 + 70 * j))
        ⟨v7, v8, v9, rfl, Kp.refl p H7', pen7'.up (by omega)⟩ ?_ ?_⟩
      · rintro j σ8 Hb hj ⟨v7, v8, v9, rfl, kb, penB⟩
        have TB := T7.kp pen7' kb
        obtain ⟨dxb, _, _, _, _, BB⟩ := id TB
        refine ⟨_, rfl, _, rfl, t', dxb, _, rfl, BB.ob, tf_no _ _ (by decide +kernel) (by decide +kernel), t', pl, L, rfl, TB, fun Hc S sc S0 hS => ?_⟩
        have penC := penB.to sc
        have nSp := penC.ne hS
        refine ⟨S, rfl, ⟨_, SqL.of hS⟩, fun D hD => ?_⟩
        have nDp := penC.off hD
        refine lc_list (K := K) (a := S) (xs := (sortS (pl.map (·.1))).map V.str) (fun m H' => Kp p Hc H' ∧ Pen H' p c (3000 * i + 600 + 70 * j + m) ∧ ∃ zs : List Str, H' D = some (.lst (zs.map V.str)) ∧ zs.Sublist ((sortS (pl.map (·.1))).take m))
          ⟨Kp.new hD, (penC.put nDp).up (by omega), [], upd_same, .slnil⟩ (fun m H' _ q => SqL.of (q.1 _ _ nSp hS)) ?_ ?_
        · rintro m x Hd hm ⟨kd, pend, zs, ed, sub⟩
          rw [List.getElem?_map] at hm
          obtain ⟨z, hz1, rfl⟩ : ∃ z, (sortS (pl.map (·.1)))[m]? = some z ∧ x = .str z := by
            cases e : (sortS (pl.map (·.1)))[m]? with
            | none => rw [e] at hm; cases hm
            | some z => rw [e] at hm; exact ⟨z, rfl, (Option.some.inj hm).symm⟩
          have hml : m < (sortS (pl.map (·.1))).length := (List.getElem?_eq_some_iff.mp hz1).1
          have step : (sortS (pl.map (·.1))).take (m + 1) = (sortS (pl.map (·.1))).take m ++ [z] := by rw [List.take_add_one, hz1]; rfl
          have lzs : zs.length ≤ 60 := by have := sub.length_le; rw [List.length_take] at this; omega
          refine ⟨rfl, _, rfl, p, c, _, 3, rfl, pend, by omega, by decide, by decide, fun He r ke pene r0 r1 => ⟨_, _, rfl, rfl, _, rfl, ite2 (fun h1 => ?_) (fun h1 => ?_)⟩⟩
          · have ee := ke _ _ nDp.1 ed
            refine ⟨_, rfl, _, ee, by rw [List.length_map]; exact small1000 (by omega), fun b o q e => ?_, (pene.put nDp).up (by omega), zs ++ [z], by rw [upd_same, List.map_append]; rfl, by rw [step]; exact sub.append (List.Sublist.refl _)⟩
            rw [upd_ne (ne_of_none e hD)]; exact ke _ _ q (kd _ _ q e)
          · exact ⟨kd.trans ke, pene.up (by omega), zs, ke _ _ nDp.1 ed, by rw [step]; exact sub.trans (List.sublist_append_left _ _)⟩
        · rintro Hd ⟨kd, pend, zs, ed, sub⟩
          rw [List.length_map] at pend sub
          rw [List.take_length] at sub
          have kBd : Kp p Hb Hd := (Kp.of sc).trans kd
          refine ⟨t', D, pl, L, zs, rfl, TB.kp penB kBd, G, ed, fun z hz => pin z (sub.subset hz), sub.nodup pnd', Nat.le_trans sub.length_le plen, fun He se => ?_⟩
          refine ⟨true, rfl, iteF ?_⟩
          exact ⟨_, _, _, rfl, kb.trans (kBd.trans (Kp.of se)), (pend.to se).up (by omega)⟩
      · rintro σ8 Hb ⟨v7, v8, v9, rfl, kb, penB⟩
        have TB := T7.kp pen7' kb
        refine ⟨_, rfl, Nat.zero_le _, fun l1 hl1 => ?_⟩
        have sl1 := Same.new (o := .lst []) hl1
        have TC := TB.keep sl1
        refine ⟨t', l1, pl, L, [], rfl, TC, G, upd_same, (fun _ h => by cases h), List.nodup_nil, Nat.zero_le _, fun Hc sc => ?_⟩
        refine ⟨true, rfl, iteF ?_⟩
        have TD := TC.keep sc
        obtain ⟨dxd, _, _, _, _, BD⟩ := id TD
        refine ⟨_, rfl, _, rfl, t', dxd, _, rfl, BD.ob, tf_no _ _ (by decide +kernel) (by decide +kernel), t', pl, L, rfl, TD, fun Hd S sd S0 hS => ?_⟩
        refine ⟨t', S, pl, L, _, rfl, TD.keep sd, G, hS, pin, pnd', plen, fun He se => ?_⟩
        refine ⟨true, rfl, iteF ?_⟩
        exact ⟨_, _, _, _, _, _, _, _, rfl, (penB.to (((sl1.trans sc).trans sd).trans se)).up (by omega)⟩
    · rintro σ2 H2 ⟨v2, v3, v4, v5, v6, v7, v8, v9, rfl, pen2⟩
      exact k _
  obtain ⟨t, ht, hq⟩ := main
  exact ⟨t, ht.nox, hq⟩
end
end KN


set_option Elab.async false
set_option linter.all false
set_option maxRecDepth 100000
set_option maxHeartbeats 4000000
/-! The end, where the law's own run wants to know that no repr is under way. -/
namespace KN
open PySem PySem.Spec PyProof.Rows L2 LamX
/-- what is tracked at first: the tables, and the script where the written part has it not -/
def seen (ts : List Addr) (a : Addr) (vs : List Value) (ns : List Int) (own : Bool) : Hp := fun b =>
  if b ∈ ts then some (.tbl #[]) else if own = true ∧ b = a then some (.frz ⟨.type "list", none, .seq vs.toArray 0, #[]⟩ (.lst (ns.map V.int))) else none
section
variable {ts : List Addr} {a : Addr} {vs : List Value} {ns : List Int} {own : Bool} {b : Addr}
theorem seen_tab (h : b ∈ ts) : seen ts a vs ns own b = some (.tbl #[]) := if_pos h
theorem seen_off (h : b ∉ ts) (n : ¬ (own = true ∧ b = a)) : seen ts a vs ns own b = none := by
  unfold seen; rw [if_neg h, if_neg n]
theorem seen_cases {u : HO} (h : seen ts a vs ns own b = some u) : (b ∈ ts ∧ u = .tbl #[]) ∨ (b ∉ ts ∧ own = true ∧ b = a ∧ u = .frz ⟨.type "list", none, .seq vs.toArray 0, #[]⟩ (.lst (ns.map V.int))) := by
  unfold seen at h
  by_cases m : b ∈ ts
  · rw [if_pos m] at h; exact .inl ⟨m, (Option.some.inj h).symm⟩
  · rw [if_neg m] at h
    by_cases n : own = true ∧ b = a
    · rw [if_pos n] at h; exact .inr ⟨m, n.1, n.2, (Option.some.inj h).symm⟩
    · rw [if_neg n] at h; cases h
end
theorem not_tab {h : Heap} {b : Addr} {o : Obj} (e : h.get? b = some o) (t : h.get? b = some { cls := .none, data := .fields #[] }) : o.data = .fields #[] := by
  rw [e] at t; cases t; rfl
/-- the law called by the claim's caller: its own run is told of that place alone -/
theorem called_there {P : Program} {w : World} {K : PySem.W.Frag} {mg mb : Str → Option Value} {fa a : Addr} {cs : List (Addr × Addr)} {fd : FuncData} {x : Str} {sp : Sp} {s₁ : Shared} {vs : List Value} {ns : List Int}
    (kin : K.In s₁.heap) (glob : s₁.heap.Ns mainGlobals mg) (blt : s₁.heap.Ns builtinsNs mb) (boot : ∀ x : Str, x ≠ "__name__" → mb x = bootBuiltins x) (free : s₁.heap.NoLimit) (still : s₁.gens = #[])
    (tabs : ∀ p ∈ cs, s₁.heap.get? p.2 = some { cls := .none, data := .fields #[] }) (apart : ∀ p ∈ cs, K.lookup p.2 = none) (heads : ∀ p ∈ cs, PySem.W.CodeHd s₁.heap p.1 p.2)
    (bm : ∃ (bm : Addr) (ob : Obj), mg "__builtins__" = some (.ref bm) ∧ bm ≠ builtinsNs ∧ s₁.heap.get? bm = some ob ∧ ob.cls = .type "module" ∧ ob.dict = some builtinsNs ∧ ob.data = .plain)
    (arg : s₁.heap.get? a = some { cls := .type "list", data := .seq vs.toArray }) (whole : IntsAre vs ns) (few : ns.length ≤ sizeLine)
    (run : ∀ (base : Heap) (H : Hp), K.In base → base.Ns mainGlobals mg → (∀ p ∈ cs, TabB base mg p.1 p.2) → Env0 P w K mg base callerA [] s₁ H → BindsTo s₁ fd ⟨[.ref a], []⟩ [(x, .ref a)] → Vals [V.ref a] [Value.ref a] → sp [.ref a] H (fun v _ => v = .bl true) (fun _ _ _ => False) →
      codeAny (model P w) callerA (.call (.ref fa) ⟨[.ref a], []⟩) (CR C8.CX0 [] P w H s₁ (fun v _ => v = .bl true) (fun _ _ _ => False)) s₁)
    (bind : ∀ (s : Shared) (u : Value), BindsTo s fd ⟨[u], []⟩ [(x, u)])
    (told : ∀ H : Hp, (∀ p ∈ cs, H p.2 = some (.tbl #[])) → SqL K H a (ns.map V.int) → sp [.ref a] H (fun v _ => v = .bl true) fun _ _ _ => False) :
    codeAny (model P w) callerA (.call (.ref fa) ⟨[.ref a], []⟩) (fun r s' => r = .ok (.ret (.bool true)) ∧ OldK s₁.heap s'.heap ∧ s'.os = s₁.os ∧ AllBare s'.gens) s₁ := by
  have rv := vals_ints whole
  have lenV := whole.length
  have inT : ∀ {p : Addr × Addr}, p ∈ cs → p.2 ∈ cs.map (·.2) := fun hp => List.mem_map.mpr ⟨_, hp, rfl⟩
  have tabAt : ∀ {b : Addr}, b ∈ cs.map (·.2) → s₁.heap.get? b = some { cls := .none, data := .fields #[] } := fun hb => by
    obtain ⟨p, hp, rfl⟩ := List.mem_map.mp hb
    exact tabs p hp
  have aOff : a ∉ cs.map (·.2) := fun z => by
    have q := not_tab arg (tabAt z)
    cases q
  obtain ⟨own, ownIff⟩ : ∃ own : Bool, own = true ↔ K.lookup a = none := ⟨decide (K.lookup a = none), by simp⟩
  generalize hH : seen (cs.map (·.2)) a vs ns own = H
  have at_ : ∀ {b : Addr} {u : HO}, H b = some u → (b ∈ cs.map (·.2) ∧ u = .tbl #[]) ∨ (b ∉ cs.map (·.2) ∧ own = true ∧ b = a ∧ u = .frz ⟨.type "list", none, .seq vs.toArray 0, #[]⟩ (.lst (ns.map V.int))) := fun e => by
    rw [← hH] at e; exact seen_cases e
  have tabH : ∀ p ∈ cs, H p.2 = some (.tbl #[]) := fun p hp => by rw [← hH]; exact seen_tab (inT hp)
  -- what is neither a list nor an empty table isn't tracked
  have plain : ∀ {b : Addr} {o : Obj}, s₁.heap.get? b = some o → (∀ its n, o.data ≠ .seq its n) → o.data ≠ .fields #[] → H b = none := fun {b o} e n1 n2 => by
    cases q : H b with
    | none => rfl
    | some u =>
      rcases at_ q with ⟨m, _⟩ | ⟨_, _, rfl, _⟩
      · exact (n2 (not_tab e (tabAt m))).elim
      · rw [arg] at e; cases e; exact (n1 _ _ rfl).elim
  have dictOff : ∀ {b : Addr} {o : Obj} {es : Array DictEntry} {n : Nat}, s₁.heap.get? b = some o → o.data = .dict es n → H b = none := fun e d =>
    plain e (fun its n z => by rw [d] at z; cases z) (fun z => by rw [d] at z; cases z)
  have inK : ∀ {b : Addr} {o : Obj}, K.lookup b = some o → H b = none := fun {b o} e => by
    cases q : H b with
    | none => rfl
    | some u =>
      rcases at_ q with ⟨m, _⟩ | ⟨_, ho, rfl, _⟩
      · obtain ⟨p, hp, rfl⟩ := List.mem_map.mp m
        rw [apart p hp] at e; cases e
      · rw [ownIff.mp ho] at e; cases e
  have script : SqL K H a (ns.map V.int) := by
    cases hk : K.lookup a with
    | some o =>
      have e := kin a o hk
      rw [arg] at e; cases e
      exact .inr ⟨_, vs.toArray, 0, hk, rfl, rfl, rfl, by rw [List.size_toArray, lenV]; exact few, by simpa using rv⟩
    | none => exact .inl (.inr ⟨_, by rw [← hH]; unfold seen; rw [if_neg aOff, if_pos ⟨ownIff.mpr hk, rfl⟩]⟩)
  have hok : HOk P w H s₁.heap := fun b u e => by
    rcases at_ e with ⟨m, rfl⟩ | ⟨_, _, rfl, rfl⟩
    · exact tabAt m
    · exact ⟨arg, by rw [List.length_map]; exact few, vs, 0, rv, arg⟩
  have nsB : ∀ {b : Addr} {m : Str → Option Value}, s₁.heap.Ns b m → (hidT s₁.heap H).Ns b m := fun ⟨o, es, n, e, d, r⟩ => ⟨o, es, n, hidT_get e (dictOff e d), d, r⟩
  have kinB : K.In (hidT s₁.heap H) := fun b o e => hidT_get (kin b o e) (inK e)
  have tb : ∀ p ∈ cs, TabB (hidT s₁.heap H) mg p.1 p.2 := fun p hp => by
    refine ⟨?_, ?_, fun z => ?_⟩
    · obtain ⟨o, us, file, tf, flags, tg, inF, text, tt, e, r1, r2, r3, rest⟩ := heads p hp
      exact ⟨o, us, file, tf, flags, tg, inF, text, tt, hidT_get e (plain e (fun its n z => by rw [r2] at z; cases z) (fun z => by rw [r2] at z; cases z; simp at r3)), r1, r2, r3, rest⟩
    · obtain ⟨bm, ob, b1, b2, b3, b4, b5, b6⟩ := bm
      refine ⟨bm, ob, b1, b2, fun q => ?_, fun q => ?_, hidT_get b3 (plain b3 (fun its n z => by rw [b6] at z; cases z) (fun z => by rw [b6] at z; cases z)), b4, b5, b6⟩
      · obtain ⟨o, es, n, e, d, _⟩ := glob
        rw [q, e] at b3; cases b3; rw [d] at b6; cases b6
      · have := not_tab b3 (by rw [q]; exact tabs p hp)
        rw [b6] at this; cases this
    · obtain ⟨o, es, n, e, d, _⟩ := glob
      rw [z] at e
      have := not_tab e (tabs p hp)
      rw [d] at this; cases this
  have e0 : Env0 P w K mg (hidT s₁.heap H) callerA [] s₁ H := ⟨rfl, ⟨kinB, nsB glob, ⟨mb, nsB blt, boot⟩, let ⟨mc, h1, h2⟩ := free; ⟨mc, nsB h1, h2⟩⟩, fun b o e => of_hidT e, Nat.le_of_eq (hidT_size _ _), trivial,
    (fun b hb => absurd (show b ∈ ([] : List Addr) from hb) (by simp)), hok, .of_eq still⟩
  refine codeAny_mono (run _ H kinB (nsB glob) tb e0 (bind s₁ (.ref a)) (.cons rfl .nil) (told H tabH script)) fun r s' out => ?_
  match r, out with
  | .error e, out => exact (show False from out).elim
  | .ok (.ret u), out =>
    obtain ⟨v, H', os, bare, un, hok', ru, rfl⟩ := out
    obtain rfl : u = Value.bool true := ru
    have kept : ∀ b o, b ∉ cs.map (·.2) → s₁.heap.get? b = some o → s'.heap.get? b = some o := fun b o nb e => by
      cases q : H b with
      | none => exact un.keep b o e q (fun z => absurd (show b ∈ ([] : List Addr) from z) (by simp)) (by simp)
      | some u =>
        rcases at_ q with ⟨m, _⟩ | ⟨_, _, rfl, rfl⟩
        · exact (nb m).elim
        · obtain ⟨z1, _⟩ := hok _ _ q
          obtain ⟨z2, _⟩ := hok' _ _ (un.frzs _ _ _ q)
          rw [e] at z1; cases z1; exact z2
    have grown : ∀ p ∈ cs, ∃ more : Array Value, s'.heap.get? p.2 = some { cls := .none, data := .fields more } := fun p hp => by
      obtain ⟨more, z⟩ := un.tbls p.2 #[] (tabH p hp)
      exact ⟨_, hok' _ _ z⟩
    have two : ∀ b o, s₁.heap.get? b = some o → (b ∈ cs.map (·.2) ∧ ∃ p ∈ cs, p.2 = b) ∨ b ∉ cs.map (·.2) := fun b o e => by
      by_cases m : b ∈ cs.map (·.2)
      · obtain ⟨p, hp, z⟩ := List.mem_map.mp m
        exact .inl ⟨m, p, hp, z⟩
      · exact .inr m
    refine ⟨rfl, ⟨fun b o e => ?_, fun b o e => ?_⟩, os, bare⟩
    · rcases two b o e with ⟨_, p, hp, rfl⟩ | nb
      · obtain ⟨more, hm⟩ := grown p hp
        rw [tabs p hp] at e; cases e
        exact .inr (.inl ⟨((heads p hp).tab (tabs p hp)).isCodeTable, rfl, #[], more, rfl, by rw [Array.empty_append]; exact hm⟩)
      · exact .inl (kept b o nb e)
    · rcases two b o e with ⟨_, p, hp, rfl⟩ | nb
      · exact ⟨_, (grown p hp).choose_spec⟩
      · exact ⟨o, kept b o nb e⟩
theorem walk_there {l : PySem.W.OpenLaw} {n : Nat} {q : Program} {loose : List Str} {XP : (Str → Option Value) → Heap → Prop} {YP : World → Heap → Prop} {d : DefRec} {x : Str} (most : l.most = some n) (fits : n ≤ sizeLine) (plain : d.params.defaults = [])
    (F : ∀ (w : World) (mg : Str → Option Value) (fa : Addr) (h : Heap), YP w h → h.Ns mainGlobals mg → mg d.name = some (.ref fa) →
      ∃ (K : PySem.W.Frag) (fd : FuncData) (cs : List (Addr × Addr)) (sp : Sp), K.In h ∧ (∀ p ∈ cs, h.get? p.2 = some { cls := .none, data := .fields #[] }) ∧ (∀ p ∈ cs, K.lookup p.2 = none) ∧ (∀ p ∈ cs, PySem.W.CodeHd h p.1 p.2) ∧ (∀ (s : Shared) (u : Value), BindsTo s fd ⟨[u], []⟩ [(x, u)]) ∧
        (∀ (H : Hp) (a : Addr) (ns : List Int), ns.length ≤ n → (∀ p ∈ cs, H p.2 = some (.tbl #[])) → SqL K H a (ns.map V.int) → sp [.ref a] H (fun v _ => v = .bl true) fun _ _ _ => False) ∧
        ∀ (s₁ : Shared) (base : Heap) (H : Hp) (a : Addr), K.In base → base.Ns mainGlobals mg → (∀ p ∈ cs, TabB base mg p.1 p.2) → Env0 l.prog w K mg base callerA [] s₁ H → BindsTo s₁ fd ⟨[.ref a], []⟩ [(x, .ref a)] → Vals [V.ref a] [Value.ref a] → sp [.ref a] H (fun v _ => v = .bl true) (fun _ _ _ => False) →
          codeAny (model l.prog w) callerA (.call (.ref fa) ⟨[.ref a], []⟩) (CR C8.CX0 [] l.prog w H s₁ (fun v _ => v = .bl true) (fun _ _ _ => False)) s₁) :
    PySem.W.WalkO q loose XP YP l.row.toRowW d [] (fun f vs => PySem.call f vs) := by
  refine Att.attach_callB most plain fun w s₀ s₁ mg mb fa o pm cd doc a vs ns G Y ho hd hcd hmg arg whole short _ still => ?_
  obtain ⟨K, fd, cs, sp, kin, tabs, apart, heads, bind, told, run⟩ := F w mg fa _ Y G.T.g hmg
  exact called_there kin G.T.g G.T.b G.T.builtins G.T.nolimit still tabs apart heads G.T.bmain arg whole (Nat.le_trans short fits) (fun base H => run s₁ base H a) bind fun H t => told H a ns short t
end KN

set_option Elab.async false
set_option linter.all false
set_option maxRecDepth 100000
set_option maxHeartbeats 4000000
namespace KN
open PySem L2
theorem fun_of {K : PySem.W.Frag} {x qual : Str} {st : Stmt} {f : Addr} {fd : FuncData} {kws : List (Str × V)} (F : FunD K x qual (defArgs st) (defBody st) (defScope st) [] kws f fd) : Fun K x qual st f fd := by
  obtain ⟨⟨oc, od, dV, kV, doc, pm, an, cdv, ct, osl, e, l, c, h, _⟩, k⟩ := F
  rcases h with ⟨_, rfl⟩ | ⟨h, _⟩
  · exact ⟨⟨oc, od, kV, doc, pm, an, cdv, ct, osl, e, l, c⟩, k⟩
  · exact absurd rfl h
theorem fund_form {K : PySem.W.Frag} {x qual : Str} {params : Arguments} {body : List Stmt} {scope : Scope} {f : Addr} {fd : FuncData} {dvs : List V} {kws : List (Str × V)} (F : FunD K x qual params body scope dvs kws f fd) (e : dvs = []) : ∃ (kV doc pm : Value) (an : Option Addr) (cdv ct : Value), fd = PySem.W.fnOf x qual params body scope .none kV doc pm an cdv ct := by
  subst e
  obtain ⟨⟨oc, od, dV, kV, doc, pm, an, cdv, ct, osl, e, l, c, h, _⟩, k⟩ := F
  rcases h with ⟨_, rfl⟩ | ⟨h, _⟩
  · exact ⟨kV, doc, pm, an, cdv, ct, e⟩
  · exact absurd rfl h
set_option maxHeartbeats 0 in
theorem facts {l : PySem.W.OpenLaw} {w : World} {K : PySem.W.Frag} {h : Heap} {mg : Str → Option Value} {f : Addr} (X : K.In h) (G : h.Ns mainGlobals mg) (hfa : mg "law" = some (.ref f)) (cY : SaysY fa fn tf_ ex h K) :
    ∃ fd : FuncData, (∀ (s : Shared) (v : Value), BindsTo s fd ⟨[v], []⟩ [("_law_script", v)]) ∧ ∀ (s₁ : Shared) (base : Heap) (H : Hp) (a : Addr), K.In base → base.Ns mainGlobals mg → (∀ p ∈ ([] : List (Addr × Addr)), LamX.TabB base mg p.1 p.2) → Env0 l.prog w K mg base callerA [] s₁ H → BindsTo s₁ fd ⟨[.ref a], []⟩ [("_law_script", .ref a)] → Vals [V.ref a] [Value.ref a] → spLawB (tabT K) K [.ref a] H (fun v _ => v = .bl true) (fun _ _ _ => False) →
      codeAny (model l.prog w) callerA (.call (.ref f) ⟨[.ref a], []⟩) (CR C8.CX0 [] l.prog w H s₁ (fun v _ => v = .bl true) (fun _ _ _ => False)) s₁ := by
  have c := cY.d
  have cx := cY.more
  have e := hfa.symm.trans (He.glo_ok X G (c.fact 0 rfl))
  cases e
  obtain ⟨z_ln, cx⟩ := He.ba cx
  obtain ⟨z_lf, cx⟩ := He.ba cx
  obtain ⟨z_eq, cx⟩ := He.ba cx
  obtain ⟨z_ef, cx⟩ := He.ba cx
  obtain ⟨z_tha, cx⟩ := He.ba cx
  obtain ⟨z_thn, cx⟩ := He.ba cx
  obtain ⟨z_thtk, cx⟩ := He.ba cx
  obtain ⟨z_thm, cx⟩ := He.ba cx
  have z_tme := cx
  have OL : OwnLen K (He.ga K "Tree") (He.fAd K ("Tree", some "__len__")) := ⟨of_decide_eq_true z_ln, z_lf⟩
  have OQ : OwnQ K (He.ga K "Tree") (He.fAd K ("Tree", some "__eq__")) := ⟨of_decide_eq_true z_eq, z_ef⟩
  have K_Tree : TrT K (He.ga K "Tree") := ⟨He.cls_ok (c.fact 1 rfl), He.noat_ok (c.fact 2 rfl), He.noat_ok (c.fact 3 rfl)⟩
  have I_Tree : C8.InsC K (He.ga K "Tree") := ⟨He.cls_ok (c.fact 1 rfl), of_decide_eq_true z_tha, of_decide_eq_true z_thn, of_decide_eq_true z_thtk, of_decide_eq_true z_thm, of_decide_eq_true z_tme⟩
  have m_len := He.free_ok X G (c.fact 4 rfl)
  have m_abs := He.free_ok X G (c.fact 5 rfl)
  have m_range := He.free_ok X G (c.fact 6 rfl)
  have m_isinstance := He.free_ok X G (c.fact 7 rfl)
  have m_int := He.free_ok X G (c.fact 8 rfl)
  have m_bool := He.free_ok X G (c.fact 9 rfl)
  have m_str := He.free_ok X G (c.fact 10 rfl)
  have m_all := He.free_ok X G (c.fact 11 rfl)
  have m_tuple := He.free_ok X G (c.fact 12 rfl)
  have m_list := He.free_ok X G (c.fact 13 rfl)
  have m_set := He.free_ok X G (c.fact 14 rfl)
  have m_dict := He.free_ok X G (c.fact 15 rfl)
  have m_sorted := He.free_ok X G (c.fact 16 rfl)
  have m_sum := He.free_ok X G (c.fact 17 rfl)
  have m_min := He.free_ok X G (c.fact 18 rfl)
  have gl_MOST_LETTERS : ∃ u, mg "MOST_LETTERS" = some u ∧ RelV (.int 12) u := let ⟨t, h⟩ := He.int_ok X G (c.fact 19 rfl); ⟨_, h, t, rfl⟩
  have gl_LETTERS : ∃ u, mg "LETTERS" = some u ∧ RelV (.str letters) u := let ⟨t, h⟩ := He.str_ok X G (c.fact 20 rfl); ⟨_, h, t, rfl⟩
  have gl_MOST_RANK : ∃ u, mg "MOST_RANK" = some u ∧ RelV (.int 5) u := let ⟨t, h⟩ := He.int_ok X G (c.fact 21 rfl); ⟨_, h, t, rfl⟩
  have gl_Tree : ∃ u, mg "Tree" = some u ∧ RelV (.ref (He.ga K "Tree")) u := ⟨_, He.glo_ok X G (c.fact 22 rfl), rfl⟩
  obtain ⟨fd0, G0⟩ := c.def_ 0 (d := d0) rfl
  obtain ⟨kV0, dc0, pm0, an0, cd0, ct0, rfl⟩ := fund_form G0 rfl
  obtain ⟨fd1, G1⟩ := c.def_ 1 (d := d1) rfl
  obtain ⟨kV1, dc1, pm1, an1, cd1, ct1, rfl⟩ := fund_form G1 rfl
  obtain ⟨fd2, G2⟩ := c.def_ 2 (d := d2) rfl
  obtain ⟨kV2, dc2, pm2, an2, cd2, ct2, rfl⟩ := fund_form G2 rfl
  obtain ⟨fd3, G3⟩ := c.def_ 3 (d := d3) rfl
  obtain ⟨kV3, dc3, pm3, an3, cd3, ct3, rfl⟩ := fund_form G3 rfl
  obtain ⟨fd4, G4⟩ := c.def_ 4 (d := d4) rfl
  obtain ⟨kV4, dc4, pm4, an4, cd4, ct4, rfl⟩ := fund_form G4 rfl
  obtain ⟨fd5, G5⟩ := c.def_ 5 (d := d5) rfl
  obtain ⟨kV5, dc5, pm5, an5, cd5, ct5, rfl⟩ := fund_form G5 rfl
  obtain ⟨fd6, G6⟩ := c.def_ 6 (d := d6) rfl
  obtain ⟨kV6, dc6, pm6, an6, cd6, ct6, rfl⟩ := fund_form G6 rfl
  obtain ⟨fd7, G7⟩ := c.def_ 7 (d := d7) rfl
  obtain ⟨kV7, dc7, pm7, an7, cd7, ct7, rfl⟩ := fund_form G7 rfl
  obtain ⟨fd8, G8⟩ := c.def_ 8 (d := d8) rfl
  obtain ⟨kV8, dc8, pm8, an8, cd8, ct8, rfl⟩ := fund_form G8 rfl
  obtain ⟨fd9, G9⟩ := c.def_ 9 (d := d9) rfl
  obtain ⟨kV9, dc9, pm9, an9, cd9, ct9, rfl⟩ := fund_form G9 rfl
  obtain ⟨fd10, G10⟩ := c.def_ 10 (d := d10) rfl
  obtain ⟨kV10, dc10, pm10, an10, cd10, ct10, rfl⟩ := fund_form G10 rfl
  obtain ⟨fd11, G11⟩ := c.def_ 11 (d := d11) rfl
  obtain ⟨kV11, dc11, pm11, an11, cd11, ct11, rfl⟩ := fund_form G11 rfl
  obtain ⟨fd12, G12⟩ := c.def_ 12 (d := d12) rfl
  obtain ⟨fd13, G13⟩ := c.def_ 13 (d := d13) rfl
  obtain ⟨kV13, dc13, pm13, an13, cd13, ct13, rfl⟩ := fund_form G13 rfl
  obtain ⟨fd14, G14⟩ := c.def_ 14 (d := d14) rfl
  obtain ⟨kV14, dc14, pm14, an14, cd14, ct14, rfl⟩ := fund_form G14 rfl
  obtain ⟨fd15, G15⟩ := c.def_ 15 (d := d15) rfl
  obtain ⟨kV15, dc15, pm15, an15, cd15, ct15, rfl⟩ := fund_form G15 rfl
  obtain ⟨fd16, G16⟩ := c.def_ 16 (d := d16) rfl
  obtain ⟨kV16, dc16, pm16, an16, cd16, ct16, rfl⟩ := fund_form G16 rfl
  obtain ⟨fd17, G17⟩ := c.def_ 17 (d := d17) rfl
  obtain ⟨fd18, G18⟩ := c.def_ 18 (d := d18) rfl
  obtain ⟨kV18, dc18, pm18, an18, cd18, ct18, rfl⟩ := fund_form G18 rfl
  obtain ⟨fd19, G19⟩ := c.def_ 19 (d := d19) rfl
  obtain ⟨kV19, dc19, pm19, an19, cd19, ct19, rfl⟩ := fund_form G19 rfl
  obtain ⟨fd20, G20⟩ := c.def_ 20 (d := d20) rfl
  obtain ⟨kV20, dc20, pm20, an20, cd20, ct20, rfl⟩ := fund_form G20 rfl
  obtain ⟨fd21, G21⟩ := c.def_ 21 (d := d21) rfl
  obtain ⟨kV21, dc21, pm21, an21, cd21, ct21, rfl⟩ := fund_form G21 rfl
  obtain ⟨fd22, G22⟩ := c.def_ 22 (d := d22) rfl
  obtain ⟨kV22, dc22, pm22, an22, cd22, ct22, rfl⟩ := fund_form G22 rfl
  obtain ⟨fd23, G23⟩ := c.def_ 23 (d := d23) rfl
  obtain ⟨kV23, dc23, pm23, an23, cd23, ct23, rfl⟩ := fund_form G23 rfl
  obtain ⟨fd24, G24⟩ := c.def_ 24 (d := d24) rfl
  obtain ⟨kV24, dc24, pm24, an24, cd24, ct24, rfl⟩ := fund_form G24 rfl
  obtain ⟨fd25, G25⟩ := c.def_ 25 (d := d25) rfl
  obtain ⟨kV25, dc25, pm25, an25, cd25, ct25, rfl⟩ := fund_form G25 rfl
  obtain ⟨fd26, G26⟩ := c.def_ 26 (d := d26) rfl
  obtain ⟨kV26, dc26, pm26, an26, cd26, ct26, rfl⟩ := fund_form G26 rfl
  obtain ⟨fd27, G27⟩ := c.def_ 27 (d := d27) rfl
  obtain ⟨kV27, dc27, pm27, an27, cd27, ct27, rfl⟩ := fund_form G27 rfl
  obtain ⟨fd28, G28⟩ := c.def_ 28 (d := d28) rfl
  obtain ⟨kV28, dc28, pm28, an28, cd28, ct28, rfl⟩ := fund_form G28 rfl
  obtain ⟨fd29, G29⟩ := c.def_ 29 (d := d29) rfl
  obtain ⟨kV29, dc29, pm29, an29, cd29, ct29, rfl⟩ := fund_form G29 rfl
  obtain ⟨fd30, G30⟩ := c.def_ 30 (d := d30) rfl
  obtain ⟨kV30, dc30, pm30, an30, cd30, ct30, rfl⟩ := fund_form G30 rfl
  obtain ⟨fd31, G31⟩ := c.def_ 31 (d := d31) rfl
  obtain ⟨kV31, dc31, pm31, an31, cd31, ct31, rfl⟩ := fund_form G31 rfl
  have H0 : FunD K "_law_pen" "_law_pen" (defArgs s__law_pen) (defBody s__law_pen) (defScope s__law_pen) [] [] (He.fAd K ("_law_pen", none)) (PySem.W.fnOf "_law_pen" "_law_pen" (defArgs s__law_pen) (defBody s__law_pen) (defScope s__law_pen) .none kV0 dc0 pm0 an0 cd0 ct0) := G0
  have F0 : Fun K "_law_pen" "_law_pen" s__law_pen (He.fAd K ("_law_pen", none)) (PySem.W.fnOf "_law_pen" "_law_pen" (defArgs s__law_pen) (defBody s__law_pen) (defScope s__law_pen) .none kV0 dc0 pm0 an0 cd0 ct0) := fun_of H0
  have b0 := F0.binds (ps := ["_law_script"]) fun _ _ _ _ _ _ us hl => match us, hl with | [_], _ => rfl
  have H1 : FunD K "_law_draw" "_law_draw" (defArgs s__law_draw) (defBody s__law_draw) (defScope s__law_draw) [] [] (He.fAd K ("_law_draw", none)) (PySem.W.fnOf "_law_draw" "_law_draw" (defArgs s__law_draw) (defBody s__law_draw) (defScope s__law_draw) .none kV1 dc1 pm1 an1 cd1 ct1) := G1
  have F1 : Fun K "_law_draw" "_law_draw" s__law_draw (He.fAd K ("_law_draw", none)) (PySem.W.fnOf "_law_draw" "_law_draw" (defArgs s__law_draw) (defBody s__law_draw) (defScope s__law_draw) .none kV1 dc1 pm1 an1 cd1 ct1) := fun_of H1
  have b1 := F1.binds (ps := ["_law_pen_here", "_law_many"]) fun _ _ _ _ _ _ us hl => match us, hl with | [_, _], _ => rfl
  have H2 : FunD K "is_number" "is_number" (defArgs s_is_number) (defBody s_is_number) (defScope s_is_number) [] [] (He.fAd K ("is_number", none)) (PySem.W.fnOf "is_number" "is_number" (defArgs s_is_number) (defBody s_is_number) (defScope s_is_number) .none kV2 dc2 pm2 an2 cd2 ct2) := G2
  have F2 : Fun K "is_number" "is_number" s_is_number (He.fAd K ("is_number", none)) (PySem.W.fnOf "is_number" "is_number" (defArgs s_is_number) (defBody s_is_number) (defScope s_is_number) .none kV2 dc2 pm2 an2 cd2 ct2) := fun_of H2
  have b2 := F2.binds (ps := ["thing", "low", "high"]) fun _ _ _ _ _ _ us hl => match us, hl with | [_, _, _], _ => rfl
  have H3 : FunD K "is_word" "is_word" (defArgs s_is_word) (defBody s_is_word) (defScope s_is_word) [] [] (He.fAd K ("is_word", none)) (PySem.W.fnOf "is_word" "is_word" (defArgs s_is_word) (defBody s_is_word) (defScope s_is_word) .none kV3 dc3 pm3 an3 cd3 ct3) := G3
  have F3 : Fun K "is_word" "is_word" s_is_word (He.fAd K ("is_word", none)) (PySem.W.fnOf "is_word" "is_word" (defArgs s_is_word) (defBody s_is_word) (defScope s_is_word) .none kV3 dc3 pm3 an3 cd3 ct3) := fun_of H3
  have b3 := F3.binds (ps := ["thing"]) fun _ _ _ _ _ _ us hl => match us, hl with | [_], _ => rfl
  have H4 : FunD K "is_list" "is_list" (defArgs s_is_list) (defBody s_is_list) (defScope s_is_list) [] [] (He.fAd K ("is_list", none)) (PySem.W.fnOf "is_list" "is_list" (defArgs s_is_list) (defBody s_is_list) (defScope s_is_list) .none kV4 dc4 pm4 an4 cd4 ct4) := G4
  have F4 : Fun K "is_list" "is_list" s_is_list (He.fAd K ("is_list", none)) (PySem.W.fnOf "is_list" "is_list" (defArgs s_is_list) (defBody s_is_list) (defScope s_is_list) .none kV4 dc4 pm4 an4 cd4 ct4) := fun_of H4
  have b4 := F4.binds (ps := ["thing"]) fun _ _ _ _ _ _ us hl => match us, hl with | [_], _ => rfl
  have H5 : FunD K "are_sheets" "are_sheets" (defArgs s_are_sheets) (defBody s_are_sheets) (defScope s_are_sheets) [] [] (He.fAd K ("are_sheets", none)) (PySem.W.fnOf "are_sheets" "are_sheets" (defArgs s_are_sheets) (defBody s_are_sheets) (defScope s_are_sheets) .none kV5 dc5 pm5 an5 cd5 ct5) := G5
  have F5 : Fun K "are_sheets" "are_sheets" s_are_sheets (He.fAd K ("are_sheets", none)) (PySem.W.fnOf "are_sheets" "are_sheets" (defArgs s_are_sheets) (defBody s_are_sheets) (defScope s_are_sheets) .none kV5 dc5 pm5 an5 cd5 ct5) := fun_of H5
  have b5 := F5.binds (ps := ["thing"]) fun _ _ _ _ _ _ us hl => match us, hl with | [_], _ => rfl
  have H6 : FunD K "is_node" "is_node" (defArgs s_is_node) (defBody s_is_node) (defScope s_is_node) [] [] (He.fAd K ("is_node", none)) (PySem.W.fnOf "is_node" "is_node" (defArgs s_is_node) (defBody s_is_node) (defScope s_is_node) .none kV6 dc6 pm6 an6 cd6 ct6) := G6
  have F6 : Fun K "is_node" "is_node" s_is_node (He.fAd K ("is_node", none)) (PySem.W.fnOf "is_node" "is_node" (defArgs s_is_node) (defBody s_is_node) (defScope s_is_node) .none kV6 dc6 pm6 an6 cd6 ct6) := fun_of H6
  have b6 := F6.binds (ps := ["thing"]) fun _ _ _ _ _ _ us hl => match us, hl with | [_], _ => rfl
  have H7 : FunD K "are_sheets" "are_sheets" (defArgs s_are_sheets) (defBody s_are_sheets) (defScope s_are_sheets) [] [] (He.fAd K ("are_sheets", none)) (PySem.W.fnOf "are_sheets" "are_sheets" (defArgs s_are_sheets) (defBody s_are_sheets) (defScope s_are_sheets) .none kV5 dc5 pm5 an5 cd5 ct5) := G5
  have F7 : Fun K "are_sheets" "are_sheets" s_are_sheets (He.fAd K ("are_sheets", none)) (PySem.W.fnOf "are_sheets" "are_sheets" (defArgs s_are_sheets) (defBody s_are_sheets) (defScope s_are_sheets) .none kV5 dc5 pm5 an5 cd5 ct5) := fun_of H7
  have b7 := F7.binds (ps := ["thing"]) fun _ _ _ _ _ _ us hl => match us, hl with | [_], _ => rfl
  have H8 : FunD K "_lies_well" "_lies_well" (defArgs s__lies_well) (defBody s__lies_well) (defScope s__lies_well) [] [] (He.fAd K ("_lies_well", none)) (PySem.W.fnOf "_lies_well" "_lies_well" (defArgs s__lies_well) (defBody s__lies_well) (defScope s__lies_well) .none kV7 dc7 pm7 an7 cd7 ct7) := G7
  have F8 : Fun K "_lies_well" "_lies_well" s__lies_well (He.fAd K ("_lies_well", none)) (PySem.W.fnOf "_lies_well" "_lies_well" (defArgs s__lies_well) (defBody s__lies_well) (defScope s__lies_well) .none kV7 dc7 pm7 an7 cd7 ct7) := fun_of H8
  have b8 := F8.binds (ps := ["node", "outer"]) fun _ _ _ _ _ _ us hl => match us, hl with | [_, _], _ => rfl
  have H9 : FunD K "_is_kinds" "_is_kinds" (defArgs s__is_kinds) (defBody s__is_kinds) (defScope s__is_kinds) [] [] (He.fAd K ("_is_kinds", none)) (PySem.W.fnOf "_is_kinds" "_is_kinds" (defArgs s__is_kinds) (defBody s__is_kinds) (defScope s__is_kinds) .none kV8 dc8 pm8 an8 cd8 ct8) := G8
  have F9 : Fun K "_is_kinds" "_is_kinds" s__is_kinds (He.fAd K ("_is_kinds", none)) (PySem.W.fnOf "_is_kinds" "_is_kinds" (defArgs s__is_kinds) (defBody s__is_kinds) (defScope s__is_kinds) .none kV8 dc8 pm8 an8 cd8 ct8) := fun_of H9
  have b9 := F9.binds (ps := ["thing"]) fun _ _ _ _ _ _ us hl => match us, hl with | [_], _ => rfl
  have H10 : FunD K "_is_parents" "_is_parents" (defArgs s__is_parents) (defBody s__is_parents) (defScope s__is_parents) [] [] (He.fAd K ("_is_parents", none)) (PySem.W.fnOf "_is_parents" "_is_parents" (defArgs s__is_parents) (defBody s__is_parents) (defScope s__is_parents) .none kV9 dc9 pm9 an9 cd9 ct9) := G9
  have F10 : Fun K "_is_parents" "_is_parents" s__is_parents (He.fAd K ("_is_parents", none)) (PySem.W.fnOf "_is_parents" "_is_parents" (defArgs s__is_parents) (defBody s__is_parents) (defScope s__is_parents) .none kV9 dc9 pm9 an9 cd9 ct9) := fun_of H10
  have b10 := F10.binds (ps := ["thing"]) fun _ _ _ _ _ _ us hl => match us, hl with | [_], _ => rfl
  have H11 : FunD K "_places" "_places" (defArgs s__places) (defBody s__places) (defScope s__places) [] [] (He.fAd K ("_places", none)) (PySem.W.fnOf "_places" "_places" (defArgs s__places) (defBody s__places) (defScope s__places) .none kV10 dc10 pm10 an10 cd10 ct10) := G10
  have F11 : Fun K "_places" "_places" s__places (He.fAd K ("_places", none)) (PySem.W.fnOf "_places" "_places" (defArgs s__places) (defBody s__places) (defScope s__places) .none kV10 dc10 pm10 an10 cd10 ct10) := fun_of H11
  have b11 := F11.binds (ps := ["kinds"]) fun _ _ _ _ _ _ us hl => match us, hl with | [_], _ => rfl
  have H12 : FunD K "_upward" "_upward" (defArgs s__upward) (defBody s__upward) (defScope s__upward) [] [] (He.fAd K ("_upward", none)) (PySem.W.fnOf "_upward" "_upward" (defArgs s__upward) (defBody s__upward) (defScope s__upward) .none kV11 dc11 pm11 an11 cd11 ct11) := G11
  have F12 : Fun K "_upward" "_upward" s__upward (He.fAd K ("_upward", none)) (PySem.W.fnOf "_upward" "_upward" (defArgs s__upward) (defBody s__upward) (defScope s__upward) .none kV11 dc11 pm11 an11 cd11 ct11) := fun_of H12
  have b12 := F12.binds (ps := ["kinds", "parents"]) fun _ _ _ _ _ _ us hl => match us, hl with | [_, _], _ => rfl
  have H13 : FunD K "__init__" "Tree.__init__" (defArgs s_Tree___init__) (defBody s_Tree___init__) (defScope s_Tree___init__) [V.non, V.non] [] (He.fAd K ("Tree", some "__init__")) fd12 := G12
  have F13 := H13
  have H14 : FunD K "_refuse" "Tree._refuse" (defArgs s_Tree__refuse) (defBody s_Tree__refuse) (defScope s_Tree__refuse) [] [] (He.fAd K ("Tree", some "_refuse")) (PySem.W.fnOf "_refuse" "Tree._refuse" (defArgs s_Tree__refuse) (defBody s_Tree__refuse) (defScope s_Tree__refuse) .none kV13 dc13 pm13 an13 cd13 ct13) := G13
  have F14 : Fun K "_refuse" "Tree._refuse" s_Tree__refuse (He.fAd K ("Tree", some "_refuse")) (PySem.W.fnOf "_refuse" "Tree._refuse" (defArgs s_Tree__refuse) (defBody s_Tree__refuse) (defScope s_Tree__refuse) .none kV13 dc13 pm13 an13 cd13 ct13) := fun_of H14
  have b14 := F14.binds (ps := ["self", "node"]) fun _ _ _ _ _ _ us hl => match us, hl with | [_, _], _ => rfl
  have H15 : FunD K "parent" "Tree.parent" (defArgs s_Tree_parent) (defBody s_Tree_parent) (defScope s_Tree_parent) [] [] (He.fAd K ("Tree", some "parent")) (PySem.W.fnOf "parent" "Tree.parent" (defArgs s_Tree_parent) (defBody s_Tree_parent) (defScope s_Tree_parent) .none kV14 dc14 pm14 an14 cd14 ct14) := G14
  have F15 : Fun K "parent" "Tree.parent" s_Tree_parent (He.fAd K ("Tree", some "parent")) (PySem.W.fnOf "parent" "Tree.parent" (defArgs s_Tree_parent) (defBody s_Tree_parent) (defScope s_Tree_parent) .none kV14 dc14 pm14 an14 cd14 ct14) := fun_of H15
  have b15 := F15.binds (ps := ["self", "node"]) fun _ _ _ _ _ _ us hl => match us, hl with | [_, _], _ => rfl
  have H16 : FunD K "above" "Tree.above" (defArgs s_Tree_above) (defBody s_Tree_above) (defScope s_Tree_above) [] [] (He.fAd K ("Tree", some "above")) (PySem.W.fnOf "above" "Tree.above" (defArgs s_Tree_above) (defBody s_Tree_above) (defScope s_Tree_above) .none kV15 dc15 pm15 an15 cd15 ct15) := G15
  have F16 : Fun K "above" "Tree.above" s_Tree_above (He.fAd K ("Tree", some "above")) (PySem.W.fnOf "above" "Tree.above" (defArgs s_Tree_above) (defBody s_Tree_above) (defScope s_Tree_above) .none kV15 dc15 pm15 an15 cd15 ct15) := fun_of H16
  have b16 := F16.binds (ps := ["self", "node", "rank"]) fun _ _ _ _ _ _ us hl => match us, hl with | [_, _, _], _ => rfl
  have H17 : FunD K "nodes" "Tree.nodes" (defArgs s_Tree_nodes) (defBody s_Tree_nodes) (defScope s_Tree_nodes) [] [("rank", V.non)] (He.fAd K ("Tree", some "nodes")) (PySem.W.fnOf "nodes" "Tree.nodes" (defArgs s_Tree_nodes) (defBody s_Tree_nodes) (defScope s_Tree_nodes) .none kV16 dc16 pm16 an16 cd16 ct16) := G16
  have F17 := H17
  have H18 : FunD K "sheets" "Tree.sheets" (defArgs s_Tree_sheets) (defBody s_Tree_sheets) (defScope s_Tree_sheets) [V.non] [] (He.fAd K ("Tree", some "sheets")) fd17 := G17
  have F18 := H18
  have H19 : FunD K "kind_of" "Tree.kind_of" (defArgs s_Tree_kind_of) (defBody s_Tree_kind_of) (defScope s_Tree_kind_of) [] [] (He.fAd K ("Tree", some "kind_of")) (PySem.W.fnOf "kind_of" "Tree.kind_of" (defArgs s_Tree_kind_of) (defBody s_Tree_kind_of) (defScope s_Tree_kind_of) .none kV18 dc18 pm18 an18 cd18 ct18) := G18
  have F19 : Fun K "kind_of" "Tree.kind_of" s_Tree_kind_of (He.fAd K ("Tree", some "kind_of")) (PySem.W.fnOf "kind_of" "Tree.kind_of" (defArgs s_Tree_kind_of) (defBody s_Tree_kind_of) (defScope s_Tree_kind_of) .none kV18 dc18 pm18 an18 cd18 ct18) := fun_of H19
  have b19 := F19.binds (ps := ["self", "sheet"]) fun _ _ _ _ _ _ us hl => match us, hl with | [_, _], _ => rfl
  have H20 : FunD K "nodes" "Tree.nodes" (defArgs s_Tree_nodes) (defBody s_Tree_nodes) (defScope s_Tree_nodes) [] [("rank", V.non)] (He.fAd K ("Tree", some "nodes")) (PySem.W.fnOf "nodes" "Tree.nodes" (defArgs s_Tree_nodes) (defBody s_Tree_nodes) (defScope s_Tree_nodes) .none kV16 dc16 pm16 an16 cd16 ct16) := G16
  have F20 := H20
  have H21 : FunD K "sheets" "Tree.sheets" (defArgs s_Tree_sheets) (defBody s_Tree_sheets) (defScope s_Tree_sheets) [V.non] [] (He.fAd K ("Tree", some "sheets")) fd17 := G17
  have F21 := H21
  have H22 : FunD K "__init__" "Tree.__init__" (defArgs s_Tree___init__) (defBody s_Tree___init__) (defScope s_Tree___init__) [V.non, V.non] [] (He.fAd K ("Tree", some "__init__")) fd12 := G12
  have F22 := H22
  have H23 : FunD K "_law_pick" "_law_pick" (defArgs s__law_pick) (defBody s__law_pick) (defScope s__law_pick) [] [] (He.fAd K ("_law_pick", none)) (PySem.W.fnOf "_law_pick" "_law_pick" (defArgs s__law_pick) (defBody s__law_pick) (defScope s__law_pick) .none kV19 dc19 pm19 an19 cd19 ct19) := G19
  have F23 : Fun K "_law_pick" "_law_pick" s__law_pick (He.fAd K ("_law_pick", none)) (PySem.W.fnOf "_law_pick" "_law_pick" (defArgs s__law_pick) (defBody s__law_pick) (defScope s__law_pick) .none kV19 dc19 pm19 an19 cd19 ct19) := fun_of H23
  have b23 := F23.binds (ps := ["_law_pen_here", "_law_some"]) fun _ _ _ _ _ _ us hl => match us, hl with | [_, _], _ => rfl
  have H24 : FunD K "_law_pick" "_law_pick" (defArgs s__law_pick) (defBody s__law_pick) (defScope s__law_pick) [] [] (He.fAd K ("_law_pick", none)) (PySem.W.fnOf "_law_pick" "_law_pick" (defArgs s__law_pick) (defBody s__law_pick) (defScope s__law_pick) .none kV19 dc19 pm19 an19 cd19 ct19) := G19
  have F24 : Fun K "_law_pick" "_law_pick" s__law_pick (He.fAd K ("_law_pick", none)) (PySem.W.fnOf "_law_pick" "_law_pick" (defArgs s__law_pick) (defBody s__law_pick) (defScope s__law_pick) .none kV19 dc19 pm19 an19 cd19 ct19) := fun_of H24
  have b24 := F24.binds (ps := ["_law_pen_here", "_law_some"]) fun _ _ _ _ _ _ us hl => match us, hl with | [_, _], _ => rfl
  have H25 : FunD K "_law_words" "_law_words" (defArgs s__law_words) (defBody s__law_words) (defScope s__law_words) [] [] (He.fAd K ("_law_words", none)) (PySem.W.fnOf "_law_words" "_law_words" (defArgs s__law_words) (defBody s__law_words) (defScope s__law_words) .none kV20 dc20 pm20 an20 cd20 ct20) := G20
  have F25 : Fun K "_law_words" "_law_words" s__law_words (He.fAd K ("_law_words", none)) (PySem.W.fnOf "_law_words" "_law_words" (defArgs s__law_words) (defBody s__law_words) (defScope s__law_words) .none kV20 dc20 pm20 an20 cd20 ct20) := fun_of H25
  have b25 := F25.binds (ps := ["_law_pen_here", "_law_many"]) fun _ _ _ _ _ _ us hl => match us, hl with | [_, _], _ => rfl
  have H26 : FunD K "_law_dealt" "_law_dealt" (defArgs s__law_dealt) (defBody s__law_dealt) (defScope s__law_dealt) [] [] (He.fAd K ("_law_dealt", none)) (PySem.W.fnOf "_law_dealt" "_law_dealt" (defArgs s__law_dealt) (defBody s__law_dealt) (defScope s__law_dealt) .none kV21 dc21 pm21 an21 cd21 ct21) := G21
  have F26 : Fun K "_law_dealt" "_law_dealt" s__law_dealt (He.fAd K ("_law_dealt", none)) (PySem.W.fnOf "_law_dealt" "_law_dealt" (defArgs s__law_dealt) (defBody s__law_dealt) (defScope s__law_dealt) .none kV21 dc21 pm21 an21 cd21 ct21) := fun_of H26
  have b26 := F26.binds (ps := ["_law_pen_here", "_law_sheets", "_law_kinds"]) fun _ _ _ _ _ _ us hl => match us, hl with | [_, _, _], _ => rfl
  have H27 : FunD K "_law_laid" "_law_laid" (defArgs s__law_laid) (defBody s__law_laid) (defScope s__law_laid) [] [] (He.fAd K ("_law_laid", none)) (PySem.W.fnOf "_law_laid" "_law_laid" (defArgs s__law_laid) (defBody s__law_laid) (defScope s__law_laid) .none kV22 dc22 pm22 an22 cd22 ct22) := G22
  have F27 : Fun K "_law_laid" "_law_laid" s__law_laid (He.fAd K ("_law_laid", none)) (PySem.W.fnOf "_law_laid" "_law_laid" (defArgs s__law_laid) (defBody s__law_laid) (defScope s__law_laid) .none kV22 dc22 pm22 an22 cd22 ct22) := fun_of H27
  have b27 := F27.binds (ps := ["_law_pen_here", "_law_nodes_here"]) fun _ _ _ _ _ _ us hl => match us, hl with | [_, _], _ => rfl
  have H28 : FunD K "_law_nodes" "_law_nodes" (defArgs s__law_nodes) (defBody s__law_nodes) (defScope s__law_nodes) [] [] (He.fAd K ("_law_nodes", none)) (PySem.W.fnOf "_law_nodes" "_law_nodes" (defArgs s__law_nodes) (defBody s__law_nodes) (defScope s__law_nodes) .none kV23 dc23 pm23 an23 cd23 ct23) := G23
  have F28 : Fun K "_law_nodes" "_law_nodes" s__law_nodes (He.fAd K ("_law_nodes", none)) (PySem.W.fnOf "_law_nodes" "_law_nodes" (defArgs s__law_nodes) (defBody s__law_nodes) (defScope s__law_nodes) .none kV23 dc23 pm23 an23 cd23 ct23) := fun_of H28
  have b28 := F28.binds (ps := ["_law_pen_here", "_law_kinds", "_law_others"]) fun _ _ _ _ _ _ us hl => match us, hl with | [_, _, _], _ => rfl
  have H29 : FunD K "sheets" "Tree.sheets" (defArgs s_Tree_sheets) (defBody s_Tree_sheets) (defScope s_Tree_sheets) [V.non] [] (He.fAd K ("Tree", some "sheets")) fd17 := G17
  have F29 := H29
  have H30 : FunD K "__init__" "Tree.__init__" (defArgs s_Tree___init__) (defBody s_Tree___init__) (defScope s_Tree___init__) [V.non, V.non] [] (He.fAd K ("Tree", some "__init__")) fd12 := G12
  have F30 := H30
  have H31 : FunD K "__len__" "Tree.__len__" (defArgs s_Tree___len__) (defBody s_Tree___len__) (defScope s_Tree___len__) [] [] (He.fAd K ("Tree", some "__len__")) (PySem.W.fnOf "__len__" "Tree.__len__" (defArgs s_Tree___len__) (defBody s_Tree___len__) (defScope s_Tree___len__) .none kV24 dc24 pm24 an24 cd24 ct24) := G24
  have F31 : Fun K "__len__" "Tree.__len__" s_Tree___len__ (He.fAd K ("Tree", some "__len__")) (PySem.W.fnOf "__len__" "Tree.__len__" (defArgs s_Tree___len__) (defBody s_Tree___len__) (defScope s_Tree___len__) .none kV24 dc24 pm24 an24 cd24 ct24) := fun_of H31
  have b31 := F31.binds (ps := ["self"]) fun _ _ _ _ _ _ us hl => match us, hl with | [_], _ => rfl
  have H32 : FunD K "inner" "Tree.inner" (defArgs s_Tree_inner) (defBody s_Tree_inner) (defScope s_Tree_inner) [] [] (He.fAd K ("Tree", some "inner")) (PySem.W.fnOf "inner" "Tree.inner" (defArgs s_Tree_inner) (defBody s_Tree_inner) (defScope s_Tree_inner) .none kV25 dc25 pm25 an25 cd25 ct25) := G25
  have F32 : Fun K "inner" "Tree.inner" s_Tree_inner (He.fAd K ("Tree", some "inner")) (PySem.W.fnOf "inner" "Tree.inner" (defArgs s_Tree_inner) (defBody s_Tree_inner) (defScope s_Tree_inner) .none kV25 dc25 pm25 an25 cd25 ct25) := fun_of H32
  have b32 := F32.binds (ps := ["self", "node"]) fun _ _ _ _ _ _ us hl => match us, hl with | [_, _], _ => rfl
  have H33 : FunD K "__eq__" "Tree.__eq__" (defArgs s_Tree___eq__) (defBody s_Tree___eq__) (defScope s_Tree___eq__) [] [] (He.fAd K ("Tree", some "__eq__")) (PySem.W.fnOf "__eq__" "Tree.__eq__" (defArgs s_Tree___eq__) (defBody s_Tree___eq__) (defScope s_Tree___eq__) .none kV26 dc26 pm26 an26 cd26 ct26) := G26
  have F33 : Fun K "__eq__" "Tree.__eq__" s_Tree___eq__ (He.fAd K ("Tree", some "__eq__")) (PySem.W.fnOf "__eq__" "Tree.__eq__" (defArgs s_Tree___eq__) (defBody s_Tree___eq__) (defScope s_Tree___eq__) .none kV26 dc26 pm26 an26 cd26 ct26) := fun_of H33
  have b33 := F33.binds (ps := ["self", "other"]) fun _ _ _ _ _ _ us hl => match us, hl with | [_, _], _ => rfl
  have H34 : FunD K "_law_line" "_law_line" (defArgs s__law_line) (defBody s__law_line) (defScope s__law_line) [] [] (He.fAd K ("_law_line", none)) (PySem.W.fnOf "_law_line" "_law_line" (defArgs s__law_line) (defBody s__law_line) (defScope s__law_line) .none kV27 dc27 pm27 an27 cd27 ct27) := G27
  have F34 : Fun K "_law_line" "_law_line" s__law_line (He.fAd K ("_law_line", none)) (PySem.W.fnOf "_law_line" "_law_line" (defArgs s__law_line) (defBody s__law_line) (defScope s__law_line) .none kV27 dc27 pm27 an27 cd27 ct27) := fun_of H34
  have b34 := F34.binds (ps := ["_law_tree", "_law_node"]) fun _ _ _ _ _ _ us hl => match us, hl with | [_, _], _ => rfl
  have H35 : FunD K "_law_again" "_law_again" (defArgs s__law_again) (defBody s__law_again) (defScope s__law_again) [] [] (He.fAd K ("_law_again", none)) (PySem.W.fnOf "_law_again" "_law_again" (defArgs s__law_again) (defBody s__law_again) (defScope s__law_again) .none kV28 dc28 pm28 an28 cd28 ct28) := G28
  have F35 : Fun K "_law_again" "_law_again" s__law_again (He.fAd K ("_law_again", none)) (PySem.W.fnOf "_law_again" "_law_again" (defArgs s__law_again) (defBody s__law_again) (defScope s__law_again) .none kV28 dc28 pm28 an28 cd28 ct28) := fun_of H35
  have b35 := F35.binds (ps := ["_law_tree"]) fun _ _ _ _ _ _ us hl => match us, hl with | [_], _ => rfl
  have H36 : FunD K "sheets" "Tree.sheets" (defArgs s_Tree_sheets) (defBody s_Tree_sheets) (defScope s_Tree_sheets) [V.non] [] (He.fAd K ("Tree", some "sheets")) fd17 := G17
  have F36 := H36
  have H37 : FunD K "nodes" "Tree.nodes" (defArgs s_Tree_nodes) (defBody s_Tree_nodes) (defScope s_Tree_nodes) [] [("rank", V.non)] (He.fAd K ("Tree", some "nodes")) (PySem.W.fnOf "nodes" "Tree.nodes" (defArgs s_Tree_nodes) (defBody s_Tree_nodes) (defScope s_Tree_nodes) .none kV16 dc16 pm16 an16 cd16 ct16) := G16
  have F37 := H37
  have H38 : FunD K "_law_coheres" "_law_coheres" (defArgs s__law_coheres) (defBody s__law_coheres) (defScope s__law_coheres) [] [] (He.fAd K ("_law_coheres", none)) (PySem.W.fnOf "_law_coheres" "_law_coheres" (defArgs s__law_coheres) (defBody s__law_coheres) (defScope s__law_coheres) .none kV29 dc29 pm29 an29 cd29 ct29) := G29
  have F38 : Fun K "_law_coheres" "_law_coheres" s__law_coheres (He.fAd K ("_law_coheres", none)) (PySem.W.fnOf "_law_coheres" "_law_coheres" (defArgs s__law_coheres) (defBody s__law_coheres) (defScope s__law_coheres) .none kV29 dc29 pm29 an29 cd29 ct29) := fun_of H38
  have b38 := F38.binds (ps := ["_law_tree"]) fun _ _ _ _ _ _ us hl => match us, hl with | [_], _ => rfl
  have H39 : FunD K "_law_fewer_right" "_law_fewer_right" (defArgs s__law_fewer_right) (defBody s__law_fewer_right) (defScope s__law_fewer_right) [] [] (He.fAd K ("_law_fewer_right", none)) (PySem.W.fnOf "_law_fewer_right" "_law_fewer_right" (defArgs s__law_fewer_right) (defBody s__law_fewer_right) (defScope s__law_fewer_right) .none kV30 dc30 pm30 an30 cd30 ct30) := G30
  have F39 : Fun K "_law_fewer_right" "_law_fewer_right" s__law_fewer_right (He.fAd K ("_law_fewer_right", none)) (PySem.W.fnOf "_law_fewer_right" "_law_fewer_right" (defArgs s__law_fewer_right) (defBody s__law_fewer_right) (defScope s__law_fewer_right) .none kV30 dc30 pm30 an30 cd30 ct30) := fun_of H39
  have b39 := F39.binds (ps := ["_law_tree", "_law_kept"]) fun _ _ _ _ _ _ us hl => match us, hl with | [_, _], _ => rfl
  have H40 : FunD K "law" "law" (defArgs s_law) (defBody s_law) (defScope s_law) [] [] (He.fAd K ("law", none)) (PySem.W.fnOf "law" "law" (defArgs s_law) (defBody s_law) (defScope s_law) .none kV31 dc31 pm31 an31 cd31 ct31) := G31
  have F40 : Fun K "law" "law" s_law (He.fAd K ("law", none)) (PySem.W.fnOf "law" "law" (defArgs s_law) (defBody s_law) (defScope s_law) .none kV31 dc31 pm31 an31 cd31 ct31) := fun_of H40
  have b40 := F40.binds (ps := ["_law_script"]) fun _ _ _ _ _ _ us hl => match us, hl with | [_], _ => rfl
  have room : Room 8 callerA := ⟨rfl, by decide, by decide⟩
  refine ⟨_, fun s v => H40.bindsA (ps := ["_law_script"]) (fun _ _ _ _ _ _ us hl => match us, hl with | [_], _ => rfl) s [v] rfl, fun s₁ base H a _ _ TBs e0 bd rv sp => ?_⟩
  show codeAny _ _ _ _ _
  have O0 := ok__law_pen (P := l.prog) (w := w) (base := base) (mg := mg)  F0 
  have O1 := ok__law_draw (P := l.prog) (w := w) (base := base) (mg := mg)  F1 m_len m_abs m_range
  have O2 := ok_is_number (P := l.prog) (w := w) (base := base) (mg := mg)  F2 m_isinstance m_int m_bool
  have O3 := ok_is_word (P := l.prog) (w := w) (base := base) (mg := mg)  F3 m_isinstance m_str m_len m_all gl_MOST_LETTERS gl_LETTERS
  have O4 := ok_is_list (P := l.prog) (w := w) (base := base) (mg := mg)  F4 m_isinstance m_tuple m_list
  have O11 := ok__places (P := l.prog) (w := w) (base := base) (mg := mg)  F11 
  have O12 := ok__upward (P := l.prog) (w := w) (base := base) (mg := mg)  F12 
  have O19 := ok_Tree_kind_of (P := l.prog) (w := w) (base := base) (mg := mg) (C := (He.ga K "Tree")) F19 K_Tree m_isinstance m_str
  have O31 := ok_Tree_len (P := l.prog) (w := w) (base := base) (mg := mg) (C := (He.ga K "Tree")) F31 K_Tree m_len
  have O33 := ok_Tree_eq (P := l.prog) (w := w) (base := base) (mg := mg) (C := (He.ga K "Tree")) F33 K_Tree I_Tree m_isinstance gl_Tree
  have q0_c_is_list : C8.Cal l.prog w K mg base 1 "is_list" spList [] := ⟨_, _, _, _, O4, He.glo_ok X G (c.fact 23 rfl), H4.kp, b4, .nil⟩
  have q1_c_is_word : C8.Cal l.prog w K mg base 1 "is_word" (spWord K) [] := ⟨_, _, _, _, O3, He.glo_ok X G (c.fact 24 rfl), H3.kp, b3, .nil⟩
  have O5 := ok_are_sheets (P := l.prog) (w := w) (base := base) (mg := mg)  F5 m_len m_set m_all q0_c_is_list q1_c_is_word
  have q2_c_is_number : C8.Cal l.prog w K mg base 1 "is_number" (spNumber K) [] := ⟨_, _, _, _, O2, He.glo_ok X G (c.fact 25 rfl), H2.kp, b2, .nil⟩
  have O6 := ok_is_node (P := l.prog) (w := w) (base := base) (mg := mg)  F6 m_isinstance m_tuple m_len gl_MOST_RANK q2_c_is_number q1_c_is_word
  have O7 := ok_are_sheets_l (P := l.prog) (w := w) (base := base) (mg := mg)  F7 m_len m_set m_all q0_c_is_list q1_c_is_word
  have q3_c__law_draw : C8.Cal l.prog w K mg base 1 "_law_draw" spDraw [] := ⟨_, _, _, _, O1, He.glo_ok X G (c.fact 26 rfl), H1.kp, b1, .nil⟩
  have O23 := ok__law_pick (P := l.prog) (w := w) (base := base) (mg := mg)  F23 m_len q3_c__law_draw
  have O24 := ok_s__law_pick (P := l.prog) (w := w) (base := base) (mg := mg)  F24 m_len q3_c__law_draw
  have O26 := ok__law_dealt (P := l.prog) (w := w) (base := base) (mg := mg)  F26 m_len q3_c__law_draw
  have q4_c_is_node : C8.Cal l.prog w K mg base 2 "is_node" spNode [] := ⟨_, _, _, _, O6, He.glo_ok X G (c.fact 27 rfl), H6.kp, b6, .nil⟩
  have O8 := ok__lies_well (P := l.prog) (w := w) (base := base) (mg := mg)  F8 q4_c_is_node
  have q5_c_are_sheets : C8.Cal l.prog w K mg base 2 "are_sheets" spSheetsL [] := ⟨_, _, _, _, O7, He.glo_ok X G (c.fact 28 rfl), H7.kp, b7, .nil⟩
  have O9 := ok__is_kinds (P := l.prog) (w := w) (base := base) (mg := mg)  F9 m_isinstance m_dict m_all q4_c_is_node q5_c_are_sheets
  have O14 := ok_Tree_refuse (P := l.prog) (w := w) (base := base) (mg := mg) (C := (He.ga K "Tree")) F14 K_Tree q4_c_is_node
  have q6_c__law_pick : C8.Cal l.prog w K mg base 2 "_law_pick" spPickS [] := ⟨_, _, _, _, O24, He.glo_ok X G (c.fact 29 rfl), H24.kp, b24, .nil⟩
  have O25 := ok__law_words (P := l.prog) (w := w) (base := base) (mg := mg)  F25 m_range q3_c__law_draw q6_c__law_pick
  have q7_c__law_pick : C8.Cal l.prog w K mg base 2 "_law_pick" spPick [] := ⟨_, _, _, _, O23, He.glo_ok X G (c.fact 29 rfl), H23.kp, b23, .nil⟩
  have O27 := ok__law_laid (P := l.prog) (w := w) (base := base) (mg := mg)  F27 q3_c__law_draw q7_c__law_pick
  have q8_c__lies_well : C8.Cal l.prog w K mg base 3 "_lies_well" spLies [] := ⟨_, _, _, _, O8, He.glo_ok X G (c.fact 30 rfl), H8.kp, b8, .nil⟩
  have O10 := ok__is_parents (P := l.prog) (w := w) (base := base) (mg := mg)  F10 m_isinstance m_dict m_all q8_c__lies_well
  have q9_c_Tree__refuse : C8.Met l.prog w K mg base 3 (He.ga K "Tree") "_refuse" (spTRefuse (He.ga K "Tree")) [] := ⟨_, _, _, _, K_Tree.cl, He.meth_ok (c.fact 31 rfl), O14, b14, .nil⟩
  have O15 := ok_Tree_parent (P := l.prog) (w := w) (base := base) (mg := mg) (C := (He.ga K "Tree")) F15 K_Tree q9_c_Tree__refuse
  have O16 := ok_Tree_above (P := l.prog) (w := w) (base := base) (mg := mg) (C := (He.ga K "Tree")) F16 K_Tree q9_c_Tree__refuse
  have q10_c__law_words : C8.Cal l.prog w K mg base 3 "_law_words" spWordsL [] := ⟨_, _, _, _, O25, He.glo_ok X G (c.fact 32 rfl), H25.kp, b25, .nil⟩
  have O28 := ok__law_nodes (P := l.prog) (w := w) (base := base) (mg := mg)  F28 m_sorted m_set q10_c__law_words q7_c__law_pick
  have O32 := ok_Tree_inner (P := l.prog) (w := w) (base := base) (mg := mg) (C := (He.ga K "Tree")) F32 K_Tree m_sorted q9_c_Tree__refuse
  have q11_c__is_kinds : C8.Cal l.prog w K mg base 3 "_is_kinds" spIsKinds [] := ⟨_, _, _, _, O9, He.glo_ok X G (c.fact 33 rfl), H9.kp, b9, .nil⟩
  have q12_c__places : C8.Cal l.prog w K mg base 1 "_places" spPlaces [] := ⟨_, _, _, _, O11, He.glo_ok X G (c.fact 34 rfl), H11.kp, b11, .nil⟩
  have q13_c__is_parents : C8.Cal l.prog w K mg base 4 "_is_parents" spIsParents [] := ⟨_, _, _, _, O10, He.glo_ok X G (c.fact 35 rfl), H10.kp, b10, .nil⟩
  have q14_c__upward : C8.Cal l.prog w K mg base 1 "_upward" spUpward [] := ⟨_, _, _, _, O12, He.glo_ok X G (c.fact 36 rfl), H12.kp, b12, .nil⟩
  have O13 := ok_Tree_init (P := l.prog) (w := w) (base := base) (mg := mg) (C := (He.ga K "Tree")) F13 K_Tree q11_c__is_kinds q12_c__places q13_c__is_parents q14_c__upward
  have O17 := ok_Tree_nodes (P := l.prog) (w := w) (base := base) (mg := mg) (C := (He.ga K "Tree")) F17 K_Tree m_sorted
  have q15_c_Tree_above : C8.Met l.prog w K mg base 4 (He.ga K "Tree") "above" (spAbove (He.ga K "Tree")) [] := ⟨_, _, _, _, K_Tree.cl, He.meth_ok (c.fact 37 rfl), O16, b16, .nil⟩
  have O18 := ok_Tree_sheets (P := l.prog) (w := w) (base := base) (mg := mg) (C := (He.ga K "Tree")) F18 K_Tree m_sorted q9_c_Tree__refuse q15_c_Tree_above
  have O20 := ok_Tree_nodes0 (P := l.prog) (w := w) (base := base) (mg := mg) (C := (He.ga K "Tree")) F20 K_Tree m_sorted
  have O21 := ok_Tree_sheets0 (P := l.prog) (w := w) (base := base) (mg := mg) (C := (He.ga K "Tree")) F21 K_Tree m_sorted q9_c_Tree__refuse q15_c_Tree_above
  have O22 := ok_Tree_init0 (P := l.prog) (w := w) (base := base) (mg := mg) (C := (He.ga K "Tree")) F22 K_Tree q11_c__is_kinds q12_c__places q13_c__is_parents q14_c__upward
  have O29 := ok_Tree_sheetsK (P := l.prog) (w := w) (base := base) (mg := mg) (C := (He.ga K "Tree")) F29 K_Tree m_sorted q9_c_Tree__refuse q15_c_Tree_above
  have O30 := ok_Tree_init1 (P := l.prog) (w := w) (base := base) (mg := mg) (C := (He.ga K "Tree")) F30 K_Tree q11_c__is_kinds q12_c__places q13_c__is_parents q14_c__upward
  have q16_c_Tree_parent : C8.Met l.prog w K mg base 4 (He.ga K "Tree") "parent" (spParent (He.ga K "Tree")) [] := ⟨_, _, _, _, K_Tree.cl, He.meth_ok (c.fact 38 rfl), O15, b15, .nil⟩
  have O34 := ok__law_line (P := l.prog) (w := w) (base := base) (mg := mg) (C := (He.ga K "Tree")) F34 q16_c_Tree_parent
  have O36 := ok_Tree_sheetsR (P := l.prog) (w := w) (base := base) (mg := mg) (C := (He.ga K "Tree")) F36 K_Tree m_sorted q9_c_Tree__refuse q15_c_Tree_above
  have O37 := ok_Tree_nodesX (P := l.prog) (w := w) (base := base) (mg := mg) (C := (He.ga K "Tree")) F37 K_Tree m_sorted
  have q17_c_Tree_nodes : C8.Met l.prog w K mg base 5 (He.ga K "Tree") "nodes" (spNodesX (He.ga K "Tree")) [.non] := by
    obtain ⟨ds, r, b⟩ := FunD.binds0 (ps := ["self", "rank"]) F37 1 (by simp) rfl fun D doc pm an cdv ct us ks h1 h2 => match us, h1, ks, h2 with | [_], _, [_], _ => ⟨_, _, _, _, _, _, rfl, rfl, rfl⟩
    exact ⟨_, _, _, ds, K_Tree.cl, He.meth_ok (c.fact 39 rfl), O37, b, r⟩
  have q18_c_Tree_sheets : C8.Met l.prog w K mg base 5 (He.ga K "Tree") "sheets" (spSheetsR (He.ga K "Tree")) [] := by
    obtain ⟨ds, r, b⟩ := FunD.binds1 (ps := ["self", "node"]) F36 2 1 (by simp) rfl fun T kV doc pm an cdv ct us its h1 h2 => match us, h1, its, h2 with | [_, _], _, [_], _ => ⟨_, rfl, rfl⟩
    exact ⟨_, _, _, ds, K_Tree.cl, He.meth_ok (c.fact 40 rfl), O36, b, r⟩
  have q19_c_Tree_sheets0 : C8.Met l.prog w K mg base 5 (He.ga K "Tree") "sheets" (spSheets0 (He.ga K "Tree")) [.non] := by
    obtain ⟨ds, r, b⟩ := FunD.binds1 (ps := ["self", "node"]) F21 1 0 (by simp) rfl fun T kV doc pm an cdv ct us its h1 h2 => match us, h1, its, h2 with | [_], _, [_], _ => ⟨_, rfl, rfl⟩
    exact ⟨_, _, _, ds, K_Tree.cl, He.meth_ok (c.fact 40 rfl), O21, b, r⟩
  have q20_c_Tree_inner : C8.Met l.prog w K mg base 4 (He.ga K "Tree") "inner" (spInner (He.ga K "Tree")) [] := ⟨_, _, _, _, K_Tree.cl, He.meth_ok (c.fact 41 rfl), O32, b32, .nil⟩
  have q21_c_Tree_kind_of : C8.Met l.prog w K mg base 1 (He.ga K "Tree") "kind_of" (spKindOf (He.ga K "Tree")) [] := ⟨_, _, _, _, K_Tree.cl, He.meth_ok (c.fact 42 rfl), O19, b19, .nil⟩
  have q22_c__law_line : C8.Cal l.prog w K mg base 5 "_law_line" (spLine (He.ga K "Tree")) [] := ⟨_, _, _, _, O34, He.glo_ok X G (c.fact 43 rfl), H34.kp, b34, .nil⟩
  have O38 := ok__law_coheres (P := l.prog) (w := w) (base := base) (mg := mg) (C := (He.ga K "Tree")) F38 ⟨⟨_, _, O31, OL, b31⟩⟩ m_sum m_set m_sorted m_range m_len q17_c_Tree_nodes q18_c_Tree_sheets q19_c_Tree_sheets0 q16_c_Tree_parent q15_c_Tree_above q20_c_Tree_inner q21_c_Tree_kind_of q22_c__law_line
  have q23_c_Tree_nodes_rank : MetK l.prog w K mg base 5 (He.ga K "Tree") "nodes" (spNodes0 (He.ga K "Tree")) 1 ["rank"] (fun vs zs => vs ++ zs) := ⟨_, _, _, fun us ws => us ++ ws, K_Tree.cl, He.meth_ok (c.fact 39 rfl), O20, ⟨fun s us ws _ h1 h2 => match us, h1, ws, h2 with | [_], _, [_], _ => .of_eq rfl, fun r1 r2 => r1.append r2⟩⟩
  have q24_c_Tree_sheets : C8.Met l.prog w K mg base 5 (He.ga K "Tree") "sheets" (spSheetsK (He.ga K "Tree")) [] := by
    obtain ⟨ds, r, b⟩ := FunD.binds1 (ps := ["self", "node"]) F29 2 1 (by simp) rfl fun T kV doc pm an cdv ct us its h1 h2 => match us, h1, its, h2 with | [_, _], _, [_], _ => ⟨_, rfl, rfl⟩
    exact ⟨_, _, _, ds, K_Tree.cl, He.meth_ok (c.fact 40 rfl), O29, b, r⟩
  have q25_c_Tree_nodes : C8.Met l.prog w K mg base 5 (He.ga K "Tree") "nodes" (spNodes (He.ga K "Tree")) [.non] := by
    obtain ⟨ds, r, b⟩ := FunD.binds0 (ps := ["self", "rank"]) F17 1 (by simp) rfl fun D doc pm an cdv ct us ks h1 h2 => match us, h1, ks, h2 with | [_], _, [_], _ => ⟨_, _, _, _, _, _, rfl, rfl, rfl⟩
    exact ⟨_, _, _, ds, K_Tree.cl, He.meth_ok (c.fact 39 rfl), O17, b, r⟩
  have q26_c_Tree : C8.Mak l.prog w K mg base 5 "Tree" (He.ga K "Tree") (spTInit (He.ga K "Tree")) [] := by
    obtain ⟨ds, r, b⟩ := FunD.binds1 (ps := ["self", "kinds", "parents"]) F13 3 2 (by simp) rfl fun T kV doc pm an cdv ct us its h1 h2 => match us, h1, its, h2 with | [_, _, _], _, [_, _], _ => ⟨_, rfl, rfl⟩
    exact ⟨_, _, _, ds, He.mkr_ok (c.fact 44 rfl), O13, He.glo_ok X G (c.fact 22 rfl), b, r⟩
  have O35 := ok__law_again (P := l.prog) (w := w) (base := base) (mg := mg) (C := (He.ga K "Tree")) F35 m_dict q23_c_Tree_nodes_rank q24_c_Tree_sheets q25_c_Tree_nodes q16_c_Tree_parent q26_c_Tree
  have q27_c__law_coheres : C8.Cal l.prog w K mg base 6 "_law_coheres" (spCoh (He.ga K "Tree")) [] := ⟨_, _, _, _, O38, He.glo_ok X G (c.fact 45 rfl), H38.kp, b38, .nil⟩
  have O39 := ok__law_fewer_right (P := l.prog) (w := w) (base := base) (mg := mg) (C := (He.ga K "Tree")) F39 m_dict q17_c_Tree_nodes q18_c_Tree_sheets q16_c_Tree_parent q21_c_Tree_kind_of q26_c_Tree q27_c__law_coheres
  have q28_c__law_pen : C8.Cal l.prog w K mg base 1 "_law_pen" (spPen K) [] := ⟨_, _, _, _, O0, He.glo_ok X G (c.fact 46 rfl), H0.kp, b0, .nil⟩
  have q29_c__law_nodes : C8.Cal l.prog w K mg base 4 "_law_nodes" spNodesL [] := ⟨_, _, _, _, O28, He.glo_ok X G (c.fact 47 rfl), H28.kp, b28, .nil⟩
  have q30_c__law_dealt : C8.Cal l.prog w K mg base 2 "_law_dealt" spDealt [] := ⟨_, _, _, _, O26, He.glo_ok X G (c.fact 48 rfl), H26.kp, b26, .nil⟩
  have q31_c__law_laid : C8.Cal l.prog w K mg base 3 "_law_laid" spLaid [] := ⟨_, _, _, _, O27, He.glo_ok X G (c.fact 49 rfl), H27.kp, b27, .nil⟩
  have q32_c__law_again : C8.Cal l.prog w K mg base 7 "_law_again" (spAgain (He.ga K "Tree")) [] := ⟨_, _, _, _, O35, He.glo_ok X G (c.fact 50 rfl), H35.kp, b35, .nil⟩
  have q33_c__law_fewer_right : C8.Cal l.prog w K mg base 7 "_law_fewer_right" (spFewer (He.ga K "Tree")) [] := ⟨_, _, _, _, O39, He.glo_ok X G (c.fact 51 rfl), H39.kp, b39, .nil⟩
  exact run_law (args := ⟨[.ref a], []⟩) (us := [.ref a]) (vs := [V.ref a]) (P := l.prog) (w := w) (base := base) (mg := mg) (C := He.ga K "Tree") F40 (T := tabT K)  m_len m_range m_min I_Tree ⟨⟨_, _, O33, OQ, b33⟩⟩ q28_c__law_pen q3_c__law_draw q29_c__law_nodes q10_c__law_words q30_c__law_dealt q31_c__law_laid q26_c_Tree q27_c__law_coheres q32_c__law_again q33_c__law_fewer_right q19_c_Tree_sheets0 room e0 bd rv sp
end KN

open PySem PySem.W PyProof.Rows
open PySem PySem.W PySem.Calls PyProof.Rows
set_option maxRecDepth 100000 in
set_option maxHeartbeats 0 in
theorem PySem.Challenge.cw_kindnames_k30_whole_trees_of_what_they_t_holds : PySem.Challenge.rw_kindnames_k30_whole_trees_of_what_they_t.Holds := by
  w_on; o_law
  refine HandSHeadRun.head_any (r := KN.R) (q := KN.qv) (H := KN.hk) (ob := KN.ob) (M := 12000) (loose := KN.nam) (d := HandSHeadRun.topDef KN.R.prog 31) (kwd := []) KN.ob_eq
    (by kernel_rfl) (fun s => by kernel_rfl) KN.run (by kernel_rfl) (by kernel_rfl) (by kernel_rfl) (by rfl) (by first | assumption | decide +kernel) (by decide +kernel) ⟨rfl, rfl, rfl, rfl, rfl, by decide +kernel⟩ ?hw ?hc
  case hw => w_witness2
  case hc =>
    refine KN.walk_there (l := PySem.Challenge.rw_kindnames_k30_whole_trees_of_what_they_t) (n := 63) (x := "_law_script") rfl (by decide) (by kernel_rfl) ?F
    intro w mg fa h Y G hmg0
    obtain ⟨K, KX, c⟩ := Y
    have hmg : mg ("law" : PySem.Str) = some (.ref fa) := by
      have e : (HandSHeadRun.topDef KN.R.prog 31).name = ("law" : PySem.Str) := by kernel_rfl
      rw [← e]
      exact hmg0
    obtain ⟨fd, hb, hF⟩ := KN.facts (l := PySem.Challenge.rw_kindnames_k30_whole_trees_of_what_they_t) (w := w) KX G hmg c
    exact ⟨K, fd, [], KN.spLawB (KN.tabT K) K, KX, fun p hp => (by cases hp), fun p hp => (by cases hp), fun p hp => (by cases hp), hb, fun H a ns hl t hS => ⟨a, ns, rfl, hS, hl, rfl, fun _ => rfl⟩, hF⟩
