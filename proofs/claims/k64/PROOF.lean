import PyProof.Rows.All
import Wide.All
import OpenK.AllK
import Wide.FinOn
import HandS.ForMost
import HandS.Codes
import HandS.Deep
import HandS.Defaults
import HandS.TupSets
import HandS.TupLe
import HandS.IsInst
import HandS.TupAny
import HandS.Strs
import HandS.DictTup
import HandS.Conv
import PyProof.DictMoreH
import HandS.Style
import HandS.StrMore
import HandS.Walk
import HandS.ForExc
import HandS.ExcField
import HandS.ExcInit
import PyProof.ExcBaseAll.LookupError
import PyProof.ExcBaseAll.RuntimeError
import KE.KExcInit
import HandS.WordsExc
import HandS.OwnEq
import HandS.RaiseMore
import PyProof.ReprRoads
import PyProof.InstNe
import HandS.ExcIs
import HandS.MakeKwOnly
import HandS.Lambda
import HandS.EndTab
import PyProof.Rows.RegFStrParts
import HandS.HeadWalk
import KE.KStateDown
import HandS.Head0
import HandS.Head1
import HandS.Head2
import HandS.HeadEnd
import HandS.HeadHook1
import HandS.HeadHook2
import HandS.HeadHook3
import HandS.HeadHook4
import PySem.Challenge.RW_kindnames_k64_what_is_a_saying
set_option Elab.async false
set_option linter.all false
set_option maxRecDepth 100000
set_option maxHeartbeats 4000000
namespace KN
open PySem L2
section
open PySem.Spec PyProof.Rows
abbrev lineOf (xs : List String) : List Value := xs.map Value.type
abbrev keyLine : List Value := lineOf ["KeyError", "LookupError", "Exception", "BaseException", "object"]
abbrev lookLine : List Value := lineOf ["LookupError", "Exception", "BaseException", "object"]
abbrev runLine : List Value := lineOf ["RuntimeError", "Exception", "BaseException", "object"]
abbrev valLine : List Value := lineOf ["ValueError", "Exception", "BaseException", "object"]
def madeB (K : PySem.W.Frag) (C : Addr) (bm : List Value) (nw : String) : Bool := match K.lookup C with
  | some ⟨.type t, _, .cls cd, sl⟩ => decide (t = "type") && (match sl.toList with
    | [_, _, _, _, some (.builtin n), _] => decide (n = nw)
    | _ => false) && (cd.mro == .ref C :: bm) && cd.hasDict && !cd.hasDel
  | _ => false
def excB (K : PySem.W.Frag) (C : Addr) (f : Str) (B : String) (fI : Addr) (bm : List Value) (nw : String) : Bool :=
  madeB K C bm nw && (decide (PySem.W.findIn K (.ref C) "__setattr__" = some (some (.builtin "object.__setattr__"))) && (decide (PySem.W.subIn K (.ref C) (.type "BaseException") = some true) && (decide (PySem.W.typeIn K (.ref C) = some (.type "type")) && (PySem.W.keepIn K (.ref C) &&
  (decide (PySem.W.findIn K (.ref C) f = some none) && (xfB K C && (decide (PySem.W.findIn K (.ref C) "__class__" = some (some (.builtin "object.__class__"))) && (decide (PySem.W.specialIn K (.builtin "object.__class__") "__get__" = some (some (.builtin "getset_descriptor.__get__"))) &&
  (decide (PySem.W.takesIn K (.builtin "object.__class__") = some true) && (decide (PySem.W.mroIn K C (.type "object") = some true) && (decide (PySem.W.exmOne K (.ref C) (.ref C) = some true) && (decide (PySem.W.kitOne K (.ref C) (.type B) = some true) &&
  (decide (PySem.W.findIn K (.ref C) "__init__" = some (some (.ref fI))) && decide (PySem.W.typeIn K (.ref fI) = some (.type "function")))))))))))))))
def fiveW : List (Str × Bool × Bool × Bool) := [("same", true, false, false), ("within", true, false, true), ("round", true, true, false), ("cross", true, true, true), ("apart", false, true, true)]
def oddW : List Str := ["", "Same", "nothing", "same ", "sam"]
end
def top (i : Nat) : Stmt := PySem.Challenge.pw_kindnames_k64_what_is_a_saying.main.body.getD i (.Pass ⟨0, 0, 0, 0⟩)
abbrev s__law_pen : Stmt := top 17
abbrev s__law_draw : Stmt := top 18
abbrev letters : Str := "abcdefghijklmnopqrstuvwxyz"
abbrev s_is_number : Stmt := top 6
abbrev s_is_word : Stmt := top 7
abbrev s_is_node : Stmt := top 8
abbrev s__is_side : Stmt := top 12
abbrev s_unsaid_part : Stmt := top 13
abbrev s_BadSaying___init__ : Stmt := inClass (top 1) 0
abbrev s_Saying___init__ : Stmt := inClass (top 14) 0
abbrev s_Saying___eq__ : Stmt := inClass (top 14) 1
abbrev s_said : Stmt := top 15
abbrev s__law_is_node : Stmt := top 21
abbrev s__law_is_side : Stmt := top 22
abbrev s__law_due : Stmt := top 25
abbrev s__law_made : Stmt := top 26
abbrev s__law_pick : Stmt := top 19
abbrev s__law_side_drawn : Stmt := top 23
abbrev s__law_good_row : Stmt := top 24
abbrev s__law_bad_saying : Stmt := top 20
abbrev s__law_same_right : Stmt := top 27
abbrev s__law_said_right : Stmt := top 28
abbrev s_law : Stmt := top 29
/-! the Hook -/
def d0 : He.DefD := ⟨("_law_pen", none), "_law_pen", "_law_pen", defArgs s__law_pen, defBody s__law_pen, defScope s__law_pen, [], []⟩
def d1 : He.DefD := ⟨("_law_draw", none), "_law_draw", "_law_draw", defArgs s__law_draw, defBody s__law_draw, defScope s__law_draw, [], []⟩
def d2 : He.DefD := ⟨("_law_pick", none), "_law_pick", "_law_pick", defArgs s__law_pick, defBody s__law_pick, defScope s__law_pick, [], []⟩
def d3 : He.DefD := ⟨("is_number", none), "is_number", "is_number", defArgs s_is_number, defBody s_is_number, defScope s_is_number, [], []⟩
def d4 : He.DefD := ⟨("is_word", none), "is_word", "is_word", defArgs s_is_word, defBody s_is_word, defScope s_is_word, [], []⟩
def d5 : He.DefD := ⟨("is_node", none), "is_node", "is_node", defArgs s_is_node, defBody s_is_node, defScope s_is_node, [], []⟩
def d6 : He.DefD := ⟨("_is_side", none), "_is_side", "_is_side", defArgs s__is_side, defBody s__is_side, defScope s__is_side, [], []⟩
def d7 : He.DefD := ⟨("unsaid_part", none), "unsaid_part", "unsaid_part", defArgs s_unsaid_part, defBody s_unsaid_part, defScope s_unsaid_part, [], []⟩
def d8 : He.DefD := ⟨("BadSaying", some "__init__"), "__init__", "BadSaying.__init__", defArgs s_BadSaying___init__, defBody s_BadSaying___init__, defScope s_BadSaying___init__, [], []⟩
def d9 : He.DefD := ⟨("Saying", some "__init__"), "__init__", "Saying.__init__", defArgs s_Saying___init__, defBody s_Saying___init__, defScope s_Saying___init__, [], [("both", .non), ("first", .non), ("second", .non)]⟩
def d10 : He.DefD := ⟨("Saying", some "__eq__"), "__eq__", "Saying.__eq__", defArgs s_Saying___eq__, defBody s_Saying___eq__, defScope s_Saying___eq__, [], []⟩
def d11 : He.DefD := ⟨("said", none), "said", "said", defArgs s_said, defBody s_said, defScope s_said, [], []⟩
def d12 : He.DefD := ⟨("_law_bad_saying", none), "_law_bad_saying", "_law_bad_saying", defArgs s__law_bad_saying, defBody s__law_bad_saying, defScope s__law_bad_saying, [], []⟩
def d13 : He.DefD := ⟨("_law_is_node", none), "_law_is_node", "_law_is_node", defArgs s__law_is_node, defBody s__law_is_node, defScope s__law_is_node, [], []⟩
def d14 : He.DefD := ⟨("_law_is_side", none), "_law_is_side", "_law_is_side", defArgs s__law_is_side, defBody s__law_is_side, defScope s__law_is_side, [], []⟩
def d15 : He.DefD := ⟨("_law_side_drawn", none), "_law_side_drawn", "_law_side_drawn", defArgs s__law_side_drawn, defBody s__law_side_drawn, defScope s__law_side_drawn, [], []⟩
def d16 : He.DefD := ⟨("_law_good_row", none), "_law_good_row", "_law_good_row", defArgs s__law_good_row, defBody s__law_good_row, defScope s__law_good_row, [], []⟩
def d17 : He.DefD := ⟨("_law_due", none), "_law_due", "_law_due", defArgs s__law_due, defBody s__law_due, defScope s__law_due, [], []⟩
def d18 : He.DefD := ⟨("_law_made", none), "_law_made", "_law_made", defArgs s__law_made, defBody s__law_made, defScope s__law_made, [], []⟩
def d19 : He.DefD := ⟨("_law_same_right", none), "_law_same_right", "_law_same_right", defArgs s__law_same_right, defBody s__law_same_right, defScope s__law_same_right, [], []⟩
def d20 : He.DefD := ⟨("_law_said_right", none), "_law_said_right", "_law_said_right", defArgs s__law_said_right, defBody s__law_said_right, defScope s__law_said_right, [], []⟩
def d21 : He.DefD := ⟨("law", none), "law", "law", defArgs s_law, defBody s_law, defScope s_law, [], []⟩
def nam : List Str := ["__name__", "BadSaying", "LETTERS", "MOST_LETTERS", "MOST_RANK", "is_number", "is_word", "is_node", "MOST_TREES", "WORDS", "_is_side", "unsaid_part", "Saying", "said", "_law_pen", "_law_draw", "_law_pick", "_law_bad_saying", "_law_is_node", "_law_is_side", "_law_side_drawn", "_law_good_row", "_law_due", "_law_made", "_law_same_right", "_law_said_right"]
def fa : List He.Fa := [.glo "law", .free "len", .free "isinstance", .free "int", .free "bool", .free "str", .free "all", .free "tuple", .free "list", .free "range", .free "repr", .free "ValueError", .int "MOST_LETTERS" 12, .int "MOST_RANK" 5, .int "MOST_TREES" 3, .str "LETTERS" letters, .glo "Saying", .glo "WORDS", .cls "Saying", .noat "Saying" "one", .noat "Saying" "other", .noat "Saying" "both", .noat "Saying" "first", .noat "Saying" "second", .glo "_law_pen", .glo "_law_draw", .glo "_law_pick", .glo "is_number", .glo "is_word", .glo "is_node", .glo "_is_side", .glo "unsaid_part", .glo "BadSaying", .mkr "Saying", .glo "said", .glo "_law_bad_saying", .glo "_law_is_node", .glo "_law_is_side", .glo "_law_side_drawn", .glo "_law_good_row", .glo "_law_due", .glo "_law_made", .glo "_law_same_right", .glo "_law_said_right"]
def fn : List He.DefD := [d0, d1, d2, d3, d4, d5, d6, d7, d8, d9, d10, d11, d12, d13, d14, d15, d16, d17, d18, d19, d20, d21]
def ts_ : List He.Tab := [(fun K => He.ga K "WORDS", ["same", "within", "round", "cross", "apart"])]
def tf_ : List He.Defn := [("_law_said_right", none), ("law", none)]
abbrev R : PySem.W.OpenRow := PySem.W.OpenLaw.row PySem.Challenge.rw_kindnames_k64_what_is_a_saying
def eqO3 {α : Type} [DecidableEq α] (a b : α) : Bool := decide (a = b)
/-- the class's facts: isinstance, ==, != -/
def saB (K : PySem.W.Frag) (C f : Addr) : Bool :=
  decide (PySem.W.findIn K (.ref C) "__class__" = some (some (.builtin "object.__class__"))) && (decide (PySem.W.specialIn K (.builtin "object.__class__") "__get__" = some (some (.builtin "getset_descriptor.__get__"))) && (decide (PySem.W.takesIn K (.builtin "object.__class__") = some true) && (decide (PySem.W.mroIn K C (.type "object") = some true) && (decide (PySem.W.kitOne K (.ref C) (.ref C) = some true) &&
  (decide (PySem.W.findIn K (.ref C) "__eq__" = some (some (.ref f))) && (PySem.W.isFn K (.ref f) && (decide (PySem.W.findIn K (.ref C) "__ne__" = some (some (.builtin "object.__ne__"))) && ((["NoneType", "tuple", "int", "str", "list", "dict"].all fun t => decide (PySem.W.kitOne K (.type t) (.ref C) = some false)) && (["NoneType", "tuple", "int", "str", "list", "dict"].all fun t => PySem.W.notFirst K C (.type t))))))))))
/-- a written tuple of three truths -/
def tupB (K : PySem.W.Frag) (D : Addr) (q : Str × Bool × Bool × Bool) : Bool := match PySem.W.nsIn K D q.1 with
  | some (some (.ref t)) => (match K.lookup t with
    | some ⟨.type c, _, .seq its _, _⟩ => decide (c = "tuple") && decide (its = #[.bool q.2.1, .bool q.2.2.1, .bool q.2.2.2])
    | _ => false)
  | _ => false
def exF (K : PySem.W.Frag) : Bool := excB K (He.ga K "BadSaying") "part" "ValueError" (He.fAd K ("BadSaying", some "__init__")) valLine "ValueError.__new__" && (saB K (He.ga K "Saying") (He.fAd K ("Saying", some "__eq__")) && ((fiveW.all fun q => tupB K (He.ga K "WORDS") q) && ((oddW.all fun z => decide (PySem.W.nsIn K (He.ga K "WORDS") z = some none)) && decide ((He.cT K ("_law_said_right", none)).2 ≠ (He.cT K ("law", none)).2))))
/-- the tables of code objects, with what they hold -/
def tabT (K : PySem.W.Frag) : List (Addr × Str) := [((He.cT K ("_law_said_right", none)).2, ("_law_said_right" : Str) ++ ".<locals>." ++ "<lambda>"), ((He.cT K ("law", none)).2, ("law" : Str) ++ ".<locals>." ++ "<lambda>")]
abbrev hk : PySem.W.Hook := He.hookX 6 fa fn ts_ tf_ exF
def ob (s : PySem.W.SharedT) : He.AlX := He.obsX 6 fa fn ts_ tf_ exF (HandSHeadRun.getT s)
theorem ob_eq (s : PySem.W.SharedT) : ob s = hk.obs s.abs := He.obsX_eq (HandSHeadRun.getT_eq s)
abbrev qv : Program := PySem.W.view R.prog [29]
set_option maxHeartbeats 0 in
theorem run (w : World) : HandSHeadRun.RunEq R qv hk ob 12000 nam w := by
  exact PySem.W.byRow2 "special-get-raises" (P := fun w => HandSHeadRun.RunEq R qv hk ob 12000 nam w) (fun w os => by kernel_rfl) (fun w os => by kernel_rfl) w
end KN
set_option Elab.async false
set_option linter.all false
set_option maxRecDepth 100000
/-! Own base: data of tuples, what keeps them, equal data, dicts by text keys. -/
namespace KN
open PySem L2

/-- every tuple stays -/
def TK (H H' : Hp) : Prop := ∀ b xs, H b = some (.tup xs) → H' b = some (.tup xs)
theorem TK.refl (H : Hp) : TK H H := fun _ _ h => h
theorem TK.trans {H H1 H2 : Hp} (a : TK H H1) (b : TK H1 H2) : TK H H2 := fun c xs h => b c xs (a c xs h)
theorem TK.of {H H' : Hp} (s : Same H H') : TK H H' := fun b xs h => s b _ h
theorem TK.new {H : Hp} {p : Addr} {o : HO} (h : H p = none) : TK H (upd H p o) := fun b xs e => by
  rw [upd_ne (ne_of_none e h)]; exact e
theorem TK.put {H : Hp} {p : Addr} {o u : HO} (h : H p = some u) (nt : ∀ xs, u ≠ .tup xs) : TK H (upd H p o) := fun b xs e => by
  rw [upd_ne (fun z => by subst z; rw [h] at e; exact nt xs (Option.some.inj e))]; exact e
theorem Same.new {H : Hp} {p : Addr} {o : HO} (h : H p = none) : Same H (upd H p o) := fun b u e => by
  rw [upd_ne (ne_of_none e h)]; exact e

mutual
inductive Tp (H : Hp) : V → PyData → Prop
  | non : Tp H .non .none
  | bl (b : Bool) : Tp H (.bl b) (.bool b)
  | int (i : Int) : Tp H (.int i) (.int i)
  | str (x : Str) : Tp H (.str x) (.str x)
  | tup {a : Addr} {xs : List V} {ds : List PyData} : H a = some (.tup xs) → TpAll H xs ds → Tp H (.ref a) (.tuple ds)
inductive TpAll (H : Hp) : List V → List PyData → Prop
  | nil : TpAll H [] []
  | cons {v : V} {vs : List V} {d : PyData} {ds : List PyData} : Tp H v d → TpAll H vs ds → TpAll H (v :: vs) (d :: ds)
end

mutual
theorem Tp.mono {H H' : Hp} (k : TK H H') : ∀ (d : PyData) (v : V), Tp H v d → Tp H' v d
  | .none, _, h => by cases h; exact .non
  | .bool b, _, h => by cases h; exact .bl b
  | .int i, _, h => by cases h; exact .int i
  | .str x, _, h => by cases h; exact .str x
  | .tuple ds, _, h => by
    cases h with
    | tup e r => exact .tup (k _ _ e) (TpAll.mono k ds _ r)
  | .list ds, _, h => by cases h
  | .dict _, _, h => by cases h
theorem TpAll.mono {H H' : Hp} (k : TK H H') : ∀ (ds : List PyData) (vs : List V), TpAll H vs ds → TpAll H' vs ds
  | [], _, h => by cases h; exact .nil
  | d :: ds, _, h => by
    cases h with
    | cons a r => exact .cons (Tp.mono k d _ a) (TpAll.mono k ds _ r)
end
theorem Tp.to {H H' : Hp} {d : PyData} {v : V} (h : Tp H v d) (k : TK H H') : Tp H' v d := Tp.mono k d v h
theorem TpAll.to {H H' : Hp} {ds : List PyData} {vs : List V} (h : TpAll H vs ds) (k : TK H H') : TpAll H' vs ds := TpAll.mono k ds vs h

mutual
theorem Tp.dp {K : PySem.W.Frag} {H : Hp} : ∀ (d : PyData) (v : V), Tp H v d → Dp K H v d
  | .none, _, h => by cases h; exact .non
  | .bool b, _, h => by cases h; exact .bl b
  | .int i, _, h => by cases h; exact .int i
  | .str x, _, h => by cases h; exact .str x
  | .tuple ds, _, h => by
    cases h with
    | tup e r => exact .tup (SqT.of e) (TpAll.dp ds _ r)
  | .list ds, _, h => by cases h
  | .dict _, _, h => by cases h
theorem TpAll.dp {K : PySem.W.Frag} {H : Hp} : ∀ (ds : List PyData) (vs : List V), TpAll H vs ds → DpAll K H vs ds
  | [], _, h => by cases h; exact .nil
  | d :: ds, _, h => by
    cases h with
    | cons a r => exact .cons (Tp.dp d _ a) (TpAll.dp ds _ r)
end
theorem Tp.d {K : PySem.W.Frag} {H : Hp} {d : PyData} {v : V} (h : Tp H v d) : Dp K H v d := Tp.dp d v h

theorem TpAll.len {H : Hp} : ∀ {ds : List PyData} {vs : List V}, TpAll H vs ds → vs.length = ds.length
  | [], _, h => by cases h; rfl
  | d :: ds, _, h => by
    cases h with
    | cons a r => rw [List.length_cons, List.length_cons, TpAll.len r]
theorem TpAll.get {H : Hp} : ∀ {ds : List PyData} {vs : List V} {i : Nat} {d : PyData}, TpAll H vs ds → ds[i]? = some d → ∃ v, vs[i]? = some v ∧ Tp H v d
  | [], _, i, d, h, e => by simp at e
  | d0 :: ds, _, i, d, h, e => by
    cases h with
    | cons a r =>
      cases i with
      | zero => rw [List.getElem?_cons_zero] at e; cases e; exact ⟨_, rfl, a⟩
      | succ i =>
        rw [List.getElem?_cons_succ] at e
        obtain ⟨v, h1, h2⟩ := TpAll.get r e
        exact ⟨v, by rw [List.getElem?_cons_succ]; exact h1, h2⟩
theorem TpAll.getv {H : Hp} : ∀ {ds : List PyData} {vs : List V} {i : Nat} {v : V}, TpAll H vs ds → vs[i]? = some v → ∃ d, ds[i]? = some d ∧ Tp H v d
  | [], _, i, v, h, e => by cases h; simp at e
  | d0 :: ds, _, i, v, h, e => by
    cases h with
    | cons a r =>
      cases i with
      | zero => rw [List.getElem?_cons_zero] at e; cases e; exact ⟨_, rfl, a⟩
      | succ i =>
        rw [List.getElem?_cons_succ] at e
        obtain ⟨d, h1, h2⟩ := TpAll.getv r e
        exact ⟨d, by rw [List.getElem?_cons_succ]; exact h1, h2⟩
theorem TpAll.app {H : Hp} : ∀ {ds : List PyData} {vs : List V} {es : List PyData} {ws : List V}, TpAll H vs ds → TpAll H ws es → TpAll H (vs ++ ws) (ds ++ es)
  | [], _, _, _, h, k => by cases h; exact k
  | d :: ds, _, _, _, h, k => by
    cases h with
    | cons a r => exact .cons a (TpAll.app r k)
theorem TpAll.snoc {H : Hp} {ds : List PyData} {vs : List V} {d : PyData} {v : V} (h : TpAll H vs ds) (k : Tp H v d) : TpAll H (vs ++ [v]) (ds ++ [d]) := h.app (.cons k .nil)
theorem TpAll.drop {H : Hp} : ∀ (n : Nat) {ds : List PyData} {vs : List V}, TpAll H vs ds → TpAll H (vs.drop n) (ds.drop n)
  | 0, _, _, h => h
  | n + 1, [], _, h => by cases h; exact .nil
  | n + 1, d :: ds, _, h => by
    cases h with
    | cons a r => exact TpAll.drop n r
theorem TpAll.take {H : Hp} : ∀ (n : Nat) {ds : List PyData} {vs : List V}, TpAll H vs ds → TpAll H (vs.take n) (ds.take n)
  | 0, _, _, h => .nil
  | n + 1, [], _, h => by cases h; exact .nil
  | n + 1, d :: ds, _, h => by
    cases h with
    | cons a r => exact .cons a (TpAll.take n r)
theorem TpAll.erase {H : Hp} : ∀ (n : Nat) {ds : List PyData} {vs : List V}, TpAll H vs ds → TpAll H (vs.eraseIdx n) (ds.eraseIdx n)
  | _, [], _, h => by cases h; exact .nil
  | 0, d :: ds, _, h => by
    cases h with
    | cons a r => exact r
  | n + 1, d :: ds, _, h => by
    cases h with
    | cons a r => exact .cons a (TpAll.erase n r)
theorem TpAll.strs {H : Hp} : ∀ (ss : List Str), TpAll H (ss.map V.str) (ss.map PyData.str)
  | [] => .nil
  | s :: ss => .cons (.str s) (TpAll.strs ss)
theorem TpAll.ints {H : Hp} : ∀ (ss : List Int), TpAll H (ss.map V.int) (ss.map PyData.int)
  | [] => .nil
  | s :: ss => .cons (.int s) (TpAll.ints ss)
theorem TpAll.of_strs {H : Hp} : ∀ {ss : List Str} {vs : List V}, TpAll H vs (ss.map PyData.str) → vs = ss.map V.str
  | [], _, h => by cases h; rfl
  | s :: ss, _, h => by
    cases h with
    | cons a r => cases a; rw [TpAll.of_strs r]; rfl
theorem Tp.inv {H : Hp} {v : V} {ds : List PyData} (h : Tp H v (.tuple ds)) : ∃ a xs, v = .ref a ∧ H a = some (.tup xs) ∧ TpAll H xs ds := by
  cases h with
  | tup e r => exact ⟨_, _, rfl, e, r⟩

/-- a list of tuple data stands at a -/
def Ls (H : Hp) (a : Addr) (ds : List PyData) : Prop := ∃ xs, H a = some (.lst xs) ∧ TpAll H xs ds
theorem Ls.to {H H' : Hp} {a : Addr} {ds : List PyData} (h : Ls H a ds) (s : Same H H') : Ls H' a ds :=
  let ⟨xs, e, r⟩ := h
  ⟨xs, s _ _ e, r.to (TK.of s)⟩
theorem Ls.dp {K : PySem.W.Frag} {H : Hp} {a : Addr} {ds : List PyData} (h : Ls H a ds) : Dp K H (.ref a) (.list ds) :=
  let ⟨_, e, r⟩ := h
  .lst (SqL.of e) (TpAll.dp _ _ r)

/-! ### equal data -/
mutual
def okD : PyData → Bool
  | .none | .int _ => true
  | .str x => PySem.PyData.strOk x
  | .tuple ds | .list ds => okDs ds
  | .bool _ | .dict _ => false
def okDs : List PyData → Bool
  | [] => true
  | d :: ds => okD d && okDs ds
end
mutual
theorem okD_lay : ∀ d : PyData, okD d = true → d.canLay0 = true
  | .none, _ => rfl
  | .int _, _ => rfl
  | .str x, h => by simpa [okD, PyData.canLay0] using h
  | .tuple ds, h => by
    have := okDs_lay ds (by simpa [okD] using h)
    simpa [PyData.canLay0] using this
  | .list ds, h => by
    have := okDs_lay ds (by simpa [okD] using h)
    simpa [PyData.canLay0] using this
  | .bool _, h => by simp [okD] at h
  | .dict _, h => by simp [okD] at h
theorem okDs_lay : ∀ ds : List PyData, okDs ds = true → PyData.canLayAll0 ds = true
  | [], _ => by simp [PyData.canLayAll0]
  | d :: ds, h => by
    have h' : okD d = true ∧ okDs ds = true := by simpa [okDs] using h
    simp [PyData.canLayAll0, okD_lay d h'.1, okDs_lay ds h'.2]
end
mutual
theorem eqv_imp : ∀ d e : PyData, okD d = true → okD e = true → PyData.eqv d e = true → d = e
  | .none, e, h, k, q => by cases e <;> simp_all [PyData.eqv, okD]
  | .int i, e, h, k, q => by cases e <;> simp_all [PyData.eqv, okD]
  | .str x, e, h, k, q => by cases e <;> simp_all [PyData.eqv, okD]
  | .tuple ds, e, h, k, q => by
    cases e with
    | tuple es =>
      have h' : okDs ds = true := by simpa [okD] using h
      have k' : okDs es = true := by simpa [okD] using k
      have q' : PyData.eqvAll ds es = true := by simpa [PyData.eqv] using q
      rw [eqvs_imp ds es h' k' q']
    | _ => simp_all [PyData.eqv, okD]
  | .list ds, e, h, k, q => by
    cases e with
    | list es =>
      have h' : okDs ds = true := by simpa [okD] using h
      have k' : okDs es = true := by simpa [okD] using k
      have q' : PyData.eqvAll ds es = true := by simpa [PyData.eqv] using q
      rw [eqvs_imp ds es h' k' q']
    | _ => simp_all [PyData.eqv, okD]
  | .bool _, _, h, _, _ => by simp [okD] at h
  | .dict _, _, h, _, _ => by simp [okD] at h
theorem eqvs_imp : ∀ ds es : List PyData, okDs ds = true → okDs es = true → PyData.eqvAll ds es = true → ds = es
  | [], [], _, _, _ => rfl
  | [], _ :: _, _, _, q => by simp [PyData.eqvAll] at q
  | _ :: _, [], _, _, q => by simp [PyData.eqvAll] at q
  | d :: ds, e :: es, h, k, q => by
    have h' : okD d = true ∧ okDs ds = true := by simpa [okDs] using h
    have k' : okD e = true ∧ okDs es = true := by simpa [okDs] using k
    have q' : PyData.eqv d e = true ∧ PyData.eqvAll ds es = true := by simpa [PyData.eqvAll] using q
    rw [eqv_imp d e h'.1 k'.1 q'.1, eqvs_imp ds es h'.2 k'.2 q'.2]
end
theorem eqv_iff {d e : PyData} (h : okD d = true) (k : okD e = true) : PyData.eqv d e = true ↔ d = e :=
  ⟨eqv_imp d e h k, fun q => by subst q; exact SeqAt.eqv_refl _ (okD_lay _ h)⟩
theorem okDs_all {ds : List PyData} : okDs ds = true ↔ ∀ d ∈ ds, okD d = true := by
  induction ds with
  | nil => simp [okDs]
  | cons d ds ih => simp [okDs, ih]
theorem eqv_dec {d e : PyData} {p : Prop} [Decidable p] (h : okD d = true) (k : okD e = true) (hp : d = e ↔ p) : PyData.eqv d e = decide p := by
  by_cases q : p
  · rw [decide_eq_true q]; exact (eqv_iff h k).mpr (hp.mpr q)
  · rw [decide_eq_false q]
    cases z : PyData.eqv d e with
    | false => rfl
    | true => exact absurd (hp.mp ((eqv_iff h k).mp z)) q
theorem any_eqv {d : PyData} {ds : List PyData} (h : okD d = true) (k : okDs ds = true) : (ds.any fun z => PyData.eqv z d) = true ↔ d ∈ ds := by
  rw [List.any_eq_true]
  constructor
  · rintro ⟨z, hz, e⟩
    rw [(eqv_iff (okDs_all.mp k z hz) h).mp e] at hz
    exact hz
  · intro hz
    exact ⟨d, hz, (eqv_iff h h).mpr rfl⟩
/-- data is not deep -/
theorem shaped_of {d : PyData} (h : okD d = true) (k : d.depth ≤ 64) : SeqAt.shaped d = true := by
  unfold SeqAt.shaped
  rw [okD_lay d h, decide_eq_true k]; rfl

/-! ### a dict's pairs by written text keys -/
theorem mu_of {o : HO} {H : Hp} {a : Addr} (h : H a = some o) (k : Mut (some o)) : Mut (H a) := by rw [h]; exact k
theorem toNat_lt' {a b : Int} (h : a < b) (h0 : 0 ≤ a) : a.toNat < b.toNat := by omega
/-- a moment; its data; elder -/
abbrev Mo := Int × Int
def mD (m : Mo) : PyData := .tuple [.int m.1, .int m.2]
def mLt (a b : Mo) : Prop := a.1 < b.1 ∨ a.1 = b.1 ∧ a.2 < b.2
instance (a b : Mo) : Decidable (mLt a b) := by unfold mLt; infer_instance
theorem mLt.trans {a b c : Mo} (h : mLt a b) (k : mLt b c) : mLt a c := by unfold mLt at *; omega
theorem mLt.irr {a : Mo} : ¬ mLt a a := by unfold mLt; omega
def MoOk (m : Mo) : Prop := 0 ≤ m.1 ∧ m.1 ≤ 1000000 ∧ 1 ≤ m.2 ∧ m.2 ≤ 1000000
theorem mD_inj {a b : Mo} (h : mD a = mD b) : a = b := by
  unfold mD at h
  injection h with h
  injection h with h1 h2
  injection h2 with h2 _
  injection h1 with h1
  injection h2 with h2
  exact Prod.ext h1 h2
theorem okD_m (m : Mo) : okD (mD m) = true := rfl
def mV (m : Mo) : List V := [.int m.1, .int m.2]
theorem Tp.mo {H : Hp} {a : Addr} {m : Mo} (h : H a = some (.tup [.int m.1, .int m.2])) : Tp H (.ref a) (mD m) := .tup h (.cons (.int _) (.cons (.int _) .nil))
theorem Tp.mo_inv {H : Hp} {v : V} {m : Mo} (h : Tp H v (mD m)) : ∃ a, v = .ref a ∧ H a = some (.tup [.int m.1, .int m.2]) := by
  obtain ⟨a, xs, rfl, e, r⟩ := Tp.inv h
  cases r with
  | cons h1 r =>
    cases r with
    | cons h2 r =>
      cases r
      cases h1
      cases h2
      exact ⟨a, rfl, e⟩
/-- a moment as a key -/
def mK (m : Mo) : List Key := [.inl m.1, .inl m.2]
theorem mK_v (m : Mo) : (mK m).map kV = [.int m.1, .int m.2] := rfl
theorem mK_inj {a b : Mo} (h : mK a = mK b) : a = b := by
  unfold mK at h
  injection h with h1 h2
  injection h2 with h2 _
  exact Prod.ext (Sum.inl.inj h1) (Sum.inl.inj h2)
theorem DGet.m {H : Hp} {a b : Addr} {kvs : List (List Key × V)} {m : Mo} (e : H a = some (.dT kvs)) (eb : H b = some (.tup [.int m.1, .int m.2])) : DGet H a (.ref b) (valV kvs (mK m)) := DGet.t e eb
end KN

set_option Elab.async false
set_option linter.all false
set_option maxRecDepth 100000
set_option maxHeartbeats 4000000
/-! Own rules beside the layer's: a display with one tuple key, calls of methods with keywords, an instance made without arguments, del d[k] by a tuple, sorted(d) of moments. -/
namespace KN
open PySem PySem.Spec L2
def tDispT1 (tk tv : TE) : TE := fun σ H Q => ∀ p, H p = none → tk σ (upd H p (.dT [])) fun x H1 => tv σ H1 fun y H2 => ∃ (k : List Key) (b : Addr), x = .ref b ∧ H2 p = some (.dT []) ∧ H2 b = some (.tup (k.map kV)) ∧ Q (.ref p) (upd H2 p (.dT [(k, y)]))
theorem pe_dispT1 {X : Cx} {pos : Pos} {k v : Expr} {tk tv : TE} (hu : X.A.units + 1 < cLine) (hk : PE X k tk) (hv : PE X v tv) : PE X (.Dict [some k] [v] pos) (tDispT1 tk tv) := by
  refine ⟨fun pins s σ H Q I q => ?_⟩
  have hn := I.hok.fresh (Nat.le_refl s.heap.objs.size)
  have I1 := I.laid (a := s.heap.objs.size) (o := .dT []) (h' := s.heap.push { cls := .type "dict", data := .dict #[] }) (t' := s.toks) (fun _ _ q => Heap.get?_push_of_some _ q) (Nat.le_refl _) (dt_empty s.heap I.big)
  refine wpAny_Dict_any rfl rfl (by simp) (by simp) ?_
  refine pairTrees_cons_walk (thn (hk.run pins _ σ _ _ I1 (q _ hn)) fun u s1 ⟨x, H1, I1, rx, q1⟩ => thn (hv.run pins s1 σ H1 _ I1 q1) fun w2 s2 ⟨y, H2, I2, ry, kk, b, ex, e, eb, q2⟩ => pairTrees_nil_walk ?_)
  subst ex
  cases (show u = Value.ref b from rx)
  obtain ⟨z, hd, xs, rel, dd⟩ := dt_of I2.hok e
  cases rel
  unfold storeAll
  rw [List.forIn_cons]
  refine wpAny_bind (wpAny_bind (wpAny_dictSet_heap (hsz := by simp) (show X.A.units < cLine by omega) (key_of I2.hok eb) dd fun h' dd' hs => wpAny_pure ?_))
  show wpAny _ _ (forIn [] PUnit.unit _) _ _ _
  rw [List.forIn_nil]
  refine wpAny_pure ?_
  obtain ⟨o, es, ep, hq, h2, h3, h4, _, h5⟩ := dd'
  refine ⟨.ref s.heap.objs.size, _, d_write (ob := .dT [(kk, y)]) I2 (by rw [e]; exact True.intro) hs ⟨o, hq⟩ ⟨?_, hd, _, (KT.put (kvs := []) (xs := []) Paired.nil kk eb ry).keeps fun c ys ec => ?_, o, es, ep, hq, h2, h3, h4, h5⟩, rfl, q2⟩
  · show 1 ≤ sizeLine; decide
  · rw [upd_ne (ne_of ec e (fun z => nomatch z))]
    exact ec

/-! ### calls -/
section
variable {X : Cx} {k j : Nat} {C : Addr} {x m : Str} {sp : Sp} {dvs : List V} {p pos apos : Pos} {e o : Expr} {es : List Expr} {kws : List Keyword} {ta : TE} {t tk : TA}
/-- C() -/
theorem pe_mk0 (c : C8.Mak X.prog X.w X.K X.mg X.base k x C sp dvs) (hr : Room j X.A) (hk : k + 1 ≤ j) (hg : Gl X x) (hdb : (x == ("__debug__" : Str)) = false := by decide) : PE X (.Call (.Name x p) [] [] pos) (tMake C sp dvs E0 tNil) := by
  obtain ⟨f, fd, ps, ds, M, F, hm, b, d⟩ := c.ex
  exact pe_make0 M F (hr.mono hk) hg hm b d pass0 hdb
/-- a method called with keywords: n values by place (the object among them), the keywords' names ks -/
structure MetK (P : Program) (w : World) (K : PySem.W.Frag) (mg : Str → Option Value) (base : Heap) (k : Nat) (C : Addr) (m : Str) (sp : Sp) (n : Nat) (ks : List Str) (gV : List V → List V → List V) : Prop where
  ex : ∃ (f : Addr) (fd : FuncData) (ps : List Str) (g : List Value → List Value → List Value), Cls K C ∧ Meth K C m f ∧ FnOk P w K mg base CX0 k f fd ps sp ∧ KBn K fd ps n ks g gV
def tMethK (C : Addr) (m : Str) (n l : Nat) (sp : Sp) (gV : List V → List V → List V) (E : XK) (to : TE) (t tk : TA) : TE := fun σ H Q => to σ H fun x H1 => ∃ a dx fs, x = .ref a ∧ H1 a = some (.ins C dx fs) ∧ fs.lookup m = none ∧
  t σ H1 fun vs H2 => tk σ H2 fun zs H3 => (x :: vs).length = n ∧ zs.length = l ∧ sp (gV (x :: vs) zs) H3 Q E
theorem pe_mtK {pl : Sem Bool} {n : Nat} {ks : List Str} {gV : List V → List V → List V} (c : MetK X.prog X.w X.K X.mg X.base k C m sp n ks gV) (hr : Room j X.A) (hk : k ≤ j) (he : PE X o ta) (ha : PA X (e :: es) t) (hkw : PK X kws tk)
    (hall : (backToKw pos (keywordEach kws X.env)).all (·.1.isSome) = true := by rfl) (hks : (backToKw pos (keywordEach kws X.env)).filterMap (·.1) = ks := by rfl)
    (hst : starEach (e :: es) X.env = (false, eval e X.env) :: starEach es X.env := by rfl)
    (hpl : ((backTo pos (starEach (e :: es) X.env)).any (·.1) || (backToKw pos (keywordEach kws X.env)).any (·.1.isNone)) = false := by rfl)
    (ht : eval (.Call (.Attribute o m apos) (e :: es) kws pos) X.env = (do
      let ov ← eval o X.env
      standAt apos.atName
      let (f, first) ← holding [ov] (getMethod ov m pl)
      callWith pos f first (backTo pos (starEach (e :: es) X.env)) (backToKw pos (keywordEach kws X.env))) := by rfl) :
    PE X (.Call (.Attribute o m apos) (e :: es) kws pos) (tMethK C m n ks.length sp gV E0 ta t tk) := by
  obtain ⟨f, fd, ps, g, cl, hm, F, hb⟩ := c.ex
  refine ⟨fun pins s σ H Q I h => ?_⟩
  refine PySem.W.methodCall_KW (pl := pl) (thn (he.run pins s σ H _ I h) fun u s1 ⟨x, H1, I1, rx, a, dx, fs, ex, ea, l, q⟩ => ?_) ht
  subst ex
  obtain rfl : u = Value.ref a := rx
  refine getmeth_ok I1 ea cl hm l ?_
  refine PySem.W.callWith_KW (first := [.ref a]) (h₀ := X.base) I.ok.mod.kin hm.kp hall (thn (ha.run pos pins s1 σ H1 _ I1 q) fun us s2 ⟨vs, H2, I2, r, q2⟩ => ?_) hpl hst
  refine thn (hkw.run pos pins s2 σ H2 _ I2 q2) fun ws s3 ⟨zs, H3, I3, rz, l1, l2, q3⟩ => ⟨I3.kIn, ?_⟩
  rw [hks]
  exact run_fnN (us := .ref a :: us) (vs := .ref a :: vs) F (hr.mono hk) hb pass0 I3 (.cons rfl r) rz l1 l2 q3
theorem pe_mtK0 {pl : Sem Bool} {n : Nat} {ks : List Str} {gV : List V → List V → List V} (c : MetK X.prog X.w X.K X.mg X.base k C m sp n ks gV) (hr : Room j X.A) (hk : k ≤ j) (he : PE X o ta) (hkw : PK X kws tk)
    (hall : (backToKw pos (keywordEach kws X.env)).all (·.1.isSome) = true := by rfl) (hks : (backToKw pos (keywordEach kws X.env)).filterMap (·.1) = ks := by rfl)
    (hpl : ((backTo pos (starEach [] X.env)).any (·.1) || (backToKw pos (keywordEach kws X.env)).any (·.1.isNone)) = false := by rfl)
    (ht : eval (.Call (.Attribute o m apos) [] kws pos) X.env = (do
      let ov ← eval o X.env
      standAt apos.atName
      let (f, first) ← holding [ov] (getMethod ov m pl)
      callWith pos f first (backTo pos (starEach [] X.env)) (backToKw pos (keywordEach kws X.env))) := by rfl) :
    PE X (.Call (.Attribute o m apos) [] kws pos) (tMethK C m n ks.length sp gV E0 ta tNil tk) := by
  obtain ⟨f, fd, ps, g, cl, hm, F, hb⟩ := c.ex
  refine ⟨fun pins s σ H Q I h => ?_⟩
  refine PySem.W.methodCall_KW (pl := pl) (thn (he.run pins s σ H _ I h) fun u s1 ⟨x, H1, I1, rx, a, dx, fs, ex, ea, l, q⟩ => ?_) ht
  subst ex
  obtain rfl : u = Value.ref a := rx
  refine getmeth_ok I1 ea cl hm l ?_
  refine PySem.W.callWith_KW0 (first := [.ref a]) (h₀ := X.base) I.ok.mod.kin hm.kp hall (thn (hkw.run pos pins s1 σ H1 _ I1 q) fun ws s3 ⟨zs, H3, I3, rz, l1, l2, q3⟩ => ⟨I3.kIn, ?_⟩) hpl
  rw [hks]
  exact run_fnN (us := [.ref a]) (vs := [.ref a]) F (hr.mono hk) hb pass0 I3 (.cons rfl .nil) rz l1 l2 q3
end
end KN

set_option Elab.async false
set_option linter.all false
set_option maxRecDepth 100000
set_option maxHeartbeats 4000000
namespace KN
open PySem PySem.Spec PyProof.Rows L2
/-! ### del d[k] by a tuple -/
def sDDelT (td ty : TE) : TS := fun D σ H => td σ H fun x H1 => ty σ H1 fun y H2 => ∃ (a b : Addr) (kvs : List (List Key × V)) (k : List Key), x = .ref a ∧ H2 a = some (.dT kvs) ∧ y = .ref b ∧ H2 b = some (.tup (k.map kV)) ∧ (valV kvs k).isSome = true ∧ D.nx σ (upd H2 a (.dT (dropK kvs k)))
theorem ps_ddelT {X : Cx} {o i : Expr} {td ty : TE} {pos tpos : Pos} (hu : X.A.units + 1 < cLine) (ho : PE X o td) (hi : PE X i ty) : PS X (.Delete [.Subscript o i tpos] pos) (sDDelT td ty) := by
  refine ⟨fun pins s σ H D I h => ?_⟩
  refine wpAny_Delete (wpAny_deleteEach_cons (wpAny_delete_Subscript (thn (ho.run pins s σ H _ I h) fun u s1 ⟨x, H1, I1, rx, q1⟩ => thn (hi.run pins s1 σ H1 _ I1 q1) fun iv s2 ⟨y, H2, I2, ry, a, b, kvs, k, ex, e, ey, eb, l, q2⟩ => ?_)))
  subst ex ey
  obtain rfl : u = Value.ref a := rx
  obtain rfl : iv = Value.ref b := ry
  obtain ⟨z, hd, xs', rel, dd⟩ := dt_of I2.hok e
  have hz : xs'.length ≤ sizeLine := by rw [← Paired.length rel]; exact z
  have r := rel.val k
  cases hp : atKey xs' k with
  | none =>
    rw [hp] at r
    cases ev : valV kvs k with
    | none => rw [ev] at l; cases l
    | some v0 => rw [ev] at r; exact (show False from r).elim
  | some p =>
    refine wpAny_delItem_heap (hsz := hz) (tupleKind_room_in1 hu) (key_of I2.hok eb) hd dd hp fun h' dd' hs => ?_
    obtain ⟨o, es, ep, hq, h2, h3, h4, _, h5⟩ := dd'
    refine wpAny_deleteEach_nil ⟨σ, _, d_write (ob := .dT (dropK kvs k)) I2 (by rw [e]; exact True.intro) hs ⟨o, hq⟩ ⟨Nat.le_trans (dropK_le kvs k) z, hd, _, (DX.KT_drop k rel).keeps fun c ys ec => ?_, o, es, ep, hq, h2, h3, h4, h5⟩, q2⟩
    rw [upd_ne (ne_of ec e (fun z => nomatch z))]
    exact ec
/-! ### sorted(d) of a dict by moments -/
def adr : Value → Addr
  | .ref a => a
  | _ => 0
def moAt (H : Hp) (a : Addr) : Mo := match H a with
  | some (.tup [.int i, .int j]) => (i, j)
  | _ => (0, 0)
theorem moAt_of {H : Hp} {a : Addr} {m : Mo} (h : H a = some (.tup [.int m.1, .int m.2])) : moAt H a = m := by
  unfold moAt; rw [h]
def mCode (m : Mo) : Int := TS.code 10000000000000 [m.1, m.2]
theorem mCode_le {a b : Mo} (ha : MoOk a) (hb : MoOk b) : mCode a ≤ mCode b ↔ ¬ mLt b a := by
  unfold mCode MoOk mLt at *
  simp only [TS.code, List.length_cons, List.length_nil]
  have e : (10000000000000 : Int) ^ (0 + 1) = 10000000000000 := by decide
  rw [e]
  omega
theorem kt_keys {H : Hp} : ∀ {kvs : List (List Key × V)} {xs : List (List Key × Addr × Value)} {ms : List Mo}, KT H kvs xs → kvs.map (·.1) = ms.map mK →
    (xs.map fun x => moAt H x.2.1) = ms ∧ ∀ x ∈ xs, ∃ m ∈ ms, H x.2.1 = some (.tup [.int m.1, .int m.2])
  | _, _, ms, Paired.nil, e => by
    cases ms with
    | nil => exact ⟨rfl, fun x hx => by cases hx⟩
    | cons m ms => cases e
  | _, _, ms, Paired.cons (a := p) (b := q) h t, e => by
    cases ms with
    | nil => cases e
    | cons m ms =>
      rw [List.map_cons, List.map_cons] at e
      injection e with e1 e2
      obtain ⟨i1, i2⟩ := kt_keys t e2
      have hm : H q.2.1 = some (.tup [.int m.1, .int m.2]) := by rw [h.2.1, e1]; rfl
      refine ⟨by rw [List.map_cons, i1, moAt_of hm], fun x hx => ?_⟩
      rcases List.mem_cons.mp hx with rfl | hx
      · exact ⟨m, List.mem_cons_self, hm⟩
      · obtain ⟨m', h1, h2⟩ := i2 x hx
        exact ⟨m', List.mem_cons_of_mem _ h1, h2⟩
def rSortedDM : List V → Hp → VK → Prop := fun xs H Q => ∃ (a : Addr) (kvs : List (List Key × V)) (ms : List Mo), xs = [.ref a] ∧ Rd H a (.dT kvs) ∧ kvs.map (·.1) = ms.map mK ∧ ms.length < 64 ∧ (∀ m ∈ ms, MoOk m) ∧
  ∀ (ys : List Addr) (ns : List Mo) (p : Addr), ns.Perm ms → ns.Pairwise (fun x y => ¬ mLt y x) → ys.length = ns.length → (∀ (i : Nat) (b : Addr), ys[i]? = some b → ∃ m, ns[i]? = some m ∧ H b = some (.tup [.int m.1, .int m.2])) → H p = none → Q (.ref p) (upd H p (.lst (ys.map V.ref)))
theorem cr_sortedDM {X : Cx} (hcalm : X.calm = true) : CallR X (.builtin "sorted") rSortedDM := by
  intro pins s σ H xs us Q I r q
  obtain ⟨a, kvs, ms, rfl, hd, hks, h64, hok, q⟩ := q
  obtain ⟨u, eu, rx⟩ := vals1 r
  subst eu
  cases rx
  obtain ⟨z, hs, ks, pr, o, es, ep, ho, hx, hdt, he, hn⟩ := (show ObjOk X.prog X.w H s.heap a (.dT kvs) from hd.ok I.hok)
  have l1 : es.size = ks.length := size_of_entries he
  have l2 : kvs.length = ks.length := Paired.length pr
  have l3 : kvs.length = ms.length := by
    have e := congrArg List.length hks
    rw [List.length_map, List.length_map] at e
    exact e
  obtain ⟨km, kh⟩ := kt_keys pr hks
  refine Calls.call_function_entry PyProof.Rows.kind_sorted PyProof.Rows.plain_sorted PyProof.Rows.entry_sorted (PyProof.Rows.args_sorted1 _) ?_
  unfold Builtin.«sorted»
  refine wpAny_bind (m := checkCount "sorted" 1 1 _) (wpAny_pure ?_)
  refine wpAny_bind (PySem.W.kdu_collect (A := X.A.in1) (kdl_raw hs hx hdt) (I.ok.hd hcalm) ho (by omega) fun h' tk acc hk hacc => ?_)
  have ea : acc.toList = ks.map fun x => Value.ref x.2.1 := by
    have hl : acc.toList.length = ks.length := by rw [Array.length_toList, hacc.1]; exact l1
    apply List.ext_getElem?
    intro j
    rw [List.getElem?_map]
    cases hj : acc.toList[j]? with
    | none =>
      have h1 := List.getElem?_eq_none_iff.mp hj
      rw [List.getElem?_eq_none (by omega)]
      all_goals rfl
    | some v =>
      obtain ⟨en, hen, hv⟩ := hacc.2 j v (by rw [← Array.getElem?_toList]; exact hj)
      have qe := entry_at he j
      rw [hen] at qe
      cases hb : ks[j]? with
      | none => rw [hb] at qe; cases qe
      | some x =>
        rw [hb] at qe
        have : en = entryOfKey (tupleKind (mixKind X.prog X.w)) x := Option.some.inj qe
        rw [hv, this]; rfl
  have hal : acc.toList.length = ms.length := by rw [ea, List.length_map]; omega
  have I1 : Inv X pins σ H { s with heap := h', toks := tk } := I.kept hk
  refine wpAny_bind (wpAny_newList ?_ (by rw [hal, sizeLine_eq]; omega))
  have hoL : (h'.push (seqObj "list" acc.toList.toArray 0)).get? h'.objs.size = some (seqObj "list" acc.toList.toArray 0) := Heap.get?_push_size _ rfl
  have keepT : ∀ b o, h'.get? b = some o → o.cls = .type "tuple" → (h'.push (seqObj "list" acc.toList.toArray 0)).get? b = some o := fun b o e _ => Heap.get?_push_of_some _ e
  have rd : ∀ v ∈ acc.toList, ∃ m ∈ ms, TS.TupInts h' v [m.1, m.2] ∧ moAt H (adr v) = m ∧ H (adr v) = some (.tup [.int m.1, .int m.2]) ∧ v = .ref (adr v) := fun v hv => by
    rw [ea] at hv
    obtain ⟨x, hx, rfl⟩ := List.mem_map.mp hv
    obtain ⟨m, h1, h2⟩ := kh x hx
    exact ⟨m, h1, tupI_raw (ns := [m.1, m.2]) I1 (SqT.of h2), moAt_of h2, h2, rfl⟩
  have ok : TS.TupsOk h' 2 10000000000000 acc.toList := fun v hv => by
    obtain ⟨m, h1, h2, _⟩ := rd v hv
    have hm := hok m h1
    unfold MoOk at hm
    refine ⟨_, h2, rfl, fun k hk => ?_⟩
    rcases List.mem_cons.mp hk with rfl | hk
    · omega
    · rw [List.mem_singleton] at hk; subst hk; omega
  show wpAny _ _ _ _ _ { s with heap := h'.push (seqObj "list" acc.toList.toArray 0), toks := tk }
  refine wpAny_bind (wpAny_holding (wpAny_call_entry PyProof.Rows.slot_list_sort ⟨_, hoL, rfl⟩ PyProof.Rows.entry_list_sort
    (TS.sort_tups (s := { s with heap := h'.push (seqObj "list" acc.toList.toArray 0), toks := tk }) (d := 2) (B := 10000000000000) hoL (by rw [hal]; exact h64) (by decide) (ok.keeps keepT) (fun v => mCode (moAt H (adr v))) (fun v hv ns t => ?_) fun out a1 a2 => ⟨_, rfl, ?_⟩)
    (PyProof.Rows.args_list_sort _)))
  · obtain ⟨m, h1, h2, h3, _⟩ := rd v hv
    have e : ns = [m.1, m.2] := t.ints.symm.trans (h2.keeps keepT).ints
    show mCode (moAt H (adr v)) = TS.code 10000000000000 ns
    rw [h3, e]; rfl
  · obtain ⟨e', he'⟩ := PyProof.Rows.sortedHeap_at (vs := acc.toList) (out := out) hoL
    have ro : ∀ v ∈ out.toList, ∃ m ∈ ms, moAt H (adr v) = m ∧ H (adr v) = some (.tup [.int m.1, .int m.2]) ∧ v = .ref (adr v) := fun v hv => by
      obtain ⟨m, h1, _, h3⟩ := rd v (a1.mem_iff.mp hv)
      exact ⟨m, h1, h3⟩
    have pm : (out.toList.map fun v => moAt H (adr v)).Perm ms := by
      have := a1.map fun v => moAt H (adr v)
      rw [ea, List.map_map] at this
      rw [← km]; exact this
    have vv : Vals ((out.toList.map adr).map V.ref) out.toList := by
      have g : ∀ l : List Value, (∀ v ∈ l, v = .ref (adr v)) → Vals ((l.map adr).map V.ref) l := by
        intro l
        induction l with
        | nil => intro _; exact .nil
        | cons v l ih =>
          intro h
          exact .cons (h v List.mem_cons_self) (ih fun x hx => h x (List.mem_cons_of_mem _ hx))
      exact g _ fun v hv => by obtain ⟨_, _, _, _, h⟩ := ro v hv; exact h
    have hlen : ((out.toList.map adr).map V.ref).length ≤ sizeLine := by
      rw [List.length_map, List.length_map, a1.length_eq, hal, sizeLine_eq]; omega
    refine wpAny_pure ⟨_, rfl, .ref h'.objs.size, upd H h'.objs.size (.lst ((out.toList.map adr).map V.ref)), I1.laid (t' := tk) (fun b u e => ?_) (Nat.le_refl _)
      (show ObjOk X.prog X.w _ _ _ (.lst ((out.toList.map adr).map V.ref)) from ⟨hlen, out.toList, e', vv, by rw [Array.toArray_toList]; exact he'⟩), rfl, q _ (out.toList.map fun v => moAt H (adr v)) _ pm ?_ (by rw [List.length_map, List.length_map]) (fun i b hb => ?_) (I1.hok.fresh (Nat.le_refl _))⟩
    · have hb : b < h'.objs.size := Heap.lt_size e
      rw [PyProof.Rows.sortedHeap_old (Nat.ne_of_lt hb) (by rw [size_push']; exact Nat.lt_succ_of_lt hb)]
      exact Heap.get?_push_of_some _ e
    · rw [List.pairwise_map]
      refine List.Pairwise.imp_of_mem (fun {x y} hx hy h => ?_) a2
      obtain ⟨m1, h1, e1, _⟩ := ro x hx
      obtain ⟨m2, h2, e2, _⟩ := ro y hy
      rw [e1, e2] at h ⊢
      exact (mCode_le (hok _ h1) (hok _ h2)).mp h
    · rw [List.getElem?_map] at hb ⊢
      cases e : out.toList[i]? with
      | none => rw [e] at hb; cases hb
      | some v =>
        rw [e] at hb
        cases hb
        obtain ⟨m, _, e1, e2, _⟩ := ro v (List.mem_of_getElem? e)
        exact ⟨m, by show some (moAt H (adr v)) = some m; rw [e1], e2⟩
end KN

set_option Elab.async false
set_option linter.all false
set_option maxRecDepth 100000
set_option maxHeartbeats 4000000
namespace KN
open PySem L2

/-- all but p is kept -/
def Kp (p : Addr) (H H' : Hp) : Prop := ∀ a o, a ≠ p → H a = some o → H' a = some o
theorem Kp.refl (p : Addr) (H : Hp) : Kp p H H := fun _ _ _ h => h
theorem Kp.trans {p : Addr} {H H1 H2 : Hp} (a : Kp p H H1) (b : Kp p H1 H2) : Kp p H H2 := fun c o n h => b c o n (a c o n h)
theorem Kp.of {p : Addr} {H H' : Hp} (s : Same H H') : Kp p H H' := fun a o _ h => s a o h
theorem Kp.new {p q : Addr} {H : Hp} {o : HO} (h : H q = none) : Kp p H (upd H q o) := Kp.of (Same.new h)
theorem Kp.put {p : Addr} {H : Hp} {o : HO} : Kp p H (upd H p o) := fun a u n h => by rw [upd_ne n]; exact h
theorem Kp.tk {p : Addr} {H H' : Hp} {kvs : List (Key × V)} (k : Kp p H H') (h : H p = some (.dK kvs)) : TK H H' := fun b xs e =>
  k b _ (fun z => by subst z; rw [h] at e; cases e) e
theorem Kp.free {p a : Addr} {H H' : Hp} (k : Kp p H H') (n : a ≠ p) (h : H' a = none) : H a = none := by
  cases q : H a with
  | none => rfl
  | some o => rw [k a o n q] at h; cases h

def penD (c : Addr) (n m : Int) : List (Key × V) := [(.inr "cells", .ref c), (.inr "at", .int n), (.inr "rest", .int m)]
/-- the pen stands at p, its place at most b -/
def Pen (H : Hp) (p c : Addr) (b : Int) : Prop := ∃ (n m : Int) (ns : List Int), H p = some (.dK (penD c n m)) ∧ H c = some (.lst (ns.map V.int)) ∧ ns.length ≤ 63 ∧ 0 ≤ n ∧ n ≤ b
theorem pen_cells (c : Addr) (n m : Int) : valV (penD c n m) (.inr "cells") = some (.ref c) := by
  unfold penD; rw [valV_pos rfl]
theorem kne {x y : Str} (h : ¬ x = y) : ¬ ((Sum.inr x : Key) = Sum.inr y) := fun z => h (Sum.inr.inj z)
theorem ca0 : ¬ (("cells" : Str) = ("at" : Str)) := by decide +kernel
theorem cl0 : ¬ (("cells" : Str) = ("rest" : Str)) := by decide +kernel
theorem al0 : ¬ (("at" : Str) = ("rest" : Str)) := by decide +kernel
theorem la0 : ¬ (("rest" : Str) = ("at" : Str)) := by decide +kernel
theorem ca_ : ¬ ((Sum.inr ("cells" : Str) : Key) = Sum.inr ("at" : Str)) := kne (by decide +kernel)
theorem cl_ : ¬ ((Sum.inr ("cells" : Str) : Key) = Sum.inr ("rest" : Str)) := kne (by decide +kernel)
theorem al_ : ¬ ((Sum.inr ("at" : Str) : Key) = Sum.inr ("rest" : Str)) := kne (by decide +kernel)
theorem la_ : ¬ ((Sum.inr ("rest" : Str) : Key) = Sum.inr ("at" : Str)) := kne (by decide +kernel)
theorem pen_at (c : Addr) (n m : Int) : valV (penD c n m) (.inr "at") = some (.int n) := by
  unfold penD; rw [valV_neg ca_, valV_pos rfl]
theorem pen_left (c : Addr) (n m : Int) : valV (penD c n m) (.inr "rest") = some (.int m) := by
  unfold penD; rw [valV_neg cl_, valV_neg al_, valV_pos rfl]
theorem pen_put_at (c : Addr) (n m k : Int) : putK (penD c n m) (.inr "at") (.int k) = penD c k m := by
  simp [putK, penD, ca0, la0]
theorem pen_put_left (c : Addr) (n m k : Int) : putK (penD c n m) (.inr "rest") (.int k) = penD c n k := by
  simp [putK, penD, cl0, al0]
theorem Pen.to {H H' : Hp} {p c : Addr} {b : Int} (h : Pen H p c b) (s : Same H H') : Pen H' p c b :=
  let ⟨n, m, ns, e1, e2, r⟩ := h
  ⟨n, m, ns, s _ _ e1, s _ _ e2, r⟩
theorem Pen.up {H : Hp} {p c : Addr} {b b' : Int} (h : Pen H p c b) (l : b ≤ b') : Pen H p c b' :=
  let ⟨n, m, ns, e1, e2, e3, e4, e5⟩ := h
  ⟨n, m, ns, e1, e2, e3, e4, Int.le_trans e5 l⟩
theorem Pen.tk {H H' : Hp} {p c : Addr} {b : Int} (h : Pen H p c b) (k : Kp p H H') : TK H H' :=
  let ⟨_, _, _, e1, _⟩ := h
  k.tk e1
/-- what is neither the pen nor its cells may change -/
theorem Pen.keep {H H' : Hp} {p c : Addr} {b : Int} (h : Pen H p c b) (k : ∀ a o, a = p ∨ a = c → H a = some o → H' a = some o) : Pen H' p c b :=
  let ⟨n, m, ns, e1, e2, r⟩ := h
  ⟨n, m, ns, k _ _ (.inl rfl) e1, k _ _ (.inr rfl) e2, r⟩
theorem Pen.here {H : Hp} {p c : Addr} {b : Int} (h : Pen H p c b) : (∃ o, H p = some o) ∧ ∃ o, H c = some o :=
  let ⟨_, _, _, e1, e2, _⟩ := h
  ⟨⟨_, e1⟩, _, e2⟩
/-- a new thing is neither the pen nor its cells -/
theorem Pen.off {H : Hp} {p c a : Addr} {b : Int} (h : Pen H p c b) (e : H a = none) : a ≠ p ∧ a ≠ c :=
  let ⟨_, _, _, e1, e2, _⟩ := h
  ⟨(ne_of_none e1 e).symm, (ne_of_none e2 e).symm⟩
theorem Pen.put {H : Hp} {p c a : Addr} {b : Int} {o : HO} (h : Pen H p c b) (n : a ≠ p ∧ a ≠ c) : Pen (upd H a o) p c b :=
  h.keep fun x u hx e => by
    rw [upd_ne (fun z => by subst z; exact hx.elim n.1 n.2)]; exact e
theorem Pen.ne {H : Hp} {p c a : Addr} {b : Int} {xs : List V} (h : Pen H p c b) (e : H a = some (.lst xs)) : a ≠ p :=
  let ⟨_, _, _, e1, _⟩ := h
  fun z => by subst z; rw [e1] at e; cases e

def spPen (K : PySem.W.Frag) : Sp := fun vs H Q _ => ∃ (a : Addr) (ns : List Int), vs = [.ref a] ∧ SqL K H a (ns.map V.int) ∧ ns.length ≤ 63 ∧
  ∀ H' p c, Same H H' → H p = none → H c = none → Pen H' p c 0 → Q (.ref p) H'
def spDraw : Sp := fun vs H Q _ => ∃ (p c : Addr) (b many : Int), vs = [.ref p, .int many] ∧ Pen H p c b ∧ b ≤ 1000000000000 ∧ 1 ≤ many ∧ many < 1000000 ∧
  ∀ H' r, Kp p H H' → Pen H' p c (b + 1) → 0 ≤ r → r < many → Q (.int r) H'

section
variable {P : Program} {w : World} {K : PySem.W.Frag} {mg : Str → Option Value} {base : Heap}
theorem sc__law_pen : FnScope ["_law_script"] ["_law_script"] (defScope s__law_pen) := ⟨rfl, rfl, rfl, by decide +kernel, rfl, by decide +kernel, by decide +kernel⟩
theorem ok__law_pen {f : Addr} {fd : FuncData} (F : Fun K "_law_pen" "_law_pen" s__law_pen f fd) (m_list : mg "list" = none) : FnOk P w K mg base CX0 1 f fd ["_law_script"] (spPen K) := by
  refine F.ok sc__law_pen (fun vs H Q E h => ?_) (fun cdv A outer s H vs Q E hr h => ?_)
  · obtain ⟨a, ns, rfl, _⟩ := h; rfl
  · obtain ⟨a, ns, rfl, hS, hlen, k⟩ := h
    refine ⟨_, (pss_one (ps_ret (pe_disp (pps_cons pe_str (pe_callTy call_list_of (by rfl) m_list (by decide +kernel) (pa_cons (pe_slice sl_list (pv 0) po_none (po_some pe_int)) pa_nil)) (pps_cons pe_str pe_int (pps_cons pe_str pe_int pps_nil))) (by rfl) (by rfl) (fun z => by cases z) (by decide)))), ?_⟩
    intro p hp
    have e63 : cutV (ns.map V.int) none (some 63) = ns.map V.int := by
      unfold cutV
      rw [HT.sIx_none, List.drop_zero, List.take_of_length_le]
      rw [show (some (63 : Int)) = some ((63 : Nat) : Int) from rfl, HT.sIx_nat, List.length_map]; omega
    have s1 : Same H (upd H p (.dK [])) := Same.new hp
    refine ⟨_, rfl, _, rfl, a, _, rfl, s1.seq hS, fun l hl => ?_⟩
    rw [e63]
    have s2 : Same (upd H p (.dK [])) (upd (upd H p (.dK [])) l (.lst (ns.map V.int))) := Same.new hl
    refine ⟨l, _, rfl, .inl (SqL.of upd_same), fun D hD => ?_⟩
    have s3 : Same (upd (upd H p (.dK [])) l (.lst (ns.map V.int))) (upd (upd (upd H p (.dK [])) l (.lst (ns.map V.int))) D (.lst (ns.map V.int))) := Same.new hD
    refine ⟨s3 _ _ (s2 _ _ upd_same), [(.inr "cells", .ref D), (.inr "at", .int 0), (.inr "rest", .int 0)], rfl, (by show 3 ≤ 15; decide), ?_⟩
    have e : mergeK [] [((Sum.inr "cells" : Key), V.ref D), (Sum.inr "at", .int 0), (Sum.inr "rest", .int 0)] = penD D 0 0 := by
      simp [mergeK, putK, penD, ca0, cl0, al0]
    rw [e]
    have np : D ≠ p := fun z => by subst z; rw [s2 _ _ upd_same] at hD; cases hD
    have hD0 : H D = none := s1.free (s2.free hD)
    refine k _ _ D (fun b o e => ?_) hp hD0 ⟨0, 0, ns, upd_same, by rw [upd_ne np, upd_same], hlen, Int.le_refl _, Int.le_refl _⟩
    rw [upd_ne (ne_of_none e hp)]
    exact s3 _ _ (s2 _ _ (s1 _ _ e))

theorem depth_ints : ∀ ns : List Int, PyData.depthAll (ns.map PyData.int) ≤ 1
  | [] => by simp [PyData.depthAll]
  | n :: ns => by have := depth_ints ns; simp [PyData.depthAll, PyData.depth]; omega
theorem shaped_ints (ns : List Int) : SeqAt.shaped (.list (ns.map PyData.int)) = true := by
  have h : okDs (ns.map PyData.int) = true := okDs_all.mpr fun d hd => by
    obtain ⟨i, _, rfl⟩ := List.mem_map.mp hd; rfl
  refine shaped_of (by simpa [okD] using h) ?_
  have := depth_ints ns
  simp [PyData.depth]; omega
theorem draw_ok {n : Int} (h : 0 ≤ n) (l : n ≤ 1000000000000) : -(2 ^ 64) < n ∧ n < 2 ^ 64 := by omega
theorem mb {x m : Int} (h : 0 < m) (k : m < 2 ^ 63) : -(2 ^ 64) < x % m ∧ x % m < 2 ^ 64 := by
  have h1 := Int.emod_nonneg x (b := m) (by omega)
  have h2 := Int.emod_lt_of_pos x h
  omega
theorem mod_lt {x m : Int} (h : 0 < m) : 0 ≤ x % m ∧ x % m < m := ⟨Int.emod_nonneg _ (by omega), Int.emod_lt_of_pos _ h⟩
theorem sc__law_draw : FnScope ["_law_pen_here", "_law_many", "_law_digit", "_law_at", "_law_cell", "_law_cells", "_law_mixed"] ["_law_pen_here", "_law_many"] (defScope s__law_draw) := ⟨rfl, rfl, rfl, by decide +kernel, rfl, by decide +kernel, by decide +kernel⟩
theorem ok__law_draw {f : Addr} {fd : FuncData} (F : Fun K "_law_draw" "_law_draw" s__law_draw f fd) (m_len : mg "len" = none) : FnOk P w K mg base CX0 1 f fd ["_law_pen_here", "_law_many"] spDraw := by
  refine F.ok sc__law_draw (fun vs H Q E h => ?_) (fun cdv A outer s H vs Q E hr h => ?_)
  · obtain ⟨p, c, b, many, rfl, _⟩ := h; rfl
  · obtain ⟨p, c, b, many, rfl, ⟨n, m, ns, hp, hc, h63, hn0, hnb⟩, hb, h1, h2, k⟩ := h
    have hu := hu_of hr
    refine ⟨_, (pss_cons (ps_if (pt_cmpR op_gt (pe_dget hu (pv 0) pe_str (fun _ _ => rfl)) pe_int (nomark _)) (pss_cons (ps_set (i := 2) sc__law_draw.nd rfl (Or.inl rfl) (pe_op op_mod (pe_dget hu (pv 0) pe_str (fun _ _ => rfl)) (pv 1)))
      (pss_cons (ps_dput hu (pv 0) pe_str (pe_op op_fdiv (pe_dget hu (pv 0) pe_str (fun _ _ => rfl)) (pv 1)) rfl)
      (pss_one (ps_ret (pv 2))))) pss_nil)
      (pss_cons (ps_par3 (i := 3) (j := 4) (l := 5) rfl sc__law_draw.nd rfl rfl rfl (by decide) (by decide) (by decide) rfl rfl rfl (pa_cons (pe_dget hu (pv 0) pe_str (fun _ _ => rfl)) (pa_cons pe_int (pa_cons (pe_dget hu (pv 0) pe_str (fun _ _ => rfl)) pa_nil))) (by rfl))
      (pss_cons (ps_dput hu (pv 0) pe_str (pe_op op_add (pv 3) pe_int) rfl)
      (C8.pss_cut (ps_if (pt_cmpR (op_neD hr.units) (pv 5) (pe_lst pa_nil) (nomark _)) (pss_one (ps_set (i := 4) sc__law_draw.nd rfl (Or.inl rfl) (pe_ix ix_list (pv 5) (pe_op op_mod (pv 3) (pe_callB call_len_seq (by rfl) m_len (by decide +kernel) (pa_cons (pv 5) pa_nil))) (fun _ _ => rfl)))) pss_nil)
      (C8.pss_cut (ps_if (PW.pt (pw_and (pt_cmpR op_lt (pv 3) (pe_callB call_len_seq (by rfl) m_len (by decide +kernel) (pa_cons (pv 5) pa_nil)) (nomark _)) (pw_and1 (pt_cmpR op_ge (pv 4) (pe_op op_pow pe_int pe_int) (nomark _))))) (pss_cons (ps_dput hu (pv 0) pe_str (pe_op op_fdiv (pv 4) (pv 1)) rfl)
      (pss_one (ps_ret (pe_op op_mod (pv 4) (pv 1))))) pss_nil)
      (pss_cons (ps_set (i := 6) sc__law_draw.nd rfl (Or.inl rfl) (pe_op op_mod (pe_op op_mul (pe_op op_add (pe_op op_add (pe_op op_mod (pv 4) pe_int) (pe_op op_mul pe_int (pv 3))) pe_int) pe_int) pe_int))
      (pss_cons (ps_set (i := 6) sc__law_draw.nd rfl (Or.inl rfl) (pe_op op_mod (pe_op op_add (pe_op op_add (pe_op op_mul (pv 6) (pv 6)) (pe_op op_mul pe_int (pv 3))) pe_int) pe_int))
      (pss_cons (ps_set (i := 6) sc__law_draw.nd rfl (Or.inl rfl) (pe_op op_mod (pe_op op_add (pe_op op_add (pe_op op_mul (pv 6) (pv 6)) (pe_op op_mul pe_int (pv 6))) (pe_op op_mul pe_int (pv 3))) pe_int))
      (pss_one (ps_ret (pe_op op_mod (pe_op op_fdiv (pv 6) pe_int) (pv 1)))))))))))), ?_⟩
    have ncp : c ≠ p := ne_of hc hp (by intro z; cases z)
    have gl : DGet H p (.str "rest") (some (.int m)) := by
      have := DGet.k (k := .inr "rest") hp; rw [pen_left] at this; exact this
    have ga : DGet H p (.str "at") (some (.int n)) := by
      have := DGet.k (k := .inr "at") hp; rw [pen_at] at this; exact this
    have gc0 : DGet H p (.str "cells") (some (.ref c)) := by
      have := DGet.k (k := .inr "cells") hp; rw [pen_cells] at this; exact this
    refine ⟨_, rfl, p, _, rfl, gl, _, _, rfl, rfl, _, rfl, ite2 (fun hm => ?_) (fun hm => ?_)⟩
    · refine ⟨_, rfl, p, _, rfl, gl, _, rfl, _, _, rfl, rfl, (by show (0 : Int) < many; omega), ?_⟩
      refine ⟨_, rfl, p, _, rfl, gl, _, rfl, _, _, rfl, rfl, (by constructor <;> omega), _, rfl, p, _, rfl, DPut.k (k := .inr "rest") hp (by show 3 < sizeLine; decide), _, rfl, ?_⟩
      rw [pen_put_left]
      have q := mod_lt (x := m) (m := many) (by omega)
      exact k _ _ Kp.put ⟨n, _, ns, upd_same, by rw [upd_ne ncp]; exact hc, h63, hn0, by omega⟩ q.1 q.2
    · refine ⟨_, rfl, p, _, rfl, ga, _, rfl, p, _, rfl, gc0, _, _, _, rfl, ?_⟩
      refine ⟨_, rfl, _, _, rfl, rfl, _, rfl, p, _, rfl, DPut.k (k := .inr "at") hp (by show 3 < sizeLine; decide), ?_⟩
      rw [pen_put_at]
      have kb : -(2 ^ 64) < n ∧ n < 2 ^ 64 := draw_ok hn0 (by omega)
      refine ⟨fun σ' H' => ∃ z : Int, σ' = [some (.ref p), some (.int many), none, some (.int n), some (.int z), some (.ref c), none] ∧ Kp p H H' ∧ H' p = some (.dK (penD c (n + 1) m)), ?_, ?_⟩
      · refine ⟨_, rfl, Nat.zero_le _, fun l hl => ?_⟩
        have nlp : l ≠ p := fun z => by subst z; rw [upd_same] at hl; cases hl
        have hl0 : H l = none := by rw [upd_ne nlp] at hl; exact hl
        have ncl : c ≠ l := fun z => by subst z; rw [hc] at hl0; cases hl0
        have hc2 : upd (upd H p (.dK (penD c (n + 1) m))) l (.lst []) c = some (.lst (ns.map V.int)) := by rw [upd_ne ncl, upd_ne ncp]; exact hc
        have hp2 : upd (upd H p (.dK (penD c (n + 1) m))) l (.lst []) p = some (.dK (penD c (n + 1) m)) := by rw [upd_ne nlp.symm, upd_same]
        have kp2 : Kp p H (upd (upd H p (.dK (penD c (n + 1) m))) l (.lst [])) := Kp.put.trans (Kp.new hl)
        have ls : Ls (upd (upd H p (.dK (penD c (n + 1) m))) l (.lst [])) c (ns.map PyData.int) := ⟨_, hc2, TpAll.ints ns⟩
        have le : Ls (upd (upd H p (.dK (penD c (n + 1) m))) l (.lst [])) l [] := ⟨_, upd_same, .nil⟩
        refine ⟨_, _, ls.dp, le.dp, shaped_ints ns, rfl, _, rfl, ?_⟩
        cases ns with
        | nil =>
          refine iteF ?_
          exact ⟨_, rfl, kp2, hp2⟩
        | cons n0 ns =>
          refine iteT ?_
          refine ⟨_, rfl, _, rfl, _, rfl, c, _, rfl, .inl (SqL.of hc2), _, _, rfl, rfl, (by show (0 : Int) < ((List.map V.int (n0 :: ns)).length : Nat); rw [List.length_map, List.length_cons]; omega), ?_⟩
          have hl' : 0 < ((List.map V.int (n0 :: ns)).length : Int) := by rw [List.length_map, List.length_cons]; omega
          have q := mod_lt (x := n) hl'
          obtain ⟨y, hy⟩ : ∃ y, (n0 :: ns)[(n % ((List.map V.int (n0 :: ns)).length : Int)).toNat]? = some y := by
            have hlt : (n % ((List.map V.int (n0 :: ns)).length : Int)).toNat < (n0 :: ns).length := by
              have e := List.length_map (as := n0 :: ns) V.int
              omega
            exact ⟨_, List.getElem?_eq_getElem hlt⟩
          refine ⟨c, _, _, .int y, rfl, rfl, SqL.of hc2, at_of (j := (n % ((List.map V.int (n0 :: ns)).length : Int)).toNat) (by omega) (by rw [List.getElem?_map, hy]; rfl), ?_⟩
          exact ⟨y, rfl, kp2, hp2⟩
      · rintro σ1 H1 ⟨z, rfl, k1, hp1⟩
        have hc1 : H1 c = some (.lst (ns.map V.int)) := k1 _ _ ncp hc
        have stay : Pen H1 p c (b + 1) := ⟨n + 1, m, ns, hp1, hc1, h63, by omega, by omega⟩
        refine ⟨fun σ' H' => σ' = [some (.ref p), some (.int many), none, some (.int n), some (.int z), some (.ref c), none] ∧ H' = H1, ?_, ?_⟩
        · refine ⟨_, rfl, _, rfl, c, _, rfl, .inl (SqL.of hc1), _, _, rfl, rfl, _, rfl, ite2 (fun hlt => ?_) (fun hlt => ?_)⟩
          · refine ⟨_, rfl, _, _, rfl, rfl, ⟨by decide, by decide, by decide⟩, _, _, rfl, rfl, _, rfl, ite2 (fun hg => ?_) (fun hg => ?_)⟩
            · refine ⟨_, rfl, _, rfl, _, _, rfl, rfl, (by constructor <;> omega), _, rfl, p, _, rfl, DPut.k (k := .inr "rest") hp1 (by show 3 < sizeLine; decide), ?_⟩
              rw [pen_put_left]
              refine ⟨_, rfl, _, rfl, _, _, rfl, rfl, (by show (0 : Int) < many; omega), ?_⟩
              have q := mod_lt (x := z) (m := many) (by omega)
              exact k _ _ (k1.trans Kp.put) ⟨n + 1, _, ns, upd_same, by rw [upd_ne ncp]; exact hc1, h63, by omega, by omega⟩ q.1 q.2
            · exact ⟨rfl, rfl⟩
          · exact ⟨rfl, rfl⟩
        rintro σ2 H2 ⟨rfl, rfl⟩
        refine ⟨_, rfl, _, _, rfl, rfl, (by show (0 : Int) < 2147483629; decide), _, rfl, _, _, rfl, rfl, .inl (by constructor <;> decide), _, _, rfl, rfl, _, _, rfl, rfl, _, _, rfl, rfl, .inr (by constructor <;> decide), _, _, rfl, rfl, (by show (0 : Int) < 2147483647; decide), ?_⟩
        refine ⟨_, rfl, _, rfl, _, _, rfl, rfl, .inl (mb (by decide) (by decide)), _, rfl, _, _, rfl, rfl, .inl (by constructor <;> decide), _, _, rfl, rfl, _, _, rfl, rfl, _, _, rfl, rfl, (by show (0 : Int) < 2147483629; decide), ?_⟩
        refine ⟨_, rfl, _, rfl, _, _, rfl, rfl, .inl (mb (by decide) (by decide)), _, rfl, _, _, rfl, rfl, .inl (by constructor <;> decide), _, _, rfl, rfl, _, rfl, _, _, rfl, rfl, .inl (by constructor <;> decide), _, _, rfl, rfl, _, _, rfl, rfl, (by show (0 : Int) < 2147483587; decide), ?_⟩
        refine ⟨_, rfl, _, _, rfl, rfl, (by constructor <;> decide), _, rfl, _, _, rfl, rfl, (by show (0 : Int) < many; omega), ?_⟩
        exact k _ _ k1 stay (mod_lt (by omega)).1 (mod_lt (by omega)).2
end
end KN


set_option Elab.async false
set_option linter.all false
set_option maxRecDepth 100000
set_option maxHeartbeats 4000000
namespace KN
open PySem L2
theorem takes_never {X : Cx} : Takes X (fun _ _ _ _ => False) := fun _ _ ⟨_, _, _, _, _, _, _, _, _, _, _, _, _, _, _, _, w⟩ => w.elim
abbrev tl (x : Str) : List Nat := x.cps.toList
/-- a word -/
def Lt (l : List Nat) : Prop := ∀ c ∈ l, 97 ≤ c ∧ c ≤ 122
def IsW (s : Str) : Prop := 1 ≤ (tl s).length ∧ (tl s).length ≤ 12 ∧ Lt (tl s)
theorem Lt.app {a b : List Nat} (h : Lt a) (k : Lt b) : Lt (a ++ b) := fun c hc => (List.mem_append.mp hc).elim (h c) (k c)
theorem Lt.drop {a : List Nat} (h : Lt a) (n : Nat) : Lt (a.drop n) := fun c hc => h c (List.mem_of_mem_drop hc)
theorem Lt.take {a : List Nat} (h : Lt a) (n : Nat) : Lt (a.take n) := fun c hc => h c (List.mem_of_mem_take hc)
theorem tl_cut (z : Str) (lo hi : Option Int) : tl (cutS z lo hi) = ((tl z).drop (HT.sIx z.length 0 lo)).take (HT.sIx z.length z.length hi - HT.sIx z.length 0 lo) := rfl
theorem Lt.cut {z : Str} (h : Lt (tl z)) (lo hi : Option Int) : Lt (tl (cutS z lo hi)) := by rw [tl_cut]; exact (h.drop _).take _
theorem len_cut (z : Str) (lo hi : Option Int) : (tl (cutS z lo hi)).length ≤ (tl z).length := by
  rw [tl_cut, List.length_take, List.length_drop]; omega
theorem slen (z : Str) : z.length = (tl z).length := TL.len_tl z
theorem tl_letters : tl letters = (List.range 26).map (· + 97) := by decide +kernel
theorem at_ofG {α : Type} {xs : List α} {i : Int} {v : α} (h : 0 ≤ i) (e : xs[i.toNat]? = some v) : atI xs i = some v := by
  have q := atI_nat (xs := xs) (j := i.toNat) e
  rwa [Int.toNat_of_nonneg h] at q
theorem letter_at {i : Int} (h : 0 ≤ i) (k : i < 26) : atI (tl letters) i = some (i.toNat + 97) := by
  refine at_ofG h ?_
  rw [tl_letters, List.getElem?_map, List.getElem?_range (by omega)]; rfl
theorem letter_ix : ∀ k, k < 26 → (Txt.index0 letters ⟨#[k + 97]⟩).isSome = true ∧ ∀ j, Txt.index0 letters ⟨#[k + 97]⟩ = some j → j = k := by decide +kernel
theorem index_letter {c : Nat} (h : 97 ≤ c ∧ c ≤ 122) : Txt.index0 letters ⟨#[c]⟩ = some (c - 97) := by
  have q := letter_ix (c - 97) (by omega)
  rw [show c - 97 + 97 = c by omega] at q
  cases e : Txt.index0 letters ⟨#[c]⟩ with
  | none => rw [e] at q; exact absurd q.1 (by decide)
  | some j => rw [q.2 j e]
theorem tl_join0 : ∀ ss : List Str, tl (Txt.join "" ss) = (ss.map tl).flatten := by
  intro ss
  have e : tl (Txt.join "" ss) = TL.joinL (tl "") (ss.map tl) := by rw [TL.join_eq]; exact TL.tl_join "" ss
  rw [e]
  have e0 : tl "" = [] := by decide +kernel
  rw [e0]
  generalize ss.map tl = ps
  induction ps with
  | nil => rfl
  | cons p r ih =>
    cases r with
    | nil => simp [TL.joinL]
    | cons q r => simp only [TL.joinL, List.nil_append] at ih ⊢; rw [ih]; rfl

/-- the texts of one letter each -/
def One (ss : List Str) : Prop := ∀ s ∈ ss, ∃ c, tl s = [c] ∧ 97 ≤ c ∧ c ≤ 122
theorem One.word {ss : List Str} (h : One ss) : (tl (Txt.join "" ss)).length = ss.length ∧ Lt (tl (Txt.join "" ss)) := by
  rw [tl_join0]
  induction ss with
  | nil => exact ⟨rfl, fun c hc => by cases hc⟩
  | cons s r ih =>
    obtain ⟨c, e, h1, h2⟩ := h s List.mem_cons_self
    obtain ⟨a, b⟩ := ih fun x hx => h x (List.mem_cons_of_mem _ hx)
    rw [List.map_cons, List.flatten_cons, e]
    refine ⟨by rw [List.length_append, a]; simp; omega, Lt.app (fun d hd => ?_) b⟩
    rw [List.mem_singleton] at hd; subst hd; exact ⟨h1, h2⟩
theorem One.sum {ss : List Str} (h : One ss) : (ss.map (·.length)).sum = ss.length := by
  induction ss with
  | nil => rfl
  | cons s r ih =>
    obtain ⟨c, e, _⟩ := h s List.mem_cons_self
    rw [List.map_cons, List.sum_cons, ih fun x hx => h x (List.mem_cons_of_mem _ hx), slen, e]
    simp; omega

def Odd6 (y : Int) : Prop := y = 3 ∨ y = 5 ∨ y = 7 ∨ y = 9 ∨ y = 11 ∨ y = 15
theorem odd_ne {f y : Int} (h : Odd6 y) {i j : Int} (i0 : 0 ≤ i) (ij : i < j) (jl : j < 26) : (f + y * i) % 26 ≠ (f + y * j) % 26 := by
  unfold Odd6 at h
  rcases h with rfl | rfl | rfl | rfl | rfl | rfl <;> omega
/-- words that are unlike at one place: what stands ahead of it, a letter by its number, anything -/
def Shp (pre : List Nat) (f y : Int) (ss : List Str) : Prop := ∀ (i : Nat) (s : Str), ss[i]? = some s → ∃ r, tl s = pre ++ (((f + y * (0 + (i : Int))) % 26).toNat + 97) :: r
theorem Shp.ne {pre : List Nat} {f y : Int} {ss : List Str} (h : Shp pre f y ss) (o : Odd6 y) (hl : ss.length ≤ 26) {i j : Nat} {s u : Str} (hi : ss[i]? = some s) (hj : ss[j]? = some u) (ij : i < j) : s ≠ u := by
  intro e
  subst e
  obtain ⟨r, h1⟩ := h i s hi
  obtain ⟨q, h2⟩ := h j s hj
  have jl : j < ss.length := (List.getElem?_eq_some_iff.mp hj).1
  have e := List.append_cancel_left (h1.symm.trans h2)
  injection e with e _
  refine odd_ne (f := f) o (i := 0 + (i : Int)) (j := 0 + (j : Int)) (by omega) (by omega) (by omega) ?_
  have q1 := Int.emod_nonneg (f + y * (0 + (i : Int))) (by decide : (26 : Int) ≠ 0)
  have q2 := Int.emod_nonneg (f + y * (0 + (j : Int))) (by decide : (26 : Int) ≠ 0)
  omega
theorem nd_of {ss : List Str} (h : ∀ (i j : Nat) (s u : Str), i < j → ss[i]? = some s → ss[j]? = some u → s ≠ u) : ss.Nodup :=
  List.pairwise_iff_getElem.mpr fun i j hi hj ij => h i j _ _ ij (List.getElem?_eq_getElem hi) (List.getElem?_eq_getElem hj)
theorem Shp.nd {pre : List Nat} {f y : Int} {ss : List Str} (h : Shp pre f y ss) (o : Odd6 y) (hl : ss.length ≤ 26) : ss.Nodup := nd_of fun _ _ _ _ ij hi hj => h.ne o hl hi hj ij
/-- one of them put short -/
theorem Shp.nd_set {pre : List Nat} {f y : Int} {ss : List Str} (h : Shp pre f y ss) (o : Odd6 y) (hl : ss.length ≤ 26) (k : Nat) {z : Str} (hz : (tl z).length = pre.length) : (ss.set k z).Nodup := by
  have no : ∀ i s, ss[i]? = some s → s ≠ z := fun i s hi e => by
    obtain ⟨r, hr⟩ := h i s hi
    rw [e] at hr
    have := congrArg List.length hr
    rw [List.length_append, List.length_cons] at this
    omega
  have at' : ∀ i s, (ss.set k z)[i]? = some s → (i = k ∧ s = z) ∨ (i ≠ k ∧ ss[i]? = some s) := fun i s hi => by
    rw [List.getElem?_set] at hi
    by_cases e : k = i
    · rw [if_pos e] at hi
      split at hi
      · exact .inl ⟨e.symm, (Option.some.inj hi).symm⟩
      · cases hi
    · rw [if_neg e] at hi; exact .inr ⟨fun q => e q.symm, hi⟩
  refine nd_of fun i j s u ij hi hj => ?_
  rcases at' i s hi with ⟨e1, rfl⟩ | ⟨_, h1⟩ <;> rcases at' j u hj with ⟨e2, rfl⟩ | ⟨_, h2⟩
  · omega
  · exact (no j u h2).symm
  · exact no i s h1
  · exact h.ne o hl h1 h2 ij
theorem six_at {r : Int} (h : 0 ≤ r) (k : r < 6) : ∃ y, atI [V.int 3, .int 5, .int 7, .int 9, .int 11, .int 15] r = some (.int y) ∧ 3 ≤ y ∧ y ≤ 15 ∧ Odd6 y := by
  have : r = 0 ∨ r = 1 ∨ r = 2 ∨ r = 3 ∨ r = 4 ∨ r = 5 := by omega
  rcases this with rfl | rfl | rfl | rfl | rfl | rfl <;> exact ⟨_, rfl, by decide, by decide, by unfold Odd6; decide⟩
theorem two_at {r : Int} (x y : V) (h : 0 ≤ r) (k : r < 2) : ∃ v, atI [x, y] r = some v ∧ (v = x ∨ v = y) := by
  have : r = 0 ∨ r = 1 := by omega
  rcases this with rfl | rfl
  · exact ⟨_, rfl, .inl rfl⟩
  · exact ⟨_, rfl, .inr rfl⟩
theorem atI_in {α : Type} {xs : List α} {i : Int} (h : 0 ≤ i) (k : i < xs.length) : ∃ v, atI xs i = some v ∧ xs[i.toNat]? = some v := by
  have hl : i.toNat < xs.length := by omega
  exact ⟨xs[i.toNat], at_ofG h (List.getElem?_eq_getElem hl), List.getElem?_eq_getElem hl⟩
def spNames : Sp := fun vs H Q _ => ∃ (p c : Addr) (b many : Int), vs = [.ref p, .int many] ∧ Pen H p c b ∧ b ≤ 1000000000 ∧ 0 ≤ many ∧ many ≤ 26 ∧
  ∀ (H' : Hp) (l : Addr) (ss : List Str), Kp p H H' → Pen H' p c (b + 16) → H l = none → H' l = some (.lst (ss.map V.str)) → ss.length = many.toNat → (∀ s ∈ ss, IsW s) → ss.Nodup → Q (.ref l) H'

section
variable {P : Program} {w : World} {K : PySem.W.Frag} {mg : Str → Option Value} {base : Heap}
end
end KN


set_option Elab.async false
set_option linter.all false
set_option maxRecDepth 100000
set_option maxHeartbeats 4000000
namespace KN
open PySem L2
theorem three_at {r : Int} (x y z : Int) (h : 0 ≤ r) (k : r < 3) : ∃ v, atI [V.int x, V.int y, V.int z] r = some (.int v) ∧ (v = x ∨ v = y ∨ v = z) := by
  have : r = 0 ∨ r = 1 ∨ r = 2 := by omega
  rcases this with rfl | rfl | rfl
  · exact ⟨_, rfl, .inl rfl⟩
  · exact ⟨_, rfl, .inr (.inl rfl)⟩
  · exact ⟨_, rfl, .inr (.inr rfl)⟩

def MoS (m : Mo) : Prop := 0 ≤ m.1 ∧ m.1 ≤ 900000 ∧ 1 ≤ m.2 ∧ m.2 ≤ 900000
theorem MoS.ok {m : Mo} (h : MoS m) : MoOk m := by unfold MoS at h; unfold MoOk; omega
def MoM (m : Mo) : Prop := 0 ≤ m.1 ∧ m.1 ≤ 800000 ∧ 1 ≤ m.2 ∧ m.2 ≤ 800000
theorem MoM.s {m : Mo} (h : MoM m) : MoS m := by unfold MoM at h; unfold MoS; omega
def spMoments : Sp := fun vs H Q _ => ∃ (p c : Addr) (b many : Int), vs = [.ref p, .int many] ∧ Pen H p c b ∧ b ≤ 1000000000 ∧ 0 ≤ many ∧ many ≤ 100 ∧
  ∀ (H' : Hp) (l : Addr) (ms : List Mo), Kp p H H' → Pen H' p c (b + 2 + 3 * many) → H l = none → Ls H' l (ms.map mD) → ms.length = many.toNat → ms.Pairwise mLt → (∀ m ∈ ms, MoM m) → Q (.ref l) H'

section
variable {P : Program} {w : World} {K : PySem.W.Frag} {mg : Str → Option Value} {base : Heap}
end
end KN


set_option Elab.async false
set_option linter.all false
set_option maxRecDepth 100000
set_option maxHeartbeats 4000000
namespace KN
open PySem L2
def isWB (s : Str) : Bool := decide (1 ≤ s.length) && decide (s.length ≤ 12) && (tl s).all fun c => decide (c ∈ tl letters)
theorem mem_letters (c : Nat) : c ∈ tl letters ↔ 97 ≤ c ∧ c ≤ 122 := by
  rw [tl_letters, List.mem_map]
  constructor
  · rintro ⟨k, hk, rfl⟩
    rw [List.mem_range] at hk; omega
  · intro h
    exact ⟨c - 97, List.mem_range.mpr (by omega), by omega⟩
theorem isWB_iff {s : Str} : isWB s = true ↔ IsW s := by
  unfold isWB IsW Lt
  rw [Bool.and_eq_true, Bool.and_eq_true, decide_eq_true_iff, decide_eq_true_iff, List.all_eq_true, slen]
  constructor
  · rintro ⟨⟨h1, h2⟩, h3⟩
    exact ⟨h1, h2, fun c hc => (mem_letters c).mp (of_decide_eq_true (h3 c hc))⟩
  · rintro ⟨h1, h2, h3⟩
    exact ⟨⟨h1, h2⟩, fun c hc => decide_eq_true ((mem_letters c).mpr (h3 c hc))⟩

def spNumber (K : PySem.W.Frag) : Sp := fun vs H Q _ => ∃ (v : V) (lo hi : Int), vs = [v, .int lo, .int hi] ∧
  ((∃ i, v = .int i ∧ Q (.bl (decide (lo ≤ i) && decide (i ≤ hi))) H) ∨ (∃ b, v = .bl b ∧ Q (.bl false) H) ∨ ∃ t, TyX K H v t ∧ PySem.W.kitOne K t (.type "int") = some false ∧ Q (.bl false) H)
def spWord (K : PySem.W.Frag) : Sp := fun vs H Q _ => ∃ v : V, vs = [v] ∧
  ((∃ s, v = .str s ∧ s.length ≤ sizeLine ∧ ∀ H', Same H H' → Q (.bl (isWB s)) H') ∨ ∃ t, TyX K H v t ∧ PySem.W.kitOne K t (.type "str") = some false ∧ Q (.bl false) H)
def spMoment : Sp := fun vs H Q _ => ∃ (a : Addr) (m : Mo), vs = [.ref a] ∧ H a = some (.tup [.int m.1, .int m.2]) ∧ MoOk m ∧ Q (.bl true) H
def spList : Sp := fun vs H Q _ => ∃ a, vs = [.ref a] ∧ ((∃ xs, H a = some (.tup xs)) ∨ ∃ xs, H a = some (.lst xs)) ∧ ∀ H', Same H H' → Q (.bl true) H'
/-- one sheet in a tuple -/
def SheetsOk (ss : List Str) : Prop := ss ≠ [] ∧ ss.length ≤ 60 ∧ ss.Nodup ∧ ∀ s ∈ ss, IsW s
def spSheets : Sp := fun vs H Q _ => ∃ (a : Addr) (ss : List Str), vs = [.ref a] ∧ H a = some (.tup (ss.map V.str)) ∧ SheetsOk ss ∧ ∀ H', Same H H' → Q (.bl true) H'
def spSheets1 : Sp := fun vs H Q _ => ∃ (a : Addr) (s : Str), vs = [.ref a] ∧ H a = some (.tup [.str s]) ∧ IsW s ∧ ∀ H', Same H H' → Q (.bl true) H'
/-- up to a pair -/
def upB (m : Mo) : Option Mo → Bool
  | none => true
  | some u => decide (m.1 < u.1 ∨ m.1 = u.1 ∧ m.2 ≤ u.2)
def UpV (H : Hp) (v : V) : Option Mo → Prop
  | none => v = .non
  | some u => ∃ a, v = .ref a ∧ H a = some (.tup [.int u.1, .int u.2])
theorem UpV.to {H H' : Hp} {v : V} {u : Option Mo} (h : UpV H v u) (k : TK H H') : UpV H' v u := by
  cases u with
  | none => exact h
  | some u => obtain ⟨a, e, h⟩ := h; exact ⟨a, e, k _ _ h⟩
def spThere : Sp := fun vs H Q _ => ∃ (a : Addr) (m : Mo) (v : V) (u : Option Mo), vs = [.ref a, v] ∧ H a = some (.tup [.int m.1, .int m.2]) ∧ UpV H v u ∧ Q (.bl (upB m u)) H
/-- a new moment beside a dict by moments: nothing is raised -/
def spNew : Sp := fun vs H Q _ => ∃ (a d : Addr) (m : Mo) (kvs : List (List Key × V)), vs = [.ref a, .ref d] ∧ H a = some (.tup [.int m.1, .int m.2]) ∧ MoOk m ∧ H d = some (.dT kvs) ∧ valV kvs (mK m) = none ∧ Q .non H
def spMissing : Sp := fun vs H Q _ => ∃ (a d : Addr) (m : Mo) (kvs : List (List Key × V)), vs = [.ref a, .ref d] ∧ H a = some (.tup [.int m.1, .int m.2]) ∧ MoOk m ∧ H d = some (.dT kvs) ∧ (valV kvs (mK m)).isSome = true ∧ Q .non H
theorem lex2 (m u : Mo) : Ob.lexAt (fun j => decide (([m.1, m.2] : List Int).getD j 0 = ([u.1, u.2] : List Int).getD j 0)) (fun j => decide (([m.1, m.2] : List Int).getD j 0 ≤ ([u.1, u.2] : List Int).getD j 0)) (decide (([m.1, m.2] : List Int).length ≤ ([u.1, u.2] : List Int).length)) 0 (min ([m.1, m.2] : List Int).length ([u.1, u.2] : List Int).length) = decide (m.1 < u.1 ∨ m.1 = u.1 ∧ m.2 ≤ u.2) := by
  show Ob.lexAt _ _ _ 0 2 = _
  rw [Ob.lexAt_succ, Ob.lexAt_succ, Ob.lexAt_zero]
  simp only [List.getD_cons_zero, List.getD_cons_succ, List.length_cons, List.length_nil]
  by_cases h1 : m.1 = u.1
  · rw [decide_eq_true h1, if_pos rfl]
    by_cases h2 : m.2 = u.2
    · rw [decide_eq_true h2, if_pos rfl]
      rw [decide_eq_true (by omega : (0 + 1 + 1 ≤ 0 + 1 + 1))]
      exact (decide_eq_true (by omega)).symm
    · rw [decide_eq_false h2, if_neg (by decide)]
      by_cases h3 : m.2 ≤ u.2
      · rw [decide_eq_true h3]; exact (decide_eq_true (by omega)).symm
      · rw [decide_eq_false h3]; exact (decide_eq_false (by omega)).symm
  · rw [decide_eq_false h1, if_neg (by decide)]
    by_cases h3 : m.1 ≤ u.1
    · rw [decide_eq_true h3]; exact (decide_eq_true (by omega)).symm
    · rw [decide_eq_false h3]; exact (decide_eq_false (by omega)).symm

section
variable {P : Program} {w : World} {K : PySem.W.Frag} {mg : Str → Option Value} {base : Heap}
theorem sc_is_number : FnScope ["thing", "low", "high"] ["thing", "low", "high"] (defScope s_is_number) := ⟨rfl, rfl, rfl, by decide +kernel, rfl, by decide +kernel, by decide +kernel⟩
theorem ok_is_number {f : Addr} {fd : FuncData} (F : Fun K "is_number" "is_number" s_is_number f fd) (m_isinstance : mg "isinstance" = none) (m_int : mg "int" = none) (m_bool : mg "bool" = none) : FnOk P w K mg base CX0 1 f fd ["thing", "low", "high"] (spNumber K) := by
  refine F.ok sc_is_number (fun vs H Q E h => ?_) (fun cdv A outer s H vs Q E hr h => ?_)
  · obtain ⟨v, lo, hi, rfl, _⟩ := h; rfl
  · obtain ⟨v, lo, hi, rfl, h⟩ := h
    refine ⟨_, (pss_one (ps_ret (pe_and (pe_callB call_isi (by rfl) m_isinstance (by decide +kernel) (pa_cons (pv 0) (pa_cons (pe_bltn (v := .ty "int") (u := .type "int") rfl m_int (by decide +kernel) rfl) pa_nil))) (pe_and (pe_not (pe_callB call_isi (by rfl) m_isinstance (by decide +kernel) (pa_cons (pv 0) (pa_cons (pe_bltn (v := .ty "bool") (u := .type "bool") rfl m_bool (by decide +kernel) rfl) pa_nil)))) (pe_one (pe_chain op_le op_le (pv 1) (pv 0) (pv 2))))))), ?_⟩
    rcases h with ⟨i, rfl, k⟩ | ⟨b, rfl, k⟩ | ⟨t, ht, hk, k⟩
    · refine ⟨_, rfl, _, _, _, _, true, rfl, .ty _, .base (.int _), kit_ty (by decide +kernel), _, rfl, iteT ?_⟩
      refine ⟨_, rfl, _, _, _, _, false, rfl, .ty _, .base (.int _), kit_ty (by decide +kernel), _, rfl, _, rfl, iteT ?_⟩
      refine ⟨_, rfl, _, rfl, _, _, rfl, rfl, _, rfl, ite2 (fun h1 => ?_) (fun h1 => ?_)⟩
      · refine ⟨_, rfl, _, _, rfl, rfl, ?_⟩
        rw [h1] at k; exact k
      · rw [Bool.eq_false_iff.mpr h1] at k; exact k
    · refine ⟨_, rfl, _, _, _, _, true, rfl, .ty _, .base (.bl _), kit_ty (by decide +kernel), _, rfl, iteT ?_⟩
      refine ⟨_, rfl, _, _, _, _, true, rfl, .ty _, .base (.bl _), kit_ty (by decide +kernel), _, rfl, _, rfl, iteF ?_⟩
      exact k
    · refine ⟨_, rfl, _, _, _, _, false, rfl, .ty _, ht, hk, _, rfl, iteF ?_⟩
      exact k
theorem sc_is_word : FnScope ["thing", "sign"] ["thing"] (defScope s_is_word) := ⟨rfl, rfl, rfl, by decide +kernel, rfl, by decide +kernel, by decide +kernel⟩
theorem ok_is_word {f : Addr} {fd : FuncData} (F : Fun K "is_word" "is_word" s_is_word f fd) (m_isinstance : mg "isinstance" = none) (m_str : mg "str" = none) (m_len : mg "len" = none) (m_all : mg "all" = none)
    (g_MOST_LETTERS : ∃ u, mg "MOST_LETTERS" = some u ∧ RelV (.int 12) u) (g_LETTERS : ∃ u, mg "LETTERS" = some u ∧ RelV (.str letters) u) : FnOk P w K mg base CX0 1 f fd ["thing"] (spWord K) := by
  refine F.ok sc_is_word (fun vs H Q E h => ?_) (fun cdv A outer s H vs Q E hr h => ?_)
  · obtain ⟨v, rfl, _⟩ := h; rfl
  · obtain ⟨v, rfl, h⟩ := h
    refine ⟨_, (pss_cons (ps_if (PW.pt (pw_or (pt_not (pt_val (pe_callB call_isi (by rfl) m_isinstance (by decide +kernel) (pa_cons (pv 0) (pa_cons (pe_bltn (v := .ty "str") (u := .type "str") rfl m_str (by decide +kernel) rfl) pa_nil))))) (pw_or1 (pt_not (pt_chain op_le op_le pe_int (pe_callB call_len_str (by rfl) m_len (by decide +kernel) (pa_cons (pv 0) pa_nil)) (C8.pe_gc rfl g_MOST_LETTERS)))))) (pss_one (ps_ret pe_bl)) pss_nil)
      (pss_one (ps_ret (pe_callB (cr_all rfl) (by rfl) m_all (by decide +kernel) (pa_cons (pe_lc (own := [("sign", 1)]) (g := gName 1) (tt := tYes) rfl sc_is_word.nd (pi_str (pv 0)) (blkOk_by (own := [("sign", 1)]) (N := ["thing", "sign"]) (sc := defScope s_is_word) (by decide +kernel)) (fun _ _ _ _ _ => pg_name (i := 1) sc_is_word.nd rfl (Or.inl rfl)) (fun _ _ _ _ _ => pts_nil) (fun _ _ _ _ _ => (pe_cmpR op_in_sign (pv 1) (C8.pe_gc rfl g_LETTERS) rfl))) pa_nil))))), ?_⟩
    rcases h with ⟨z, rfl, hz, k⟩ | ⟨t, ht, hk, k⟩
    · refine ⟨_, rfl, _, _, _, _, true, rfl, .ty _, .base (.str _), kit_ty (by decide +kernel), _, rfl, iteF ?_⟩
      refine ⟨_, rfl, _, rfl, hz, _, _, rfl, rfl, _, rfl, ?_⟩
      have go : 1 ≤ z.length ∧ z.length ≤ 12 ∨ ¬ (1 ≤ z.length ∧ z.length ≤ 12) := Decidable.em _
      rcases go with h1 | h1
      · rw [decide_eq_true (by have := h1.1; omega : (1 : Int) ≤ (z.length : Int))]
        refine iteT ⟨_, _, rfl, rfl, _, rfl, ?_⟩
        rw [decide_eq_true (by have := h1.2; omega : (z.length : Int) ≤ 12)]
        refine iteF ?_
        -- all([..])
        refine ⟨_, rfl, _, rfl, fun D hD => ?_⟩
        refine lc_it walk_str (fun i H' => Same H H' ∧ ∃ bs : List Bool, H' D = some (.lst (bs.map V.bl)) ∧ bs = ((tl z).take i).map fun c => decide (c ∈ tl letters))
          ⟨Same.new hD, [], upd_same, by rw [List.take_zero]; rfl⟩ (fun _ _ _ _ => trivial) ?_ ?_
        · rintro i x H1 H2 hi ⟨s1, bs, e1, e2⟩ ⟨rfl, c, hc, rfl⟩
          have hc' : (tl z)[i]? = some c := by show z.cps.toList[i]? = _; rw [Array.getElem?_toList]; exact hc
          have hlen : bs.length ≤ 12 := by rw [e2, List.length_map]; exact Nat.le_trans (List.length_take_le' _ _) (by rw [← slen]; exact h1.2)
          refine ⟨rfl, _, rfl, c, _, rfl, rfl, _, e1, by rw [List.length_map]; exact small1000 (by omega), fun b o e => ?_, bs ++ [decide (c ∈ tl letters)], by rw [upd_same, List.map_append]; rfl, ?_⟩
          · rw [upd_ne (ne_of_none e hD)]; exact s1 _ _ e
          · rw [List.take_add_one, hc', e2, Option.toList_some, List.map_append]; rfl
        · rintro H1 ⟨s1, bs, e1, e2⟩
          refine ⟨D, bs, rfl, SqL.of e1, ?_⟩
          have e3 : bs.all id = isWB z := by
            rw [e2, show z.cps.size = (tl z).length from (Array.length_toList).symm, List.take_of_length_le (Nat.le_refl _), List.all_map]
            unfold isWB
            rw [decide_eq_true h1.1, decide_eq_true h1.2]; rfl
          rw [e3]; exact k _ s1
      · have e0 : isWB z = false := by
          unfold isWB
          rcases Nat.lt_or_ge z.length 1 with h | h
          · rw [decide_eq_false (by omega : ¬ 1 ≤ z.length)]; rfl
          · rw [decide_eq_false (fun q => h1 ⟨h, q⟩ : ¬ z.length ≤ 12), Bool.and_false]; rfl
        refine ite2 (fun h => ?_) (fun h => ?_)
        · have h' := of_decide_eq_true h
          refine ⟨_, _, rfl, rfl, _, rfl, ?_⟩
          rw [decide_eq_false (fun q => h1 ⟨by omega, by omega⟩ : ¬ (z.length : Int) ≤ 12)]
          refine iteT ?_
          have := k H (Same.refl H)
          rw [e0] at this; exact this
        · refine ⟨_, rfl, ?_⟩
          refine iteT ?_
          have := k H (Same.refl H)
          rw [e0] at this; exact this
    · refine ⟨_, rfl, _, _, _, _, false, rfl, .ty _, ht, hk, _, rfl, iteT ?_⟩
      exact iteT k
end
end KN


set_option Elab.async false
set_option linter.all false
set_option maxRecDepth 100000
set_option maxHeartbeats 4000000
/-! Own rules: own exception classes over KeyError, LookupError, RuntimeError, ValueError, each with an __init__ of its own that stores. -/
namespace KN
open PySem PySem.Spec PyProof.Rows L2
/-- what a class's line beneath the class itself must say: made as B is -/
structure LineOk (B : String) (bm : List Value) : Prop where
  base : bm.contains (.type B) = true
  plainA : bm.contains (.type "AttributeError") = false
  plainN : bm.contains (.type "NameError") = false
  top : bm.contains (.type "object") = true
  some_ : bm.isEmpty = false
  pass : ∀ self : Value, refuseLoop self "__setattr__" bm = pure ()
theorem key_line : LineOk "LookupError" keyLine := ⟨by decide +kernel, by decide +kernel, by decide +kernel, by decide +kernel, rfl, fun self => by kernel_rfl⟩
theorem look_line : LineOk "LookupError" lookLine := ⟨by decide +kernel, by decide +kernel, by decide +kernel, by decide +kernel, rfl, PySem.F.store_LookupError.passes⟩
theorem run_line : LineOk "RuntimeError" runLine := ⟨by decide +kernel, by decide +kernel, by decide +kernel, by decide +kernel, rfl, PySem.F.store_RuntimeError.passes⟩
theorem val_line : LineOk "ValueError" valLine := ⟨by decide +kernel, by decide +kernel, by decide +kernel, by decide +kernel, rfl, PySem.F.store_ValueError.passes⟩
/-- how a class is made: by the __new__ named, along the line -/
inductive MadeBy : String → List Value → Prop where
  | mk {B nw ini : String} {bmB bm : List Value} (F : ExcBaseFacts B nw ini bmB) (L : LineOk B bm) : MadeBy nw bm
theorem key_made : MadeBy "LookupError.__new__" keyLine := .mk PySem.F.excBase_LookupError key_line
theorem look_made : MadeBy "LookupError.__new__" lookLine := .mk PySem.F.excBase_LookupError look_line
theorem run_made : MadeBy "RuntimeError.__new__" runLine := .mk PySem.F.excBase_RuntimeError run_line
theorem val_made : MadeBy "ValueError.__new__" valLine := .mk PySem.F.excBase_ValueError val_line
section
variable {prog : Program} {w : World} {A : Around} {Er : Value → Shared → Prop} {hp : Heap} {gs : Array GenState} {dr : Drawn} {tk : Nat} {os : OsState} {C N : Addr} {nm qn : Str} {bs bm bmB : List Value} {hd ab : Bool} {sn : List Str} {sb : List Value} {col : Option Bool} {dd : Option Addr} {k0 k1 k2 k3 k5 : Option Value} {B nw ini : String}
theorem mk_check {M : Model} (F : ExcBaseFacts B nw ini bmB) (L : LineOk B bm) {us : List Value} {Qu : Unit → Shared → Prop} (at_ : hp.get? C = some (excClassObj nm qn C N bs bm hd sn sb ab col dd k0 k1 k2 k3 k5 nw)) (fin : Qu () ⟨hp, gs, dr, tk, os⟩) :
    wpAny M A (checkBuiltinCall nw ⟨.ref C :: us, []⟩) Qu Er ⟨hp, gs, dr, tk, os⟩ := by
  have inB : (Value.ref C :: bm).contains (.type B) = true := by
    rw [List.contains_cons, L.base]
    exact Bool.or_true _
  have star := F.noStar
  unfold checkBuiltinCall
  rw [F.newKind, F.newSplit]
  simp only [F.newRow]
  repeat first
    | refine wpAny_loadPart_at at_ ?_
    | (refine wpAny_isSubtype_exc at_ ?_
       rw [inB])
    | refine wpAny_staticBase_exc at_ ?_
    | refine wpAny_madeBy_exc at_ ?_
    | simp only [bne_self_eq_false, Bool.false_eq_true, if_false]
    | wp_step
  exact fin
/-- .. the object made: its args a fresh tuple -/
theorem mk_new (F : ExcBaseFacts B nw ini bmB) (L : LineOk B bm) {us : List Value} {Rs : Result → Shared → Prop} (at_ : hp.get? C = some (excClassObj nm qn C N bs bm hd sn sb ab col dd k0 k1 k2 k3 k5 nw)) (few : us.length ≤ sizeLine)
    (fin : Rs (.ok (.ret (.ref (hp.objs.size + 1)))) ⟨(hp.push (PySem.W.kdv_tup us)).push (PySem.HandSPX.excO C hp.objs.size), gs, dr, tk, os⟩) :
    codeAny (model prog w) A (.builtin nw ⟨.ref C :: us, []⟩) Rs ⟨hp, gs, dr, tk, os⟩ := by
  have has : ∀ {X : String} {r : Bool}, bm.contains (.type X) = r → (Value.ref C :: bm).contains (.type X) = r := fun {X r} z => by
    rw [List.contains_cons, z]
    exact Bool.false_or _
  have yesB := has L.base
  have notA := has L.plainA
  have notN := has L.plainN
  have ends_ := F.ends
  apply codeAny_builtinAt F.entry
  unfold Builtin.«BaseException.__new__»; apply PySem.wpAt_bind
  show PySem.wpAt _ _ _ (stack >>= _) _ _ _
  apply PySem.wpAt_bind; refine PySem.wpAt_stack fun p1 p2 => PySem.wpAt_of_wpAny ?_
  wp_walk
  apply PySem.wpAt_of_wpAny
  rw [F.owner]
  repeat first
    | with_reducible refine wpAny_madeHere_exc F.canon at_ ?_
    | with_reducible refine wpAny_loadPart_at at_ ?_
    | (with_reducible refine wpAny_isSubtype_exc at_ ?_
       first
         | rw [yesB]
         | rw [notA]
         | rw [notN])
    | wp_step
  show Rs _ _
  rw [Heap.size_push]
  exact fin
/-- what is known of a class's own __init__ -/
structure InitAt (prog : Program) (w : World) (hp : Heap) (C fI : Addr) : Prop where
  found : PySem.W.Looks (model prog w) hp (typeLookup (.ref C) "__init__") (some (.ref fI))
  bound : ∀ v, PySem.W.Looks (model prog w) hp (bindSpecial (.ref fI) v) (.ref fI, [v])
theorem mk_type (F : ExcBaseFacts B nw ini bmB) (L : LineOk B bm) {us : List Value} {fI : Addr} {Qf : Fin → Shared → Prop} (at_ : hp.get? C = some (excClassObj nm qn C N bs bm hd sn sb ab col dd k0 k1 k2 k3 k5 nw)) (ia : InitAt prog w hp C fI) (few : us.length ≤ sizeLine)
    (run : codeAny (model prog w) A (.call (.ref fI) ⟨.ref (hp.objs.size + 1) :: us, []⟩) (fun r t => match r with | .error e => Er e t | .ok (.ret v) => v = .none ∧ Qf (.done (.ret (.ref (hp.objs.size + 1)))) t | .ok _ => False)
      ⟨(hp.push (PySem.W.kdv_tup us)).push (PySem.HandSPX.excO C hp.objs.size), gs, dr, tk, os⟩) :
    wpAny (model prog w) A (Builtin.«type.__call__» ⟨.ref C :: us, []⟩) Qf Er ⟨hp, gs, dr, tk, os⟩ := by
  repeat first
    | with_reducible refine wpAny_loadPart_at at_ ?_
    | with_reducible refine wpAny_madeBy_exc at_ ?_
    | wp_step
  apply codeAny_call_builtin_code (Code.quiet_builtin _ F.quiet)
  apply mk_check F L at_
  refine mk_new F L at_ few (?_ : wpAny _ _ _ _ _ _)
  have grown : ∀ (b : Addr) (o : Obj), hp.get? b = some o → ((hp.push (PySem.W.kdv_tup us)).push (PySem.HandSPX.excO C hp.objs.size)).get? b = some o := fun b o e => Heap.get?_push_of_some _ (Heap.get?_push_of_some _ e)
  have at2 := grown _ _ at_
  have self_ : ((hp.push (PySem.W.kdv_tup us)).push (PySem.HandSPX.excO C hp.objs.size)).get? (hp.objs.size + 1) = some (PySem.HandSPX.excO C hp.objs.size) := by heap_get
  have own : (Value.ref C :: bm).contains (.ref C) = true := by simp
  have l1 := ia.found.keeps grown
  have l2 := (ia.bound (.ref (hp.objs.size + 1))).keeps grown
  unfold isInstance
  repeat first
    | with_reducible refine wpAny_loadPart_at self_ ?_
    | (with_reducible refine wpAny_isSubtype_exc at2 ?_
       rw [own])
    | wp_step
  show wpAny _ _ (typeLookup (.ref C) _) _ _ _
  refine l1.at (wpAny_holding (wpAny_bind (l2.at (wpAny_bind (wpAny_call (codeAny_mono run fun r t z => ?_))))))
  match r, z with
  | .error e, z => exact z
  | .ok (.ret v), ⟨e, z⟩ =>
    subst e
    first
      | exact wpAny_pure (wpAny_pure z)
      | (wp_walk; exact z)
theorem mk_call (F : ExcBaseFacts B nw ini bmB) (L : LineOk B bm) {us : List Value} {fI : Addr} {Rs : Result → Shared → Prop} (at_ : hp.get? C = some (excClassObj nm qn C N bs bm hd sn sb ab col dd k0 k1 k2 k3 k5 nw)) (ia : InitAt prog w hp C fI) (few : us.length ≤ sizeLine)
    (run : codeAny (model prog w) (A.under (.builtin "type.__call__" ⟨.ref C :: us, []⟩)) (.call (.ref fI) ⟨.ref (hp.objs.size + 1) :: us, []⟩) (PySem.W.InitBack (hp.objs.size + 1) Rs)
      ⟨(hp.push (PySem.W.kdv_tup us)).push (PySem.HandSPX.excO C hp.objs.size), gs, dr, tk, os⟩) :
    codeAny (model prog w) A (.call (.ref C) ⟨us, []⟩) Rs ⟨hp, gs, dr, tk, os⟩ := by
  have ty : (⟨hp, gs, dr, tk, os⟩ : Shared).TypeIs (.ref C) "type" := ⟨_, at_, rfl⟩
  have c1 := tc_lookup
  have c2 := tc_bind (.ref C)
  apply codeAny_of_tree
  show wpAny _ _ (callAny (.ref C) _) _ _ _
  repeat any_goals first
    | assumption
    | with_reducible refine wpAny_loadPart_at at_ ?_
    | wp_step
  refine ⟨rfl, codeAny_call_builtin_at (Code.quiet_builtin _ (by decide +kernel)) entry_typeCall (wpAny_check_type_call_sub at_ (mk_type F L at_ ia few ?_))⟩
  refine codeAny_mono run fun r t z => ?_
  match r, z with
  | .error e, z => exact z
  | .ok (.ret v), z => exact z
end
section
open Builtin Builtin.ObjectAttr
variable {prog : Program} {w : World} {A : Around} {Rs : Result → Shared → Prop} {hp : Heap} {gs : Array GenState} {dr : Drawn} {tk n0 : Nat} {os : OsState} {K : PySem.W.Frag} {x C : Addr} {name : Str} {v : Value} {cd : ClassData} {bm : List Value} {B : String}
theorem put_core {ox : Obj} {od : Option Obj} (X : K.In hp) (I : PySem.W.InstAt hp x ox C od) (known : PySem.W.clsIn K C = some cd) (line : cd.mro = .ref C :: bm) (L : LineOk B bm) (plain : PySem.W.findIn K (.ref C) name = some none)
    (go : wpAny (model prog w) A.in1 (storeInOwnDict (.ref x) (.ref C) (.str name n0) name v false) (fun f t => match f with | .done r => Rs (.ok r) t | .again c => c.quiet = true ∧ codeAny (model prog w) A c Rs t) (fun e t => Rs (.error e) t) ⟨hp, gs, dr, tk, os⟩) :
    codeAny (model prog w) A (.call (.builtin "object.__setattr__") ⟨[.ref x, .str name n0, v], []⟩) Rs ⟨hp, gs, dr, tk, os⟩ := by
  have SO := PySem.F.store_object
  have isO : PySem.W.mroIn K C (.type "object") = some true := by
    unfold PySem.W.mroIn
    rw [known, Option.bind_some, line]
    rw [if_neg (by simp), List.contains_cons, L.top]
    exact congrArg some (Bool.or_true _)
  have below : PySem.W.Looks (model prog w) hp (isInstance (.ref x) (.type "object")) true := I.type.andThen (PySem.W.looks_mroIn X isO)
  have pass : refuseLoop (.ref x) "__setattr__" cd.mro = pure () := by
    rw [line, refuseLoop_ref, L.pass]
  apply codeAny_call_builtin SO.slot.plain SO.entry
  apply @PySem.W.check_slot (model prog w) _ _ ⟨hp, gs, dr, tk, os⟩ "object.__setattr__" "object" "__setattr__" (.ref x) [.str name n0, v] [] _ SO.kind SO.split below (SO.args (.ref x) (.str name n0) v)
  have m1 : PySem.W.Looks (model prog w) hp (mroOf (.ref C)) cd.mro := (PySem.W.looks_clsIn X known).andThen .now
  have m2 : PySem.W.Looks (model prog w) hp (storeTaker? none) none := .now
  rw [PySem.W.osa_eq, refuse_eq]
  refine wpAny_bind (wpAny_bind (I.type.at (wpAny_bind (m1.at (?_ : wpAny _ _ (refuseLoop _ _ _) _ _ _)))))
  rw [pass]
  exact wpAny_pure (wpAny_bind (I.type.at (wpAny_bind ((PySem.W.looks_findIn X plain).at (wpAny_bind (m2.at go))))))
/-- the first field: the dict is laid -/
theorem put_first {fv : Array Value} (X : K.In hp) (at_ : hp.get? x = some { cls := .ref C, data := .fields fv }) (known : PySem.W.clsIn K C = some cd) (line : cd.mro = .ref C :: bm) (L : LineOk B bm) (dict : cd.hasDict = true) (plain : PySem.W.findIn K (.ref C) name = some none)
    (fin : ∀ h2 t2 dx, (∀ b o, b ≠ x → hp.get? b = some o → h2.get? b = some o) → hp.objs.size ≤ dx → dx ≠ x → h2.get? x = some { cls := .ref C, dict := some dx, data := .fields fv } → h2.Ns1 dx (fun y => if y = name then some v else none) → Rs (.ok (.ret .none)) ⟨h2, gs, dr, t2, os⟩) :
    codeAny (model prog w) A (.call (.builtin "object.__setattr__") ⟨[.ref x, .str name n0, v], []⟩) Rs ⟨hp, gs, dr, tk, os⟩ := by
  have inst : PySem.W.InstAt hp x { cls := .ref C, data := .fields fv } C none := ⟨at_, rfl, rfl, trivial⟩
  have apart : x ≠ hp.objs.size := Nat.ne_of_lt (Heap.lt_size at_)
  refine put_core X inst known line L plain ?_
  have look : PySem.W.Looks (model prog w) hp (classData C) cd := PySem.W.looks_clsIn X known
  cases cd with
  | mk nm bs mro ns qn hd sn sb ab col del =>
    dsimp only at dict
    cases dict
    unfold storeInOwnDict ownDictForStores
    repeat first
      | with_reducible refine PySem.HandSPX.store_in_new ?_ ?_
      | with_reducible refine wpAny_loadPart_at at_ ?_
      | with_reducible refine look.at ?_
      | wp_step
    · refine ⟨_, #[], _, ((Heap.get?_update_ne _ _ _ _ apart.symm).trans (Heap.get?_push_at rfl rfl)), rfl, (fun e h => ?_), fun _ => rfl⟩
      exact absurd h (by simp)
    · intro h2 t2 ns2 same
      have at2 : (hp.push { cls := .type "dict", data := .dict #[] }).get? x = some { cls := .ref C, data := .fields fv } := Heap.get?_push_of_some _ at_
      refine fin h2 t2 hp.objs.size ?_ (Nat.le_refl _) apart.symm ((same.2 x apart).trans (Heap.get?_update_self _ at2 rfl)) ns2
      intro b o nb ob
      exact (same.2 b (Nat.ne_of_lt (Heap.lt_size ob))).trans ((Heap.get?_update_ne _ _ _ _ nb).trans (Heap.get?_push_of_some _ ob))
/-- a further field -/
theorem put_more {fv : Array Value} {dx : Addr} {m0 : Str → Option Value} {nl : List Str} (X : K.In hp) (at_ : hp.get? x = some { cls := .ref C, dict := some dx, data := .fields fv }) (ns : hp.Ns1 dx m0) (within : Within m0 nl) (few : nl.length ≤ 1000) (known : PySem.W.clsIn K C = some cd) (line : cd.mro = .ref C :: bm) (L : LineOk B bm) (dict : cd.hasDict = true) (plain : PySem.W.findIn K (.ref C) name = some none)
    (fin : ∀ h2 t2, (∀ b o, b ≠ dx → hp.get? b = some o → h2.get? b = some o) → h2.Ns1 dx (fun y => if y = name then some v else m0 y) → Rs (.ok (.ret .none)) ⟨h2, gs, dr, t2, os⟩) :
    codeAny (model prog w) A (.call (.builtin "object.__setattr__") ⟨[.ref x, .str name n0, v], []⟩) Rs ⟨hp, gs, dr, tk, os⟩ := by
  obtain ⟨od, _, _, hod, _, _⟩ := ns.count within
  have inst : PySem.W.InstAt hp x { cls := .ref C, dict := some dx, data := .fields fv } C (some od) := ⟨at_, rfl, rfl, hod⟩
  refine put_core X inst known line L plain ?_
  have look : PySem.W.Looks (model prog w) hp (classData C) cd := PySem.W.looks_clsIn X known
  cases cd with
  | mk nm bs mro ns_ qn hd sn sb ab col del =>
    dsimp only at dict
    cases dict
    unfold storeInOwnDict ownDictForStores
    repeat first
      | with_reducible refine PySem.OEX.store_in_old ns within few ?_
      | with_reducible refine wpAny_loadPart_at at_ ?_
      | with_reducible refine look.at ?_
      | wp_step
    intro h2 t2 ns2 same
    exact fin h2 t2 (fun b o nb ob => (same.2 b nb).trans ob) ns2
end
end KN

set_option Elab.async false
set_option linter.all false
set_option maxRecDepth 100000
set_option maxHeartbeats 4000000
/-! Own rules: own exceptions in the hand layer's words. -/
namespace KN
open PySem PySem.Spec PyProof.Rows L2
/-- C is an own exception class, made and stored into plainly -/
structure OexG (K : PySem.W.Frag) (C : Addr) : Prop where
  made : ∃ nm qn N bs bm sn sb ab col dd k0 k1 k2 k3 k5 nw, K.lookup C = some (excClassObj nm qn C N bs bm true sn sb ab col dd k0 k1 k2 k3 k5 nw) ∧ MadeBy nw bm
  store : PySem.W.findIn K (.ref C) "__setattr__" = some (some (.builtin "object.__setattr__"))
  below : PySem.W.subIn K (.ref C) (.type "BaseException") = some true
  type_ : PySem.W.typeIn K (.ref C) = some (.type "type")
  keep : PySem.W.keepIn K (.ref C) = true
section
variable {X : Cx} {pins : List (Addr × Obj)} {σ : L2.St} {H : Hp} {s : Shared} {a C dx : Addr} {f : Str} {y : V} {u : Value} {fs : List (Str × V)} {Qu : Unit → Shared → Prop} {Er : Value → Shared → Prop} {A : Around}
theorem OexG.cd (T : OexG X.K C) : ∃ (cd : ClassData) (bm : List Value) (B : String), PySem.W.clsIn X.K C = some cd ∧ cd.mro = .ref C :: bm ∧ cd.hasDict = true ∧ LineOk B bm := by
  obtain ⟨nm, qn, N, bs, bm, sn, sb, ab, col, dd, k0, k1, k2, k3, k5, nw, look, mb⟩ := T.made
  cases mb with
  | mk F L => exact ⟨_, bm, _, by unfold PySem.W.clsIn; rw [look] <;> rfl, rfl, rfl, L⟩
theorem put_new (T : OexG X.K C) (I : Inv X pins σ H s) (here : H a = some (exo a C none)) (plain : PySem.W.findIn X.K (.ref C) f = some none) (ru : RelV y u)
    (go : ∀ dx t, H dx = none → dx ≠ a → Inv X pins σ (upd (upd H dx (exd dx [(f, y)])) a (exo a C (some dx))) t → Qu () t) : wpAny (model X.prog X.w) A (setAttr (.ref a) f u) Qu Er s := by
  obtain ⟨cd, bm, B, known, line, dict, L⟩ := T.cd
  obtain ⟨t1, obj⟩ := exo_at I.hok here
  obtain ⟨hp, gs, dr, tk, os⟩ := s
  apply PySem.W.set_plain I.kIn (ox := { cls := .ref C, dict := none, data := .fields #[.ref t1, .none, .none, .none, .bool false, .none] }) (od := none) ⟨obj, rfl, rfl, trivial⟩ T.store
  refine put_first I.kIn obj known line L dict plain fun h2 t2 dx kept fresh apart at2 ns2 => ?_
  have none_ : H dx = none := I.hok.fresh fresh
  have off : ∀ {b : Addr} {o : Obj}, hp.get? b = some o → b ≠ dx := fun {b o} e => Nat.ne_of_lt (Nat.lt_of_lt_of_le (Heap.lt_size e) fresh)
  have off2 : ∀ {b : Addr}, H b = none → b ≠ a := fun {b} e z => by
    subst z; rw [here] at e; cases e
  have un : Un X.fs [] H (upd (upd H dx (exd dx [(f, y)])) a (exo a C (some dx))) hp h2 :=
    { keep := fun b o e n p q => kept b o (off2 n) e
      slot := fun b o e n p q => ⟨o.slots, kept b o (off2 n) e⟩
      free := fun b o e n p => by
        rw [upd_ne (off2 n), upd_ne (off e)]
        exact n
      there := fun b o e p => (Classical.em (b = a)).elim (fun z => ⟨_, (congrArg h2.get? z).trans at2⟩) fun z => ⟨o, kept b o z e⟩
      tups := fun b xs e => by
        rw [upd_ne (at_ne here e exo_tup), upd_ne (ne_of_none e none_)]
        exact e
      frzs := fun b o v e => by
        rw [upd_ne (at_ne here e exo_frz), upd_ne (ne_of_none e none_)]
        exact e
      tbls := fun b ps e => ⟨#[], by
        rw [upd_ne (at_ne here e exo_tbl), upd_ne (ne_of_none e none_), e]
        simp⟩ }
  refine go dx _ none_ apart (I.un (t' := t2) un fun b o e => ?_)
  rcases Classical.em (b = a) with z | z
  · subst z
    rw [upd_same] at e; cases e
    exact exo_ok at2
  rw [upd_ne z] at e
  rcases Classical.em (b = dx) with z2 | z2
  · subst z2
    rw [upd_same] at e; cases e
    exact exd_ok ns2 (relO_put (fs := []) ru fun _ => True.intro)
  rw [upd_ne z2] at e
  refine (I.hok b o e).stay (fun c v hc => kept c v ?_) (fun c hc => ?_) fun c xs hc => ?_
  · rcases hc with hc | hc
    · rw [hc]; exact z
    · exact at_ne here hc exo_own
  · rw [upd_ne (at_ne here hc exo_own), upd_ne (ne_of_none hc none_)]
    exact hc
  · rw [upd_ne (at_ne here hc exo_tup), upd_ne (ne_of_none hc none_)]
    exact hc
theorem put_old (T : OexG X.K C) (I : Inv X pins σ H s) (here : H a = some (exo a C (some dx))) (hd : H dx = some (exd dx fs)) (few : fs.length ≤ 900) (plain : PySem.W.findIn X.K (.ref C) f = some none) (ru : RelV y u)
    (go : ∀ t, Inv X pins σ (upd H dx (exd dx ((f, y) :: fs))) t → Qu () t) : wpAny (model X.prog X.w) A (setAttr (.ref a) f u) Qu Er s := by
  obtain ⟨cd, bm, B, known, line, dict, L⟩ := T.cd
  obtain ⟨t1, obj⟩ := exo_at I.hok here
  obtain ⟨mA, ns, rel⟩ := exd_at I.hok hd
  have within := within_of rel
  obtain ⟨hp, gs, dr, tk, os⟩ := s
  obtain ⟨od, _, _, hod, _, _⟩ := ns.count within
  apply PySem.W.set_plain I.kIn (ox := { cls := .ref C, dict := some dx, data := .fields #[.ref t1, .none, .none, .none, .bool false, .none] }) (od := some od) ⟨obj, rfl, rfl, hod⟩ T.store
  refine put_more I.kIn obj ns within (by rw [List.length_map]; exact Nat.le_trans few (by decide)) known line L dict plain fun h2 t2 kept ns2 => ?_
  have there : ∃ o, h2.get? dx = some o := let ⟨o, _, _, e, _⟩ := ns2; ⟨o, e⟩
  exact go _ (I.write (t' := t2) (x := dx) (e := dx) (o := exd dx ((f, y) :: fs)) (by rw [hd]; trivial) (Or.inl rfl) kept there (exd_ok ns2 (relO_put ru rel)))
end
/-- what follows when f of the exception at a takes y: a further field of its dict, or its first one -/
def PutG (D : Ends) (σ : L2.St) (f : Str) (a C : Addr) (y : V) (H : Hp) : Prop :=
  (∃ (at_ : Addr) (had : List (Str × V)), H a = some (exo a C (some at_)) ∧ H at_ = some (exd at_ had) ∧ had.length ≤ 900 ∧ D.nx σ (upd H at_ (exd at_ ((f, y) :: had)))) ∨
    (H a = some (exo a C none) ∧ ∀ at_, H at_ = none → at_ ≠ a → D.nx σ (upd (upd H at_ (exd at_ [(f, y)])) a (exo a C (some at_))))
/-- self.f = e, self an exception that is being made -/
def tPutG (K : PySem.W.Frag) (f : Str) (to te : TE) : TS := fun D σ H => te σ H fun y H1 => to σ H1 fun self_ H2 => ∃ (a C : Addr), self_ = .ref a ∧ OexG K C ∧ PySem.W.findIn K (.ref C) f = some none ∧ PutG D σ f a C y H2
section
variable {X : Cx} {o e : Expr} {es : List Expr} {to te : TE} {ta : TA} {f : Str} {p p' pos : Pos}
theorem ps_putG (ho : PE X o to) (he : PE X e te) (hs : swapsWith e (some (.Attribute o f p')) pos.line X.env = pure false := by rfl) : PS X (.Assign [.Attribute o f p'] e pos) (tPutG X.K f to te) := by
  constructor
  intro pins s σ H D I h
  refine plainObj_wpAny_Assign_Attribute (thn (he.run pins s σ H _ I h) fun v s1 ⟨y, H1, I1, ry, q1⟩ => thn (ho.run pins s1 σ H1 _ I1 q1) ?_) hs
  rintro u s2 ⟨x, H2, I2, rx, a, C, rfl, T, plain, q⟩
  cases rx
  rcases q with ⟨dx, fs, here, hd, few, q⟩ | ⟨here, q⟩
  · exact put_old T I2 here hd few plain ry fun t J => ⟨σ, _, J, q⟩
  · exact put_new T I2 here plain ry fun dx t n ne J => ⟨σ, _, J, q dx n ne⟩
/-- C(e, ..) of an own class whose __init__ keeps sp -/
theorem pmk_G {CX : CXT} {x : Str} {C fI : Addr} {k : Nat} {fd : FuncData} {ps : List Str} {sp : Sp} {ds : List Value} {dvs : List V} (T : OexG X.K C) (own : PySem.W.findIn X.K (.ref C) "__init__" = some (some (.ref fI))) (fn : PySem.W.typeIn X.K (.ref fI) = some (.type "function"))
    (F1 : FnOk X.prog X.w X.K X.mg X.base CX k fI fd ps sp) (hr : Room (k + 1) X.A) (hb : Binds X.K fd ps ds) (hd : Vals dvs ds) (hx : Passes CX X (fun _ _ _ => False)) (hg : Gl X x) (hm : X.mg x = some (.ref C)) (ha : PA X (e :: es) ta)
    (hdb : (x == ("__debug__" : Str)) = false := by decide) (hs : starEach (e :: es) X.env = (false, eval e X.env) :: starEach es X.env := by rfl) (hpl : (backTo pos (starEach es X.env)).any (·.1) = false := by rfl) :
    PMk X (.Call (.Name x p) (e :: es) [] pos) (tMkO C sp dvs ta) := by
  intro pins s σ H Q I h
  obtain ⟨nm, qn, N, bs, bm, sn, sb, ab, col, dd, k0, k1, k2, k3, k5, nw, look, mb⟩ := T.made
  obtain ⟨FB, L⟩ := mb
  refine wpAny_Call_Name_kw (ld_glob I hg hm ?_ hdb)
  refine PySem.W.callWith_K (h₀ := X.base) I.ok.mod.kin T.keep (thn (ha.run pos pins s σ H _ I h) ?_) hs hpl
  rintro us s1 ⟨vs, H1, I1, rv, few, q⟩
  refine ⟨I1.kIn, (?_ : wpAny _ _ (call (.ref C) us) _ _ _)⟩
  obtain ⟨hp, gs, dr, tk, os⟩ := s1
  have later : hp.objs.size ≤ hp.objs.size + 1 := Nat.le_succ _
  have q' := q (hp.objs.size + 1) (I1.hok.fresh later)
  have grown : ∀ (b : Addr) (o : Obj), hp.get? b = some o → ((hp.push (PySem.W.kdv_tup us)).push (PySem.HandSPX.excO C hp.objs.size)).get? b = some o := fun b o e => Heap.get?_push_of_some _ (Heap.get?_push_of_some _ e)
  have self_ : ((hp.push (PySem.W.kdv_tup us)).push (PySem.HandSPX.excO C hp.objs.size)).get? (hp.objs.size + 1) = some (PySem.HandSPX.excO C hp.objs.size) := by heap_get
  have I2 := I1.laid (t' := tk) (a := hp.objs.size + 1) (o := exo (hp.objs.size + 1) C none) grown later (exo_ok self_)
  have rv2 : Vals (V.ref (hp.objs.size + 1) :: (vs ++ dvs)) (Value.ref (hp.objs.size + 1) :: (us ++ ds)) := Paired.cons rfl (rv.append hd)
  have many : (Value.ref (hp.objs.size + 1) :: us ++ ds).length = ps.length := (rv2.length.symm.trans (F1.len _ _ _ _ q'))
  have ulen : us.length ≤ sizeLine := by
    rw [← Paired.length rv, sizeLine_eq]
    omega
  have ia : InitAt X.prog X.w hp C fI := ⟨PySem.W.looks_findIn I1.kIn own, fun v => PySem.W.bind_fn I1.kIn v fn⟩
  refine wpAny_call (mk_call FB L (I1.kIn _ _ look) ia ulen (codeAny_mono (F1.run _ X.stack _ _ ⟨Value.ref (hp.objs.size + 1) :: us, []⟩ (Value.ref (hp.objs.size + 1) :: (us ++ ds)) _ _ (fun _ _ _ => False) (hr.make C us []) (I2.env0.make C us []) (hb _ (Value.ref (hp.objs.size + 1) :: us) I2.kIn many) rv2 q') ?_))
  intro r t out
  match r, out with
  | .error er, out => exact hx pins σ _ _ er t I2 out
  | .ok (.ret u), out =>
    obtain ⟨v, H2, os2, bare2, un2, hok2, ru, rfl, d, fs, ea, ed, hd1, q2⟩ := out
    obtain ⟨h2, g2, d2, t2, os'⟩ := t
    exact ⟨ru, mk_end (raises_own T.below T.type_) I1 later grown un2 hok2 os2 bare2 ea ed hd1 q2⟩
end
end KN

set_option Elab.async false
set_option linter.all false
set_option maxRecDepth 100000
set_option maxHeartbeats 4000000
/-! Own words: defs, methods and classes that raise, under their names. -/
namespace KN
open PySem PySem.Spec PyProof.Rows L2
section
variable (P : Program) (w : World) (K : PySem.W.Frag) (mg : Str → Option Value) (base : Heap)
/-- a def that may raise -/
structure CalX (k : Nat) (x : Str) (sp : Sp) (dvs : List V) : Prop where
  ex : ∃ (f : Addr) (fd : FuncData) (ps : List Str) (ds : List Value), FnOk P w K mg base (L2.CX P w) k f fd ps sp ∧ mg x = some (.ref f) ∧ PySem.W.keepIn K (.ref f) = true ∧ Binds K fd ps ds ∧ Vals dvs ds
structure MetX (k : Nat) (C : Addr) (m : Str) (sp : Sp) (dvs : List V) : Prop where
  ex : ∃ (f : Addr) (fd : FuncData) (ps : List Str) (ds : List Value), Cls K C ∧ Meth K C m f ∧ FnOk P w K mg base (L2.CX P w) k f fd ps sp ∧ Binds K fd ps ds ∧ Vals dvs ds
structure MakX (k : Nat) (x : Str) (C : Addr) (sp : Sp) (dvs : List V) : Prop where
  ex : ∃ (f : Addr) (fd : FuncData) (ps : List Str) (ds : List Value), Mk K C f ∧ FnOk P w K mg base (L2.CX P w) k f fd ps sp ∧ mg x = some (.ref C) ∧ Binds K fd ps ds ∧ Vals dvs ds
/-- an own exception's class, made by its __init__ -/
structure ExcAt (k : Nat) (x : Str) (C : Addr) (sp : Sp) (dvs : List V) : Prop where
  cls : OexG K C
  mgc : mg x = some (.ref C)
  ex : ∃ (f : Addr) (fd : FuncData) (ps : List Str) (ds : List Value), PySem.W.findIn K (.ref C) "__init__" = some (some (.ref f)) ∧ PySem.W.typeIn K (.ref f) = some (.type "function") ∧ FnOk P w K mg base C8.CX0 k f fd ps sp ∧ Binds K fd ps ds ∧ Vals dvs ds
end
section
variable {X : Cx} {W : WX} {E0 : XK} {k j : Nat} {C : Addr} {x m : Str} {sp : Sp} {dvs : List V} {p pos apos : Pos} {e o : Expr} {es : List Expr} {ta : TE} {t : TA}
theorem run_at {pins : List (Addr × Obj)} {σ : L2.St} {H : Hp} {s : Shared} {Q : VK} {us ds : List Value} {vs : List V} {f : Addr} {fd : FuncData} {ps : List Str} (tk : Takes X W) (F : FnOk X.prog X.w X.K X.mg X.base (L2.CX X.prog X.w) k f fd ps sp) (room : Room k X.A) (hb : Binds X.K fd ps ds) (hd : Vals dvs ds)
    (I : Inv X pins σ H s) (rv : Vals vs us) (h : sp (vs ++ dvs) H Q (fun c d H' => W c d σ H')) : wpAny (model X.prog X.w) X.A (call (.ref f) us) (EP X pins σ Q) X.xe s := by
  have rv2 := rv.append hd
  have many : (us ++ ds).length = ps.length := rv2.length.symm.trans (F.len _ _ _ _ h)
  apply wpAny_call
  refine codeAny_mono (F.run X.A X.stack s H ⟨us, []⟩ (us ++ ds) (vs ++ dvs) Q _ room I.env0 (hb s us I.kIn many) rv2 h) ?_
  intro r s2 out
  match r, out with
  | .error er, out => exact passAt tk σ pins H s er s2 I out
  | .ok (.ret u), out => exact I.after out
/-- f(e, ..) that may raise -/
theorem pe_cX (c : CalX X.prog X.w X.K X.mg X.base k x sp dvs) (tk : Takes X W) (hr : Room j X.A) (hk : k ≤ j) (hg : Gl X x) (ha : PA X (e :: es) t)
    (hdb : (x == ("__debug__" : Str)) = false := by decide) (hs : starEach (e :: es) X.env = (false, eval e X.env) :: starEach es X.env := by rfl) (hpl : (backTo pos (starEach es X.env)).any (·.1) = false := by rfl) :
    PE X (.Call (.Name x p) (e :: es) [] pos) (fun σ H Q => t σ H fun vs H1 => sp (vs ++ dvs) H1 Q fun cl d H' => W cl d σ H') := by
  obtain ⟨f, fd, ps, ds, F, hm, keep, hb, hd⟩ := c.ex
  constructor
  intro pins s σ H Q I h
  refine wpAny_Call_Name_kw (ld_glob I hg hm ?_ hdb)
  refine PySem.W.callWith_K (h₀ := X.base) I.ok.mod.kin keep (thn (ha.run pos pins s σ H _ I h) ?_) hs hpl
  rintro us s1 ⟨vs, H1, I1, rv, q⟩
  exact ⟨I1.kIn, run_at tk F (hr.mono hk) hb hd I1 rv q⟩
/-- o.m(e, ..) that may raise, in a def -/
theorem pe_mtX {pl : Sem Bool} (c : MetX X.prog X.w X.K X.mg X.base k C m sp dvs) (tk : Takes X fun cl d _ H => E0 cl d H) (hr : Room j X.A) (hk : k ≤ j) (he : PE X o ta) (ha : PA X (e :: es) t)
    (hs : starEach (e :: es) X.env = (false, eval e X.env) :: starEach es X.env := by rfl) (hpl : (backTo pos (starEach es X.env)).any (·.1) = false := by rfl)
    (ht : eval (.Call (.Attribute o m apos) (e :: es) [] pos) X.env = (do
      let recv ← eval o X.env
      standAt apos.atName
      let (fn, self) ← holding [recv] (getMethod recv m pl)
      callWith pos fn self (backTo pos (starEach (e :: es) X.env)) (backToKw pos (keywordEach [] X.env))) := by rfl) :
    PE X (.Call (.Attribute o m apos) (e :: es) [] pos) (tMeth C m sp dvs E0 ta t) := by
  obtain ⟨f, fd, ps, ds, cl, me, F, hb, hd⟩ := c.ex
  exact pe_meth he cl me F (hr.mono hk) hb hd (passes_call tk fun _ _ _ _ z => z) ha hs hpl ht
/-- C(e, ..) that may raise, in a def -/
theorem pe_mkX (c : MakX X.prog X.w X.K X.mg X.base k x C sp dvs) (tk : Takes X fun cl d _ H => E0 cl d H) (hr : Room j X.A) (hk : k + 1 ≤ j) (hg : Gl X x) (ha : PA X (e :: es) t)
    (hdb : (x == ("__debug__" : Str)) = false := by decide) (hs : starEach (e :: es) X.env = (false, eval e X.env) :: starEach es X.env := by rfl) (hpl : (backTo pos (starEach es X.env)).any (·.1) = false := by rfl) :
    PE X (.Call (.Name x p) (e :: es) [] pos) (tMake C sp dvs E0 t) := by
  obtain ⟨f, fd, ps, ds, M, F, hm, hb, hd⟩ := c.ex
  exact pe_make M F (hr.mono hk) hg hm hb hd (passes_call tk fun _ _ _ _ z => z) ha hdb hs hpl
/-- raise C(e, ..) of an own class -/
theorem ps_raiseG {pos' : Pos} (calm : X.calm = true) (tk : Takes X W) (c : ExcAt X.prog X.w X.K X.mg X.base k x C sp dvs) (hr : Room j X.A) (hk : k + 1 ≤ j) (hg : Gl X x) (ha : PA X (e :: es) t)
    (hdb : (x == ("__debug__" : Str)) = false := by decide) (hs : starEach (e :: es) X.env = (false, eval e X.env) :: starEach es X.env := by rfl) (hpl : (backTo pos (starEach es X.env)).any (·.1) = false := by rfl) :
    PS X (.Raise (some (.Call (.Name x p) (e :: es) [] pos)) none pos') (fun _ σ H => tMkO C sp dvs t σ H fun cl d H' => W cl d σ H') := by
  obtain ⟨f, fd, ps, ds, own, fn, F, hb, hd⟩ := c.ex
  exact ps_raise calm tk (pmk_G c.cls own fn F (hr.mono hk) hb hd C8.pass0 hg c.mgc ha hdb hs hpl)
end
/-- an __init__ that stores one thing in its exception -/
def spOne (K : PySem.W.Frag) (f : Str) : Sp := fun vs H Q _ => ∃ (a C : Addr) (y : V), vs = [.ref a, y] ∧ H a = some (exo a C none) ∧ OexG K C ∧ PySem.W.findIn K (.ref C) f = some none ∧ ∀ dx, H dx = none → dx ≠ a → Q .non (upd (upd H dx (exd dx [(f, y)])) a (exo a C (some dx)))
end KN

set_option Elab.async false
set_option linter.all false
set_option maxRecDepth 100000
set_option maxHeartbeats 4000000
/-! Own words: an exception of two things told. -/
namespace KN
open PySem PySem.Spec PyProof.Rows L2
/-- an __init__ that stores two things in its exception -/
def spTwo (K : PySem.W.Frag) (f g : Str) : Sp := fun vs H Q _ => ∃ (a C : Addr) (y z : V), vs = [.ref a, y, z] ∧ H a = some (exo a C none) ∧ OexG K C ∧ PySem.W.findIn K (.ref C) f = some none ∧ PySem.W.findIn K (.ref C) g = some none ∧
  ∀ dx, H dx = none → dx ≠ a → Q .non (upd (upd (upd H dx (exd dx [(f, y)])) a (exo a C (some dx))) dx (exd dx [(g, z), (f, y)]))
/-- what is let out: an exception of class C that holds y in f, z in g -/
def OutTwo (H : Hp) (C : Addr) (f g : Str) (y z : V) (E : XK) : Prop := ∀ H' d, (∀ b o, H b = some o → H' b = some o) → H' d = some (.xd [(g, z), (f, y)]) → E (.ref C) (some d) H'
theorem out_two {H : Hp} {C a dx : Addr} {f g : Str} {y z : V} {E : XK} (o : OutTwo H C f g y z E) (ha : H a = none) (hd : upd H a (exo a C none) dx = none) (ne : dx ≠ a) :
    ∃ (d : Addr) (fs : List (Str × V)), upd (upd (upd (upd H a (exo a C none)) dx (exd dx [(f, y)])) a (exo a C (some dx))) dx (exd dx [(g, z), (f, y)]) a = some (exo a C (some d)) ∧ upd (upd (upd (upd H a (exo a C none)) dx (exd dx [(f, y)])) a (exo a C (some dx))) dx (exd dx [(g, z), (f, y)]) d = some (exd d fs) ∧ H d = none ∧
      E (.ref C) (some d) (upd (del (upd (upd (upd (upd H a (exo a C none)) dx (exd dx [(f, y)])) a (exo a C (some dx))) dx (exd dx [(g, z), (f, y)])) a) d (.xd fs)) := by
  rw [upd_ne ne] at hd
  refine ⟨dx, [(g, z), (f, y)], by rw [upd_ne (Ne.symm ne), upd_same], upd_same, hd, o _ _ (fun b u e => ?_) upd_same⟩
  have nb : b ≠ a := fun q => by subst q; rw [ha] at e; cases e
  have nd : b ≠ dx := fun q => by subst q; rw [hd] at e; cases e
  rw [upd_ne nd, del_ne nb, upd_ne nd, upd_ne nb, upd_ne nd, upd_ne nb]
  exact e
/-- by its body: two stores -/
theorem two_stores {K : PySem.W.Frag} {f g : Str} {D : Ends} {H : Hp} {a C : Addr} {y z : V} {σ : L2.St} (h0 : σ[0]? = some (some (.ref a))) (h1 : σ[1]? = some (some y)) (h2 : σ[2]? = some (some z)) (T : OexG K C) (nf : PySem.W.findIn K (.ref C) f = some none) (ng : PySem.W.findIn K (.ref C) g = some none) (ha : H a = some (exo a C none))
    (k : ∀ dx, H dx = none → dx ≠ a → D.nx σ (upd (upd (upd H dx (exd dx [(f, y)])) a (exo a C (some dx))) dx (exd dx [(g, z), (f, y)]))) :
    tPutG K f (tVar 0) (tVar 1) { D with nx := fun σ H => tPutG K g (tVar 0) (tVar 2) D σ H } σ H := by
  refine ⟨_, h1, _, h0, a, C, rfl, T, nf, .inr ⟨ha, fun dx n1 n2 => ?_⟩⟩
  refine ⟨_, h2, _, h0, a, C, rfl, T, ng, .inl ⟨dx, [(f, y)], upd_same, by rw [upd_ne n2, upd_same], (show 1 ≤ 900 by decide), k dx n1 n2⟩⟩
end KN

set_option Elab.async false
set_option linter.all false
set_option maxRecDepth 100000
set_option maxHeartbeats 4000000
/-! Things of any sort; what repr says of data; == and != by an own __eq__. -/
namespace KN
open PySem PySem.Spec PyProof.Rows L2

mutual
/-- a thing: data, a list, an empty dict -/
inductive Ob (H : Hp) : V → PyData → Prop
  | non : Ob H .non .none
  | bl (b : Bool) : Ob H (.bl b) (.bool b)
  | int (i : Int) : Ob H (.int i) (.int i)
  | str (x : Str) (h : x.length ≤ 60 ∧ PyData.strOk x = true) : Ob H (.str x) (.str x)
  | tup {a : Addr} {xs : List V} {ds : List PyData} : H a = some (.tup xs) → ObAll H xs ds → Ob H (.ref a) (.tuple ds)
  | lst {a : Addr} {xs : List V} {ds : List PyData} : H a = some (.lst xs) → ObAll H xs ds → Ob H (.ref a) (.list ds)
  | emp {a : Addr} : H a = some (.dK []) → Ob H (.ref a) (.dict [])
inductive ObAll (H : Hp) : List V → List PyData → Prop
  | nil : ObAll H [] []
  | cons {v : V} {vs : List V} {d : PyData} {ds : List PyData} : Ob H v d → ObAll H vs ds → ObAll H (v :: vs) (d :: ds)
end
/-- tuples, lists and empty dicts stay -/
def Ke (H H' : Hp) : Prop := ∀ a o, ((∃ xs, o = .tup xs) ∨ (∃ xs, o = .lst xs) ∨ o = .dK []) → H a = some o → H' a = some o
theorem Ke.of {H H' : Hp} (s : Same H H') : Ke H H' := fun a o _ h => s a o h
theorem Ke.refl (H : Hp) : Ke H H := fun _ _ _ h => h
theorem Ke.trans {H H1 H2 : Hp} (a : Ke H H1) (b : Ke H1 H2) : Ke H H2 := fun c o n h => b c o n (a c o n h)
mutual
theorem Ob.mono {H H' : Hp} (k : Ke H H') : ∀ (d : PyData) (v : V), Ob H v d → Ob H' v d
  | .none, _, h => by cases h; exact .non
  | .bool b, _, h => by cases h; exact .bl b
  | .int i, _, h => by cases h; exact .int i
  | .str x, _, h => by cases h with | str _ l => exact .str x l
  | .tuple ds, _, h => by
    cases h with
    | tup e r => exact .tup (k _ _ (.inl ⟨_, rfl⟩) e) (ObAll.mono k ds _ r)
  | .list ds, _, h => by
    cases h with
    | lst e r => exact .lst (k _ _ (.inr (.inl ⟨_, rfl⟩)) e) (ObAll.mono k ds _ r)
  | .dict _, _, h => by
    cases h with
    | emp e => exact .emp (k _ _ (.inr (.inr rfl)) e)
theorem ObAll.mono {H H' : Hp} (k : Ke H H') : ∀ (ds : List PyData) (vs : List V), ObAll H vs ds → ObAll H' vs ds
  | [], _, h => by cases h; exact .nil
  | d :: ds, _, h => by
    cases h with
    | cons a r => exact .cons (Ob.mono k d _ a) (ObAll.mono k ds _ r)
end
theorem Ob.to {H H' : Hp} {d : PyData} {v : V} (h : Ob H v d) (k : Ke H H') : Ob H' v d := Ob.mono k d v h
theorem ObAll.to {H H' : Hp} {ds : List PyData} {vs : List V} (h : ObAll H vs ds) (k : Ke H H') : ObAll H' vs ds := ObAll.mono k ds vs h
theorem ObAll.len {H : Hp} : ∀ {ds : List PyData} {vs : List V}, ObAll H vs ds → vs.length = ds.length
  | [], _, h => by cases h; rfl
  | d :: ds, _, h => by
    cases h with
    | cons a r => rw [List.length_cons, List.length_cons, ObAll.len r]
theorem ObAll.get {H : Hp} : ∀ {ds : List PyData} {vs : List V} {i : Nat} {v : V}, ObAll H vs ds → vs[i]? = some v → ∃ d, ds[i]? = some d ∧ Ob H v d
  | [], _, i, d, h, e => by cases h; simp at e
  | d0 :: ds, _, i, d, h, e => by
    cases h with
    | cons a r =>
      cases i with
      | zero => rw [List.getElem?_cons_zero] at e; cases e; exact ⟨_, rfl, a⟩
      | succ i =>
        rw [List.getElem?_cons_succ] at e
        obtain ⟨v, h1, h2⟩ := ObAll.get r e
        exact ⟨v, by rw [List.getElem?_cons_succ]; exact h1, h2⟩
theorem ObAll.app {H : Hp} : ∀ {ds es : List PyData} {vs ws : List V}, ObAll H vs ds → ObAll H ws es → ObAll H (vs ++ ws) (ds ++ es)
  | [], _, _, _, h, k => by cases h; exact k
  | d :: ds, _, _, _, h, k => by
    cases h with
    | cons a r => exact .cons a (ObAll.app r k)
/-- what sort a thing is -/
def isTp : PyData → Bool
  | .tuple _ => true
  | _ => false
def isSt : PyData → Bool
  | .str _ => true
  | _ => false
def isIn : PyData → Bool
  | .int _ => true
  | .bool _ => true
  | _ => false
def isBo : PyData → Bool
  | .bool _ => true
  | _ => false
structure Sort4 (K : PySem.W.Frag) (H : Hp) (v : V) (d : PyData) (t : String) : Prop where
  ty : TyX K H v (.type t)
  tp : PySem.W.kitOne K (.type t) (.type "tuple") = some (isTp d)
  st : PySem.W.kitOne K (.type t) (.type "str") = some (isSt d)
  int : PySem.W.kitOne K (.type t) (.type "int") = some (isIn d)
  bo : PySem.W.kitOne K (.type t) (.type "bool") = some (isBo d)
  bi : (PySem.fastBuiltinMro t).isSome = true
theorem sort_mk {K : PySem.W.Frag} {H : Hp} {v : V} {d : PyData} {t : String} (b1 b2 b3 b4 : Bool) (ty : TyX K H v (.type t))
    (h : kitB t "tuple" = some b1 ∧ kitB t "str" = some b2 ∧ kitB t "int" = some b3 ∧ kitB t "bool" = some b4 ∧ (PySem.fastBuiltinMro t).isSome = true) (e : isTp d = b1 ∧ isSt d = b2 ∧ isIn d = b3 ∧ isBo d = b4) : Sort4 K H v d t :=
  ⟨ty, by rw [e.1]; exact kit_ty h.1, by rw [e.2.1]; exact kit_ty h.2.1, by rw [e.2.2.1]; exact kit_ty h.2.2.1, by rw [e.2.2.2]; exact kit_ty h.2.2.2.1, h.2.2.2.2⟩
theorem Ob.sort {K : PySem.W.Frag} {H : Hp} {v : V} {d : PyData} (h : Ob H v d) : ∃ t, Sort4 K H v d t := by
  cases h with
  | non => exact ⟨"NoneType", sort_mk false false false false (.base (.non)) (by decide +kernel) ⟨rfl, rfl, rfl, rfl⟩⟩
  | bl b => exact ⟨"bool", sort_mk false false true true (.base (.bl b)) (by decide +kernel) ⟨rfl, rfl, rfl, rfl⟩⟩
  | int b => exact ⟨"int", sort_mk false false true false (.base (.int b)) (by decide +kernel) ⟨rfl, rfl, rfl, rfl⟩⟩
  | str b => exact ⟨"str", sort_mk false true false false (.base (.str b)) (by decide +kernel) ⟨rfl, rfl, rfl, rfl⟩⟩
  | tup e => exact ⟨"tuple", sort_mk true false false false (.base (.tup e)) (by decide +kernel) ⟨rfl, rfl, rfl, rfl⟩⟩
  | lst e => exact ⟨"list", sort_mk false false false false (.base (.lst e)) (by decide +kernel) ⟨rfl, rfl, rfl, rfl⟩⟩
  | emp e => exact ⟨"dict", sort_mk false false false false (.base (.dK e)) (by decide +kernel) ⟨rfl, rfl, rfl, rfl⟩⟩
theorem Ob.of_tp {H : Hp} {v : V} {d : PyData} (h : Ob H v d) (e : isTp d = true) : ∃ a xs ds, v = .ref a ∧ d = .tuple ds ∧ H a = some (.tup xs) ∧ ObAll H xs ds := by
  cases h with
  | tup h r => exact ⟨_, _, _, rfl, rfl, h, r⟩
  | _ => cases e

/-! ### repr of data -/
def spReprD (K : PySem.W.Frag) : List V → Hp → VK → Prop := fun xs H Q => ∃ (a : Addr) (d : PyData), xs = [.ref a] ∧ Dp K H (.ref a) d ∧ d.showable = true ∧ d.hasDict = false ∧ d.depth ≤ 60 ∧ d.shown.length ≤ sizeLine ∧ Q (.str d.shown) H
theorem call_reprD {X : Cx} (hg : X.A.guards = some []) (hu : X.A.units + 65 < cLine) : CallR X (.builtin "repr") (spReprD X.K) := by
  intro pins s σ H xs us Q I r h
  obtain ⟨a, d, rfl, hd, hs, hn, hl, hz, q⟩ := h
  obtain ⟨u, rfl, ru⟩ := vals1 r
  cases ru
  obtain ⟨as, r1⟩ := Dp.reads I d (.ref a) (.ref a) hd rfl
  refine repr_of_reads' r1 hs (PyData.noDict_hsm hn) hg (by omega) (fun _ _ e => e) (fun h' u tk hk => ?_) hz
  exact ⟨.str d.shown, H, I.kept (t' := tk) hk, ⟨_, rfl⟩, q⟩
end KN

set_option Elab.async false
set_option linter.all false
set_option maxRecDepth 100000
set_option maxHeartbeats 4000000
/-! == and != of instances whose class has an own __eq__ and no __ne__. -/
namespace KN
open PySem PySem.Spec PyProof.Rows L2
/-- what is known of a class with its own == -/
structure OwnEq (K : PySem.W.Frag) (C f : Addr) : Prop where
  eq : PySem.W.findIn K (.ref C) "__eq__" = some (some (.ref f))
  fn : PySem.W.isFn K (.ref f) = true
  ne : PySem.W.findIn K (.ref C) "__ne__" = some (some (.builtin "object.__ne__"))
  ob : PySem.W.mroIn K C (.type "object") = some true
section
variable {prog : Program} {w : World} {A : Around} {E : Value → Shared → Prop} {s : Shared} {K : PySem.W.Frag} {x C f : Addr} {ox : Obj} {od : Option Obj} {name : Str} {b tb : Value}
theorem bound_blt {M : Model} {B id : String} {args : List Value} {Q : Option Value → Shared → Prop} (X : K.In s.heap) (I : PySem.W.InstAt s.heap x ox C od) (hs : PySem.W.findIn K (.ref C) name = some (some (.builtin id))) (S : Slot B name id)
    (h : wpAny M A (call (.builtin id) (.ref x :: args)) (fun v => Q (some v)) E s) : wpAny M A (callSpecialIfBound? (.ref x) name args) Q E s := by
  have found := PySem.W.looks_findIn (M := M) X hs
  have fin : wpAny M A (call (.builtin id) ([.ref x] ++ args) >>= fun v => pure (some v)) Q E s :=
    wpAny_bind (wpAny_mono h (fun _ _ z => wpAny_pure z) fun _ _ z => z)
  unfold callSpecialIfBound? bindSpecialIfBound?
  refine wpAny_holding (wpAny_bind (wpAny_bind (wpAny_bind (I.type.here (found.here ?_)))))
  simp only [S.bind]
  refine wpAny_bind (wpAny_askSetting (wpAny_ite ?_))
  split
  · refine wpAny_bind (wpAny_pure (wpAny_pure ?_))
    exact fin
  · refine wpAny_tryCatch (wpAny_bind (wpAny_pure (wpAny_pure ?_)))
    exact fin

theorem obj_ne (hu : A.units + 1 < cLine) (X : K.In s.heap) (I : PySem.W.InstAt s.heap x ox C od) (o : OwnEq K C f) {Q : Value → Shared → Prop}
    (h : wpAny (model prog w) A.in1 (call (.ref f) [.ref x, b]) (fun v s' => ∃ r, v = .bool r ∧ Q (.bool (!r)) s') E s) :
    wpAny (model prog w) A (call (.builtin "object.__ne__") [.ref x, b]) Q E s := by
  have below : PySem.W.Looks (model prog w) s.heap (isInstance (.ref x) (.type "object")) true := I.type.andThen (PySem.W.looks_mroIn X o.ob)
  refine wpAny_call (codeAny_call_builtin PySem.F.cmp_object.ne.plain PySem.F.cmpEntry_ne ?_)
  obtain ⟨hp, gs, dr, tk, os⟩ := s
  apply @PySem.W.check_slot (model prog w) _ _ ⟨hp, gs, dr, tk, os⟩ "object.__ne__" "object" "__ne__" (.ref x) [b] [] _ PySem.F.cmpKind_ne PySem.F.cmpSplit_ne below (PySem.F.cmpArgs_ne _ _)
  unfold Builtin.«object.__ne__»; apply wpAny_bind
  refine wpAny_of_eq (a := ((Value.ref x : Value), [b])) (by first | rfl | (simp only [Builtin.slotArgs]; rfl)) ?_
  refine wpAny_bind (wpAny_cRoomFor (by show A.units + 1 < cLine; omega) ?_)
  refine wpAny_bind (PySem.W.ifBound_K X I o.eq o.fn (wpAny_mono h (fun v s' q => ?_) fun _ _ z => z))
  obtain ⟨r, rfl, q⟩ := q
  refine wpAny_bind (wpAny_truthy_bool ?_)
  exact wpAny_pure q

theorem cmp_ne (hu : A.units + 1 < cLine) (X : K.In s.heap) (I : PySem.W.InstAt s.heap x ox C od) (hb : PySem.W.Looks (model prog w) s.heap (typeOf b) tb) (hn : PySem.W.notFirst K C tb = true) (o : OwnEq K C f) {Q : Value → Shared → Prop}
    (h : wpAny (model prog w) A.in1 (call (.ref f) [.ref x, b]) (fun v s' => ∃ r, v = .bool r ∧ Q (.bool (!r)) s') E s) : wpAny (model prog w) A (richCompare .NotEq (.ref x) b) Q E s := by
  have one : wpAny (model prog w) A (tryCompare (.ref x) (cmpInfo .NotEq).2.1 b) (fun r s' => ∃ v, r = some v ∧ Q v s') E s := by
    unfold tryCompare
    refine wpAny_bind (bound_blt X I o.ne PySem.F.cmp_object.ne (obj_ne hu X I o (wpAny_mono h (fun v s' q => ?_) fun _ _ z => z)))
    obtain ⟨r, e, q⟩ := q
    exact ⟨r, e, wpAny_pure ⟨_, rfl, q⟩⟩
  unfold richCompare
  simp only [oneThing_ref]
  refine wpAny_holding (wpAny_bind (wpAny_cRoomFor (by omega) ?_))
  refine wpAny_bind (I.type.here (wpAny_bind (hb.here ?_)))
  split
  · rename_i q
    have e : PySem.W.subIn K tb (.ref C) = some false := (Bool.or_eq_true_iff.mp hn).elim (fun e => by rw [beq_iff_eq.mp e] at q; simp at q) beq_iff_eq.mp
    refine wpAny_bind ((PySem.W.looks_subIn X e).here ?_)
    simp only [Bool.false_eq_true, if_false]
    refine wpAny_bind (wpAny_mono one (fun r s' z => ?_) fun _ _ z => z)
    obtain ⟨v, rfl, hq⟩ := z
    exact wpAny_pure hq
  · refine wpAny_bind (wpAny_pure ?_)
    simp only [Bool.false_eq_true, if_false]
    refine wpAny_bind (wpAny_mono one (fun r s' z => ?_) fun _ _ z => z)
    obtain ⟨v, rfl, hq⟩ := z
    exact wpAny_pure hq
end
section
variable {X : Cx} {n : Nat} {C f : Addr} {fd : FuncData} {ps : List Str} {sp : Sp}
/-- an instance of C beside anything: what its own == says, or the other way about -/
def rCmpO (K : PySem.W.Frag) (C : Addr) (sp : Sp) (neg : Bool) : R2 := fun x y H Q => ∃ (a dx : Addr) (fs : List (Str × V)) (t : Value), x = .ref a ∧ H a = some (.ins C dx fs) ∧ TyX K H y t ∧ PySem.W.notFirst K C t = true ∧
  sp [x, y] H (fun v H' => ∃ b, v = .bl b ∧ Q (.bl (if neg then !b else b)) H') (fun _ _ _ => False)
theorem run_eqO (F : FnOk X.prog X.w X.K X.mg X.base C8.CX0 n f fd ps sp) (hb : Binds X.K fd ps []) {A : Around} (hr : Room n A) (hfr : A.frames = X.A.frames) {pins : List (Addr × Obj)} {s : Shared} {σ : L2.St} {H : Hp} {x y : V} {u v : Value} (I : Inv X pins σ H s) (rx : RelV x u) (ry : RelV y v)
    {Q : VK} (q : sp [x, y] H Q (fun _ _ _ => False)) : wpAny (model X.prog X.w) A (call (.ref f) [u, v]) (EP X pins σ Q) X.xe s := by
  have e0 : Env0 X.prog X.w X.K X.mg X.base A X.stack s H := by
    have e := I.env0
    exact ⟨by rw [hfr]; exact e.frames, e.mod, e.bs, e.bsz, e.funs, e.frf, e.hok, e.bare⟩
  have rv : Vals [x, y] [u, v] := .cons rx (.cons ry .nil)
  have len := F.len _ _ _ _ q
  have bd : BindsTo s fd ⟨[u, v], []⟩ (ps.zip [u, v]) := by
    have z := hb s [u, v] I.kIn (by simpa using len)
    simpa using z
  refine wpAny_call (codeAny_mono (F.run A X.stack s H ⟨[u, v], []⟩ [u, v] [x, y] Q _ hr e0 bd rv q) fun r s' out => ?_)
  match r, out with
  | .error er, out => exact C8.pass0 (E := fun _ _ _ => False) pins σ H s er s' I out
  | .ok (.ret z), out => exact I.after out
theorem op_cmpO (op : CmpOp) (neg : Bool) (hop : op = .Eq ∧ neg = false ∨ op = .NotEq ∧ neg = true) (F : FnOk X.prog X.w X.K X.mg X.base C8.CX0 n f fd ps sp) (o : OwnEq X.K C f) (hb : Binds X.K fd ps []) (hr : Room (n + 1) X.A) : OpR X (compareOp op) (rCmpO X.K C sp neg) := by
  intro pins s σ H x y v u Q I rx ry hq
  obtain ⟨a, dx, fs, t, rfl, ha, ty, nf, q⟩ := hq
  have rx' := rx
  cases rx
  obtain ⟨mA, J, _⟩ := ins_get I.hok ha
  obtain ⟨od, J, _⟩ := J.look
  obtain ⟨P, kit, hP, _⟩ := kit_of I ry ty
  have hty := kit.ty (model X.prog X.w) s.heap I.kIn hP
  obtain ⟨m, hF⟩ := I.fr
  rcases hop with ⟨rfl, rfl⟩ | ⟨rfl, rfl⟩
  · show wpAny (model X.prog X.w) X.A (richCompare .Eq (.ref a) u) (EP X pins σ Q) X.xe s
    refine PySem.W.cmp_K (op := .Eq) (tb := t) hr.units0 hF I.ok.mod.kin J hty nf o.eq o.fn ?_
    refine wpAny_mono (run_eqO F hb (hr.mono (by omega)) rfl I rx' ry q) (fun z s' w => ?_) fun _ _ z => z
    obtain ⟨z', H', I', rz, b, rfl, q'⟩ := w
    cases rz
    exact ⟨.bl b, H', I', rfl, q'⟩
  · show wpAny (model X.prog X.w) X.A (richCompare .NotEq (.ref a) u) (EP X pins σ Q) X.xe s
    refine cmp_ne (by have := hr.un; omega) I.kIn J hty nf o ?_
    refine wpAny_mono (run_eqO F hb hr.in1 rfl I rx' ry q) (fun z s' w => ?_) fun _ _ z => z
    obtain ⟨z', H', I', rz, b, rfl, q'⟩ := w
    cases rz
    exact ⟨b, rfl, .bl (!b), H', I', rfl, q'⟩
end
end KN

set_option Elab.async false
set_option linter.all false
set_option maxRecDepth 100000
set_option maxHeartbeats 4000000
namespace KN
open PySem L2
/-! What is a node, a side, a part of a saying: of data. -/
def numB (lo hi : Int) : PyData → Bool
  | .int i => decide (lo ≤ i) && decide (i ≤ hi)
  | _ => false
def wordB : PyData → Bool
  | .str s => isWB s
  | _ => false
def nodeB : PyData → Bool
  | .tuple [a, b] => numB 0 5 a && wordB b
  | _ => false
def sideB (many : Int) : PyData → Bool
  | .tuple [a, b] => numB 0 (many - 1) a && nodeB b
  | _ => false
def badP : PyData → Bool
  | .none => false
  | .bool _ => false
  | _ => true
/-- is not of a truth or None beside anything -/
theorem op_isNotC {X : Cx} : OpR X (compareOp .IsNot) (fun x y H Q => ((∃ b, y = .bl b) ∨ y = .non) ∧ Q (.bl (!decide (x = y))) H) := by
  intro pins s σ H x y v u Q I rx ry h
  obtain ⟨hy, q⟩ := h
  by_cases e : x = y
  · subst e
    rcases hy with ⟨b, rfl⟩ | rfl
    · cases (show v = Value.bool b from rx)
      cases (show u = Value.bool b from ry)
      exact wpAny_isNot_self rfl ⟨.bl false, H, I, rfl, by simpa using q⟩
    · cases (show v = Value.none from rx)
      cases (show u = Value.none from ry)
      exact wpAny_isNot_self rfl ⟨.bl false, H, I, rfl, by simpa using q⟩
  · have q' : Q (.bl true) H := by simpa [e] using q
    rcases hy with ⟨b, rfl⟩ | rfl
    · cases (show u = Value.bool b from ry)
      have go : plainIs v (Value.bool b) = true ∧ v ≠ Value.bool b := by
        cases x with
        | bl c => cases rx; exact ⟨rfl, fun z => e (by cases z; rfl)⟩
        | non => cases rx; exact ⟨rfl, fun z => by cases z⟩
        | ref a => cases rx; exact ⟨rfl, fun z => by cases z⟩
        | ty a => cases rx; exact ⟨rfl, fun z => by cases z⟩
        | _ => obtain ⟨t, rfl⟩ := rx; exact ⟨rfl, fun z => by cases z⟩
      exact wpAny_isNot_other go.1 go.2 ⟨.bl true, H, I, rfl, q'⟩
    · cases (show u = Value.none from ry)
      have go : plainIs v Value.none = true ∧ v ≠ Value.none := by
        cases x with
        | bl c => cases rx; exact ⟨rfl, fun z => by cases z⟩
        | non => exact absurd rfl e
        | ref a => cases rx; exact ⟨rfl, fun z => by cases z⟩
        | ty a => cases rx; exact ⟨rfl, fun z => by cases z⟩
        | _ => obtain ⟨t, rfl⟩ := rx; exact ⟨rfl, fun z => by cases z⟩
      exact wpAny_isNot_other go.1 go.2 ⟨.bl true, H, I, rfl, q'⟩
def spNodeB : Sp := fun vs H Q _ => ∃ (v : V) (d : PyData), vs = [v] ∧ Ob H v d ∧ ∀ H', Same H H' → Q (.bl (nodeB d)) H'
def spSideB : Sp := fun vs H Q _ => ∃ (v : V) (d : PyData) (n : Int), vs = [v, .int n] ∧ Ob H v d ∧ ∀ H', Same H H' → Q (.bl (sideB n d)) H'
section
variable {P : Program} {w : World} {K : PySem.W.Frag} {mg : Str → Option Value} {base : Heap} {C CB f : Addr}
/-- what the number's look says of a thing -/
theorem number_of {H : Hp} {v : V} {d : PyData} (h : Ob H v d) {lo hi : Int} {Q : VK} {E : XK} (k : Q (.bl (numB lo hi d)) H) : spNumber K [v, .int lo, .int hi] H Q E := by
  refine ⟨v, lo, hi, rfl, ?_⟩
  cases h with
  | int i => exact .inl ⟨i, rfl, k⟩
  | bl b => exact .inr (.inl ⟨b, rfl, k⟩)
  | non => exact .inr (.inr ⟨_, .base .non, kit_ty (by decide +kernel), k⟩)
  | str x h => exact .inr (.inr ⟨_, .base (.str x), kit_ty (by decide +kernel), k⟩)
  | tup e r => exact .inr (.inr ⟨_, .base (.tup e), kit_ty (by decide +kernel), k⟩)
  | lst e r => exact .inr (.inr ⟨_, .base (.lst e), kit_ty (by decide +kernel), k⟩)
  | emp e => exact .inr (.inr ⟨_, .base (.dK e), kit_ty (by decide +kernel), k⟩)
theorem word_of {H : Hp} {v : V} {d : PyData} (h : Ob H v d) {Q : VK} {E : XK} (k : ∀ H', Same H H' → Q (.bl (wordB d)) H') : spWord K [v] H Q E := by
  refine ⟨v, rfl, ?_⟩
  cases h with
  | str x h => exact .inl ⟨x, rfl, Nat.le_trans h.1 (by decide), k⟩
  | int i => exact .inr ⟨_, .base (.int i), kit_ty (by decide +kernel), k H (Same.refl H)⟩
  | bl b => exact .inr ⟨_, .base (.bl b), kit_ty (by decide +kernel), k H (Same.refl H)⟩
  | non => exact .inr ⟨_, .base .non, kit_ty (by decide +kernel), k H (Same.refl H)⟩
  | tup e r => exact .inr ⟨_, .base (.tup e), kit_ty (by decide +kernel), k H (Same.refl H)⟩
  | lst e r => exact .inr ⟨_, .base (.lst e), kit_ty (by decide +kernel), k H (Same.refl H)⟩
  | emp e => exact .inr ⟨_, .base (.dK e), kit_ty (by decide +kernel), k H (Same.refl H)⟩
/-- two things in a tuple -/
theorem two_of {H : Hp} {xs : List V} {ds : List PyData} (h : ObAll H xs ds) (l : xs.length = 2) : ∃ x y a b, xs = [x, y] ∧ ds = [a, b] ∧ Ob H x a ∧ Ob H y b := by
  cases h with
  | nil => cases l
  | cons p h =>
    cases h with
    | nil => cases l
    | cons q h =>
      cases h with
      | nil => exact ⟨_, _, _, _, rfl, rfl, p, q⟩
      | cons _ _ => simp at l
theorem nodeB_not {ds : List PyData} (l : ds.length ≠ 2) : nodeB (.tuple ds) = false := by
  match ds, l with
  | [], _ => rfl
  | [_], _ => rfl
  | [_, _], l => exact absurd rfl l
  | _ :: _ :: _ :: _, _ => rfl
theorem sideB_not {n : Int} {ds : List PyData} (l : ds.length ≠ 2) : sideB n (.tuple ds) = false := by
  match ds, l with
  | [], _ => rfl
  | [_], _ => rfl
  | [_, _], l => exact absurd rfl l
  | _ :: _ :: _ :: _, _ => rfl
theorem sc_is_node : FnScope ["thing"] ["thing"] (defScope s_is_node) := ⟨rfl, rfl, rfl, by decide +kernel, rfl, by decide +kernel, by decide +kernel⟩
theorem ok_is_node {f : Addr} {fd : FuncData} (F : Fun K "is_node" "is_node" s_is_node f fd) (m_isinstance : mg "isinstance" = none) (m_tuple : mg "tuple" = none) (m_len : mg "len" = none) (g_MOST_RANK : ∃ u, mg "MOST_RANK" = some u ∧ RelV (.int 5) u)
    (c_is_number : C8.Cal P w K mg base 1 "is_number" (spNumber K) []) (c_is_word : C8.Cal P w K mg base 1 "is_word" (spWord K) []) : FnOk P w K mg base CX0 2 f fd ["thing"] spNodeB := by
  refine F.ok sc_is_node (fun vs H Q E h => ?_) (fun cdv A outer s H vs Q E hr h => ?_)
  · obtain ⟨v, d, rfl, _⟩ := h; rfl
  · obtain ⟨v, d, rfl, ob, k⟩ := h
    refine ⟨_, (pss_cons (ps_if (PW.pt (pw_or (pt_not (pt_val (pe_callB call_isi (by rfl) m_isinstance (by decide +kernel) (pa_cons (pv 0) (pa_cons (pe_bltn (v := .ty "tuple") (u := .type "tuple") rfl m_tuple (by decide +kernel) rfl) pa_nil))))) (pw_or1 (pt_cmpR op_ne (pe_callB call_len_seq (by rfl) m_len (by decide +kernel) (pa_cons (pv 0) pa_nil)) pe_int (nomark _))))) (pss_one (ps_ret pe_bl)) pss_nil)
      (pss_one (ps_ret (pe_and (C8.pe_c c_is_number hr (by decide) rfl (pa_cons (pe_ix ix_tup (pv 0) pe_int (fun _ _ => rfl)) (pa_cons pe_int (pa_cons (C8.pe_gc rfl g_MOST_RANK) pa_nil)))) (pe_one (C8.pe_c c_is_word hr (by decide) rfl (pa_cons (pe_ix ix_tup (pv 0) pe_int (fun _ _ => rfl)) pa_nil))))))), ?_⟩
    obtain ⟨t, S⟩ := ob.sort (K := K)
    refine ⟨_, rfl, _, _, _, _, _, rfl, .ty _, S.ty, S.tp, _, rfl, ?_⟩
    cases et : isTp d with
    | false =>
      refine iteT ?_
      have e : nodeB d = false := by cases d <;> first | rfl | cases et
      refine iteT ?_
      rw [← e]; exact k H (Same.refl H)
    | true =>
      obtain ⟨a, xs, ds, rfl, rfl, ha, hs⟩ := ob.of_tp et
      refine iteF ?_
      refine ⟨_, rfl, _, _, rfl, .inr (SqT.of ha), rfl, _, rfl, ?_⟩
      by_cases h2 : xs.length = 2
      · obtain ⟨x, y, d1, d2, rfl, rfl, o1, o2⟩ := two_of hs h2
        refine iteF ?_
        refine ⟨_, rfl, _, _, _, _, rfl, rfl, SqT.of ha, at_of (j := 0) rfl rfl, ?_⟩
        dsimp only [tCons, tC, tNil, List.append_nil]
        refine number_of o1 ?_
        refine ⟨_, rfl, ?_⟩
        cases en : numB 0 5 d1 with
        | false =>
          refine iteF ?_
          have e : nodeB (.tuple [d1, d2]) = false := by show (numB 0 5 d1 && wordB d2) = false; rw [en]; rfl
          rw [← e]; exact k H (Same.refl H)
        | true =>
          refine iteT ?_
          refine ⟨_, rfl, _, _, _, _, rfl, rfl, SqT.of ha, at_of (j := 1) rfl rfl, ?_⟩
          dsimp only [tCons, tC, tNil, List.append_nil]
          refine word_of o2 fun H' s' => ?_
          have e : nodeB (.tuple [d1, d2]) = wordB d2 := by show (numB 0 5 d1 && wordB d2) = _; rw [en]; rfl
          rw [← e]; exact k H' s'
      · have e0 : decide (V.int (xs.length : Int) = V.int 2) = false := decide_eq_false fun z => by injection z with z; omega
        rw [show decide (V.int (xs.length : Int) = V.int 2) = false from e0]
        refine iteT ?_
        have e : nodeB (.tuple ds) = false := nodeB_not (by rw [← hs.len]; exact h2)
        rw [← e]; exact k H (Same.refl H)
theorem sc__is_side : FnScope ["thing", "many"] ["thing", "many"] (defScope s__is_side) := ⟨rfl, rfl, rfl, by decide +kernel, rfl, by decide +kernel, by decide +kernel⟩
theorem ok__is_side {f : Addr} {fd : FuncData} (F : Fun K "_is_side" "_is_side" s__is_side f fd) (m_isinstance : mg "isinstance" = none) (m_tuple : mg "tuple" = none) (m_len : mg "len" = none)
    (c_is_number : C8.Cal P w K mg base 1 "is_number" (spNumber K) []) (c_is_node : C8.Cal P w K mg base 2 "is_node" spNodeB []) : FnOk P w K mg base CX0 3 f fd ["thing", "many"] spSideB := by
  refine F.ok sc__is_side (fun vs H Q E h => ?_) (fun cdv A outer s H vs Q E hr h => ?_)
  · obtain ⟨v, d, n, rfl, _⟩ := h; rfl
  · obtain ⟨v, d, n, rfl, ob, k⟩ := h
    refine ⟨_, (pss_one (ps_ret (pe_and (pe_callB call_isi (by rfl) m_isinstance (by decide +kernel) (pa_cons (pv 0) (pa_cons (pe_bltn (v := .ty "tuple") (u := .type "tuple") rfl m_tuple (by decide +kernel) rfl) pa_nil))) (pe_and (pe_cmpR op_eq (pe_callB call_len_seq (by rfl) m_len (by decide +kernel) (pa_cons (pv 0) pa_nil)) pe_int (nomark _)) (pe_and (C8.pe_c c_is_number hr (by decide) rfl (pa_cons (pe_ix ix_tup (pv 0) pe_int (fun _ _ => rfl)) (pa_cons pe_int (pa_cons (pe_op op_sub (pv 1) pe_int) pa_nil)))) (pe_one (C8.pe_c c_is_node hr (by decide) rfl (pa_cons (pe_ix ix_tup (pv 0) pe_int (fun _ _ => rfl)) pa_nil)))))))), ?_⟩
    obtain ⟨t, S⟩ := ob.sort (K := K)
    refine ⟨_, rfl, _, _, _, _, _, rfl, .ty _, S.ty, S.tp, _, rfl, ?_⟩
    cases et : isTp d with
    | false =>
      refine iteF ?_
      have e : sideB n d = false := by cases d <;> first | rfl | cases et
      rw [← e]; exact k H (Same.refl H)
    | true =>
      obtain ⟨a, xs, ds, rfl, rfl, ha, hs⟩ := ob.of_tp et
      refine iteT ?_
      refine ⟨_, rfl, _, _, rfl, .inr (SqT.of ha), rfl, _, rfl, ?_⟩
      by_cases h2 : xs.length = 2
      · obtain ⟨x, y, d1, d2, rfl, rfl, o1, o2⟩ := two_of hs h2
        refine iteT ?_
        refine ⟨_, rfl, _, _, _, _, rfl, rfl, SqT.of ha, at_of (j := 0) rfl rfl, ?_⟩
        dsimp only [tCons, tC, tNil, List.append_nil]
        refine ⟨_, rfl, _, _, rfl, rfl, ?_⟩
        dsimp only [tCons, tC, tNil, List.append_nil]
        refine number_of o1 ?_
        refine ⟨_, rfl, ?_⟩
        cases en : numB 0 (n - 1) d1 with
        | false =>
          refine iteF ?_
          have e : sideB n (.tuple [d1, d2]) = false := by show (numB 0 (n - 1) d1 && nodeB d2) = false; rw [en]; rfl
          rw [← e]; exact k H (Same.refl H)
        | true =>
          refine iteT ?_
          refine ⟨_, rfl, _, _, _, _, rfl, rfl, SqT.of ha, at_of (j := 1) rfl rfl, y, d2, rfl, o2, fun H' s' => ?_⟩
          have e : sideB n (.tuple [d1, d2]) = nodeB d2 := by show (numB 0 (n - 1) d1 && nodeB d2) = _; rw [en]; rfl
          rw [← e]; exact k H' s'
      · rw [show decide (V.int (xs.length : Int) = V.int 2) = false from decide_eq_false fun z => by injection z with z; omega]
        refine iteF ?_
        have e : sideB n (.tuple ds) = false := sideB_not (by rw [← hs.len]; exact h2)
        rw [← e]; exact k H (Same.refl H)
/-- the first part of which neither a truth nor None is told -/
def unsaid (p1 p2 p3 : PyData) : Option Str := if badP p1 then some "both" else if badP p2 then some "first" else if badP p3 then some "second" else none
def oStr : Option Str → V
  | none => .non
  | some s => .str s
def spUnsaid : Sp := fun vs H Q _ => ∃ (v1 v2 v3 : V) (p1 p2 p3 : PyData), vs = [v1, v2, v3] ∧ Ob H v1 p1 ∧ Ob H v2 p2 ∧ Ob H v3 p3 ∧ ∀ H', Same H H' → Q (oStr (unsaid p1 p2 p3)) H'
theorem badP_of {H : Hp} {v : V} {p : PyData} (h : Ob H v p) : badP p = ((!decide (v = .bl true)) && ((!decide (v = .bl false)) && !decide (v = .non))) := by
  cases h with
  | bl b => cases b <;> rfl
  | non => rfl
  | _ => rfl
theorem sc_unsaid_part : FnScope ["both", "first", "second", "part", "told"] ["both", "first", "second"] (defScope s_unsaid_part) := ⟨rfl, rfl, rfl, by decide +kernel, rfl, by decide +kernel, by decide +kernel⟩
theorem ok_unsaid_part {f : Addr} {fd : FuncData} (F : Fun K "unsaid_part" "unsaid_part" s_unsaid_part f fd) : FnOk P w K mg base CX0 1 f fd ["both", "first", "second"] spUnsaid := by
  refine F.ok sc_unsaid_part (fun vs H Q E h => ?_) (fun cdv A outer s H vs Q E hr h => ?_)
  · obtain ⟨v1, v2, v3, p1, p2, p3, rfl, _⟩ := h; rfl
  · obtain ⟨v1, v2, v3, p1, p2, p3, rfl, o1, o2, o3, k⟩ := h
    refine ⟨_, (pss_cons (ps_for PassesOwn.never rfl (pi_list (pe_lst (pa_cons (pe_tup (pa_cons pe_str (pa_cons (pv 0) pa_nil))) (pa_cons (pe_tup (pa_cons pe_str (pa_cons (pv 1) pa_nil))) (pa_cons (pe_tup (pa_cons pe_str (pa_cons (pv 2) pa_nil))) pa_nil))))) (pg_tup rfl (pgs_cons (pg_name (i := 3) sc_unsaid_part.nd rfl (Or.inl rfl)) (pgs_cons (pg_name (i := 4) sc_unsaid_part.nd rfl (Or.inl rfl)) pgs_nil)))
      (pss_one (ps_if (PW.pt (pw_and (pt_cmpR op_isNotC (pv 4) pe_bl (nomark _)) (pw_and (pt_cmpR op_isNotC (pv 4) pe_bl (nomark _)) (pw_and1 (pt_cmpR op_notN (pv 4) pe_non (nomark _)))))) (pss_one (ps_ret (pv 3))) pss_nil)))
      (pss_one (ps_ret pe_non))), ?_⟩
    have s1 := fun (H : Hp) (p : Addr) (o : HO) (h : H p = none) => Same.new (o := o) h
    refine ⟨_, rfl, (by show 2 ≤ sizeLine; decide), fun t1 h1 => ⟨_, rfl, (by show 2 ≤ sizeLine; decide), fun t2 h2 => ⟨_, rfl, (by show 2 ≤ sizeLine; decide), fun t3 h3 => ⟨(by show 3 ≤ sizeLine; decide), fun l hl => ?_⟩⟩⟩⟩
    have sm : Same H (upd (upd (upd (upd H t1 (.tup [.str "both", v1])) t2 (.tup [.str "first", v2])) t3 (.tup [.str "second", v3])) l (.lst [.ref t1, .ref t2, .ref t3])) :=
      (((s1 _ _ _ h1).trans (s1 _ _ _ h2)).trans (s1 _ _ _ h3)).trans (s1 _ _ _ hl)
    have e3 : upd (upd (upd (upd H t1 (.tup [.str "both", v1])) t2 (.tup [.str "first", v2])) t3 (.tup [.str "second", v3])) l (.lst [.ref t1, .ref t2, .ref t3]) t3 = some (.tup [.str "second", v3]) := s1 _ _ _ hl _ _ upd_same
    have e2 : upd (upd (upd (upd H t1 (.tup [.str "both", v1])) t2 (.tup [.str "first", v2])) t3 (.tup [.str "second", v3])) l (.lst [.ref t1, .ref t2, .ref t3]) t2 = some (.tup [.str "first", v2]) := ((s1 _ _ _ h3).trans (s1 _ _ _ hl)) _ _ upd_same
    have e1 : upd (upd (upd (upd H t1 (.tup [.str "both", v1])) t2 (.tup [.str "first", v2])) t3 (.tup [.str "second", v3])) l (.lst [.ref t1, .ref t2, .ref t3]) t1 = some (.tup [.str "both", v1]) := (((s1 _ _ _ h2).trans (s1 _ _ _ h3)).trans (s1 _ _ _ hl)) _ _ upd_same
    have el := upd_same (H := upd (upd (upd H t1 (.tup [.str "both", v1])) t2 (.tup [.str "first", v2])) t3 (.tup [.str "second", v3])) (a := l) (o := .lst [.ref t1, .ref t2, .ref t3])
    generalize upd (upd (upd (upd H t1 (.tup [.str "both", v1])) t2 (.tup [.str "first", v2])) t3 (.tup [.str "second", v3])) l (.lst [.ref t1, .ref t2, .ref t3]) = H4 at sm e1 e2 e3 el ⊢
    have kq := k H4 sm
    refine ⟨l, rfl, ⟨_, SqL.of el⟩, for_list (K := K) (a := l) (xs := [.ref t1, .ref t2, .ref t3]) (fun i σ' H' => H' = H4 ∧ (∃ x y : Option V, σ' = [some v1, some v2, some v3, x, y]) ∧ (1 ≤ i → badP p1 = false) ∧ (2 ≤ i → badP p2 = false) ∧ (3 ≤ i → badP p3 = false))
      ⟨rfl, ⟨_, _, rfl⟩, fun z => absurd z (by decide), fun z => absurd z (by decide), fun z => absurd z (by decide)⟩ (fun i σ' H' _ q => by rw [q.1]; exact SqL.of el) ?_ ?_⟩
    · rintro i x σ' H' hi ⟨rfl, ⟨x0, y0, rfl⟩, b1, b2, b3⟩
      obtain ⟨t, nm, v, p, rfl, ht, ob, rb, ro⟩ : ∃ (t : Addr) (nm : Str) (v : V) (p : PyData), x = .ref t ∧ H' t = some (.tup [.str nm, v]) ∧ Ob H v p ∧ (badP p = true → Q (.str nm) H') ∧ (badP p = false → (1 ≤ i + 1 → badP p1 = false) ∧ (2 ≤ i + 1 → badP p2 = false) ∧ (3 ≤ i + 1 → badP p3 = false)) := by
        match i, hi, b1, b2, b3 with
        | 0, hi, b1, b2, b3 =>
          refine ⟨t1, "both", v1, p1, (Option.some.inj hi).symm, e1, o1, fun h => ?_, fun h => ⟨fun _ => h, fun z => absurd z (by decide), fun z => absurd z (by decide)⟩⟩
          have e : unsaid p1 p2 p3 = some "both" := by unfold unsaid; rw [h]; rfl
          rw [e] at kq; exact kq
        | 1, hi, b1, b2, b3 =>
          refine ⟨t2, "first", v2, p2, (Option.some.inj hi).symm, e2, o2, fun h => ?_, fun h => ⟨fun _ => b1 (by decide), fun _ => h, fun z => absurd z (by decide)⟩⟩
          have e : unsaid p1 p2 p3 = some "first" := by unfold unsaid; rw [b1 (by decide), h]; rfl
          rw [e] at kq; exact kq
        | 2, hi, b1, b2, b3 =>
          refine ⟨t3, "second", v3, p3, (Option.some.inj hi).symm, e3, o3, fun h => ?_, fun h => ⟨fun _ => b1 (by decide), fun _ => b2 (by decide), fun _ => h⟩⟩
          have e : unsaid p1 p2 p3 = some "second" := by unfold unsaid; rw [b1 (by decide), b2 (by decide), h]; rfl
          rw [e] at kq; exact kq
        | _ + 3, hi, _, _, _ => simp at hi
      have eb := badP_of ob
      refine ⟨t, _, rfl, SqT.of ht, rfl, _, _, rfl, _, _, rfl, rfl, ?_⟩
      have nxt : badP p = false → (H' = H' ∧ (∃ x y : Option V, [some v1, some v2, some v3, some (V.str nm), some v] = [some v1, some v2, some v3, x, y]) ∧ (1 ≤ i + 1 → badP p1 = false) ∧ (2 ≤ i + 1 → badP p2 = false) ∧ (3 ≤ i + 1 → badP p3 = false)) := fun h => ⟨rfl, ⟨_, _, rfl⟩, (ro h).1, (ro h).2.1, (ro h).2.2⟩
      refine ⟨_, rfl, .inl ⟨_, rfl⟩, _, rfl, ?_⟩
      cases c1 : decide (v = .bl true) with
      | true => exact iteF (nxt (by rw [eb, c1]; rfl))
      | false =>
        refine iteT ⟨_, rfl, .inl ⟨_, rfl⟩, _, rfl, ?_⟩
        cases c2 : decide (v = .bl false) with
        | true => exact iteF (nxt (by rw [eb, c1, c2]; rfl))
        | false =>
          refine iteT ⟨_, rfl, rfl, _, rfl, ?_⟩
          cases c3 : decide (v = .non) with
          | true => exact iteF (nxt (by rw [eb, c1, c2, c3]; rfl))
          | false => exact iteT ⟨_, rfl, rb (by rw [eb, c1, c2, c3]; rfl)⟩
    · rintro σ' H' ⟨rfl, ⟨x0, y0, rfl⟩, b1, b2, b3⟩
      have e : unsaid p1 p2 p3 = none := by
        unfold unsaid
        rw [b1 (by simp), b2 (by simp), b3 (by simp)]; rfl
      rw [e] at kq
      exact kq
end
end KN


set_option Elab.async false
set_option linter.all false
set_option maxRecDepth 100000
set_option maxHeartbeats 4000000
/-! Own rule: isinstance of a caught error that has its dict. -/
namespace KN
open PySem PySem.Spec PyProof.Rows PySem.Calls L2
section
variable {prog : Program} {w : World} {A : Around} {Er : Value → Shared → Prop} {s : Shared} {K : PySem.W.Frag} {x D : Addr} {ox : Obj} {od : Option Obj}
theorem find_class (C : ExcC K D) : PySem.W.findObj K D od "__class__" = some (.bind (.builtin "getset_descriptor.__get__") (.builtin "object.__class__")) := by
  obtain ⟨cd, known, _⟩ := PySem.W.any_some C.hd
  unfold PySem.W.findObj
  rw [known, Option.bind_some, C.ha, Option.bind_some]
  simp [C.hn, C.ht]
theorem class_of {Qu : Option Value → Shared → Prop} (C : ExcC K D) (X : K.In s.heap) (I : PySem.W.InstAt s.heap x ox D od) (go : Qu (some (.ref D)) { s with toks := s.toks + 1 }) : wpAny (model prog w) A (getAttr? (.ref x) "__class__") Qu Er s := by
  have where_ := find_class (od := od) C
  obtain ⟨hp, gs, dr, tk, os⟩ := s
  have a0 := I.type (M := model prog w)
  have a1 := PySem.W.looks_findIn (M := model prog w) X C.hg
  have a2 := PySem.W.looks_findIn (M := model prog w) X C.hk
  have a3 := PySem.W.looks_find (M := model prog w) X I where_
  have exc : PySem.W.Looks (model prog w) hp (isInstance (.ref x) (.type "BaseException")) true := a0.andThen (PySem.W.looks_subIn X C.hs)
  have n2 : (Value.builtin "BaseException.__getattribute__" == Value.builtin "object.__getattribute__") = false := by decide +kernel
  have n1 : (onTheHeap (Value.ref D) && Value.builtin "BaseException.__getattribute__" == Value.builtin "object.__getattribute__") = false := by
    rw [n2, Bool.and_false]
  have n0 : (false && onTheHeap (Value.builtin "BaseException.__getattribute__")) = false := rfl
  unfold getAttr? getAttrBy? getAttrBy
  refine wpAny_bind (wpAny_mkText (wpAny_bind (wpAny_attempt (wpAny_holding (wpAny_bind (a0.at (wpAny_bind (a1.at (?_ : wpAny _ _ (if (onTheHeap (Value.ref D) && Value.builtin "BaseException.__getattribute__" == Value.builtin "object.__getattribute__") = true then _ else _) _ _ _)))))))))
  rw [n1, if_neg Bool.false_ne_true]
  unfold getAttrByItsOwn hookBefore; apply wpAny_bind
  have held : onTheHeap (Value.ref D) = true := rfl
  rw [if_pos held]
  refine a2.at (wpAny_bind (wpAny_attempt (wpAny_holding ?_)))
  unfold callGetattribute; rw [n0, if_neg Bool.false_ne_true]
  unfold boundAndCalled; rw [PySem.F.excAttr_ValueError.ga.bind (.ref x)]
  refine wpAny_bind (wpAny_pure (?_ : wpAny _ _ (call (.builtin "BaseException.__getattribute__") [.ref x, .str "__class__" tk]) _ _ _))
  apply wpAny_call
  apply codeAny_call_builtin PySem.F.excAttr_ValueError.ga.plain PySem.F.entry_bexc_ga
  apply @PySem.W.check_slot (model prog w) _ _ ⟨hp, gs, dr, tk + 1, os⟩ "BaseException.__getattribute__" "BaseException" "__getattribute__" (.ref x) [.str "__class__" tk] [] _ (by decide +kernel) (by decide +kernel) exc (PySem.F.args_bexc_ga (.ref x) (.str "__class__" tk))
  unfold Builtin.«object.__getattribute__»; apply wpAny_bind
  refine wpAny_of_eq (a := ((Value.ref x : Value), [Value.str "__class__" tk])) (by first | rfl | (simp only [slotArgs]; rfl)) ?_
  refine wpAny_bind (wpAny_pure (wpAny_bind (a0.at (wpAny_bind (a3.at (?_ : wpAny _ _ (holding [Value.builtin "object.__class__"] (call (.builtin "getset_descriptor.__get__") [.builtin "object.__class__", .ref x, .ref D]) >>= ret) _ _ _))))))
  refine wpAny_bind (wpAny_holding (wpAny_call (PySem.W.class_get (s := ⟨hp, gs, dr, tk + 1, os⟩) (ox := ox) (od := od) X I C.hm (wpAny_pure (?_ : wpAny _ _ (handedOut (.ref D)) _ _ _)))))
  rw [PySem.W.handedOut_of (v := .ref D) rfl]
  first
    | exact wpAny_pure (wpAny_pure go)
    | exact wpAny_pure go
    | exact wpAny_pure (wpAny_bind (wpAny_pure (wpAny_pure go)))
theorem kit_caught (C : ExcC K D) : PySem.W.KitX K (.ref x) (.ref D) (fun h => ∃ od, PySem.W.InstAt h x ox D od) where
  ca := fun X ⟨_, I⟩ go => class_of C X I go
  ty := fun _ _ _ ⟨_, I⟩ => I.type
  it := fun _ _ X _ => by
    obtain ⟨cd, known, _⟩ := PySem.W.any_some C.hd
    unfold PySem.W.clsIn at known
    split at known
    · rename_i o1 o2 o3 o4 look
      intro A' Q' E' s' k q
      unfold isType loadHead
      apply wpAny_bind
      exact wpAny_loadPart (k _ _ (X _ _ look)) (wpAny_pure q)
    · cases known
  ne := fun h tp dd its n sl X there => by
    obtain ⟨cd, known, _⟩ := PySem.W.any_some C.hd
    cases z : (Value.ref D == Value.ref tp) with
    | false => rfl
    | true =>
      obtain rfl : D = tp := Value.ref.inj (beq_iff_eq.mp z)
      unfold PySem.W.clsIn at known
      split at known
      · rename_i o1 o2 o3 o4 look
        have := (X _ _ look).symm.trans there
        cases this
      · cases known
end
theorem call_isD {X : Cx} {a D : Addr} {oe : Obj} {cls : Value} {d : Option Addr} {pn : List (Addr × Obj)} (C : ExcC X.K D) (hz : Zc cls d oe) (hf : ∃ vs, oe.data = .fields vs) :
    CallR (X.suite a ((a, oe) :: pn)) (.builtin "isinstance") (fun xs H Q => cls = .ref D ∧ (∃ dd fs, d = some dd ∧ H dd = some (.xd fs)) ∧ rIsE X.K D a xs H Q) := by
  intro pins s σ H xs us Q I r ⟨ec, ⟨dd, fs, ed, hdd⟩, c, cv, b, ex, hcv, e, q⟩
  subst ex ec
  obtain ⟨u1, u2, rfl, r1, r2⟩ : ∃ u1 u2, us = [u1, u2] ∧ RelV (.ref a) u1 ∧ RelV c u2 := by
    cases r with | cons r1 rr => cases rr with | cons r2 rr => cases rr; exact ⟨_, _, rfl, r1, r2⟩
  cases r1
  obtain rfl := hcv _ r2
  obtain ⟨at_, _⟩ := I.pin (a, oe) (List.mem_append.mpr (Or.inl List.mem_cons_self))
  obtain ⟨vs, hv⟩ := hf
  have okd : ObjOk X.prog X.w H s.heap dd (.xd fs) := I.hok dd _ hdd
  obtain ⟨mA, hns, _⟩ := okd
  obtain ⟨od, ho, _⟩ := lookIn_ns hns
  have J : PySem.W.InstAt s.heap a oe D (some od) := ⟨at_, hz.1, by unfold PySem.W.notCls; rw [hv] <;> rfl, by rw [hz.2, ed]; exact ho⟩
  exact PySem.W.kia_one (kit_caught C) I.kIn ⟨_, J⟩ e (fun z => nomatch z) fun tk => ⟨.bl b, H, I.kept (t' := tk) fun _ _ z => z, rfl, q⟩
end KN

set_option Elab.async false
set_option linter.all false
set_option maxRecDepth 100000
set_option maxHeartbeats 4000000
namespace KN
open PySem L2
/-- an own exception of one thing told, under its name -/
structure ExcOne (P : Program) (w : World) (K : PySem.W.Frag) (mg : Str → Option Value) (base : Heap) (k : Nat) (x f : Str) (C : Addr) : Prop where
  at_ : ExcAt P w K mg base k x C (spOne K f) []
  plain : PySem.W.findIn K (.ref C) f = some none
/-- what is let out: an exception of class C that holds y in f -/
def OutOne (H : Hp) (C : Addr) (f : Str) (y : V) (E : XK) : Prop := ∀ H' d, Same H H' → H' d = some (.xd [(f, y)]) → E (.ref C) (some d) H'
theorem out_one {H : Hp} {C a dx : Addr} {f : Str} {y : V} {E : XK} (o : OutOne H C f y E) (ha : H a = none) (hd : upd H a (exo a C none) dx = none) (ne : dx ≠ a) :
    ∃ (d : Addr) (fs : List (Str × V)), upd (upd (upd H a (exo a C none)) dx (exd dx [(f, y)])) a (exo a C (some dx)) a = some (exo a C (some d)) ∧ upd (upd (upd H a (exo a C none)) dx (exd dx [(f, y)])) a (exo a C (some dx)) d = some (exd d fs) ∧ H d = none ∧ E (.ref C) (some d) (upd (del (upd (upd (upd H a (exo a C none)) dx (exd dx [(f, y)])) a (exo a C (some dx))) a) d (.xd fs)) := by
  rw [upd_ne ne] at hd
  refine ⟨dx, [(f, y)], upd_same, by rw [upd_ne ne, upd_same], hd, o _ _ (fun b u e => ?_) upd_same⟩
  have nb : b ≠ a := ne_of_none e ha
  have nd : b ≠ dx := ne_of_none e hd
  rw [upd_ne nd, del_ne nb, upd_ne nb, upd_ne nd, upd_ne nb]
  exact e
theorem OutOne.to {H H' : Hp} {C : Addr} {f : Str} {y : V} {E : XK} (o : OutOne H C f y E) (s : Same H H') : OutOne H' C f y E := fun H2 d s2 h => o H2 d (s.trans s2) h
/-- an own exception's class as a clause and isinstance meet it -/
structure ExcMet (K : PySem.W.Frag) (C : Addr) (B : String) : Prop where
  xf : XfC K C
  isC : ExcC K C
  me : PySem.W.exmOne K (.ref C) (.ref C) = some true
  up : PySem.W.kitOne K (.ref C) (.type B) = some true
end KN

set_option Elab.async false
set_option linter.all false
set_option maxRecDepth 100000
set_option maxHeartbeats 4000000
namespace KN
open PySem L2
/-! Sayings: made or refused, held against one another. -/
/-- a class made by keywords, whose __init__ may raise -/
structure MakKX (P : Program) (w : World) (K : PySem.W.Frag) (mg : Str → Option Value) (base : Heap) (k n : Nat) (x : Str) (C : Addr) (sp : Sp) (ks : List Str) (gV : List V → List V → List V) : Prop where
  ex : ∃ (f : Addr) (fd : FuncData) (ps : List Str) (g : List Value → List Value → List Value), Mk K C f ∧ FnOk P w K mg base (L2.CX P w) k f fd ps sp ∧ mg x = some (.ref C) ∧ KBn K fd ps (n + 1) ks g gV
theorem pe_mkKX {X : Cx} {E0 : XK} {k j n : Nat} {C : Addr} {x : Str} {sp : Sp} {ks : List Str} {gV : List V → List V → List V} {p pos : Pos} {e : Expr} {es : List Expr} {kws : List Keyword} {t tk : TA}
    (c : MakKX X.prog X.w X.K X.mg X.base k n x C sp ks gV) (tx : Takes X fun cl d _ H => E0 cl d H) (hr : Room j X.A) (hk : k + 1 ≤ j) (hg : Gl X x) (ha : PA X (e :: es) t) (hkw : PK X kws tk)
    (hall : (backToKw pos (keywordEach kws X.env)).all (·.1.isSome) = true := by rfl) (hks : (backToKw pos (keywordEach kws X.env)).filterMap (·.1) = ks := by rfl)
    (hdb : (x == ("__debug__" : Str)) = false := by decide) (he : starEach (e :: es) X.env = (false, eval e X.env) :: starEach es X.env := by rfl)
    (hpl : ((backTo pos (starEach (e :: es) X.env)).any (·.1) || (backToKw pos (keywordEach kws X.env)).any (·.1.isNone)) = false := by rfl) :
    PE X (.Call (.Name x p) (e :: es) kws pos) (tMakeK C n ks.length sp gV E0 t tk) := by
  obtain ⟨f, fd, ps, g, M, F, hm, hb⟩ := c.ex
  exact pe_makeK M F (hr.mono hk) hg hm hb (passes_call tx fun _ _ _ _ z => z) ha hkw hall hks hdb he hpl
/-- a saying's fields -/
def sayF (one other b f s : V) : List (Str × V) := [("one", one), ("other", other), ("both", b), ("first", f), ("second", s)]
structure SaT (K : PySem.W.Frag) (C : Addr) : Prop where
  cl : Cls K C
  n1 : NoAttr K C "one"
  n2 : NoAttr K C "other"
  n3 : NoAttr K C "both"
  n4 : NoAttr K C "first"
  n5 : NoAttr K C "second"
def firstI : PyData → Option Int
  | .tuple (.int i :: _) => some i
  | _ => none
/-- the first part that isn't as told -/
def dueD (d1 d2 p1 p2 p3 : PyData) : Option Str :=
  if sideB 3 d1 = false then some "one" else if sideB 3 d2 = false ∨ firstI d2 = firstI d1 then some "other" else unsaid p1 p2 p3
def spSay (C CB : Addr) : Sp := fun vs H Q E => ∃ (t dx : Addr) (v1 v2 u1 u2 u3 : V) (d1 d2 p1 p2 p3 : PyData), vs = [.ref t, v1, v2, u1, u2, u3] ∧ H t = some (.ins C dx []) ∧ Ob H v1 d1 ∧ Ob H v2 d2 ∧ Ob H u1 p1 ∧ Ob H u2 p2 ∧ Ob H u3 p3 ∧
  (∀ part, dueD d1 d2 p1 p2 p3 = some part → OutOne H CB "part" (.str part) E) ∧
  (dueD d1 d2 p1 p2 p3 = none → ∀ H', (∀ a o, a ≠ t → H a = some o → H' a = some o) → H' t = some (.ins C dx (sayF v1 v2 u1 u2 u3)) → Q .non H')
/-- a side: its tree's number, its node -/
theorem side_of {H : Hp} {v : V} {d : PyData} (h : Ob H v d) (e : sideB 3 d = true) : ∃ (a : Addr) (i : Int) (x : V) (s : PyData), v = .ref a ∧ H a = some (.tup [.int i, x]) ∧ d = .tuple [.int i, s] ∧ Ob H x s ∧ nodeB s = true ∧ 0 ≤ i ∧ i ≤ 2 := by
  cases h with
  | tup e1 r =>
    rename_i a xs ds
    by_cases h2 : xs.length = 2
    · obtain ⟨x, y, d1, d2, rfl, rfl, o1, o2⟩ := two_of r h2
      have e' : (numB 0 (3 - 1) d1 && nodeB d2) = true := e
      obtain ⟨n1, n2⟩ := Bool.and_eq_true_iff.mp e'
      cases o1 with
      | int i =>
        obtain ⟨z1, z2⟩ := Bool.and_eq_true_iff.mp (show (decide ((0 : Int) ≤ i) && decide (i ≤ 3 - 1)) = true from n1)
        exact ⟨a, i, y, d2, rfl, e1, rfl, o2, n2, of_decide_eq_true z1, by have := of_decide_eq_true z2; omega⟩
      | _ => cases n1
    · rw [sideB_not (by rw [← r.len]; exact h2)] at e; cases e
  | _ => cases e
section
variable {P : Program} {w : World} {K : PySem.W.Frag} {mg : Str → Option Value} {base : Heap} {C CB : Addr}
theorem sc_BadSaying___init__ : FnScope ["self", "part"] ["self", "part"] (defScope s_BadSaying___init__) := ⟨rfl, rfl, rfl, by decide +kernel, rfl, by decide +kernel, by decide +kernel⟩
theorem ok_BadSaying_init {f : Addr} {fd : FuncData} (F : Fun K "__init__" "BadSaying.__init__" s_BadSaying___init__ f fd) : FnOk P w K mg base CX0 1 f fd ["self", "part"] (spOne K "part") := by
  refine F.ok sc_BadSaying___init__ (fun vs H Q E h => ?_) (fun cdv A outer s H vs Q E hr h => ?_)
  · obtain ⟨a, C, y, rfl, _⟩ := h; rfl
  · obtain ⟨a, C, y, rfl, ha, T, nf, k⟩ := h
    refine ⟨_, pss_one (ps_putG (pv 0) (pv 1)), ?_⟩
    exact ⟨_, rfl, _, rfl, a, C, rfl, T, nf, .inr ⟨ha, fun dx h1 h2 => k dx h1 h2⟩⟩
theorem sc_Saying___init__ : FnScope ["self", "one", "other", "both", "first", "second", "part"] ["self", "one", "other", "both", "first", "second"] (defScope s_Saying___init__) := ⟨rfl, rfl, rfl, by decide +kernel, rfl, by decide +kernel, by decide +kernel⟩
theorem ok_x_Saying_init {f : Addr} {fd : FuncData} (F : FunD K "__init__" "Saying.__init__" (defArgs s_Saying___init__) (defBody s_Saying___init__) (defScope s_Saying___init__) [] [("both", V.non), ("first", V.non), ("second", V.non)] f fd) (T : SaT K C)
    (g_MOST_TREES : ∃ u, mg "MOST_TREES" = some u ∧ RelV (.int 3) u) (c__is_side : C8.Cal P w K mg base 3 "_is_side" spSideB []) (c_unsaid_part : C8.Cal P w K mg base 1 "unsaid_part" spUnsaid []) (c_BadSaying : ExcOne P w K mg base 1 "BadSaying" "part" CB) :
    FnOk P w K mg base (L2.CX P w) 4 f fd ["self", "one", "other", "both", "first", "second"] (spSay C CB) := by
  refine F.ok (CX := L2.CX P w) sc_Saying___init__ (fun vs H Q E h => ?_) (fun cdv A outer s H vs Q E hr h => ?_)
  · obtain ⟨t, dx, v1, v2, u1, u2, u3, d1, d2, p1, p2, p3, rfl, _⟩ := h; rfl
  · obtain ⟨t, dx, v1, v2, u1, u2, u3, d1, d2, p1, p2, p3, rfl, ht, o1, o2, q1, q2, q3, kb, kg⟩ := h
    have hu := hu_of hr
    refine ⟨_, (pss_cons (ps_if (pt_not (pt_val (C8.pe_c c__is_side hr (by decide) rfl (pa_cons (pv 1) (pa_cons (C8.pe_gc rfl g_MOST_TREES) pa_nil))))) (pss_one (ps_raiseG rfl (takes_of rfl rfl rfl rfl) c_BadSaying.at_ hr (by decide) rfl (pa_cons pe_str pa_nil))) pss_nil)
      (pss_cons (ps_if (PW.pt (pw_or (pt_not (pt_val (C8.pe_c c__is_side hr (by decide) rfl (pa_cons (pv 2) (pa_cons (C8.pe_gc rfl g_MOST_TREES) pa_nil))))) (pw_or1 (pt_cmpR op_eq (pe_ix ix_tup (pv 2) pe_int (fun _ _ => rfl)) (pe_ix ix_tup (pv 1) pe_int (fun _ _ => rfl)) (nomark _))))) (pss_one (ps_raiseG rfl (takes_of rfl rfl rfl rfl) c_BadSaying.at_ hr (by decide) rfl (pa_cons pe_str pa_nil))) pss_nil)
      (pss_cons (ps_set (i := 6) sc_Saying___init__.nd rfl (Or.inl rfl) (C8.pe_c c_unsaid_part hr (by decide) rfl (pa_cons (pv 3) (pa_cons (pv 4) (pa_cons (pv 5) pa_nil)))))
      (pss_cons (ps_if (pt_cmpR op_notN (pv 6) pe_non (nomark _)) (pss_one (ps_raiseG rfl (takes_of rfl rfl rfl rfl) c_BadSaying.at_ hr (by decide) rfl (pa_cons (pv 6) pa_nil))) pss_nil)
      (pss_cons (ps_fld (pv 0) (pv 1) rfl)
      (pss_cons (ps_fld (pv 0) (pv 2) rfl)
      (pss_cons (ps_fld (pv 0) (pv 3) rfl)
      (pss_cons (ps_fld (pv 0) (pv 4) rfl)
      (pss_one (ps_fld (pv 0) (pv 5) rfl)))))))))), ?_⟩
    have bad : ∀ (H1 : Hp) (part : Str), Same H H1 → dueD d1 d2 p1 p2 p3 = some part → ∀ (x : Addr), H1 x = none → spOne K "part" [V.ref x, V.str part] (upd H1 x (exo x CB none)) (fun v H2 => v = .non ∧ ∃ (d : Addr) (fs : List (Str × V)), H2 x = some (exo x CB (some d)) ∧ H2 d = some (exd d fs) ∧ H1 d = none ∧ E (.ref CB) (some d) (upd (del H2 x) d (.xd fs))) (fun _ _ _ => False) := fun H1 part s1 due x hx =>
      ⟨x, CB, _, rfl, upd_same, c_BadSaying.at_.cls, c_BadSaying.plain, fun dx h1 h2 => ⟨rfl, out_one ((kb part due).to s1) hx h1 h2⟩⟩
    refine ⟨_, rfl, v1, d1, 3, rfl, o1, fun H1 s1 => ⟨_, rfl, ?_⟩⟩
    cases e1 : sideB 3 d1 with
    | false =>
      have due : dueD d1 d2 p1 p2 p3 = some ("one" : Str) := if_pos e1
      refine iteT ⟨by show 1 ≤ 1000; decide, fun x hx => ?_⟩
      exact bad H1 "one" s1 due x hx
    | true =>
      refine iteF ?_
      refine ⟨_, rfl, v2, d2, 3, rfl, o2.to (Ke.of s1), fun H2 s2 => ⟨_, rfl, ?_⟩⟩
      cases e2 : sideB 3 d2 with
      | false =>
        have due : dueD d1 d2 p1 p2 p3 = some ("other" : Str) := by unfold dueD; rw [if_neg (by rw [e1]; decide), if_pos (.inl e2)]
        refine iteT (iteT ⟨by show 1 ≤ 1000; decide, fun x hx => ?_⟩)
        exact bad H2 "other" (s1.trans s2) due x hx
      | true =>
        refine iteF ?_
        have s12 := s1.trans s2
        obtain ⟨a1, i1, x1, y1, rfl, ha1, rfl, _, _, _, _⟩ := side_of o1 e1
        obtain ⟨a2, i2, x2, y2, rfl, ha2, rfl, _, _, _, _⟩ := side_of o2 e2
        refine ⟨_, rfl, _, _, _, _, rfl, rfl, SqT.of (s12 _ _ ha2), at_of (j := 0) rfl rfl, _, rfl, _, _, _, _, rfl, rfl, SqT.of (s12 _ _ ha1), at_of (j := 0) rfl rfl, rfl, _, rfl, ?_⟩
        by_cases ei : i2 = i1
        · subst ei
          have due : dueD (.tuple [.int i2, y1]) (.tuple [.int i2, y2]) p1 p2 p3 = some ("other" : Str) := by unfold dueD; rw [if_neg (by rw [e1]; decide), if_pos (.inr rfl)]
          rw [decide_eq_true (rfl : V.int i2 = V.int i2)]
          refine iteT ⟨by show 1 ≤ 1000; decide, fun x hx => ?_⟩
          exact bad H2 "other" s12 due x hx
        · have due : dueD (.tuple [.int i1, y1]) (.tuple [.int i2, y2]) p1 p2 p3 = unsaid p1 p2 p3 := by
            unfold dueD
            rw [if_neg (by rw [e1]; decide), if_neg]
            rintro (z | z)
            · rw [e2] at z; cases z
            · exact ei (Option.some.inj z)
          rw [decide_eq_false (fun z => ei (V.int.inj z) : ¬ V.int i2 = V.int i1)]
          refine iteF ?_
          refine ⟨_, rfl, _, rfl, _, rfl, u1, u2, u3, p1, p2, p3, rfl, q1.to (Ke.of s12), q2.to (Ke.of s12), q3.to (Ke.of s12), fun H3 s3 => ?_⟩
          have s13 := s12.trans s3
          cases eu : unsaid p1 p2 p3 with
          | some part =>
            refine ⟨_, rfl, rfl, _, rfl, iteT ⟨_, rfl, by show 1 ≤ 1000; decide, fun x hx => ?_⟩⟩
            exact bad H3 part s13 (due.trans eu) x hx
          | none =>
            refine ⟨_, rfl, rfl, _, rfl, iteF ?_⟩
            refine ⟨_, rfl, _, rfl, t, C, dx, _, rfl, s13 _ _ ht, T.cl, T.n1, (by show 0 < 1000; decide), ?_⟩
            refine ⟨_, rfl, _, rfl, t, C, dx, _, rfl, upd_same, T.cl, T.n2, (by show 1 < 1000; decide), ?_⟩
            refine ⟨_, rfl, _, rfl, t, C, dx, _, rfl, upd_same, T.cl, T.n3, (by show 2 < 1000; decide), ?_⟩
            refine ⟨_, rfl, _, rfl, t, C, dx, _, rfl, upd_same, T.cl, T.n4, (by show 3 < 1000; decide), ?_⟩
            refine ⟨_, rfl, _, rfl, t, C, dx, _, rfl, upd_same, T.cl, T.n5, (by show 4 < 1000; decide), ?_⟩
            refine kg (due.trans eu) _ (fun a o n e => ?_) upd_same
            rw [upd_ne n, upd_ne n, upd_ne n, upd_ne n, upd_ne n]
            exact s13 _ _ e
end
end KN


set_option Elab.async false
set_option linter.all false
set_option maxRecDepth 100000
set_option maxHeartbeats 4000000
namespace KN
open PySem L2
/-! Sayings held against one another; the five words. -/
/-- a saying at t: its fields as data -/
structure SayAt (C : Addr) (H : Hp) (t : Addr) (r : List PyData) : Prop where
  ex : ∃ (dx : Addr) (v1 v2 u1 u2 u3 : V) (d1 d2 p1 p2 p3 : PyData), r = [d1, d2, p1, p2, p3] ∧ H t = some (.ins C dx (sayF v1 v2 u1 u2 u3)) ∧ Tp H v1 d1 ∧ Tp H v2 d2 ∧ Tp H u1 p1 ∧ Tp H u2 p2 ∧ Tp H u3 p3
  sh : ∀ d ∈ r, SeqAt.shaped d = true
theorem SayAt.to {C : Addr} {H H' : Hp} {t : Addr} {r : List PyData} (h : SayAt C H t r) (s : Same H H') : SayAt C H' t r := by
  obtain ⟨⟨dx, v1, v2, u1, u2, u3, d1, d2, p1, p2, p3, e, ht, a, b, c, d, f⟩, sh⟩ := h
  exact ⟨⟨dx, v1, v2, u1, u2, u3, d1, d2, p1, p2, p3, e, s _ _ ht, a.to (TK.of s), b.to (TK.of s), c.to (TK.of s), d.to (TK.of s), f.to (TK.of s)⟩, sh⟩
def spEqS (K : PySem.W.Frag) (C : Addr) : Sp := fun vs H Q _ => ∃ (t : Addr) (v : V) (r : List PyData), vs = [.ref t, v] ∧ SayAt C H t r ∧
  ((∃ (t2 : Addr) (r2 : List PyData), v = .ref t2 ∧ SayAt C H t2 r2 ∧ Q (.bl (PyData.eqv (.tuple r) (.tuple r2))) H) ∨ ∃ ty, TyX K H v ty ∧ PySem.W.kitOne K ty (.ref C) = some false ∧ Q (.bl false) H)
theorem say1 (a b c d e : V) : (sayF a b c d e).lookup ("one" : Str) = some a := by
  unfold sayF; rw [List.lookup_cons, beq_self_eq_true]
theorem say2 (a b c d e : V) : (sayF a b c d e).lookup ("other" : Str) = some b := by
  unfold sayF; rw [List.lookup_cons, beq_false_of_ne (by decide +kernel), List.lookup_cons, beq_self_eq_true]
theorem say3 (a b c d e : V) : (sayF a b c d e).lookup ("both" : Str) = some c := by
  unfold sayF; rw [List.lookup_cons, beq_false_of_ne (by decide +kernel), List.lookup_cons, beq_false_of_ne (by decide +kernel), List.lookup_cons, beq_self_eq_true]
theorem say4 (a b c d e : V) : (sayF a b c d e).lookup ("first" : Str) = some d := by
  unfold sayF; rw [List.lookup_cons, beq_false_of_ne (by decide +kernel), List.lookup_cons, beq_false_of_ne (by decide +kernel), List.lookup_cons, beq_false_of_ne (by decide +kernel), List.lookup_cons, beq_self_eq_true]
theorem say5 (a b c d e : V) : (sayF a b c d e).lookup ("second" : Str) = some e := by
  unfold sayF; rw [List.lookup_cons, beq_false_of_ne (by decide +kernel), List.lookup_cons, beq_false_of_ne (by decide +kernel), List.lookup_cons, beq_false_of_ne (by decide +kernel), List.lookup_cons, beq_false_of_ne (by decide +kernel), List.lookup_cons, beq_self_eq_true]
section
variable {P : Program} {w : World} {K : PySem.W.Frag} {mg : Str → Option Value} {base : Heap} {C CB : Addr}
theorem sc_Saying___eq__ : FnScope ["self", "other"] ["self", "other"] (defScope s_Saying___eq__) := ⟨rfl, rfl, rfl, by decide +kernel, rfl, by decide +kernel, by decide +kernel⟩
theorem ok_Saying_eq {f : Addr} {fd : FuncData} (F : Fun K "__eq__" "Saying.__eq__" s_Saying___eq__ f fd) (T : SaT K C) (I : C8.InsC K C) (m_isinstance : mg "isinstance" = none) (g_Saying : ∃ u, mg "Saying" = some u ∧ RelV (.ref C) u) : FnOk P w K mg base CX0 1 f fd ["self", "other"] (spEqS K C) := by
  refine F.ok sc_Saying___eq__ (fun vs H Q E h => ?_) (fun cdv A outer s H vs Q E hr h => ?_)
  · obtain ⟨t, v, r, rfl, _⟩ := h; rfl
  · obtain ⟨t, v, r, rfl, ⟨⟨dx, v1, v2, u1, u2, u3, d1, d2, p1, p2, p3, rfl, ht, a1, a2, a3, a4, a5⟩, sh⟩, h⟩ := h
    refine ⟨_, (pss_cons (ps_if (PW.pt (pw_or (pt_not (pt_val (pe_callB call_isi (by rfl) m_isinstance (by decide +kernel) (pa_cons (pv 1) (pa_cons (C8.pe_gc rfl g_Saying) pa_nil))))) (pw_or (pt_cmpR (op_neD hr.units) (pe_fld (pv 0) rfl) (pe_fld (pv 1) rfl) (nomark _)) (pw_or1 (pt_cmpR (op_neD hr.units) (pe_fld (pv 0) rfl) (pe_fld (pv 1) rfl) (nomark _)))))) (pss_one (ps_ret pe_bl)) pss_nil)
      (pss_one (ps_ret (pe_and (pe_cmpR (op_eqD hr.units) (pe_fld (pv 0) rfl) (pe_fld (pv 1) rfl) (nomark _)) (pe_and (pe_cmpR (op_eqD hr.units) (pe_fld (pv 0) rfl) (pe_fld (pv 1) rfl) (nomark _)) (pe_one (pe_cmpR (op_eqD hr.units) (pe_fld (pv 0) rfl) (pe_fld (pv 1) rfl) (nomark _)))))))), ?_⟩
    rcases h with ⟨t2, r2, rfl, ⟨⟨dx2, w1, w2, x1, x2, x3, e1, e2, q1, q2, q3, rfl, ht2, b1, b2, b3, b4, b5⟩, sh2⟩, k⟩ | ⟨ty, hty, hk, k⟩
    · refine ⟨_, rfl, _, _, _, _, _, rfl, .own C, .base (.ins ht2 I.cl I.ha I.hn I.htk I.hm), I.me, _, rfl, iteF ?_⟩
      refine ⟨_, rfl, t, C, dx, _, _, rfl, ht, T.cl, T.n1, say1 _ _ _ _ _, _, rfl, t2, C, dx2, _, _, rfl, ht2, T.cl, T.n1, say1 _ _ _ _ _, ?_⟩
      have z1 := sh d1 (by simp)
      have z2 := sh d2 (by simp)
      have z3 := sh p1 (by simp)
      have z4 := sh p2 (by simp)
      have z5 := sh p3 (by simp)
      have y1 := sh2 e1 (by simp)
      have y2 := sh2 e2 (by simp)
      have y3 := sh2 q1 (by simp)
      have y4 := sh2 q2 (by simp)
      have y5 := sh2 q3 (by simp)
      have all : PyData.eqv (.tuple [d1, d2, p1, p2, p3]) (.tuple [e1, e2, q1, q2, q3]) = (PyData.eqv d1 e1 && (PyData.eqv d2 e2 && (PyData.eqv p1 q1 && (PyData.eqv p2 q2 && PyData.eqv p3 q3)))) := by
        simp only [PyData.eqv, PyData.eqvAll, Bool.and_true]
      rw [all] at k
      refine ⟨_, _, a1.d, b1.d, z1, y1, _, rfl, ?_⟩
      cases c1 : PyData.eqv d1 e1 with
      | false =>
        rw [c1] at k
        refine iteT ?_
        first | exact k | exact iteT k | exact iteT (iteT k)
      | true =>
        rw [c1] at k
        refine iteF ?_
        refine ⟨_, rfl, t, C, dx, _, _, rfl, ht, T.cl, T.n2, say2 _ _ _ _ _, _, rfl, t2, C, dx2, _, _, rfl, ht2, T.cl, T.n2, say2 _ _ _ _ _, ?_⟩
        refine ⟨_, _, a2.d, b2.d, z2, y2, _, rfl, ?_⟩
        cases c2 : PyData.eqv d2 e2 with
        | false =>
          rw [c2] at k
          refine iteT ?_
          first | exact k | exact iteT k | exact iteT (iteT k)
        | true =>
          rw [c2] at k
          refine iteF ?_
          refine ⟨_, rfl, t, C, dx, _, _, rfl, ht, T.cl, T.n3, say3 _ _ _ _ _, _, rfl, t2, C, dx2, _, _, rfl, ht2, T.cl, T.n3, say3 _ _ _ _ _, ?_⟩
          refine ⟨_, _, a3.d, b3.d, z3, y3, _, rfl, ?_⟩
          cases c3 : PyData.eqv p1 q1 with
          | false => rw [c3] at k; exact iteF k
          | true =>
            rw [c3] at k
            refine iteT ?_
            refine ⟨_, rfl, t, C, dx, _, _, rfl, ht, T.cl, T.n4, say4 _ _ _ _ _, _, rfl, t2, C, dx2, _, _, rfl, ht2, T.cl, T.n4, say4 _ _ _ _ _, ?_⟩
            refine ⟨_, _, a4.d, b4.d, z4, y4, _, rfl, ?_⟩
            cases c4 : PyData.eqv p2 q2 with
            | false => rw [c4] at k; exact iteF k
            | true =>
              rw [c4] at k
              refine iteT ?_
              refine ⟨_, rfl, t, C, dx, _, _, rfl, ht, T.cl, T.n5, say5 _ _ _ _ _, _, rfl, t2, C, dx2, _, _, rfl, ht2, T.cl, T.n5, say5 _ _ _ _ _, ?_⟩
              exact ⟨_, _, a5.d, b5.d, z5, y5, k⟩
    · refine ⟨_, rfl, _, _, _, _, _, rfl, .own C, hty, hk, _, rfl, iteT ?_⟩
      exact iteT k
/-- what the program's own table of words says -/
structure WordsAt (K : PySem.W.Frag) (w : World) (D : Addr) : Prop where
  kd : ∃ es n, KDict K w D es n
  at_ : ∀ q ∈ fiveW, ∃ t : Addr, PySem.W.nsIn K D q.1 = some (some (.ref t)) ∧ ∀ H, SqT K H t [.bl q.2.1, .bl q.2.2.1, .bl q.2.2.2]
  no : ∀ z ∈ oddW, PySem.W.nsIn K D z = some none
def oddV (K : PySem.W.Frag) (H : Hp) (v : V) : Prop := (∃ z, v = .str z ∧ z ∈ oddW) ∨ ∃ t, TyX K H v t ∧ PySem.W.kitOne K t (.type "str") = some false
def spSaid (K : PySem.W.Frag) (C CB : Addr) : Sp := fun vs H Q E => ∃ (v1 v2 v3 : V), vs = [v1, v2, v3] ∧
  ((oddV K H v3 ∧ OutOne H CB "part" (.str "word") E) ∨
   ∃ (q : Str × Bool × Bool × Bool) (d1 d2 : PyData), q ∈ fiveW ∧ v3 = .str q.1 ∧ Ob H v1 d1 ∧ Ob H v2 d2 ∧ dueD d1 d2 (.bool q.2.1) (.bool q.2.2.1) (.bool q.2.2.2) = none ∧
     ∀ H' t dx, Same H H' → H t = none → H' t = some (.ins C dx (sayF v1 v2 (.bl q.2.1) (.bl q.2.2.1) (.bl q.2.2.2))) → Q (.ref t) H')
theorem sc_said : FnScope ["one", "other", "word", "both", "first", "second"] ["one", "other", "word"] (defScope s_said) := ⟨rfl, rfl, rfl, by decide +kernel, rfl, by decide +kernel, by decide +kernel⟩
theorem ok_x_said {f : Addr} {fd : FuncData} (F : Fun K "said" "said" s_said f fd) (m_isinstance : mg "isinstance" = none) (m_str : mg "str" = none) {D : Addr} (W : WordsAt K w D) (g_WORDS : ∃ u, mg "WORDS" = some u ∧ RelV (.ref D) u)
    (c_BadSaying : ExcOne P w K mg base 1 "BadSaying" "part" CB) (c_Saying : MakKX P w K mg base 4 2 "Saying" C (spSay C CB) ["both", "first", "second"] (fun vs zs => vs ++ zs)) : FnOk P w K mg base (L2.CX P w) 6 f fd ["one", "other", "word"] (spSaid K C CB) := by
  refine F.okX sc_said (fun vs H Q E h => ?_) (fun cdv A outer s H vs Q E hr h => ?_)
  · obtain ⟨v1, v2, v3, rfl, _⟩ := h; rfl
  · obtain ⟨v1, v2, v3, rfl, h⟩ := h
    have hu := hu_of hr
    obtain ⟨es, n, kd⟩ := W.kd
    refine ⟨_, (pss_cons (ps_if (PW.pt (pw_or (pt_not (pt_val (pe_callB call_isi (by rfl) m_isinstance (by decide +kernel) (pa_cons (pv 2) (pa_cons (pe_bltn (v := .ty "str") (u := .type "str") rfl m_str (by decide +kernel) rfl) pa_nil))))) (pw_or1 (pt_cmpR (op_notIn_kd kd) (pv 2) (C8.pe_gc rfl g_WORDS) rfl)))) (pss_one (ps_raiseG rfl (takes_of rfl rfl rfl rfl) c_BadSaying.at_ hr (by decide) rfl (pa_cons pe_str pa_nil))) pss_nil)
      (pss_cons (ps_asg (pe_ix ix_kdict (C8.pe_gc rfl g_WORDS) (pv 2) (fun _ _ => rfl)) (pg_tup rfl (pgs_cons (pg_name (i := 3) sc_said.nd rfl (Or.inl rfl)) (pgs_cons (pg_name (i := 4) sc_said.nd rfl (Or.inl rfl)) (pgs_cons (pg_name (i := 5) sc_said.nd rfl (Or.inl rfl)) pgs_nil)))))
      (pss_one (ps_ret (pe_mkKX c_Saying (takes_of rfl rfl rfl rfl) hr (by decide) rfl (pa_cons (pv 0) (pa_cons (pv 1) pa_nil)) (pk_cons (pv 3) (pk_cons (pv 4) (pk_cons (pv 5) pk_nil)))))))), ?_⟩
    have bad : OutOne H CB "part" (.str "word") E → ∀ (x : Addr), H x = none → spOne K "part" [V.ref x, V.str "word"] (upd H x (exo x CB none)) (fun v H2 => v = .non ∧ ∃ (d : Addr) (fs : List (Str × V)), H2 x = some (exo x CB (some d)) ∧ H2 d = some (exd d fs) ∧ H d = none ∧ E (.ref CB) (some d) (upd (del H2 x) d (.xd fs))) (fun _ _ _ => False) := fun kb x hx =>
      ⟨x, CB, _, rfl, upd_same, c_BadSaying.at_.cls, c_BadSaying.plain, fun dx h1 h2 => ⟨rfl, out_one kb hx h1 h2⟩⟩
    rcases h with ⟨⟨z, rfl, hz⟩ | ⟨t, ht, hk⟩, kb⟩ | ⟨q, d1, d2, hq, rfl, o1, o2, due, k⟩
    · refine ⟨_, rfl, _, _, _, _, true, rfl, .ty _, .base (.str _), kit_ty (by decide +kernel), _, rfl, iteF ?_⟩
      refine ⟨_, rfl, z, none, rfl, rfl, W.no z hz, _, rfl, iteT ?_⟩
      exact ⟨by show 1 ≤ 1000; decide, fun x hx => bad kb x hx⟩
    · refine ⟨_, rfl, _, _, _, _, false, rfl, .ty _, ht, hk, _, rfl, iteT (iteT ?_)⟩
      exact ⟨by show 1 ≤ 1000; decide, fun x hx => bad kb x hx⟩
    · obtain ⟨tw, hw, hs⟩ := W.at_ q hq
      refine ⟨_, rfl, _, _, _, _, true, rfl, .ty _, .base (.str _), kit_ty (by decide +kernel), _, rfl, iteF ?_⟩
      refine ⟨_, rfl, q.1, some (.ref tw), rfl, rfl, hw, _, rfl, iteF ?_⟩
      obtain ⟨kl, ks, _⟩ := kd
      refine ⟨_, rfl, D, q.1, .ref tw, rfl, rfl, ⟨es, n, .ref tw, kl, ks, hw, rfl⟩, ?_⟩
      refine ⟨tw, _, rfl, hs H, rfl, _, _, rfl, _, _, rfl, _, _, rfl, rfl, ?_⟩
      refine ⟨_, rfl, _, rfl, _, rfl, _, rfl, _, rfl, rfl, rfl, fun x dx nx ndx ne => ?_⟩
      have sm : Same H (upd (upd H dx (.own x)) x (.ins C dx [])) := (Same.new ndx).trans (Same.new (by rw [upd_ne ne.symm]; exact nx))
      refine ⟨x, dx, v1, v2, _, _, _, d1, d2, _, _, _, rfl, upd_same, o1.to (Ke.of sm), o2.to (Ke.of sm), .bl _, .bl _, .bl _, fun part e => ?_, fun _ H' s' h' => ⟨rfl, k H' x dx (fun a o e => ?_) nx h'⟩⟩
      · rw [due] at e; cases e
      · exact s' a o (ne_of_none e nx) (sm a o e)
end
end KN


set_option Elab.async false
set_option linter.all false
set_option maxRecDepth 100000
set_option maxHeartbeats 4000000
namespace KN
open PySem PySem.Spec PyProof.Rows L2
/-! ### t > u of two moments -/
def rGtM (K : PySem.W.Frag) : R2 := fun x y H Q => ∃ (a b : Addr) (m u : Mo), x = .ref a ∧ y = .ref b ∧ SqT K H a [.int m.1, .int m.2] ∧ SqT K H b [.int u.1, .int u.2] ∧ Q (.bl (decide (mLt u m))) H
theorem gt2 (m u : Mo) : Ob.lexAt (fun j => decide (([m.1, m.2] : List Int).getD j 0 = ([u.1, u.2] : List Int).getD j 0)) (fun j => decide (([u.1, u.2] : List Int).getD j 0 < ([m.1, m.2] : List Int).getD j 0)) (decide (([m.1, m.2] : List Int).length > ([u.1, u.2] : List Int).length)) 0 (min ([m.1, m.2] : List Int).length ([u.1, u.2] : List Int).length) = decide (mLt u m) := by
  show Ob.lexAt _ _ _ 0 2 = _
  rw [Ob.lexAt_succ, Ob.lexAt_succ, Ob.lexAt_zero]
  simp only [List.getD_cons_zero, List.getD_cons_succ, List.length_cons, List.length_nil]
  unfold mLt
  by_cases h1 : m.1 = u.1
  · rw [decide_eq_true h1, if_pos rfl]
    by_cases h2 : m.2 = u.2
    · rw [decide_eq_true h2, if_pos rfl]
      rw [decide_eq_false (by omega : ¬ (0 + 1 + 1 > 0 + 1 + 1))]
      exact (decide_eq_false (by omega)).symm
    · rw [decide_eq_false h2, if_neg (by decide)]
      by_cases h3 : u.2 < m.2
      · rw [decide_eq_true h3]; exact (decide_eq_true (by omega)).symm
      · rw [decide_eq_false h3]; exact (decide_eq_false (by omega)).symm
  · rw [decide_eq_false h1, if_neg (by decide)]
    by_cases h3 : u.1 < m.1
    · rw [decide_eq_true h3]; exact (decide_eq_true (by omega)).symm
    · rw [decide_eq_false h3]; exact (decide_eq_false (by omega)).symm
theorem op_gtM {X : Cx} (hu : X.A.units < cLine) : OpR X (compareOp .Gt) (rGtM X.K) := by
  intro pins s σ H x y v u Q I rx ry h
  obtain ⟨a, b, m, um, rfl, rfl, ha', hb', q⟩ := h
  have ha : SqT X.K H a (([m.1, m.2] : List Int).map V.int) := ha'
  have hb : SqT X.K H b (([um.1, um.2] : List Int).map V.int) := hb'
  rw [← gt2] at q
  generalize ([m.1, m.2] : List Int) = ns at ha q
  generalize ([um.1, um.2] : List Int) = ms at hb q
  cases rx
  cases ry
  obtain ⟨its, r1, p1, _⟩ := I.tuple ha
  obtain ⟨its2, r2, p2, _⟩ := I.tuple hb
  have i1 : IntsAre its ns := Vals.ints r1
  have i2 : IntsAre its2 ms := Vals.ints r2
  have e1 : its.toArray.size = ns.length := by rw [List.size_toArray]; exact i1.length
  have e2 : its2.toArray.size = ms.length := by rw [List.size_toArray]; exact i2.length
  have at1 : ∀ j (h1 : j < its.toArray.size), ∃ t, its.toArray[j] = .int (ns.getD j 0) t := fun j h1 => PyProof.Rows.IntsAre.int_at i1 _ _ (by simp at h1; simp [h1])
  have at2 : ∀ j (h1 : j < its2.toArray.size), ∃ t, its2.toArray[j] = .int (ms.getD j 0) t := fun j h1 => PyProof.Rows.IntsAre.int_at i2 _ _ (by simp at h1; simp [h1])
  have R := Ob.RcOp.tuples_gt (A := X.A) (s := s) (e := fun j => decide (ns.getD j 0 = ms.getD j 0)) (r := fun j => decide (ms.getD j 0 < ns.getD j 0)) p1 p2 hu (fun j h1 h2 => by
    obtain ⟨t, et⟩ := at1 j h1
    obtain ⟨t', et'⟩ := at2 j h2
    rw [et, et']
    have z : (ns.getD j 0 == ms.getD j 0) = decide (ns.getD j 0 = ms.getD j 0) := by
      by_cases q : ns.getD j 0 = ms.getD j 0
      · rw [decide_eq_true q]; exact beq_iff_eq.mpr q
      · rw [decide_eq_false q]; exact beq_eq_false_iff_ne.mpr q
    rw [← z]
    exact SeqAt.EqAt.int_int _ _ _ _) (fun j h1 h2 _ => by
    obtain ⟨t, et⟩ := at1 j h1
    obtain ⟨t', et'⟩ := at2 j h2
    rw [et, et']
    exact Ob.RcOp.gt_int _ _ _ _)
  rw [e1, e2] at R
  have z : wpAny (model X.prog X.w) X.A (compareOp .Gt (.ref a) (.ref b)) (EP X pins σ Q) X.xe s := R X.prog X.w X.xe (EP X pins σ Q) ⟨.bl _, H, I, rfl, q⟩
  exact z
end KN
namespace KN
open PySem PySem.Spec PyProof.Rows L2
/-! ### the same rules with the written part by name: for a comprehension's block -/
section
variable {X : Cx}
theorem pe_fldK (K : PySem.W.Frag) {e : Expr} {f : Str} {pos : Pos} {ta : TE} (he : PE X e ta) (hb : attributeBase e f X.env (eval e X.env) = eval e X.env) (h : X.K = K := by rfl) : PE X (.Attribute e f pos) (tFld K ta f) := by
  subst h; exact pe_fld he hb
theorem ix_tupK (K : PySem.W.Frag) (h : X.K = K := by rfl) : IxR X (rIxT K) := by subst h; exact ix_tup
theorem ix_listK (K : PySem.W.Frag) (h : X.K = K := by rfl) : IxR X (rIxL K) := by subst h; exact ix_list
theorem sl_tupAK (K : PySem.W.Frag) (h : X.K = K := by rfl) : SlR X (rSlA K) := by subst h; exact sl_tupA
theorem op_eqDK (K : PySem.W.Frag) (hu : X.A.units + 64 < cLine) (h : X.K = K := by rfl) : OpR X (compareOp .Eq) (rEqD K) := by subst h; exact op_eqD hu
theorem op_inDK (K : PySem.W.Frag) (hu : X.A.units + 65 < cLine) (h : X.K = K := by rfl) : OpR X (compareOp .In) (rInD K) := by subst h; exact op_inD hu
theorem op_notInDK (K : PySem.W.Frag) (hu : X.A.units + 65 < cLine) (h : X.K = K := by rfl) : OpR X (compareOp .NotIn) (rNotInD K) := by subst h; exact op_notInD hu
theorem op_leTK (K : PySem.W.Frag) (hu : X.A.units < cLine) (h : X.K = K := by rfl) : OpR X (compareOp .LtE) (rLeT K) := by subst h; exact op_leT hu
theorem op_ltTK (K : PySem.W.Frag) (hu : X.A.units < cLine) (h : X.K = K := by rfl) : OpR X (compareOp .Lt) (rLtT K) := by subst h; exact op_ltT hu
end
theorem u65 {k : Nat} {A : Around} (r : Room k A) : A.units + 65 < cLine := by have := r.un; omega
end KN

set_option Elab.async false
set_option linter.all false
set_option maxRecDepth 100000
set_option maxHeartbeats 4000000
namespace KN
open PySem L2
/-! The law's own look at nodes, sides, parts. -/
theorem call_isiK {X : Cx} (K : PySem.W.Frag) (h : X.K = K := by rfl) : CallR X (.builtin "isinstance") (rIsi K) := by subst h; exact call_isi
theorem depthStrs : ∀ ss : List Str, PyData.depthAll (ss.map PyData.str) ≤ 1
  | [] => by simp [PyData.depthAll]
  | s :: ss => by have := depthStrs ss; simp [PyData.depthAll, PyData.depth]; omega
theorem layStrs : ∀ {ss : List Str}, (∀ s ∈ ss, PyData.strOk s = true) → PyData.canLayAll0 (ss.map PyData.str) = true
  | [], _ => rfl
  | s :: ss, h => by
    have h1 := h s List.mem_cons_self
    have h2 := layStrs fun x hx => h x (List.mem_cons_of_mem _ hx)
    simp only [List.map_cons, PyData.canLayAll0, PyData.canLay0, h1, h2, Bool.and_self]
theorem shapedStrs {ss : List Str} (h : ∀ s ∈ ss, PyData.strOk s = true) : SeqAt.shaped (.list (ss.map PyData.str)) = true := by
  have h1 := layStrs h
  have h2 := depthStrs ss
  show (PyData.canLay0 (.list (ss.map PyData.str)) && decide (PyData.depth (.list (ss.map PyData.str)) ≤ 64)) = true
  rw [Bool.and_eq_true]
  exact ⟨by simp only [PyData.canLay0]; exact h1, decide_eq_true (by simp only [PyData.depth]; omega)⟩
section
variable {P : Program} {w : World} {K : PySem.W.Frag} {mg : Str → Option Value} {base : Heap} {C CB : Addr}
theorem sc__law_is_node : FnScope ["_law_thing", "_law_letters", "_law_sign"] ["_law_thing"] (defScope s__law_is_node) := ⟨rfl, rfl, rfl, by decide +kernel, rfl, by decide +kernel, by decide +kernel⟩
theorem ok__law_is_node {f : Addr} {fd : FuncData} (F : Fun K "_law_is_node" "_law_is_node" s__law_is_node f fd) (m_isinstance : mg "isinstance" = none) (m_tuple : mg "tuple" = none) (m_str : mg "str" = none) (m_int : mg "int" = none) (m_bool : mg "bool" = none) (m_len : mg "len" = none) : FnOk P w K mg base CX0 1 f fd ["_law_thing"] spNodeB := by
  refine F.ok sc__law_is_node (fun vs H Q E h => ?_) (fun cdv A outer s H vs Q E hr h => ?_)
  · obtain ⟨v, d, rfl, _⟩ := h; rfl
  · obtain ⟨v, d, rfl, ob, k⟩ := h
    refine ⟨_, (pss_cons (ps_if (PW.pt (pw_or (pt_not (pt_val (pe_callB call_isi (by rfl) m_isinstance (by decide +kernel) (pa_cons (pv 0) (pa_cons (pe_bltn (v := .ty "tuple") (u := .type "tuple") rfl m_tuple (by decide +kernel) rfl) pa_nil))))) (pw_or (pt_cmpR op_ne (pe_callB call_len_seq (by rfl) m_len (by decide +kernel) (pa_cons (pv 0) pa_nil)) pe_int (nomark _)) (pw_or1 (pt_not (pt_val (pe_callB call_isi (by rfl) m_isinstance (by decide +kernel) (pa_cons (pe_ix ix_tup (pv 0) pe_int (fun _ _ => rfl)) (pa_cons (pe_bltn (v := .ty "str") (u := .type "str") rfl m_str (by decide +kernel) rfl) pa_nil))))))))) (pss_one (ps_ret pe_bl)) pss_nil)
      (pss_cons (ps_if (PW.pt (pw_or (pt_not (pt_val (pe_callB call_isi (by rfl) m_isinstance (by decide +kernel) (pa_cons (pe_ix ix_tup (pv 0) pe_int (fun _ _ => rfl)) (pa_cons (pe_bltn (v := .ty "int") (u := .type "int") rfl m_int (by decide +kernel) rfl) pa_nil))))) (pw_or (pt_val (pe_callB call_isi (by rfl) m_isinstance (by decide +kernel) (pa_cons (pe_ix ix_tup (pv 0) pe_int (fun _ _ => rfl)) (pa_cons (pe_bltn (v := .ty "bool") (u := .type "bool") rfl m_bool (by decide +kernel) rfl) pa_nil)))) (pw_or1 (pt_not (pt_chain op_le op_le pe_int (pe_ix ix_tup (pv 0) pe_int (fun _ _ => rfl)) pe_int)))))) (pss_one (ps_ret pe_bl)) pss_nil)
      (pss_cons (ps_set (i := 1) sc__law_is_node.nd rfl (Or.inr rfl) pe_str)
      (pss_one (ps_ret (pe_and (pe_chain op_lt op_lt pe_int (pe_callB call_len_str (by rfl) m_len (by decide +kernel) (pa_cons (pe_ix ix_tup (pv 0) pe_int (fun _ _ => rfl)) pa_nil)) pe_int) (pe_one (pe_cmpR (op_eqD hr.units) (pe_lc (own := [("_law_sign", 2)]) (g := gName 2) rfl sc__law_is_node.nd (pi_str (pe_ix ix_tup (pv 0) pe_int (fun _ _ => rfl))) (blkOk_by (own := [("_law_sign", 2)]) (N := ["_law_thing", "_law_letters", "_law_sign"]) (sc := defScope s__law_is_node) (by decide +kernel)) (fun _ _ _ _ _ => pg_name (i := 2) sc__law_is_node.nd rfl (Or.inl rfl)) (fun _ _ _ _ _ => (pts_one (pt_cmpR op_notIn_sign (pv 2) (pv 1) rfl))) (fun _ _ _ _ _ => (pv 2))) (pe_lst pa_nil) (nomark _))))))))), ?_⟩
    obtain ⟨t, S⟩ := ob.sort (K := K)
    refine ⟨_, rfl, _, _, _, _, _, rfl, .ty _, S.ty, S.tp, _, rfl, ?_⟩
    cases et : isTp d with
    | false =>
      refine iteT ?_
      have e : nodeB d = false := by cases d <;> first | rfl | cases et
      refine iteT ?_
      rw [← e]; exact k H (Same.refl H)
    | true =>
      obtain ⟨a, xs, ds, rfl, rfl, ha, hs⟩ := ob.of_tp et
      refine iteF ?_
      refine ⟨_, rfl, _, _, rfl, .inr (SqT.of ha), rfl, _, rfl, ?_⟩
      by_cases h2 : xs.length = 2
      · obtain ⟨x, y, d1, d2, rfl, rfl, o1, o2⟩ := two_of hs h2
        refine iteF ?_
        obtain ⟨t2, S2⟩ := o2.sort (K := K)
        obtain ⟨t1, S1⟩ := o1.sort (K := K)
        have fin : ∀ {b : Bool}, (numB 0 5 d1 && wordB d2) = b → Q (.bl b) H := fun e => by rw [← e]; exact k H (Same.refl H)
        refine ⟨_, rfl, _, _, _, _, rfl, rfl, SqT.of ha, at_of (j := 1) rfl rfl, _, _, _, _, _, rfl, .ty _, S2.ty, S2.st, _, rfl, ?_⟩
        cases e2 : isSt d2 with
        | false =>
          have ew : wordB d2 = false := by cases d2 <;> first | rfl | cases e2
          exact iteT (fin (by rw [ew, Bool.and_false]))
        | true =>
          refine iteF ?_
          refine ⟨_, rfl, _, _, _, _, rfl, rfl, SqT.of ha, at_of (j := 0) rfl rfl, _, _, _, _, _, rfl, .ty _, S1.ty, S1.int, _, rfl, ?_⟩
          cases o2 with
          | str z hz =>
            cases o1 with
            | int i =>
              refine iteF ?_
              refine ⟨_, rfl, _, _, _, _, rfl, rfl, SqT.of ha, at_of (j := 0) rfl rfl, _, _, _, _, _, rfl, .ty _, S1.ty, S1.bo, _, rfl, iteF ?_⟩
              refine ⟨_, rfl, _, _, _, _, rfl, rfl, SqT.of ha, at_of (j := 0) rfl rfl, ?_⟩
              have go : (0 ≤ i ∧ i ≤ 5) ∨ ¬ (0 ≤ i ∧ i ≤ 5) := Decidable.em _
              rcases go with ⟨g1, g2⟩ | g
              · refine ⟨_, _, rfl, rfl, _, rfl, ?_⟩
                rw [decide_eq_true g1]
                refine iteT ⟨_, _, rfl, rfl, _, rfl, ?_⟩
                rw [decide_eq_true g2]
                refine iteF ?_
                have en : numB 0 5 (.int i) = true := by show (decide ((0 : Int) ≤ i) && decide (i ≤ 5)) = true; rw [decide_eq_true g1, decide_eq_true g2]; rfl
                rw [en] at fin
                have fin2 : ∀ {H' : Hp} {b : Bool}, Same H H' → isWB z = b → Q (.bl b) H' := fun s1 e => by
                  have := k _ s1
                  rw [show nodeB (.tuple [.int i, .str z]) = isWB z from by show (numB 0 5 (.int i) && isWB z) = _; rw [en]; rfl, e] at this
                  exact this
                refine ⟨_, rfl, _, _, _, _, rfl, rfl, SqT.of ha, at_of (j := 1) rfl rfl, z, rfl, Nat.le_trans hz.1 (by decide), ?_⟩
                refine ⟨_, _, rfl, rfl, _, rfl, ?_⟩
                by_cases l1 : 0 < z.length
                · rw [show decide ((0 : Int) < (z.length : Int)) = true from decide_eq_true (by omega)]
                  refine iteT ⟨_, _, rfl, rfl, _, rfl, ?_⟩
                  by_cases l2 : z.length < 13
                  · rw [show decide ((z.length : Int) < 13) = true from decide_eq_true (by omega)]
                    refine iteT ?_
                    refine ⟨_, rfl, _, _, _, _, rfl, rfl, SqT.of ha, at_of (j := 1) rfl rfl, _, rfl, fun D hD => ?_⟩
                    refine lc_it walk_str (fun i H' => Same H H' ∧ ∃ ss : List Str, H' D = some (.lst (ss.map V.str)) ∧ ss.length ≤ i ∧ (∀ s ∈ ss, PyData.strOk s = true) ∧ (ss = [] ↔ ((tl z).take i).all (fun c => decide (c ∈ tl letters)) = true))
                      ⟨Same.new hD, [], upd_same, Nat.le_refl _, (fun s h => by cases h), by simp⟩ (fun _ _ _ _ => trivial) ?_ ?_
                    · rintro j x H1 H2 hj ⟨s1, ss, e1, e2, e4, e3⟩ ⟨rfl, c, hc, rfl⟩
                      have hc' : (tl z)[j]? = some c := by show z.cps.toList[j]? = _; rw [Array.getElem?_toList]; exact hc
                      have hj' : j < 13 := by
                        have := (List.getElem?_eq_some_iff.mp hc').1
                        have := slen z
                        omega
                      have ea : ((tl z).take (j + 1)).all (fun c => decide (c ∈ tl letters)) = (((tl z).take j).all (fun c => decide (c ∈ tl letters)) && decide (c ∈ tl letters)) := by
                        rw [List.take_add_one, hc', Option.toList_some, List.all_append]
                        simp
                      refine ⟨rfl, _, rfl, _, rfl, c, _, rfl, rfl, _, rfl, ?_⟩
                      by_cases hin : c ∈ tl letters
                      · rw [show decide (c ∈ (Str.ofString "abcdefghijklmnopqrstuvwxyz").cps.toList) = true from decide_eq_true hin]
                        refine iteF ⟨s1, ss, e1, by omega, e4, ?_⟩
                        rw [ea, decide_eq_true hin, Bool.and_true]; exact e3
                      · rw [show decide (c ∈ (Str.ofString "abcdefghijklmnopqrstuvwxyz").cps.toList) = false from decide_eq_false hin]
                        refine iteT ⟨_, rfl, _, e1, by rw [List.length_map]; exact small1000 (by omega), fun b o e => ?_, ss ++ [⟨#[c]⟩], by rw [upd_same, List.map_append]; rfl, by rw [List.length_append, List.length_singleton]; omega, fun s h => ?_, ?_⟩
                        · rw [upd_ne (ne_of_none e hD)]; exact s1 _ _ e
                        · rcases List.mem_append.mp h with h | h
                          · exact e4 s h
                          · rw [List.mem_singleton] at h
                            subst h
                            have hz2 : z.cps.all (· < 0x110000) = true := hz.2
                            have hm : c ∈ z.cps := Array.mem_of_getElem? hc
                            show (#[c] : Array Nat).all (· < 0x110000) = true
                            have := (Array.all_eq_true_iff_forall_mem.mp hz2) c hm
                            simpa using this
                        · rw [ea, decide_eq_false hin, Bool.and_false]
                          exact ⟨fun h => by simp at h, fun h => by cases h⟩
                    · rintro H1 ⟨s1, ss, e1, e2, e4, e3⟩
                      rw [show z.cps.size = (tl z).length from (Array.length_toList).symm, List.take_of_length_le (Nat.le_refl _)] at e3
                      refine ⟨by show 0 ≤ sizeLine; decide, fun l hl => ?_⟩
                      have sl := Same.new (o := .lst []) hl
                      have ld : Ls (upd H1 l (.lst [])) D (ss.map PyData.str) := ⟨_, sl _ _ e1, TpAll.strs ss⟩
                      have le : Ls (upd H1 l (.lst [])) l [] := ⟨_, upd_same, .nil⟩
                      refine ⟨_, _, ld.dp, le.dp, shapedStrs e4, rfl, ?_⟩
                      refine fin2 (s1.trans sl) ?_
                      unfold isWB
                      rw [decide_eq_true (by omega : 1 ≤ z.length), decide_eq_true (by omega : z.length ≤ 12), Bool.true_and, Bool.true_and]
                      cases ss with
                      | nil => rw [e3.mp rfl]; rfl
                      | cons x ss =>
                        cases ea : (tl z).all fun c => decide (c ∈ tl letters) with
                        | true => exact absurd (e3.mpr ea) (by simp)
                        | false => rfl
                  · rw [show decide ((z.length : Int) < 13) = false from decide_eq_false (by omega)]
                    refine iteF ?_
                    exact fin2 (Same.refl H) (by unfold isWB; rw [decide_eq_false (by omega : ¬ z.length ≤ 12), Bool.and_false]; rfl)
                · rw [show decide ((0 : Int) < (z.length : Int)) = false from decide_eq_false (by omega)]
                  refine iteF ?_
                  refine ⟨_, rfl, iteF ?_⟩
                  exact fin2 (Same.refl H) (by unfold isWB; rw [decide_eq_false (by omega : ¬ 1 ≤ z.length)]; rfl)
              · have en : numB 0 5 (.int i) = false := by
                  show (decide ((0 : Int) ≤ i) && decide (i ≤ 5)) = false
                  by_cases g1 : 0 ≤ i
                  · rw [decide_eq_false (fun q => g ⟨g1, q⟩ : ¬ i ≤ 5), Bool.and_false]
                  · rw [decide_eq_false g1]; rfl
                rw [en] at fin
                refine ⟨_, _, rfl, rfl, _, rfl, ?_⟩
                refine ite2 (fun g1 => ?_) (fun g1 => ?_)
                · have g1' := of_decide_eq_true g1
                  refine ⟨_, _, rfl, rfl, _, rfl, ?_⟩
                  rw [show decide (i ≤ 5) = false from decide_eq_false (fun q => g ⟨g1', q⟩)]
                  refine iteT ?_
                  exact fin rfl
                · refine ⟨_, rfl, ?_⟩
                  refine iteT ?_
                  exact fin rfl
            | bl b =>
              refine iteF ?_
              refine ⟨_, rfl, _, _, _, _, rfl, rfl, SqT.of ha, at_of (j := 0) rfl rfl, _, _, _, _, _, rfl, .ty _, S1.ty, S1.bo, _, rfl, iteT ?_⟩
              first | exact fin rfl | exact iteT (fin rfl)
            | _ => first | exact iteT (fin rfl) | exact iteT (iteT (fin rfl))
          | _ => cases e2
      · rw [show decide (V.int (xs.length : Int) = V.int 2) = false from decide_eq_false fun z => by injection z with z; omega]
        refine iteT ?_
        have e : nodeB (.tuple ds) = false := nodeB_not (by rw [← hs.len]; exact h2)
        first | (rw [← e]; exact k H (Same.refl H)) | (refine iteT ?_; rw [← e]; exact k H (Same.refl H))
def spSide3 : Sp := fun vs H Q _ => ∃ (v : V) (d : PyData), vs = [v] ∧ Ob H v d ∧ ∀ H', Same H H' → Q (.bl (sideB 3 d)) H'
theorem sc__law_is_side : FnScope ["_law_thing"] ["_law_thing"] (defScope s__law_is_side) := ⟨rfl, rfl, rfl, by decide +kernel, rfl, by decide +kernel, by decide +kernel⟩
theorem ok__law_is_side {f : Addr} {fd : FuncData} (F : Fun K "_law_is_side" "_law_is_side" s__law_is_side f fd) (m_isinstance : mg "isinstance" = none) (m_tuple : mg "tuple" = none) (m_int : mg "int" = none) (m_bool : mg "bool" = none) (m_len : mg "len" = none)
    (c__law_is_node : C8.Cal P w K mg base 1 "_law_is_node" spNodeB []) : FnOk P w K mg base CX0 2 f fd ["_law_thing"] spSide3 := by
  refine F.ok sc__law_is_side (fun vs H Q E h => ?_) (fun cdv A outer s H vs Q E hr h => ?_)
  · obtain ⟨v, d, rfl, _⟩ := h; rfl
  · obtain ⟨v, d, rfl, ob, k⟩ := h
    refine ⟨_, (pss_cons (ps_if (PW.pt (pw_or (pt_not (pt_val (pe_callB call_isi (by rfl) m_isinstance (by decide +kernel) (pa_cons (pv 0) (pa_cons (pe_bltn (v := .ty "tuple") (u := .type "tuple") rfl m_tuple (by decide +kernel) rfl) pa_nil))))) (pw_or (pt_cmpR op_ne (pe_callB call_len_seq (by rfl) m_len (by decide +kernel) (pa_cons (pv 0) pa_nil)) pe_int (nomark _)) (pw_or1 (pt_not (pt_val (C8.pe_c c__law_is_node hr (by decide) rfl (pa_cons (pe_ix ix_tup (pv 0) pe_int (fun _ _ => rfl)) pa_nil)))))))) (pss_one (ps_ret pe_bl)) pss_nil)
      (pss_one (ps_ret (pe_and (pe_callB call_isi (by rfl) m_isinstance (by decide +kernel) (pa_cons (pe_ix ix_tup (pv 0) pe_int (fun _ _ => rfl)) (pa_cons (pe_bltn (v := .ty "int") (u := .type "int") rfl m_int (by decide +kernel) rfl) pa_nil))) (pe_and (pe_not (pe_callB call_isi (by rfl) m_isinstance (by decide +kernel) (pa_cons (pe_ix ix_tup (pv 0) pe_int (fun _ _ => rfl)) (pa_cons (pe_bltn (v := .ty "bool") (u := .type "bool") rfl m_bool (by decide +kernel) rfl) pa_nil)))) (pe_one (pe_chain op_le op_le pe_int (pe_ix ix_tup (pv 0) pe_int (fun _ _ => rfl)) pe_int))))))), ?_⟩
    obtain ⟨t, S⟩ := ob.sort (K := K)
    refine ⟨_, rfl, _, _, _, _, _, rfl, .ty _, S.ty, S.tp, _, rfl, ?_⟩
    cases et : isTp d with
    | false =>
      have e : sideB 3 d = false := by cases d <;> first | rfl | cases et
      refine iteT (iteT ?_)
      rw [← e]; exact k H (Same.refl H)
    | true =>
      obtain ⟨a, xs, ds, rfl, rfl, ha, hs⟩ := ob.of_tp et
      refine iteF ?_
      refine ⟨_, rfl, _, _, rfl, .inr (SqT.of ha), rfl, _, rfl, ?_⟩
      by_cases h2 : xs.length = 2
      · obtain ⟨x, y, d1, d2, rfl, rfl, o1, o2⟩ := two_of hs h2
        refine iteF ?_
        refine ⟨_, rfl, _, _, _, _, rfl, rfl, SqT.of ha, at_of (j := 1) rfl rfl, y, d2, rfl, o2, fun H1 s1 => ⟨_, rfl, ?_⟩⟩
        have fin : ∀ {b : Bool}, (numB 0 2 d1 && nodeB d2) = b → Q (.bl b) H1 := fun e => by rw [← e]; exact k H1 s1
        cases en : nodeB d2 with
        | false =>
          rw [en, Bool.and_false] at fin
          exact iteT (fin rfl)
        | true =>
          rw [en, Bool.and_true] at fin
          refine iteF ?_
          obtain ⟨t1, S1⟩ := (o1.to (Ke.of s1)).sort (K := K)
          refine ⟨_, rfl, _, _, _, _, rfl, rfl, SqT.of (s1 _ _ ha), at_of (j := 0) rfl rfl, _, _, _, _, _, rfl, .ty _, S1.ty, S1.int, _, rfl, ?_⟩
          cases o1 with
          | int i =>
            refine iteT ?_
            refine ⟨_, rfl, _, _, _, _, rfl, rfl, SqT.of (s1 _ _ ha), at_of (j := 0) rfl rfl, _, _, _, _, _, rfl, .ty _, S1.ty, S1.bo, _, rfl, _, rfl, iteT ?_⟩
            refine ⟨_, rfl, _, _, _, _, rfl, rfl, SqT.of (s1 _ _ ha), at_of (j := 0) rfl rfl, ?_⟩
            refine ⟨_, _, rfl, rfl, _, rfl, ite2 (fun g1 => ?_) (fun g1 => ?_)⟩
            · refine ⟨_, _, rfl, rfl, ?_⟩
              exact fin (by show (decide ((0 : Int) ≤ i) && decide (i ≤ 2)) = _; rw [g1]; rfl)
            · exact fin (by show (decide ((0 : Int) ≤ i) && decide (i ≤ 2)) = _; rw [Bool.eq_false_iff.mpr g1]; rfl)
          | bl b =>
            refine iteT ?_
            refine ⟨_, rfl, _, _, _, _, rfl, rfl, SqT.of (s1 _ _ ha), at_of (j := 0) rfl rfl, _, _, _, _, _, rfl, .ty _, S1.ty, S1.bo, _, rfl, _, rfl, iteF ?_⟩
            exact fin rfl
          | _ => exact iteF (fin rfl)
      · rw [show decide (V.int (xs.length : Int) = V.int 2) = false from decide_eq_false fun z => by injection z with z; omega]
        have e : sideB 3 (.tuple ds) = false := sideB_not (by rw [← hs.len]; exact h2)
        refine iteT ?_
        first | (rw [← e]; exact k H (Same.refl H)) | (refine iteT ?_; rw [← e]; exact k H (Same.refl H))
def optS (b : Bool) (s : Str) : List Str := if b then [s] else []
def badsTo (p1 p2 p3 : PyData) : Nat → List Str
  | 0 => []
  | 1 => optS (badP p1) "both"
  | 2 => optS (badP p1) "both" ++ optS (badP p2) "first"
  | _ => optS (badP p1) "both" ++ optS (badP p2) "first" ++ optS (badP p3) "second"
theorem bads0 (p1 p2 p3 : PyData) : badsTo p1 p2 p3 1 = if badP p1 then badsTo p1 p2 p3 0 ++ [("both" : Str)] else badsTo p1 p2 p3 0 := by
  unfold badsTo optS; cases badP p1 <;> rfl
theorem bads1 (p1 p2 p3 : PyData) : badsTo p1 p2 p3 2 = if badP p2 then badsTo p1 p2 p3 1 ++ [("first" : Str)] else badsTo p1 p2 p3 1 := by
  unfold badsTo optS; cases badP p1 <;> cases badP p2 <;> rfl
theorem bads2 (p1 p2 p3 : PyData) : badsTo p1 p2 p3 3 = if badP p3 then badsTo p1 p2 p3 2 ++ [("second" : Str)] else badsTo p1 p2 p3 2 := by
  unfold badsTo optS; cases badP p1 <;> cases badP p2 <;> cases badP p3 <;> rfl
theorem bads_len (p1 p2 p3 : PyData) (i : Nat) : (badsTo p1 p2 p3 i).length ≤ 3 := by
  unfold badsTo optS; split <;> cases badP p1 <;> cases badP p2 <;> cases badP p3 <;> simp
theorem bads_end (p1 p2 p3 : PyData) : ((badsTo p1 p2 p3 3).map V.str ++ [V.non])[0]? = some (oStr (unsaid p1 p2 p3)) := by
  unfold badsTo optS unsaid; cases badP p1 <;> cases badP p2 <;> cases badP p3 <;> rfl
def spDue : Sp := fun vs H Q _ => ∃ (a : Addr) (v1 v2 u1 u2 u3 : V) (d1 d2 p1 p2 p3 : PyData), vs = [.ref a] ∧ H a = some (.tup [v1, v2, u1, u2, u3]) ∧ Ob H v1 d1 ∧ Ob H v2 d2 ∧ Ob H u1 p1 ∧ Ob H u2 p2 ∧ Ob H u3 p3 ∧ ∀ H', Same H H' → Q (oStr (dueD d1 d2 p1 p2 p3)) H'
theorem sc__law_due : FnScope ["_law_row", "_law_names", "_law_bad", "_law_k"] ["_law_row"] (defScope s__law_due) := ⟨rfl, rfl, rfl, by decide +kernel, rfl, by decide +kernel, by decide +kernel⟩
theorem ok__law_due {f : Addr} {fd : FuncData} (F : Fun K "_law_due" "_law_due" s__law_due f fd) (m_isinstance : mg "isinstance" = none) (m_bool : mg "bool" = none) (m_range : mg "range" = none)
    (c__law_is_side : C8.Cal P w K mg base 2 "_law_is_side" spSide3 []) : FnOk P w K mg base CX0 3 f fd ["_law_row"] spDue := by
  refine F.ok sc__law_due (fun vs H Q E h => ?_) (fun cdv A outer s H vs Q E hr h => ?_)
  · obtain ⟨a, v1, v2, u1, u2, u3, d1, d2, p1, p2, p3, rfl, _⟩ := h; rfl
  · obtain ⟨a, v1, v2, u1, u2, u3, d1, d2, p1, p2, p3, rfl, ha, o1, o2, q1, q2, q3, k⟩ := h
    refine ⟨_, (pss_cons (ps_if (pt_not (pt_val (C8.pe_c c__law_is_side hr (by decide) rfl (pa_cons (pe_ix ix_tup (pv 0) pe_int (fun _ _ => rfl)) pa_nil)))) (pss_one (ps_ret pe_str)) pss_nil)
      (pss_cons (ps_if (PW.pt (pw_or (pt_not (pt_val (C8.pe_c c__law_is_side hr (by decide) rfl (pa_cons (pe_ix ix_tup (pv 0) pe_int (fun _ _ => rfl)) pa_nil)))) (pw_or1 (pt_cmpR op_eq (pe_ix ix_tup (pe_ix ix_tup (pv 0) pe_int (fun _ _ => rfl)) pe_int (fun _ _ => rfl)) (pe_ix ix_tup (pe_ix ix_tup (pv 0) pe_int (fun _ _ => rfl)) pe_int (fun _ _ => rfl)) (nomark _))))) (pss_one (ps_ret pe_str)) pss_nil)
      (pss_cons (ps_set (i := 1) sc__law_due.nd rfl (Or.inr rfl) (pe_lst (pa_cons pe_str (pa_cons pe_str (pa_cons pe_str pa_nil)))))
      (pss_cons (ps_setLc (i := 2) (own := [("_law_k", 3)]) (g := gName 3) rfl sc__law_due.nd rfl rfl (sw_true rfl rfl rfl (by decide +kernel)) (pi_range1 rfl m_range (pa_cons pe_int pa_nil)) (blkOk_by (own := [("_law_k", 3)]) (N := ["_law_row", "_law_names", "_law_bad", "_law_k"]) (sc := defScope s__law_due) (by decide +kernel)) (fun _ _ _ _ _ => pg_name (i := 3) sc__law_due.nd rfl (Or.inl rfl)) (fun _ _ _ _ _ => (pts_one (PW.pt (pw_and (pt_cmpR op_notN (pe_ix (ix_tupK K) (pv 0) (pe_op op_add pe_int (pv 3)) (fun _ _ => rfl)) pe_non (nomark _)) (pw_and1 (pt_not (pt_val (pe_callB (call_isiK K) (by rfl) m_isinstance (by decide +kernel) (pa_cons (pe_ix (ix_tupK K) (pv 0) (pe_op op_add pe_int (pv 3)) (fun _ _ => rfl)) (pa_cons (pe_bltn (v := .ty "bool") (u := .type "bool") rfl m_bool (by decide +kernel) rfl) pa_nil)))))))))) (fun _ _ _ _ _ => (pe_ix (ix_listK K) (pv 1) (pv 3) (fun _ _ => rfl))))
      (pss_one (ps_ret (pe_ix ix_list (pe_op op_cat (pv 2) (pe_lst (pa_cons pe_non pa_nil))) pe_int (fun _ _ => rfl)))))))), ?_⟩
    refine ⟨_, rfl, _, _, _, _, rfl, rfl, SqT.of ha, at_of (j := 0) rfl rfl, v1, d1, rfl, o1, fun H1 s1 => ⟨_, rfl, ?_⟩⟩
    cases e1 : sideB 3 d1 with
    | false =>
      have due : dueD d1 d2 p1 p2 p3 = some ("one" : Str) := if_pos e1
      rw [due] at k
      exact iteT (k H1 s1)
    | true =>
      refine iteF ?_
      have ha1 := s1 _ _ ha
      refine ⟨_, rfl, _, _, _, _, rfl, rfl, SqT.of ha1, at_of (j := 1) rfl rfl, v2, d2, rfl, o2.to (Ke.of s1), fun H2 s2 => ⟨_, rfl, ?_⟩⟩
      have s12 := s1.trans s2
      have ha2 := s12 _ _ ha
      cases e2 : sideB 3 d2 with
      | false =>
        have due : dueD d1 d2 p1 p2 p3 = some ("other" : Str) := by unfold dueD; rw [if_neg (by rw [e1]; decide), if_pos (.inl e2)]
        rw [due] at k
        exact iteT (iteT (k H2 s12))
      | true =>
        refine iteF ?_
        obtain ⟨a1, i1, x1, y1, rfl, hb1, rfl, _, _, _, _⟩ := side_of o1 e1
        obtain ⟨a2, i2, x2, y2, rfl, hb2, rfl, _, _, _, _⟩ := side_of o2 e2
        refine ⟨_, rfl, _, _, _, _, rfl, rfl, SqT.of ha2, at_of (j := 0) rfl rfl, _, _, _, _, rfl, rfl, SqT.of (s12 _ _ hb1), at_of (j := 0) rfl rfl, _, rfl, _, _, _, _, rfl, rfl, SqT.of ha2, at_of (j := 1) rfl rfl, _, _, _, _, rfl, rfl, SqT.of (s12 _ _ hb2), at_of (j := 0) rfl rfl, rfl, _, rfl, ?_⟩
        by_cases ei : i1 = i2
        · subst ei
          have due : dueD (.tuple [.int i1, y1]) (.tuple [.int i1, y2]) p1 p2 p3 = some ("other" : Str) := by unfold dueD; rw [if_neg (by rw [e1]; decide), if_pos (.inr rfl)]
          rw [due] at k
          rw [decide_eq_true (rfl : V.int i1 = V.int i1)]
          exact iteT (k H2 s12)
        · have due : dueD (.tuple [.int i1, y1]) (.tuple [.int i2, y2]) p1 p2 p3 = unsaid p1 p2 p3 := by
            unfold dueD
            rw [if_neg (by rw [e1]; decide), if_neg]
            rintro (z | z)
            · rw [e2] at z; cases z
            · exact ei (Option.some.inj z).symm
          rw [due] at k
          rw [decide_eq_false (fun z => ei (V.int.inj z) : ¬ V.int i1 = V.int i2)]
          refine iteF ?_
          refine ⟨by show 3 ≤ sizeLine; decide, fun l hl => ?_⟩
          have s3 : Same H (upd H2 l (.lst [.str "both", .str "first", .str "second"])) := s12.trans (Same.new hl)
          have el := upd_same (H := H2) (a := l) (o := .lst [.str "both", .str "first", .str "second"])
          generalize upd H2 l (.lst [.str "both", .str "first", .str "second"]) = H3 at s3 el ⊢
          have ha3 := s3 _ _ ha
          refine ⟨3, rfl, by decide, by decide, fun D hD => ?_⟩
          refine lc_range (lo := 0) (n := 3) (fun i H' => Same H3 H' ∧ H' D = some (.lst ((badsTo p1 p2 p3 i).map V.str))) ⟨Same.new hD, upd_same⟩ ?_ ?_
          · rintro i H4 hi ⟨s4, e4⟩
            obtain ⟨v, p, nm, hv, ob, hnm, hb⟩ : ∃ (v : V) (p : PyData) (nm : Str), ([V.ref a1, V.ref a2, u1, u2, u3] : List V)[2 + i]? = some v ∧ Ob H v p ∧ ([V.str "both", V.str "first", V.str "second"] : List V)[i]? = some (.str nm) ∧ badsTo p1 p2 p3 (i + 1) = if badP p then badsTo p1 p2 p3 i ++ [nm] else badsTo p1 p2 p3 i := by
              match i, hi with
              | 0, _ => exact ⟨u1, p1, "both", rfl, q1, rfl, bads0 _ _ _⟩
              | 1, _ => exact ⟨u2, p2, "first", rfl, q2, rfl, bads1 _ _ _⟩
              | 2, _ => exact ⟨u3, p3, "second", rfl, q3, rfl, bads2 _ _ _⟩
              | _ + 3, hi => omega
            have ha4 := s4 _ _ ha3
            have hil : i < 3 := hi
            have blen := bads_len p1 p2 p3 i
            have skip : badP p = false → Same H3 H4 ∧ H4 D = some (.lst ((badsTo p1 p2 p3 (i + 1)).map V.str)) := fun h => ⟨s4, by rw [hb, h]; exact e4⟩
            refine ⟨rfl, ?_⟩
            refine ⟨_, rfl, _, rfl, _, _, rfl, rfl, _, _, _, _, rfl, rfl, SqT.of ha4, at_of (j := 2 + i) (by omega) hv, rfl, _, rfl, ?_⟩
            have obs := ob
            obtain ⟨t, S⟩ := (ob.to (Ke.of (s3.trans s4))).sort (K := K)
            cases c1 : decide (v = .non) with
            | true =>
              have e := of_decide_eq_true c1
              subst e
              cases ob
              exact iteF (skip rfl)
            | false =>
              refine iteT ?_
              refine ⟨_, rfl, _, rfl, _, _, rfl, rfl, _, _, _, _, rfl, rfl, SqT.of ha4, at_of (j := 2 + i) (by omega) hv, _, _, _, _, _, rfl, .ty _, S.ty, S.bo, _, rfl, ?_⟩
              have hbo : badP p = !isBo p := by
                cases ob with
                | non => cases c1
                | bl b => rfl
                | _ => rfl
              cases c2 : isBo p with
              | true => exact iteF (skip (by rw [hbo, c2]; rfl))
              | false =>
                refine iteT ?_
                refine ⟨_, rfl, _, rfl, _, _, _, _, rfl, rfl, SqL.of (s4 _ _ el), at_of (j := i) (by omega) hnm, _, e4, by rw [List.length_map]; exact small1000 (by omega), fun b o e => ?_, ?_⟩
                · rw [upd_ne (ne_of_none e hD)]; exact s4 _ _ e
                · rw [upd_same, hb, hbo, c2]; show _ = some (HO.lst (List.map V.str (badsTo p1 p2 p3 i ++ [nm]))); rw [List.map_append]; rfl
          · rintro H4 ⟨s4, e4⟩
            refine ⟨_, rfl, by show 1 ≤ sizeLine; decide, fun m hm => ?_⟩
            have s5 := Same.new (o := .lst [.non]) hm
            have blen := bads_len p1 p2 p3 3
            refine ⟨D, m, _, _, rfl, rfl, s5 _ _ e4, upd_same, by rw [List.length_map]; exact Nat.le_of_lt (small1000 (by show _ + 1 ≤ 1000; omega)), fun p6 h6 => ?_⟩
            have s6 := Same.new (o := .lst ((badsTo p1 p2 p3 3).map V.str ++ [.non])) h6
            refine ⟨p6, _, _, _, rfl, rfl, SqL.of upd_same, at_of (j := 0) rfl (bads_end _ _ _), ?_⟩
            exact k _ (((s3.trans s4).trans s5).trans s6)
end
end KN


set_option Elab.async false
set_option linter.all false
set_option maxRecDepth 100000
set_option maxHeartbeats 4000000
namespace KN
open PySem L2
/-! Sayings made of rows; what is drawn. -/
def spMade (C CB : Addr) : Sp := fun vs H Q E => ∃ (a : Addr) (v1 v2 u1 u2 u3 : V) (d1 d2 p1 p2 p3 : PyData), vs = [.ref a] ∧ H a = some (.tup [v1, v2, u1, u2, u3]) ∧ Ob H v1 d1 ∧ Ob H v2 d2 ∧ Ob H u1 p1 ∧ Ob H u2 p2 ∧ Ob H u3 p3 ∧
  (∀ part, dueD d1 d2 p1 p2 p3 = some part → OutOne H CB "part" (.str part) E) ∧
  (dueD d1 d2 p1 p2 p3 = none → ∀ H' t dx, Same H H' → H t = none → H' t = some (.ins C dx (sayF v1 v2 u1 u2 u3)) → Q (.ref t) H')
def spPick : Sp := fun vs H Q _ => ∃ (p c l : Addr) (b : Int) (xs : List V), vs = [.ref p, .ref l] ∧ Pen H p c b ∧ b ≤ 100000000000 ∧ H l = some (.lst xs) ∧ xs ≠ [] ∧ xs.length ≤ 60 ∧ ∀ H' v, Kp p H H' → Pen H' p c (b + 1) → v ∈ xs → Q v H'
/-- all but the pen stays: things stay -/
theorem Pen.ne' {H : Hp} {p c a : Addr} {b : Int} {xs : List V} (h : Pen H p c b) (e : H a = some (.tup xs)) : a ≠ p :=
  let ⟨_, _, _, e1, _⟩ := h
  fun z => by subst z; rw [e1] at e; cases e
theorem Kp.ke {H H' : Hp} {p c : Addr} {b : Int} (k : Kp p H H') (pen : Pen H p c b) : Ke H H' := fun a o h e =>
  k a o (fun z => by
    subst z
    obtain ⟨n, m, ns, e1, _⟩ := pen
    rw [e1] at e
    rcases h with ⟨xs, rfl⟩ | ⟨xs, rfl⟩ | rfl
    · cases e
    · cases e
    · exact absurd (HO.dK.inj (Option.some.inj e)) (by simp [penD])) e
section
variable {P : Program} {w : World} {K : PySem.W.Frag} {mg : Str → Option Value} {base : Heap} {C CB : Addr}
theorem sc__law_made : FnScope ["_law_row"] ["_law_row"] (defScope s__law_made) := ⟨rfl, rfl, rfl, by decide +kernel, rfl, by decide +kernel, by decide +kernel⟩
theorem ok_x__law_made {f : Addr} {fd : FuncData} (F : Fun K "_law_made" "_law_made" s__law_made f fd) (c_Saying : MakKX P w K mg base 4 2 "Saying" C (spSay C CB) ["both", "first", "second"] (fun vs zs => vs ++ zs)) : FnOk P w K mg base (L2.CX P w) 6 f fd ["_law_row"] (spMade C CB) := by
  refine F.okX sc__law_made (fun vs H Q E h => ?_) (fun cdv A outer s H vs Q E hr h => ?_)
  · obtain ⟨a, v1, v2, u1, u2, u3, d1, d2, p1, p2, p3, rfl, _⟩ := h; rfl
  · obtain ⟨a, v1, v2, u1, u2, u3, d1, d2, p1, p2, p3, rfl, ha, o1, o2, q1, q2, q3, kb, kg⟩ := h
    refine ⟨_, (pss_one (ps_ret (pe_mkKX c_Saying (takes_of rfl rfl rfl rfl) hr (by decide) rfl (pa_cons (pe_ix ix_tup (pv 0) pe_int (fun _ _ => rfl)) (pa_cons (pe_ix ix_tup (pv 0) pe_int (fun _ _ => rfl)) pa_nil)) (pk_cons (pe_ix ix_tup (pv 0) pe_int (fun _ _ => rfl)) (pk_cons (pe_ix ix_tup (pv 0) pe_int (fun _ _ => rfl)) (pk_cons (pe_ix ix_tup (pv 0) pe_int (fun _ _ => rfl)) pk_nil)))))), ?_⟩
    refine ⟨_, rfl, _, _, _, _, rfl, rfl, SqT.of ha, at_of (j := 0) rfl rfl, _, rfl, _, _, _, _, rfl, rfl, SqT.of ha, at_of (j := 1) rfl rfl, ?_⟩
    refine ⟨_, rfl, _, _, _, _, rfl, rfl, SqT.of ha, at_of (j := 2) rfl rfl, _, rfl, _, _, _, _, rfl, rfl, SqT.of ha, at_of (j := 3) rfl rfl, _, rfl, _, _, _, _, rfl, rfl, SqT.of ha, at_of (j := 4) rfl rfl, ?_⟩
    refine ⟨rfl, rfl, fun x dx nx ndx ne => ?_⟩
    have sm : Same H (upd (upd H dx (.own x)) x (.ins C dx [])) := (Same.new ndx).trans (Same.new (by rw [upd_ne ne.symm]; exact nx))
    refine ⟨x, dx, v1, v2, _, _, _, d1, d2, _, _, _, rfl, upd_same, o1.to (Ke.of sm), o2.to (Ke.of sm), q1.to (Ke.of sm), q2.to (Ke.of sm), q3.to (Ke.of sm), fun part e => (kb part e).to sm, fun e H' s' h' => ⟨rfl, kg e H' x dx (fun a o e => ?_) nx h'⟩⟩
    exact s' a o (ne_of_none e nx) (sm a o e)
theorem sc__law_pick : FnScope ["_law_pen_here", "_law_some"] ["_law_pen_here", "_law_some"] (defScope s__law_pick) := ⟨rfl, rfl, rfl, by decide +kernel, rfl, by decide +kernel, by decide +kernel⟩
theorem ok__law_pick {f : Addr} {fd : FuncData} (F : Fun K "_law_pick" "_law_pick" s__law_pick f fd) (m_len : mg "len" = none) (c__law_draw : C8.Cal P w K mg base 1 "_law_draw" spDraw []) : FnOk P w K mg base CX0 2 f fd ["_law_pen_here", "_law_some"] spPick := by
  refine F.ok sc__law_pick (fun vs H Q E h => ?_) (fun cdv A outer s H vs Q E hr h => ?_)
  · obtain ⟨p, c, l, b, xs, rfl, _⟩ := h; rfl
  · obtain ⟨p, c, l, b, xs, rfl, pen, hb, hl, hne, h60, k⟩ := h
    refine ⟨_, (pss_one (ps_ret (pe_ix ix_list (pv 1) (C8.pe_c c__law_draw hr (by decide) rfl (pa_cons (pv 0) (pa_cons (pe_callB call_len_seq (by rfl) m_len (by decide +kernel) (pa_cons (pv 1) pa_nil)) pa_nil))) (fun _ _ => rfl)))), ?_⟩
    have hpos : 0 < xs.length := List.length_pos_iff.mpr hne
    refine ⟨_, rfl, _, rfl, _, rfl, l, _, rfl, .inl (SqL.of hl), p, c, b, _, rfl, pen, by omega, by omega, by omega, fun H1 r k1 pen1 r0 r1 => ?_⟩
    have hl1 := k1 _ _ (pen.ne hl) hl
    obtain ⟨v, hv⟩ : ∃ v, xs[r.toNat]? = some v := ⟨_, List.getElem?_eq_getElem (by omega)⟩
    refine ⟨l, _, _, v, rfl, rfl, SqL.of hl1, at_of (j := r.toNat) (by omega) hv, ?_⟩
    exact k _ _ k1 pen1 (List.mem_of_getElem? hv)
end
end KN


set_option Elab.async false
set_option linter.all false
set_option maxRecDepth 100000
set_option maxHeartbeats 4000000
namespace KN
open PySem L2
theorem ObAll.mem {H : Hp} : ∀ {ds : List PyData} {vs : List V} {v : V}, ObAll H vs ds → v ∈ vs → ∃ d, Ob H v d
  | [], _, _, h, e => by cases h; cases e
  | d0 :: ds, _, v, h, e => by
    cases h with
    | cons a r =>
      rcases List.mem_cons.mp e with rfl | e
      · exact ⟨_, a⟩
      · exact ObAll.mem r e
theorem obsTo {H H' : Hp} {vs : List V} {q : Prop} (h : ∃ ds, ObAll H vs ds ∧ q) (s : Same H H') : ∃ ds, ObAll H' vs ds ∧ q :=
  let ⟨ds, a, b⟩ := h
  ⟨ds, a.to (Ke.of s), b⟩
def spSideD : Sp := fun vs H Q _ => ∃ (p c : Addr) (b : Int), vs = [.ref p] ∧ Pen H p c b ∧ b ≤ 10000000000 ∧ ∀ H' v d, Kp p H H' → Pen H' p c (b + 4) → Ob H' v d → Q v H'
section
variable {P : Program} {w : World} {K : PySem.W.Frag} {mg : Str → Option Value} {base : Heap}
theorem sc__law_side_drawn : FnScope ["_law_pen_here", "_law_node", "_law_some"] ["_law_pen_here"] (defScope s__law_side_drawn) := ⟨rfl, rfl, rfl, by decide +kernel, rfl, by decide +kernel, by decide +kernel⟩
theorem ok__law_side_drawn {f : Addr} {fd : FuncData} (F : Fun K "_law_side_drawn" "_law_side_drawn" s__law_side_drawn f fd) (m_list : mg "list" = none) (c__law_draw : C8.Cal P w K mg base 1 "_law_draw" spDraw []) (c__law_pick : C8.Cal P w K mg base 2 "_law_pick" spPick []) : FnOk P w K mg base CX0 3 f fd ["_law_pen_here"] spSideD := by
  refine F.ok sc__law_side_drawn (fun vs H Q E h => ?_) (fun cdv A outer s H vs Q E hr h => ?_)
  · obtain ⟨p, c, b, rfl, _⟩ := h; rfl
  · obtain ⟨p, c, b, rfl, pen, hb, k⟩ := h
    refine ⟨_, (pss_cons (ps_set (i := 1) sc__law_side_drawn.nd rfl (Or.inl rfl) (pe_tup (pa_cons (C8.pe_c c__law_draw hr (by decide) rfl (pa_cons (pv 0) (pa_cons pe_int pa_nil))) (pa_cons (C8.pe_c c__law_pick hr (by decide) rfl (pa_cons (pv 0) (pa_cons (pe_lst (pa_cons pe_str (pa_cons pe_str (pa_cons pe_str pa_nil)))) pa_nil))) pa_nil))))
      (pss_cons (ps_if (pt_cmpR op_gt (C8.pe_c c__law_draw hr (by decide) rfl (pa_cons (pv 0) (pa_cons pe_int pa_nil))) pe_int (nomark _)) (pss_one (ps_ret (pe_tup (pa_cons (C8.pe_c c__law_draw hr (by decide) rfl (pa_cons (pv 0) (pa_cons pe_int pa_nil))) (pa_cons (pv 1) pa_nil))))) pss_nil)
      (pss_cons (ps_set (i := 2) sc__law_side_drawn.nd rfl (Or.inl rfl) (pe_lst (pa_cons (pe_tup (pa_cons pe_int (pa_cons (pv 1) pa_nil))) (pa_cons (pe_tup (pa_cons (pe_un un_neg pe_int) (pa_cons (pv 1) pa_nil))) (pa_cons (pe_tup (pa_cons pe_bl (pa_cons (pv 1) pa_nil))) (pa_cons (pe_lst (pa_cons pe_int (pa_cons (pv 1) pa_nil))) (pa_cons (pe_tup (pa_cons pe_int pa_nil)) (pa_cons (pe_tup (pa_cons pe_int (pa_cons (pv 1) (pa_cons pe_int pa_nil)))) (pa_cons (pe_tup (pa_cons pe_int (pa_cons (pe_callTy call_list_of (by rfl) m_list (by decide +kernel) (pa_cons (pv 1) pa_nil)) pa_nil))) (pa_cons pe_non (pa_cons (pv 1) (pa_cons pe_str (pa_cons pe_int pa_nil)))))))))))))
      (pss_cons (ps_set (i := 2) sc__law_side_drawn.nd rfl (Or.inl rfl) (pe_op op_cat (pv 2) (pe_lst (pa_cons (pe_tup (pa_cons pe_int (pa_cons (pe_tup (pa_cons pe_int (pa_cons pe_str pa_nil))) pa_nil))) (pa_cons (pe_tup (pa_cons pe_int (pa_cons (pe_tup (pa_cons (pe_un un_neg pe_int) (pa_cons pe_str pa_nil))) pa_nil))) (pa_cons (pe_tup (pa_cons pe_int (pa_cons (pe_tup (pa_cons pe_bl (pa_cons pe_str pa_nil))) pa_nil))) (pa_cons (pe_tup (pa_cons pe_int (pa_cons (pe_tup (pa_cons pe_str (pa_cons pe_str pa_nil))) pa_nil))) (pa_cons (pe_tup (pa_cons pe_int (pa_cons (pe_tup (pa_cons pe_int (pa_cons pe_str pa_nil))) pa_nil))) (pa_cons (pe_tup (pa_cons pe_int (pa_cons (pe_tup (pa_cons pe_int (pa_cons pe_str pa_nil))) pa_nil))) (pa_cons pe_dnewK pa_nil))))))))))
      (pss_one (ps_ret (C8.pe_c c__law_pick hr (by decide) rfl (pa_cons (pv 0) (pa_cons (pe_op op_cat (pv 2) (pe_lst (pa_cons (pe_tup (pa_cons pe_int (pa_cons (pe_tup (pa_cons pe_int (pa_cons pe_str pa_nil))) pa_nil))) (pa_cons (pe_tup (pa_cons pe_int (pa_cons (pe_tup (pa_cons pe_int (pa_cons pe_str pa_nil))) pa_nil))) (pa_cons (pe_tup (pa_cons pe_str (pa_cons (pv 1) pa_nil))) (pa_cons (pe_tup (pa_cons pe_non (pa_cons (pv 1) pa_nil))) (pa_cons (pe_tup (pa_cons pe_int (pa_cons (pe_tup (pa_cons pe_int (pa_cons pe_int pa_nil))) pa_nil))) pa_nil))))))) pa_nil))))))))), ?_⟩
    refine ⟨_, rfl, p, c, b, 6, rfl, pen, by omega, by decide, by decide, fun H1 rn k1 pen1 r0 r1 => ?_⟩
    refine ⟨_, rfl, by show 3 ≤ sizeLine; decide, fun l hl => ?_⟩
    refine ⟨p, c, l, _, _, rfl, pen1.to (Same.new hl), by omega, upd_same, by simp, by decide, fun H3 v k3 pen3 hv => ?_⟩
    have kq := k1.trans ((Kp.of (Same.new hl)).trans k3)
    obtain ⟨sn, rfl, hsn⟩ : ∃ sn : Str, v = .str sn ∧ (sn.length ≤ 60 ∧ PyData.strOk sn = true) := by
      simp only [List.mem_cons, List.not_mem_nil, or_false] at hv
      rcases hv with rfl | rfl | rfl <;> exact ⟨_, rfl, by decide +kernel, by decide +kernel⟩
    clear hv
    refine ⟨by show 2 ≤ sizeLine; decide, fun nd hnd => ?_⟩
    have hN := upd_same (H := H3) (a := nd) (o := .tup [.int rn, .str sn])
    have oN : Ob (upd H3 nd (.tup [.int rn, .str sn])) (.ref nd) (.tuple [.int rn, .str sn]) := .tup hN (.cons (.int _) (.cons (.str _ hsn) .nil))
    have s4 : Same H3 (upd H3 nd (.tup [.int rn, .str sn])) := Same.new hnd
    have pen4 := pen3.to s4
    have kq := kq.trans (Kp.of s4)
    generalize upd H3 nd (.tup [.int rn, .str sn]) = H4 at hN oN s4 pen4 kq ⊢
    clear k1 pen1 k3 pen3 s4 hl hnd
    refine ⟨_, rfl, p, c, _, 4, rfl, pen4, by omega, by decide, by decide, fun G0 r4 k5 pen5 _ _ => ?_⟩
    have oN := oN.to (k5.ke pen4)
    have hN := k5 _ _ (pen4.ne' hN) hN
    have kq := kq.trans k5
    refine ⟨_, _, rfl, rfl, _, rfl, ite2 (fun hg => ?_) (fun hg => ?_)⟩
    · refine ⟨_, rfl, p, c, _, 3, rfl, pen5, by omega, by decide, by decide, fun H6 r k6 pen6 _ _ => ?_⟩
      have oN := oN.to (k6.ke pen5)
      refine ⟨_, rfl, by show 2 ≤ sizeLine; decide, fun t ht => ?_⟩
      have s7 : Same H6 (upd H6 t (.tup [.int r, .ref nd])) := Same.new ht
      exact k _ _ _ ((kq.trans k6).trans (Kp.of s7)) ((pen6.to s7).up (by omega)) (.tup upd_same (.cons (.int _) (.cons (oN.to (Ke.of s7)) .nil)))
    have sA := Same.refl G0
    clear k5 pen4 hg
    generalize hdn : (PyData.tuple [.int rn, .str sn]) = dn at oN
    refine ⟨_, rfl, by show 2 ≤ sizeLine; decide, fun t1 h1 => ?_⟩
    have s1 : Same G0 (upd G0 t1 (.tup [.int 3, .ref nd])) := Same.new h1
    have o1 : Ob (upd G0 t1 (.tup [.int 3, .ref nd])) (.ref t1) (.tuple [(.int 3), dn]) := .tup upd_same (.cons (.int _) (.cons ((oN.to (Ke.of s1))) .nil))
    have hN := s1 _ _ hN
    have oN := oN.to (Ke.of s1)
    have sA := sA.trans s1
    have a1 := (upd_same : upd G0 t1 (.tup [.int 3, .ref nd]) t1 = _)
    generalize upd G0 t1 (.tup [.int 3, .ref nd]) = G1 at s1 o1 hN oN sA a1    ⊢
    refine ⟨_, rfl, _, rfl, by show 2 ≤ sizeLine; decide, fun t2 h2 => ?_⟩
    have s2 : Same G1 (upd G1 t2 (.tup [.int (-1), .ref nd])) := Same.new h2
    have o2 : Ob (upd G1 t2 (.tup [.int (-1), .ref nd])) (.ref t2) (.tuple [(.int (-1)), dn]) := .tup upd_same (.cons (.int _) (.cons ((oN.to (Ke.of s2))) .nil))
    have hN := s2 _ _ hN
    have oN := oN.to (Ke.of s2)
    have sA := sA.trans s2
    have a2 := (upd_same : upd G1 t2 (.tup [.int (-1), .ref nd]) t2 = _)
    have o1 := o1.to (Ke.of s2)
    generalize upd G1 t2 (.tup [.int (-1), .ref nd]) = G2 at s2 o2 hN oN sA a2 o1   ⊢
    refine ⟨_, rfl, by show 2 ≤ sizeLine; decide, fun t3 h3 => ?_⟩
    have s3 : Same G2 (upd G2 t3 (.tup [.bl true, .ref nd])) := Same.new h3
    have o3 : Ob (upd G2 t3 (.tup [.bl true, .ref nd])) (.ref t3) (.tuple [(.bool true), dn]) := .tup upd_same (.cons (.bl _) (.cons ((oN.to (Ke.of s3))) .nil))
    have hN := s3 _ _ hN
    have oN := oN.to (Ke.of s3)
    have sA := sA.trans s3
    have a3 := (upd_same : upd G2 t3 (.tup [.bl true, .ref nd]) t3 = _)
    have o1 := o1.to (Ke.of s3)
    have o2 := o2.to (Ke.of s3)
    generalize upd G2 t3 (.tup [.bl true, .ref nd]) = G3 at s3 o3 hN oN sA a3 o1 o2   ⊢
    refine ⟨_, rfl, by show 2 ≤ sizeLine; decide, fun t4 h4 => ?_⟩
    have s4 : Same G3 (upd G3 t4 (.lst [.int 0, .ref nd])) := Same.new h4
    have o4 : Ob (upd G3 t4 (.lst [.int 0, .ref nd])) (.ref t4) (.list [(.int 0), dn]) := .lst upd_same (.cons (.int _) (.cons ((oN.to (Ke.of s4))) .nil))
    have hN := s4 _ _ hN
    have oN := oN.to (Ke.of s4)
    have sA := sA.trans s4
    have a4 := (upd_same : upd G3 t4 (.lst [.int 0, .ref nd]) t4 = _)
    have o1 := o1.to (Ke.of s4)
    have o2 := o2.to (Ke.of s4)
    have o3 := o3.to (Ke.of s4)
    generalize upd G3 t4 (.lst [.int 0, .ref nd]) = G4 at s4 o4 hN oN sA a4 o1 o2 o3   ⊢
    refine ⟨by show 1 ≤ sizeLine; decide, fun t5 h5 => ?_⟩
    have s5 : Same G4 (upd G4 t5 (.tup [.int 0])) := Same.new h5
    have o5 : Ob (upd G4 t5 (.tup [.int 0])) (.ref t5) (.tuple [(.int 0)]) := .tup upd_same (.cons (.int _) .nil)
    have hN := s5 _ _ hN
    have oN := oN.to (Ke.of s5)
    have sA := sA.trans s5
    have a5 := (upd_same : upd G4 t5 (.tup [.int 0]) t5 = _)
    have o1 := o1.to (Ke.of s5)
    have o2 := o2.to (Ke.of s5)
    have o3 := o3.to (Ke.of s5)
    have o4 := o4.to (Ke.of s5)
    generalize upd G4 t5 (.tup [.int 0]) = G5 at s5 o5 hN oN sA a5 o1 o2 o3 o4   ⊢
    refine ⟨_, rfl, by show 3 ≤ sizeLine; decide, fun t6 h6 => ?_⟩
    have s6 : Same G5 (upd G5 t6 (.tup [.int 0, .ref nd, .int 0])) := Same.new h6
    have o6 : Ob (upd G5 t6 (.tup [.int 0, .ref nd, .int 0])) (.ref t6) (.tuple [(.int 0), dn, (.int 0)]) := .tup upd_same (.cons (.int _) (.cons ((oN.to (Ke.of s6))) (.cons (.int _) .nil)))
    have hN := s6 _ _ hN
    have oN := oN.to (Ke.of s6)
    have sA := sA.trans s6
    have a6 := (upd_same : upd G5 t6 (.tup [.int 0, .ref nd, .int 0]) t6 = _)
    have o1 := o1.to (Ke.of s6)
    have o2 := o2.to (Ke.of s6)
    have o3 := o3.to (Ke.of s6)
    have o4 := o4.to (Ke.of s6)
    have o5 := o5.to (Ke.of s6)
    generalize upd G5 t6 (.tup [.int 0, .ref nd, .int 0]) = G6 at s6 o6 hN oN sA a6 o1 o2 o3 o4 o5   ⊢
    refine ⟨_, rfl, nd, _, rfl, .inr (SqT.of hN), fun t7 h7 => ?_⟩
    have s7 : Same G6 (upd G6 t7 (.lst [.int rn, .str sn])) := Same.new h7
    have o7 : Ob (upd G6 t7 (.lst [.int rn, .str sn])) (.ref t7) (.list [.int rn, .str sn]) := .lst upd_same (.cons (.int _) (.cons (.str _ hsn) .nil))
    have hN := s7 _ _ hN
    have oN := oN.to (Ke.of s7)
    have sA := sA.trans s7
    have a7 := (upd_same : upd G6 t7 (.lst [.int rn, .str sn]) t7 = _)
    have o1 := o1.to (Ke.of s7)
    have o2 := o2.to (Ke.of s7)
    have o3 := o3.to (Ke.of s7)
    have o4 := o4.to (Ke.of s7)
    have o5 := o5.to (Ke.of s7)
    have o6 := o6.to (Ke.of s7)
    generalize upd G6 t7 (.lst [.int rn, .str sn]) = G7 at s7 o7 hN oN sA a7 o1 o2 o3 o4 o5 o6   ⊢
    refine ⟨by show 2 ≤ sizeLine; decide, fun t8 h8 => ?_⟩
    have s8 : Same G7 (upd G7 t8 (.tup [.int 0, .ref t7])) := Same.new h8
    have o8 : Ob (upd G7 t8 (.tup [.int 0, .ref t7])) (.ref t8) (.tuple [(.int 0), (.list [.int rn, .str sn])]) := .tup upd_same (.cons (.int _) (.cons ((o7.to (Ke.of s8))) .nil))
    have hN := s8 _ _ hN
    have oN := oN.to (Ke.of s8)
    have sA := sA.trans s8
    have a8 := (upd_same : upd G7 t8 (.tup [.int 0, .ref t7]) t8 = _)
    have o1 := o1.to (Ke.of s8)
    have o2 := o2.to (Ke.of s8)
    have o3 := o3.to (Ke.of s8)
    have o4 := o4.to (Ke.of s8)
    have o5 := o5.to (Ke.of s8)
    have o6 := o6.to (Ke.of s8)
    have o7 := o7.to (Ke.of s8)
    generalize upd G7 t8 (.tup [.int 0, .ref t7]) = G8 at s8 o8 hN oN sA a8 o1 o2 o3 o4 o5 o6 o7   ⊢
    refine ⟨_, rfl, by show 11 ≤ sizeLine; decide, fun t9 h9 => ?_⟩
    have A : ∃ ds, ObAll G8 [.ref t1, .ref t2, .ref t3, .ref t4, .ref t5, .ref t6, .ref t8, .non, .ref nd, .str "a", .int 0] ds ∧ ([.ref t1, .ref t2, .ref t3, .ref t4, .ref t5, .ref t6, .ref t8, .non, .ref nd, .str "a", .int 0] : List V).length = 11 := ⟨_, (.cons (o1) (.cons (o2) (.cons (o3) (.cons (o4) (.cons (o5) (.cons (o6) (.cons (o8) (.cons (.non) (.cons (oN) (.cons (.str _ ⟨by decide +kernel, by decide +kernel⟩) (.cons (.int _) .nil))))))))))), rfl⟩
    have s9 : Same G8 (upd G8 t9 (.lst [.ref t1, .ref t2, .ref t3, .ref t4, .ref t5, .ref t6, .ref t8, .non, .ref nd, .str "a", .int 0])) := Same.new h9
    have eA : upd G8 t9 (.lst [.ref t1, .ref t2, .ref t3, .ref t4, .ref t5, .ref t6, .ref t8, .non, .ref nd, .str "a", .int 0]) t9 = some (.lst [.ref t1, .ref t2, .ref t3, .ref t4, .ref t5, .ref t6, .ref t8, .non, .ref nd, .str "a", .int 0]) := upd_same
    have hN := s9 _ _ hN
    have oN := oN.to (Ke.of s9)
    have sA := sA.trans s9
    have A := obsTo A s9
    generalize upd G8 t9 (.lst [.ref t1, .ref t2, .ref t3, .ref t4, .ref t5, .ref t6, .ref t8, .non, .ref nd, .str "a", .int 0]) = G9 at s9 hN oN sA eA   A ⊢
    generalize ([.ref t1, .ref t2, .ref t3, .ref t4, .ref t5, .ref t6, .ref t8, .non, .ref nd, .str "a", .int 0] : List V) = xsA at eA A ⊢
    clear o1 o2 o3 o4 o5 o6 o8
    refine ⟨_, rfl, by show 2 ≤ sizeLine; decide, fun t10 h10 => ?_⟩
    have s10 : Same G9 (upd G9 t10 (.tup [.int 6, .str "a"])) := Same.new h10
    have o10 : Ob (upd G9 t10 (.tup [.int 6, .str "a"])) (.ref t10) (.tuple [(.int 6), (.str "a")]) := .tup upd_same (.cons (.int _) (.cons (.str _ ⟨by decide +kernel, by decide +kernel⟩) .nil))
    have hN := s10 _ _ hN
    have oN := oN.to (Ke.of s10)
    have sA := sA.trans s10
    have a10 := (upd_same : upd G9 t10 (.tup [.int 6, .str "a"]) t10 = _)
    have eA := s10 _ _ eA
    have A := obsTo A s10
    generalize upd G9 t10 (.tup [.int 6, .str "a"]) = G10 at s10 o10 hN oN sA a10  eA A ⊢
    refine ⟨by show 2 ≤ sizeLine; decide, fun t11 h11 => ?_⟩
    have s11 : Same G10 (upd G10 t11 (.tup [.int 0, .ref t10])) := Same.new h11
    have o11 : Ob (upd G10 t11 (.tup [.int 0, .ref t10])) (.ref t11) (.tuple [(.int 0), (.tuple [(.int 6), (.str "a")])]) := .tup upd_same (.cons (.int _) (.cons ((o10.to (Ke.of s11))) .nil))
    have hN := s11 _ _ hN
    have oN := oN.to (Ke.of s11)
    have sA := sA.trans s11
    have a11 := (upd_same : upd G10 t11 (.tup [.int 0, .ref t10]) t11 = _)
    have o10 := o10.to (Ke.of s11)
    have eA := s11 _ _ eA
    have A := obsTo A s11
    generalize upd G10 t11 (.tup [.int 0, .ref t10]) = G11 at s11 o11 hN oN sA a11 o10 eA A ⊢
    refine ⟨_, rfl, by show 2 ≤ sizeLine; decide, fun t12 h12 => ?_⟩
    have s12 : Same G11 (upd G11 t12 (.tup [.int (-1), .str "a"])) := Same.new h12
    have o12 : Ob (upd G11 t12 (.tup [.int (-1), .str "a"])) (.ref t12) (.tuple [(.int (-1)), (.str "a")]) := .tup upd_same (.cons (.int _) (.cons (.str _ ⟨by decide +kernel, by decide +kernel⟩) .nil))
    have hN := s12 _ _ hN
    have oN := oN.to (Ke.of s12)
    have sA := sA.trans s12
    have a12 := (upd_same : upd G11 t12 (.tup [.int (-1), .str "a"]) t12 = _)
    have o11 := o11.to (Ke.of s12)
    have eA := s12 _ _ eA
    have A := obsTo A s12
    generalize upd G11 t12 (.tup [.int (-1), .str "a"]) = G12 at s12 o12 hN oN sA a12 o11 eA A ⊢
    refine ⟨by show 2 ≤ sizeLine; decide, fun t13 h13 => ?_⟩
    have s13 : Same G12 (upd G12 t13 (.tup [.int 0, .ref t12])) := Same.new h13
    have o13 : Ob (upd G12 t13 (.tup [.int 0, .ref t12])) (.ref t13) (.tuple [(.int 0), (.tuple [(.int (-1)), (.str "a")])]) := .tup upd_same (.cons (.int _) (.cons ((o12.to (Ke.of s13))) .nil))
    have hN := s13 _ _ hN
    have oN := oN.to (Ke.of s13)
    have sA := sA.trans s13
    have a13 := (upd_same : upd G12 t13 (.tup [.int 0, .ref t12]) t13 = _)
    have o11 := o11.to (Ke.of s13)
    have o12 := o12.to (Ke.of s13)
    have eA := s13 _ _ eA
    have A := obsTo A s13
    generalize upd G12 t13 (.tup [.int 0, .ref t12]) = G13 at s13 o13 hN oN sA a13 o11 o12 eA A ⊢
    refine ⟨by show 2 ≤ sizeLine; decide, fun t14 h14 => ?_⟩
    have s14 : Same G13 (upd G13 t14 (.tup [.bl true, .str "a"])) := Same.new h14
    have o14 : Ob (upd G13 t14 (.tup [.bl true, .str "a"])) (.ref t14) (.tuple [(.bool true), (.str "a")]) := .tup upd_same (.cons (.bl _) (.cons (.str _ ⟨by decide +kernel, by decide +kernel⟩) .nil))
    have hN := s14 _ _ hN
    have oN := oN.to (Ke.of s14)
    have sA := sA.trans s14
    have a14 := (upd_same : upd G13 t14 (.tup [.bl true, .str "a"]) t14 = _)
    have o11 := o11.to (Ke.of s14)
    have o13 := o13.to (Ke.of s14)
    have eA := s14 _ _ eA
    have A := obsTo A s14
    generalize upd G13 t14 (.tup [.bl true, .str "a"]) = G14 at s14 o14 hN oN sA a14 o11 o13 eA A ⊢
    refine ⟨by show 2 ≤ sizeLine; decide, fun t15 h15 => ?_⟩
    have s15 : Same G14 (upd G14 t15 (.tup [.int 0, .ref t14])) := Same.new h15
    have o15 : Ob (upd G14 t15 (.tup [.int 0, .ref t14])) (.ref t15) (.tuple [(.int 0), (.tuple [(.bool true), (.str "a")])]) := .tup upd_same (.cons (.int _) (.cons ((o14.to (Ke.of s15))) .nil))
    have hN := s15 _ _ hN
    have oN := oN.to (Ke.of s15)
    have sA := sA.trans s15
    have a15 := (upd_same : upd G14 t15 (.tup [.int 0, .ref t14]) t15 = _)
    have o11 := o11.to (Ke.of s15)
    have o13 := o13.to (Ke.of s15)
    have o14 := o14.to (Ke.of s15)
    have eA := s15 _ _ eA
    have A := obsTo A s15
    generalize upd G14 t15 (.tup [.int 0, .ref t14]) = G15 at s15 o15 hN oN sA a15 o11 o13 o14 eA A ⊢
    refine ⟨by show 2 ≤ sizeLine; decide, fun t16 h16 => ?_⟩
    have s16 : Same G15 (upd G15 t16 (.tup [.str "0", .str "a"])) := Same.new h16
    have o16 : Ob (upd G15 t16 (.tup [.str "0", .str "a"])) (.ref t16) (.tuple [(.str "0"), (.str "a")]) := .tup upd_same (.cons (.str _ ⟨by decide +kernel, by decide +kernel⟩) (.cons (.str _ ⟨by decide +kernel, by decide +kernel⟩) .nil))
    have hN := s16 _ _ hN
    have oN := oN.to (Ke.of s16)
    have sA := sA.trans s16
    have a16 := (upd_same : upd G15 t16 (.tup [.str "0", .str "a"]) t16 = _)
    have o11 := o11.to (Ke.of s16)
    have o13 := o13.to (Ke.of s16)
    have o15 := o15.to (Ke.of s16)
    have eA := s16 _ _ eA
    have A := obsTo A s16
    generalize upd G15 t16 (.tup [.str "0", .str "a"]) = G16 at s16 o16 hN oN sA a16 o11 o13 o15 eA A ⊢
    refine ⟨by show 2 ≤ sizeLine; decide, fun t17 h17 => ?_⟩
    have s17 : Same G16 (upd G16 t17 (.tup [.int 0, .ref t16])) := Same.new h17
    have o17 : Ob (upd G16 t17 (.tup [.int 0, .ref t16])) (.ref t17) (.tuple [(.int 0), (.tuple [(.str "0"), (.str "a")])]) := .tup upd_same (.cons (.int _) (.cons ((o16.to (Ke.of s17))) .nil))
    have hN := s17 _ _ hN
    have oN := oN.to (Ke.of s17)
    have sA := sA.trans s17
    have a17 := (upd_same : upd G16 t17 (.tup [.int 0, .ref t16]) t17 = _)
    have o11 := o11.to (Ke.of s17)
    have o13 := o13.to (Ke.of s17)
    have o15 := o15.to (Ke.of s17)
    have o16 := o16.to (Ke.of s17)
    have eA := s17 _ _ eA
    have A := obsTo A s17
    generalize upd G16 t17 (.tup [.int 0, .ref t16]) = G17 at s17 o17 hN oN sA a17 o11 o13 o15 o16 eA A ⊢
    refine ⟨by show 2 ≤ sizeLine; decide, fun t18 h18 => ?_⟩
    have s18 : Same G17 (upd G17 t18 (.tup [.int 0, .str ""])) := Same.new h18
    have o18 : Ob (upd G17 t18 (.tup [.int 0, .str ""])) (.ref t18) (.tuple [(.int 0), (.str "")]) := .tup upd_same (.cons (.int _) (.cons (.str _ ⟨by decide +kernel, by decide +kernel⟩) .nil))
    have hN := s18 _ _ hN
    have oN := oN.to (Ke.of s18)
    have sA := sA.trans s18
    have a18 := (upd_same : upd G17 t18 (.tup [.int 0, .str ""]) t18 = _)
    have o11 := o11.to (Ke.of s18)
    have o13 := o13.to (Ke.of s18)
    have o15 := o15.to (Ke.of s18)
    have o17 := o17.to (Ke.of s18)
    have eA := s18 _ _ eA
    have A := obsTo A s18
    generalize upd G17 t18 (.tup [.int 0, .str ""]) = G18 at s18 o18 hN oN sA a18 o11 o13 o15 o17 eA A ⊢
    refine ⟨by show 2 ≤ sizeLine; decide, fun t19 h19 => ?_⟩
    have s19 : Same G18 (upd G18 t19 (.tup [.int 0, .ref t18])) := Same.new h19
    have o19 : Ob (upd G18 t19 (.tup [.int 0, .ref t18])) (.ref t19) (.tuple [(.int 0), (.tuple [(.int 0), (.str "")])]) := .tup upd_same (.cons (.int _) (.cons ((o18.to (Ke.of s19))) .nil))
    have hN := s19 _ _ hN
    have oN := oN.to (Ke.of s19)
    have sA := sA.trans s19
    have a19 := (upd_same : upd G18 t19 (.tup [.int 0, .ref t18]) t19 = _)
    have o11 := o11.to (Ke.of s19)
    have o13 := o13.to (Ke.of s19)
    have o15 := o15.to (Ke.of s19)
    have o17 := o17.to (Ke.of s19)
    have o18 := o18.to (Ke.of s19)
    have eA := s19 _ _ eA
    have A := obsTo A s19
    generalize upd G18 t19 (.tup [.int 0, .ref t18]) = G19 at s19 o19 hN oN sA a19 o11 o13 o15 o17 o18 eA A ⊢
    refine ⟨by show 2 ≤ sizeLine; decide, fun t20 h20 => ?_⟩
    have s20 : Same G19 (upd G19 t20 (.tup [.int 0, .str "A"])) := Same.new h20
    have o20 : Ob (upd G19 t20 (.tup [.int 0, .str "A"])) (.ref t20) (.tuple [(.int 0), (.str "A")]) := .tup upd_same (.cons (.int _) (.cons (.str _ ⟨by decide +kernel, by decide +kernel⟩) .nil))
    have hN := s20 _ _ hN
    have oN := oN.to (Ke.of s20)
    have sA := sA.trans s20
    have a20 := (upd_same : upd G19 t20 (.tup [.int 0, .str "A"]) t20 = _)
    have o11 := o11.to (Ke.of s20)
    have o13 := o13.to (Ke.of s20)
    have o15 := o15.to (Ke.of s20)
    have o17 := o17.to (Ke.of s20)
    have o19 := o19.to (Ke.of s20)
    have eA := s20 _ _ eA
    have A := obsTo A s20
    generalize upd G19 t20 (.tup [.int 0, .str "A"]) = G20 at s20 o20 hN oN sA a20 o11 o13 o15 o17 o19 eA A ⊢
    refine ⟨by show 2 ≤ sizeLine; decide, fun t21 h21 => ?_⟩
    have s21 : Same G20 (upd G20 t21 (.tup [.int 0, .ref t20])) := Same.new h21
    have o21 : Ob (upd G20 t21 (.tup [.int 0, .ref t20])) (.ref t21) (.tuple [(.int 0), (.tuple [(.int 0), (.str "A")])]) := .tup upd_same (.cons (.int _) (.cons ((o20.to (Ke.of s21))) .nil))
    have hN := s21 _ _ hN
    have oN := oN.to (Ke.of s21)
    have sA := sA.trans s21
    have a21 := (upd_same : upd G20 t21 (.tup [.int 0, .ref t20]) t21 = _)
    have o11 := o11.to (Ke.of s21)
    have o13 := o13.to (Ke.of s21)
    have o15 := o15.to (Ke.of s21)
    have o17 := o17.to (Ke.of s21)
    have o19 := o19.to (Ke.of s21)
    have o20 := o20.to (Ke.of s21)
    have eA := s21 _ _ eA
    have A := obsTo A s21
    generalize upd G20 t21 (.tup [.int 0, .ref t20]) = G21 at s21 o21 hN oN sA a21 o11 o13 o15 o17 o19 o20 eA A ⊢
    refine fun t22 h22 => ?_
    have s22 : Same G21 (upd G21 t22 (.dK [])) := Same.new h22
    have o22 : Ob (upd G21 t22 (.dK [])) (.ref t22) (.dict []) := .emp upd_same
    have hN := s22 _ _ hN
    have oN := oN.to (Ke.of s22)
    have sA := sA.trans s22
    have a22 := (upd_same : upd G21 t22 (.dK []) t22 = _)
    have o11 := o11.to (Ke.of s22)
    have o13 := o13.to (Ke.of s22)
    have o15 := o15.to (Ke.of s22)
    have o17 := o17.to (Ke.of s22)
    have o19 := o19.to (Ke.of s22)
    have o21 := o21.to (Ke.of s22)
    have eA := s22 _ _ eA
    have A := obsTo A s22
    generalize upd G21 t22 (.dK []) = G22 at s22 o22 hN oN sA a22 o11 o13 o15 o17 o19 o21 eA A ⊢
    refine ⟨by show 7 ≤ sizeLine; decide, fun t23 h23 => ?_⟩
    have B : ∃ ds, ObAll G22 [.ref t11, .ref t13, .ref t15, .ref t17, .ref t19, .ref t21, .ref t22] ds ∧ ([.ref t11, .ref t13, .ref t15, .ref t17, .ref t19, .ref t21, .ref t22] : List V).length = 7 := ⟨_, (.cons (o11) (.cons (o13) (.cons (o15) (.cons (o17) (.cons (o19) (.cons (o21) (.cons (o22) .nil))))))), rfl⟩
    have s23 : Same G22 (upd G22 t23 (.lst [.ref t11, .ref t13, .ref t15, .ref t17, .ref t19, .ref t21, .ref t22])) := Same.new h23
    have eB : upd G22 t23 (.lst [.ref t11, .ref t13, .ref t15, .ref t17, .ref t19, .ref t21, .ref t22]) t23 = some (.lst [.ref t11, .ref t13, .ref t15, .ref t17, .ref t19, .ref t21, .ref t22]) := upd_same
    have hN := s23 _ _ hN
    have oN := oN.to (Ke.of s23)
    have sA := sA.trans s23
    have eA := s23 _ _ eA
    have A := obsTo A s23
    have B := obsTo B s23
    generalize upd G22 t23 (.lst [.ref t11, .ref t13, .ref t15, .ref t17, .ref t19, .ref t21, .ref t22]) = G23 at s23 hN oN sA eB eA A B ⊢
    generalize ([.ref t11, .ref t13, .ref t15, .ref t17, .ref t19, .ref t21, .ref t22] : List V) = xsB at eB B ⊢
    clear o11 o13 o15 o17 o19 o21 o22
    obtain ⟨dsA, zA, lA⟩ := A
    obtain ⟨dsB, zB, lB⟩ := B
    have AB : ∃ ds, ObAll G23 (xsA ++ xsB) ds ∧ (xsA ++ xsB).length = 18 := ⟨_, zA.app zB, by rw [List.length_append, lA, lB]⟩
    refine ⟨t9, t23, _, _, rfl, rfl, eA, eB, by rw [lA, lB]; decide, fun t24 h24 => ?_⟩
    have s24 : Same G23 (upd G23 t24 (.lst (xsA ++ xsB))) := Same.new h24
    have eAB : upd G23 t24 (.lst (xsA ++ xsB)) t24 = some (.lst (xsA ++ xsB)) := upd_same
    have hN := s24 _ _ hN
    have oN := oN.to (Ke.of s24)
    have sA := sA.trans s24
    have AB := obsTo AB s24
    generalize upd G23 t24 (.lst (xsA ++ xsB)) = G24 at s24 hN oN sA eAB AB ⊢
    generalize (xsA ++ xsB : List V) = xsAB at eAB AB ⊢
    clear eA eB zA zB
    refine ⟨_, rfl, _, rfl, by show 2 ≤ sizeLine; decide, fun t25 h25 => ?_⟩
    have s25 : Same G24 (upd G24 t25 (.tup [.int 0, .str "zzzzzzzzzzzzz"])) := Same.new h25
    have o25 : Ob (upd G24 t25 (.tup [.int 0, .str "zzzzzzzzzzzzz"])) (.ref t25) (.tuple [(.int 0), (.str "zzzzzzzzzzzzz")]) := .tup upd_same (.cons (.int _) (.cons (.str _ ⟨by decide +kernel, by decide +kernel⟩) .nil))
    have hN := s25 _ _ hN
    have oN := oN.to (Ke.of s25)
    have sA := sA.trans s25
    have a25 := (upd_same : upd G24 t25 (.tup [.int 0, .str "zzzzzzzzzzzzz"]) t25 = _)
    have eAB := s25 _ _ eAB
    have AB := obsTo AB s25
    generalize upd G24 t25 (.tup [.int 0, .str "zzzzzzzzzzzzz"]) = G25 at s25 o25 hN oN sA a25  eAB AB ⊢
    refine ⟨by show 2 ≤ sizeLine; decide, fun t26 h26 => ?_⟩
    have s26 : Same G25 (upd G25 t26 (.tup [.int 0, .ref t25])) := Same.new h26
    have o26 : Ob (upd G25 t26 (.tup [.int 0, .ref t25])) (.ref t26) (.tuple [(.int 0), (.tuple [(.int 0), (.str "zzzzzzzzzzzzz")])]) := .tup upd_same (.cons (.int _) (.cons ((o25.to (Ke.of s26))) .nil))
    have hN := s26 _ _ hN
    have oN := oN.to (Ke.of s26)
    have sA := sA.trans s26
    have a26 := (upd_same : upd G25 t26 (.tup [.int 0, .ref t25]) t26 = _)
    have o25 := o25.to (Ke.of s26)
    have eAB := s26 _ _ eAB
    have AB := obsTo AB s26
    generalize upd G25 t26 (.tup [.int 0, .ref t25]) = G26 at s26 o26 hN oN sA a26 o25 eAB AB ⊢
    refine ⟨by show 2 ≤ sizeLine; decide, fun t27 h27 => ?_⟩
    have s27 : Same G26 (upd G26 t27 (.tup [.int 0, .str "a b"])) := Same.new h27
    have o27 : Ob (upd G26 t27 (.tup [.int 0, .str "a b"])) (.ref t27) (.tuple [(.int 0), (.str "a b")]) := .tup upd_same (.cons (.int _) (.cons (.str _ ⟨by decide +kernel, by decide +kernel⟩) .nil))
    have hN := s27 _ _ hN
    have oN := oN.to (Ke.of s27)
    have sA := sA.trans s27
    have a27 := (upd_same : upd G26 t27 (.tup [.int 0, .str "a b"]) t27 = _)
    have o26 := o26.to (Ke.of s27)
    have eAB := s27 _ _ eAB
    have AB := obsTo AB s27
    generalize upd G26 t27 (.tup [.int 0, .str "a b"]) = G27 at s27 o27 hN oN sA a27 o26 eAB AB ⊢
    refine ⟨by show 2 ≤ sizeLine; decide, fun t28 h28 => ?_⟩
    have s28 : Same G27 (upd G27 t28 (.tup [.int 0, .ref t27])) := Same.new h28
    have o28 : Ob (upd G27 t28 (.tup [.int 0, .ref t27])) (.ref t28) (.tuple [(.int 0), (.tuple [(.int 0), (.str "a b")])]) := .tup upd_same (.cons (.int _) (.cons ((o27.to (Ke.of s28))) .nil))
    have hN := s28 _ _ hN
    have oN := oN.to (Ke.of s28)
    have sA := sA.trans s28
    have a28 := (upd_same : upd G27 t28 (.tup [.int 0, .ref t27]) t28 = _)
    have o26 := o26.to (Ke.of s28)
    have o27 := o27.to (Ke.of s28)
    have eAB := s28 _ _ eAB
    have AB := obsTo AB s28
    generalize upd G27 t28 (.tup [.int 0, .ref t27]) = G28 at s28 o28 hN oN sA a28 o26 o27 eAB AB ⊢
    refine ⟨_, rfl, by show 2 ≤ sizeLine; decide, fun t29 h29 => ?_⟩
    have s29 : Same G28 (upd G28 t29 (.tup [.str "0", .ref nd])) := Same.new h29
    have o29 : Ob (upd G28 t29 (.tup [.str "0", .ref nd])) (.ref t29) (.tuple [(.str "0"), dn]) := .tup upd_same (.cons (.str _ ⟨by decide +kernel, by decide +kernel⟩) (.cons ((oN.to (Ke.of s29))) .nil))
    have hN := s29 _ _ hN
    have oN := oN.to (Ke.of s29)
    have sA := sA.trans s29
    have a29 := (upd_same : upd G28 t29 (.tup [.str "0", .ref nd]) t29 = _)
    have o26 := o26.to (Ke.of s29)
    have o28 := o28.to (Ke.of s29)
    have eAB := s29 _ _ eAB
    have AB := obsTo AB s29
    generalize upd G28 t29 (.tup [.str "0", .ref nd]) = G29 at s29 o29 hN oN sA a29 o26 o28 eAB AB ⊢
    refine ⟨_, rfl, by show 2 ≤ sizeLine; decide, fun t30 h30 => ?_⟩
    have s30 : Same G29 (upd G29 t30 (.tup [.non, .ref nd])) := Same.new h30
    have o30 : Ob (upd G29 t30 (.tup [.non, .ref nd])) (.ref t30) (.tuple [.none, dn]) := .tup upd_same (.cons (.non) (.cons ((oN.to (Ke.of s30))) .nil))
    have hN := s30 _ _ hN
    have oN := oN.to (Ke.of s30)
    have sA := sA.trans s30
    have a30 := (upd_same : upd G29 t30 (.tup [.non, .ref nd]) t30 = _)
    have o26 := o26.to (Ke.of s30)
    have o28 := o28.to (Ke.of s30)
    have o29 := o29.to (Ke.of s30)
    have eAB := s30 _ _ eAB
    have AB := obsTo AB s30
    generalize upd G29 t30 (.tup [.non, .ref nd]) = G30 at s30 o30 hN oN sA a30 o26 o28 o29 eAB AB ⊢
    refine ⟨by show 2 ≤ sizeLine; decide, fun t31 h31 => ?_⟩
    have s31 : Same G30 (upd G30 t31 (.tup [.int 0, .int 0])) := Same.new h31
    have o31 : Ob (upd G30 t31 (.tup [.int 0, .int 0])) (.ref t31) (.tuple [(.int 0), (.int 0)]) := .tup upd_same (.cons (.int _) (.cons (.int _) .nil))
    have hN := s31 _ _ hN
    have oN := oN.to (Ke.of s31)
    have sA := sA.trans s31
    have a31 := (upd_same : upd G30 t31 (.tup [.int 0, .int 0]) t31 = _)
    have o26 := o26.to (Ke.of s31)
    have o28 := o28.to (Ke.of s31)
    have o29 := o29.to (Ke.of s31)
    have o30 := o30.to (Ke.of s31)
    have eAB := s31 _ _ eAB
    have AB := obsTo AB s31
    generalize upd G30 t31 (.tup [.int 0, .int 0]) = G31 at s31 o31 hN oN sA a31 o26 o28 o29 o30 eAB AB ⊢
    refine ⟨by show 2 ≤ sizeLine; decide, fun t32 h32 => ?_⟩
    have s32 : Same G31 (upd G31 t32 (.tup [.int 0, .ref t31])) := Same.new h32
    have o32 : Ob (upd G31 t32 (.tup [.int 0, .ref t31])) (.ref t32) (.tuple [(.int 0), (.tuple [(.int 0), (.int 0)])]) := .tup upd_same (.cons (.int _) (.cons ((o31.to (Ke.of s32))) .nil))
    have hN := s32 _ _ hN
    have oN := oN.to (Ke.of s32)
    have sA := sA.trans s32
    have a32 := (upd_same : upd G31 t32 (.tup [.int 0, .ref t31]) t32 = _)
    have o26 := o26.to (Ke.of s32)
    have o28 := o28.to (Ke.of s32)
    have o29 := o29.to (Ke.of s32)
    have o30 := o30.to (Ke.of s32)
    have o31 := o31.to (Ke.of s32)
    have eAB := s32 _ _ eAB
    have AB := obsTo AB s32
    generalize upd G31 t32 (.tup [.int 0, .ref t31]) = G32 at s32 o32 hN oN sA a32 o26 o28 o29 o30 o31 eAB AB ⊢
    refine ⟨by show 5 ≤ sizeLine; decide, fun t33 h33 => ?_⟩
    have C : ∃ ds, ObAll G32 [.ref t26, .ref t28, .ref t29, .ref t30, .ref t32] ds ∧ ([.ref t26, .ref t28, .ref t29, .ref t30, .ref t32] : List V).length = 5 := ⟨_, (.cons (o26) (.cons (o28) (.cons (o29) (.cons (o30) (.cons (o32) .nil))))), rfl⟩
    have s33 : Same G32 (upd G32 t33 (.lst [.ref t26, .ref t28, .ref t29, .ref t30, .ref t32])) := Same.new h33
    have eC : upd G32 t33 (.lst [.ref t26, .ref t28, .ref t29, .ref t30, .ref t32]) t33 = some (.lst [.ref t26, .ref t28, .ref t29, .ref t30, .ref t32]) := upd_same
    have hN := s33 _ _ hN
    have oN := oN.to (Ke.of s33)
    have sA := sA.trans s33
    have eAB := s33 _ _ eAB
    have AB := obsTo AB s33
    have C := obsTo C s33
    generalize upd G32 t33 (.lst [.ref t26, .ref t28, .ref t29, .ref t30, .ref t32]) = G33 at s33 hN oN sA eC eAB AB C ⊢
    generalize ([.ref t26, .ref t28, .ref t29, .ref t30, .ref t32] : List V) = xsC at eC C ⊢
    clear o26 o28 o29 o30 o32
    obtain ⟨dsAB, zAB, lAB⟩ := AB
    obtain ⟨dsC, zC, lC⟩ := C
    have ABC : ∃ ds, ObAll G33 (xsAB ++ xsC) ds ∧ (xsAB ++ xsC).length = 23 := ⟨_, zAB.app zC, by rw [List.length_append, lAB, lC]⟩
    refine ⟨t24, t33, _, _, rfl, rfl, eAB, eC, by rw [lAB, lC]; decide, fun t34 h34 => ?_⟩
    have s34 : Same G33 (upd G33 t34 (.lst (xsAB ++ xsC))) := Same.new h34
    have eABC : upd G33 t34 (.lst (xsAB ++ xsC)) t34 = some (.lst (xsAB ++ xsC)) := upd_same
    have hN := s34 _ _ hN
    have oN := oN.to (Ke.of s34)
    have sA := sA.trans s34
    have ABC := obsTo ABC s34
    generalize upd G33 t34 (.lst (xsAB ++ xsC)) = G34 at s34 hN oN sA eABC ABC ⊢
    generalize (xsAB ++ xsC : List V) = xsABC at eABC ABC ⊢
    clear eAB eC zAB zC
    obtain ⟨ds, z, lz⟩ := ABC
    have pen9 := pen5.to sA
    refine ⟨p, c, t34, _, xsABC, rfl, pen9, by omega, eABC, (fun z => by rw [z] at lz; cases lz), by omega, fun H9 v k9 p9 hv => ?_⟩
    obtain ⟨d, od⟩ := z.mem hv
    exact k _ _ _ ((kq.trans (Kp.of sA)).trans k9) (p9.up (by omega)) (od.to (k9.ke pen9))
end
end KN


set_option Elab.async false
set_option linter.all false
set_option maxRecDepth 100000
set_option maxHeartbeats 4000000
namespace KN
open PySem L2
/-- a side as drawn -/
def SideT (H : Hp) (v : V) : Prop := ∃ (t n : Addr) (i r : Int) (s : Str), v = .ref t ∧ H t = some (.tup [.int i, .ref n]) ∧ H n = some (.tup [.int r, .str s]) ∧ s.length ≤ 60 ∧ PyData.strOk s = true
theorem SideT.to {H H' : Hp} {v : V} (h : SideT H v) (k : TK H H') : SideT H' v :=
  let ⟨t, n, i, r, s, e, h1, h2, h3⟩ := h
  ⟨t, n, i, r, s, e, k _ _ h1, k _ _ h2, h3⟩
theorem SideT.ob {H : Hp} {v : V} (h : SideT H v) : ∃ d, Ob H v d := by
  obtain ⟨t, n, i, r, s, rfl, h1, h2, h3⟩ := h
  exact ⟨_, .tup h1 (.cons (.int _) (.cons (.tup h2 (.cons (.int _) (.cons (.str _ h3) .nil))) .nil))⟩
/-- a row of five things -/
def AnyRow (H : Hp) (t : Addr) (r : List PyData) : Prop := ∃ (v1 v2 u1 u2 u3 : V) (d1 d2 p1 p2 p3 : PyData), r = [d1, d2, p1, p2, p3] ∧ H t = some (.tup [v1, v2, u1, u2, u3]) ∧ Ob H v1 d1 ∧ Ob H v2 d2 ∧ Ob H u1 p1 ∧ Ob H u2 p2 ∧ Ob H u3 p3
def spGoodRow : Sp := fun vs H Q _ => ∃ (p c : Addr) (b : Int), vs = [.ref p] ∧ Pen H p c b ∧ b ≤ 10000000000 ∧ ∀ H' t r, Kp p H H' → Pen H' p c (b + 8) → AnyRow H' t r → Q (.ref t) H'
def triO (u : V) : Prop := u = .non ∨ ∃ b, u = .bl b
theorem triO.ob {H : Hp} {u : V} (h : triO u) : ∃ d, Ob H u d := by
  rcases h with rfl | ⟨b, rfl⟩
  · exact ⟨_, .non⟩
  · exact ⟨_, .bl b⟩
section
variable {P : Program} {w : World} {K : PySem.W.Frag} {mg : Str → Option Value} {base : Heap}
theorem sc__law_good_row : FnScope ["_law_pen_here", "_law_number", "_law_sides", "_law_at", "_law_part"] ["_law_pen_here"] (defScope s__law_good_row) := ⟨rfl, rfl, rfl, by decide +kernel, rfl, by decide +kernel, by decide +kernel⟩
theorem ok__law_good_row {f : Addr} {fd : FuncData} (F : Fun K "_law_good_row" "_law_good_row" s__law_good_row f fd) (m_tuple : mg "tuple" = none) (m_range : mg "range" = none) (c__law_draw : C8.Cal P w K mg base 1 "_law_draw" spDraw []) (c__law_pick : C8.Cal P w K mg base 2 "_law_pick" spPick []) : FnOk P w K mg base CX0 3 f fd ["_law_pen_here"] spGoodRow := by
  refine F.ok sc__law_good_row (fun vs H Q E h => ?_) (fun cdv A outer s H vs Q E hr h => ?_)
  · obtain ⟨p, c, b, rfl, _⟩ := h; rfl
  · obtain ⟨p, c, b, rfl, pen, hb, k⟩ := h
    refine ⟨_, (pss_cons (ps_set (i := 1) sc__law_good_row.nd rfl (Or.inl rfl) (C8.pe_c c__law_draw hr (by decide) rfl (pa_cons (pv 0) (pa_cons pe_int pa_nil))))
      (pss_cons (ps_setLc (i := 2) (own := [("_law_at", 3)]) (g := gName 3) (tt := tYes) rfl sc__law_good_row.nd rfl rfl (sw_true rfl rfl rfl (by decide +kernel)) (pi_tup (pe_tup (pa_cons (pv 1) (pa_cons (pe_op op_mod (pe_op op_add (pv 1) pe_int) pe_int) pa_nil)))) (blkOk_by (own := [("_law_at", 3)]) (N := ["_law_pen_here", "_law_number", "_law_sides", "_law_at", "_law_part"]) (sc := defScope s__law_good_row) (by decide +kernel)) (fun _ _ _ _ _ => pg_name (i := 3) sc__law_good_row.nd rfl (Or.inl rfl)) (fun _ _ _ _ _ => pts_nil) (fun _ _ _ _ _ => (pe_tup (pa_cons (pv 3) (pa_cons (pe_tup (pa_cons (C8.pe_c c__law_draw hr (by decide) rfl (pa_cons (pv 0) (pa_cons pe_int pa_nil))) (pa_cons (C8.pe_c c__law_pick hr (by decide) rfl (pa_cons (pv 0) (pa_cons (pe_lst (pa_cons pe_str (pa_cons pe_str (pa_cons pe_str pa_nil)))) pa_nil))) pa_nil))) pa_nil)))))
      (pss_one (ps_ret (pe_op op_catA (pe_callTy call_tuple_of (by rfl) m_tuple (by decide +kernel) (pa_cons (pv 2) pa_nil)) (pe_callTy call_tuple_of (by rfl) m_tuple (by decide +kernel) (pa_cons (pe_lc (own := [("_law_part", 4)]) (g := gName 4) (tt := tYes) rfl sc__law_good_row.nd (pi_range1 rfl m_range (pa_cons pe_int pa_nil)) (blkOk_by (own := [("_law_part", 4)]) (N := ["_law_pen_here", "_law_number", "_law_sides", "_law_at", "_law_part"]) (sc := defScope s__law_good_row) (by decide +kernel)) (fun _ _ _ _ _ => pg_name (i := 4) sc__law_good_row.nd rfl (Or.inl rfl)) (fun _ _ _ _ _ => pts_nil) (fun _ _ _ _ _ => (C8.pe_c c__law_pick hr (by decide) rfl (pa_cons (pv 0) (pa_cons (pe_lst (pa_cons pe_non (pa_cons pe_bl (pa_cons pe_bl pa_nil)))) pa_nil))))) pa_nil))))))), ?_⟩
    refine ⟨_, rfl, p, c, b, 3, rfl, pen, by omega, by decide, by decide, fun H1 n k1 pen1 n0 n1 => ?_⟩
    refine ⟨_, rfl, _, rfl, _, _, rfl, rfl, _, _, rfl, rfl, (by show (0 : Int) < 3; decide), by show 2 ≤ sizeLine; decide, fun tp htp => ?_⟩
    have s2 := Same.new (o := .tup [.int n, .int ((n + 1) % 3)]) htp
    have e2 := upd_same (H := H1) (a := tp) (o := .tup [.int n, .int ((n + 1) % 3)])
    have pen2 := pen1.to s2
    have kq := k1.trans (Kp.of s2)
    generalize upd H1 tp (.tup [.int n, .int ((n + 1) % 3)]) = H2 at s2 e2 pen2 kq ⊢
    refine ⟨tp, rfl, ⟨_, SqT.of e2⟩, fun D hD => ?_⟩
    refine lc_tup (K := K) (a := tp) (xs := [.int n, .int ((n + 1) % 3)]) (fun i H' => Kp p H2 H' ∧ Pen H' p c (b + 1 + 2 * i) ∧ ∃ vs : List V, H' D = some (.lst vs) ∧ vs.length = i ∧ ∀ v ∈ vs, SideT H' v)
      ⟨Kp.new hD, (pen2.to (Same.new hD)).up (by omega), [], upd_same, rfl, fun v h => by cases h⟩ (fun i H' _ q => SqT.of (q.1 _ _ (pen2.ne' e2) e2)) ?_ ?_
    · rintro i x H3 hi ⟨k3, pen3, vs, eD, lv, al⟩
      obtain ⟨j, rfl⟩ : ∃ j : Int, x = .int j := by
        match i, hi with
        | 0, hi => exact ⟨_, (Option.some.inj hi).symm⟩
        | 1, hi => exact ⟨_, (Option.some.inj hi).symm⟩
        | _ + 2, hi => simp at hi
      have hi2 : i < 2 := (List.getElem?_eq_some_iff.mp hi).1
      have neD : D ≠ p := pen3.ne eD
      refine ⟨rfl, _, rfl, _, rfl, p, c, _, 6, rfl, pen3, by omega, by decide, by decide, fun H4 rn k4 pen4 r0 r1 => ?_⟩
      refine ⟨_, rfl, by show 3 ≤ sizeLine; decide, fun l hl => ?_⟩
      refine ⟨p, c, l, _, _, rfl, pen4.to (Same.new hl), by omega, upd_same, by simp, by decide, fun H5 v k5 pen5 hv => ?_⟩
      have kq := k4.trans ((Kp.of (Same.new hl)).trans k5)
      obtain ⟨sn, rfl, hsn⟩ : ∃ sn : Str, v = .str sn ∧ (sn.length ≤ 60 ∧ PyData.strOk sn = true) := by
        simp only [List.mem_cons, List.not_mem_nil, or_false] at hv
        rcases hv with rfl | rfl | rfl <;> exact ⟨_, rfl, by decide +kernel, by decide +kernel⟩
      clear hv
      refine ⟨by show 2 ≤ sizeLine; decide, fun nd hnd => ?_⟩
      have hN := upd_same (H := H5) (a := nd) (o := .tup [.int rn, .str sn])
      have s6 := Same.new (o := .tup [.int rn, .str sn]) hnd
      generalize upd H5 nd (.tup [.int rn, .str sn]) = H6 at hN s6 ⊢
      refine ⟨by show 2 ≤ sizeLine; decide, fun t ht => ?_⟩
      have hT := upd_same (H := H6) (a := t) (o := .tup [.int j, .ref nd])
      have s7 := Same.new (o := .tup [.int j, .ref nd]) ht
      have hN := s7 _ _ hN
      generalize upd H6 t (.tup [.int j, .ref nd]) = H7 at hT hN s7 ⊢
      have k7 := kq.trans ((Kp.of s6).trans (Kp.of s7))
      have pen7 := (pen5.to s6).to s7
      have eD7 := k7 _ _ neD eD
      have kD : Kp p H7 (upd H7 D (.lst (vs ++ [.ref t]))) ∨ True := .inr trivial
      have tk8 : TK H7 (upd H7 D (.lst (vs ++ [.ref t]))) := TK.put eD7 (by intro z; exact nofun)
      refine ⟨vs, eD7, by rw [lv]; exact small1000 (by omega), fun a o na e => ?_, ?_, vs ++ [.ref t], upd_same, by rw [List.length_append, lv]; rfl, fun v hv => ?_⟩
      · rw [upd_ne (ne_of_none e hD)]; exact k7 a o na (k3 a o na e)
      · exact (pen7.put ⟨neD, fun z => by subst z; exact absurd hD (by obtain ⟨o, e⟩ := pen2.here.2; rw [e]; simp)⟩).up (by omega)
      · rcases List.mem_append.mp hv with h | h
        · exact ((al v h).to (pen3.tk k7)).to tk8
        · rw [List.mem_singleton] at h
          subst h
          exact SideT.to ⟨t, nd, j, rn, sn, rfl, hT, hN, hsn⟩ tk8
    · rintro H3 ⟨k3, pen3, vs, eD, lv, al⟩
      have kq := kq.trans k3
      obtain ⟨w1, w2, rfl⟩ : ∃ w1 w2, vs = [w1, w2] := by
        match vs, lv with
        | [w1, w2], _ => exact ⟨w1, w2, rfl⟩
      have pen3 : Pen H3 p c (b + 5) := pen3.up (by show b + 1 + 2 * ((2 : Nat) : Int) ≤ _; omega)
      have g1 := al w1 (by simp)
      have g2 := al w2 (by simp)
      refine ⟨_, rfl, D, _, rfl, .inl ⟨SqL.of eD, fun ts hts => ?_⟩⟩
      have s4 := Same.new (o := .tup [w1, w2]) hts
      have eT := upd_same (H := H3) (a := ts) (o := .tup [w1, w2])
      have pen4 := pen3.to s4
      have g1 := g1.to (TK.of s4)
      have g2 := g2.to (TK.of s4)
      have kq := kq.trans (Kp.of s4)
      generalize upd H3 ts (.tup [w1, w2]) = H4 at s4 eT pen4 g1 g2 kq ⊢
      clear al eD
      refine ⟨3, rfl, by decide, by decide, fun D2 hD2 => ?_⟩
      refine lc_range (lo := 0) (n := 3) (fun i H' => Kp p H4 H' ∧ Pen H' p c (b + 5 + i) ∧ ∃ us : List V, H' D2 = some (.lst us) ∧ us.length = i ∧ ∀ u ∈ us, triO u)
        ⟨Kp.new hD2, (pen4.to (Same.new hD2)).up (by omega), [], upd_same, rfl, fun v h => by cases h⟩ ?_ ?_
      · rintro i H5 hi ⟨k5, pen5, us, eU, lu, au⟩
        have hi : i < 3 := hi
        have neU : D2 ≠ p := pen5.ne eU
        refine ⟨rfl, _, rfl, by show 3 ≤ sizeLine; decide, fun l hl => ?_⟩
        refine ⟨p, c, l, _, _, rfl, pen5.to (Same.new hl), by omega, upd_same, by simp, by decide, fun H6 u k6 pen6 hu => ?_⟩
        have k6' := (Kp.of (Same.new hl)).trans k6
        have eU6 := k6' _ _ neU eU
        refine ⟨us, eU6, by rw [lu]; exact small1000 (by omega), fun a o na e => ?_, ?_, us ++ [u], upd_same, by rw [List.length_append, lu]; rfl, fun v hv => ?_⟩
        · rw [upd_ne (ne_of_none e hD2)]; exact k6' a o na (k5 a o na e)
        · exact (pen6.put ⟨neU, fun z => by subst z; exact absurd hD2 (by obtain ⟨o, e⟩ := pen4.here.2; rw [e]; simp)⟩).up (by omega)
        · rcases List.mem_append.mp hv with h | h
          · exact au v h
          · rw [List.mem_singleton] at h
            subst h
            simp only [List.mem_cons, List.not_mem_nil, or_false] at hu
            rcases hu with rfl | rfl | rfl
            · exact .inl rfl
            · exact .inr ⟨_, rfl⟩
            · exact .inr ⟨_, rfl⟩
      · rintro H5 ⟨k5, pen5, us, eU, lu, au⟩
        obtain ⟨x1, x2, x3, rfl⟩ : ∃ x1 x2 x3, us = [x1, x2, x3] := by
          match us, lu with
          | [x1, x2, x3], _ => exact ⟨x1, x2, x3, rfl⟩
        have eT5 := k5 _ _ (pen4.ne' eT) eT
        refine ⟨D2, _, rfl, .inl ⟨SqL.of eU, fun tu htu => ?_⟩⟩
        have s6 := Same.new (o := .tup [x1, x2, x3]) htu
        have eV := upd_same (H := H5) (a := tu) (o := .tup [x1, x2, x3])
        generalize upd H5 tu (.tup [x1, x2, x3]) = H6 at s6 eV ⊢
        refine ⟨ts, tu, _, _, rfl, rfl, SqT.of (s6 _ _ eT5), SqT.of eV, by show 5 ≤ sizeLine; decide, (fun z => nomatch z), (fun _ z => nomatch z), fun _ _ q hq => ?_⟩
        have s7 := Same.new (o := .tup ([w1, w2] ++ [x1, x2, x3])) hq
        have eq := upd_same (H := H6) (a := q) (o := .tup ([w1, w2] ++ [x1, x2, x3]))
        generalize upd H6 q (.tup ([w1, w2] ++ [x1, x2, x3])) = H7 at s7 eq ⊢
        have tk : TK H4 H7 := (pen4.tk k5).trans ((TK.of s6).trans (TK.of s7))
        obtain ⟨d1, o1⟩ := (g1.to tk).ob
        obtain ⟨d2, o2⟩ := (g2.to tk).ob
        obtain ⟨p1, q1⟩ := (au x1 (by simp)).ob (H := H7)
        obtain ⟨p2, q2⟩ := (au x2 (by simp)).ob (H := H7)
        obtain ⟨p3, q3⟩ := (au x3 (by simp)).ob (H := H7)
        exact k H7 q _ (kq.trans (k5.trans ((Kp.of s6).trans (Kp.of s7)))) (((pen5.to s6).to s7).up (by omega)) ⟨_, _, _, _, _, _, _, _, _, _, rfl, eq, o1, o2, q1, q2, q3⟩
end
end KN


set_option Elab.async false
set_option linter.all false
set_option maxRecDepth 100000
set_option maxHeartbeats 4000000
namespace KN
open PySem PySem.Spec PyProof.Rows L2
/-! What is refused: a lambda asked in a try. -/
/-- told: the part of what the asked one raises, None where it raises nothing -/
def TTbad (CB : Addr) : (XK → Hp → VK → Prop) → Hp → VK → Prop := fun tl H Q =>
  tl (fun cls d H' => cls = .ref CB ∧ ∃ (dd : Addr) (y : V), d = some dd ∧ H' dd = some (.xd [("part", y)]) ∧ Q y H') H fun _ H' => Q .non H'
theorem takes_len {X : Cx} {W : WX} (tk : Takes X W) : Takes X (fun cls d σ H => σ.length = X.N.length → W cls d σ H) := fun u s' ⟨a, B, sI, pins, σ, H, cls, d, e, I, nb, up, sky, na, os, ag, w⟩ =>
  tk u s' ⟨a, B, sI, pins, σ, H, cls, d, e, I, nb, up, sky, na, os, ag, w I.len⟩
section
variable {K : PySem.W.Frag} {CB : Addr}
theorem sc__law_bad_saying : FnScope ["_law_asked", "e"] ["_law_asked"] (defScope s__law_bad_saying) := ⟨rfl, rfl, rfl, by decide +kernel, rfl, by decide +kernel, by decide +kernel⟩
theorem bad_gives {X : Cx} {g : Addr} {cdg : Value} {q : Str} (hB : X.mg "BadSaying" = some (.ref CB)) (m_isinstance : X.mg "isinstance" = none) (m_ValueError : X.mg "ValueError" = none) (M : ExcMet X.K CB "ValueError") (plain : PySem.W.findIn X.K (.ref CB) "part" = some none) :
    LamX.GivesTo X ["_law_asked", "e"] "_law_bad_saying" (defScope s__law_bad_saying) g cdg (defBody s__law_bad_saying) "_law_asked" q (TTbad CB) := by
  intro f c' s H Q tl act hc h
  refine ⟨_, pss_cons (ps_try_as (X := (cxOf C8.CX0 X.prog X.w X.K X.mg X.base ["_law_asked", "e"] "_law_bad_saying" (defScope s__law_bad_saying) g cdg X.A X.stack s H C8.E0).nox) (i := 1) (c := .ref CB) (Wout := fun _ _ _ _ => False)
      (tb := fun W D σ H => ∃ Ech : XK, (∀ cls d σ' H', σ'.length = 2 → Ech cls d H' → W cls d σ' H') ∧ σ[0]? = some (some (.ref f)) ∧ H c' = some (LamX.CodeO c' q) ∧ tl Ech H fun _ H' => D.nx σ H')
      rfl rfl sc__law_bad_saying.nd rfl rfl ⟨rfl, by decide, Or.inl hB⟩ takes0 (fun W pn xe tk po => ?_)
      (fun a oe cls d pn hz hf => pss_one (ps_ret (pe_ifExp (pt_val (pe_callB (call_isD M.isC hz hf) (by rfl) m_isinstance (by decide +kernel) (pa_cons (pv 1) (pa_cons (pe_bltn (v := .ty "ValueError") (u := .type "ValueError") rfl m_ValueError (by decide +kernel) rfl) pa_nil)))) (pe_xf M.xf plain hz hf (pv 1)) pe_str))))
    (pss_one (ps_ret pe_non)), ?_⟩
  · refine ⟨fun pins s' σ H' D I h' => ?_⟩
    obtain ⟨Ech, hW, h1, h2, h3⟩ := h'
    exact (pss_one (ps_expr (act (fun cls d σ H => σ.length = 2 → W cls d σ H) pn xe Ech _ _ (takes_len tk) fun cls d σ' H' e l => hW cls d σ' H' l e))).run pins s' σ H' D I ⟨h1, h2, h3⟩
  · refine ⟨_, fun cls d σ' H' hl h' => ?_, rfl, hc, h⟩
    obtain ⟨w0, w1, rfl⟩ : ∃ w0 w1, σ' = [w0, w1] := by
      match σ', hl with
      | [w0, w1], _ => exact ⟨w0, w1, rfl⟩
    obtain ⟨rfl, dd, y, rfl, hd, k⟩ := h'
    refine ⟨true, M.me, fun _ a0 ha0 => ?_, fun z => by cases z⟩
    refine ⟨_, rfl, rfl, ⟨dd, _, rfl, hd⟩, _, .type "ValueError", true, rfl, (fun u hu => hu), M.up, _, rfl, iteT ?_⟩
    exact ⟨_, rfl, rfl, rfl, dd, _, _, rfl, hd, rfl, k⟩
end
end KN


set_option Elab.async false
set_option linter.all false
set_option maxRecDepth 100000
set_option maxHeartbeats 4000000
namespace KN
open PySem L2
/-! Rows that are sayings, held against one another. -/
theorem due_none {d1 d2 p1 p2 p3 : PyData} (h : dueD d1 d2 p1 p2 p3 = none) : sideB 3 d1 = true ∧ sideB 3 d2 = true ∧ badP p1 = false ∧ badP p2 = false ∧ badP p3 = false := by
  unfold dueD at h
  cases e1 : sideB 3 d1 with
  | false => rw [if_pos e1] at h; cases h
  | true =>
    rw [if_neg (by rw [e1]; decide)] at h
    cases e2 : sideB 3 d2 with
    | false => rw [if_pos (.inl e2)] at h; cases h
    | true =>
      by_cases e3 : firstI d2 = firstI d1
      · rw [if_pos (.inr e3)] at h; cases h
      · rw [if_neg (fun z => z.elim (fun z => by rw [e2] at z; cases z) e3)] at h
        unfold unsaid at h
        cases b1 : badP p1 with
        | true => rw [if_pos b1] at h; cases h
        | false =>
          cases b2 : badP p2 with
          | true => rw [if_neg (by rw [b1]; decide), if_pos b2] at h; cases h
          | false =>
            cases b3 : badP p3 with
            | true => rw [if_neg (by rw [b1]; decide), if_neg (by rw [b2]; decide), if_pos b3] at h; cases h
            | false => exact ⟨rfl, rfl, rfl, rfl, rfl⟩
theorem word_ok {d : PyData} (h : wordB d = true) : ∃ s, d = .str s ∧ s.length ≤ 12 ∧ PyData.strOk s = true := by
  cases d with
  | str s =>
    have w := isWB_iff.mp (show isWB s = true from h)
    exact ⟨s, rfl, by rw [slen]; exact w.2.1, by
      show s.cps.all (· < 0x110000) = true
      rw [Array.all_eq_true_iff_forall_mem]
      intro c hc
      have := w.2.2 c (by show c ∈ s.cps.toList; simpa using hc)
      exact decide_eq_true (by omega)⟩
  | _ => cases h
theorem node_form {d : PyData} (h : nodeB d = true) : ∃ i s, d = .tuple [.int i, .str s] ∧ s.length ≤ 12 ∧ PyData.strOk s = true := by
  match d, h with
  | .tuple [a, b], h =>
    obtain ⟨h1, h2⟩ := Bool.and_eq_true_iff.mp (show (numB 0 5 a && wordB b) = true from h)
    obtain ⟨s, rfl, l, o⟩ := word_ok h2
    cases a with
    | int i => exact ⟨i, s, rfl, l, o⟩
    | _ => cases h1
theorem side_form {d : PyData} (h : sideB 3 d = true) : ∃ k i s, d = .tuple [.int k, .tuple [.int i, .str s]] ∧ s.length ≤ 12 ∧ PyData.strOk s = true := by
  match d, h with
  | .tuple [a, b], h =>
    obtain ⟨h1, h2⟩ := Bool.and_eq_true_iff.mp (show (numB 0 (3 - 1) a && nodeB b) = true from h)
    obtain ⟨i, s, rfl, l, o⟩ := node_form h2
    cases a with
    | int k => exact ⟨k, i, s, rfl, l, o⟩
    | _ => cases h1
theorem side_shaped {d : PyData} (h : sideB 3 d = true) : SeqAt.shaped d = true := by
  obtain ⟨k, i, s, rfl, l, o⟩ := side_form h
  show (PyData.canLay0 _ && decide (PyData.depth _ ≤ 64)) = true
  simp [PyData.canLay0, PyData.canLayAll0, o, PyData.depth, PyData.depthAll]
theorem part_form {p : PyData} (h : badP p = false) : p = .none ∨ ∃ b, p = .bool b := by
  cases p with
  | none => exact .inl rfl
  | bool b => exact .inr ⟨b, rfl⟩
  | _ => cases h
theorem part_shaped {p : PyData} (h : badP p = false) : SeqAt.shaped p = true := by
  rcases part_form h with rfl | ⟨b, rfl⟩
  · rfl
  · rfl
theorem Tp.side {H : Hp} {v : V} {d : PyData} (t : Tp H v d) (h : sideB 3 d = true) : Ob H v d := by
  obtain ⟨k, i, s, rfl, l, o⟩ := side_form h
  cases t with
  | tup e r =>
    cases r with
    | cons a r =>
      cases a
      cases r with
      | cons b r =>
        cases r
        cases b with
        | tup e2 r2 =>
          cases r2 with
          | cons c r2 =>
            cases c
            cases r2 with
            | cons d r2 =>
              cases r2
              cases d
              exact .tup e (.cons (.int _) (.cons (.tup e2 (.cons (.int _) (.cons (.str _ ⟨by omega, o⟩) .nil))) .nil))
theorem Ob.side {H : Hp} {v : V} {d : PyData} (t : Ob H v d) (h : sideB 3 d = true) : Tp H v d := by
  obtain ⟨k, i, s, rfl, l, o⟩ := side_form h
  cases t with
  | tup e r =>
    cases r with
    | cons a r =>
      cases a
      cases r with
      | cons b r =>
        cases r
        cases b with
        | tup e2 r2 =>
          cases r2 with
          | cons c r2 =>
            cases c
            cases r2 with
            | cons d r2 =>
              cases r2
              cases d
              exact .tup e (.cons (.int _) (.cons (.tup e2 (.cons (.int _) (.cons (.str _) .nil))) .nil))
theorem Tp.part {H : Hp} {v : V} {d : PyData} (t : Tp H v d) (h : badP d = false) : Ob H v d := by
  rcases part_form h with rfl | ⟨b, rfl⟩
  · cases t; exact .non
  · cases t; exact .bl b
theorem Ob.part {H : Hp} {v : V} {d : PyData} (t : Ob H v d) (h : badP d = false) : Tp H v d := by
  rcases part_form h with rfl | ⟨b, rfl⟩
  · cases t; exact .non
  · cases t; exact .bl b
/-- a row that is a saying's -/
def GoodR (H : Hp) (a : Addr) (r : List PyData) : Prop := ∃ (v1 v2 u1 u2 u3 : V) (d1 d2 p1 p2 p3 : PyData), r = [d1, d2, p1, p2, p3] ∧ H a = some (.tup [v1, v2, u1, u2, u3]) ∧ Tp H v1 d1 ∧ Tp H v2 d2 ∧ Tp H u1 p1 ∧ Tp H u2 p2 ∧ Tp H u3 p3 ∧ dueD d1 d2 p1 p2 p3 = none
theorem GoodR.to {H H' : Hp} {a : Addr} {r : List PyData} (h : GoodR H a r) (k : TK H H') : GoodR H' a r :=
  let ⟨v1, v2, u1, u2, u3, d1, d2, p1, p2, p3, e, h, a, b, c, d, f, g⟩ := h
  ⟨v1, v2, u1, u2, u3, d1, d2, p1, p2, p3, e, k _ _ h, a.to k, b.to k, c.to k, d.to k, f.to k, g⟩
theorem GoodR.tp {H : Hp} {a : Addr} {r : List PyData} (h : GoodR H a r) : Tp H (.ref a) (.tuple r) := by
  obtain ⟨v1, v2, u1, u2, u3, d1, d2, p1, p2, p3, rfl, h, a, b, c, d, f, g⟩ := h
  exact .tup h (.cons a (.cons b (.cons c (.cons d (.cons f .nil)))))
theorem GoodR.sh {H : Hp} {a : Addr} {r : List PyData} (h : GoodR H a r) : ∀ d ∈ r, SeqAt.shaped d = true := by
  obtain ⟨v1, v2, u1, u2, u3, d1, d2, p1, p2, p3, rfl, h, a, b, c, d, f, g⟩ := h
  obtain ⟨g1, g2, g3, g4, g5⟩ := due_none g
  intro d hd
  simp only [List.mem_cons, List.not_mem_nil, or_false] at hd
  rcases hd with rfl | rfl | rfl | rfl | rfl
  · exact side_shaped g1
  · exact side_shaped g2
  · exact part_shaped g3
  · exact part_shaped g4
  · exact part_shaped g5
theorem GoodR.shaped {H : Hp} {a : Addr} {r : List PyData} (h : GoodR H a r) : SeqAt.shaped (.tuple r) = true := by
  obtain ⟨v1, v2, u1, u2, u3, d1, d2, p1, p2, p3, rfl, h, a, b, c, d, f, g⟩ := h
  obtain ⟨g1, g2, g3, g4, g5⟩ := due_none g
  obtain ⟨_, _, s1, rfl, _, z1⟩ := side_form g1
  obtain ⟨_, _, s2, rfl, _, z2⟩ := side_form g2
  show (PyData.canLay0 _ && decide (PyData.depth _ ≤ 64)) = true
  rcases part_form g3 with rfl | ⟨_, rfl⟩ <;> rcases part_form g4 with rfl | ⟨_, rfl⟩ <;> rcases part_form g5 with rfl | ⟨_, rfl⟩ <;>
    simp [PyData.canLay0, PyData.canLayAll0, z1, z2, PyData.depth, PyData.depthAll]
end KN


set_option Elab.async false
set_option linter.all false
set_option maxRecDepth 100000
set_option maxHeartbeats 4000000
namespace KN
open PySem L2
theorem op_cmpOK {X : Cx} {n : Nat} {C f : Addr} {fd : FuncData} {ps : List Str} {sp : Sp} (K : PySem.W.Frag) (op : CmpOp) (neg : Bool) (hop : op = .Eq ∧ neg = false ∨ op = .NotEq ∧ neg = true) (F : FnOk X.prog X.w K X.mg X.base C8.CX0 n f fd ps sp) (o : OwnEq K C f) (hb : Binds K fd ps []) (hr : Room (n + 1) X.A) (h : X.K = K := by rfl) : OpR X (compareOp op) (rCmpO K C sp neg) := by
  subst h; exact op_cmpO op neg hop F o hb hr
/-- the class's == as its users want it -/
structure EqAt (P : Program) (w : World) (K : PySem.W.Frag) (mg : Str → Option Value) (base : Heap) (C : Addr) : Prop where
  ex : ∃ (f : Addr) (fd : FuncData), FnOk P w K mg base C8.CX0 1 f fd ["self", "other"] (spEqS K C) ∧ OwnEq K C f ∧ Binds K fd ["self", "other"] []
  no : ∀ t ∈ ["NoneType", "tuple", "int", "str", "list", "dict"], PySem.W.kitOne K (.type t) (.ref C) = some false
  nf : ∀ t ∈ ["NoneType", "tuple", "int", "str", "list", "dict"], PySem.W.notFirst K C (.type t) = true
theorem own_first (K : PySem.W.Frag) (C : Addr) : PySem.W.notFirst K C (.ref C) = true := by
  unfold PySem.W.notFirst; rw [beq_self_eq_true]; rfl
def spSame (C : Addr) : Sp := fun vs H Q _ => ∃ (a b : Addr) (r r2 : List PyData), vs = [.ref a, .ref b] ∧ GoodR H a r ∧ GoodR H b r2 ∧ ∀ H', Same H H' → Q (.bl true) H'
/-- what a row that is a saying's gives to its making -/
theorem GoodR.made {C CB : Addr} {H : Hp} {a : Addr} {r : List PyData} (g : GoodR H a r) {Q : VK} {E : XK} (k : ∀ H' t, Same H H' → SayAt C H' t r → Q (.ref t) H') : spMade C CB [.ref a] H Q E := by
  have sh := g.sh
  obtain ⟨v1, v2, u1, u2, u3, d1, d2, p1, p2, p3, rfl, h, t1, t2, t3, t4, t5, due⟩ := g
  obtain ⟨g1, g2, g3, g4, g5⟩ := due_none due
  exact ⟨a, v1, v2, u1, u2, u3, d1, d2, p1, p2, p3, rfl, h, t1.side g1, t2.side g2, t3.part g3, t4.part g4, t5.part g5, (fun part e => by rw [due] at e; cases e),
    fun _ H' t dx s _ ht => k H' t s ⟨⟨dx, v1, v2, u1, u2, u3, d1, d2, p1, p2, p3, rfl, ht, t1.to (TK.of s), t2.to (TK.of s), t3.to (TK.of s), t4.to (TK.of s), t5.to (TK.of s)⟩, sh⟩⟩
section
variable {P : Program} {w : World} {K : PySem.W.Frag} {mg : Str → Option Value} {base : Heap} {C CB : Addr}
theorem sc__law_same_right : FnScope ["_law_row", "_law_other", "_law_one", "_law_two", "_law_thing"] ["_law_row", "_law_other"] (defScope s__law_same_right) := ⟨rfl, rfl, rfl, by decide +kernel, rfl, by decide +kernel, by decide +kernel⟩
theorem ok__law_same_right {f : Addr} {fd : FuncData} (F : Fun K "_law_same_right" "_law_same_right" s__law_same_right f fd) (I : C8.InsC K C) (Eq_ : EqAt P w K mg base C) (c__law_made : CalX P w K mg base 6 "_law_made" (spMade C CB) []) : FnOk P w K mg base CX0 7 f fd ["_law_row", "_law_other"] (spSame C) := by
  refine F.ok sc__law_same_right (fun vs H Q E h => ?_) (fun cdv A outer s H vs Q E hr h => ?_)
  · obtain ⟨a, b, r, r2, rfl, _⟩ := h; rfl
  · obtain ⟨a, b, r, r2, rfl, ga, gb, k⟩ := h
    obtain ⟨fe, fde, Fe, Oe, be⟩ := Eq_.ex
    refine ⟨_, (pss_cons (ps_asg (pe_tup (pa_cons (pe_cX c__law_made takes0 hr (by decide) rfl (pa_cons (pv 0) pa_nil)) (pa_cons (pe_cX c__law_made takes0 hr (by decide) rfl (pa_cons (pv 1) pa_nil)) pa_nil))) (pg_tup rfl (pgs_cons (pg_name (i := 2) sc__law_same_right.nd rfl (Or.inr rfl)) (pgs_cons (pg_name (i := 3) sc__law_same_right.nd rfl (Or.inl rfl)) pgs_nil))))
      (pss_cons (ps_if (PW.pt (pw_or (pt_cmpR op_ne (pe_cmpR (op_cmpO .Eq false (.inl ⟨rfl, rfl⟩) Fe Oe be (hr.mono (by decide))) (pv 2) (pv 3) (nomark _)) (pe_cmpR (op_eqD hr.units) (pv 0) (pv 1) (nomark _)) (nomark _)) (pw_or1 (pt_cmpR op_ne (pe_cmpR (op_cmpO .NotEq true (.inr ⟨rfl, rfl⟩) Fe Oe be (hr.mono (by decide))) (pv 2) (pv 3) (nomark _)) (pe_cmpR (op_neD hr.units) (pv 0) (pv 1) (nomark _)) (nomark _))))) (pss_one (ps_ret pe_bl)) pss_nil)
      (pss_one (ps_ret (pe_cmpR (op_eqD hr.units) (pe_lc (own := [("_law_thing", 4)]) (g := gName 4) rfl sc__law_same_right.nd (pi_tup (pe_tup (pa_cons pe_non (pa_cons (pv 0) (pa_cons pe_int (pa_cons pe_str (pa_cons (pe_lst (pa_cons (pv 2) pa_nil)) (pa_cons pe_dnewK pa_nil)))))))) (blkOk_by (own := [("_law_thing", 4)]) (N := ["_law_row", "_law_other", "_law_one", "_law_two", "_law_thing"]) (sc := defScope s__law_same_right) (by decide +kernel)) (fun _ _ _ _ _ => pg_name (i := 4) sc__law_same_right.nd rfl (Or.inl rfl)) (fun _ _ _ _ _ => (pts_one (pt_cmpR (op_cmpOK K .Eq false (.inl ⟨rfl, rfl⟩) Fe Oe be (hr.mono (by decide))) (pv 2) (pv 4) (nomark _)))) (fun _ _ _ _ _ => (pv 4))) (pe_lst pa_nil) (nomark _)))))), ?_⟩
    refine ⟨_, rfl, ?_⟩
    dsimp only [tCons, tNil, List.cons_append, List.nil_append, List.append_nil]
    refine ga.made fun H1 t1 s1 z1 => ?_
    refine ⟨_, rfl, ?_⟩
    dsimp only [tCons, tNil, List.cons_append, List.nil_append, List.append_nil]
    refine (gb.to (TK.of s1)).made fun H2 t2 s2 z2 => ?_
    refine ⟨by show 2 ≤ sizeLine; decide, fun tp htp => ?_⟩
    have s3 := Same.new (o := .tup [.ref t1, .ref t2]) htp
    have e3 := upd_same (H := H2) (a := tp) (o := .tup [.ref t1, .ref t2])
    have z1 := (z1.to s2).to s3
    have z2 := z2.to s3
    have sq := (s1.trans s2).trans s3
    generalize upd H2 tp (.tup [.ref t1, .ref t2]) = H3 at s3 e3 z1 z2 sq ⊢
    refine ⟨tp, _, rfl, SqT.of e3, rfl, _, _, rfl, _, _, rfl, rfl, ?_⟩
    obtain ⟨⟨dx, w1, w2, x1, x2, x3, e1, e2, q1, q2, q3, er, ht1, _⟩, _⟩ := id z1
    have ga3 := ga.to (TK.of sq)
    have gb3 := gb.to (TK.of sq)
    obtain ⟨⟨dy, y1, y2, y3, y4, y5, _, _, _, _, _, _, ht2, _⟩, _⟩ := id z2
    have own : TyX K H3 (.ref t2) (.ref C) := .base (.ins ht2 I.cl I.ha I.hn I.htk I.hm)
    refine ⟨_, rfl, _, rfl, t1, dx, _, _, rfl, ht1, own, own_first K C, t1, .ref t2, r, rfl, z1, .inl ⟨t2, r2, rfl, z2, _, rfl, ?_⟩⟩
    refine ⟨_, rfl, _, rfl, _, _, ga3.tp.d, gb3.tp.d, ga3.shaped, gb3.shaped, ?_⟩
    refine ⟨rfl, _, rfl, ?_⟩
    have b1 : ∀ e : Bool, (!decide (V.bl (if false = true then !e else e) = V.bl e)) = false := fun e => by cases e <;> rfl
    have b2 : ∀ e : Bool, (!decide (V.bl (if true = true then !e else e) = V.bl (!e))) = false := fun e => by cases e <;> rfl
    rw [b1]
    refine iteF ?_
    refine ⟨_, rfl, _, rfl, t1, dx, _, _, rfl, ht1, own, own_first K C, t1, .ref t2, r, rfl, z1, .inl ⟨t2, r2, rfl, z2, _, rfl, ?_⟩⟩
    refine ⟨_, rfl, _, rfl, _, _, ga3.tp.d, gb3.tp.d, ga3.shaped, gb3.shaped, ?_⟩
    refine ⟨rfl, _, rfl, ?_⟩
    rw [b2]
    refine iteF ?_
    have kq := k
    refine ⟨_, rfl, _, rfl, by show 1 ≤ sizeLine; decide, fun l1 hl1 => ?_⟩
    have s4 := Same.new (o := .lst [.ref t1]) hl1
    have e4 := upd_same (H := H3) (a := l1) (o := .lst [.ref t1])
    generalize upd H3 l1 (.lst [.ref t1]) = H4 at s4 e4 ⊢
    refine fun d1 hd1 => ?_
    have s5 := Same.new (o := .dK []) hd1
    have e5 := upd_same (H := H4) (a := d1) (o := .dK [])
    have e4 := s5 _ _ e4
    generalize upd H4 d1 (.dK []) = H5 at s5 e5 e4 ⊢
    refine ⟨by show 6 ≤ sizeLine; decide, fun tq htq => ?_⟩
    have s6 := Same.new (o := .tup [.non, .ref a, .int 0, .str "a", .ref l1, .ref d1]) htq
    have e6 := upd_same (H := H5) (a := tq) (o := .tup [.non, .ref a, .int 0, .str "a", .ref l1, .ref d1])
    have e5 := s6 _ _ e5
    have e4 := s6 _ _ e4
    have s46 := (s4.trans s5).trans s6
    generalize upd H5 tq (.tup [.non, .ref a, .int 0, .str "a", .ref l1, .ref d1]) = H6 at s46 e6 e5 e4 ⊢
    refine ⟨tq, rfl, ⟨_, SqT.of e6⟩, fun D hD => ?_⟩
    have z6 := z1.to s46
    have ga6 := ga3.to (TK.of s46)
    have ht6 := s46 _ _ ht1
    refine lc_tup (K := K) (a := tq) (xs := [.non, .ref a, .int 0, .str "a", .ref l1, .ref d1]) (fun i H' => Same H6 H' ∧ H' D = some (.lst []))
      ⟨Same.new hD, upd_same⟩ (fun i H' _ q => SqT.of (q.1 _ _ e6)) ?_ ?_
    · rintro i x H7 hi ⟨s7, eD⟩
      obtain ⟨ty, hty, mem⟩ : ∃ ty : String, TyX K H7 x (.type ty) ∧ ty ∈ ["NoneType", "tuple", "int", "str", "list", "dict"] := by
        match i, hi with
        | 0, hi => cases hi; exact ⟨"NoneType", .base .non, by decide⟩
        | 1, hi =>
          cases hi
          obtain ⟨_, _, _, _, _, _, _, _, _, _, _, hx, _⟩ := ga6
          exact ⟨"tuple", .base (.tup (s7 _ _ hx)), by decide⟩
        | 2, hi => cases hi; exact ⟨"int", .base (.int _), by decide⟩
        | 3, hi => cases hi; exact ⟨"str", .base (.str _), by decide⟩
        | 4, hi => cases hi; exact ⟨"list", .base (.lst (s7 _ _ e4)), by decide⟩
        | 5, hi => cases hi; exact ⟨"dict", .base (.dK (s7 _ _ e5)), by decide⟩
        | _ + 6, hi => simp at hi
      refine ⟨rfl, _, rfl, _, rfl, t1, dx, _, _, rfl, s7 _ _ ht6, hty, Eq_.nf ty mem, t1, x, r, rfl, z6.to s7, .inr ⟨_, hty, Eq_.no ty mem, _, rfl, _, rfl, iteF ?_⟩⟩
      exact ⟨s7, eD⟩
    · rintro H7 ⟨s7, eD⟩
      refine ⟨by show 0 ≤ sizeLine; decide, fun l2 hl2 => ?_⟩
      have s8 := Same.new (o := .lst []) hl2
      have ld : Ls (upd H7 l2 (.lst [])) D [] := ⟨_, s8 _ _ eD, .nil⟩
      have le : Ls (upd H7 l2 (.lst [])) l2 [] := ⟨_, upd_same, .nil⟩
      refine ⟨_, _, ld.dp, le.dp, rfl, rfl, ?_⟩
      exact k _ (((sq.trans s46).trans s7).trans s8)
end
end KN


set_option Elab.async false
set_option linter.all false
set_option maxRecDepth 100000
set_option maxHeartbeats 4000000
namespace KN
open PySem PySem.Spec PyProof.Rows L2
/-! d.update(d2); a def whose code object and its table are known; lambdas handed to the def that asks them. -/
def rUpdK : V → List V → Hp → VK → Prop := fun x xs H Q => ∃ (d o : Addr) (kvs more : List (Key × V)), x = .ref d ∧ xs = [.ref o] ∧ d ≠ o ∧ H d = some (.dK kvs) ∧ H o = some (.dK more) ∧ kvs.length + more.length ≤ sizeLine ∧ Q .non (upd H d (.dK (mergeK kvs more)))
theorem mt_updK {X : Cx} : MtR X "dict.update" rUpdK := by
  intro pins s σ H x xs v us Q I rx rxs h
  obtain ⟨d, o, kvs, more, rfl, rfl, ne, hd, ho, hz, q⟩ := h
  cases rx
  cases rxs with
  | cons ry rt =>
    cases rt
    cases ry
    obtain ⟨z1, sd, vs, rel, dd⟩ := dk_of I.hok hd
    obtain ⟨z2, so, ws, rel2, dd2⟩ := dk_of I.hok ho
    refine call_meetsIn PySem.F.slot_dict_update dd.typeIs PySem.F.entry_dict_update (PySem.F.args_dict_update_2 _ _) (meets_dict_update (mixKind X.prog X.w) d o ne so) ⟨vs, ws, dd, dd2, by rw [← rel.length, ← rel2.length]; exact hz, fun h' dd' _ hs => ?_⟩
    have he : ∃ q, h'.get? d = some q := let ⟨q, _, _, hq, _⟩ := dd'; ⟨q, hq⟩
    exact ⟨.non, _, d_write (t' := s.toks) I (by rw [hd]; exact True.intro) hs he (dk_new (Nat.le_trans (length_mergeK more kvs) hz) sd (KV.merge rel2 rel) dd'), rfl, q⟩
section
variable {P : Program} {w : World} {K : PySem.W.Frag} {mg : Str → Option Value} {base : Heap}
theorem okT {x qual : Str} {st : Stmt} {f cc : Addr} {fd : FuncData} {N ps : List Str} {k : Nat} {sp : Sp} (F : Fun K x qual st f fd) (hc : fd.code = .ref cc) (S : FnScope N ps (defScope st)) (len : ∀ vs H Q E, sp vs H Q E → vs.length = ps.length)
    (hbody : ∀ (A : Around) (outer : List Env) (s : Shared) (H : Hp) (vs : List V) (Q : VK) (E : XK), Room k (A.deeper (envOfC qual (defScope st) s.heap.objs.size f (.ref cc))) → sp vs H Q E →
      ∃ t, PSs (cxOf C8.CX0 P w K mg base N qual (defScope st) f (.ref cc) A outer s H E).nox (defBody st) t ∧ t { nx := fun _ H' => Q .non H', rt := Q } (L2.start N vs) H) : FnOk P w K mg base C8.CX0 (k + 1) f fd ps sp := by
  obtain ⟨oc, od, kV, doc, pm, an, cdv, ct, osl, rfl, lk, hcd⟩ := F.ex
  obtain rfl : cdv = .ref cc := hc
  exact fn_of lk hcd S len fun A outer s H vs Q E hr hsp => let ⟨t, ht, hq⟩ := hbody A outer s H vs Q E hr hsp; ⟨t, ht.nox, hq⟩
end
/-- the def that asks, as its callers want it -/
structure BadAt (K : PySem.W.Frag) (mg : Str → Option Value) (CB : Addr) : Prop where
  ex : ∃ (f : Addr) (fd : FuncData), Fun K "_law_bad_saying" "_law_bad_saying" s__law_bad_saying f fd ∧ Binds K fd ["_law_asked"] [] ∧ mg "_law_bad_saying" = some (.ref f)
  mgB : mg "BadSaying" = some (.ref CB)
  m_isi : mg "isinstance" = none
  m_val : mg "ValueError" = none
  met : ExcMet K CB "ValueError"
  plain : PySem.W.findIn K (.ref CB) "part" = some none
theorem pe_bad {X : Cx} {T : List (Addr × Str)} {c P CB : Addr} {j k : Nat} {params : Arguments} {body : Expr} {scope : Scope} {t : XK → TE} {p lpos pos : Pos} (B : BadAt X.K X.mg CB) (TB : LamX.TabB X.base X.mg c P) (hcode : X.env.code = .ref c)
    (hmT : (P, X.env.qual ++ "<lambda>") ∈ T) (hu : ∀ p ∈ T, p.1 = P → p.2 = X.env.qual ++ "<lambda>") (hr : Room j X.A) (hj : k + 2 ≤ j) (hg : Gl X "_law_bad_saying") (L : LamX.LamS X.env.scope scope)
    (hbody : ∀ (A : Around) (outer : List Env) (s : Shared) (H : Hp) (E : XK) (f c' : Addr), Room k (A.deeper (LamX.lamEnv X scope s.heap.objs.size f c')) → PE (LamX.lamCx X A outer s H E scope f c') body (t E))
    (hdef : defaultsOf params X.env = ([], []) := by rfl) (hbind : ∀ (q : Str) (cl : List (Str × Addr)) (pm cv ctv : Value), bindArgs (PySem.W.kla_fn "<lambda>" q params body scope cl pm cv ctv) ⟨[], []⟩ = pure [] := by intros; rfl) :
    PE X (.Call (.Name "_law_bad_saying" p) [.Lambda params body scope lpos] [] pos) (LamX.tLam T (TTbad CB) t) := by
  obtain ⟨f, fd, F, hb, hm⟩ := B.ex
  have keep := F.2
  obtain ⟨oc, od, kV, doc, pm, an, cdv, ct, osl, rfl, lk, hcd⟩ := F.ex
  exact LamX.pe_lamcall hg hm keep lk hcd hb sc__law_bad_saying rfl (.inl rfl) (bad_gives B.mgB B.m_isi B.m_val B.met B.plain) TB hcode hmT hu (hr.mono hj) L hdef hbind hbody
end KN


set_option Elab.async false
set_option linter.all false
set_option maxRecDepth 100000
set_option maxHeartbeats 4000000
namespace KN
open PySem L2
/-- all but p and the tables stays -/
def KpN (p : Addr) (H H' : Hp) : Prop := ∀ a o, a ≠ p → H a = some o → (∀ ps, o ≠ .tbl ps) → H' a = some o
theorem KpN.of {p : Addr} {H H' : Hp} (k : Kp p H H') : KpN p H H' := fun a o n e _ => k a o n e
theorem KpN.ext {p : Addr} {H H' : Hp} (k : LamX.ExtN H H') : KpN p H H' := fun a o _ e n => k a o e n
theorem KpN.trans {p : Addr} {H H1 H2 : Hp} (a : KpN p H H1) (b : KpN p H1 H2) : KpN p H H2 := fun c o n e t => b c o n (a c o n e t) t
/-- tuples stay -/
theorem KpN.tk {H H' : Hp} {p c : Addr} {b : Int} (k : KpN p H H') (pen : Pen H p c b) : TK H H' := fun a xs e => k a _ (pen.ne' e) e (fun ps z => by cases z)
theorem tk_ext {H H' : Hp} (k : LamX.ExtN H H') : TK H H' := fun a xs e => k a _ e (fun ps z => by cases z)
theorem Pen.ext {H H' : Hp} {p c : Addr} {b : Int} (h : Pen H p c b) (k : LamX.ExtN H H') : Pen H' p c b :=
  let ⟨n, m, ns, e1, e2, r⟩ := h
  ⟨n, m, ns, k _ _ e1 (fun ps z => by cases z), k _ _ e2 (fun ps z => by cases z), r⟩
theorem codeO_dK {c : Addr} {q : Str} {kvs : List (Key × V)} : LamX.CodeO c q ≠ .dK kvs := fun z => by unfold LamX.CodeO at z; cases z
/-- the tables stay, whatever the pen does -/
theorem tabs_kp {T : List (Addr × Str)} {H H' : Hp} {p c : Addr} {b : Int} (t : LamX.Tabs T H) (k : Kp p H H') (pen : Pen H p c b) : LamX.Tabs T H' := fun q hq => by
  obtain ⟨ps, h1, h2, h3⟩ := t q hq
  obtain ⟨n, m, ns, e1, _⟩ := pen
  refine ⟨ps, k _ _ (fun z => by rw [z, e1] at h1; cases h1) h1, h2, fun pos cv hc => ?_⟩
  obtain ⟨c0, e, hco⟩ := h3 pos cv hc
  exact ⟨c0, e, k _ _ (fun z => by rw [z, e1] at hco; exact codeO_dK (Option.some.inj hco).symm) hco⟩
theorem tabs_same {T : List (Addr × Str)} {H H' : Hp} (t : LamX.Tabs T H) (s : Same H H') : LamX.Tabs T H' := t.ext s
theorem putK_new {kvs : List (Key × V)} {k : Key} {v : V} (h : k ∉ kvs.map (·.1)) : putK kvs k v = kvs ++ [(k, v)] := by
  unfold putK
  rw [if_neg]
  intro z
  obtain ⟨q, hq, e⟩ := List.any_eq_true.mp z
  exact h (List.mem_map.mpr ⟨q, hq, of_decide_eq_true e⟩)
theorem merge_app : ∀ (more kvs : List (Key × V)), ((kvs ++ more).map (·.1)).Nodup → mergeK kvs more = kvs ++ more
  | [], kvs, _ => by simp [mergeK]
  | q :: r, kvs, h => by
    have h1 : q.1 ∉ kvs.map (·.1) := fun z => by
      rw [List.map_append, List.nodup_append] at h
      exact h.2.2 _ z _ (by simp) rfl
    show mergeK (putK kvs q.1 q.2) r = _
    rw [putK_new h1, merge_app r (kvs ++ [(q.1, q.2)]) (by simpa using h)]
    simp
theorem val_at : ∀ {kvs : List (Key × V)} {i : Nat} {k : Key} {v : V}, (kvs.map (·.1)).Nodup → kvs[i]? = some (k, v) → valV kvs k = some v
  | [], _, _, _, _, e => by simp at e
  | (k0, v0) :: r, 0, k, v, _, e => by
    rw [List.getElem?_cons_zero] at e; cases e; exact valV_pos rfl
  | (k0, v0) :: r, i + 1, k, v, h, e => by
    rw [List.getElem?_cons_succ] at e
    obtain ⟨h1, h2⟩ := List.nodup_cons.mp h
    have n : ¬ k0 = k := fun z => h1 (by subst z; exact List.mem_map.mpr ⟨_, List.mem_of_getElem? e, rfl⟩)
    rw [valV_neg n]
    exact val_at h2 e
theorem due_ok {d1 d2 : PyData} (g1 : sideB 3 d1 = true) (g2 : sideB 3 d2 = true) (n : firstI d2 ≠ firstI d1) (a b c : Bool) : dueD d1 d2 (.bool a) (.bool b) (.bool c) = none := by
  unfold dueD
  rw [if_neg (by rw [g1]; decide), if_neg (fun z => z.elim (fun z => by rw [g2] at z; cases z) n)]
  rfl
def spSaidR (T : List (Addr × Str)) : Sp := fun vs H Q _ => ∃ (p c : Addr) (b : Int) (v1 v2 : V) (d1 d2 : PyData), vs = [.ref p, v1, v2] ∧ Pen H p c b ∧ b ≤ 1000000000 ∧ LamX.Tabs T H ∧ Tp H v1 d1 ∧ Tp H v2 d2 ∧ sideB 3 d1 = true ∧ sideB 3 d2 = true ∧ firstI d2 ≠ firstI d1 ∧
  ∀ H', KpN p H H' → Pen H' p c (b + 1) → LamX.Tabs T H' → Q (.bl true) H'
section
variable {P : Program} {w : World} {K : PySem.W.Frag} {mg : Str → Option Value} {base : Heap} {C CB : Addr}
theorem sc__law_said_right : FnScope ["_law_pen_here", "_law_one", "_law_other", "_law_parts", "_law_word", "_law_told", "_law_odd"] ["_law_pen_here", "_law_one", "_law_other"] (defScope s__law_said_right) := ⟨rfl, rfl, rfl, by decide +kernel, rfl, by decide +kernel, by decide +kernel⟩
theorem ok__law_said_right {f : Addr} {fd : FuncData} (F : Fun K "_law_said_right" "_law_said_right" s__law_said_right f fd) {T : List (Addr × Str)} {c1 P1 : Addr} (hcc : fd.code = .ref c1) (TB : LamX.TabB base mg c1 P1) (hmT : (P1, ("_law_said_right" : Str) ++ ".<locals>." ++ "<lambda>") ∈ T) (huT : ∀ p ∈ T, p.1 = P1 → p.2 = ("_law_said_right" : Str) ++ ".<locals>." ++ "<lambda>")
    (B : BadAt K mg CB) (I : C8.InsC K C) (S : SaT K C) (Eq_ : EqAt P w K mg base C) (c__law_made : CalX P w K mg base 6 "_law_made" (spMade C CB) []) (c_said : CalX P w K mg base 6 "said" (spSaid K C CB) []) (c__law_pick : C8.Cal P w K mg base 2 "_law_pick" spPick []) : FnOk P w K mg base C8.CX0 9 f fd ["_law_pen_here", "_law_one", "_law_other"] (spSaidR T) := by
  refine okT F hcc sc__law_said_right (fun vs H Q E h => ?_) (fun A outer s H vs Q E hr h => ?_)
  · obtain ⟨p, c, b, v1, v2, d1, d2, rfl, _⟩ := h; rfl
  · obtain ⟨p, c, b, v1, v2, d1, d2, rfl, pen, hb, tabs, t1, t2, g1, g2, gne, k⟩ := h
    obtain ⟨fe, fde, Fe, Oe, be⟩ := Eq_.ex
    have hu := hu_of hr
    refine ⟨_, (pss_cons (ps_set (i := 3) sc__law_said_right.nd rfl (Or.inl rfl) (pe_disp (pps_cons pe_str (pe_tup (pa_cons pe_bl (pa_cons pe_bl (pa_cons pe_bl pa_nil)))) (pps_cons pe_str (pe_tup (pa_cons pe_bl (pa_cons pe_bl (pa_cons pe_bl pa_nil)))) (pps_cons pe_str (pe_tup (pa_cons pe_bl (pa_cons pe_bl (pa_cons pe_bl pa_nil)))) pps_nil))) (by rfl) (by rfl) (fun z => by cases z) (by decide)))
      (pss_cons (ps_expr (pe_bm PySem.F.plainAttrs_dict PySem.F.slot_dict_update PySem.F.type_dict_update mt_updK (pv 3) (pa_cons (pe_disp (pps_cons pe_str (pe_tup (pa_cons pe_bl (pa_cons pe_bl (pa_cons pe_bl pa_nil)))) (pps_cons pe_str (pe_tup (pa_cons pe_bl (pa_cons pe_bl (pa_cons pe_bl pa_nil)))) pps_nil)) (by rfl) (by rfl) (fun z => by cases z) (by decide)) pa_nil)))
      (pss_cons (ps_lock (ps_for PassesOwn.never rfl (pi_keys (pv 3)) (pg_name (i := 4) sc__law_said_right.nd rfl (Or.inl rfl))
      (pss_cons (ps_set (i := 5) sc__law_said_right.nd rfl (Or.inl rfl) (pe_cX c_said takes0 hr (by decide) rfl (pa_cons (pv 1) (pa_cons (pv 2) (pa_cons (pv 4) pa_nil)))))
      (pss_one (ps_if (PW.pt (pw_or (pt_not (pt_cmpR (op_cmpO .Eq false (.inl ⟨rfl, rfl⟩) Fe Oe be (hr.mono (by decide))) (pv 5) (pe_cX c__law_made takes0 hr (by decide) rfl (pa_cons (pe_op op_catA (pe_tup (pa_cons (pv 1) (pa_cons (pv 2) pa_nil))) (pe_dget hu (pv 3) (pv 4) (fun _ _ => rfl))) pa_nil)) (nomark _))) (pw_or1 (pt_cmpR (op_neD hr.units) (pe_tup (pa_cons (pe_fld (pv 5) rfl) (pa_cons (pe_fld (pv 5) rfl) (pa_cons (pe_fld (pv 5) rfl) pa_nil)))) (pe_dget hu (pv 3) (pv 4) (fun _ _ => rfl)) (nomark _))))) (pss_one (ps_ret pe_bl)) pss_nil)))))
      (pss_cons (ps_set (i := 6) sc__law_said_right.nd rfl (Or.inr rfl) (C8.pe_c c__law_pick hr (by decide) rfl (pa_cons (pv 0) (pa_cons (pe_lst (pa_cons pe_str (pa_cons pe_str (pa_cons pe_str (pa_cons pe_non (pa_cons pe_int (pa_cons pe_bl (pa_cons (pe_tup (pa_cons pe_str pa_nil)) (pa_cons (pe_lst (pa_cons pe_str pa_nil)) (pa_cons pe_dnewK (pa_cons pe_str (pa_cons pe_str pa_nil)))))))))))) pa_nil))))
      (pss_cons (ps_if (pt_cmpR op_ne (pe_bad (k := 6) B TB rfl hmT huT hr (by decide) rfl (LamX.lamS_by (by rfl)) (fun A outer s H E f c' hr2 => (pe_cX c_said (takes_of rfl rfl rfl rfl) hr2 (by decide) rfl (pa_cons (pv 1) (pa_cons (pv 1) (pa_cons (pv 6) pa_nil)))))) pe_str (nomark _)) (pss_one (ps_ret pe_bl)) pss_nil)
      (pss_cons (ps_if (pt_cmpR op_ne (pe_bad (k := 6) B TB rfl hmT huT hr (by decide) rfl (LamX.lamS_by (by rfl)) (fun A outer s H E f c' hr2 => (pe_cX c_said (takes_of rfl rfl rfl rfl) hr2 (by decide) rfl (pa_cons pe_non (pa_cons pe_int (pa_cons (pv 6) pa_nil)))))) pe_str (nomark _)) (pss_one (ps_ret pe_bl)) pss_nil)
      (pss_one (ps_ret (pe_cmpR op_eq (pe_bad (k := 6) B TB rfl hmT huT hr (by decide) rfl (LamX.lamS_by (by rfl)) (fun A outer s H E f c' hr2 => (pe_cX c_said (takes_of rfl rfl rfl rfl) hr2 (by decide) rfl (pa_cons (pv 1) (pa_cons (pv 2) (pa_cons (pv 6) pa_nil)))))) pe_str (nomark _)))))))))), ?_⟩
    refine fun d0 hd0 => ?_
    have ndp : d0 ≠ p := fun z => by obtain ⟨⟨o, e⟩, _⟩ := pen.here; rw [z, e] at hd0; cases hd0
    refine ⟨by show 3 ≤ sizeLine; decide, fun ta hta => ⟨by show 3 ≤ sizeLine; decide, fun tb htb => ⟨by show 3 ≤ sizeLine; decide, fun tc htc => ?_⟩⟩⟩
    have sa := Same.new (o := .tup [.bl true, .bl false, .bl false]) hta
    have sb := Same.new (o := .tup [.bl true, .bl false, .bl true]) htb
    have sc := Same.new (o := .tup [.bl true, .bl true, .bl false]) htc
    have ea := sc _ _ (sb _ _ (upd_same (H := upd H d0 (.dK [])) (a := ta) (o := .tup [.bl true, .bl false, .bl false])))
    have eb := sc _ _ (upd_same (H := upd (upd H d0 (.dK [])) ta (.tup [.bl true, .bl false, .bl false])) (a := tb) (o := .tup [.bl true, .bl false, .bl true]))
    have ec := upd_same (H := upd (upd (upd H d0 (.dK [])) ta (.tup [.bl true, .bl false, .bl false])) tb (.tup [.bl true, .bl false, .bl true])) (a := tc) (o := .tup [.bl true, .bl true, .bl false])
    have s1 := ((Same.new (o := .dK []) hd0).trans (sa.trans (sb.trans sc)))
    have ed := sc _ _ (sb _ _ (sa _ _ (upd_same (H := H) (a := d0) (o := .dK []))))
    generalize upd (upd (upd (upd H d0 (.dK [])) ta (.tup [.bl true, .bl false, .bl false])) tb (.tup [.bl true, .bl false, .bl true])) tc (.tup [.bl true, .bl true, .bl false]) = H1 at ea eb ec s1 ed ⊢
    refine ⟨ed, [(.inr "same", .ref ta), (.inr "within", .ref tb), (.inr "round", .ref tc)], rfl, (by show 3 ≤ 15; decide), ?_⟩
    rw [show mergeK [] [((Sum.inr ("same" : Str) : Key), V.ref ta), (.inr "within", .ref tb), (.inr "round", .ref tc)] = [(.inr "same", .ref ta), (.inr "within", .ref tb), (.inr "round", .ref tc)] from merge_app _ _ (by show ([.inr "same", .inr "within", .inr "round"] : List Key).Nodup; decide +kernel)]
    have tne : ∀ {t : Addr} {xs : List V}, H1 t = some (.tup xs) → t ≠ d0 := fun e z => by rw [z, ed] at e; cases e
    have nta := tne ea
    have ntb := tne eb
    have ntc := tne ec
    have k2 : Kp d0 H1 (upd H1 d0 (.dK [(.inr "same", .ref ta), (.inr "within", .ref tb), (.inr "round", .ref tc)])) := Kp.put
    have e0 := upd_same (H := H1) (a := d0) (o := .dK [(.inr "same", .ref ta), (.inr "within", .ref tb), (.inr "round", .ref tc)])
    have kH : Same H (upd H1 d0 (.dK [(.inr "same", .ref ta), (.inr "within", .ref tb), (.inr "round", .ref tc)])) := fun a o e => k2 a o (ne_of_none e hd0) (s1 a o e)
    generalize upd H1 d0 (.dK [(.inr "same", .ref ta), (.inr "within", .ref tb), (.inr "round", .ref tc)]) = H2 at k2 e0 kH ⊢
    have ea := k2 _ _ nta ea
    have eb := k2 _ _ ntb eb
    have ec := k2 _ _ ntc ec
    clear sa sb sc s1 tne hta htb htc ed k2
    refine ⟨_, rfl, .inr (.inr (.inl ⟨rfl, .inl ⟨_, e0⟩⟩)), fun db hdb => ?_⟩
    refine ⟨by show 3 ≤ sizeLine; decide, fun td htd => ⟨by show 3 ≤ sizeLine; decide, fun te hte => ?_⟩⟩
    have sd := Same.new (o := .tup [.bl true, .bl true, .bl true]) htd
    have se := Same.new (o := .tup [.bl false, .bl true, .bl true]) hte
    have eD := se _ _ (upd_same (H := upd H2 db (.dK [])) (a := td) (o := .tup [.bl true, .bl true, .bl true]))
    have eE := upd_same (H := upd (upd H2 db (.dK [])) td (.tup [.bl true, .bl true, .bl true])) (a := te) (o := .tup [.bl false, .bl true, .bl true])
    have e1 := se _ _ (sd _ _ (upd_same (H := H2) (a := db) (o := .dK [])))
    have s3 := (Same.new (o := .dK []) hdb).trans (sd.trans se)
    have n01 : d0 ≠ db := fun z => by rw [← z, e0] at hdb; cases hdb
    generalize upd (upd (upd H2 db (.dK [])) td (.tup [.bl true, .bl true, .bl true])) te (.tup [.bl false, .bl true, .bl true]) = H3 at eD eE e1 s3 ⊢
    refine ⟨e1, [(.inr "cross", .ref td), (.inr "apart", .ref te)], rfl, (by show 2 ≤ 15; decide), ?_⟩
    rw [show mergeK [] [((Sum.inr ("cross" : Str) : Key), V.ref td), (.inr "apart", .ref te)] = [(.inr "cross", .ref td), (.inr "apart", .ref te)] from merge_app _ _ (by show ([.inr "cross", .inr "apart"] : List Key).Nodup; decide +kernel)]
    refine ⟨d0, db, _, _, rfl, rfl, n01, by rw [upd_ne n01]; exact s3 _ _ e0, upd_same, by show 5 ≤ sizeLine; decide, ?_⟩
    rw [show mergeK [((Sum.inr ("same" : Str) : Key), V.ref ta), (.inr "within", .ref tb), (.inr "round", .ref tc)] [(.inr "cross", .ref td), (.inr "apart", .ref te)] = [(.inr "same", .ref ta), (.inr "within", .ref tb), (.inr "round", .ref tc), (.inr "cross", .ref td), (.inr "apart", .ref te)] from merge_app _ _ (by show ([.inr "same", .inr "within", .inr "round", .inr "cross", .inr "apart"] : List Key).Nodup; decide +kernel)]
    have tn : ∀ {t : Addr} {xs : List V}, H3 t = some (.tup xs) → t ≠ d0 ∧ t ≠ db := fun e => ⟨(fun z => by rw [z, s3 _ _ e0] at e; cases e), (fun z => by rw [z, e1] at e; cases e)⟩
    have k4 : ∀ a o, a ≠ d0 → a ≠ db → H3 a = some o → upd (upd H3 db (.dK [(.inr "cross", .ref td), (.inr "apart", .ref te)])) d0 (.dK [(.inr "same", .ref ta), (.inr "within", .ref tb), (.inr "round", .ref tc), (.inr "cross", .ref td), (.inr "apart", .ref te)]) a = some o := fun a o n1 n2 e => by rw [upd_ne n1, upd_ne n2]; exact e
    have e0 := upd_same (H := upd H3 db (.dK [(.inr "cross", .ref td), (.inr "apart", .ref te)])) (a := d0) (o := .dK [(.inr "same", .ref ta), (.inr "within", .ref tb), (.inr "round", .ref tc), (.inr "cross", .ref td), (.inr "apart", .ref te)])
    generalize upd (upd H3 db (.dK [(.inr "cross", .ref td), (.inr "apart", .ref te)])) d0 (.dK [(.inr "same", .ref ta), (.inr "within", .ref tb), (.inr "round", .ref tc), (.inr "cross", .ref td), (.inr "apart", .ref te)]) = H4 at k4 e0 ⊢
    have sH : Same H H4 := fun a o e => k4 a o (ne_of_none e hd0) (ne_of_none (kH a o e) hdb) (s3 _ _ (kH a o e))
    have ea := k4 _ _ (tn (s3 _ _ ea)).1 (tn (s3 _ _ ea)).2 (s3 _ _ ea)
    have eb := k4 _ _ (tn (s3 _ _ eb)).1 (tn (s3 _ _ eb)).2 (s3 _ _ eb)
    have ec := k4 _ _ (tn (s3 _ _ ec)).1 (tn (s3 _ _ ec)).2 (s3 _ _ ec)
    have eD := k4 _ _ (tn eD).1 (tn eD).2 eD
    have eE := k4 _ _ (tn eE).1 (tn eE).2 eE
    clear sd se s3 kH k4 tn e1 htd hte hdb nta ntb ntc
    have hnd : ([((Sum.inr ("same" : Str) : Key), V.ref ta), (.inr "within", .ref tb), (.inr "round", .ref tc), (.inr "cross", .ref td), (.inr "apart", .ref te)].map (·.1)).Nodup := by
      show ([.inr "same", .inr "within", .inr "round", .inr "cross", .inr "apart"] : List Key).Nodup; decide +kernel
    have rows : ∀ (i : Nat) (k0 : Key) (v : V), [((Sum.inr ("same" : Str) : Key), V.ref ta), (.inr "within", .ref tb), (.inr "round", .ref tc), (.inr "cross", .ref td), (.inr "apart", .ref te)][i]? = some (k0, v) → ∃ (q : Str × Bool × Bool × Bool) (tq : Addr), q ∈ fiveW ∧ k0 = .inr q.1 ∧ v = .ref tq ∧ H4 tq = some (.tup [.bl q.2.1, .bl q.2.2.1, .bl q.2.2.2]) := by
      intro i k0 v hi
      match i, hi with
      | 0, hi => cases hi; exact ⟨("same", true, false, false), ta, by simp [fiveW], rfl, rfl, ea⟩
      | 1, hi => cases hi; exact ⟨("within", true, false, true), tb, by simp [fiveW], rfl, rfl, eb⟩
      | 2, hi => cases hi; exact ⟨("round", true, true, false), tc, by simp [fiveW], rfl, rfl, ec⟩
      | 3, hi => cases hi; exact ⟨("cross", true, true, true), td, by simp [fiveW], rfl, rfl, eD⟩
      | 4, hi => cases hi; exact ⟨("apart", false, true, true), te, by simp [fiveW], rfl, rfl, eE⟩
      | _ + 5, hi => simp at hi
    clear ea eb ec eD eE
    generalize [((Sum.inr ("same" : Str) : Key), V.ref ta), (.inr "within", .ref tb), (.inr "round", .ref tc), (.inr "cross", .ref td), (.inr "apart", .ref te)] = pk at e0 hnd rows ⊢
    refine ⟨d0, .dK pk, e0, trivial, fun od => ?_⟩
    have sF : ∀ a o, a ≠ d0 → H4 a = some o → upd H4 d0 (.frz od (.dK pk)) a = some o := fun a o n e => by rw [upd_ne n]; exact e
    have eF := upd_same (H := H4) (a := d0) (o := .frz od (.dK pk))
    have back : upd (upd H4 d0 (.frz od (.dK pk))) d0 (.dK pk) = H4 := by
      funext a
      by_cases h : a = d0
      · rw [h, upd_same, e0]
      · rw [upd_ne h, upd_ne h]
    refine ⟨_, rfl, d0, od, rfl, .inl ⟨pk, eF, for_it walk_keys (fun i σ' H' => (∃ x4 x5 : Option V, σ' = [some (.ref p), some v1, some v2, some (.ref d0), x4, x5, none]) ∧ Same (upd H4 d0 (.frz od (.dK pk))) H')
      ⟨⟨_, _, rfl⟩, Same.refl _⟩ (fun i σ' H' _ q => q.2 _ _ eF) ?_ ?_⟩⟩
    · rintro i x σ1 G1 G2 hi ⟨⟨x4, x5, rfl⟩, sG⟩ ⟨rfl, k0, v, hk, rfl⟩
      obtain ⟨q, tq, hq, rfl, rfl, htq⟩ := rows i k0 v hk
      have tkL : TK H G2 := fun a xs e => sG _ _ (sF a _ (fun z => by have h := sH _ _ e; rw [z, e0] at h; cases h) (sH _ _ e))
      have tq2 : G2 tq = some (.tup [.bl q.2.1, .bl q.2.2.1, .bl q.2.2.2]) := sG _ _ (sF tq _ (fun z => by rw [z, e0] at htq; cases htq) htq)
      have T1 := t1.to tkL
      have T2 := t2.to tkL
      have due := due_ok g1 g2 gne q.2.1 q.2.2.1 q.2.2.2
      refine ⟨_, rfl, _, rfl, _, rfl, v1, v2, .str q.1, rfl, .inr ⟨q, d1, d2, hq, rfl, T1.side g1, T2.side g2, due, fun G3 t dx s3 _ ht => ?_⟩⟩
      have eF3 := s3 _ _ (sG _ _ eF)
      have T1 := T1.to (TK.of s3)
      have T2 := T2.to (TK.of s3)
      have tq3 := s3 _ _ tq2
      have vq : valV pk (.inr q.1) = some (.ref tq) := val_at hnd hk
      have dg : ∀ {G : Hp}, G d0 = some (.frz od (.dK pk)) → DGet G d0 (.str q.1) (some (.ref tq)) := fun e => by
        rw [← vq]; exact .inl ⟨pk, .inr q.1, .inr ⟨od, e⟩, rfl, rfl⟩
      refine ⟨_, rfl, _, rfl, _, rfl, by show 2 ≤ sizeLine; decide, fun tw htw => ?_⟩
      have s4 := Same.new (o := .tup [v1, v2]) htw
      have ew := upd_same (H := G3) (a := tw) (o := .tup [v1, v2])
      generalize upd G3 tw (.tup [v1, v2]) = G4 at s4 ew ⊢
      refine ⟨_, rfl, _, rfl, d0, _, rfl, dg (s4 _ _ eF3), ?_⟩
      refine ⟨tw, tq, _, _, rfl, rfl, SqT.of ew, SqT.of (s4 _ _ tq3), by show 5 ≤ sizeLine; decide, (fun z => nomatch z), (fun _ z => nomatch z), fun _ _ ar har => ?_⟩
      have s5 := Same.new (o := .tup ([v1, v2] ++ [.bl q.2.1, .bl q.2.2.1, .bl q.2.2.2])) har
      have er := upd_same (H := G4) (a := ar) (o := .tup ([v1, v2] ++ [.bl q.2.1, .bl q.2.2.1, .bl q.2.2.2]))
      generalize upd G4 ar (.tup ([v1, v2] ++ [.bl q.2.1, .bl q.2.2.1, .bl q.2.2.2])) = G5 at s5 er ⊢
      have s35 := s4.trans s5
      have gr : GoodR G5 ar [d1, d2, .bool q.2.1, .bool q.2.2.1, .bool q.2.2.2] := ⟨_, _, _, _, _, _, _, _, _, _, rfl, er, T1.to (TK.of s35), T2.to (TK.of s35), .bl _, .bl _, .bl _, due⟩
      dsimp only [tCons, tNil, List.cons_append, List.nil_append, List.append_nil]
      refine gr.made fun G6 t6 s6 z6 => ?_
      have s36 := s35.trans s6
      have ht6 := s36 _ _ ht
      have zt : SayAt C G6 t [d1, d2, .bool q.2.1, .bool q.2.2.1, .bool q.2.2.2] := ⟨⟨dx, _, _, _, _, _, _, _, _, _, _, rfl, ht6, T1.to (TK.of s36), T2.to (TK.of s36), .bl _, .bl _, .bl _⟩, gr.sh⟩
      obtain ⟨⟨dy, _, _, _, _, _, _, _, _, _, _, _, hy, _⟩, _⟩ := id z6
      have own : TyX K G6 (.ref t6) (.ref C) := .base (.ins hy I.cl I.ha I.hn I.htk I.hm)
      have refl5 : PyData.eqv (.tuple [d1, d2, .bool q.2.1, .bool q.2.2.1, .bool q.2.2.2]) (.tuple [d1, d2, .bool q.2.1, .bool q.2.2.1, .bool q.2.2.2]) = true := SeqAt.eqv_refl _ (SeqAt.canLay_of_shaped gr.shaped)
      refine ⟨t, dx, _, _, rfl, ht6, own, own_first K C, t, .ref t6, _, rfl, zt, .inl ⟨t6, _, rfl, z6, _, rfl, ?_⟩⟩
      rw [refl5]
      refine ⟨_, rfl, iteF ?_⟩
      refine ⟨_, rfl, t, C, dx, _, _, rfl, ht6, S.cl, S.n3, say3 _ _ _ _ _, _, rfl, t, C, dx, _, _, rfl, ht6, S.cl, S.n4, say4 _ _ _ _ _, _, rfl, t, C, dx, _, _, rfl, ht6, S.cl, S.n5, say5 _ _ _ _ _, ?_⟩
      refine ⟨by show 3 ≤ sizeLine; decide, fun tv htv => ?_⟩
      have s7 := Same.new (o := .tup [.bl q.2.1, .bl q.2.2.1, .bl q.2.2.2]) htv
      have ev := upd_same (H := G6) (a := tv) (o := .tup [.bl q.2.1, .bl q.2.2.1, .bl q.2.2.2])
      generalize upd G6 tv (.tup [.bl q.2.1, .bl q.2.2.1, .bl q.2.2.2]) = G7 at s7 ev ⊢
      have s37 := s36.trans s7
      refine ⟨_, rfl, _, rfl, d0, _, rfl, dg (s37 _ _ eF3), ?_⟩
      have dA : Tp G7 (.ref tv) (.tuple [.bool q.2.1, .bool q.2.2.1, .bool q.2.2.2]) := .tup ev (.cons (.bl _) (.cons (.bl _) (.cons (.bl _) .nil)))
      have dB : Tp G7 (.ref tq) (.tuple [.bool q.2.1, .bool q.2.2.1, .bool q.2.2.2]) := .tup (s37 _ _ tq3) (.cons (.bl _) (.cons (.bl _) (.cons (.bl _) .nil)))
      refine ⟨_, _, dA.d, dB.d, rfl, rfl, _, rfl, ?_⟩
      rw [show PyData.eqv (.tuple [.bool q.2.1, .bool q.2.2.1, .bool q.2.2.2]) (.tuple [.bool q.2.1, .bool q.2.2.1, .bool q.2.2.2]) = true from SeqAt.eqv_refl _ rfl]
      refine iteF ?_
      exact ⟨⟨_, _, rfl⟩, (sG.trans s3).trans s37⟩
    · rintro σ1 G1 ⟨⟨x4, x5, rfl⟩, sG⟩
      refine ⟨sG _ _ eF, ?_⟩
      have sN : Same H4 (upd G1 d0 (.dK pk)) := fun a o e => by
        by_cases h : a = d0
        · rw [h, upd_same, ← e0, ← h]; exact e
        · rw [upd_ne h]; exact sG _ _ (sF a o h e)
      have sH := sH.trans sN
      generalize upd G1 d0 (.dK pk) = H5 at sH ⊢
      clear sN sF eF back sG rows hnd e0
      have pen5 := pen.to sH
      have tabs5 := tabs_same tabs sH
      refine ⟨_, rfl, by show 1 ≤ sizeLine; decide, fun w1 hw1 => ⟨by show 1 ≤ sizeLine; decide, fun w2 hw2 => fun w3 hw3 => ?_⟩⟩
      have u1 := Same.new (o := .tup [.str "same"]) hw1
      have u2 := Same.new (o := .lst [.str "same"]) hw2
      have u3 := Same.new (o := .dK []) hw3
      have o1 := u3 _ _ (u2 _ _ (upd_same (H := H5) (a := w1) (o := .tup [.str "same"])))
      have o2 := u3 _ _ (upd_same (H := upd H5 w1 (.tup [.str "same"])) (a := w2) (o := .lst [.str "same"]))
      have o3 := upd_same (H := upd (upd H5 w1 (.tup [.str "same"])) w2 (.lst [.str "same"])) (a := w3) (o := .dK [])
      have u13 := (u1.trans u2).trans u3
      generalize upd (upd (upd H5 w1 (.tup [.str "same"])) w2 (.lst [.str "same"])) w3 (.dK []) = H6 at o1 o2 o3 u13 ⊢
      refine ⟨by show 11 ≤ sizeLine; decide, fun l hl => ?_⟩
      have u4 := Same.new (o := .lst [.str "", .str "Same", .str "nothing", .non, .int 0, .bl true, .ref w1, .ref w2, .ref w3, .str "same ", .str "sam"]) hl
      have o1 := u4 _ _ o1
      have o2 := u4 _ _ o2
      have o3 := u4 _ _ o3
      have el := upd_same (H := H6) (a := l) (o := .lst [.str "", .str "Same", .str "nothing", .non, .int 0, .bl true, .ref w1, .ref w2, .ref w3, .str "same ", .str "sam"])
      generalize upd H6 l (.lst [.str "", .str "Same", .str "nothing", .non, .int 0, .bl true, .ref w1, .ref w2, .ref w3, .str "same ", .str "sam"]) = H7 at o1 o2 o3 u4 el ⊢
      have s57 := u13.trans u4
      have pen7 := pen5.to s57
      refine ⟨p, c, l, b, _, rfl, pen7, by omega, el, by simp, by show 11 ≤ 60; decide, fun H8 vo k8 pen8 hvo => ?_⟩
      have tabs8 := tabs_kp (tabs_same tabs5 s57) k8 pen7
      have npen : ∀ {a : Addr} {o : HO}, H7 a = some o → (∀ kvs, o = .dK kvs → kvs = []) → a ≠ p := fun e n z => by
        obtain ⟨_, _, _, e1, _⟩ := pen7
        rw [z, e1] at e
        have := n _ (Option.some.inj e).symm
        simp [penD] at this
      have o1 := k8 _ _ (npen o1 (fun _ z => by cases z)) o1
      have o2 := k8 _ _ (npen o2 (fun _ z => by cases z)) o2
      have o3 := k8 _ _ (npen o3 (fun _ z => by cases z; rfl)) o3
      have odd : ∀ {G : Hp}, LamX.ExtN H8 G → oddV K G vo := fun x => by
        simp only [List.mem_cons, List.not_mem_nil, or_false] at hvo
        rcases hvo with rfl | rfl | rfl | rfl | rfl | rfl | rfl | rfl | rfl | rfl | rfl
        · exact .inl ⟨_, rfl, by simp [oddW]⟩
        · exact .inl ⟨_, rfl, by simp [oddW]⟩
        · exact .inl ⟨_, rfl, by simp [oddW]⟩
        · exact .inr ⟨_, .base .non, kit_ty (by decide +kernel)⟩
        · exact .inr ⟨_, .base (.int _), kit_ty (by decide +kernel)⟩
        · exact .inr ⟨_, .base (.bl _), kit_ty (by decide +kernel)⟩
        · exact .inr ⟨_, .base (.tup (x _ _ o1 (fun _ z => by cases z))), kit_ty (by decide +kernel)⟩
        · exact .inr ⟨_, .base (.lst (x _ _ o2 (fun _ z => by cases z))), kit_ty (by decide +kernel)⟩
        · exact .inr ⟨_, .base (.dK (x _ _ o3 (fun _ z => by cases z))), kit_ty (by decide +kernel)⟩
        · exact .inl ⟨_, rfl, by simp [oddW]⟩
        · exact .inl ⟨_, rfl, by simp [oddW]⟩
      refine ⟨tabs8, fun G1 x1 tabs9 => ?_⟩
      refine ⟨_, rfl, _, rfl, _, rfl, v1, v1, vo, rfl, .inl ⟨odd x1, fun G2 dd y1 hd => ⟨rfl, dd, _, rfl, hd, ?_⟩⟩⟩
      refine ⟨rfl, _, rfl, iteF ?_⟩
      have x2 : LamX.ExtN H8 G2 := x1.trans (LamX.ExtN.of y1)
      refine ⟨tabs_same tabs9 y1, fun G3 x3 tabsA => ?_⟩
      have x3 := x2.trans x3
      refine ⟨_, rfl, .non, .int 0, vo, rfl, .inl ⟨odd x3, fun G4 dd2 y3 hd2 => ⟨rfl, dd2, _, rfl, hd2, ?_⟩⟩⟩
      refine ⟨rfl, _, rfl, iteF ?_⟩
      have x4 := x3.trans (LamX.ExtN.of y3)
      refine ⟨tabs_same tabsA y3, fun G5 x5 tabsB => ?_⟩
      have x5 := x4.trans x5
      refine ⟨_, rfl, _, rfl, _, rfl, v1, v2, vo, rfl, .inl ⟨odd x5, fun G6 dd3 y5 hd3 => ⟨rfl, dd3, _, rfl, hd3, ?_⟩⟩⟩
      refine ⟨rfl, ?_⟩
      have x6 := x5.trans (LamX.ExtN.of y5)
      exact k G6 ((KpN.of ((Kp.of (sH.trans s57)).trans k8)).trans (KpN.ext x6)) (pen8.ext x6) (tabs_same tabsB y5)
end
end KN


set_option Elab.async false
set_option linter.all false
set_option maxRecDepth 100000
set_option maxHeartbeats 4000000
namespace KN
open PySem L2
/-! What repr says of a saying's row fits. -/
theorem node_ints {d : PyData} (h : nodeB d = true) : ∃ i s, d = .tuple [.int i, .str s] ∧ s.length ≤ 12 ∧ PyData.strOk s = true ∧ 0 ≤ i ∧ i ≤ 5 := by
  match d, h with
  | .tuple [a, b], h =>
    obtain ⟨h1, h2⟩ := Bool.and_eq_true_iff.mp (show (numB 0 5 a && wordB b) = true from h)
    obtain ⟨s, rfl, l, o⟩ := word_ok h2
    cases a with
    | int i =>
      obtain ⟨z1, z2⟩ := Bool.and_eq_true_iff.mp (show (decide ((0 : Int) ≤ i) && decide (i ≤ 5)) = true from h1)
      exact ⟨i, s, rfl, l, o, of_decide_eq_true z1, of_decide_eq_true z2⟩
    | _ => cases h1
theorem side_ints {d : PyData} (h : sideB 3 d = true) : ∃ k i s, d = .tuple [.int k, .tuple [.int i, .str s]] ∧ s.length ≤ 12 ∧ PyData.strOk s = true ∧ 0 ≤ k ∧ k ≤ 5 ∧ 0 ≤ i ∧ i ≤ 5 := by
  match d, h with
  | .tuple [a, b], h =>
    obtain ⟨h1, h2⟩ := Bool.and_eq_true_iff.mp (show (numB 0 (3 - 1) a && nodeB b) = true from h)
    obtain ⟨i, s, rfl, l, o, i0, i1⟩ := node_ints h2
    cases a with
    | int k =>
      obtain ⟨z1, z2⟩ := Bool.and_eq_true_iff.mp (show (decide ((0 : Int) ≤ k) && decide (k ≤ 3 - 1)) = true from h1)
      have := of_decide_eq_true z1
      have := of_decide_eq_true z2
      exact ⟨k, i, s, rfl, l, o, by omega, by omega, i0, i1⟩
    | _ => cases h1
theorem int_short {i : Int} (h0 : 0 ≤ i) (h1 : i ≤ 5) : (PyData.int i).intsShort 13 = true ∧ (PyData.int i).weight ≤ 4 ∧ (PyData.int i).showable = true := by
  have : i = 0 ∨ i = 1 ∨ i = 2 ∨ i = 3 ∨ i = 4 ∨ i = 5 := by omega
  rcases this with rfl | rfl | rfl | rfl | rfl | rfl <;> exact ⟨by decide +kernel, by decide +kernel, by decide +kernel⟩
theorem side_show {d : PyData} (h : sideB 3 d = true) : d.intsShort 13 = true ∧ d.weight ≤ 40 ∧ d.showable = true ∧ d.hasDict = false ∧ d.depth ≤ 2 ∧ d.canLay0 = true := by
  obtain ⟨k, i, s, rfl, l, o, k0, k1, i0, i1⟩ := side_ints h
  obtain ⟨a1, a2, a3⟩ := int_short k0 k1
  obtain ⟨b1, b2, b3⟩ := int_short i0 i1
  have ls : s.cps.size ≤ 12 := by rw [slen, Array.length_toList] at l; exact l
  refine ⟨by simp [PyData.intsShort, PyData.intsShortAll] at a1 b1 ⊢; exact ⟨a1, b1⟩, ?_, ?_, by simp [PyData.hasDict, PyData.hasDictAll], by simp [PyData.depth, PyData.depthAll], by simp [PyData.canLay0, PyData.canLayAll0, o]⟩
  · simp only [PyData.weight, PyData.weightAll] at a2 b2 ⊢
    omega
  · simp [PyData.showable, PyData.showableAll] at a3 b3 ⊢
    exact ⟨a3, b3⟩
theorem part_show {d : PyData} (h : badP d = false) : d.intsShort 13 = true ∧ d.weight ≤ 40 ∧ d.showable = true ∧ d.hasDict = false ∧ d.depth ≤ 2 ∧ d.canLay0 = true := by
  rcases part_form h with rfl | ⟨b, rfl⟩
  · exact ⟨rfl, by simp [PyData.weight], rfl, rfl, by simp [PyData.depth], rfl⟩
  · exact ⟨rfl, by simp [PyData.weight], rfl, rfl, by simp [PyData.depth], rfl⟩
theorem row_show {d1 d2 p1 p2 p3 : PyData} (due : dueD d1 d2 p1 p2 p3 = none) : (PyData.tuple [d1, d2, p1, p2, p3]).showable = true ∧ (PyData.tuple [d1, d2, p1, p2, p3]).hasDict = false ∧ (PyData.tuple [d1, d2, p1, p2, p3]).depth ≤ 60 ∧ (PyData.tuple [d1, d2, p1, p2, p3]).shown.length ≤ sizeLine := by
  obtain ⟨g1, g2, g3, g4, g5⟩ := due_none due
  obtain ⟨a1, a2, a3, a4, a5, a6⟩ := side_show g1
  obtain ⟨b1, b2, b3, b4, b5, b6⟩ := side_show g2
  obtain ⟨c1, c2, c3, c4, c5, c6⟩ := part_show g3
  obtain ⟨e1, e2, e3, e4, e5, e6⟩ := part_show g4
  obtain ⟨f1, f2, f3, f4, f5, f6⟩ := part_show g5
  have hd : (PyData.tuple [d1, d2, p1, p2, p3]).depth ≤ 60 := by simp only [PyData.depth, PyData.depthAll]; omega
  refine ⟨by simp only [PyData.showable, PyData.showableAll, a3, b3, c3, e3, f3, Bool.and_self], by simp only [PyData.hasDict, PyData.hasDictAll, a4, b4, c4, e4, f4, Bool.or_self], hd, ?_⟩
  have hi : (PyData.tuple [d1, d2, p1, p2, p3]).intsShort 13 = true := by simp only [PyData.intsShort, PyData.intsShortAll, a1, b1, c1, e1, f1, Bool.and_self]
  have hc : (PyData.tuple [d1, d2, p1, p2, p3]).canLay0 = true := by simp only [PyData.canLay0, PyData.canLayAll0, a6, b6, c6, e6, f6, Bool.and_self]
  have hw : (PyData.tuple [d1, d2, p1, p2, p3]).weight ≤ 2 ^ 20 := by
    simp only [PyData.weight, PyData.weightAll]
    have : (2 : Nat) ^ 20 = 1048576 := by decide
    omega
  have hl : (PyData.tuple [d1, d2, p1, p2, p3]).layable0 = true := by
    show ((PyData.canLay0 _ && decide (PyData.depth _ ≤ 64)) && decide (PyData.weight _ ≤ 2 ^ 20)) = true
    rw [hc, decide_eq_true (by omega), decide_eq_true hw]; rfl
  have := PyProof.Rows.shown_le13 hl hi
  rw [sizeLine_eq]
  omega
end KN


set_option Elab.async false
set_option linter.all false
set_option maxRecDepth 100000
set_option maxHeartbeats 4000000
namespace KN
open PySem PySem.Spec PyProof.Rows L2
theorem AnyRow.good {H : Hp} {t : Addr} {v1 v2 u1 u2 u3 : V} {d1 d2 p1 p2 p3 : PyData} (ht : H t = some (.tup [v1, v2, u1, u2, u3])) (o1 : Ob H v1 d1) (o2 : Ob H v2 d2) (q1 : Ob H u1 p1) (q2 : Ob H u2 p2) (q3 : Ob H u3 p3) (due : dueD d1 d2 p1 p2 p3 = none) : GoodR H t [d1, d2, p1, p2, p3] := by
  obtain ⟨g1, g2, g3, g4, g5⟩ := due_none due
  exact ⟨_, _, _, _, _, _, _, _, _, _, rfl, ht, o1.side g1, o2.side g2, q1.part g3, q2.part g4, q3.part g5, due⟩
def spLawS (T : List (Addr × Str)) (K : PySem.W.Frag) : Sp := fun vs H Q _ => ∃ (a : Addr) (ns : List Int), vs = [.ref a] ∧ SqL K H a (ns.map V.int) ∧ ns.length ≤ 63 ∧ LamX.Tabs T H ∧ ∀ H', Q (.bl true) H'
/-- what the law keeps from turn to turn -/
structure Core (T : List (Addr × Str)) (g p c : Addr) (rows : List Addr) (b : Int) (H : Hp) : Prop where
  pen : Pen H p c b
  tabs : LamX.Tabs T H
  gl : H g = some (.lst (rows.map V.ref))
  good : ∀ t ∈ rows, ∃ r, GoodR H t r
  ne : g ≠ c
theorem Core.kp {T : List (Addr × Str)} {g p c : Addr} {rows : List Addr} {b b' : Int} {H H' : Hp} (h : Core T g p c rows b H) (k : Kp p H H') (pen : Pen H' p c b') : Core T g p c rows b' H' :=
  ⟨pen, tabs_kp h.tabs k h.pen, k _ _ (h.pen.ne h.gl) h.gl, fun t ht => let ⟨r, e⟩ := h.good t ht; ⟨r, e.to (h.pen.tk k)⟩, h.ne⟩
theorem Core.same {T : List (Addr × Str)} {g p c : Addr} {rows : List Addr} {b : Int} {H H' : Hp} (h : Core T g p c rows b H) (s : Same H H') : Core T g p c rows b H' := h.kp (Kp.of s) (h.pen.to s)
theorem Core.ext {T : List (Addr × Str)} {g p c : Addr} {rows : List Addr} {b : Int} {H H' : Hp} (h : Core T g p c rows b H) (x : LamX.ExtN H H') (t : LamX.Tabs T H') : Core T g p c rows b H' :=
  ⟨h.pen.ext x, t, x _ _ h.gl (fun ps z => by cases z), fun a ha => let ⟨r, e⟩ := h.good a ha; ⟨r, e.to (tk_ext x)⟩, h.ne⟩
theorem Core.up {T : List (Addr × Str)} {g p c : Addr} {rows : List Addr} {b b' : Int} {H : Hp} (h : Core T g p c rows b H) (l : b ≤ b') : Core T g p c rows b' H := ⟨h.pen.up l, h.tabs, h.gl, h.good, h.ne⟩
theorem ke_ext {H H' : Hp} (x : LamX.ExtN H H') : Ke H H' := fun a o h e => x a o e (fun ps z => by
  rcases h with ⟨_, rfl⟩ | ⟨_, rfl⟩ | rfl <;> cases z)
/-- a part as drawn: a thing of one sort, or a list apart from D -/
def PartT (D : Addr) (H : Hp) (u : V) : Prop := (∃ d, ∀ G, Ob G u d) ∨ ∃ l, u = .ref l ∧ l ≠ D ∧ H l = some (.lst [])
section
variable {P : Program} {w : World} {K : PySem.W.Frag} {mg : Str → Option Value} {base : Heap} {C CB : Addr}
theorem sc_law : FnScope ["_law_script", "_law_pen_here", "_law_good", "_law_turn", "_law_row", "_law_due_here", "_law_told", "_law_other", "_law_part"] ["_law_script"] (defScope s_law) := ⟨rfl, rfl, rfl, by decide +kernel, rfl, by decide +kernel, by decide +kernel⟩
theorem run_law {f : Addr} {fd : FuncData} (F : Fun K "law" "law" s_law f fd) {T : List (Addr × Str)} {c2 P2 : Addr} (hcc : fd.code = .ref c2) (TB : LamX.TabB base mg c2 P2) (hmT : (P2, ("law" : Str) ++ ".<locals>." ++ "<lambda>") ∈ T) (huT : ∀ p ∈ T, p.1 = P2 → p.2 = ("law" : Str) ++ ".<locals>." ++ "<lambda>")
    (m_repr : mg "repr" = none) (m_tuple : mg "tuple" = none) (m_range : mg "range" = none) (B : BadAt K mg CB) (I : C8.InsC K C) (S : SaT K C) (c__law_pen : C8.Cal P w K mg base 1 "_law_pen" (spPen K) []) (c__law_pick : C8.Cal P w K mg base 2 "_law_pick" spPick []) (c__law_side_drawn : C8.Cal P w K mg base 3 "_law_side_drawn" spSideD [])
    (c__law_good_row : C8.Cal P w K mg base 3 "_law_good_row" spGoodRow []) (c__law_due : C8.Cal P w K mg base 3 "_law_due" spDue []) (c__law_made : CalX P w K mg base 6 "_law_made" (spMade C CB) []) (c__law_same_right : C8.Cal P w K mg base 7 "_law_same_right" (spSame C) []) (c__law_said_right : C8.Cal P w K mg base 9 "_law_said_right" (spSaidR T) [])
    {A : Around} {outer : List Env} {s : Shared} {H : Hp} {args : Args} {us : List Value} {vs : List V} {Q : VK} {E : XK} (hG : A.guards = some []) (hr0 : Room 11 A) (e0 : Env0 P w K mg base A outer s H) (hb : BindsTo s fd args (([("_law_script" : Str)]).zip us)) (rv : Vals vs us) (h : spLawS T K vs H Q E) :
    codeAny (model P w) A (.call (.ref f) args) (CR C8.CX0 outer P w H s Q E) s := by
  obtain ⟨oc, od, kV, doc, pm, an, cdv, ct, osl, rfl, lk, hcd⟩ := F.ex
  obtain rfl : cdv = .ref c2 := hcc
  obtain ⟨a, ns, rfl, hS, hlen, tabs, k⟩ := h
  refine LamX.run_ofS lk hcd sc_law hr0 e0 hb rv rfl (fun hr => ?_)
  have hgd : (cxOf C8.CX0 P w K mg base ["_law_script", "_law_pen_here", "_law_good", "_law_turn", "_law_row", "_law_due_here", "_law_told", "_law_other", "_law_part"] "law" (defScope s_law) f (.ref c2) A outer s H E).nox.A.guards = some [] := hG
  have huu : (cxOf C8.CX0 P w K mg base ["_law_script", "_law_pen_here", "_law_good", "_law_turn", "_law_row", "_law_due_here", "_law_told", "_law_other", "_law_part"] "law" (defScope s_law) f (.ref c2) A outer s H E).nox.A.units + 65 < cLine := by
    have := hr.un
    show (A.deeper _).units + 65 < cLine
    omega
  have main : ∃ t, PSs (cxOf C8.CX0 P w K mg base ["_law_script", "_law_pen_here", "_law_good", "_law_turn", "_law_row", "_law_due_here", "_law_told", "_law_other", "_law_part"] "law" (defScope s_law) f (.ref c2) A outer s H E).nox (defBody s_law) t ∧ t { nx := fun _ H' => Q .non H', rt := Q } (L2.start ["_law_script", "_law_pen_here", "_law_good", "_law_turn", "_law_row", "_law_due_here", "_law_told", "_law_other", "_law_part"] [.ref a]) H := by
    refine ⟨_, (pss_cons (ps_asg (pe_tup (pa_cons (C8.pe_c c__law_pen hr (by decide) rfl (pa_cons (pv 0) pa_nil)) (pa_cons (pe_lst pa_nil) pa_nil))) (pg_tup rfl (pgs_cons (pg_name (i := 1) sc_law.nd rfl (Or.inr rfl)) (pgs_cons (pg_name (i := 2) sc_law.nd rfl (Or.inl rfl)) pgs_nil))))
      (pss_cons (ps_for PassesOwn.never rfl (pi_range1 rfl m_range (pa_cons pe_int pa_nil)) (pg_name (i := 3) sc_law.nd rfl (Or.inl rfl))
      (pss_cons (ps_set (i := 4) sc_law.nd rfl (Or.inr rfl) (pe_tup (pa_cons (C8.pe_c c__law_side_drawn hr (by decide) rfl (pa_cons (pv 1) pa_nil)) (pa_cons (C8.pe_c c__law_side_drawn hr (by decide) rfl (pa_cons (pv 1) pa_nil)) pa_nil))))
      (pss_cons (ps_set (i := 4) sc_law.nd rfl (Or.inr rfl) (pe_op op_catA (pv 4) (pe_callTy call_tuple_of (by rfl) m_tuple (by decide +kernel) (pa_cons (pe_lc (own := [("_law_part", 8)]) (g := gName 8) (tt := tYes) rfl sc_law.nd (pi_range1 rfl m_range (pa_cons pe_int pa_nil)) (blkOk_by (own := [("_law_part", 8)]) (N := ["_law_script", "_law_pen_here", "_law_good", "_law_turn", "_law_row", "_law_due_here", "_law_told", "_law_other", "_law_part"]) (sc := defScope s_law) (by decide +kernel)) (fun _ _ _ _ _ => pg_name (i := 8) sc_law.nd rfl (Or.inl rfl)) (fun _ _ _ _ _ => pts_nil) (fun _ _ _ _ _ => (C8.pe_c c__law_pick hr (by decide) rfl (pa_cons (pv 1) (pa_cons (pe_lst (pa_cons pe_non (pa_cons pe_bl (pa_cons pe_bl (pa_cons pe_bl (pa_cons pe_bl (pa_cons pe_int (pa_cons pe_int (pa_cons pe_str (pa_cons (pe_lst pa_nil) pa_nil)))))))))) pa_nil))))) pa_nil))))
      (C8.pss_cut (ps_if (pt_cmpR op_eq (pe_op op_mod (pv 3) pe_int) pe_int (nomark _)) (pss_one (ps_set (i := 4) sc_law.nd rfl (Or.inr rfl) (C8.pe_c c__law_good_row hr (by decide) rfl (pa_cons (pv 1) pa_nil)))) pss_nil)
      (pss_cons (ps_set (i := 5) sc_law.nd rfl (Or.inl rfl) (C8.pe_c c__law_due hr (by decide) rfl (pa_cons (pv 4) pa_nil)))
      (pss_cons (ps_if (pt_cmpR op_ne (pe_bad (k := 6) B TB rfl hmT huT hr (by decide) rfl (LamX.lamS_by (by rfl)) (fun A outer s H E f c' hr2 => (pe_cX c__law_made (takes_of rfl rfl rfl rfl) hr2 (by decide) rfl (pa_cons (pv 4) pa_nil)))) (pv 5) (nomark _)) (pss_one (ps_ret pe_bl)) pss_nil)
      (pss_one (ps_if (pt_cmpR op_isN (pv 5) pe_non (nomark _)) (pss_cons (ps_set (i := 6) sc_law.nd rfl (Or.inl rfl) (pe_cX c__law_made takes0 hr (by decide) rfl (pa_cons (pv 4) pa_nil)))
      (pss_cons (ps_if (pt_cmpR op_ne (pe_callB (call_reprD hgd huu) (by rfl) m_repr (by decide +kernel) (pa_cons (pe_tup (pa_cons (pe_fld (pv 6) rfl) (pa_cons (pe_fld (pv 6) rfl) (pa_cons (pe_fld (pv 6) rfl) (pa_cons (pe_fld (pv 6) rfl) (pa_cons (pe_fld (pv 6) rfl) pa_nil)))))) pa_nil)) (pe_callB (call_reprD hgd huu) (by rfl) m_repr (by decide +kernel) (pa_cons (pv 4) pa_nil)) (nomark _)) (pss_one (ps_ret pe_bl)) pss_nil)
      (pss_one (ps_expr (pe_bm PySem.F.plainAttrs_list PySem.F.slot_list_append PySem.F.type_list_append mt_append (pv 2) (pa_cons (pv 4) pa_nil)))))) pss_nil))))))))
      (pss_cons (ps_for PassesOwn.never rfl (pi_list (pe_slice sl_list (pv 2) po_none (po_some pe_int))) (pg_name (i := 4) sc_law.nd rfl (Or.inr rfl))
      (pss_cons (ps_set (i := 7) sc_law.nd rfl (Or.inl rfl) (pe_op op_catA (pe_slice sl_tupA (pv 4) po_none (po_some pe_int)) (pe_tup (pa_cons (pe_ix ix_tup (pv 4) pe_int (fun _ _ => rfl)) (pa_cons (pe_ix ix_tup (pv 4) pe_int (fun _ _ => rfl)) (pa_cons (C8.pe_c c__law_pick hr (by decide) rfl (pa_cons (pv 1) (pa_cons (pe_lst (pa_cons pe_non (pa_cons pe_bl (pa_cons pe_bl pa_nil)))) pa_nil))) pa_nil))))))
      (pss_cons (ps_if (PW.pt (pw_or (pt_not (pt_val (C8.pe_c c__law_same_right hr (by decide) rfl (pa_cons (pv 4) (pa_cons (pv 7) pa_nil))))) (pw_or1 (pt_not (pt_val (C8.pe_c c__law_same_right hr (by decide) rfl (pa_cons (pv 4) (pa_cons (C8.pe_c c__law_pick hr (by decide) rfl (pa_cons (pv 1) (pa_cons (pv 2) pa_nil))) pa_nil)))))))) (pss_one (ps_ret pe_bl)) pss_nil)
      (pss_one (ps_if (PW.pt (pw_or (pt_not (pt_val (C8.pe_c c__law_same_right hr (by decide) rfl (pa_cons (pv 4) (pa_cons (pv 4) pa_nil))))) (pw_or1 (pt_not (pt_val (C8.pe_c c__law_said_right hr (by decide) rfl (pa_cons (pv 1) (pa_cons (pe_ix ix_tup (pv 4) pe_int (fun _ _ => rfl)) (pa_cons (pe_ix ix_tup (pv 4) pe_int (fun _ _ => rfl)) pa_nil))))))))) (pss_one (ps_ret pe_bl)) pss_nil)))))
      (pss_one (ps_ret pe_bl))))), ?_⟩
    refine ⟨_, rfl, a, ns, rfl, hS, hlen, fun H1 p c s1 np nc pen1 => ?_⟩
    refine ⟨by show 0 ≤ sizeLine; decide, fun g hg => ?_⟩
    have ngc : g ≠ c := fun z => by obtain ⟨o, e⟩ := pen1.here.2; rw [z, e] at hg; cases hg
    have s2 := Same.new (o := .lst []) hg
    have eg := upd_same (H := H1) (a := g) (o := .lst [])
    have pen2 := pen1.to s2
    have tabs2 := tabs_same tabs (s1.trans s2)
    generalize upd H1 g (.lst []) = H2 at s2 eg pen2 tabs2 ⊢
    refine ⟨by show 2 ≤ sizeLine; decide, fun tp htp => ?_⟩
    have s3 := Same.new (o := .tup [.ref p, .ref g]) htp
    have ep := upd_same (H := H2) (a := tp) (o := .tup [.ref p, .ref g])
    have core : Core T g p c [] 0 (upd H2 tp (.tup [.ref p, .ref g])) := ⟨pen2.to s3, tabs_same tabs2 s3, s3 _ _ eg, (fun t h => by cases h), ngc⟩
    generalize upd H2 tp (.tup [.ref p, .ref g]) = H3 at ep core ⊢
    refine ⟨tp, _, rfl, SqT.of ep, rfl, _, _, rfl, _, _, rfl, rfl, ?_⟩
    refine ⟨30, rfl, by decide, by decide, for_range (lo := 0) (n := 30) (fun i σ' H' => ∃ (x3 x4 x5 x6 x7 x8 : Option V) (rows : List Addr), σ' = [some (.ref a), some (.ref p), some (.ref g), x3, x4, x5, x6, x7, x8] ∧ Core T g p c rows (20 * i) H' ∧ rows.length ≤ i)
      ⟨_, _, _, _, _, _, [], rfl, core.up (by omega), Nat.le_refl _⟩ ?_ ?_⟩
    · rintro i σ2 G2 hi ⟨x3, x4, x5, x6, x7, x8, rows, rfl, core, hrows⟩
      have hi30 : i < 30 := hi
      refine ⟨_, rfl, p, c, _, rfl, core.pen, by omega, fun G3 w1 d1 k3 pen3 o1 => ⟨_, rfl, p, c, _, rfl, pen3, by omega, fun G4 w2 d2 k4 pen4 o2 => ⟨by show 2 ≤ sizeLine; decide, fun t5 ht5 => ?_⟩⟩⟩
      have s5 := Same.new (o := .tup [w1, w2]) ht5
      have e5 := upd_same (H := G4) (a := t5) (o := .tup [w1, w2])
      have o1 := (o1.to (k4.ke pen3)).to (Ke.of s5)
      have o2 := o2.to (Ke.of s5)
      have core := ((core.kp k3 pen3).kp k4 pen4).same s5
      generalize upd G4 t5 (.tup [w1, w2]) = G5 at s5 e5 o1 o2 core ⊢
      clear k3 k4 pen3 pen4 s5 ht5
      refine ⟨_, rfl, 3, rfl, by decide, by decide, fun D hD => ?_⟩
      refine lc_range (lo := 0) (n := 3) (fun j H' => Kp p G5 H' ∧ Pen H' p c (20 * i + 8 + j) ∧ ∃ us : List V, H' D = some (.lst us) ∧ us.length = j ∧ ∀ u ∈ us, PartT D H' u)
        ⟨Kp.new hD, (core.pen.to (Same.new hD)).up (by omega), [], upd_same, rfl, fun v h => by cases h⟩ ?_ ?_
      · rintro j G6 hj ⟨k6, pen6, us, eU, lu, au⟩
        have hj : j < 3 := hj
        have neU : D ≠ p := pen6.ne eU
        refine ⟨rfl, _, rfl, by show 0 ≤ sizeLine; decide, fun l0 hl0 => ⟨by show 9 ≤ sizeLine; decide, fun l hl => ?_⟩⟩
        have u0 := Same.new (o := .lst []) hl0
        have u1 := Same.new (o := .lst [.non, .bl true, .bl false, .bl true, .bl false, .int 0, .int 1, .str "True", .ref l0]) hl
        have el0 := u1 _ _ (upd_same (H := G6) (a := l0) (o := .lst []))
        have el := upd_same (H := upd G6 l0 (.lst [])) (a := l) (o := .lst [.non, .bl true, .bl false, .bl true, .bl false, .int 0, .int 1, .str "True", .ref l0])
        have n0 : l0 ≠ D := fun z => by rw [z, eU] at hl0; cases hl0
        have u01 := u0.trans u1
        generalize upd (upd G6 l0 (.lst [])) l (.lst [.non, .bl true, .bl false, .bl true, .bl false, .int 0, .int 1, .str "True", .ref l0]) = G7 at el0 el u01 ⊢
        refine ⟨p, c, l, _, _, rfl, pen6.to u01, by omega, el, by simp, by show 9 ≤ 60; decide, fun G8 u k8 pen8 hu => ?_⟩
        have k68 := (Kp.of u01).trans k8
        have eU8 := k68 _ _ neU eU
        have el8 := k8 _ _ ((pen6.to u01).ne el0) el0
        have stay : ∀ {a : Addr} {o : HO}, a ≠ D → G8 a = some o → upd G8 D (.lst (us ++ [u])) a = some o := fun n e => by rw [upd_ne n]; exact e
        refine ⟨us, eU8, by rw [lu]; exact small1000 (by omega), fun a o na e => ?_, ?_, us ++ [u], upd_same, by rw [List.length_append, lu]; rfl, fun v hv => ?_⟩
        · rw [upd_ne (ne_of_none e hD)]; exact k68 a o na (k6 a o na e)
        · exact (pen8.put ⟨neU, fun z => by subst z; exact absurd hD (by obtain ⟨o, e⟩ := core.pen.here.2; rw [e]; simp)⟩).up (by omega)
        · rcases List.mem_append.mp hv with h | h
          · rcases au v h with h | ⟨l', rfl, n', e'⟩
            · exact .inl h
            · exact .inr ⟨l', rfl, n', stay n' (k68 _ _ (pen6.ne e') e')⟩
          · rw [List.mem_singleton] at h
            subst h
            simp only [List.mem_cons, List.not_mem_nil, or_false] at hu
            rcases hu with rfl | rfl | rfl | rfl | rfl | rfl | rfl | rfl | rfl
            · exact .inl ⟨_, fun G => .non⟩
            · exact .inl ⟨_, fun G => .bl _⟩
            · exact .inl ⟨_, fun G => .bl _⟩
            · exact .inl ⟨_, fun G => .bl _⟩
            · exact .inl ⟨_, fun G => .bl _⟩
            · exact .inl ⟨_, fun G => .int _⟩
            · exact .inl ⟨_, fun G => .int _⟩
            · exact .inl ⟨_, fun G => .str _ ⟨by decide +kernel, by decide +kernel⟩⟩
            · exact .inr ⟨l0, rfl, n0, stay n0 el8⟩
      · rintro G6 ⟨k6, pen6, us, eU, lu, au⟩
        obtain ⟨x1, x2, y3, rfl⟩ : ∃ x1 x2 y3, us = [x1, x2, y3] := by
          match us, lu with
          | [x1, x2, y3], _ => exact ⟨x1, x2, y3, rfl⟩
        have oB : ∀ {u : V}, PartT D G6 u → ∃ d, Ob G6 u d := fun h => by
          rcases h with ⟨d, h⟩ | ⟨l, rfl, _, e⟩
          · exact ⟨d, h _⟩
          · exact ⟨_, .lst e .nil⟩
        obtain ⟨p1, q1⟩ := oB (au x1 (by simp))
        obtain ⟨p2, q2⟩ := oB (au x2 (by simp))
        obtain ⟨p3, q3⟩ := oB (au y3 (by simp))
        have e5 := k6 _ _ (core.pen.ne' e5) e5
        have o1 := o1.to (k6.ke core.pen)
        have o2 := o2.to (k6.ke core.pen)
        have core : Core T g p c rows (20 * i + 11) G6 := core.kp k6 (pen6.up (by show (20 : Int) * i + 8 + ((3 : Nat) : Int) ≤ _; omega))
        refine ⟨D, _, rfl, .inl ⟨SqL.of eU, fun tu htu => ?_⟩⟩
        have s7 := Same.new (o := .tup [x1, x2, y3]) htu
        have eV := upd_same (H := G6) (a := tu) (o := .tup [x1, x2, y3])
        generalize upd G6 tu (.tup [x1, x2, y3]) = G7 at s7 eV ⊢
        refine ⟨t5, tu, _, _, rfl, rfl, SqT.of (s7 _ _ e5), SqT.of eV, by show 5 ≤ sizeLine; decide, (fun z => nomatch z), (fun _ z => nomatch z), fun _ _ tr htr => ?_⟩
        have s8 := Same.new (o := .tup ([w1, w2] ++ [x1, x2, y3])) htr
        have er := upd_same (H := G7) (a := tr) (o := .tup ([w1, w2] ++ [x1, x2, y3]))
        generalize upd G7 tr (.tup ([w1, w2] ++ [x1, x2, y3])) = G8 at s8 er ⊢
        have s78 := s7.trans s8
        have core := core.same s78
        have row : AnyRow G8 tr [d1, d2, p1, p2, p3] := ⟨_, _, _, _, _, _, _, _, _, _, rfl, er, o1.to (Ke.of s78), o2.to (Ke.of s78), q1.to (Ke.of s78), q2.to (Ke.of s78), q3.to (Ke.of s78)⟩
        clear o1 o2 q1 q2 q3 oB au eU e5 k6 pen6 s7 s8 s78 eV er hD
        refine ⟨fun σ' H' => ∃ (t : Addr) (r : List PyData) (y5 y6 y7 y8 : Option V), σ' = [some (.ref a), some (.ref p), some (.ref g), some (.int (0 + (i : Int))), some (.ref t), y5, y6, y7, y8] ∧ Core T g p c rows (20 * i + 19) H' ∧ AnyRow H' t r, ?_, ?_⟩
        · refine ⟨_, rfl, _, _, rfl, rfl, (by show (0 : Int) < 5; decide), rfl, _, rfl, ite2 (fun hg => ?_) (fun hg => ?_)⟩
          · refine ⟨_, rfl, p, c, _, rfl, core.pen, by omega, fun G9 t r k9 pen9 row9 => ?_⟩
            exact ⟨t, r, _, _, _, _, rfl, core.kp k9 (pen9.up (by omega)), row9⟩
          · exact ⟨tr, _, _, _, _, _, rfl, core.up (by omega), row⟩
        · rintro σ3 G9 ⟨t, r, y5, y6, y7, y8, rfl, core, v1, v2, u1, u2, u3, e1, e2, q1, q2, q3, rfl, ht, o1, o2, a1, a2, a3⟩
          refine ⟨_, rfl, t, v1, v2, u1, u2, u3, e1, e2, q1, q2, q3, rfl, ht, o1, o2, a1, a2, a3, fun G10 s10 => ?_⟩
          have core := core.same s10
          refine ⟨core.tabs, fun G11 x11 tabs11 => ?_⟩
          have core := core.ext x11 tabs11
          have ke := (Ke.of s10).trans (ke_ext x11)
          have ht11 := x11 _ _ (s10 _ _ ht) (fun ps z => by cases z)
          have o1 := o1.to ke
          have o2 := o2.to ke
          have a1 := a1.to ke
          have a2 := a2.to ke
          have a3 := a3.to ke
          unfold TTbad
          dsimp only
          refine ⟨_, rfl, t, v1, v2, u1, u2, u3, e1, e2, q1, q2, q3, rfl, ht11, o1, o2, a1, a2, a3, ?_⟩
          cases due : dueD e1 e2 q1 q2 q3 with
          | some part =>
            refine ⟨fun part' hp G12 dd s12 hd => ⟨rfl, dd, _, rfl, hd, ?_⟩, fun z => by cases z⟩
            cases hp
            refine ⟨_, rfl, rfl, _, rfl, ?_⟩
            rw [show (!decide (V.str part = oStr (some part))) = false from by rw [decide_eq_true (show V.str part = oStr (some part) from rfl)]; rfl]
            refine iteF ?_
            refine ⟨_, rfl, rfl, _, rfl, iteF ?_⟩
            exact ⟨_, _, _, _, _, _, rows, rfl, (core.same s12).up (by omega), by omega⟩
          | none =>
            refine ⟨(fun part' hp => by cases hp), fun _ G12 t12 dx s12 n12 h12 => ?_⟩
            have core := core.same s12
            have ht12 := s12 _ _ ht11
            have ke := Ke.of s12
            have good := AnyRow.good ht12 (o1.to ke) (o2.to ke) (a1.to ke) (a2.to ke) (a3.to ke) due
            have o1 := o1.to ke
            have o2 := o2.to ke
            have a1 := a1.to ke
            have a2 := a2.to ke
            have a3 := a3.to ke
            clear s10 x11 tabs11 n12 h12
            refine ⟨_, rfl, rfl, _, rfl, ?_⟩
            rw [show (!decide (V.non = oStr none)) = false from rfl]
            refine iteF ?_
            refine ⟨_, rfl, rfl, _, rfl, iteT ?_⟩
            refine ⟨_, rfl, t, v1, v2, u1, u2, u3, e1, e2, q1, q2, q3, rfl, ht12, o1, o2, a1, a2, a3, (fun part' hp => by rw [due] at hp; cases hp), fun _ G13 t13 dx s13 n13 h13 => ?_⟩
            obtain ⟨sh1, sh2, sh3, sh4⟩ := row_show due
            have ht13 := s13 _ _ ht12
            have core := core.same s13
            have good := good.to (TK.of s13)
            refine ⟨_, rfl, t13, C, dx, _, _, rfl, h13, S.cl, S.n1, say1 _ _ _ _ _, _, rfl, t13, C, dx, _, _, rfl, h13, S.cl, S.n2, say2 _ _ _ _ _, _, rfl, t13, C, dx, _, _, rfl, h13, S.cl, S.n3, say3 _ _ _ _ _, _, rfl, t13, C, dx, _, _, rfl, h13, S.cl, S.n4, say4 _ _ _ _ _, _, rfl, t13, C, dx, _, _, rfl, h13, S.cl, S.n5, say5 _ _ _ _ _, ?_⟩
            refine ⟨by show 5 ≤ sizeLine; decide, fun tn htn => ?_⟩
            have s14 := Same.new (o := .tup [v1, v2, u1, u2, u3]) htn
            have en := upd_same (H := G13) (a := tn) (o := .tup [v1, v2, u1, u2, u3])
            generalize upd G13 tn (.tup [v1, v2, u1, u2, u3]) = G14 at s14 en ⊢
            have core := core.same s14
            have good := good.to (TK.of s14)
            have ke := (Ke.of s13).trans (Ke.of s14)
            have goodn := AnyRow.good en (o1.to ke) (o2.to ke) (a1.to ke) (a2.to ke) (a3.to ke) due
            refine ⟨tn, _, rfl, goodn.tp.d, sh1, sh2, sh3, sh4, ?_⟩
            refine ⟨_, rfl, t, _, rfl, good.tp.d, sh1, sh2, sh3, sh4, ?_⟩
            refine ⟨rfl, _, rfl, ?_⟩
            rw [show ∀ z : Str, (!decide (V.str z = V.str z)) = false from fun z => by simp]
            refine iteF ?_
            refine ⟨_, rfl, .inl ⟨rfl, _, SqL.of core.gl⟩, _, rfl, g, _, _, rfl, rfl, core.gl, by rw [List.length_map]; exact small1000 (by omega), ?_⟩
            have ng : g ≠ p := core.pen.ne core.gl
            have tkg : TK G14 (upd G14 g (.lst (rows.map V.ref ++ [.ref t]))) := TK.put core.gl (by intro z; exact nofun)
            refine ⟨_, _, _, _, _, _, rows ++ [t], rfl, ⟨?_, ?_, by rw [upd_same, List.map_append]; rfl, fun a ha => ?_, core.ne⟩, by rw [List.length_append]; show rows.length + 1 ≤ i + 1; omega⟩
            · exact (core.pen.put ⟨ng, core.ne⟩).up (by omega)
            · intro q hq
              obtain ⟨ps, b1, b2, b3⟩ := core.tabs q hq
              refine ⟨ps, by rw [upd_ne (fun z => by rw [z, core.gl] at b1; cases b1)]; exact b1, b2, fun pos cv hc => ?_⟩
              obtain ⟨c0, e, hco⟩ := b3 pos cv hc
              refine ⟨c0, e, ?_⟩
              rw [upd_ne (fun z => by rw [z, core.gl] at hco; exact absurd (Option.some.inj hco).symm (by unfold LamX.CodeO; exact fun z => by cases z))]
              exact hco
            · rcases List.mem_append.mp ha with h | h
              · obtain ⟨r, gr⟩ := core.good a h
                exact ⟨r, gr.to tkg⟩
              · rw [List.mem_singleton] at h
                subst h
                exact ⟨_, good.to tkg⟩
    · rintro σ2 G2 ⟨x3, x4, x5, x6, x7, x8, rows, rfl, core, hrows⟩
      have hrows : rows.length ≤ 30 := hrows
      have core : Core T g p c rows 600 G2 := core.up (by show (20 : Int) * ((30 : Nat) : Int) ≤ 600; decide)
      refine ⟨_, rfl, _, rfl, g, _, rfl, SqL.of core.gl, fun l hl => ?_⟩
      have cutIn : ∀ x ∈ cutV (rows.map V.ref) none (some 5), ∃ t ∈ rows, x = .ref t := fun x hx => by
        obtain ⟨t, h1, h2⟩ := List.mem_map.mp (List.mem_of_mem_drop (List.mem_of_mem_take hx))
        exact ⟨t, h1, h2.symm⟩
      have cutLen : (cutV (rows.map V.ref) none (some 5)).length ≤ 30 := by
        unfold cutV
        rw [List.length_take, List.length_drop, List.length_map]; omega
      generalize cutV (rows.map V.ref) none (some 5) = cut at cutIn cutLen ⊢
      have s3 := Same.new (o := .lst cut) hl
      have el := upd_same (H := G2) (a := l) (o := .lst cut)
      have core := core.same s3
      generalize upd G2 l (.lst cut) = G3 at s3 el core ⊢
      refine ⟨l, rfl, ⟨_, SqL.of el⟩, for_list (K := K) (a := l) (xs := cut) (fun j σ' H' => ∃ (x3 x4 x5 x6 x7 x8 : Option V), σ' = [some (.ref a), some (.ref p), some (.ref g), x3, x4, x5, x6, x7, x8] ∧ Core T g p c rows (600 + 3 * j) H' ∧ H' l = some (.lst cut))
        ⟨_, _, _, _, _, _, rfl, core.up (by omega), el⟩ (fun j σ' H' _ ⟨_, _, _, _, _, _, _, _, q⟩ => SqL.of q) ?_ ?_⟩
      · rintro j x σ3 G4 hj ⟨x3, x4, x5, x6, x7, x8, rfl, core, el⟩
        have hj30 : j < 30 := Nat.lt_of_lt_of_le (List.getElem?_eq_some_iff.mp hj).1 cutLen
        obtain ⟨t, htr, rfl⟩ := cutIn x (List.mem_of_getElem? hj)
        obtain ⟨r, good⟩ := core.good t htr
        obtain ⟨v1, v2, u1, u2, u3, d1, d2, p1, p2, p3, rfl, ht, t1, t2, t3, t4, t5, due⟩ := id good
        have gne : firstI d2 ≠ firstI d1 := fun z => by
          unfold dueD at due
          obtain ⟨g1, g2, _⟩ := due_none (show dueD d1 d2 p1 p2 p3 = none from due)
          rw [if_neg (by rw [g1]; decide), if_pos (.inr z)] at due
          cases due
        obtain ⟨g1, g2, g3, g4, g5⟩ := due_none due
        refine ⟨_, rfl, _, rfl, t, _, rfl, SqT.of ht, (fun z => absurd z.2 (by show ¬ HT.sIx 5 5 (some 2) = 5; decide)), fun _ t6 ht6 => ?_⟩
        have s5 := Same.new (o := .tup (cutV [v1, v2, u1, u2, u3] none (some 2))) ht6
        have e6 : upd G4 t6 (.tup (cutV [v1, v2, u1, u2, u3] none (some 2))) t6 = some (.tup [v1, v2]) := upd_same
        have core := core.same s5
        have el := s5 _ _ el
        have ht := s5 _ _ ht
        have good := good.to (TK.of s5)
        have t1 := t1.to (TK.of s5)
        have t2 := t2.to (TK.of s5)
        have t3 := t3.to (TK.of s5)
        have t4 := t4.to (TK.of s5)
        generalize upd G4 t6 (.tup (cutV [v1, v2, u1, u2, u3] none (some 2))) = G5 at e6 core el ht good t1 t2 t3 t4 ⊢
        refine ⟨_, rfl, _, _, _, _, rfl, rfl, SqT.of ht, at_of (j := 2) rfl rfl, _, rfl, _, _, _, _, rfl, rfl, SqT.of ht, at_of (j := 3) rfl rfl, ?_⟩
        refine ⟨_, rfl, by show 3 ≤ sizeLine; decide, fun lp hlp => ?_⟩
        have s6 := Same.new (o := .lst [.non, .bl true, .bl false]) hlp
        refine ⟨p, c, lp, _, _, rfl, (core.same s6).pen, by omega, upd_same, by simp, by decide, fun G7 u k7 pen7 hu => ?_⟩
        have k57 := (Kp.of s6).trans k7
        have tk57 := core.pen.tk k57
        have e6 := k57 _ _ (core.pen.ne' e6) e6
        have el := k57 _ _ (core.pen.ne el) el
        have core := core.kp k57 pen7
        have good := good.to tk57
        have t1 := t1.to tk57
        have t2 := t2.to tk57
        have t3 := t3.to tk57
        have t4 := t4.to tk57
        have ht := tk57 _ _ ht
        obtain ⟨px, bx, tx⟩ : ∃ px, badP px = false ∧ ∀ G, Tp G u px := by
          simp only [List.mem_cons, List.not_mem_nil, or_false] at hu
          rcases hu with rfl | rfl | rfl
          · exact ⟨.none, rfl, fun G => .non⟩
          · exact ⟨.bool true, rfl, fun G => .bl true⟩
          · exact ⟨.bool false, rfl, fun G => .bl false⟩
        clear k7 pen7 s6 hlp hu k57 tk57 s5
        refine ⟨by show 3 ≤ sizeLine; decide, fun t7 ht7 => ?_⟩
        have s8 := Same.new (o := .tup [u1, u2, u]) ht7
        have e7 := upd_same (H := G7) (a := t7) (o := .tup [u1, u2, u])
        generalize upd G7 t7 (.tup [u1, u2, u]) = G8 at s8 e7 ⊢
        refine ⟨t6, t7, _, _, rfl, rfl, SqT.of (s8 _ _ e6), SqT.of e7, by show 5 ≤ sizeLine; decide, (fun z => nomatch z), (fun _ z => nomatch z), fun _ _ t8 ht8 => ?_⟩
        have s9 := Same.new (o := .tup ([v1, v2] ++ [u1, u2, u])) ht8
        have e8 := upd_same (H := G8) (a := t8) (o := .tup ([v1, v2] ++ [u1, u2, u]))
        generalize upd G8 t8 (.tup ([v1, v2] ++ [u1, u2, u])) = G9 at s9 e8 ⊢
        have s79 := s8.trans s9
        have el := s79 _ _ el
        have core := core.same s79
        have good := good.to (TK.of s79)
        have dueO : dueD d1 d2 p1 p2 px = none := by
          unfold dueD
          rw [if_neg (by rw [g1]; decide), if_neg (fun z => z.elim (fun z => by rw [g2] at z; cases z) gne)]
          unfold unsaid
          rw [if_neg (by rw [g3]; decide), if_neg (by rw [g4]; decide), if_neg (by rw [bx]; decide)]
        have goodO : GoodR G9 t8 [d1, d2, p1, p2, px] := ⟨_, _, _, _, _, _, _, _, _, _, rfl, e8, t1.to (TK.of s79), t2.to (TK.of s79), t3.to (TK.of s79), t4.to (TK.of s79), tx _, dueO⟩
        have t1 := t1.to (TK.of s79)
        have t2 := t2.to (TK.of s79)
        have ht := s79 _ _ ht
        refine ⟨_, rfl, _, rfl, t, t8, _, _, rfl, good, goodO, fun H1 z1 => ⟨_, rfl, iteF ?_⟩⟩
        have core := core.same z1
        have el := z1 _ _ el
        have good := good.to (TK.of z1)
        refine ⟨_, rfl, _, rfl, _, rfl, p, c, g, _, _, rfl, core.pen, by omega, core.gl, (fun z => by rw [List.map_eq_nil_iff] at z; rw [z] at htr; cases htr), by rw [List.length_map]; omega, fun H2 w2 k2 pen2 hw => ?_⟩
        obtain ⟨t9, h9, rfl⟩ := List.mem_map.mp hw
        have tk2 := core.pen.tk k2
        have el := k2 _ _ (core.pen.ne el) el
        have core := core.kp k2 pen2
        have good := good.to tk2
        obtain ⟨r9, good9⟩ := core.good t9 h9
        refine ⟨t, t9, _, _, rfl, good, good9, fun H3 z3 => ⟨_, rfl, iteF ?_⟩⟩
        have core := core.same z3
        have el := z3 _ _ el
        have good := good.to (TK.of z3)
        refine ⟨_, rfl, _, rfl, t, t, _, _, rfl, good, good, fun H4 z4 => ⟨_, rfl, iteF ?_⟩⟩
        have core := core.same z4
        have el := z4 _ _ el
        have good := good.to (TK.of z4)
        have tkA : TK G9 H4 := (TK.of z1).trans (tk2.trans ((TK.of z3).trans (TK.of z4)))
        have ht := tkA _ _ ht
        refine ⟨_, rfl, _, rfl, _, _, _, _, rfl, rfl, SqT.of ht, at_of (j := 0) rfl rfl, _, rfl, _, _, _, _, rfl, rfl, SqT.of ht, at_of (j := 1) rfl rfl, ?_⟩
        refine ⟨p, c, _, v1, v2, d1, d2, rfl, core.pen, by omega, core.tabs, t1.to tkA, t2.to tkA, g1, g2, gne, fun H5 k5 pen5 tabs5 => ⟨_, rfl, iteF ?_⟩⟩
        refine ⟨_, _, _, _, _, _, rfl, ⟨pen5.up (by omega), tabs5, k5 _ _ (core.pen.ne core.gl) core.gl (fun ps z => by cases z), fun a ha => ?_, core.ne⟩, k5 _ _ (core.pen.ne el) el (fun ps z => by cases z)⟩
        obtain ⟨ra, ga⟩ := core.good a ha
        exact ⟨ra, ga.to (k5.tk core.pen)⟩
      · rintro σ3 G4 ⟨x3, x4, x5, x6, x7, x8, rfl, core, el⟩
        exact k G4
  obtain ⟨t, ht, hq⟩ := main
  exact ⟨t, ht.nox, hq⟩
end
end KN


set_option Elab.async false
set_option linter.all false
set_option maxRecDepth 100000
set_option maxHeartbeats 4000000
/-! The end, where the law's own run wants to know that no repr is under way. -/
namespace KN
open PySem PySem.Spec PyProof.Rows L2 LamX
/-- what is tracked at first: the tables, and the script where the written part has it not -/
def seen (ts : List Addr) (a : Addr) (vs : List Value) (ns : List Int) (own : Bool) : Hp := fun b =>
  if b ∈ ts then some (.tbl #[]) else if own = true ∧ b = a then some (.frz ⟨.type "list", none, .seq vs.toArray 0, #[]⟩ (.lst (ns.map V.int))) else none
section
variable {ts : List Addr} {a : Addr} {vs : List Value} {ns : List Int} {own : Bool} {b : Addr}
theorem seen_tab (h : b ∈ ts) : seen ts a vs ns own b = some (.tbl #[]) := if_pos h
theorem seen_off (h : b ∉ ts) (n : ¬ (own = true ∧ b = a)) : seen ts a vs ns own b = none := by
  unfold seen; rw [if_neg h, if_neg n]
theorem seen_cases {u : HO} (h : seen ts a vs ns own b = some u) : (b ∈ ts ∧ u = .tbl #[]) ∨ (b ∉ ts ∧ own = true ∧ b = a ∧ u = .frz ⟨.type "list", none, .seq vs.toArray 0, #[]⟩ (.lst (ns.map V.int))) := by
  unfold seen at h
  by_cases m : b ∈ ts
  · rw [if_pos m] at h; exact .inl ⟨m, (Option.some.inj h).symm⟩
  · rw [if_neg m] at h
    by_cases n : own = true ∧ b = a
    · rw [if_pos n] at h; exact .inr ⟨m, n.1, n.2, (Option.some.inj h).symm⟩
    · rw [if_neg n] at h; cases h
end
theorem not_tab {h : Heap} {b : Addr} {o : Obj} (e : h.get? b = some o) (t : h.get? b = some { cls := .none, data := .fields #[] }) : o.data = .fields #[] := by
  rw [e] at t; cases t; rfl
/-- the law called by the claim's caller: its own run is told of that place alone -/
theorem called_there {P : Program} {w : World} {K : PySem.W.Frag} {mg mb : Str → Option Value} {fa a : Addr} {cs : List (Addr × Addr)} {fd : FuncData} {x : Str} {sp : Sp} {s₁ : Shared} {vs : List Value} {ns : List Int}
    (kin : K.In s₁.heap) (glob : s₁.heap.Ns mainGlobals mg) (blt : s₁.heap.Ns builtinsNs mb) (boot : ∀ x : Str, x ≠ "__name__" → mb x = bootBuiltins x) (free : s₁.heap.NoLimit) (still : s₁.gens = #[])
    (tabs : ∀ p ∈ cs, s₁.heap.get? p.2 = some { cls := .none, data := .fields #[] }) (apart : ∀ p ∈ cs, K.lookup p.2 = none) (heads : ∀ p ∈ cs, PySem.W.CodeHd s₁.heap p.1 p.2)
    (bm : ∃ (bm : Addr) (ob : Obj), mg "__builtins__" = some (.ref bm) ∧ bm ≠ builtinsNs ∧ s₁.heap.get? bm = some ob ∧ ob.cls = .type "module" ∧ ob.dict = some builtinsNs ∧ ob.data = .plain)
    (arg : s₁.heap.get? a = some { cls := .type "list", data := .seq vs.toArray }) (whole : IntsAre vs ns) (few : ns.length ≤ sizeLine)
    (run : ∀ (base : Heap) (H : Hp), K.In base → base.Ns mainGlobals mg → (∀ p ∈ cs, TabB base mg p.1 p.2) → Env0 P w K mg base callerA [] s₁ H → BindsTo s₁ fd ⟨[.ref a], []⟩ [(x, .ref a)] → Vals [V.ref a] [Value.ref a] → sp [.ref a] H (fun v _ => v = .bl true) (fun _ _ _ => False) →
      codeAny (model P w) callerA (.call (.ref fa) ⟨[.ref a], []⟩) (CR C8.CX0 [] P w H s₁ (fun v _ => v = .bl true) (fun _ _ _ => False)) s₁)
    (bind : ∀ (s : Shared) (u : Value), BindsTo s fd ⟨[u], []⟩ [(x, u)])
    (told : ∀ H : Hp, (∀ p ∈ cs, H p.2 = some (.tbl #[])) → SqL K H a (ns.map V.int) → sp [.ref a] H (fun v _ => v = .bl true) fun _ _ _ => False) :
    codeAny (model P w) callerA (.call (.ref fa) ⟨[.ref a], []⟩) (fun r s' => r = .ok (.ret (.bool true)) ∧ OldK s₁.heap s'.heap ∧ s'.os = s₁.os ∧ AllBare s'.gens) s₁ := by
  have rv := vals_ints whole
  have lenV := whole.length
  have inT : ∀ {p : Addr × Addr}, p ∈ cs → p.2 ∈ cs.map (·.2) := fun hp => List.mem_map.mpr ⟨_, hp, rfl⟩
  have tabAt : ∀ {b : Addr}, b ∈ cs.map (·.2) → s₁.heap.get? b = some { cls := .none, data := .fields #[] } := fun hb => by
    obtain ⟨p, hp, rfl⟩ := List.mem_map.mp hb
    exact tabs p hp
  have aOff : a ∉ cs.map (·.2) := fun z => by
    have q := not_tab arg (tabAt z)
    cases q
  obtain ⟨own, ownIff⟩ : ∃ own : Bool, own = true ↔ K.lookup a = none := ⟨decide (K.lookup a = none), by simp⟩
  generalize hH : seen (cs.map (·.2)) a vs ns own = H
  have at_ : ∀ {b : Addr} {u : HO}, H b = some u → (b ∈ cs.map (·.2) ∧ u = .tbl #[]) ∨ (b ∉ cs.map (·.2) ∧ own = true ∧ b = a ∧ u = .frz ⟨.type "list", none, .seq vs.toArray 0, #[]⟩ (.lst (ns.map V.int))) := fun e => by
    rw [← hH] at e; exact seen_cases e
  have tabH : ∀ p ∈ cs, H p.2 = some (.tbl #[]) := fun p hp => by rw [← hH]; exact seen_tab (inT hp)
  -- what is neither a list nor an empty table isn't tracked
  have plain : ∀ {b : Addr} {o : Obj}, s₁.heap.get? b = some o → (∀ its n, o.data ≠ .seq its n) → o.data ≠ .fields #[] → H b = none := fun {b o} e n1 n2 => by
    cases q : H b with
    | none => rfl
    | some u =>
      rcases at_ q with ⟨m, _⟩ | ⟨_, _, rfl, _⟩
      · exact (n2 (not_tab e (tabAt m))).elim
      · rw [arg] at e; cases e; exact (n1 _ _ rfl).elim
  have dictOff : ∀ {b : Addr} {o : Obj} {es : Array DictEntry} {n : Nat}, s₁.heap.get? b = some o → o.data = .dict es n → H b = none := fun e d =>
    plain e (fun its n z => by rw [d] at z; cases z) (fun z => by rw [d] at z; cases z)
  have inK : ∀ {b : Addr} {o : Obj}, K.lookup b = some o → H b = none := fun {b o} e => by
    cases q : H b with
    | none => rfl
    | some u =>
      rcases at_ q with ⟨m, _⟩ | ⟨_, ho, rfl, _⟩
      · obtain ⟨p, hp, rfl⟩ := List.mem_map.mp m
        rw [apart p hp] at e; cases e
      · rw [ownIff.mp ho] at e; cases e
  have script : SqL K H a (ns.map V.int) := by
    cases hk : K.lookup a with
    | some o =>
      have e := kin a o hk
      rw [arg] at e; cases e
      exact .inr ⟨_, vs.toArray, 0, hk, rfl, rfl, rfl, by rw [List.size_toArray, lenV]; exact few, by simpa using rv⟩
    | none => exact .inl (.inr ⟨_, by rw [← hH]; unfold seen; rw [if_neg aOff, if_pos ⟨ownIff.mpr hk, rfl⟩]⟩)
  have hok : HOk P w H s₁.heap := fun b u e => by
    rcases at_ e with ⟨m, rfl⟩ | ⟨_, _, rfl, rfl⟩
    · exact tabAt m
    · exact ⟨arg, by rw [List.length_map]; exact few, vs, 0, rv, arg⟩
  have nsB : ∀ {b : Addr} {m : Str → Option Value}, s₁.heap.Ns b m → (hidT s₁.heap H).Ns b m := fun ⟨o, es, n, e, d, r⟩ => ⟨o, es, n, hidT_get e (dictOff e d), d, r⟩
  have kinB : K.In (hidT s₁.heap H) := fun b o e => hidT_get (kin b o e) (inK e)
  have tb : ∀ p ∈ cs, TabB (hidT s₁.heap H) mg p.1 p.2 := fun p hp => by
    refine ⟨?_, ?_, fun z => ?_⟩
    · obtain ⟨o, us, file, tf, flags, tg, inF, text, tt, e, r1, r2, r3, rest⟩ := heads p hp
      exact ⟨o, us, file, tf, flags, tg, inF, text, tt, hidT_get e (plain e (fun its n z => by rw [r2] at z; cases z) (fun z => by rw [r2] at z; cases z; simp at r3)), r1, r2, r3, rest⟩
    · obtain ⟨bm, ob, b1, b2, b3, b4, b5, b6⟩ := bm
      refine ⟨bm, ob, b1, b2, fun q => ?_, fun q => ?_, hidT_get b3 (plain b3 (fun its n z => by rw [b6] at z; cases z) (fun z => by rw [b6] at z; cases z)), b4, b5, b6⟩
      · obtain ⟨o, es, n, e, d, _⟩ := glob
        rw [q, e] at b3; cases b3; rw [d] at b6; cases b6
      · have := not_tab b3 (by rw [q]; exact tabs p hp)
        rw [b6] at this; cases this
    · obtain ⟨o, es, n, e, d, _⟩ := glob
      rw [z] at e
      have := not_tab e (tabs p hp)
      rw [d] at this; cases this
  have e0 : Env0 P w K mg (hidT s₁.heap H) callerA [] s₁ H := ⟨rfl, ⟨kinB, nsB glob, ⟨mb, nsB blt, boot⟩, let ⟨mc, h1, h2⟩ := free; ⟨mc, nsB h1, h2⟩⟩, fun b o e => of_hidT e, Nat.le_of_eq (hidT_size _ _), trivial,
    (fun b hb => absurd (show b ∈ ([] : List Addr) from hb) (by simp)), hok, .of_eq still⟩
  refine codeAny_mono (run _ H kinB (nsB glob) tb e0 (bind s₁ (.ref a)) (.cons rfl .nil) (told H tabH script)) fun r s' out => ?_
  match r, out with
  | .error e, out => exact (show False from out).elim
  | .ok (.ret u), out =>
    obtain ⟨v, H', os, bare, un, hok', ru, rfl⟩ := out
    obtain rfl : u = Value.bool true := ru
    have kept : ∀ b o, b ∉ cs.map (·.2) → s₁.heap.get? b = some o → s'.heap.get? b = some o := fun b o nb e => by
      cases q : H b with
      | none => exact un.keep b o e q (fun z => absurd (show b ∈ ([] : List Addr) from z) (by simp)) (by simp)
      | some u =>
        rcases at_ q with ⟨m, _⟩ | ⟨_, _, rfl, rfl⟩
        · exact (nb m).elim
        · obtain ⟨z1, _⟩ := hok _ _ q
          obtain ⟨z2, _⟩ := hok' _ _ (un.frzs _ _ _ q)
          rw [e] at z1; cases z1; exact z2
    have grown : ∀ p ∈ cs, ∃ more : Array Value, s'.heap.get? p.2 = some { cls := .none, data := .fields more } := fun p hp => by
      obtain ⟨more, z⟩ := un.tbls p.2 #[] (tabH p hp)
      exact ⟨_, hok' _ _ z⟩
    have two : ∀ b o, s₁.heap.get? b = some o → (b ∈ cs.map (·.2) ∧ ∃ p ∈ cs, p.2 = b) ∨ b ∉ cs.map (·.2) := fun b o e => by
      by_cases m : b ∈ cs.map (·.2)
      · obtain ⟨p, hp, z⟩ := List.mem_map.mp m
        exact .inl ⟨m, p, hp, z⟩
      · exact .inr m
    refine ⟨rfl, ⟨fun b o e => ?_, fun b o e => ?_⟩, os, bare⟩
    · rcases two b o e with ⟨_, p, hp, rfl⟩ | nb
      · obtain ⟨more, hm⟩ := grown p hp
        rw [tabs p hp] at e; cases e
        exact .inr (.inl ⟨((heads p hp).tab (tabs p hp)).isCodeTable, rfl, #[], more, rfl, by rw [Array.empty_append]; exact hm⟩)
      · exact .inl (kept b o nb e)
    · rcases two b o e with ⟨_, p, hp, rfl⟩ | nb
      · exact ⟨_, (grown p hp).choose_spec⟩
      · exact ⟨o, kept b o nb e⟩
theorem walk_there {l : PySem.W.OpenLaw} {n : Nat} {q : Program} {loose : List Str} {XP : (Str → Option Value) → Heap → Prop} {YP : World → Heap → Prop} {d : DefRec} {x : Str} (most : l.most = some n) (fits : n ≤ sizeLine) (plain : d.params.defaults = [])
    (F : ∀ (w : World) (mg : Str → Option Value) (fa : Addr) (h : Heap), YP w h → h.Ns mainGlobals mg → mg d.name = some (.ref fa) →
      ∃ (K : PySem.W.Frag) (fd : FuncData) (cs : List (Addr × Addr)) (sp : Sp), K.In h ∧ (∀ p ∈ cs, h.get? p.2 = some { cls := .none, data := .fields #[] }) ∧ (∀ p ∈ cs, K.lookup p.2 = none) ∧ (∀ p ∈ cs, PySem.W.CodeHd h p.1 p.2) ∧ (∀ (s : Shared) (u : Value), BindsTo s fd ⟨[u], []⟩ [(x, u)]) ∧
        (∀ (H : Hp) (a : Addr) (ns : List Int), ns.length ≤ n → (∀ p ∈ cs, H p.2 = some (.tbl #[])) → SqL K H a (ns.map V.int) → sp [.ref a] H (fun v _ => v = .bl true) fun _ _ _ => False) ∧
        ∀ (s₁ : Shared) (base : Heap) (H : Hp) (a : Addr), K.In base → base.Ns mainGlobals mg → (∀ p ∈ cs, TabB base mg p.1 p.2) → Env0 l.prog w K mg base callerA [] s₁ H → BindsTo s₁ fd ⟨[.ref a], []⟩ [(x, .ref a)] → Vals [V.ref a] [Value.ref a] → sp [.ref a] H (fun v _ => v = .bl true) (fun _ _ _ => False) →
          codeAny (model l.prog w) callerA (.call (.ref fa) ⟨[.ref a], []⟩) (CR C8.CX0 [] l.prog w H s₁ (fun v _ => v = .bl true) (fun _ _ _ => False)) s₁) :
    PySem.W.WalkO q loose XP YP l.row.toRowW d [] (fun f vs => PySem.call f vs) := by
  refine Att.attach_callB most plain fun w s₀ s₁ mg mb fa o pm cd doc a vs ns G Y ho hd hcd hmg arg whole short _ still => ?_
  obtain ⟨K, fd, cs, sp, kin, tabs, apart, heads, bind, told, run⟩ := F w mg fa _ Y G.T.g hmg
  exact called_there kin G.T.g G.T.b G.T.builtins G.T.nolimit still tabs apart heads G.T.bmain arg whole (Nat.le_trans short fits) (fun base H => run s₁ base H a) bind fun H t => told H a ns short t
end KN

set_option Elab.async false
set_option linter.all false
set_option maxRecDepth 100000
set_option maxHeartbeats 4000000
/-! What a look at the written part says of an own exception's class. -/
namespace KN
open PySem PySem.Spec PyProof.Rows L2
theorem madeB_ok {K : PySem.W.Frag} {C : Addr} {bm : List Value} {nw : String} (mb : MadeBy nw bm) (h : madeB K C bm nw = true) :
    ∃ nm qn N bs bm sn sb ab col dd k0 k1 k2 k3 k5 nw, K.lookup C = some (excClassObj nm qn C N bs bm true sn sb ab col dd k0 k1 k2 k3 k5 nw) ∧ MadeBy nw bm := by
  unfold madeB at h
  split at h
  · rename_i t dd cd sl look
    simp only [Bool.and_eq_true, decide_eq_true_eq, beq_iff_eq, Bool.not_eq_true'] at h
    obtain ⟨⟨⟨⟨rfl, h2⟩, h3⟩, h4⟩, h5⟩ := h
    split at h2
    · rename_i k0 k1 k2 k3 n k5 hs
      have e := of_decide_eq_true h2
      subst e
      obtain ⟨nm, bs, mro, ns, qn, hd, sn, sb, ab, col, del⟩ := cd
      dsimp only at h3 h4 h5
      subst h3 h4 h5
      have hsl : sl = #[k0, k1, k2, k3, some (.builtin n), k5] := by
        obtain ⟨l⟩ := sl
        simp only at hs
        rw [hs]
      subst hsl
      exact ⟨nm, qn, ns, bs, bm, sn, sb, ab, col, dd, k0, k1, k2, k3, k5, n, look, mb⟩
    · cases h2
  · cases h
structure ExcX (K : PySem.W.Frag) (C : Addr) (f : Str) (B : String) (fI : Addr) : Prop where
  cls : OexG K C
  plain : PySem.W.findIn K (.ref C) f = some none
  met : ExcMet K C B
  init : PySem.W.findIn K (.ref C) "__init__" = some (some (.ref fI))
  fn : PySem.W.typeIn K (.ref fI) = some (.type "function")
theorem excB_ok {K : PySem.W.Frag} {C : Addr} {f : Str} {B : String} {fI : Addr} {bm : List Value} {nw : String} (mb : MadeBy nw bm) (h : excB K C f B fI bm nw = true) : ExcX K C f B fI := by
  unfold excB at h
  obtain ⟨h1, h⟩ := Bool.and_eq_true_iff.mp h
  obtain ⟨h2, h⟩ := Bool.and_eq_true_iff.mp h
  obtain ⟨h3, h⟩ := Bool.and_eq_true_iff.mp h
  obtain ⟨h4, h⟩ := Bool.and_eq_true_iff.mp h
  obtain ⟨h5, h⟩ := Bool.and_eq_true_iff.mp h
  obtain ⟨h6, h⟩ := Bool.and_eq_true_iff.mp h
  obtain ⟨h7, h⟩ := Bool.and_eq_true_iff.mp h
  obtain ⟨h8, h⟩ := Bool.and_eq_true_iff.mp h
  obtain ⟨h9, h⟩ := Bool.and_eq_true_iff.mp h
  obtain ⟨h10, h⟩ := Bool.and_eq_true_iff.mp h
  obtain ⟨h11, h⟩ := Bool.and_eq_true_iff.mp h
  obtain ⟨h12, h⟩ := Bool.and_eq_true_iff.mp h
  obtain ⟨h13, h⟩ := Bool.and_eq_true_iff.mp h
  obtain ⟨h14, h15⟩ := Bool.and_eq_true_iff.mp h
  have xf := xfB_ok h7
  exact ⟨⟨madeB_ok mb h1, of_decide_eq_true h2, of_decide_eq_true h3, of_decide_eq_true h4, h5⟩, of_decide_eq_true h6,
    ⟨xf, ⟨xf.ga, xf.gg, xf.exC, xf.hdC, of_decide_eq_true h8, of_decide_eq_true h9, of_decide_eq_true h10, of_decide_eq_true h11⟩, of_decide_eq_true h12, of_decide_eq_true h13⟩, of_decide_eq_true h14, of_decide_eq_true h15⟩
end KN

set_option Elab.async false
set_option linter.all false
set_option maxRecDepth 100000
set_option maxHeartbeats 4000000
namespace KN
open PySem L2
theorem fun_of {K : PySem.W.Frag} {x qual : Str} {st : Stmt} {f : Addr} {fd : FuncData} {kws : List (Str × V)} (F : FunD K x qual (defArgs st) (defBody st) (defScope st) [] kws f fd) : Fun K x qual st f fd := by
  obtain ⟨⟨oc, od, dV, kV, doc, pm, an, cdv, ct, osl, e, l, c, h, _⟩, k⟩ := F
  rcases h with ⟨_, rfl⟩ | ⟨h, _⟩
  · exact ⟨⟨oc, od, kV, doc, pm, an, cdv, ct, osl, e, l, c⟩, k⟩
  · exact absurd rfl h
theorem fund_form {K : PySem.W.Frag} {x qual : Str} {params : Arguments} {body : List Stmt} {scope : Scope} {f : Addr} {fd : FuncData} {dvs : List V} {kws : List (Str × V)} (F : FunD K x qual params body scope dvs kws f fd) (e : dvs = []) : ∃ (kV doc pm : Value) (an : Option Addr) (cdv ct : Value), fd = PySem.W.fnOf x qual params body scope .none kV doc pm an cdv ct := by
  subst e
  obtain ⟨⟨oc, od, dV, kV, doc, pm, an, cdv, ct, osl, e, l, c, h, _⟩, k⟩ := F
  rcases h with ⟨_, rfl⟩ | ⟨h, _⟩
  · exact ⟨kV, doc, pm, an, cdv, ct, e⟩
  · exact absurd rfl h

structure SaX (K : PySem.W.Frag) (C f : Addr) : Prop where
  ha : PySem.W.findIn K (.ref C) "__class__" = some (some (.builtin "object.__class__"))
  hn : PySem.W.specialIn K (.builtin "object.__class__") "__get__" = some (some (.builtin "getset_descriptor.__get__"))
  htk : PySem.W.takesIn K (.builtin "object.__class__") = some true
  hm : PySem.W.mroIn K C (.type "object") = some true
  me : PySem.W.kitOne K (.ref C) (.ref C) = some true
  eq : PySem.W.findIn K (.ref C) "__eq__" = some (some (.ref f))
  fn : PySem.W.isFn K (.ref f) = true
  ne : PySem.W.findIn K (.ref C) "__ne__" = some (some (.builtin "object.__ne__"))
  no : ∀ t ∈ ["NoneType", "tuple", "int", "str", "list", "dict"], PySem.W.kitOne K (.type t) (.ref C) = some false
  nf : ∀ t ∈ ["NoneType", "tuple", "int", "str", "list", "dict"], PySem.W.notFirst K C (.type t) = true
theorem saB_ok {K : PySem.W.Frag} {C f : Addr} (h : saB K C f = true) : SaX K C f := by
  unfold saB at h
  obtain ⟨h1, h⟩ := He.ba h
  obtain ⟨h2, h⟩ := He.ba h
  obtain ⟨h3, h⟩ := He.ba h
  obtain ⟨h4, h⟩ := He.ba h
  obtain ⟨h5, h⟩ := He.ba h
  obtain ⟨h6, h⟩ := He.ba h
  obtain ⟨h7, h⟩ := He.ba h
  obtain ⟨h8, h⟩ := He.ba h
  obtain ⟨h9, h10⟩ := He.ba h
  exact ⟨of_decide_eq_true h1, of_decide_eq_true h2, of_decide_eq_true h3, of_decide_eq_true h4, of_decide_eq_true h5, of_decide_eq_true h6, h7, of_decide_eq_true h8, fun t ht => of_decide_eq_true (List.all_eq_true.mp h9 t ht), fun t ht => List.all_eq_true.mp h10 t ht⟩
theorem tupB_ok {K : PySem.W.Frag} {D : Addr} {q : Str × Bool × Bool × Bool} (h : tupB K D q = true) : ∃ t : Addr, PySem.W.nsIn K D q.1 = some (some (.ref t)) ∧ ∀ H, SqT K H t [.bl q.2.1, .bl q.2.2.1, .bl q.2.2.2] := by
  unfold tupB at h
  split at h
  · rename_i t e
    split at h
    · rename_i c dd its n sl look
      obtain ⟨h1, h2⟩ := He.ba h
      refine ⟨t, e, fun H => .inr ⟨_, its, n, look, congrArg Value.type (of_decide_eq_true h1), rfl, ?_, ?_⟩⟩
      · rw [of_decide_eq_true h2]; show 3 ≤ sizeLine; decide
      · rw [of_decide_eq_true h2]; exact .cons rfl (.cons rfl (.cons rfl .nil))
    · cases h
  · cases h
theorem exF_ok {K : PySem.W.Frag} (h : exF K = true) : ExcX K (He.ga K "BadSaying") "part" "ValueError" (He.fAd K ("BadSaying", some "__init__")) ∧ SaX K (He.ga K "Saying") (He.fAd K ("Saying", some "__eq__")) ∧
    ((∀ q ∈ fiveW, ∃ t : Addr, PySem.W.nsIn K (He.ga K "WORDS") q.1 = some (some (.ref t)) ∧ ∀ H, SqT K H t [.bl q.2.1, .bl q.2.2.1, .bl q.2.2.2]) ∧ ∀ z ∈ oddW, PySem.W.nsIn K (He.ga K "WORDS") z = some none) ∧ (He.cT K ("_law_said_right", none)).2 ≠ (He.cT K ("law", none)).2 := by
  unfold exF at h
  obtain ⟨h1, h⟩ := He.ba h
  obtain ⟨h2, h⟩ := He.ba h
  obtain ⟨h3, h⟩ := He.ba h
  obtain ⟨h4, h5⟩ := He.ba h
  exact ⟨excB_ok val_made h1, saB_ok h2, ⟨fun q hq => tupB_ok (List.all_eq_true.mp h3 q hq), fun z hz => of_decide_eq_true (List.all_eq_true.mp h4 z hz)⟩, of_decide_eq_true h5⟩
set_option maxHeartbeats 0 in
theorem facts {l : PySem.W.OpenLaw} {w : World} {K : PySem.W.Frag} {h : Heap} {mg : Str → Option Value} {f : Addr} (X : K.In h) (G : h.Ns mainGlobals mg) (hfa : mg "law" = some (.ref f)) (cX : He.SaysX fa fn ts_ tf_ exF w h K) :
    ∃ fd : FuncData, (∀ (s : Shared) (v : Value), BindsTo s fd ⟨[v], []⟩ [("_law_script", v)]) ∧ ∀ (s₁ : Shared) (base : Heap) (H : Hp) (a : Addr), K.In base → base.Ns mainGlobals mg → (∀ p ∈ [He.cT K ("_law_said_right", none), He.cT K ("law", none)], LamX.TabB base mg p.1 p.2) → Env0 l.prog w K mg base callerA [] s₁ H → BindsTo s₁ fd ⟨[.ref a], []⟩ [("_law_script", .ref a)] → Vals [V.ref a] [Value.ref a] → spLawS (tabT K) K [.ref a] H (fun v _ => v = .bl true) (fun _ _ _ => False) →
      codeAny (model l.prog w) callerA (.call (.ref f) ⟨[.ref a], []⟩) (CR C8.CX0 [] l.prog w H s₁ (fun v _ => v = .bl true) (fun _ _ _ => False)) s₁ := by
  have ct := cX.t
  have c := ct.d
  have cx := cX.more
  have e := hfa.symm.trans (He.glo_ok X G (c.fact 0 rfl))
  cases e
  have m_len := He.free_ok X G (c.fact 1 rfl)
  have m_isinstance := He.free_ok X G (c.fact 2 rfl)
  have m_int := He.free_ok X G (c.fact 3 rfl)
  have m_bool := He.free_ok X G (c.fact 4 rfl)
  have m_str := He.free_ok X G (c.fact 5 rfl)
  have m_all := He.free_ok X G (c.fact 6 rfl)
  have m_tuple := He.free_ok X G (c.fact 7 rfl)
  have m_list := He.free_ok X G (c.fact 8 rfl)
  have m_range := He.free_ok X G (c.fact 9 rfl)
  have m_repr := He.free_ok X G (c.fact 10 rfl)
  have m_ValueError := He.free_ok X G (c.fact 11 rfl)
  have gl_MOST_LETTERS : ∃ u, mg "MOST_LETTERS" = some u ∧ RelV (.int 12) u := let ⟨t, h⟩ := He.int_ok X G (c.fact 12 rfl); ⟨_, h, t, rfl⟩
  have gl_MOST_RANK : ∃ u, mg "MOST_RANK" = some u ∧ RelV (.int 5) u := let ⟨t, h⟩ := He.int_ok X G (c.fact 13 rfl); ⟨_, h, t, rfl⟩
  have gl_MOST_TREES : ∃ u, mg "MOST_TREES" = some u ∧ RelV (.int 3) u := let ⟨t, h⟩ := He.int_ok X G (c.fact 14 rfl); ⟨_, h, t, rfl⟩
  have gl_LETTERS : ∃ u, mg "LETTERS" = some u ∧ RelV (.str letters) u := let ⟨t, h⟩ := He.str_ok X G (c.fact 15 rfl); ⟨_, h, t, rfl⟩
  have gl_Saying : ∃ u, mg "Saying" = some u ∧ RelV (.ref (He.ga K "Saying")) u := ⟨_, He.glo_ok X G (c.fact 16 rfl), rfl⟩
  have gl_WORDS : ∃ u, mg "WORDS" = some u ∧ RelV (.ref (He.ga K "WORDS")) u := ⟨_, He.glo_ok X G (c.fact 17 rfl), rfl⟩
  have K_S : SaT K (He.ga K "Saying") := ⟨He.cls_ok (c.fact 18 rfl), He.noat_ok (c.fact 19 rfl), He.noat_ok (c.fact 20 rfl), He.noat_ok (c.fact 21 rfl), He.noat_ok (c.fact 22 rfl), He.noat_ok (c.fact 23 rfl)⟩
  obtain ⟨X_B, C_S, W_, P12⟩ := exF_ok cx
  have I_S : C8.InsC K (He.ga K "Saying") := ⟨He.cls_ok (c.fact 18 rfl), C_S.ha, C_S.hn, C_S.htk, C_S.hm, C_S.me⟩
  have WA : WordsAt K w (He.ga K "WORDS") := ⟨ct.tab 0 rfl, W_.1, W_.2⟩
  obtain ⟨fd0, G0⟩ := c.def_ 0 (d := d0) rfl
  obtain ⟨kV0, dc0, pm0, an0, cd0, ct0, rfl⟩ := fund_form G0 rfl
  have H0 : FunD K "_law_pen" "_law_pen" (defArgs s__law_pen) (defBody s__law_pen) (defScope s__law_pen) [] [] (He.fAd K ("_law_pen", none)) (PySem.W.fnOf "_law_pen" "_law_pen" (defArgs s__law_pen) (defBody s__law_pen) (defScope s__law_pen) .none kV0 dc0 pm0 an0 cd0 ct0) := G0
  have F0 : Fun K "_law_pen" "_law_pen" s__law_pen (He.fAd K ("_law_pen", none)) (PySem.W.fnOf "_law_pen" "_law_pen" (defArgs s__law_pen) (defBody s__law_pen) (defScope s__law_pen) .none kV0 dc0 pm0 an0 cd0 ct0) := fun_of H0
  have b0 := F0.binds (ps := ["_law_script"]) fun _ _ _ _ _ _ us hl => match us, hl with | [_], _ => rfl
  obtain ⟨fd1, G1⟩ := c.def_ 1 (d := d1) rfl
  obtain ⟨kV1, dc1, pm1, an1, cd1, ct1, rfl⟩ := fund_form G1 rfl
  have H1 : FunD K "_law_draw" "_law_draw" (defArgs s__law_draw) (defBody s__law_draw) (defScope s__law_draw) [] [] (He.fAd K ("_law_draw", none)) (PySem.W.fnOf "_law_draw" "_law_draw" (defArgs s__law_draw) (defBody s__law_draw) (defScope s__law_draw) .none kV1 dc1 pm1 an1 cd1 ct1) := G1
  have F1 : Fun K "_law_draw" "_law_draw" s__law_draw (He.fAd K ("_law_draw", none)) (PySem.W.fnOf "_law_draw" "_law_draw" (defArgs s__law_draw) (defBody s__law_draw) (defScope s__law_draw) .none kV1 dc1 pm1 an1 cd1 ct1) := fun_of H1
  have b1 := F1.binds (ps := ["_law_pen_here", "_law_many"]) fun _ _ _ _ _ _ us hl => match us, hl with | [_, _], _ => rfl
  obtain ⟨fd2, G2⟩ := c.def_ 2 (d := d2) rfl
  obtain ⟨kV2, dc2, pm2, an2, cd2, ct2, rfl⟩ := fund_form G2 rfl
  have H2 : FunD K "_law_pick" "_law_pick" (defArgs s__law_pick) (defBody s__law_pick) (defScope s__law_pick) [] [] (He.fAd K ("_law_pick", none)) (PySem.W.fnOf "_law_pick" "_law_pick" (defArgs s__law_pick) (defBody s__law_pick) (defScope s__law_pick) .none kV2 dc2 pm2 an2 cd2 ct2) := G2
  have F2 : Fun K "_law_pick" "_law_pick" s__law_pick (He.fAd K ("_law_pick", none)) (PySem.W.fnOf "_law_pick" "_law_pick" (defArgs s__law_pick) (defBody s__law_pick) (defScope s__law_pick) .none kV2 dc2 pm2 an2 cd2 ct2) := fun_of H2
  have b2 := F2.binds (ps := ["_law_pen_here", "_law_some"]) fun _ _ _ _ _ _ us hl => match us, hl with | [_, _], _ => rfl
  obtain ⟨fd3, G3⟩ := c.def_ 3 (d := d3) rfl
  obtain ⟨kV3, dc3, pm3, an3, cd3, ct3, rfl⟩ := fund_form G3 rfl
  have H3 : FunD K "is_number" "is_number" (defArgs s_is_number) (defBody s_is_number) (defScope s_is_number) [] [] (He.fAd K ("is_number", none)) (PySem.W.fnOf "is_number" "is_number" (defArgs s_is_number) (defBody s_is_number) (defScope s_is_number) .none kV3 dc3 pm3 an3 cd3 ct3) := G3
  have F3 : Fun K "is_number" "is_number" s_is_number (He.fAd K ("is_number", none)) (PySem.W.fnOf "is_number" "is_number" (defArgs s_is_number) (defBody s_is_number) (defScope s_is_number) .none kV3 dc3 pm3 an3 cd3 ct3) := fun_of H3
  have b3 := F3.binds (ps := ["thing", "low", "high"]) fun _ _ _ _ _ _ us hl => match us, hl with | [_, _, _], _ => rfl
  obtain ⟨fd4, G4⟩ := c.def_ 4 (d := d4) rfl
  obtain ⟨kV4, dc4, pm4, an4, cd4, ct4, rfl⟩ := fund_form G4 rfl
  have H4 : FunD K "is_word" "is_word" (defArgs s_is_word) (defBody s_is_word) (defScope s_is_word) [] [] (He.fAd K ("is_word", none)) (PySem.W.fnOf "is_word" "is_word" (defArgs s_is_word) (defBody s_is_word) (defScope s_is_word) .none kV4 dc4 pm4 an4 cd4 ct4) := G4
  have F4 : Fun K "is_word" "is_word" s_is_word (He.fAd K ("is_word", none)) (PySem.W.fnOf "is_word" "is_word" (defArgs s_is_word) (defBody s_is_word) (defScope s_is_word) .none kV4 dc4 pm4 an4 cd4 ct4) := fun_of H4
  have b4 := F4.binds (ps := ["thing"]) fun _ _ _ _ _ _ us hl => match us, hl with | [_], _ => rfl
  obtain ⟨fd5, G5⟩ := c.def_ 5 (d := d5) rfl
  obtain ⟨kV5, dc5, pm5, an5, cd5, ct5, rfl⟩ := fund_form G5 rfl
  have H5 : FunD K "is_node" "is_node" (defArgs s_is_node) (defBody s_is_node) (defScope s_is_node) [] [] (He.fAd K ("is_node", none)) (PySem.W.fnOf "is_node" "is_node" (defArgs s_is_node) (defBody s_is_node) (defScope s_is_node) .none kV5 dc5 pm5 an5 cd5 ct5) := G5
  have F5 : Fun K "is_node" "is_node" s_is_node (He.fAd K ("is_node", none)) (PySem.W.fnOf "is_node" "is_node" (defArgs s_is_node) (defBody s_is_node) (defScope s_is_node) .none kV5 dc5 pm5 an5 cd5 ct5) := fun_of H5
  have b5 := F5.binds (ps := ["thing"]) fun _ _ _ _ _ _ us hl => match us, hl with | [_], _ => rfl
  obtain ⟨fd6, G6⟩ := c.def_ 6 (d := d6) rfl
  obtain ⟨kV6, dc6, pm6, an6, cd6, ct6, rfl⟩ := fund_form G6 rfl
  have H6 : FunD K "_is_side" "_is_side" (defArgs s__is_side) (defBody s__is_side) (defScope s__is_side) [] [] (He.fAd K ("_is_side", none)) (PySem.W.fnOf "_is_side" "_is_side" (defArgs s__is_side) (defBody s__is_side) (defScope s__is_side) .none kV6 dc6 pm6 an6 cd6 ct6) := G6
  have F6 : Fun K "_is_side" "_is_side" s__is_side (He.fAd K ("_is_side", none)) (PySem.W.fnOf "_is_side" "_is_side" (defArgs s__is_side) (defBody s__is_side) (defScope s__is_side) .none kV6 dc6 pm6 an6 cd6 ct6) := fun_of H6
  have b6 := F6.binds (ps := ["thing", "many"]) fun _ _ _ _ _ _ us hl => match us, hl with | [_, _], _ => rfl
  obtain ⟨fd7, G7⟩ := c.def_ 7 (d := d7) rfl
  obtain ⟨kV7, dc7, pm7, an7, cd7, ct7, rfl⟩ := fund_form G7 rfl
  have H7 : FunD K "unsaid_part" "unsaid_part" (defArgs s_unsaid_part) (defBody s_unsaid_part) (defScope s_unsaid_part) [] [] (He.fAd K ("unsaid_part", none)) (PySem.W.fnOf "unsaid_part" "unsaid_part" (defArgs s_unsaid_part) (defBody s_unsaid_part) (defScope s_unsaid_part) .none kV7 dc7 pm7 an7 cd7 ct7) := G7
  have F7 : Fun K "unsaid_part" "unsaid_part" s_unsaid_part (He.fAd K ("unsaid_part", none)) (PySem.W.fnOf "unsaid_part" "unsaid_part" (defArgs s_unsaid_part) (defBody s_unsaid_part) (defScope s_unsaid_part) .none kV7 dc7 pm7 an7 cd7 ct7) := fun_of H7
  have b7 := F7.binds (ps := ["both", "first", "second"]) fun _ _ _ _ _ _ us hl => match us, hl with | [_, _, _], _ => rfl
  obtain ⟨fd8, G8⟩ := c.def_ 8 (d := d8) rfl
  obtain ⟨kV8, dc8, pm8, an8, cd8, ct8, rfl⟩ := fund_form G8 rfl
  have H8 : FunD K "__init__" "BadSaying.__init__" (defArgs s_BadSaying___init__) (defBody s_BadSaying___init__) (defScope s_BadSaying___init__) [] [] (He.fAd K ("BadSaying", some "__init__")) (PySem.W.fnOf "__init__" "BadSaying.__init__" (defArgs s_BadSaying___init__) (defBody s_BadSaying___init__) (defScope s_BadSaying___init__) .none kV8 dc8 pm8 an8 cd8 ct8) := G8
  have F8 : Fun K "__init__" "BadSaying.__init__" s_BadSaying___init__ (He.fAd K ("BadSaying", some "__init__")) (PySem.W.fnOf "__init__" "BadSaying.__init__" (defArgs s_BadSaying___init__) (defBody s_BadSaying___init__) (defScope s_BadSaying___init__) .none kV8 dc8 pm8 an8 cd8 ct8) := fun_of H8
  have b8 := F8.binds (ps := ["self", "part"]) fun _ _ _ _ _ _ us hl => match us, hl with | [_, _], _ => rfl
  obtain ⟨fd9, G9⟩ := c.def_ 9 (d := d9) rfl
  obtain ⟨kV9, dc9, pm9, an9, cd9, ct9, rfl⟩ := fund_form G9 rfl
  have H9 : FunD K "__init__" "Saying.__init__" (defArgs s_Saying___init__) (defBody s_Saying___init__) (defScope s_Saying___init__) [] [("both", V.non), ("first", V.non), ("second", V.non)] (He.fAd K ("Saying", some "__init__")) (PySem.W.fnOf "__init__" "Saying.__init__" (defArgs s_Saying___init__) (defBody s_Saying___init__) (defScope s_Saying___init__) .none kV9 dc9 pm9 an9 cd9 ct9) := G9
  obtain ⟨fd10, G10⟩ := c.def_ 10 (d := d10) rfl
  obtain ⟨kV10, dc10, pm10, an10, cd10, ct10, rfl⟩ := fund_form G10 rfl
  have H10 : FunD K "__eq__" "Saying.__eq__" (defArgs s_Saying___eq__) (defBody s_Saying___eq__) (defScope s_Saying___eq__) [] [] (He.fAd K ("Saying", some "__eq__")) (PySem.W.fnOf "__eq__" "Saying.__eq__" (defArgs s_Saying___eq__) (defBody s_Saying___eq__) (defScope s_Saying___eq__) .none kV10 dc10 pm10 an10 cd10 ct10) := G10
  have F10 : Fun K "__eq__" "Saying.__eq__" s_Saying___eq__ (He.fAd K ("Saying", some "__eq__")) (PySem.W.fnOf "__eq__" "Saying.__eq__" (defArgs s_Saying___eq__) (defBody s_Saying___eq__) (defScope s_Saying___eq__) .none kV10 dc10 pm10 an10 cd10 ct10) := fun_of H10
  have b10 := F10.binds (ps := ["self", "other"]) fun _ _ _ _ _ _ us hl => match us, hl with | [_, _], _ => rfl
  obtain ⟨fd11, G11⟩ := c.def_ 11 (d := d11) rfl
  obtain ⟨kV11, dc11, pm11, an11, cd11, ct11, rfl⟩ := fund_form G11 rfl
  have H11 : FunD K "said" "said" (defArgs s_said) (defBody s_said) (defScope s_said) [] [] (He.fAd K ("said", none)) (PySem.W.fnOf "said" "said" (defArgs s_said) (defBody s_said) (defScope s_said) .none kV11 dc11 pm11 an11 cd11 ct11) := G11
  have F11 : Fun K "said" "said" s_said (He.fAd K ("said", none)) (PySem.W.fnOf "said" "said" (defArgs s_said) (defBody s_said) (defScope s_said) .none kV11 dc11 pm11 an11 cd11 ct11) := fun_of H11
  have b11 := F11.binds (ps := ["one", "other", "word"]) fun _ _ _ _ _ _ us hl => match us, hl with | [_, _, _], _ => rfl
  obtain ⟨fd12, G12⟩ := c.def_ 12 (d := d12) rfl
  obtain ⟨kV12, dc12, pm12, an12, cd12, ct12, rfl⟩ := fund_form G12 rfl
  have H12 : FunD K "_law_bad_saying" "_law_bad_saying" (defArgs s__law_bad_saying) (defBody s__law_bad_saying) (defScope s__law_bad_saying) [] [] (He.fAd K ("_law_bad_saying", none)) (PySem.W.fnOf "_law_bad_saying" "_law_bad_saying" (defArgs s__law_bad_saying) (defBody s__law_bad_saying) (defScope s__law_bad_saying) .none kV12 dc12 pm12 an12 cd12 ct12) := G12
  have F12 : Fun K "_law_bad_saying" "_law_bad_saying" s__law_bad_saying (He.fAd K ("_law_bad_saying", none)) (PySem.W.fnOf "_law_bad_saying" "_law_bad_saying" (defArgs s__law_bad_saying) (defBody s__law_bad_saying) (defScope s__law_bad_saying) .none kV12 dc12 pm12 an12 cd12 ct12) := fun_of H12
  have b12 := F12.binds (ps := ["_law_asked"]) fun _ _ _ _ _ _ us hl => match us, hl with | [_], _ => rfl
  obtain ⟨fd13, G13⟩ := c.def_ 13 (d := d13) rfl
  obtain ⟨kV13, dc13, pm13, an13, cd13, ct13, rfl⟩ := fund_form G13 rfl
  have H13 : FunD K "_law_is_node" "_law_is_node" (defArgs s__law_is_node) (defBody s__law_is_node) (defScope s__law_is_node) [] [] (He.fAd K ("_law_is_node", none)) (PySem.W.fnOf "_law_is_node" "_law_is_node" (defArgs s__law_is_node) (defBody s__law_is_node) (defScope s__law_is_node) .none kV13 dc13 pm13 an13 cd13 ct13) := G13
  have F13 : Fun K "_law_is_node" "_law_is_node" s__law_is_node (He.fAd K ("_law_is_node", none)) (PySem.W.fnOf "_law_is_node" "_law_is_node" (defArgs s__law_is_node) (defBody s__law_is_node) (defScope s__law_is_node) .none kV13 dc13 pm13 an13 cd13 ct13) := fun_of H13
  have b13 := F13.binds (ps := ["_law_thing"]) fun _ _ _ _ _ _ us hl => match us, hl with | [_], _ => rfl
  obtain ⟨fd14, G14⟩ := c.def_ 14 (d := d14) rfl
  obtain ⟨kV14, dc14, pm14, an14, cd14, ct14, rfl⟩ := fund_form G14 rfl
  have H14 : FunD K "_law_is_side" "_law_is_side" (defArgs s__law_is_side) (defBody s__law_is_side) (defScope s__law_is_side) [] [] (He.fAd K ("_law_is_side", none)) (PySem.W.fnOf "_law_is_side" "_law_is_side" (defArgs s__law_is_side) (defBody s__law_is_side) (defScope s__law_is_side) .none kV14 dc14 pm14 an14 cd14 ct14) := G14
  have F14 : Fun K "_law_is_side" "_law_is_side" s__law_is_side (He.fAd K ("_law_is_side", none)) (PySem.W.fnOf "_law_is_side" "_law_is_side" (defArgs s__law_is_side) (defBody s__law_is_side) (defScope s__law_is_side) .none kV14 dc14 pm14 an14 cd14 ct14) := fun_of H14
  have b14 := F14.binds (ps := ["_law_thing"]) fun _ _ _ _ _ _ us hl => match us, hl with | [_], _ => rfl
  obtain ⟨fd15, G15⟩ := c.def_ 15 (d := d15) rfl
  obtain ⟨kV15, dc15, pm15, an15, cd15, ct15, rfl⟩ := fund_form G15 rfl
  have H15 : FunD K "_law_side_drawn" "_law_side_drawn" (defArgs s__law_side_drawn) (defBody s__law_side_drawn) (defScope s__law_side_drawn) [] [] (He.fAd K ("_law_side_drawn", none)) (PySem.W.fnOf "_law_side_drawn" "_law_side_drawn" (defArgs s__law_side_drawn) (defBody s__law_side_drawn) (defScope s__law_side_drawn) .none kV15 dc15 pm15 an15 cd15 ct15) := G15
  have F15 : Fun K "_law_side_drawn" "_law_side_drawn" s__law_side_drawn (He.fAd K ("_law_side_drawn", none)) (PySem.W.fnOf "_law_side_drawn" "_law_side_drawn" (defArgs s__law_side_drawn) (defBody s__law_side_drawn) (defScope s__law_side_drawn) .none kV15 dc15 pm15 an15 cd15 ct15) := fun_of H15
  have b15 := F15.binds (ps := ["_law_pen_here"]) fun _ _ _ _ _ _ us hl => match us, hl with | [_], _ => rfl
  obtain ⟨fd16, G16⟩ := c.def_ 16 (d := d16) rfl
  obtain ⟨kV16, dc16, pm16, an16, cd16, ct16, rfl⟩ := fund_form G16 rfl
  have H16 : FunD K "_law_good_row" "_law_good_row" (defArgs s__law_good_row) (defBody s__law_good_row) (defScope s__law_good_row) [] [] (He.fAd K ("_law_good_row", none)) (PySem.W.fnOf "_law_good_row" "_law_good_row" (defArgs s__law_good_row) (defBody s__law_good_row) (defScope s__law_good_row) .none kV16 dc16 pm16 an16 cd16 ct16) := G16
  have F16 : Fun K "_law_good_row" "_law_good_row" s__law_good_row (He.fAd K ("_law_good_row", none)) (PySem.W.fnOf "_law_good_row" "_law_good_row" (defArgs s__law_good_row) (defBody s__law_good_row) (defScope s__law_good_row) .none kV16 dc16 pm16 an16 cd16 ct16) := fun_of H16
  have b16 := F16.binds (ps := ["_law_pen_here"]) fun _ _ _ _ _ _ us hl => match us, hl with | [_], _ => rfl
  obtain ⟨fd17, G17⟩ := c.def_ 17 (d := d17) rfl
  obtain ⟨kV17, dc17, pm17, an17, cd17, ct17, rfl⟩ := fund_form G17 rfl
  have H17 : FunD K "_law_due" "_law_due" (defArgs s__law_due) (defBody s__law_due) (defScope s__law_due) [] [] (He.fAd K ("_law_due", none)) (PySem.W.fnOf "_law_due" "_law_due" (defArgs s__law_due) (defBody s__law_due) (defScope s__law_due) .none kV17 dc17 pm17 an17 cd17 ct17) := G17
  have F17 : Fun K "_law_due" "_law_due" s__law_due (He.fAd K ("_law_due", none)) (PySem.W.fnOf "_law_due" "_law_due" (defArgs s__law_due) (defBody s__law_due) (defScope s__law_due) .none kV17 dc17 pm17 an17 cd17 ct17) := fun_of H17
  have b17 := F17.binds (ps := ["_law_row"]) fun _ _ _ _ _ _ us hl => match us, hl with | [_], _ => rfl
  obtain ⟨fd18, G18⟩ := c.def_ 18 (d := d18) rfl
  obtain ⟨kV18, dc18, pm18, an18, cd18, ct18, rfl⟩ := fund_form G18 rfl
  have H18 : FunD K "_law_made" "_law_made" (defArgs s__law_made) (defBody s__law_made) (defScope s__law_made) [] [] (He.fAd K ("_law_made", none)) (PySem.W.fnOf "_law_made" "_law_made" (defArgs s__law_made) (defBody s__law_made) (defScope s__law_made) .none kV18 dc18 pm18 an18 cd18 ct18) := G18
  have F18 : Fun K "_law_made" "_law_made" s__law_made (He.fAd K ("_law_made", none)) (PySem.W.fnOf "_law_made" "_law_made" (defArgs s__law_made) (defBody s__law_made) (defScope s__law_made) .none kV18 dc18 pm18 an18 cd18 ct18) := fun_of H18
  have b18 := F18.binds (ps := ["_law_row"]) fun _ _ _ _ _ _ us hl => match us, hl with | [_], _ => rfl
  obtain ⟨fd19, G19⟩ := c.def_ 19 (d := d19) rfl
  obtain ⟨kV19, dc19, pm19, an19, cd19, ct19, rfl⟩ := fund_form G19 rfl
  have H19 : FunD K "_law_same_right" "_law_same_right" (defArgs s__law_same_right) (defBody s__law_same_right) (defScope s__law_same_right) [] [] (He.fAd K ("_law_same_right", none)) (PySem.W.fnOf "_law_same_right" "_law_same_right" (defArgs s__law_same_right) (defBody s__law_same_right) (defScope s__law_same_right) .none kV19 dc19 pm19 an19 cd19 ct19) := G19
  have F19 : Fun K "_law_same_right" "_law_same_right" s__law_same_right (He.fAd K ("_law_same_right", none)) (PySem.W.fnOf "_law_same_right" "_law_same_right" (defArgs s__law_same_right) (defBody s__law_same_right) (defScope s__law_same_right) .none kV19 dc19 pm19 an19 cd19 ct19) := fun_of H19
  have b19 := F19.binds (ps := ["_law_row", "_law_other"]) fun _ _ _ _ _ _ us hl => match us, hl with | [_, _], _ => rfl
  obtain ⟨fd20, G20⟩ := c.def_ 20 (d := d20) rfl
  obtain ⟨kV20, dc20, pm20, an20, cd20, ct20, rfl⟩ := fund_form G20 rfl
  have H20 : FunD K "_law_said_right" "_law_said_right" (defArgs s__law_said_right) (defBody s__law_said_right) (defScope s__law_said_right) [] [] (He.fAd K ("_law_said_right", none)) (PySem.W.fnOf "_law_said_right" "_law_said_right" (defArgs s__law_said_right) (defBody s__law_said_right) (defScope s__law_said_right) .none kV20 dc20 pm20 an20 cd20 ct20) := G20
  have F20 : Fun K "_law_said_right" "_law_said_right" s__law_said_right (He.fAd K ("_law_said_right", none)) (PySem.W.fnOf "_law_said_right" "_law_said_right" (defArgs s__law_said_right) (defBody s__law_said_right) (defScope s__law_said_right) .none kV20 dc20 pm20 an20 cd20 ct20) := fun_of H20
  have b20 := F20.binds (ps := ["_law_pen_here", "_law_one", "_law_other"]) fun _ _ _ _ _ _ us hl => match us, hl with | [_, _, _], _ => rfl
  obtain ⟨fd21, G21⟩ := c.def_ 21 (d := d21) rfl
  obtain ⟨kV21, dc21, pm21, an21, cd21, ct21, rfl⟩ := fund_form G21 rfl
  have H21 : FunD K "law" "law" (defArgs s_law) (defBody s_law) (defScope s_law) [] [] (He.fAd K ("law", none)) (PySem.W.fnOf "law" "law" (defArgs s_law) (defBody s_law) (defScope s_law) .none kV21 dc21 pm21 an21 cd21 ct21) := G21
  have F21 : Fun K "law" "law" s_law (He.fAd K ("law", none)) (PySem.W.fnOf "law" "law" (defArgs s_law) (defBody s_law) (defScope s_law) .none kV21 dc21 pm21 an21 cd21 ct21) := fun_of H21
  have b21 := F21.binds (ps := ["_law_script"]) fun _ _ _ _ _ _ us hl => match us, hl with | [_], _ => rfl
  have hc20 : (PySem.W.fnOf "_law_said_right" "_law_said_right" (defArgs s__law_said_right) (defBody s__law_said_right) (defScope s__law_said_right) .none kV20 dc20 pm20 an20 cd20 ct20).code = .ref (He.cT K ("_law_said_right", none)).1 := by
    obtain ⟨oc, od, kV, doc, pm, an, cdv, ctv, osl, e, lk, hcd⟩ := F20.ex
    obtain ⟨c0, h0⟩ := He.codeIn_ref hcd
    have e2 : (PySem.W.fnOf "_law_said_right" "_law_said_right" (defArgs s__law_said_right) (defBody s__law_said_right) (defScope s__law_said_right) .none kV20 dc20 pm20 an20 cd20 ct20).code = .ref c0 := by rw [e]; exact h0
    have e3 := He.codeOf_eq (p := ("_law_said_right", none)) lk e2
    rw [e2]; exact congrArg Value.ref e3.symm
  have hc21 : (PySem.W.fnOf "law" "law" (defArgs s_law) (defBody s_law) (defScope s_law) .none kV21 dc21 pm21 an21 cd21 ct21).code = .ref (He.cT K ("law", none)).1 := by
    obtain ⟨oc, od, kV, doc, pm, an, cdv, ctv, osl, e, lk, hcd⟩ := F21.ex
    obtain ⟨c0, h0⟩ := He.codeIn_ref hcd
    have e2 : (PySem.W.fnOf "law" "law" (defArgs s_law) (defBody s_law) (defScope s_law) .none kV21 dc21 pm21 an21 cd21 ct21).code = .ref c0 := by rw [e]; exact h0
    have e3 := He.codeOf_eq (p := ("law", none)) lk e2
    rw [e2]; exact congrArg Value.ref e3.symm
  have room : Room 11 callerA := ⟨rfl, by decide, by decide⟩
  have hu1 : ∀ p ∈ tabT K, p.1 = (He.cT K ("_law_said_right", none)).2 → p.2 = ("_law_said_right" : Str) ++ ".<locals>." ++ "<lambda>" := fun p hp e => by
    rcases List.mem_cons.mp hp with rfl | hp
    · rfl
    · rw [List.mem_singleton] at hp; subst hp; exact absurd e.symm P12
  have hu2 : ∀ p ∈ tabT K, p.1 = (He.cT K ("law", none)).2 → p.2 = ("law" : Str) ++ ".<locals>." ++ "<lambda>" := fun p hp e => by
    rcases List.mem_cons.mp hp with rfl | hp
    · exact absurd e P12
    · rw [List.mem_singleton] at hp; subst hp; rfl
  refine ⟨_, fun s v => H21.bindsA (ps := ["_law_script"]) (fun _ _ _ _ _ _ us hl => match us, hl with | [_], _ => rfl) s [v] rfl, fun s₁ base H a _ _ TBs e0 bd rv sp => ?_⟩
  · show codeAny _ _ _ _ _
    have O0 := ok__law_pen (P := l.prog) (w := w) (base := base) (mg := mg) F0 m_list
    have c__law_pen : C8.Cal l.prog w K mg base 1 "_law_pen" (spPen K) [] := ⟨_, _, _, _, O0, He.glo_ok X G (c.fact 24 rfl), H0.kp, b0, .nil⟩
    have O1 := ok__law_draw (P := l.prog) (w := w) (base := base) (mg := mg) F1 m_len
    have c__law_draw : C8.Cal l.prog w K mg base 1 "_law_draw" spDraw [] := ⟨_, _, _, _, O1, He.glo_ok X G (c.fact 25 rfl), H1.kp, b1, .nil⟩
    have O2 := ok__law_pick (P := l.prog) (w := w) (base := base) (mg := mg) F2 m_len c__law_draw
    have c__law_pick : C8.Cal l.prog w K mg base 2 "_law_pick" spPick [] := ⟨_, _, _, _, O2, He.glo_ok X G (c.fact 26 rfl), H2.kp, b2, .nil⟩
    have O3 := ok_is_number (P := l.prog) (w := w) (base := base) (mg := mg) F3 m_isinstance m_int m_bool
    have c_is_number : C8.Cal l.prog w K mg base 1 "is_number" (spNumber K) [] := ⟨_, _, _, _, O3, He.glo_ok X G (c.fact 27 rfl), H3.kp, b3, .nil⟩
    have O4 := ok_is_word (P := l.prog) (w := w) (base := base) (mg := mg) F4 m_isinstance m_str m_len m_all gl_MOST_LETTERS gl_LETTERS
    have c_is_word : C8.Cal l.prog w K mg base 1 "is_word" (spWord K) [] := ⟨_, _, _, _, O4, He.glo_ok X G (c.fact 28 rfl), H4.kp, b4, .nil⟩
    have O5 := ok_is_node (P := l.prog) (w := w) (base := base) (mg := mg) F5 m_isinstance m_tuple m_len gl_MOST_RANK c_is_number c_is_word
    have c_is_node : C8.Cal l.prog w K mg base 2 "is_node" spNodeB [] := ⟨_, _, _, _, O5, He.glo_ok X G (c.fact 29 rfl), H5.kp, b5, .nil⟩
    have O6 := ok__is_side (P := l.prog) (w := w) (base := base) (mg := mg) F6 m_isinstance m_tuple m_len c_is_number c_is_node
    have c__is_side : C8.Cal l.prog w K mg base 3 "_is_side" spSideB [] := ⟨_, _, _, _, O6, He.glo_ok X G (c.fact 30 rfl), H6.kp, b6, .nil⟩
    have O7 := ok_unsaid_part (P := l.prog) (w := w) (base := base) (mg := mg) F7 
    have c_unsaid_part : C8.Cal l.prog w K mg base 1 "unsaid_part" spUnsaid [] := ⟨_, _, _, _, O7, He.glo_ok X G (c.fact 31 rfl), H7.kp, b7, .nil⟩
    have O8 := ok_BadSaying_init (P := l.prog) (w := w) (base := base) (mg := mg) F8 
    have c_BadSaying : ExcOne l.prog w K mg base 1 "BadSaying" "part" (He.ga K "BadSaying") := ⟨⟨X_B.cls, He.glo_ok X G (c.fact 32 rfl), _, _, _, _, X_B.init, X_B.fn, O8, b8, .nil⟩, X_B.plain⟩
    have O9 := ok_x_Saying_init (C := (He.ga K "Saying")) (CB := (He.ga K "BadSaying")) (P := l.prog) (w := w) (base := base) (mg := mg) H9 K_S gl_MOST_TREES c__is_side c_unsaid_part c_BadSaying
    have c_Saying : MakKX l.prog w K mg base 4 2 "Saying" (He.ga K "Saying") (spSay (He.ga K "Saying") (He.ga K "BadSaying")) ["both", "first", "second"] (fun vs zs => vs ++ zs) :=
      ⟨_, _, _, fun us ws => us ++ ws, He.mkr_ok (c.fact 33 rfl), O9, He.glo_ok X G (c.fact 16 rfl), ⟨fun s us ws _ h1 h2 => match us, h1, ws, h2 with | [_, _, _], _, [_, _, _], _ => .of_eq rfl, fun r1 r2 => r1.append r2⟩⟩
    have O10 := ok_Saying_eq (C := (He.ga K "Saying")) (P := l.prog) (w := w) (base := base) (mg := mg) F10 K_S I_S m_isinstance gl_Saying
    have E_ : EqAt l.prog w K mg base (He.ga K "Saying") := ⟨⟨_, _, O10, ⟨C_S.eq, C_S.fn, C_S.ne, C_S.hm⟩, b10⟩, C_S.no, C_S.nf⟩
    have O11 := ok_x_said (C := (He.ga K "Saying")) (CB := (He.ga K "BadSaying")) (D := He.ga K "WORDS") (P := l.prog) (w := w) (base := base) (mg := mg) F11 m_isinstance m_str WA gl_WORDS c_BadSaying c_Saying
    have c_said : CalX l.prog w K mg base 6 "said" (spSaid K (He.ga K "Saying") (He.ga K "BadSaying")) [] := ⟨_, _, _, _, O11, He.glo_ok X G (c.fact 34 rfl), H11.kp, b11, .nil⟩
    have B_ : BadAt K mg (He.ga K "BadSaying") := ⟨⟨_, _, F12, b12, He.glo_ok X G (c.fact 35 rfl)⟩, He.glo_ok X G (c.fact 32 rfl), m_isinstance, m_ValueError, X_B.met, X_B.plain⟩
    have O13 := ok__law_is_node (P := l.prog) (w := w) (base := base) (mg := mg) F13 m_isinstance m_tuple m_str m_int m_bool m_len
    have c__law_is_node : C8.Cal l.prog w K mg base 1 "_law_is_node" spNodeB [] := ⟨_, _, _, _, O13, He.glo_ok X G (c.fact 36 rfl), H13.kp, b13, .nil⟩
    have O14 := ok__law_is_side (P := l.prog) (w := w) (base := base) (mg := mg) F14 m_isinstance m_tuple m_int m_bool m_len c__law_is_node
    have c__law_is_side : C8.Cal l.prog w K mg base 2 "_law_is_side" spSide3 [] := ⟨_, _, _, _, O14, He.glo_ok X G (c.fact 37 rfl), H14.kp, b14, .nil⟩
    have O15 := ok__law_side_drawn (P := l.prog) (w := w) (base := base) (mg := mg) F15 m_list c__law_draw c__law_pick
    have c__law_side_drawn : C8.Cal l.prog w K mg base 3 "_law_side_drawn" spSideD [] := ⟨_, _, _, _, O15, He.glo_ok X G (c.fact 38 rfl), H15.kp, b15, .nil⟩
    have O16 := ok__law_good_row (P := l.prog) (w := w) (base := base) (mg := mg) F16 m_tuple m_range c__law_draw c__law_pick
    have c__law_good_row : C8.Cal l.prog w K mg base 3 "_law_good_row" spGoodRow [] := ⟨_, _, _, _, O16, He.glo_ok X G (c.fact 39 rfl), H16.kp, b16, .nil⟩
    have O17 := ok__law_due (P := l.prog) (w := w) (base := base) (mg := mg) F17 m_isinstance m_bool m_range c__law_is_side
    have c__law_due : C8.Cal l.prog w K mg base 3 "_law_due" spDue [] := ⟨_, _, _, _, O17, He.glo_ok X G (c.fact 40 rfl), H17.kp, b17, .nil⟩
    have O18 := ok_x__law_made (C := (He.ga K "Saying")) (CB := (He.ga K "BadSaying")) (P := l.prog) (w := w) (base := base) (mg := mg) F18 c_Saying
    have c__law_made : CalX l.prog w K mg base 6 "_law_made" (spMade (He.ga K "Saying") (He.ga K "BadSaying")) [] := ⟨_, _, _, _, O18, He.glo_ok X G (c.fact 41 rfl), H18.kp, b18, .nil⟩
    have O19 := ok__law_same_right (C := (He.ga K "Saying")) (CB := (He.ga K "BadSaying")) (P := l.prog) (w := w) (base := base) (mg := mg) F19 I_S E_ c__law_made
    have c__law_same_right : C8.Cal l.prog w K mg base 7 "_law_same_right" (spSame (He.ga K "Saying")) [] := ⟨_, _, _, _, O19, He.glo_ok X G (c.fact 42 rfl), H19.kp, b19, .nil⟩
    have O20 := ok__law_said_right (P := l.prog) (w := w) (base := base) (mg := mg) (C := (He.ga K "Saying")) (CB := (He.ga K "BadSaying")) F20 (T := tabT K) hc20 (TBs _ (List.mem_cons_self ..)) (List.mem_cons_self ..) hu1 B_ I_S K_S E_ c__law_made c_said c__law_pick
    have c__law_said_right : C8.Cal l.prog w K mg base 9 "_law_said_right" (spSaidR (tabT K)) [] := ⟨_, _, _, _, O20, He.glo_ok X G (c.fact 43 rfl), H20.kp, b20, .nil⟩
    exact run_law (args := ⟨[.ref a], []⟩) (us := [.ref a]) (vs := [V.ref a]) (P := l.prog) (w := w) (base := base) (mg := mg) (C := (He.ga K "Saying")) (CB := (He.ga K "BadSaying")) F21 (T := tabT K) hc21 (TBs _ (List.mem_cons_of_mem _ (List.mem_cons_self ..))) (List.mem_cons_of_mem _ (List.mem_cons_self ..)) hu2 m_repr m_tuple m_range B_ I_S K_S c__law_pen c__law_pick c__law_side_drawn c__law_good_row c__law_due c__law_made c__law_same_right c__law_said_right rfl room e0 bd rv sp
end KN

open PySem PySem.W PyProof.Rows
open PySem PySem.W PySem.Calls PyProof.Rows
set_option maxRecDepth 100000 in
set_option maxHeartbeats 0 in
theorem PySem.Challenge.cw_kindnames_k64_what_is_a_saying_holds : PySem.Challenge.rw_kindnames_k64_what_is_a_saying.Holds := by
  w_on; o_law
  refine HandSHeadRun.head_any (r := KN.R) (q := KN.qv) (H := KN.hk) (ob := KN.ob) (M := 12000) (loose := KN.nam) (d := HandSHeadRun.topDef KN.R.prog 29) (kwd := []) KN.ob_eq
    (by kernel_rfl) (fun s => by kernel_rfl) KN.run (by kernel_rfl) (by kernel_rfl) (by kernel_rfl) (by rfl) (by first | assumption | decide +kernel) (by decide +kernel) ⟨rfl, rfl, rfl, rfl, rfl, by decide +kernel⟩ ?hw ?hc
  case hw => w_witness2
  case hc =>
    refine KN.walk_there (l := PySem.Challenge.rw_kindnames_k64_what_is_a_saying) (n := 63) (x := "_law_script") rfl (by decide) (by kernel_rfl) ?F
    intro w mg fa h Y G hmg0
    obtain ⟨K, KX, c⟩ := Y
    have hmg : mg ("law" : PySem.Str) = some (.ref fa) := by
      have e : (HandSHeadRun.topDef KN.R.prog 29).name = ("law" : PySem.Str) := by kernel_rfl
      rw [← e]
      exact hmg0
    obtain ⟨fd, hb, hF⟩ := KN.facts (l := PySem.Challenge.rw_kindnames_k64_what_is_a_saying) (w := w) KX G hmg c
    refine ⟨K, fd, [He.cT K ("_law_said_right", none), He.cT K ("law", none)], KN.spLawS (KN.tabT K) K, KX, fun p hp => ?_, fun p hp => ?_, fun p hp => ?_, hb, fun H a ns hl t hS => ⟨a, ns, rfl, hS, hl, ?_, fun _ => rfl⟩, hF⟩
    · rcases List.mem_cons.mp hp with rfl | hp
      · exact c.empty _ (List.mem_cons_self ..)
      · rw [List.mem_singleton] at hp; subst hp; exact c.empty _ (List.mem_cons_of_mem _ (List.mem_cons_self ..))
    · rcases List.mem_cons.mp hp with rfl | hp
      · exact c.out _ (List.mem_cons_self ..)
      · rw [List.mem_singleton] at hp; subst hp; exact c.out _ (List.mem_cons_of_mem _ (List.mem_cons_self ..))
    · rcases List.mem_cons.mp hp with rfl | hp
      · exact PySem.W.codeHd_of_K KX (c.hd _ (List.mem_cons_self ..))
      · rw [List.mem_singleton] at hp; subst hp; exact PySem.W.codeHd_of_K KX (c.hd _ (List.mem_cons_of_mem _ (List.mem_cons_self ..)))
    · intro q hq
      rcases List.mem_cons.mp hq with rfl | hq
      · exact LamX.TabS.nil (t _ (List.mem_cons_self ..))
      · rw [List.mem_singleton] at hq; subst hq; exact LamX.TabS.nil (t _ (List.mem_cons_of_mem _ (List.mem_cons_self ..)))
