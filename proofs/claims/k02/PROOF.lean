import PyProof.Rows.All
import Wide.All
import OpenK.AllK
import Wide.FinOn
import HandS.ForMost
import HandS.Codes
import HandS.Deep
import HandS.Defaults
import HandS.TupSets
import HandS.TupLe
import HandS.IsInst
import HandS.TupAny
import HandS.Strs
import HandS.DictTup
import HandS.Conv
import PyProof.DictMoreH
import HandS.StrMore
import HandS.Walk
import HandS.ForExc
import HandS.ExcField
import HandS.ExcInit
import PyProof.ExcBaseAll.LookupError
import PyProof.ExcBaseAll.RuntimeError
import KE.KExcInit
import HandS.WordsExc
import HandS.OwnEq
import HandS.RaiseMore
import PyProof.ReprRoads
import PyProof.InstNe
import KE.KDictWalk
import KE.SortData
import KE.KDictKeyed
import HandS.ExcIs
import HandS.DictComp
import HandS.Exc
import HandS.Lambda
import HandS.EndTab
import KE.SortKeyHeap
import HandS.TupLen
import HandS.HeadWalk
import KE.KStateDown
import Lean
import HandS.Head0
import HandS.Head1
import HandS.Head2
import HandS.HeadEnd
import HandS.HeadHook1
import HandS.HeadHook2
import HandS.HeadHook3
import HandS.HeadHook4
import HandS.MakeKwOnly
import PySem.Challenge.RW_kindnames_k02_chosen_struck_set_ahead
set_option Elab.async false
set_option linter.all false
set_option maxRecDepth 100000
set_option maxHeartbeats 4000000
namespace KN
open PySem L2
section
open PySem.Spec PyProof.Rows
abbrev lineOf (xs : List String) : List Value := xs.map Value.type
abbrev keyLine : List Value := lineOf ["KeyError", "LookupError", "Exception", "BaseException", "object"]
abbrev lookLine : List Value := lineOf ["LookupError", "Exception", "BaseException", "object"]
abbrev runLine : List Value := lineOf ["RuntimeError", "Exception", "BaseException", "object"]
abbrev valLine : List Value := lineOf ["ValueError", "Exception", "BaseException", "object"]
def madeB (K : PySem.W.Frag) (C : Addr) (bm : List Value) (nw : String) : Bool := match K.lookup C with
  | some ⟨.type t, _, .cls cd, sl⟩ => decide (t = "type") && (match sl.toList with
    | [_, _, _, _, some (.builtin n), _] => decide (n = nw)
    | _ => false) && (cd.mro == .ref C :: bm) && cd.hasDict && !cd.hasDel
  | _ => false
def excB (K : PySem.W.Frag) (C : Addr) (f : Str) (B : String) (fI : Addr) (bm : List Value) (nw : String) : Bool :=
  madeB K C bm nw && (decide (PySem.W.findIn K (.ref C) "__setattr__" = some (some (.builtin "object.__setattr__"))) && (decide (PySem.W.subIn K (.ref C) (.type "BaseException") = some true) && (decide (PySem.W.typeIn K (.ref C) = some (.type "type")) && (PySem.W.keepIn K (.ref C) &&
  (decide (PySem.W.findIn K (.ref C) f = some none) && (xfB K C && (decide (PySem.W.findIn K (.ref C) "__class__" = some (some (.builtin "object.__class__"))) && (decide (PySem.W.specialIn K (.builtin "object.__class__") "__get__" = some (some (.builtin "getset_descriptor.__get__"))) &&
  (decide (PySem.W.takesIn K (.builtin "object.__class__") = some true) && (decide (PySem.W.mroIn K C (.type "object") = some true) && (decide (PySem.W.exmOne K (.ref C) (.ref C) = some true) && (decide (PySem.W.kitOne K (.ref C) (.type B) = some true) &&
  (decide (PySem.W.findIn K (.ref C) "__init__" = some (some (.ref fI))) && decide (PySem.W.typeIn K (.ref fI) = some (.type "function")))))))))))))))
end
def top (i : Nat) : Stmt := PySem.Challenge.pw_kindnames_k02_chosen_struck_set_ahead.main.body.getD i (.Pass ⟨0, 0, 0, 0⟩)
abbrev s__law_pen : Stmt := top 28
abbrev s__law_draw : Stmt := top 29
abbrev letters : Str := "abcdefghijklmnopqrstuvwxyz"
abbrev s__law_names : Stmt := top 30
abbrev s__law_moments : Stmt := top 31
abbrev s_is_number : Stmt := top 14
abbrev s_is_word : Stmt := top 15
abbrev s_is_moment : Stmt := top 16
abbrev s_is_list : Stmt := top 17
abbrev s_are_sheets : Stmt := top 18
abbrev s_is_there : Stmt := top 20
abbrev s_refuse_new : Stmt := top 21
abbrev s_bad_name : Stmt := top 23
abbrev s__may_be_like : Stmt := top 24
abbrev s__named_in : Stmt := top 25
abbrev s_Book___init__ : Stmt := inClass (top 26) 0
abbrev s_Book__keep : Stmt := inClass (top 26) 18
abbrev s_Book__name : Stmt := inClass (top 26) 19
abbrev s_Book__refuse_named : Stmt := inClass (top 26) 20
abbrev s_Book_rank : Stmt := inClass (top 26) 9
abbrev s_Book_publish : Stmt := inClass (top 26) 1
abbrev s_Book_ahead : Stmt := inClass (top 26) 4
abbrev s_Book_entries : Stmt := inClass (top 26) 6
abbrev s_Book_words : Stmt := inClass (top 26) 8
abbrev s_Book_strike : Stmt := inClass (top 26) 3
abbrev s_Book__told_of : Stmt := inClass (top 26) 21
abbrev s_Book_wholly : Stmt := inClass (top 26) 14
abbrev s_Book_names : Stmt := inClass (top 26) 7
abbrev s_Book_choose : Stmt := inClass (top 26) 2
abbrev s__law_tell : Stmt := top 34
abbrev s_BadMoment___init__ : Stmt := inClass (top 2) 0
abbrev s_SameMoment___init__ : Stmt := inClass (top 6) 0
abbrev s_NoName___init__ : Stmt := inClass (top 4) 0
abbrev s_NoSheet___init__ : Stmt := inClass (top 5) 0
abbrev s_Later___init__ : Stmt := inClass (top 7) 0
abbrev s_Unfit___init__ : Stmt := inClass (top 8) 0
abbrev s__law_moment : Stmt := top 35
abbrev s__law_record : Stmt := top 32
abbrev s__law_records : Stmt := top 33
abbrev s__law_due : Stmt := top 36
abbrev s__law_refusal : Stmt := top 37
abbrev s__law_tried : Stmt := top 38
abbrev s_Book___len__ : Stmt := inClass (top 26) 17
abbrev s_law : Stmt := top 39
/-! the Hook -/
abbrev AlB : Type := He.AlD × Bool
def obsB (as : List Addr) (fa : List He.Fa) (fn : List He.DefD) (tf : List He.Defn) (ex : PySem.W.Frag → Bool) (g : Addr → Option Obj) : AlB := (He.obsD fa fn (He.frT g as), ex (He.frT g as) && He.tabsB g tf (He.frT g as))
structure SaysY (fa : List He.Fa) (fn : List He.DefD) (tf : List He.Defn) (ex : PySem.W.Frag → Bool) (h : Heap) (K : PySem.W.Frag) : Prop where
  d : He.SaysD fa fn K
  more : ex K = true
  hd : ∀ p ∈ tf, PySem.W.codeHdIn K (He.cT K p).1 (He.cT K p).2 = true
  out : ∀ p ∈ tf, K.lookup (He.cT K p).2 = none
  empty : ∀ p ∈ tf, h.get? (He.cT K p).2 = some { cls := .none, data := .fields #[] }
theorem tabsB_at {as : List Addr} {tf : List He.Defn} {g : Addr → Option Obj} (h : He.tabsB g tf (He.frT g as) = true) {p : He.Defn} (hp : p ∈ tf) :
    PySem.W.codeHdIn (He.frT g as) (He.cT (He.frT g as) p).1 (He.cT (He.frT g as) p).2 = true ∧ (He.frT g as).lookup (He.cT (He.frT g as) p).2 = none ∧ g (He.cT (He.frT g as) p).2 = some { cls := .none, data := .fields #[] } := by
  obtain ⟨h1, h2⟩ := He.ba (List.all_eq_true.mp h p hp)
  cases q : g (He.cT (He.frT g as) p).2 with
  | none => rw [q] at h2; cases h2
  | some o =>
    rw [q] at h2
    exact ⟨h1, He.frT_none q h2, congrArg some (He.emptyTab_eq h2)⟩
theorem saysY_of {as : List Addr} {fa : List He.Fa} {fn : List He.DefD} {tf : List He.Defn} {ex : PySem.W.Frag → Bool} {h : Heap} (e : obsB as fa fn tf ex h.get? = (He.valD fn, true)) : SaysY fa fn tf ex h (He.frT h.get? as) := by
  obtain ⟨h1, h2⟩ := He.ba (congrArg (fun z : AlB => z.2) e)
  exact ⟨congrArg (fun z : AlB => z.1) e, h1, fun p hp => (tabsB_at h2 hp).1, fun p hp => (tabsB_at h2 hp).2.1, fun p hp => (tabsB_at h2 hp).2.2⟩
def hookB (as : List Addr) (fa : List He.Fa) (fn : List He.DefD) (tf : List He.Defn) (ex : PySem.W.Frag → Bool) : PySem.W.Hook where
  α := AlB
  obs := fun s => obsB as fa fn tf ex s.heap.get?
  val := fun _ => (He.valD fn, true)
  says := fun _ h => ∃ K : PySem.W.Frag, K.In h ∧ SaysY fa fn tf ex h K
  of := fun _ _ e => ⟨_, He.frT_in, saysY_of e⟩
  keeps := fun _ _ _ ⟨K, hK, c⟩ k => ⟨K, PySem.W.Frag.In.keeps hK k, ⟨c.d, c.more, c.hd, c.out, fun p hp => k _ _ (c.empty p hp)⟩⟩
theorem obsB_eq {as : List Addr} {fa : List He.Fa} {fn : List He.DefD} {tf : List He.Defn} {ex : PySem.W.Frag → Bool} {g : Addr → Option Obj} {s : Shared} (h : ∀ a, g a = s.heap.get? a) : obsB as fa fn tf ex g = (hookB as fa fn tf ex).obs s := by
  have e : g = s.heap.get? := funext h
  rw [e] <;> rfl
def d0 : He.DefD := ⟨("_law_pen", none), "_law_pen", "_law_pen", defArgs s__law_pen, defBody s__law_pen, defScope s__law_pen, [], []⟩
def d1 : He.DefD := ⟨("_law_draw", none), "_law_draw", "_law_draw", defArgs s__law_draw, defBody s__law_draw, defScope s__law_draw, [], []⟩
def d2 : He.DefD := ⟨("_law_names", none), "_law_names", "_law_names", defArgs s__law_names, defBody s__law_names, defScope s__law_names, [], []⟩
def d3 : He.DefD := ⟨("_law_moments", none), "_law_moments", "_law_moments", defArgs s__law_moments, defBody s__law_moments, defScope s__law_moments, [], []⟩
def d4 : He.DefD := ⟨("is_number", none), "is_number", "is_number", defArgs s_is_number, defBody s_is_number, defScope s_is_number, [], []⟩
def d5 : He.DefD := ⟨("is_word", none), "is_word", "is_word", defArgs s_is_word, defBody s_is_word, defScope s_is_word, [], []⟩
def d6 : He.DefD := ⟨("is_moment", none), "is_moment", "is_moment", defArgs s_is_moment, defBody s_is_moment, defScope s_is_moment, [], []⟩
def d7 : He.DefD := ⟨("is_list", none), "is_list", "is_list", defArgs s_is_list, defBody s_is_list, defScope s_is_list, [], []⟩
def d8 : He.DefD := ⟨("are_sheets", none), "are_sheets", "are_sheets", defArgs s_are_sheets, defBody s_are_sheets, defScope s_are_sheets, [], []⟩
def d9 : He.DefD := ⟨("is_there", none), "is_there", "is_there", defArgs s_is_there, defBody s_is_there, defScope s_is_there, [], []⟩
def d10 : He.DefD := ⟨("refuse_new", none), "refuse_new", "refuse_new", defArgs s_refuse_new, defBody s_refuse_new, defScope s_refuse_new, [], []⟩
def d11 : He.DefD := ⟨("bad_name", none), "bad_name", "bad_name", defArgs s_bad_name, defBody s_bad_name, defScope s_bad_name, [], []⟩
def d12 : He.DefD := ⟨("_may_be_like", none), "_may_be_like", "_may_be_like", defArgs s__may_be_like, defBody s__may_be_like, defScope s__may_be_like, [], []⟩
def d13 : He.DefD := ⟨("_named_in", none), "_named_in", "_named_in", defArgs s__named_in, defBody s__named_in, defScope s__named_in, [], []⟩
def d14 : He.DefD := ⟨("Book", some "__init__"), "__init__", "Book.__init__", defArgs s_Book___init__, defBody s_Book___init__, defScope s_Book___init__, [], []⟩
def d15 : He.DefD := ⟨("Book", some "_keep"), "_keep", "Book._keep", defArgs s_Book__keep, defBody s_Book__keep, defScope s_Book__keep, [], []⟩
def d16 : He.DefD := ⟨("Book", some "_name"), "_name", "Book._name", defArgs s_Book__name, defBody s_Book__name, defScope s_Book__name, [], [("upto", .non)]⟩
def d17 : He.DefD := ⟨("Book", some "_refuse_named"), "_refuse_named", "Book._refuse_named", defArgs s_Book__refuse_named, defBody s_Book__refuse_named, defScope s_Book__refuse_named, [], []⟩
def d18 : He.DefD := ⟨("Book", some "rank"), "rank", "Book.rank", defArgs s_Book_rank, defBody s_Book_rank, defScope s_Book_rank, [], []⟩
def d19 : He.DefD := ⟨("Book", some "publish"), "publish", "Book.publish", defArgs s_Book_publish, defBody s_Book_publish, defScope s_Book_publish, [], []⟩
def d20 : He.DefD := ⟨("Book", some "ahead"), "ahead", "Book.ahead", defArgs s_Book_ahead, defBody s_Book_ahead, defScope s_Book_ahead, [], []⟩
def d21 : He.DefD := ⟨("Book", some "entries"), "entries", "Book.entries", defArgs s_Book_entries, defBody s_Book_entries, defScope s_Book_entries, [], [("upto", .non)]⟩
def d22 : He.DefD := ⟨("Book", some "words"), "words", "Book.words", defArgs s_Book_words, defBody s_Book_words, defScope s_Book_words, [], []⟩
def d23 : He.DefD := ⟨("Book", some "strike"), "strike", "Book.strike", defArgs s_Book_strike, defBody s_Book_strike, defScope s_Book_strike, [], []⟩
def d24 : He.DefD := ⟨("Book", some "_told_of"), "_told_of", "Book._told_of", defArgs s_Book__told_of, defBody s_Book__told_of, defScope s_Book__told_of, [], []⟩
def d25 : He.DefD := ⟨("Book", some "wholly"), "wholly", "Book.wholly", defArgs s_Book_wholly, defBody s_Book_wholly, defScope s_Book_wholly, [], []⟩
def d26 : He.DefD := ⟨("Book", some "names"), "names", "Book.names", defArgs s_Book_names, defBody s_Book_names, defScope s_Book_names, [], [("rank", .non)]⟩
def d27 : He.DefD := ⟨("Book", some "choose"), "choose", "Book.choose", defArgs s_Book_choose, defBody s_Book_choose, defScope s_Book_choose, [], []⟩
def d28 : He.DefD := ⟨("_law_tell", none), "_law_tell", "_law_tell", defArgs s__law_tell, defBody s__law_tell, defScope s__law_tell, [], []⟩
def d29 : He.DefD := ⟨("_law_record", none), "_law_record", "_law_record", defArgs s__law_record, defBody s__law_record, defScope s__law_record, [], []⟩
def d30 : He.DefD := ⟨("_law_records", none), "_law_records", "_law_records", defArgs s__law_records, defBody s__law_records, defScope s__law_records, [], []⟩
def d31 : He.DefD := ⟨("BadMoment", some "__init__"), "__init__", "BadMoment.__init__", defArgs s_BadMoment___init__, defBody s_BadMoment___init__, defScope s_BadMoment___init__, [], []⟩
def d32 : He.DefD := ⟨("SameMoment", some "__init__"), "__init__", "SameMoment.__init__", defArgs s_SameMoment___init__, defBody s_SameMoment___init__, defScope s_SameMoment___init__, [], []⟩
def d33 : He.DefD := ⟨("NoName", some "__init__"), "__init__", "NoName.__init__", defArgs s_NoName___init__, defBody s_NoName___init__, defScope s_NoName___init__, [], []⟩
def d34 : He.DefD := ⟨("NoSheet", some "__init__"), "__init__", "NoSheet.__init__", defArgs s_NoSheet___init__, defBody s_NoSheet___init__, defScope s_NoSheet___init__, [], []⟩
def d35 : He.DefD := ⟨("Later", some "__init__"), "__init__", "Later.__init__", defArgs s_Later___init__, defBody s_Later___init__, defScope s_Later___init__, [], []⟩
def d36 : He.DefD := ⟨("Unfit", some "__init__"), "__init__", "Unfit.__init__", defArgs s_Unfit___init__, defBody s_Unfit___init__, defScope s_Unfit___init__, [], []⟩
def d37 : He.DefD := ⟨("_law_moment", none), "_law_moment", "_law_moment", defArgs s__law_moment, defBody s__law_moment, defScope s__law_moment, [], []⟩
def d38 : He.DefD := ⟨("_law_due", none), "_law_due", "_law_due", defArgs s__law_due, defBody s__law_due, defScope s__law_due, [], []⟩
def d39 : He.DefD := ⟨("_law_tried", none), "_law_tried", "_law_tried", defArgs s__law_tried, defBody s__law_tried, defScope s__law_tried, [], []⟩
def d40 : He.DefD := ⟨("Book", some "__len__"), "__len__", "Book.__len__", defArgs s_Book___len__, defBody s_Book___len__, defScope s_Book___len__, [], []⟩
def d41 : He.DefD := ⟨("law", none), "law", "law", defArgs s_law, defBody s_law, defScope s_law, [], []⟩
def d42 : He.DefD := ⟨("_law_refusal", none), "_law_refusal", "_law_refusal", defArgs s__law_refusal, defBody s__law_refusal, defScope s__law_refusal, [], []⟩
def nam0 : List Str := ["_wall", "__name__", "BadMoment", "BadName", "NoName", "NoSheet", "SameMoment", "Later", "Unfit", "LETTERS", "MOST_LETTERS", "MOST_RANK", "MOST", "is_number", "is_word", "is_moment", "is_list", "are_sheets", "is_there", "refuse_new", "bad_name", "_may_be_like", "_named_in", "Book", "_law_pen", "_law_draw", "_law_names", "_law_moments", "_law_record", "_law_records"]
def nam1 : List Str := ["_law_tell", "_law_moment", "_law_due", "_law_refusal", "_law_tried"]
def nam : List Str := nam0 ++ nam1
def fa0 : List He.Fa := [.glo "law", .cls "Book", .noat "Book" "_entries", .noat "Book" "_named_by", .free "isinstance", .free "ValueError", .free "KeyError", .free "LookupError", .free "RuntimeError", .free "len", .free "abs", .free "range", .free "int", .free "bool", .free "str", .free "all", .free "tuple", .free "list", .free "set", .free "sorted", .free "min", .int "MOST_LETTERS" 12, .str "LETTERS" letters, .int "MOST" 1000000000000, .int "MOST_RANK" 5, .glo "_law_draw", .glo "is_number", .glo "is_list", .glo "is_word", .glo "_named_in"]
def fa1 : List He.Fa := [.glo "is_there", .glo "_law_moment", .glo "is_moment", .glo "are_sheets", .meth "Book" "entries", .glo "_law_names", .glo "_law_moments", .glo "_law_record", .glo "BadMoment", .glo "SameMoment", .glo "NoName", .meth "Book" "_name", .meth "Book" "_told_of", .glo "Later", .glo "refuse_new", .glo "bad_name", .glo "_may_be_like", .meth "Book" "_refuse_named", .meth "Book" "rank", .meth "Book" "_keep", .glo "Unfit", .glo "NoSheet", .meth "Book" "publish", .meth "Book" "choose", .meth "Book" "strike", .meth "Book" "ahead", .glo "_law_pen", .glo "_law_records", .mkr "Book", .glo "Book"]
def fa2 : List He.Fa := [.glo "_law_tell", .glo "_law_tried", .glo "_law_due", .glo "_law_refusal", .glo "BadName"]
def fa : List He.Fa := fa0 ++ fa1 ++ fa2
def fn0 : List He.DefD := [d0, d1, d2, d3, d4, d5, d6, d7, d8, d9, d10, d11, d12, d13, d14, d15, d16, d17, d18, d19, d20, d21, d22, d23, d24, d25, d26, d27, d28, d29]
def fn1 : List He.DefD := [d30, d31, d32, d33, d34, d35, d36, d37, d38, d39, d40, d41, d42]
def fn : List He.DefD := fn0 ++ fn1
abbrev R : PySem.W.OpenRow := PySem.W.OpenLaw.row PySem.Challenge.rw_kindnames_k02_chosen_struck_set_ahead
def ex (K : PySem.W.Frag) : Bool := excB K (He.ga K "BadMoment") "moment" "ValueError" (He.fAd K ("BadMoment", some "__init__")) valLine "ValueError.__new__" && (excB K (He.ga K "SameMoment") "moment" "LookupError" (He.fAd K ("SameMoment", some "__init__")) lookLine "LookupError.__new__" && (excB K (He.ga K "NoName") "moment" "KeyError" (He.fAd K ("NoName", some "__init__")) keyLine "LookupError.__new__" && (excB K (He.ga K "Later") "moment" "LookupError" (He.fAd K ("Later", some "__init__")) lookLine "LookupError.__new__" && (excB K (He.ga K "Unfit") "moment" "RuntimeError" (He.fAd K ("Unfit", some "__init__")) runLine "RuntimeError.__new__" && (excB K (He.ga K "NoSheet") "sheet" "KeyError" (He.fAd K ("NoSheet", some "__init__")) keyLine "LookupError.__new__" && ((([("SameMoment", "BadMoment"), ("NoName", "BadMoment"), ("NoName", "SameMoment"), ("NoSheet", "BadMoment"), ("NoSheet", "SameMoment"), ("NoSheet", "NoName"), ("Later", "BadMoment"), ("Later", "SameMoment"), ("Later", "NoName"), ("Later", "NoSheet"), ("Unfit", "BadMoment"), ("Unfit", "SameMoment"), ("Unfit", "NoName"), ("Unfit", "NoSheet"), ("Unfit", "Later")] : List (Str × Str)).all fun q => decide (PySem.W.exmOne K (.ref (He.ga K q.1)) (.ref (He.ga K q.2)) = some false)) && (decide (PySem.W.kitAny K (.ref (He.ga K "SameMoment")) [.type "KeyError", .ref (He.ga K "Later")] = some false) && (decide (PySem.W.kitAny K (.ref (He.ga K "NoName")) [.ref (He.ga K "NoSheet"), .ref (He.ga K "BadName")] = some false) && (decide (PySem.W.findIn K (.ref (He.ga K "Book")) "__len__" = some (some (.ref (He.fAd K ("Book", some "__len__"))))) && (PySem.W.isFn K (.ref (He.fAd K ("Book", some "__len__")))))))))))))
def as0 : List Addr := [3, 393, 392, 38, 37, 118, 117, 78, 77, 98, 97, 138, 137, 158, 157, 58, 57, 402, 401, 409, 408, 414, 413, 421, 420, 168, 167, 173, 172, 180]
def as1 : List Addr := [179, 187, 186, 192, 191, 199, 198, 206, 205, 211, 210, 218, 217, 225, 224, 239, 238, 370, 369, 378, 377, 371, 385, 384, 303, 302, 248, 247, 241, 270]
def as2 : List Addr := [269, 283, 282, 278, 296, 295, 263, 262, 256, 390, 389, 340, 339, 335, 289, 288, 284, 255, 254, 440, 439, 426, 425, 433, 432, 35, 34, 115, 114, 75]
def as3 : List Addr := [74, 95, 94, 135, 134, 155, 154, 445, 444, 450, 449, 462, 461, 363, 362, 467, 466, 457, 456]
def as_ : List Addr := as0 ++ as1 ++ as2 ++ as3
def tf_ : List He.Defn := [("law", none)]
/-- the table of the law's code objects, with what it holds -/
def tabT (K : PySem.W.Frag) : List (Addr × Str) := [((He.cT K ("law", none)).2, ("law" : Str) ++ ".<locals>." ++ "<lambda>")]
abbrev hk : PySem.W.Hook := hookB as_ fa fn tf_ ex
def ob (s : PySem.W.SharedT) : AlB := obsB as_ fa fn tf_ ex (HandSHeadRun.getT s)
theorem ob_eq (s : PySem.W.SharedT) : ob s = hk.obs s.abs := obsB_eq (HandSHeadRun.getT_eq s)
abbrev qv : Program := PySem.W.view R.prog [39]
set_option maxHeartbeats 0 in
theorem run (w : World) : HandSHeadRun.RunEq R qv hk ob 12000 nam w := by
  intro os
  kernel_rfl
end KN
set_option Elab.async false
set_option linter.all false
set_option maxRecDepth 100000
/-! Own base: data of tuples, what keeps them, equal data, dicts by text keys. -/
namespace KN
open PySem L2

/-- every tuple stays -/
def TK (H H' : Hp) : Prop := ∀ b xs, H b = some (.tup xs) → H' b = some (.tup xs)
theorem TK.refl (H : Hp) : TK H H := fun _ _ h => h
theorem TK.trans {H H1 H2 : Hp} (a : TK H H1) (b : TK H1 H2) : TK H H2 := fun c xs h => b c xs (a c xs h)
theorem TK.of {H H' : Hp} (s : Same H H') : TK H H' := fun b xs h => s b _ h
theorem TK.new {H : Hp} {p : Addr} {o : HO} (h : H p = none) : TK H (upd H p o) := fun b xs e => by
  rw [upd_ne (ne_of_none e h)]; exact e
theorem TK.put {H : Hp} {p : Addr} {o u : HO} (h : H p = some u) (nt : ∀ xs, u ≠ .tup xs) : TK H (upd H p o) := fun b xs e => by
  rw [upd_ne (fun z => by subst z; rw [h] at e; exact nt xs (Option.some.inj e))]; exact e
theorem Same.new {H : Hp} {p : Addr} {o : HO} (h : H p = none) : Same H (upd H p o) := fun b u e => by
  rw [upd_ne (ne_of_none e h)]; exact e

mutual
inductive Tp (H : Hp) : V → PyData → Prop
  | non : Tp H .non .none
  | bl (b : Bool) : Tp H (.bl b) (.bool b)
  | int (i : Int) : Tp H (.int i) (.int i)
  | str (x : Str) : Tp H (.str x) (.str x)
  | tup {a : Addr} {xs : List V} {ds : List PyData} : H a = some (.tup xs) → TpAll H xs ds → Tp H (.ref a) (.tuple ds)
inductive TpAll (H : Hp) : List V → List PyData → Prop
  | nil : TpAll H [] []
  | cons {v : V} {vs : List V} {d : PyData} {ds : List PyData} : Tp H v d → TpAll H vs ds → TpAll H (v :: vs) (d :: ds)
end

mutual
theorem Tp.mono {H H' : Hp} (k : TK H H') : ∀ (d : PyData) (v : V), Tp H v d → Tp H' v d
  | .none, _, h => by cases h; exact .non
  | .bool b, _, h => by cases h; exact .bl b
  | .int i, _, h => by cases h; exact .int i
  | .str x, _, h => by cases h; exact .str x
  | .tuple ds, _, h => by
    cases h with
    | tup e r => exact .tup (k _ _ e) (TpAll.mono k ds _ r)
  | .list ds, _, h => by cases h
  | .dict _, _, h => by cases h
theorem TpAll.mono {H H' : Hp} (k : TK H H') : ∀ (ds : List PyData) (vs : List V), TpAll H vs ds → TpAll H' vs ds
  | [], _, h => by cases h; exact .nil
  | d :: ds, _, h => by
    cases h with
    | cons a r => exact .cons (Tp.mono k d _ a) (TpAll.mono k ds _ r)
end
theorem Tp.to {H H' : Hp} {d : PyData} {v : V} (h : Tp H v d) (k : TK H H') : Tp H' v d := Tp.mono k d v h
theorem TpAll.to {H H' : Hp} {ds : List PyData} {vs : List V} (h : TpAll H vs ds) (k : TK H H') : TpAll H' vs ds := TpAll.mono k ds vs h

mutual
theorem Tp.dp {K : PySem.W.Frag} {H : Hp} : ∀ (d : PyData) (v : V), Tp H v d → Dp K H v d
  | .none, _, h => by cases h; exact .non
  | .bool b, _, h => by cases h; exact .bl b
  | .int i, _, h => by cases h; exact .int i
  | .str x, _, h => by cases h; exact .str x
  | .tuple ds, _, h => by
    cases h with
    | tup e r => exact .tup (SqT.of e) (TpAll.dp ds _ r)
  | .list ds, _, h => by cases h
  | .dict _, _, h => by cases h
theorem TpAll.dp {K : PySem.W.Frag} {H : Hp} : ∀ (ds : List PyData) (vs : List V), TpAll H vs ds → DpAll K H vs ds
  | [], _, h => by cases h; exact .nil
  | d :: ds, _, h => by
    cases h with
    | cons a r => exact .cons (Tp.dp d _ a) (TpAll.dp ds _ r)
end
theorem Tp.d {K : PySem.W.Frag} {H : Hp} {d : PyData} {v : V} (h : Tp H v d) : Dp K H v d := Tp.dp d v h

theorem TpAll.len {H : Hp} : ∀ {ds : List PyData} {vs : List V}, TpAll H vs ds → vs.length = ds.length
  | [], _, h => by cases h; rfl
  | d :: ds, _, h => by
    cases h with
    | cons a r => rw [List.length_cons, List.length_cons, TpAll.len r]
theorem TpAll.get {H : Hp} : ∀ {ds : List PyData} {vs : List V} {i : Nat} {d : PyData}, TpAll H vs ds → ds[i]? = some d → ∃ v, vs[i]? = some v ∧ Tp H v d
  | [], _, i, d, h, e => by simp at e
  | d0 :: ds, _, i, d, h, e => by
    cases h with
    | cons a r =>
      cases i with
      | zero => rw [List.getElem?_cons_zero] at e; cases e; exact ⟨_, rfl, a⟩
      | succ i =>
        rw [List.getElem?_cons_succ] at e
        obtain ⟨v, h1, h2⟩ := TpAll.get r e
        exact ⟨v, by rw [List.getElem?_cons_succ]; exact h1, h2⟩
theorem TpAll.getv {H : Hp} : ∀ {ds : List PyData} {vs : List V} {i : Nat} {v : V}, TpAll H vs ds → vs[i]? = some v → ∃ d, ds[i]? = some d ∧ Tp H v d
  | [], _, i, v, h, e => by cases h; simp at e
  | d0 :: ds, _, i, v, h, e => by
    cases h with
    | cons a r =>
      cases i with
      | zero => rw [List.getElem?_cons_zero] at e; cases e; exact ⟨_, rfl, a⟩
      | succ i =>
        rw [List.getElem?_cons_succ] at e
        obtain ⟨d, h1, h2⟩ := TpAll.getv r e
        exact ⟨d, by rw [List.getElem?_cons_succ]; exact h1, h2⟩
theorem TpAll.app {H : Hp} : ∀ {ds : List PyData} {vs : List V} {es : List PyData} {ws : List V}, TpAll H vs ds → TpAll H ws es → TpAll H (vs ++ ws) (ds ++ es)
  | [], _, _, _, h, k => by cases h; exact k
  | d :: ds, _, _, _, h, k => by
    cases h with
    | cons a r => exact .cons a (TpAll.app r k)
theorem TpAll.snoc {H : Hp} {ds : List PyData} {vs : List V} {d : PyData} {v : V} (h : TpAll H vs ds) (k : Tp H v d) : TpAll H (vs ++ [v]) (ds ++ [d]) := h.app (.cons k .nil)
theorem TpAll.drop {H : Hp} : ∀ (n : Nat) {ds : List PyData} {vs : List V}, TpAll H vs ds → TpAll H (vs.drop n) (ds.drop n)
  | 0, _, _, h => h
  | n + 1, [], _, h => by cases h; exact .nil
  | n + 1, d :: ds, _, h => by
    cases h with
    | cons a r => exact TpAll.drop n r
theorem TpAll.take {H : Hp} : ∀ (n : Nat) {ds : List PyData} {vs : List V}, TpAll H vs ds → TpAll H (vs.take n) (ds.take n)
  | 0, _, _, h => .nil
  | n + 1, [], _, h => by cases h; exact .nil
  | n + 1, d :: ds, _, h => by
    cases h with
    | cons a r => exact .cons a (TpAll.take n r)
theorem TpAll.erase {H : Hp} : ∀ (n : Nat) {ds : List PyData} {vs : List V}, TpAll H vs ds → TpAll H (vs.eraseIdx n) (ds.eraseIdx n)
  | _, [], _, h => by cases h; exact .nil
  | 0, d :: ds, _, h => by
    cases h with
    | cons a r => exact r
  | n + 1, d :: ds, _, h => by
    cases h with
    | cons a r => exact .cons a (TpAll.erase n r)
theorem TpAll.strs {H : Hp} : ∀ (ss : List Str), TpAll H (ss.map V.str) (ss.map PyData.str)
  | [] => .nil
  | s :: ss => .cons (.str s) (TpAll.strs ss)
theorem TpAll.ints {H : Hp} : ∀ (ss : List Int), TpAll H (ss.map V.int) (ss.map PyData.int)
  | [] => .nil
  | s :: ss => .cons (.int s) (TpAll.ints ss)
theorem TpAll.of_strs {H : Hp} : ∀ {ss : List Str} {vs : List V}, TpAll H vs (ss.map PyData.str) → vs = ss.map V.str
  | [], _, h => by cases h; rfl
  | s :: ss, _, h => by
    cases h with
    | cons a r => cases a; rw [TpAll.of_strs r]; rfl
theorem Tp.inv {H : Hp} {v : V} {ds : List PyData} (h : Tp H v (.tuple ds)) : ∃ a xs, v = .ref a ∧ H a = some (.tup xs) ∧ TpAll H xs ds := by
  cases h with
  | tup e r => exact ⟨_, _, rfl, e, r⟩

/-- a list of tuple data stands at a -/
def Ls (H : Hp) (a : Addr) (ds : List PyData) : Prop := ∃ xs, H a = some (.lst xs) ∧ TpAll H xs ds
theorem Ls.to {H H' : Hp} {a : Addr} {ds : List PyData} (h : Ls H a ds) (s : Same H H') : Ls H' a ds :=
  let ⟨xs, e, r⟩ := h
  ⟨xs, s _ _ e, r.to (TK.of s)⟩
theorem Ls.dp {K : PySem.W.Frag} {H : Hp} {a : Addr} {ds : List PyData} (h : Ls H a ds) : Dp K H (.ref a) (.list ds) :=
  let ⟨_, e, r⟩ := h
  .lst (SqL.of e) (TpAll.dp _ _ r)

/-! ### equal data -/
mutual
def okD : PyData → Bool
  | .none | .int _ => true
  | .str x => PySem.PyData.strOk x
  | .tuple ds | .list ds => okDs ds
  | .bool _ | .dict _ => false
def okDs : List PyData → Bool
  | [] => true
  | d :: ds => okD d && okDs ds
end
mutual
theorem okD_lay : ∀ d : PyData, okD d = true → d.canLay0 = true
  | .none, _ => rfl
  | .int _, _ => rfl
  | .str x, h => by simpa [okD, PyData.canLay0] using h
  | .tuple ds, h => by
    have := okDs_lay ds (by simpa [okD] using h)
    simpa [PyData.canLay0] using this
  | .list ds, h => by
    have := okDs_lay ds (by simpa [okD] using h)
    simpa [PyData.canLay0] using this
  | .bool _, h => by simp [okD] at h
  | .dict _, h => by simp [okD] at h
theorem okDs_lay : ∀ ds : List PyData, okDs ds = true → PyData.canLayAll0 ds = true
  | [], _ => by simp [PyData.canLayAll0]
  | d :: ds, h => by
    have h' : okD d = true ∧ okDs ds = true := by simpa [okDs] using h
    simp [PyData.canLayAll0, okD_lay d h'.1, okDs_lay ds h'.2]
end
mutual
theorem eqv_imp : ∀ d e : PyData, okD d = true → okD e = true → PyData.eqv d e = true → d = e
  | .none, e, h, k, q => by cases e <;> simp_all [PyData.eqv, okD]
  | .int i, e, h, k, q => by cases e <;> simp_all [PyData.eqv, okD]
  | .str x, e, h, k, q => by cases e <;> simp_all [PyData.eqv, okD]
  | .tuple ds, e, h, k, q => by
    cases e with
    | tuple es =>
      have h' : okDs ds = true := by simpa [okD] using h
      have k' : okDs es = true := by simpa [okD] using k
      have q' : PyData.eqvAll ds es = true := by simpa [PyData.eqv] using q
      rw [eqvs_imp ds es h' k' q']
    | _ => simp_all [PyData.eqv, okD]
  | .list ds, e, h, k, q => by
    cases e with
    | list es =>
      have h' : okDs ds = true := by simpa [okD] using h
      have k' : okDs es = true := by simpa [okD] using k
      have q' : PyData.eqvAll ds es = true := by simpa [PyData.eqv] using q
      rw [eqvs_imp ds es h' k' q']
    | _ => simp_all [PyData.eqv, okD]
  | .bool _, _, h, _, _ => by simp [okD] at h
  | .dict _, _, h, _, _ => by simp [okD] at h
theorem eqvs_imp : ∀ ds es : List PyData, okDs ds = true → okDs es = true → PyData.eqvAll ds es = true → ds = es
  | [], [], _, _, _ => rfl
  | [], _ :: _, _, _, q => by simp [PyData.eqvAll] at q
  | _ :: _, [], _, _, q => by simp [PyData.eqvAll] at q
  | d :: ds, e :: es, h, k, q => by
    have h' : okD d = true ∧ okDs ds = true := by simpa [okDs] using h
    have k' : okD e = true ∧ okDs es = true := by simpa [okDs] using k
    have q' : PyData.eqv d e = true ∧ PyData.eqvAll ds es = true := by simpa [PyData.eqvAll] using q
    rw [eqv_imp d e h'.1 k'.1 q'.1, eqvs_imp ds es h'.2 k'.2 q'.2]
end
theorem eqv_iff {d e : PyData} (h : okD d = true) (k : okD e = true) : PyData.eqv d e = true ↔ d = e :=
  ⟨eqv_imp d e h k, fun q => by subst q; exact SeqAt.eqv_refl _ (okD_lay _ h)⟩
theorem okDs_all {ds : List PyData} : okDs ds = true ↔ ∀ d ∈ ds, okD d = true := by
  induction ds with
  | nil => simp [okDs]
  | cons d ds ih => simp [okDs, ih]
theorem eqv_dec {d e : PyData} {p : Prop} [Decidable p] (h : okD d = true) (k : okD e = true) (hp : d = e ↔ p) : PyData.eqv d e = decide p := by
  by_cases q : p
  · rw [decide_eq_true q]; exact (eqv_iff h k).mpr (hp.mpr q)
  · rw [decide_eq_false q]
    cases z : PyData.eqv d e with
    | false => rfl
    | true => exact absurd (hp.mp ((eqv_iff h k).mp z)) q
theorem any_eqv {d : PyData} {ds : List PyData} (h : okD d = true) (k : okDs ds = true) : (ds.any fun z => PyData.eqv z d) = true ↔ d ∈ ds := by
  rw [List.any_eq_true]
  constructor
  · rintro ⟨z, hz, e⟩
    rw [(eqv_iff (okDs_all.mp k z hz) h).mp e] at hz
    exact hz
  · intro hz
    exact ⟨d, hz, (eqv_iff h h).mpr rfl⟩
/-- data is not deep -/
theorem shaped_of {d : PyData} (h : okD d = true) (k : d.depth ≤ 64) : SeqAt.shaped d = true := by
  unfold SeqAt.shaped
  rw [okD_lay d h, decide_eq_true k]; rfl

/-! ### a dict's pairs by written text keys -/
theorem mu_of {o : HO} {H : Hp} {a : Addr} (h : H a = some o) (k : Mut (some o)) : Mut (H a) := by rw [h]; exact k
theorem toNat_lt' {a b : Int} (h : a < b) (h0 : 0 ≤ a) : a.toNat < b.toNat := by omega
/-- a moment; its data; elder -/
abbrev Mo := Int × Int
def mD (m : Mo) : PyData := .tuple [.int m.1, .int m.2]
def mLt (a b : Mo) : Prop := a.1 < b.1 ∨ a.1 = b.1 ∧ a.2 < b.2
instance (a b : Mo) : Decidable (mLt a b) := by unfold mLt; infer_instance
theorem mLt.trans {a b c : Mo} (h : mLt a b) (k : mLt b c) : mLt a c := by unfold mLt at *; omega
theorem mLt.irr {a : Mo} : ¬ mLt a a := by unfold mLt; omega
def MoOk (m : Mo) : Prop := 0 ≤ m.1 ∧ m.1 ≤ 1000000 ∧ 1 ≤ m.2 ∧ m.2 ≤ 1000000
theorem mD_inj {a b : Mo} (h : mD a = mD b) : a = b := by
  unfold mD at h
  injection h with h
  injection h with h1 h2
  injection h2 with h2 _
  injection h1 with h1
  injection h2 with h2
  exact Prod.ext h1 h2
theorem okD_m (m : Mo) : okD (mD m) = true := rfl
def mV (m : Mo) : List V := [.int m.1, .int m.2]
theorem Tp.mo {H : Hp} {a : Addr} {m : Mo} (h : H a = some (.tup [.int m.1, .int m.2])) : Tp H (.ref a) (mD m) := .tup h (.cons (.int _) (.cons (.int _) .nil))
theorem Tp.mo_inv {H : Hp} {v : V} {m : Mo} (h : Tp H v (mD m)) : ∃ a, v = .ref a ∧ H a = some (.tup [.int m.1, .int m.2]) := by
  obtain ⟨a, xs, rfl, e, r⟩ := Tp.inv h
  cases r with
  | cons h1 r =>
    cases r with
    | cons h2 r =>
      cases r
      cases h1
      cases h2
      exact ⟨a, rfl, e⟩
/-- a moment as a key -/
def mK (m : Mo) : List Key := [.inl m.1, .inl m.2]
theorem mK_v (m : Mo) : (mK m).map kV = [.int m.1, .int m.2] := rfl
theorem mK_inj {a b : Mo} (h : mK a = mK b) : a = b := by
  unfold mK at h
  injection h with h1 h2
  injection h2 with h2 _
  exact Prod.ext (Sum.inl.inj h1) (Sum.inl.inj h2)
theorem DGet.m {H : Hp} {a b : Addr} {kvs : List (List Key × V)} {m : Mo} (e : H a = some (.dT kvs)) (eb : H b = some (.tup [.int m.1, .int m.2])) : DGet H a (.ref b) (valV kvs (mK m)) := DGet.t e eb
end KN

set_option Elab.async false
set_option linter.all false
set_option maxRecDepth 100000
set_option maxHeartbeats 4000000
/-! Own rules beside the layer's: a display with one tuple key, calls of methods with keywords, an instance made without arguments, del d[k] by a tuple, sorted(d) of moments. -/
namespace KN
open PySem PySem.Spec L2
def tDispT1 (tk tv : TE) : TE := fun σ H Q => ∀ p, H p = none → tk σ (upd H p (.dT [])) fun x H1 => tv σ H1 fun y H2 => ∃ (k : List Key) (b : Addr), x = .ref b ∧ H2 p = some (.dT []) ∧ H2 b = some (.tup (k.map kV)) ∧ Q (.ref p) (upd H2 p (.dT [(k, y)]))
theorem pe_dispT1 {X : Cx} {pos : Pos} {k v : Expr} {tk tv : TE} (hu : X.A.units + 1 < cLine) (hk : PE X k tk) (hv : PE X v tv) : PE X (.Dict [some k] [v] pos) (tDispT1 tk tv) := by
  refine ⟨fun pins s σ H Q I q => ?_⟩
  have hn := I.hok.fresh (Nat.le_refl s.heap.objs.size)
  have I1 := I.laid (a := s.heap.objs.size) (o := .dT []) (h' := s.heap.push { cls := .type "dict", data := .dict #[] }) (t' := s.toks) (fun _ _ q => Heap.get?_push_of_some _ q) (Nat.le_refl _) (dt_empty s.heap I.big)
  refine wpAny_Dict_any rfl rfl (by simp) (by simp) ?_
  refine pairTrees_cons_walk (thn (hk.run pins _ σ _ _ I1 (q _ hn)) fun u s1 ⟨x, H1, I1, rx, q1⟩ => thn (hv.run pins s1 σ H1 _ I1 q1) fun w2 s2 ⟨y, H2, I2, ry, kk, b, ex, e, eb, q2⟩ => pairTrees_nil_walk ?_)
  subst ex
  cases (show u = Value.ref b from rx)
  obtain ⟨z, hd, xs, rel, dd⟩ := dt_of I2.hok e
  cases rel
  unfold storeAll
  rw [List.forIn_cons]
  refine wpAny_bind (wpAny_bind (wpAny_dictSet_heap (hsz := by simp) (show X.A.units < cLine by omega) (key_of I2.hok eb) dd fun h' dd' hs => wpAny_pure ?_))
  show wpAny _ _ (forIn [] PUnit.unit _) _ _ _
  rw [List.forIn_nil]
  refine wpAny_pure ?_
  obtain ⟨o, es, ep, hq, h2, h3, h4, _, h5⟩ := dd'
  refine ⟨.ref s.heap.objs.size, _, d_write (ob := .dT [(kk, y)]) I2 (by rw [e]; exact True.intro) hs ⟨o, hq⟩ ⟨?_, hd, _, (KT.put (kvs := []) (xs := []) Paired.nil kk eb ry).keeps fun c ys ec => ?_, o, es, ep, hq, h2, h3, h4, h5⟩, rfl, q2⟩
  · show 1 ≤ sizeLine; decide
  · rw [upd_ne (ne_of ec e (fun z => nomatch z))]
    exact ec

/-! ### calls -/
section
variable {X : Cx} {k j : Nat} {C : Addr} {x m : Str} {sp : Sp} {dvs : List V} {p pos apos : Pos} {e o : Expr} {es : List Expr} {kws : List Keyword} {ta : TE} {t tk : TA}
/-- C() -/
theorem pe_mk0 (c : C8.Mak X.prog X.w X.K X.mg X.base k x C sp dvs) (hr : Room j X.A) (hk : k + 1 ≤ j) (hg : Gl X x) (hdb : (x == ("__debug__" : Str)) = false := by decide) : PE X (.Call (.Name x p) [] [] pos) (tMake C sp dvs E0 tNil) := by
  obtain ⟨f, fd, ps, ds, M, F, hm, b, d⟩ := c.ex
  exact pe_make0 M F (hr.mono hk) hg hm b d pass0 hdb
/-- a method called with keywords: n values by place (the object among them), the keywords' names ks -/
structure MetK (P : Program) (w : World) (K : PySem.W.Frag) (mg : Str → Option Value) (base : Heap) (k : Nat) (C : Addr) (m : Str) (sp : Sp) (n : Nat) (ks : List Str) (gV : List V → List V → List V) : Prop where
  ex : ∃ (f : Addr) (fd : FuncData) (ps : List Str) (g : List Value → List Value → List Value), Cls K C ∧ Meth K C m f ∧ FnOk P w K mg base CX0 k f fd ps sp ∧ KBn K fd ps n ks g gV
def tMethK (C : Addr) (m : Str) (n l : Nat) (sp : Sp) (gV : List V → List V → List V) (E : XK) (to : TE) (t tk : TA) : TE := fun σ H Q => to σ H fun x H1 => ∃ a dx fs, x = .ref a ∧ H1 a = some (.ins C dx fs) ∧ fs.lookup m = none ∧
  t σ H1 fun vs H2 => tk σ H2 fun zs H3 => (x :: vs).length = n ∧ zs.length = l ∧ sp (gV (x :: vs) zs) H3 Q E
theorem pe_mtK {pl : Sem Bool} {n : Nat} {ks : List Str} {gV : List V → List V → List V} (c : MetK X.prog X.w X.K X.mg X.base k C m sp n ks gV) (hr : Room j X.A) (hk : k ≤ j) (he : PE X o ta) (ha : PA X (e :: es) t) (hkw : PK X kws tk)
    (hall : (backToKw pos (keywordEach kws X.env)).all (·.1.isSome) = true := by rfl) (hks : (backToKw pos (keywordEach kws X.env)).filterMap (·.1) = ks := by rfl)
    (hst : starEach (e :: es) X.env = (false, eval e X.env) :: starEach es X.env := by rfl)
    (hpl : ((backTo pos (starEach (e :: es) X.env)).any (·.1) || (backToKw pos (keywordEach kws X.env)).any (·.1.isNone)) = false := by rfl)
    (ht : eval (.Call (.Attribute o m apos) (e :: es) kws pos) X.env = (do
      let ov ← eval o X.env
      standAt apos.atName
      let (f, first) ← holding [ov] (getMethod ov m pl)
      callWith pos f first (backTo pos (starEach (e :: es) X.env)) (backToKw pos (keywordEach kws X.env))) := by rfl) :
    PE X (.Call (.Attribute o m apos) (e :: es) kws pos) (tMethK C m n ks.length sp gV E0 ta t tk) := by
  obtain ⟨f, fd, ps, g, cl, hm, F, hb⟩ := c.ex
  refine ⟨fun pins s σ H Q I h => ?_⟩
  refine PySem.W.methodCall_KW (pl := pl) (thn (he.run pins s σ H _ I h) fun u s1 ⟨x, H1, I1, rx, a, dx, fs, ex, ea, l, q⟩ => ?_) ht
  subst ex
  obtain rfl : u = Value.ref a := rx
  refine getmeth_ok I1 ea cl hm l ?_
  refine PySem.W.callWith_KW (first := [.ref a]) (h₀ := X.base) I.ok.mod.kin hm.kp hall (thn (ha.run pos pins s1 σ H1 _ I1 q) fun us s2 ⟨vs, H2, I2, r, q2⟩ => ?_) hpl hst
  refine thn (hkw.run pos pins s2 σ H2 _ I2 q2) fun ws s3 ⟨zs, H3, I3, rz, l1, l2, q3⟩ => ⟨I3.kIn, ?_⟩
  rw [hks]
  exact run_fnN (us := .ref a :: us) (vs := .ref a :: vs) F (hr.mono hk) hb pass0 I3 (.cons rfl r) rz l1 l2 q3
theorem pe_mtK0 {pl : Sem Bool} {n : Nat} {ks : List Str} {gV : List V → List V → List V} (c : MetK X.prog X.w X.K X.mg X.base k C m sp n ks gV) (hr : Room j X.A) (hk : k ≤ j) (he : PE X o ta) (hkw : PK X kws tk)
    (hall : (backToKw pos (keywordEach kws X.env)).all (·.1.isSome) = true := by rfl) (hks : (backToKw pos (keywordEach kws X.env)).filterMap (·.1) = ks := by rfl)
    (hpl : ((backTo pos (starEach [] X.env)).any (·.1) || (backToKw pos (keywordEach kws X.env)).any (·.1.isNone)) = false := by rfl)
    (ht : eval (.Call (.Attribute o m apos) [] kws pos) X.env = (do
      let ov ← eval o X.env
      standAt apos.atName
      let (f, first) ← holding [ov] (getMethod ov m pl)
      callWith pos f first (backTo pos (starEach [] X.env)) (backToKw pos (keywordEach kws X.env))) := by rfl) :
    PE X (.Call (.Attribute o m apos) [] kws pos) (tMethK C m n ks.length sp gV E0 ta tNil tk) := by
  obtain ⟨f, fd, ps, g, cl, hm, F, hb⟩ := c.ex
  refine ⟨fun pins s σ H Q I h => ?_⟩
  refine PySem.W.methodCall_KW (pl := pl) (thn (he.run pins s σ H _ I h) fun u s1 ⟨x, H1, I1, rx, a, dx, fs, ex, ea, l, q⟩ => ?_) ht
  subst ex
  obtain rfl : u = Value.ref a := rx
  refine getmeth_ok I1 ea cl hm l ?_
  refine PySem.W.callWith_KW0 (first := [.ref a]) (h₀ := X.base) I.ok.mod.kin hm.kp hall (thn (hkw.run pos pins s1 σ H1 _ I1 q) fun ws s3 ⟨zs, H3, I3, rz, l1, l2, q3⟩ => ⟨I3.kIn, ?_⟩) hpl
  rw [hks]
  exact run_fnN (us := [.ref a]) (vs := [.ref a]) F (hr.mono hk) hb pass0 I3 (.cons rfl .nil) rz l1 l2 q3
end
end KN

set_option Elab.async false
set_option linter.all false
set_option maxRecDepth 100000
set_option maxHeartbeats 4000000
namespace KN
open PySem PySem.Spec PyProof.Rows L2
/-! ### del d[k] by a tuple -/
def sDDelT (td ty : TE) : TS := fun D σ H => td σ H fun x H1 => ty σ H1 fun y H2 => ∃ (a b : Addr) (kvs : List (List Key × V)) (k : List Key), x = .ref a ∧ H2 a = some (.dT kvs) ∧ y = .ref b ∧ H2 b = some (.tup (k.map kV)) ∧ (valV kvs k).isSome = true ∧ D.nx σ (upd H2 a (.dT (dropK kvs k)))
theorem ps_ddelT {X : Cx} {o i : Expr} {td ty : TE} {pos tpos : Pos} (hu : X.A.units + 1 < cLine) (ho : PE X o td) (hi : PE X i ty) : PS X (.Delete [.Subscript o i tpos] pos) (sDDelT td ty) := by
  refine ⟨fun pins s σ H D I h => ?_⟩
  refine wpAny_Delete (wpAny_deleteEach_cons (wpAny_delete_Subscript (thn (ho.run pins s σ H _ I h) fun u s1 ⟨x, H1, I1, rx, q1⟩ => thn (hi.run pins s1 σ H1 _ I1 q1) fun iv s2 ⟨y, H2, I2, ry, a, b, kvs, k, ex, e, ey, eb, l, q2⟩ => ?_)))
  subst ex ey
  obtain rfl : u = Value.ref a := rx
  obtain rfl : iv = Value.ref b := ry
  obtain ⟨z, hd, xs', rel, dd⟩ := dt_of I2.hok e
  have hz : xs'.length ≤ sizeLine := by rw [← Paired.length rel]; exact z
  have r := rel.val k
  cases hp : atKey xs' k with
  | none =>
    rw [hp] at r
    cases ev : valV kvs k with
    | none => rw [ev] at l; cases l
    | some v0 => rw [ev] at r; exact (show False from r).elim
  | some p =>
    refine wpAny_delItem_heap (hsz := hz) (tupleKind_room_in1 hu) (key_of I2.hok eb) hd dd hp fun h' dd' hs => ?_
    obtain ⟨o, es, ep, hq, h2, h3, h4, _, h5⟩ := dd'
    refine wpAny_deleteEach_nil ⟨σ, _, d_write (ob := .dT (dropK kvs k)) I2 (by rw [e]; exact True.intro) hs ⟨o, hq⟩ ⟨Nat.le_trans (dropK_le kvs k) z, hd, _, (DX.KT_drop k rel).keeps fun c ys ec => ?_, o, es, ep, hq, h2, h3, h4, h5⟩, q2⟩
    rw [upd_ne (ne_of ec e (fun z => nomatch z))]
    exact ec
/-! ### sorted(d) of a dict by moments -/
def adr : Value → Addr
  | .ref a => a
  | _ => 0
def moAt (H : Hp) (a : Addr) : Mo := match H a with
  | some (.tup [.int i, .int j]) => (i, j)
  | _ => (0, 0)
theorem moAt_of {H : Hp} {a : Addr} {m : Mo} (h : H a = some (.tup [.int m.1, .int m.2])) : moAt H a = m := by
  unfold moAt; rw [h]
def mCode (m : Mo) : Int := TS.code 10000000000000 [m.1, m.2]
theorem mCode_le {a b : Mo} (ha : MoOk a) (hb : MoOk b) : mCode a ≤ mCode b ↔ ¬ mLt b a := by
  unfold mCode MoOk mLt at *
  simp only [TS.code, List.length_cons, List.length_nil]
  have e : (10000000000000 : Int) ^ (0 + 1) = 10000000000000 := by decide
  rw [e]
  omega
theorem kt_keys {H : Hp} : ∀ {kvs : List (List Key × V)} {xs : List (List Key × Addr × Value)} {ms : List Mo}, KT H kvs xs → kvs.map (·.1) = ms.map mK →
    (xs.map fun x => moAt H x.2.1) = ms ∧ ∀ x ∈ xs, ∃ m ∈ ms, H x.2.1 = some (.tup [.int m.1, .int m.2])
  | _, _, ms, Paired.nil, e => by
    cases ms with
    | nil => exact ⟨rfl, fun x hx => by cases hx⟩
    | cons m ms => cases e
  | _, _, ms, Paired.cons (a := p) (b := q) h t, e => by
    cases ms with
    | nil => cases e
    | cons m ms =>
      rw [List.map_cons, List.map_cons] at e
      injection e with e1 e2
      obtain ⟨i1, i2⟩ := kt_keys t e2
      have hm : H q.2.1 = some (.tup [.int m.1, .int m.2]) := by rw [h.2.1, e1]; rfl
      refine ⟨by rw [List.map_cons, i1, moAt_of hm], fun x hx => ?_⟩
      rcases List.mem_cons.mp hx with rfl | hx
      · exact ⟨m, List.mem_cons_self, hm⟩
      · obtain ⟨m', h1, h2⟩ := i2 x hx
        exact ⟨m', List.mem_cons_of_mem _ h1, h2⟩
def rSortedDM : List V → Hp → VK → Prop := fun xs H Q => ∃ (a : Addr) (kvs : List (List Key × V)) (ms : List Mo), xs = [.ref a] ∧ Rd H a (.dT kvs) ∧ kvs.map (·.1) = ms.map mK ∧ ms.length < 64 ∧ (∀ m ∈ ms, MoOk m) ∧
  ∀ (ys : List Addr) (ns : List Mo) (p : Addr), ns.Perm ms → ns.Pairwise (fun x y => ¬ mLt y x) → ys.length = ns.length → (∀ (i : Nat) (b : Addr), ys[i]? = some b → ∃ m, ns[i]? = some m ∧ H b = some (.tup [.int m.1, .int m.2])) → H p = none → Q (.ref p) (upd H p (.lst (ys.map V.ref)))
theorem cr_sortedDM {X : Cx} (hcalm : X.calm = true) : CallR X (.builtin "sorted") rSortedDM := by
  intro pins s σ H xs us Q I r q
  obtain ⟨a, kvs, ms, rfl, hd, hks, h64, hok, q⟩ := q
  obtain ⟨u, eu, rx⟩ := vals1 r
  subst eu
  cases rx
  obtain ⟨z, hs, ks, pr, o, es, ep, ho, hx, hdt, he, hn⟩ := (show ObjOk X.prog X.w H s.heap a (.dT kvs) from hd.ok I.hok)
  have l1 : es.size = ks.length := size_of_entries he
  have l2 : kvs.length = ks.length := Paired.length pr
  have l3 : kvs.length = ms.length := by
    have e := congrArg List.length hks
    rw [List.length_map, List.length_map] at e
    exact e
  obtain ⟨km, kh⟩ := kt_keys pr hks
  refine Calls.call_function_entry PyProof.Rows.kind_sorted PyProof.Rows.plain_sorted PyProof.Rows.entry_sorted (PyProof.Rows.args_sorted1 _) ?_
  unfold Builtin.«sorted»
  refine wpAny_bind (m := checkCount "sorted" 1 1 _) (wpAny_pure ?_)
  refine wpAny_bind (PySem.W.kdu_collect (A := X.A.in1) (kdl_raw hs hx hdt) (I.ok.hd hcalm) ho (by omega) fun h' tk acc hk hacc => ?_)
  have ea : acc.toList = ks.map fun x => Value.ref x.2.1 := by
    have hl : acc.toList.length = ks.length := by rw [Array.length_toList, hacc.1]; exact l1
    apply List.ext_getElem?
    intro j
    rw [List.getElem?_map]
    cases hj : acc.toList[j]? with
    | none =>
      have h1 := List.getElem?_eq_none_iff.mp hj
      rw [List.getElem?_eq_none (by omega)]
      all_goals rfl
    | some v =>
      obtain ⟨en, hen, hv⟩ := hacc.2 j v (by rw [← Array.getElem?_toList]; exact hj)
      have qe := entry_at he j
      rw [hen] at qe
      cases hb : ks[j]? with
      | none => rw [hb] at qe; cases qe
      | some x =>
        rw [hb] at qe
        have : en = entryOfKey (tupleKind (mixKind X.prog X.w)) x := Option.some.inj qe
        rw [hv, this]; rfl
  have hal : acc.toList.length = ms.length := by rw [ea, List.length_map]; omega
  have I1 : Inv X pins σ H { s with heap := h', toks := tk } := I.kept hk
  refine wpAny_bind (wpAny_newList ?_ (by rw [hal, sizeLine_eq]; omega))
  have hoL : (h'.push (seqObj "list" acc.toList.toArray 0)).get? h'.objs.size = some (seqObj "list" acc.toList.toArray 0) := Heap.get?_push_size _ rfl
  have keepT : ∀ b o, h'.get? b = some o → o.cls = .type "tuple" → (h'.push (seqObj "list" acc.toList.toArray 0)).get? b = some o := fun b o e _ => Heap.get?_push_of_some _ e
  have rd : ∀ v ∈ acc.toList, ∃ m ∈ ms, TS.TupInts h' v [m.1, m.2] ∧ moAt H (adr v) = m ∧ H (adr v) = some (.tup [.int m.1, .int m.2]) ∧ v = .ref (adr v) := fun v hv => by
    rw [ea] at hv
    obtain ⟨x, hx, rfl⟩ := List.mem_map.mp hv
    obtain ⟨m, h1, h2⟩ := kh x hx
    exact ⟨m, h1, tupI_raw (ns := [m.1, m.2]) I1 (SqT.of h2), moAt_of h2, h2, rfl⟩
  have ok : TS.TupsOk h' 2 10000000000000 acc.toList := fun v hv => by
    obtain ⟨m, h1, h2, _⟩ := rd v hv
    have hm := hok m h1
    unfold MoOk at hm
    refine ⟨_, h2, rfl, fun k hk => ?_⟩
    rcases List.mem_cons.mp hk with rfl | hk
    · omega
    · rw [List.mem_singleton] at hk; subst hk; omega
  show wpAny _ _ _ _ _ { s with heap := h'.push (seqObj "list" acc.toList.toArray 0), toks := tk }
  refine wpAny_bind (wpAny_holding (wpAny_call_entry PyProof.Rows.slot_list_sort ⟨_, hoL, rfl⟩ PyProof.Rows.entry_list_sort
    (TS.sort_tups (s := { s with heap := h'.push (seqObj "list" acc.toList.toArray 0), toks := tk }) (d := 2) (B := 10000000000000) hoL (by rw [hal]; exact h64) (by decide) (ok.keeps keepT) (fun v => mCode (moAt H (adr v))) (fun v hv ns t => ?_) fun out a1 a2 => ⟨_, rfl, ?_⟩)
    (PyProof.Rows.args_list_sort _)))
  · obtain ⟨m, h1, h2, h3, _⟩ := rd v hv
    have e : ns = [m.1, m.2] := t.ints.symm.trans (h2.keeps keepT).ints
    show mCode (moAt H (adr v)) = TS.code 10000000000000 ns
    rw [h3, e]; rfl
  · obtain ⟨e', he'⟩ := PyProof.Rows.sortedHeap_at (vs := acc.toList) (out := out) hoL
    have ro : ∀ v ∈ out.toList, ∃ m ∈ ms, moAt H (adr v) = m ∧ H (adr v) = some (.tup [.int m.1, .int m.2]) ∧ v = .ref (adr v) := fun v hv => by
      obtain ⟨m, h1, _, h3⟩ := rd v (a1.mem_iff.mp hv)
      exact ⟨m, h1, h3⟩
    have pm : (out.toList.map fun v => moAt H (adr v)).Perm ms := by
      have := a1.map fun v => moAt H (adr v)
      rw [ea, List.map_map] at this
      rw [← km]; exact this
    have vv : Vals ((out.toList.map adr).map V.ref) out.toList := by
      have g : ∀ l : List Value, (∀ v ∈ l, v = .ref (adr v)) → Vals ((l.map adr).map V.ref) l := by
        intro l
        induction l with
        | nil => intro _; exact .nil
        | cons v l ih =>
          intro h
          exact .cons (h v List.mem_cons_self) (ih fun x hx => h x (List.mem_cons_of_mem _ hx))
      exact g _ fun v hv => by obtain ⟨_, _, _, _, h⟩ := ro v hv; exact h
    have hlen : ((out.toList.map adr).map V.ref).length ≤ sizeLine := by
      rw [List.length_map, List.length_map, a1.length_eq, hal, sizeLine_eq]; omega
    refine wpAny_pure ⟨_, rfl, .ref h'.objs.size, upd H h'.objs.size (.lst ((out.toList.map adr).map V.ref)), I1.laid (t' := tk) (fun b u e => ?_) (Nat.le_refl _)
      (show ObjOk X.prog X.w _ _ _ (.lst ((out.toList.map adr).map V.ref)) from ⟨hlen, out.toList, e', vv, by rw [Array.toArray_toList]; exact he'⟩), rfl, q _ (out.toList.map fun v => moAt H (adr v)) _ pm ?_ (by rw [List.length_map, List.length_map]) (fun i b hb => ?_) (I1.hok.fresh (Nat.le_refl _))⟩
    · have hb : b < h'.objs.size := Heap.lt_size e
      rw [PyProof.Rows.sortedHeap_old (Nat.ne_of_lt hb) (by rw [size_push']; exact Nat.lt_succ_of_lt hb)]
      exact Heap.get?_push_of_some _ e
    · rw [List.pairwise_map]
      refine List.Pairwise.imp_of_mem (fun {x y} hx hy h => ?_) a2
      obtain ⟨m1, h1, e1, _⟩ := ro x hx
      obtain ⟨m2, h2, e2, _⟩ := ro y hy
      rw [e1, e2] at h ⊢
      exact (mCode_le (hok _ h1) (hok _ h2)).mp h
    · rw [List.getElem?_map] at hb ⊢
      cases e : out.toList[i]? with
      | none => rw [e] at hb; cases hb
      | some v =>
        rw [e] at hb
        cases hb
        obtain ⟨m, _, e1, e2, _⟩ := ro v (List.mem_of_getElem? e)
        exact ⟨m, by show some (moAt H (adr v)) = some m; rw [e1], e2⟩
end KN

set_option Elab.async false
set_option linter.all false
set_option maxRecDepth 100000
set_option maxHeartbeats 4000000
namespace KN
open PySem L2

/-- all but p is kept -/
def Kp (p : Addr) (H H' : Hp) : Prop := ∀ a o, a ≠ p → H a = some o → H' a = some o
theorem Kp.refl (p : Addr) (H : Hp) : Kp p H H := fun _ _ _ h => h
theorem Kp.trans {p : Addr} {H H1 H2 : Hp} (a : Kp p H H1) (b : Kp p H1 H2) : Kp p H H2 := fun c o n h => b c o n (a c o n h)
theorem Kp.of {p : Addr} {H H' : Hp} (s : Same H H') : Kp p H H' := fun a o _ h => s a o h
theorem Kp.new {p q : Addr} {H : Hp} {o : HO} (h : H q = none) : Kp p H (upd H q o) := Kp.of (Same.new h)
theorem Kp.put {p : Addr} {H : Hp} {o : HO} : Kp p H (upd H p o) := fun a u n h => by rw [upd_ne n]; exact h
theorem Kp.tk {p : Addr} {H H' : Hp} {kvs : List (Key × V)} (k : Kp p H H') (h : H p = some (.dK kvs)) : TK H H' := fun b xs e =>
  k b _ (fun z => by subst z; rw [h] at e; cases e) e
theorem Kp.free {p a : Addr} {H H' : Hp} (k : Kp p H H') (n : a ≠ p) (h : H' a = none) : H a = none := by
  cases q : H a with
  | none => rfl
  | some o => rw [k a o n q] at h; cases h

def penD (c : Addr) (n m : Int) : List (Key × V) := [(.inr "cells", .ref c), (.inr "at", .int n), (.inr "left", .int m)]
/-- the pen stands at p, its place at most b -/
def Pen (H : Hp) (p c : Addr) (b : Int) : Prop := ∃ (n m : Int) (ns : List Int), H p = some (.dK (penD c n m)) ∧ H c = some (.lst (ns.map V.int)) ∧ ns.length ≤ 63 ∧ 0 ≤ n ∧ n ≤ b
theorem pen_cells (c : Addr) (n m : Int) : valV (penD c n m) (.inr "cells") = some (.ref c) := by
  unfold penD; rw [valV_pos rfl]
theorem kne {x y : Str} (h : ¬ x = y) : ¬ ((Sum.inr x : Key) = Sum.inr y) := fun z => h (Sum.inr.inj z)
theorem ca0 : ¬ (("cells" : Str) = ("at" : Str)) := by decide +kernel
theorem cl0 : ¬ (("cells" : Str) = ("left" : Str)) := by decide +kernel
theorem al0 : ¬ (("at" : Str) = ("left" : Str)) := by decide +kernel
theorem la0 : ¬ (("left" : Str) = ("at" : Str)) := by decide +kernel
theorem ca_ : ¬ ((Sum.inr ("cells" : Str) : Key) = Sum.inr ("at" : Str)) := kne (by decide +kernel)
theorem cl_ : ¬ ((Sum.inr ("cells" : Str) : Key) = Sum.inr ("left" : Str)) := kne (by decide +kernel)
theorem al_ : ¬ ((Sum.inr ("at" : Str) : Key) = Sum.inr ("left" : Str)) := kne (by decide +kernel)
theorem la_ : ¬ ((Sum.inr ("left" : Str) : Key) = Sum.inr ("at" : Str)) := kne (by decide +kernel)
theorem pen_at (c : Addr) (n m : Int) : valV (penD c n m) (.inr "at") = some (.int n) := by
  unfold penD; rw [valV_neg ca_, valV_pos rfl]
theorem pen_left (c : Addr) (n m : Int) : valV (penD c n m) (.inr "left") = some (.int m) := by
  unfold penD; rw [valV_neg cl_, valV_neg al_, valV_pos rfl]
theorem pen_put_at (c : Addr) (n m k : Int) : putK (penD c n m) (.inr "at") (.int k) = penD c k m := by
  simp [putK, penD, ca0, la0]
theorem pen_put_left (c : Addr) (n m k : Int) : putK (penD c n m) (.inr "left") (.int k) = penD c n k := by
  simp [putK, penD, cl0, al0]
theorem Pen.to {H H' : Hp} {p c : Addr} {b : Int} (h : Pen H p c b) (s : Same H H') : Pen H' p c b :=
  let ⟨n, m, ns, e1, e2, r⟩ := h
  ⟨n, m, ns, s _ _ e1, s _ _ e2, r⟩
theorem Pen.up {H : Hp} {p c : Addr} {b b' : Int} (h : Pen H p c b) (l : b ≤ b') : Pen H p c b' :=
  let ⟨n, m, ns, e1, e2, e3, e4, e5⟩ := h
  ⟨n, m, ns, e1, e2, e3, e4, Int.le_trans e5 l⟩
theorem Pen.tk {H H' : Hp} {p c : Addr} {b : Int} (h : Pen H p c b) (k : Kp p H H') : TK H H' :=
  let ⟨_, _, _, e1, _⟩ := h
  k.tk e1
/-- what is neither the pen nor its cells may change -/
theorem Pen.keep {H H' : Hp} {p c : Addr} {b : Int} (h : Pen H p c b) (k : ∀ a o, a = p ∨ a = c → H a = some o → H' a = some o) : Pen H' p c b :=
  let ⟨n, m, ns, e1, e2, r⟩ := h
  ⟨n, m, ns, k _ _ (.inl rfl) e1, k _ _ (.inr rfl) e2, r⟩
theorem Pen.here {H : Hp} {p c : Addr} {b : Int} (h : Pen H p c b) : (∃ o, H p = some o) ∧ ∃ o, H c = some o :=
  let ⟨_, _, _, e1, e2, _⟩ := h
  ⟨⟨_, e1⟩, _, e2⟩
/-- a new thing is neither the pen nor its cells -/
theorem Pen.off {H : Hp} {p c a : Addr} {b : Int} (h : Pen H p c b) (e : H a = none) : a ≠ p ∧ a ≠ c :=
  let ⟨_, _, _, e1, e2, _⟩ := h
  ⟨(ne_of_none e1 e).symm, (ne_of_none e2 e).symm⟩
theorem Pen.put {H : Hp} {p c a : Addr} {b : Int} {o : HO} (h : Pen H p c b) (n : a ≠ p ∧ a ≠ c) : Pen (upd H a o) p c b :=
  h.keep fun x u hx e => by
    rw [upd_ne (fun z => by subst z; exact hx.elim n.1 n.2)]; exact e
theorem Pen.ne {H : Hp} {p c a : Addr} {b : Int} {xs : List V} (h : Pen H p c b) (e : H a = some (.lst xs)) : a ≠ p :=
  let ⟨_, _, _, e1, _⟩ := h
  fun z => by subst z; rw [e1] at e; cases e

def spPen (K : PySem.W.Frag) : Sp := fun vs H Q _ => ∃ (a : Addr) (ns : List Int), vs = [.ref a] ∧ SqL K H a (ns.map V.int) ∧ ns.length ≤ 63 ∧
  ∀ H' p c, Same H H' → H p = none → H c = none → Pen H' p c 0 → Q (.ref p) H'
def spDraw : Sp := fun vs H Q _ => ∃ (p c : Addr) (b many : Int), vs = [.ref p, .int many] ∧ Pen H p c b ∧ b ≤ 1000000000000 ∧ 1 ≤ many ∧ many < 1000000 ∧
  ∀ H' r, Kp p H H' → Pen H' p c (b + 1) → 0 ≤ r → r < many → Q (.int r) H'

section
variable {P : Program} {w : World} {K : PySem.W.Frag} {mg : Str → Option Value} {base : Heap}
theorem sc__law_pen : FnScope ["_law_script", "_law_cell"] ["_law_script"] (defScope s__law_pen) := ⟨rfl, rfl, rfl, by decide +kernel, rfl, by decide +kernel, by decide +kernel⟩
theorem ok__law_pen {f : Addr} {fd : FuncData} (F : Fun K "_law_pen" "_law_pen" s__law_pen f fd) : FnOk P w K mg base CX0 1 f fd ["_law_script"] (spPen K) := by
  refine F.ok sc__law_pen (fun vs H Q E h => ?_) (fun cdv A outer s H vs Q E hr h => ?_)
  · obtain ⟨a, ns, rfl, _⟩ := h; rfl
  · obtain ⟨a, ns, rfl, hS, hlen, k⟩ := h
    refine ⟨_, (pss_one (ps_ret (pe_disp (pps_cons pe_str (pe_lc (own := [("_law_cell", 1)]) (g := gName 1) (tt := tYes) rfl sc__law_pen.nd (pi_list (pe_slice sl_list (pv 0) po_none (po_some pe_int))) (blkOk_by (own := [("_law_cell", 1)]) (N := ["_law_script", "_law_cell"]) (sc := defScope s__law_pen) (by decide +kernel)) (fun _ _ _ _ _ => pg_name (i := 1) sc__law_pen.nd rfl (Or.inl rfl)) (fun _ _ _ _ _ => pts_nil) (fun _ _ _ _ _ => (pv 1))) (pps_cons pe_str pe_int (pps_cons pe_str pe_int pps_nil))) (by rfl) (by rfl) (fun z => by cases z) (by decide)))), ?_⟩
    intro p hp
    have e63 : cutV (ns.map V.int) none (some 63) = ns.map V.int := by
      unfold cutV
      rw [HT.sIx_none, List.drop_zero, List.take_of_length_le]
      rw [show (some (63 : Int)) = some ((63 : Nat) : Int) from rfl, HT.sIx_nat, List.length_map]; omega
    have s1 : Same H (upd H p (.dK [])) := Same.new hp
    refine ⟨_, rfl, _, rfl, a, _, rfl, s1.seq hS, fun l hl => ?_⟩
    rw [e63]
    have s2 : Same (upd H p (.dK [])) (upd (upd H p (.dK [])) l (.lst (ns.map V.int))) := Same.new hl
    refine ⟨l, rfl, ⟨_, SqL.of upd_same⟩, fun D hD => ?_⟩
    refine lc_list (K := K) (a := l) (xs := ns.map V.int) (fun i H' => Same (upd (upd H p (.dK [])) l (.lst (ns.map V.int))) H' ∧ H' D = some (.lst ((ns.map V.int).take i)))
      ⟨Same.new hD, upd_same⟩ (fun i H' _ q => SqL.of (q.1 _ _ upd_same)) ?_ ?_
    · rintro i x H' hi ⟨q1, q2⟩
      refine ⟨rfl, _, rfl, _, q2, ?_, fun b o e => ?_, ?_⟩
      · have := List.length_take_le' i (ns.map V.int)
        rw [List.length_map] at this
        exact small1000 (by omega)
      · rw [upd_ne (fun z => by subst z; rw [e] at hD; cases hD)]
        exact q1 _ _ e
      · rw [upd_same, List.take_add_one, hi]; rfl
    · rintro H' ⟨q1, q2⟩
      rw [List.take_of_length_le (Nat.le_refl _)] at q2
      refine ⟨q1 _ _ (s2 _ _ upd_same), [(.inr "cells", .ref D), (.inr "at", .int 0), (.inr "left", .int 0)], rfl, (by show 3 ≤ 15; decide), ?_⟩
      have e : mergeK [] [((Sum.inr "cells" : Key), V.ref D), (Sum.inr "at", .int 0), (Sum.inr "left", .int 0)] = penD D 0 0 := by
        simp [mergeK, putK, penD, ca0, cl0, al0]
      rw [e]
      have np : D ≠ p := fun z => by subst z; rw [s2 _ _ upd_same] at hD; cases hD
      have hD0 : H D = none := s1.free (s2.free hD)
      refine k _ _ D (fun b o e => ?_) hp hD0 ⟨0, 0, ns, upd_same, by rw [upd_ne np]; exact q2, hlen, Int.le_refl _, Int.le_refl _⟩
      rw [upd_ne (ne_of_none e hp)]
      exact q1 _ _ (s2 _ _ (s1 _ _ e))

theorem depth_ints : ∀ ns : List Int, PyData.depthAll (ns.map PyData.int) ≤ 1
  | [] => by simp [PyData.depthAll]
  | n :: ns => by have := depth_ints ns; simp [PyData.depthAll, PyData.depth]; omega
theorem shaped_ints (ns : List Int) : SeqAt.shaped (.list (ns.map PyData.int)) = true := by
  have h : okDs (ns.map PyData.int) = true := okDs_all.mpr fun d hd => by
    obtain ⟨i, _, rfl⟩ := List.mem_map.mp hd; rfl
  refine shaped_of (by simpa [okD] using h) ?_
  have := depth_ints ns
  simp [PyData.depth]; omega
theorem draw_ok {n : Int} (h : 0 ≤ n) (l : n ≤ 1000000000000) : -(2 ^ 64) < n ∧ n < 2 ^ 64 := by omega
theorem mod_lt {x m : Int} (h : 0 < m) : 0 ≤ x % m ∧ x % m < m := ⟨Int.emod_nonneg _ (by omega), Int.emod_lt_of_pos _ h⟩
theorem sc__law_draw : FnScope ["_law_pen_here", "_law_many", "_law_digit", "_law_at", "_law_cell", "_law_number", "_law_again"] ["_law_pen_here", "_law_many"] (defScope s__law_draw) := ⟨rfl, rfl, rfl, by decide +kernel, rfl, by decide +kernel, by decide +kernel⟩
theorem ok__law_draw {f : Addr} {fd : FuncData} (F : Fun K "_law_draw" "_law_draw" s__law_draw f fd) (m_len : mg "len" = none) (m_abs : mg "abs" = none) (m_range : mg "range" = none) : FnOk P w K mg base CX0 1 f fd ["_law_pen_here", "_law_many"] spDraw := by
  refine F.ok sc__law_draw (fun vs H Q E h => ?_) (fun cdv A outer s H vs Q E hr h => ?_)
  · obtain ⟨p, c, b, many, rfl, _⟩ := h; rfl
  · obtain ⟨p, c, b, many, rfl, ⟨n, m, ns, hp, hc, h63, hn0, hnb⟩, hb, h1, h2, k⟩ := h
    have hu := hu_of hr
    refine ⟨_, (pss_cons (ps_if (pt_cmpR op_gt (pe_dget hu (pv 0) pe_str (fun _ _ => rfl)) pe_int (nomark _)) (pss_cons (ps_set (i := 2) sc__law_draw.nd rfl (Or.inl rfl) (pe_op op_mod (pe_dget hu (pv 0) pe_str (fun _ _ => rfl)) (pv 1)))
      (pss_cons (ps_dput hu (pv 0) pe_str (pe_op op_fdiv (pe_dget hu (pv 0) pe_str (fun _ _ => rfl)) (pv 1)) rfl)
      (pss_one (ps_ret (pv 2))))) pss_nil)
      (pss_cons (ps_set (i := 3) sc__law_draw.nd rfl (Or.inl rfl) (pe_dget hu (pv 0) pe_str (fun _ _ => rfl)))
      (pss_cons (ps_dput hu (pv 0) pe_str (pe_op op_add (pv 3) pe_int) rfl)
      (pss_cons (ps_set (i := 4) sc__law_draw.nd rfl (Or.inl rfl) (pe_op op_add (pe_op op_mul (pv 3) (pv 3)) pe_int))
      (C8.pss_cut (ps_if (pt_cmpR (op_neD hr.units) (pe_dget hu (pv 0) pe_str (fun _ _ => rfl)) (pe_lst pa_nil) (nomark _)) (pss_one (ps_set (i := 4) sc__law_draw.nd rfl (Or.inl rfl) (pe_ix ix_list (pe_dget hu (pv 0) pe_str (fun _ _ => rfl)) (pe_op op_mod (pv 3) (pe_callB call_len_seq (by rfl) m_len (by decide +kernel) (pa_cons (pe_dget hu (pv 0) pe_str (fun _ _ => rfl)) pa_nil))) (fun _ _ => rfl)))) pss_nil)
      (C8.pss_cut (ps_if (PW.pt (pw_and (pt_cmpR op_lt (pv 3) (pe_callB call_len_seq (by rfl) m_len (by decide +kernel) (pa_cons (pe_dget hu (pv 0) pe_str (fun _ _ => rfl)) pa_nil)) (nomark _)) (pw_and1 (pt_cmpR op_ge (pe_callB call_abs (by rfl) m_abs (by decide +kernel) (pa_cons (pv 4) pa_nil)) (pe_op op_pow pe_int pe_int) (nomark _))))) (pss_cons (ps_dput hu (pv 0) pe_str (pe_op op_fdiv (pe_callB call_abs (by rfl) m_abs (by decide +kernel) (pa_cons (pv 4) pa_nil)) (pv 1)) rfl)
      (pss_one (ps_ret (pe_op op_mod (pe_callB call_abs (by rfl) m_abs (by decide +kernel) (pa_cons (pv 4) pa_nil)) (pv 1))))) pss_nil)
      (pss_cons (ps_set (i := 5) sc__law_draw.nd rfl (Or.inl rfl) (pe_op op_mod (pe_op op_mul (pe_op op_add (pe_op op_add (pe_op op_mod (pv 4) pe_int) (pe_op op_mul pe_int (pv 3))) pe_int) pe_int) pe_int))
      (pss_cons (ps_for PassesOwn.never rfl (pi_range1 rfl m_range (pa_cons pe_int pa_nil)) (pg_name (i := 6) sc__law_draw.nd rfl (Or.inl rfl))
      (pss_cons (ps_set (i := 5) sc__law_draw.nd rfl (Or.inl rfl) (pe_op op_add (pe_op op_add (pe_op op_add (pe_op op_mul (pv 5) (pv 5)) (pe_op op_mul pe_int (pv 5))) (pv 3)) (pv 6)))
      (pss_one (ps_set (i := 5) sc__law_draw.nd rfl (Or.inl rfl) (pe_op op_mod (pv 5) pe_int)))))
      (pss_one (ps_ret (pe_op op_mod (pe_op op_fdiv (pv 5) pe_int) (pv 1)))))))))))), ?_⟩
    have ncp : c ≠ p := ne_of hc hp (by intro z; cases z)
    have gl : DGet H p (.str "left") (some (.int m)) := by
      have := DGet.k (k := .inr "left") hp; rw [pen_left] at this; exact this
    have ga : DGet H p (.str "at") (some (.int n)) := by
      have := DGet.k (k := .inr "at") hp; rw [pen_at] at this; exact this
    refine ⟨_, rfl, p, _, rfl, gl, _, _, rfl, rfl, _, rfl, ite2 (fun hm => ?_) (fun hm => ?_)⟩
    · -- a digit of what is left
      refine ⟨_, rfl, p, _, rfl, gl, _, rfl, _, _, rfl, rfl, (by show (0 : Int) < many; omega), ?_⟩
      refine ⟨_, rfl, p, _, rfl, gl, _, rfl, _, _, rfl, rfl, (by constructor <;> omega), _, rfl, p, _, rfl, DPut.k (k := .inr "left") hp (by show 3 < sizeLine; decide), _, rfl, ?_⟩
      rw [pen_put_left]
      have q := mod_lt (x := m) (m := many) (by omega)
      exact k _ _ Kp.put ⟨n, _, ns, upd_same, by rw [upd_ne ncp]; exact hc, h63, hn0, by omega⟩ q.1 q.2
    · -- a mixed draw
      refine ⟨_, rfl, p, _, rfl, ga, ?_⟩
      refine ⟨_, rfl, _, _, rfl, rfl, _, rfl, p, _, rfl, DPut.k (k := .inr "at") hp (by show 3 < sizeLine; decide), ?_⟩
      rw [pen_put_at]
      have kb : -(2 ^ 64) < n ∧ n < 2 ^ 64 := draw_ok hn0 (by omega)
      refine ⟨_, rfl, _, rfl, _, _, rfl, rfl, .inl kb, _, _, rfl, rfl, ?_⟩
      refine ⟨fun σ' H' => ∃ z : Int, σ' = [some (.ref p), some (.int many), none, some (.int n), some (.int z), none, none] ∧ Kp p H H' ∧ H' p = some (.dK (penD c (n + 1) m)), ?_, ?_⟩
      · -- if pen["cells"] != []
        have gc : DGet (upd H p (.dK (penD c (n + 1) m))) p (.str "cells") (some (.ref c)) := by
          have := DGet.k (k := .inr "cells") (upd_same (H := H) (a := p) (o := .dK (penD c (n + 1) m))); rw [pen_cells] at this; exact this
        refine ⟨_, rfl, p, _, rfl, gc, Nat.zero_le _, fun l hl => ?_⟩
        have nlp : l ≠ p := fun z => by subst z; rw [upd_same] at hl; cases hl
        have hl0 : H l = none := by rw [upd_ne nlp] at hl; exact hl
        have ncl : c ≠ l := fun z => by subst z; rw [hc] at hl0; cases hl0
        have hc2 : upd (upd H p (.dK (penD c (n + 1) m))) l (.lst []) c = some (.lst (ns.map V.int)) := by rw [upd_ne ncl, upd_ne ncp]; exact hc
        have hp2 : upd (upd H p (.dK (penD c (n + 1) m))) l (.lst []) p = some (.dK (penD c (n + 1) m)) := by rw [upd_ne nlp.symm, upd_same]
        have kp2 : Kp p H (upd (upd H p (.dK (penD c (n + 1) m))) l (.lst [])) := Kp.put.trans (Kp.new hl)
        have ls : Ls (upd (upd H p (.dK (penD c (n + 1) m))) l (.lst [])) c (ns.map PyData.int) := ⟨_, hc2, TpAll.ints ns⟩
        have le : Ls (upd (upd H p (.dK (penD c (n + 1) m))) l (.lst [])) l [] := ⟨_, upd_same, .nil⟩
        refine ⟨_, _, ls.dp, le.dp, shaped_ints ns, rfl, _, rfl, ?_⟩
        cases ns with
        | nil =>
          refine iteF ?_
          exact ⟨n * n + 5, rfl, kp2, hp2⟩
        | cons n0 ns =>
          refine iteT ?_
          have gc2 : DGet (upd (upd H p (.dK (penD c (n + 1) m))) l (.lst [])) p (.str "cells") (some (.ref c)) := by
            have := DGet.k (k := .inr "cells") hp2; rw [pen_cells] at this; exact this
          refine ⟨_, rfl, p, _, rfl, gc2, _, rfl, _, rfl, p, _, rfl, gc2, c, _, rfl, .inl (SqL.of hc2), _, _, rfl, rfl, (by show (0 : Int) < ((List.map V.int (n0 :: ns)).length : Nat); rw [List.length_map, List.length_cons]; omega), ?_⟩
          have hl' : 0 < ((List.map V.int (n0 :: ns)).length : Int) := by rw [List.length_map, List.length_cons]; omega
          have q := mod_lt (x := n) hl'
          obtain ⟨y, hy⟩ : ∃ y, (n0 :: ns)[(n % ((List.map V.int (n0 :: ns)).length : Int)).toNat]? = some y := by
            have hlt : (n % ((List.map V.int (n0 :: ns)).length : Int)).toNat < (n0 :: ns).length := by
              have e := List.length_map (as := n0 :: ns) V.int
              omega
            exact ⟨_, List.getElem?_eq_getElem hlt⟩
          refine ⟨c, _, _, .int y, rfl, rfl, SqL.of hc2, at_of (j := (n % ((List.map V.int (n0 :: ns)).length : Int)).toNat) (by omega) (by rw [List.getElem?_map, hy]; rfl), ?_⟩
          exact ⟨y, rfl, kp2, hp2⟩
      · rintro σ1 H1 ⟨z, rfl, k1, hp1⟩
        have hc1 : H1 c = some (.lst (ns.map V.int)) := k1 _ _ ncp hc
        have gc1 : DGet H1 p (.str "cells") (some (.ref c)) := by
          have := DGet.k (k := .inr "cells") hp1; rw [pen_cells] at this; exact this
        have stay : Pen H1 p c (b + 1) := ⟨n + 1, m, ns, hp1, hc1, h63, by omega, by omega⟩
        refine ⟨fun σ' H' => σ' = [some (.ref p), some (.int many), none, some (.int n), some (.int z), none, none] ∧ H' = H1, ?_, ?_⟩
        refine ⟨_, rfl, _, rfl, p, _, rfl, gc1, c, _, rfl, .inl (SqL.of hc1), _, _, rfl, rfl, _, rfl, ite2 (fun hlt => ?_) (fun hlt => ?_)⟩
        · refine ⟨_, rfl, _, rfl, _, _, rfl, rfl, ⟨by decide, by decide, by decide⟩, _, _, rfl, rfl, _, rfl, ite2 (fun hg => ?_) (fun hg => ?_)⟩
          · refine ⟨_, rfl, _, rfl, _, rfl, _, _, rfl, rfl, (by constructor <;> omega), _, rfl, p, _, rfl, DPut.k (k := .inr "left") hp1 (by show 3 < sizeLine; decide), ?_⟩
            rw [pen_put_left]
            refine ⟨_, rfl, _, rfl, _, rfl, _, _, rfl, rfl, (by show (0 : Int) < many; omega), ?_⟩
            have q := mod_lt (x := if z < 0 then -z else z) (m := many) (by omega)
            exact k _ _ (k1.trans Kp.put) ⟨n + 1, _, ns, upd_same, by rw [upd_ne ncp]; exact hc1, h63, by omega, by omega⟩ q.1 q.2
          · exact ⟨rfl, rfl⟩
        · exact ⟨rfl, rfl⟩
        rintro σ2 H2 ⟨rfl, rfl⟩
        have kz := mod_lt (x := z) (m := 4294967311) (by decide)
        refine ⟨_, rfl, _, _, rfl, rfl, (by show (0 : Int) < 4294967311; decide), _, rfl, _, _, rfl, rfl, .inl (by constructor <;> decide), _, _, rfl, rfl, _, _, rfl, rfl, _, _, rfl, rfl, .inr (by constructor <;> decide), _, _, rfl, rfl, (by show (0 : Int) < 4294967311; decide), ?_⟩
        refine ⟨3, rfl, by decide, by decide, for_range (lo := 0) (n := 3) (fun i σ' H' => H' = H2 ∧ ∃ (y : Int) (v : Option V), σ' = [some (.ref p), some (.int many), none, some (.int n), some (.int z), some (.int y), v] ∧ 0 ≤ y ∧ y < 4294967311)
          ⟨rfl, _, none, rfl, mod_lt (by decide)⟩ ?_ ?_⟩
        · rintro i σ3 H3 hi ⟨rfl, y, v, rfl, y0, y1⟩
          refine ⟨_, rfl, _, rfl, _, _, rfl, rfl, .inl (by constructor <;> omega), _, rfl, _, _, rfl, rfl, .inl (by constructor <;> decide), _, _, rfl, rfl, _, rfl, _, _, rfl, rfl, _, rfl, _, _, rfl, rfl, ?_⟩
          refine ⟨_, rfl, _, _, rfl, rfl, (by show (0 : Int) < 4294967311; decide), ?_⟩
          exact ⟨rfl, _, _, rfl, mod_lt (by decide)⟩
        · rintro σ3 H3 ⟨rfl, y, v, rfl, y0, y1⟩
          refine ⟨_, rfl, _, _, rfl, rfl, (by constructor <;> decide), _, rfl, _, _, rfl, rfl, (by show (0 : Int) < many; omega), ?_⟩
          have q := mod_lt (x := y / 32) (m := many) (by omega)
          exact k _ _ k1 stay q.1 q.2
end
end KN


set_option Elab.async false
set_option linter.all false
set_option maxRecDepth 100000
set_option maxHeartbeats 4000000
namespace KN
open PySem L2
theorem takes_never {X : Cx} : Takes X (fun _ _ _ _ => False) := fun _ _ ⟨_, _, _, _, _, _, _, _, _, _, _, _, _, _, _, _, w⟩ => w.elim
abbrev tl (x : Str) : List Nat := x.cps.toList
/-- a word -/
def Lt (l : List Nat) : Prop := ∀ c ∈ l, 97 ≤ c ∧ c ≤ 122
def IsW (s : Str) : Prop := 1 ≤ (tl s).length ∧ (tl s).length ≤ 12 ∧ Lt (tl s)
theorem Lt.app {a b : List Nat} (h : Lt a) (k : Lt b) : Lt (a ++ b) := fun c hc => (List.mem_append.mp hc).elim (h c) (k c)
theorem Lt.drop {a : List Nat} (h : Lt a) (n : Nat) : Lt (a.drop n) := fun c hc => h c (List.mem_of_mem_drop hc)
theorem Lt.take {a : List Nat} (h : Lt a) (n : Nat) : Lt (a.take n) := fun c hc => h c (List.mem_of_mem_take hc)
theorem tl_cut (z : Str) (lo hi : Option Int) : tl (cutS z lo hi) = ((tl z).drop (HT.sIx z.length 0 lo)).take (HT.sIx z.length z.length hi - HT.sIx z.length 0 lo) := rfl
theorem Lt.cut {z : Str} (h : Lt (tl z)) (lo hi : Option Int) : Lt (tl (cutS z lo hi)) := by rw [tl_cut]; exact (h.drop _).take _
theorem len_cut (z : Str) (lo hi : Option Int) : (tl (cutS z lo hi)).length ≤ (tl z).length := by
  rw [tl_cut, List.length_take, List.length_drop]; omega
theorem slen (z : Str) : z.length = (tl z).length := TL.len_tl z
theorem tl_letters : tl letters = (List.range 26).map (· + 97) := by decide +kernel
theorem at_ofG {α : Type} {xs : List α} {i : Int} {v : α} (h : 0 ≤ i) (e : xs[i.toNat]? = some v) : atI xs i = some v := by
  have q := atI_nat (xs := xs) (j := i.toNat) e
  rwa [Int.toNat_of_nonneg h] at q
theorem letter_at {i : Int} (h : 0 ≤ i) (k : i < 26) : atI (tl letters) i = some (i.toNat + 97) := by
  refine at_ofG h ?_
  rw [tl_letters, List.getElem?_map, List.getElem?_range (by omega)]; rfl
theorem letter_ix : ∀ k, k < 26 → (Txt.index0 letters ⟨#[k + 97]⟩).isSome = true ∧ ∀ j, Txt.index0 letters ⟨#[k + 97]⟩ = some j → j = k := by decide +kernel
theorem index_letter {c : Nat} (h : 97 ≤ c ∧ c ≤ 122) : Txt.index0 letters ⟨#[c]⟩ = some (c - 97) := by
  have q := letter_ix (c - 97) (by omega)
  rw [show c - 97 + 97 = c by omega] at q
  cases e : Txt.index0 letters ⟨#[c]⟩ with
  | none => rw [e] at q; exact absurd q.1 (by decide)
  | some j => rw [q.2 j e]
theorem tl_join0 : ∀ ss : List Str, tl (Txt.join "" ss) = (ss.map tl).flatten := by
  intro ss
  have e : tl (Txt.join "" ss) = TL.joinL (tl "") (ss.map tl) := by rw [TL.join_eq]; exact TL.tl_join "" ss
  rw [e]
  have e0 : tl "" = [] := by decide +kernel
  rw [e0]
  generalize ss.map tl = ps
  induction ps with
  | nil => rfl
  | cons p r ih =>
    cases r with
    | nil => simp [TL.joinL]
    | cons q r => simp only [TL.joinL, List.nil_append] at ih ⊢; rw [ih]; rfl

/-- the texts of one letter each -/
def One (ss : List Str) : Prop := ∀ s ∈ ss, ∃ c, tl s = [c] ∧ 97 ≤ c ∧ c ≤ 122
theorem One.word {ss : List Str} (h : One ss) : (tl (Txt.join "" ss)).length = ss.length ∧ Lt (tl (Txt.join "" ss)) := by
  rw [tl_join0]
  induction ss with
  | nil => exact ⟨rfl, fun c hc => by cases hc⟩
  | cons s r ih =>
    obtain ⟨c, e, h1, h2⟩ := h s List.mem_cons_self
    obtain ⟨a, b⟩ := ih fun x hx => h x (List.mem_cons_of_mem _ hx)
    rw [List.map_cons, List.flatten_cons, e]
    refine ⟨by rw [List.length_append, a]; simp; omega, Lt.app (fun d hd => ?_) b⟩
    rw [List.mem_singleton] at hd; subst hd; exact ⟨h1, h2⟩
theorem One.sum {ss : List Str} (h : One ss) : (ss.map (·.length)).sum = ss.length := by
  induction ss with
  | nil => rfl
  | cons s r ih =>
    obtain ⟨c, e, _⟩ := h s List.mem_cons_self
    rw [List.map_cons, List.sum_cons, ih fun x hx => h x (List.mem_cons_of_mem _ hx), slen, e]
    simp; omega

def Odd6 (y : Int) : Prop := y = 3 ∨ y = 5 ∨ y = 7 ∨ y = 9 ∨ y = 11 ∨ y = 15
theorem odd_ne {f y : Int} (h : Odd6 y) {i j : Int} (i0 : 0 ≤ i) (ij : i < j) (jl : j < 26) : (f + y * i) % 26 ≠ (f + y * j) % 26 := by
  unfold Odd6 at h
  rcases h with rfl | rfl | rfl | rfl | rfl | rfl <;> omega
/-- words that are unlike at one place: what stands ahead of it, a letter by its number, anything -/
def Shp (pre : List Nat) (f y : Int) (ss : List Str) : Prop := ∀ (i : Nat) (s : Str), ss[i]? = some s → ∃ r, tl s = pre ++ (((f + y * (0 + (i : Int))) % 26).toNat + 97) :: r
theorem Shp.ne {pre : List Nat} {f y : Int} {ss : List Str} (h : Shp pre f y ss) (o : Odd6 y) (hl : ss.length ≤ 26) {i j : Nat} {s u : Str} (hi : ss[i]? = some s) (hj : ss[j]? = some u) (ij : i < j) : s ≠ u := by
  intro e
  subst e
  obtain ⟨r, h1⟩ := h i s hi
  obtain ⟨q, h2⟩ := h j s hj
  have jl : j < ss.length := (List.getElem?_eq_some_iff.mp hj).1
  have e := List.append_cancel_left (h1.symm.trans h2)
  injection e with e _
  refine odd_ne (f := f) o (i := 0 + (i : Int)) (j := 0 + (j : Int)) (by omega) (by omega) (by omega) ?_
  have q1 := Int.emod_nonneg (f + y * (0 + (i : Int))) (by decide : (26 : Int) ≠ 0)
  have q2 := Int.emod_nonneg (f + y * (0 + (j : Int))) (by decide : (26 : Int) ≠ 0)
  omega
theorem nd_of {ss : List Str} (h : ∀ (i j : Nat) (s u : Str), i < j → ss[i]? = some s → ss[j]? = some u → s ≠ u) : ss.Nodup :=
  List.pairwise_iff_getElem.mpr fun i j hi hj ij => h i j _ _ ij (List.getElem?_eq_getElem hi) (List.getElem?_eq_getElem hj)
theorem Shp.nd {pre : List Nat} {f y : Int} {ss : List Str} (h : Shp pre f y ss) (o : Odd6 y) (hl : ss.length ≤ 26) : ss.Nodup := nd_of fun _ _ _ _ ij hi hj => h.ne o hl hi hj ij
/-- one of them put short -/
theorem Shp.nd_set {pre : List Nat} {f y : Int} {ss : List Str} (h : Shp pre f y ss) (o : Odd6 y) (hl : ss.length ≤ 26) (k : Nat) {z : Str} (hz : (tl z).length = pre.length) : (ss.set k z).Nodup := by
  have no : ∀ i s, ss[i]? = some s → s ≠ z := fun i s hi e => by
    obtain ⟨r, hr⟩ := h i s hi
    rw [e] at hr
    have := congrArg List.length hr
    rw [List.length_append, List.length_cons] at this
    omega
  have at' : ∀ i s, (ss.set k z)[i]? = some s → (i = k ∧ s = z) ∨ (i ≠ k ∧ ss[i]? = some s) := fun i s hi => by
    rw [List.getElem?_set] at hi
    by_cases e : k = i
    · rw [if_pos e] at hi
      split at hi
      · exact .inl ⟨e.symm, (Option.some.inj hi).symm⟩
      · cases hi
    · rw [if_neg e] at hi; exact .inr ⟨fun q => e q.symm, hi⟩
  refine nd_of fun i j s u ij hi hj => ?_
  rcases at' i s hi with ⟨e1, rfl⟩ | ⟨_, h1⟩ <;> rcases at' j u hj with ⟨e2, rfl⟩ | ⟨_, h2⟩
  · omega
  · exact (no j u h2).symm
  · exact no i s h1
  · exact h.ne o hl h1 h2 ij
theorem six_at {r : Int} (h : 0 ≤ r) (k : r < 6) : ∃ y, atI [V.int 3, .int 5, .int 7, .int 9, .int 11, .int 15] r = some (.int y) ∧ 3 ≤ y ∧ y ≤ 15 ∧ Odd6 y := by
  have : r = 0 ∨ r = 1 ∨ r = 2 ∨ r = 3 ∨ r = 4 ∨ r = 5 := by omega
  rcases this with rfl | rfl | rfl | rfl | rfl | rfl <;> exact ⟨_, rfl, by decide, by decide, by unfold Odd6; decide⟩
theorem two_at {r : Int} (x y : V) (h : 0 ≤ r) (k : r < 2) : ∃ v, atI [x, y] r = some v ∧ (v = x ∨ v = y) := by
  have : r = 0 ∨ r = 1 := by omega
  rcases this with rfl | rfl
  · exact ⟨_, rfl, .inl rfl⟩
  · exact ⟨_, rfl, .inr rfl⟩
theorem atI_in {α : Type} {xs : List α} {i : Int} (h : 0 ≤ i) (k : i < xs.length) : ∃ v, atI xs i = some v ∧ xs[i.toNat]? = some v := by
  have hl : i.toNat < xs.length := by omega
  exact ⟨xs[i.toNat], at_ofG h (List.getElem?_eq_getElem hl), List.getElem?_eq_getElem hl⟩
def spNames : Sp := fun vs H Q _ => ∃ (p c : Addr) (b many : Int), vs = [.ref p, .int many] ∧ Pen H p c b ∧ b ≤ 1000000000 ∧ 0 ≤ many ∧ many ≤ 26 ∧
  ∀ (H' : Hp) (l : Addr) (ss : List Str), Kp p H H' → Pen H' p c (b + 16) → H l = none → H' l = some (.lst (ss.map V.str)) → ss.length = many.toNat → (∀ s ∈ ss, IsW s) → ss.Nodup → Q (.ref l) H'

section
variable {P : Program} {w : World} {K : PySem.W.Frag} {mg : Str → Option Value} {base : Heap}
theorem sc__law_names : FnScope ["_law_pen_here", "_law_many", "_law_letters", "_law_word", "_law_at", "_law_first", "_law_by", "_law_lot", "_law_found", "_law_k", "_law_tail"] ["_law_pen_here", "_law_many"] (defScope s__law_names) := ⟨rfl, rfl, rfl, by decide +kernel, rfl, by decide +kernel, by decide +kernel⟩
theorem ok__law_names {f : Addr} {fd : FuncData} (F : Fun K "_law_names" "_law_names" s__law_names f fd) (m_len : mg "len" = none) (m_range : mg "range" = none) (c__law_draw : C8.Cal P w K mg base 1 "_law_draw" spDraw []) : FnOk P w K mg base CX0 2 f fd ["_law_pen_here", "_law_many"] spNames := by
  refine F.ok sc__law_names (fun vs H Q E h => ?_) (fun cdv A outer s H vs Q E hr h => ?_)
  · obtain ⟨p, c, b, many, rfl, _⟩ := h; rfl
  · obtain ⟨p, c, b, many, rfl, pen, hb, m0, m1, k⟩ := h
    have hu := hu_of hr
    refine ⟨_, (pss_cons (ps_set (i := 2) sc__law_names.nd rfl (Or.inr rfl) pe_str)
      (pss_cons (ps_set (i := 3) sc__law_names.nd rfl (Or.inl rfl) (pe_join pe_str (pe_lc (own := [("_law_k", 9)]) (g := gName 9) (tt := tYes) rfl sc__law_names.nd (pi_range1 rfl m_range (pa_cons (pe_op op_add pe_int (C8.pe_c c__law_draw hr (by decide) rfl (pa_cons (pv 0) (pa_cons pe_int pa_nil)))) pa_nil)) (blkOk_by (own := [("_law_k", 9)]) (N := ["_law_pen_here", "_law_many", "_law_letters", "_law_word", "_law_at", "_law_first", "_law_by", "_law_lot", "_law_found", "_law_k", "_law_tail"]) (sc := defScope s__law_names) (by decide +kernel)) (fun _ _ _ _ _ => pg_name (i := 9) sc__law_names.nd rfl (Or.inl rfl)) (fun _ _ _ _ _ => pts_nil) (fun _ _ _ _ _ => (pe_ix ix_str (pv 2) (C8.pe_c c__law_draw hr (by decide) rfl (pa_cons (pv 0) (pa_cons pe_int pa_nil))) (fun _ _ => rfl))))))
      (pss_cons (ps_set (i := 4) sc__law_names.nd rfl (Or.inl rfl) (C8.pe_c c__law_draw hr (by decide) rfl (pa_cons (pv 0) (pa_cons (pe_callB call_len_str (by rfl) m_len (by decide +kernel) (pa_cons (pv 3) pa_nil)) pa_nil))))
      (pss_cons (ps_par (i := 5) (j := 6) rfl sc__law_names.nd rfl rfl (by decide) rfl rfl (pa_cons (C8.pe_c c__law_draw hr (by decide) rfl (pa_cons (pv 0) (pa_cons pe_int pa_nil))) (pa_cons (pe_ix ix_list (pe_lst (pa_cons pe_int (pa_cons pe_int (pa_cons pe_int (pa_cons pe_int (pa_cons pe_int (pa_cons pe_int pa_nil))))))) (C8.pe_c c__law_draw hr (by decide) rfl (pa_cons (pv 0) (pa_cons pe_int pa_nil))) (fun _ _ => rfl)) pa_nil)) (by rfl))
      (pss_cons (ps_par (i := 7) (j := 8) rfl sc__law_names.nd rfl rfl (by decide) rfl rfl (pa_cons (pe_bmS PySem.F.plainAttrs_str PySem.F.slot_str_index PySem.F.type_str_index (mt_indexX rfl takes_never) (pv 2) (pa_cons (pe_ix ix_str (pv 3) (pv 4) (fun _ _ => rfl)) pa_nil)) (pa_cons (pe_lst pa_nil) pa_nil)) (by rfl))
      (pss_cons (ps_for PassesOwn.never rfl (pi_range1 rfl m_range (pa_cons (pv 1) pa_nil)) (pg_name (i := 9) sc__law_names.nd rfl (Or.inl rfl))
      (pss_cons (ps_set (i := 10) sc__law_names.nd rfl (Or.inl rfl) (pe_slice sl_str (pe_slice sl_str (pv 3) (po_some (pe_op op_add (pv 4) pe_int)) po_none) po_none (po_some (pe_ix ix_list (pe_lst (pa_cons pe_int (pa_cons (pe_op op_mod (pv 9) pe_int) pa_nil))) (pe_op op_mod (pv 7) pe_int) (fun _ _ => rfl)))))
      (pss_one (ps_expr (pe_bm PySem.F.plainAttrs_list PySem.F.slot_list_append PySem.F.type_list_append mt_append (pv 8) (pa_cons (pe_op op_add_str (pe_op op_add_str (pe_slice sl_str (pv 3) po_none (po_some (pv 4))) (pe_ix ix_str (pv 2) (pe_op op_mod (pe_op op_add (pv 5) (pe_op op_mul (pv 6) (pv 9))) pe_int) (fun _ _ => rfl))) (pv 10)) pa_nil))))))
      (pss_cons (ps_if (PW.pt (pw_and (pt_cmpR op_gt (pv 4) pe_int (nomark _)) (pw_and (pt_cmpR op_gt (pv 1) pe_int (nomark _)) (pw_and1 (pt_cmpR op_eq (pe_op op_mod (pe_op op_fdiv (pv 7) pe_int) pe_int) pe_int (nomark _)))))) (pss_one (ps_asg (pe_slice sl_str (pv 3) po_none (po_some (pv 4))) (pg_sub (pv 8) (pe_op op_mod (pe_op op_fdiv (pv 7) pe_int) (pv 1)) set_list))) pss_nil)
      (pss_one (ps_ret (pv 8)))))))))), ?_⟩
    -- the word
    refine ⟨⟨_, rfl⟩, _, rfl, p, c, b, 12, rfl, pen, by omega, by decide, by decide, fun H1 r1 k1 pen1 r10 r11 => ?_⟩
    refine ⟨_, _, rfl, rfl, _, rfl, by omega, by omega, fun D hD => ?_⟩
    have nD := pen1.off hD
    refine lc_range (lo := 0) (n := (1 + r1).toNat) (fun i H' => Kp p H1 H' ∧ Pen H' p c (b + 1 + i) ∧ ∃ ss : List Str, H' D = some (.lst (ss.map V.str)) ∧ ss.length = i ∧ One ss)
      ⟨Kp.new hD, (pen1.put nD).up (by omega), [], upd_same, rfl, fun s hs => by cases hs⟩ ?_ ?_
    · rintro i H2 hi ⟨k2, pen2, ss, hs, hl, ho⟩
      refine ⟨rfl, _, rfl, _, rfl, p, c, _, 26, rfl, pen2, by omega, by decide, by decide, fun H3 r3 k3 pen3 r30 r31 => ?_⟩
      refine ⟨_, _, _, rfl, rfl, by decide, letter_at r30 r31, _, k3 _ _ nD.1 hs, by rw [List.length_map, hl]; exact small1000 (by omega), ?_⟩
      refine ⟨fun a o na e => ?_, (pen3.put nD).up (by omega), ss ++ [⟨#[r3.toNat + 97]⟩], by rw [upd_same, List.map_append]; rfl, by rw [List.length_append, hl]; rfl, fun s hs => ?_⟩
      · rw [upd_ne (ne_of_none e hD)]
        exact k3 _ _ na (k2 _ _ na e)
      · rcases List.mem_append.mp hs with h | h
        · exact ho s h
        · rw [List.mem_singleton] at h
          subst h
          exact ⟨_, rfl, by omega, by omega⟩
    · rintro H2 ⟨k2, pen2, ss, hs, hl, ho⟩
      obtain ⟨hwl, hwc⟩ := ho.word
      have hw12 : (tl (Txt.join "" ss)).length ≤ 12 := by rw [hwl]; omega
      have hw1 : 1 ≤ (tl (Txt.join "" ss)).length := by rw [hwl]; omega
      refine ⟨_, D, ss, rfl, rfl, .inl (SqL.of hs), ?_, ?_⟩
      · rw [ho.sum, show ("" : Str).length = 0 from rfl]; omega
      generalize Txt.join "" ss = W at hw12 hw1 hwc
      have k02 : Kp p H H2 := k1.trans k2
      -- _law_at
      refine ⟨_, rfl, _, rfl, _, rfl, Nat.le_trans (Nat.le_of_eq (slen W)) (Nat.le_trans hw12 (by decide)), p, c, _, _, rfl, pen2, by omega, by rw [slen]; omega, by rw [slen]; omega, fun H3 at_ k3 pen3 a0 a1 => ?_⟩
      rw [slen] at a1
      -- _law_first, _law_by
      refine ⟨_, rfl, p, c, _, 26, rfl, pen3, by omega, by decide, by decide, fun H4 first k4 pen4 f0 f1 => ?_⟩
      refine ⟨by show 6 ≤ sizeLine; decide, fun L hL => ?_⟩
      refine ⟨_, rfl, p, c, _, 6, rfl, pen4.put (pen4.off hL), by omega, by decide, by decide, fun H5 r5 k5 pen5 r50 r51 => ?_⟩
      obtain ⟨by_, eb, b0, b1, bodd⟩ := six_at r50 r51
      have nL := pen4.off hL
      refine ⟨L, _, _, _, rfl, rfl, SqL.of (k5 _ _ nL.1 upd_same), eb, _, _, rfl, ?_⟩
      have k05 : Kp p H H5 := k02.trans (k3.trans (k4.trans ((Kp.new hL).trans k5)))
      -- _law_lot, _law_found
      obtain ⟨ch, ec, ech⟩ := atI_in (xs := tl W) a0 (by omega)
      have hch := hwc ch (List.mem_of_getElem? ech)
      refine ⟨_, rfl, rfl, _, rfl, _, rfl, _, _, _, rfl, rfl, Nat.le_trans (Nat.le_of_eq (slen W)) (Nat.le_trans hw12 (by decide)), ec, _, _, rfl, rfl, fun lot elot => ?_, fun z => by rw [index_letter hch] at z; cases z⟩
      rw [index_letter hch] at elot
      cases elot
      refine ⟨Nat.zero_le _, fun F hF => ?_⟩
      refine ⟨_, _, rfl, ?_⟩
      have nF := pen5.off hF
      have hF0 : H F = none := k05.free nF.1 hF
      -- for _law_k in range(_law_many)
      have hlW : Lt (tl W) := hwc
      refine ⟨_, rfl, _, rfl, by omega, by omega, for_range (lo := 0) (n := many.toNat) (fun i σ' H' => ∃ (v9 v10 : Option V) (ss : List Str), σ' = [some (.ref p), some (.int many), some (.str letters), some (.str W), some (.int at_), some (.int first), some (.int by_), some (.int ((ch - 97 : Nat) : Int)), some (.ref F), v9, v10] ∧
          Kp p H5 H' ∧ Pen H' p c (b + 16) ∧ H' F = some (.lst (ss.map V.str)) ∧ ss.length = i ∧ (∀ s ∈ ss, IsW s) ∧ Shp (tl (cutS W none (some at_))) first by_ ss)
        ⟨none, none, [], rfl, Kp.new hF, (pen5.put nF).up (by omega), upd_same, rfl, (fun s hs => by cases hs), fun i s hi => by simp at hi⟩ ?_ ?_⟩
      · rintro i σ6 H6 hi ⟨v9, v10, ss, rfl, k6, pen6, hs, hl, hw, hshp⟩
        -- _law_tail
        refine ⟨_, rfl, _, rfl, _, _, rfl, rfl, _, rfl, _, rfl, Nat.le_trans (Nat.le_of_eq (slen W)) (Nat.le_trans hw12 (by decide)), ?_⟩
        refine ⟨_, rfl, _, _, rfl, rfl, (by show (0 : Int) < 4; decide), by show 2 ≤ sizeLine; decide, fun L2_ hL2 => ?_⟩
        have q2 := mod_lt (x := ((ch - 97 : Nat) : Int)) (m := 2) (by decide)
        obtain ⟨e, ee⟩ : ∃ e : Int, atI [V.int 12, V.int ((0 + (i : Int)) % 4)] (((ch - 97 : Nat) : Int) % 2) = some (.int e) := by
          obtain ⟨v, e, h | h⟩ := two_at (V.int 12) (V.int ((0 + (i : Int)) % 4)) q2.1 q2.2
          · exact ⟨_, by rw [e, h]⟩
          · exact ⟨_, by rw [e, h]⟩
        refine ⟨_, rfl, _, _, rfl, rfl, (by show (0 : Int) < 2; decide), L2_, _, _, _, rfl, rfl, SqL.of upd_same, ee, _, rfl, _, rfl, ?_, ?_⟩
        · have h1 := len_cut W (some (at_ + 1)) none
          rw [slen]; exact Nat.le_trans h1 (Nat.le_trans hw12 (by decide))
        have hc0 : ∀ q : Str, (tl q).length ≤ 12 → q.length ≤ sizeLine := fun q hq => by rw [slen]; exact Nat.le_trans hq (by decide)
        have nL2 := pen6.off hL2
        -- found.append(word[:at] + letter + tail)
        have qm := mod_lt (x := first + by_ * (0 + (i : Int))) (m := 26) (by decide)
        have ht1 : (tl (cutS W (some (at_ + 1)) none)).length ≤ (tl W).length - (at_.toNat + 1) := by
          rw [tl_cut, List.length_take, List.length_drop]
          have : HT.sIx W.length 0 (some (at_ + 1)) = min (at_.toNat + 1) W.length := by
            rw [show (some (at_ + 1)) = some (((at_.toNat + 1 : Nat)) : Int) by rw [Int.natCast_add, Int.toNat_of_nonneg a0]; rfl, HT.sIx_nat]
          rw [this, slen]; omega
        have ht2 := len_cut (cutS W (some (at_ + 1)) none) none (some e)
        have ht0 : (tl (cutS W none (some at_))).length = at_.toNat := by
          rw [tl_cut, List.length_take, List.length_drop]
          have : HT.sIx W.length W.length (some at_) = min at_.toNat W.length := by
            rw [show (some at_) = some (((at_.toNat : Nat)) : Int) by rw [Int.toNat_of_nonneg a0], HT.sIx_nat]
          rw [this, HT.sIx_none, slen]; omega
        have hF6 : upd H6 L2_ (HO.lst [V.int 12, V.int ((0 + (i : Int)) % 4)]) F = some (.lst (ss.map V.str)) := by
          rw [upd_ne (ne_of_none hs hL2)]; exact hs
        refine ⟨_, rfl, .inl ⟨rfl, _, SqL.of hF6⟩, _, rfl, _, rfl, _, rfl, _, rfl, hc0 _ hw12, _, rfl, _, rfl, _, rfl, _, rfl, _, _, rfl, rfl, .inr (by constructor <;> omega), _, _, rfl, rfl, _, _, rfl, rfl, (by show (0 : Int) < 26; decide), _, _, _, rfl, rfl, by decide, letter_at qm.1 qm.2, ?_⟩
        have l1 : (tl (⟨#[((first + by_ * (0 + (i : Int))) % 26).toNat + 97]⟩ : Str)).length = 1 := rfl
        refine ⟨_, _, rfl, rfl, by rw [slen, slen, ht0, l1]; exact Nat.le_trans (Nat.add_le_add_right (by omega : at_.toNat ≤ 12) 1) (by decide), ?_⟩
        have e2 : ∀ x y : Str, (tl (x ++ y)).length = (tl x).length + (tl y).length := fun x y => by rw [show tl (x ++ y) = tl x ++ tl y from TL.tl_append x y, List.length_append]
        have ltot : (tl (cutS W none (some at_) ++ (⟨#[((first + by_ * (0 + (i : Int))) % 26).toNat + 97]⟩ : Str) ++ cutS (cutS W (some (at_ + 1)) none) none (some e))).length ≤ 12 ∧ 1 ≤ (tl (cutS W none (some at_) ++ (⟨#[((first + by_ * (0 + (i : Int))) % 26).toNat + 97]⟩ : Str) ++ cutS (cutS W (some (at_ + 1)) none) none (some e))).length := by
          rw [e2, e2, ht0, l1]; omega
        refine ⟨_, rfl, _, _, rfl, rfl, by rw [e2, e2, ht0, l1] at ltot; rw [slen, slen, e2, ht0, l1]; exact Nat.le_trans (by omega : _ ≤ 12) (by decide), F, _, _, rfl, rfl, hF6, by rw [List.length_map, hl]; exact small1000 (by omega), ?_⟩
        refine ⟨_, _, ss ++ [cutS W none (some at_) ++ (⟨#[((first + by_ * (0 + (i : Int))) % 26).toNat + 97]⟩ : Str) ++ cutS (cutS W (some (at_ + 1)) none) none (some e)], rfl, fun a o na ea => ?_, ((pen6.put nL2).put nF), by rw [upd_same, List.map_append]; rfl, by rw [List.length_append, hl]; rfl, fun s hs' => ?_, fun j s hj => ?_⟩
        · rw [upd_ne (ne_of_none ea hF), upd_ne (ne_of_none (k6 _ _ na ea) hL2)]
          exact k6 _ _ na ea
        · rcases List.mem_append.mp hs' with h | h
          · exact hw s h
          · rw [List.mem_singleton] at h
            subst h
            refine ⟨ltot.2, ltot.1, ?_⟩
            rw [show ∀ x y : Str, tl (x ++ y) = tl x ++ tl y from TL.tl_append, show ∀ x y : Str, tl (x ++ y) = tl x ++ tl y from TL.tl_append]
            refine Lt.app (Lt.app (hlW.cut _ _) (fun d hd => ?_)) ((hlW.cut _ _).cut _ _)
            have hd' : d ∈ [((first + by_ * (0 + (i : Int))) % 26).toNat + 97] := hd
            rw [List.mem_singleton] at hd'; subst hd'
            omega
        · by_cases q : j < ss.length
          · rw [List.getElem?_append_left q] at hj; exact hshp j s hj
          · rw [List.getElem?_append_right (by omega)] at hj
            have hj1 := (List.getElem?_eq_some_iff.mp hj).1
            rw [List.length_singleton] at hj1
            have ej : j = i := by omega
            rw [show j - ss.length = 0 by omega] at hj
            cases hj
            subst ej
            refine ⟨tl (cutS (cutS W (some (at_ + 1)) none) none (some e)), ?_⟩
            rw [show ∀ x y : Str, tl (x ++ y) = tl x ++ tl y from TL.tl_append, show ∀ x y : Str, tl (x ++ y) = tl x ++ tl y from TL.tl_append, List.append_assoc]; rfl
      · rintro σ6 H6 ⟨v9, v10, ss, rfl, k6, pen6, hs, hl, hw, hshp⟩
        -- if _law_at > 0 and _law_many > 0 and ..
        have fin : ∀ (H7 : Hp) (ss' : List Str), Kp p H5 H7 → Pen H7 p c (b + 16) → H7 F = some (.lst (ss'.map V.str)) → ss'.length = many.toNat → (∀ s ∈ ss', IsW s) → ss'.Nodup → Q (.ref F) H7 := fun H7 ss' k7 pen7 hs7 hl7 hw7 hn7 =>
          k H7 F ss' (k05.trans k7) pen7 hF0 hs7 hl7 hw7 hn7
        have keepF : Q (.ref F) H6 := fin H6 ss k6 pen6 hs hl hw (hshp.nd bodd (by omega))
        refine ⟨_, rfl, _, _, rfl, rfl, _, rfl, ite2 (fun h1 => ?_) (fun h1 => ?_)⟩
        · refine ⟨_, rfl, _, _, rfl, rfl, _, rfl, ite2 (fun h2 => ?_) (fun h2 => ?_)⟩
          · refine ⟨_, rfl, _, _, rfl, rfl, (by constructor <;> decide), _, _, rfl, rfl, (by show (0 : Int) < 3; decide), rfl, _, rfl, ite2 (fun h3 => ?_) (fun h3 => ?_)⟩
            · have hp2 : 0 < many := of_decide_eq_true h2
              have hp1 : 0 < at_ := of_decide_eq_true h1
              have qx := mod_lt (x := ((ch - 97 : Nat) : Int) / 6) (m := many) hp2
              have hix : ixN (ss.map V.str).length (((ch - 97 : Nat) : Int) / 6 % many) = some (((ch - 97 : Nat) : Int) / 6 % many).toNat := by
                unfold ixN; rw [if_pos qx.1, if_pos (by rw [List.length_map, hl]; omega)]
              refine ⟨_, rfl, _, rfl, _, rfl, _, rfl, by rw [slen]; exact Nat.le_trans hw12 (by decide), _, rfl, _, rfl, _, _, rfl, rfl, (by constructor <;> decide), _, rfl, _, _, rfl, rfl, hp2, F, _, _, _, rfl, rfl, hs, hix, ?_⟩
              have ht0 : (tl (cutS W none (some at_))).length = at_.toNat := by
                rw [tl_cut, List.length_take, List.length_drop]
                have : HT.sIx W.length W.length (some at_) = min at_.toNat W.length := by
                  rw [show (some at_) = some (((at_.toNat : Nat)) : Int) by rw [Int.toNat_of_nonneg a0], HT.sIx_nat]
                rw [this, HT.sIx_none, slen]; omega
              refine ⟨_, rfl, fin _ (ss.set (((ch - 97 : Nat) : Int) / 6 % many).toNat (cutS W none (some at_))) (fun a o na ea => ?_) (pen6.put nF) (by rw [upd_same, List.map_set]) (by rw [List.length_set, hl]) (fun s hs' => ?_) (hshp.nd_set bodd (by omega) _ rfl)⟩
              · rw [upd_ne (ne_of_none ea hF)]
                exact k6 _ _ na ea
              · rcases List.mem_or_eq_of_mem_set hs' with h | h
                · exact hw s h
                · subst h
                  exact ⟨by omega, by omega, hlW.cut _ _⟩
            · exact ⟨_, rfl, keepF⟩
          · exact ⟨_, rfl, keepF⟩
        · exact ⟨_, rfl, keepF⟩
end
end KN


set_option Elab.async false
set_option linter.all false
set_option maxRecDepth 100000
set_option maxHeartbeats 4000000
namespace KN
open PySem L2
theorem three_at {r : Int} (x y z : Int) (h : 0 ≤ r) (k : r < 3) : ∃ v, atI [V.int x, V.int y, V.int z] r = some (.int v) ∧ (v = x ∨ v = y ∨ v = z) := by
  have : r = 0 ∨ r = 1 ∨ r = 2 := by omega
  rcases this with rfl | rfl | rfl
  · exact ⟨_, rfl, .inl rfl⟩
  · exact ⟨_, rfl, .inr (.inl rfl)⟩
  · exact ⟨_, rfl, .inr (.inr rfl)⟩

def MoS (m : Mo) : Prop := 0 ≤ m.1 ∧ m.1 ≤ 900000 ∧ 1 ≤ m.2 ∧ m.2 ≤ 900000
theorem MoS.ok {m : Mo} (h : MoS m) : MoOk m := by unfold MoS at h; unfold MoOk; omega
def MoM (m : Mo) : Prop := 0 ≤ m.1 ∧ m.1 ≤ 800000 ∧ 1 ≤ m.2 ∧ m.2 ≤ 800000
theorem MoM.s {m : Mo} (h : MoM m) : MoS m := by unfold MoM at h; unfold MoS; omega
def spMoments : Sp := fun vs H Q _ => ∃ (p c : Addr) (b many : Int), vs = [.ref p, .int many] ∧ Pen H p c b ∧ b ≤ 1000000000 ∧ 0 ≤ many ∧ many ≤ 100 ∧
  ∀ (H' : Hp) (l : Addr) (ms : List Mo), Kp p H H' → Pen H' p c (b + 2 + 3 * many) → H l = none → Ls H' l (ms.map mD) → ms.length = many.toNat → ms.Pairwise mLt → (∀ m ∈ ms, MoM m) → Q (.ref l) H'

section
variable {P : Program} {w : World} {K : PySem.W.Frag} {mg : Str → Option Value} {base : Heap}
theorem sc__law_moments : FnScope ["_law_pen_here", "_law_many", "_law_found", "_law_date", "_law_leaf", "_law_k", "_law_step"] ["_law_pen_here", "_law_many"] (defScope s__law_moments) := ⟨rfl, rfl, rfl, by decide +kernel, rfl, by decide +kernel, by decide +kernel⟩
theorem ok__law_moments {f : Addr} {fd : FuncData} (F : Fun K "_law_moments" "_law_moments" s__law_moments f fd) (m_range : mg "range" = none) (c__law_draw : C8.Cal P w K mg base 1 "_law_draw" spDraw []) : FnOk P w K mg base CX0 2 f fd ["_law_pen_here", "_law_many"] spMoments := by
  refine F.ok sc__law_moments (fun vs H Q E h => ?_) (fun cdv A outer s H vs Q E hr h => ?_)
  · obtain ⟨p, c, b, many, rfl, _⟩ := h; rfl
  · obtain ⟨p, c, b, many, rfl, pen, hb, m0, m1, k⟩ := h
    have hu := hu_of hr
    refine ⟨_, (pss_cons (ps_set (i := 2) sc__law_moments.nd rfl (Or.inl rfl) (pe_lst pa_nil))
      (pss_cons (ps_par (i := 3) (j := 4) rfl sc__law_moments.nd rfl rfl (by decide) rfl rfl (pa_cons (C8.pe_c c__law_draw hr (by decide) rfl (pa_cons (pv 0) (pa_cons pe_int pa_nil))) (pa_cons (pe_op op_add pe_int (C8.pe_c c__law_draw hr (by decide) rfl (pa_cons (pv 0) (pa_cons pe_int pa_nil)))) pa_nil)) (by rfl))
      (pss_cons (ps_for PassesOwn.never rfl (pi_range1 rfl m_range (pa_cons (pv 1) pa_nil)) (pg_name (i := 5) sc__law_moments.nd rfl (Or.inl rfl))
      (pss_cons (ps_expr (pe_bm PySem.F.plainAttrs_list PySem.F.slot_list_append PySem.F.type_list_append mt_append (pv 2) (pa_cons (pe_tup (pa_cons (pv 3) (pa_cons (pv 4) pa_nil))) pa_nil)))
      (pss_cons (ps_set (i := 6) sc__law_moments.nd rfl (Or.inl rfl) (pe_ix ix_list (pe_lst (pa_cons pe_int (pa_cons pe_int (pa_cons (C8.pe_c c__law_draw hr (by decide) rfl (pa_cons (pv 0) (pa_cons pe_int pa_nil))) pa_nil)))) (C8.pe_c c__law_draw hr (by decide) rfl (pa_cons (pv 0) (pa_cons pe_int pa_nil))) (fun _ _ => rfl)))
      (pss_cons (ps_set (i := 4) sc__law_moments.nd rfl (Or.inl rfl) (pe_ifExp (pt_cmpR op_eq (pv 6) pe_int (nomark _)) (pe_op op_add (pe_op op_add (pv 4) pe_int) (C8.pe_c c__law_draw hr (by decide) rfl (pa_cons (pv 0) (pa_cons pe_int pa_nil)))) (pe_op op_add pe_int (C8.pe_c c__law_draw hr (by decide) rfl (pa_cons (pv 0) (pa_cons pe_int pa_nil))))))
      (pss_one (ps_set (i := 3) sc__law_moments.nd rfl (Or.inl rfl) (pe_op op_add (pv 3) (pv 6))))))))
      (pss_one (ps_ret (pv 2)))))), ?_⟩
    refine ⟨Nat.zero_le _, fun F hF => ?_⟩
    have nF := pen.off hF
    refine ⟨_, rfl, p, c, b, 12, rfl, pen.put nF, by omega, by decide, by decide, fun H1 d0 k1 pen1 d00 d01 => ?_⟩
    refine ⟨_, rfl, p, c, _, 12, rfl, pen1, by omega, by decide, by decide, fun H2 f0 k2 pen2 f00 f01 => ?_⟩
    refine ⟨_, _, rfl, rfl, _, _, rfl, ?_⟩
    have k02 : Kp p (upd H F (.lst [])) H2 := k1.trans k2
    have hF2 : H2 F = some (.lst []) := k02 _ _ nF.1 upd_same
    refine ⟨_, rfl, _, rfl, by omega, by omega, for_range (lo := 0) (n := many.toNat) (fun i σ' H' => ∃ (d l : Int) (v5 v6 : Option V) (ms : List Mo), σ' = [some (.ref p), some (.int many), some (.ref F), some (.int d), some (.int l), v5, v6] ∧
        (∀ a o, a ≠ p → a ≠ F → H2 a = some o → H' a = some o) ∧ Pen H' p c (b + 2 + 3 * i) ∧ Ls H' F (ms.map mD) ∧ ms.length = i ∧ ms.Pairwise mLt ∧ (∀ m ∈ ms, MoM m) ∧ (∀ m ∈ ms, mLt m (d, l)) ∧
        0 ≤ d ∧ d ≤ 12 + 40 * i ∧ 1 ≤ l ∧ l ≤ 12 + 3 * i)
      ⟨d0, 1 + f0, none, none, [], rfl, fun a o _ _ e => e, pen2.up (by omega), ⟨_, hF2, .nil⟩, rfl, .nil, (fun m hm => by cases hm), (fun m hm => by cases hm), d00, by omega, by omega, by omega⟩ ?_ ?_⟩
    · rintro i σ3 H3 hi ⟨d, l, v5, v6, ms, rfl, k3, pen3, ⟨xs, hx, rx⟩, hl, hpw, hok, hlt, hd0, hd1, hl0, hl1⟩
      have hxl : xs.length = i := by rw [rx.len, List.length_map, hl]
      refine ⟨_, rfl, .inl ⟨rfl, _, SqL.of hx⟩, _, rfl, _, rfl, by show 2 ≤ sizeLine; decide, fun t ht => ?_⟩
      have nt := pen3.off ht
      have nFt : F ≠ t := ne_of_none hx ht
      refine ⟨F, _, _, rfl, rfl, by rw [upd_ne nFt]; exact hx, by rw [hxl]; exact small1000 (by omega), ?_⟩
      have pen4 : Pen (upd (upd H3 t (.tup [.int d, .int l])) F (.lst (xs ++ [.ref t]))) p c (b + 2 + 3 * i) := (pen3.put nt).put nF
      have tk4 : TK H3 (upd (upd H3 t (.tup [.int d, .int l])) F (.lst (xs ++ [.ref t]))) := (TK.new ht).trans (TK.put (u := .lst xs) (by rw [upd_ne nFt]; exact hx) (by intro z; exact nofun))
      -- _law_step
      refine ⟨_, rfl, p, c, _, 40, rfl, pen4, by omega, by decide, by decide, fun H5 r5 k5 pen5 r50 r51 => ?_⟩
      refine ⟨by show 3 ≤ sizeLine; decide, fun L hL => ?_⟩
      have nL := pen5.off hL
      refine ⟨_, rfl, p, c, _, 3, rfl, pen5.put nL, by omega, by decide, by decide, fun H6 r6 k6 pen6 r60 r61 => ?_⟩
      obtain ⟨st, est, hst⟩ := three_at 0 1 r5 r60 r61
      refine ⟨L, _, _, _, rfl, rfl, SqL.of (k6 _ _ nL.1 upd_same), est, ?_⟩
      have k46 : Kp p (upd (upd H3 t (.tup [.int d, .int l])) F (.lst (xs ++ [.ref t]))) H6 := k5.trans ((Kp.new hL).trans k6)
      have hF6 : H6 F = some (.lst (xs ++ [.ref t])) := k46 _ _ nF.1 upd_same
      have tk6 : TK H3 H6 := tk4.trans (pen4.tk k46)
      have ht6 : H6 t = some (.tup [.int d, .int l]) := k46 _ _ nt.1 (by rw [upd_ne nFt.symm, upd_same])
      have keep6 : ∀ a o, a ≠ p → a ≠ F → H2 a = some o → H6 a = some o := fun a o na nb e => by
        refine k46 _ _ na ?_
        have e3 := k3 a o na nb e
        rw [upd_ne nb, upd_ne (ne_of_none e3 ht)]; exact e3
      have ls6 : Ls H6 F ((ms ++ [(d, l)]).map mD) := ⟨_, hF6, by rw [List.map_append]; exact (rx.to tk6).snoc (Tp.mo (m := (d, l)) ht6)⟩
      have hst0 : 0 ≤ st ∧ st ≤ 40 := by omega
      have okm : ∀ m ∈ ms ++ [(d, l)], MoM m := fun m hm => by
        rcases List.mem_append.mp hm with h | h
        · exact hok m h
        · rw [List.mem_singleton] at h; subst h
          unfold MoM; simp only; omega
      have pwm : (ms ++ [(d, l)]).Pairwise mLt := List.pairwise_append.mpr ⟨hpw, List.pairwise_singleton _ _, fun a ha b hb => by
        rw [List.mem_singleton] at hb; subst hb; exact hlt a ha⟩
      have done : ∀ (H7 : Hp) (l' : Int), Kp p H6 H7 → Pen H7 p c (b + 2 + 3 * i + 3) → (mLt (d, l) (d + st, l')) → 1 ≤ l' → l' ≤ 12 + 3 * i + 3 →
          ∃ (d1 l1 : Int) (v5 v6 : Option V) (ms' : List Mo), ([some (.ref p), some (.int many), some (.ref F), some (.int (d + st)), some (.int l'), some (.int (0 + (i : Int))), some (.int st)] : List (Option V)) = [some (.ref p), some (.int many), some (.ref F), some (.int d1), some (.int l1), v5, v6] ∧
        (∀ a o, a ≠ p → a ≠ F → H2 a = some o → H7 a = some o) ∧ Pen H7 p c (b + 2 + 3 * ((i + 1 : Nat) : Int)) ∧ Ls H7 F (ms'.map mD) ∧ ms'.length = i + 1 ∧ ms'.Pairwise mLt ∧ (∀ m ∈ ms', MoM m) ∧ (∀ m ∈ ms', mLt m (d1, l1)) ∧
        0 ≤ d1 ∧ d1 ≤ 12 + 40 * ((i + 1 : Nat) : Int) ∧ 1 ≤ l1 ∧ l1 ≤ 12 + 3 * ((i + 1 : Nat) : Int) := fun H7 l' k7 pen7 hm hl' hl'' => by
        refine ⟨_, _, _, _, ms ++ [(d, l)], rfl, fun a o na nb e => k7 _ _ na (keep6 a o na nb e), pen7.up (by omega), ?_, by rw [List.length_append, hl]; rfl, pwm, okm, fun m hm' => ?_, by omega, by omega, by omega, by omega⟩
        · obtain ⟨ys, e1, e2⟩ := ls6
          exact ⟨ys, k7 _ _ nF.1 e1, e2.to (pen6.tk k7)⟩
        · rcases List.mem_append.mp hm' with h | h
          · exact (hlt m h).trans hm
          · rw [List.mem_singleton] at h; subst h; exact hm
      refine ⟨_, rfl, rfl, _, rfl, ite2 (fun h0 => ?_) (fun h0 => ?_)⟩
      · have e0 : st = 0 := by have := of_decide_eq_true h0; injection this
        refine ⟨_, rfl, _, _, rfl, rfl, _, rfl, p, c, _, 3, rfl, pen6, by omega, by decide, by decide, fun H7 r7 k7 pen7 r70 r71 => ?_⟩
        refine ⟨_, _, rfl, rfl, _, rfl, _, rfl, _, _, rfl, rfl, ?_⟩
        exact done H7 _ k7 (pen7.up (by omega)) (by unfold mLt; simp only; omega) (by omega) (by omega)
      · have e0 : ¬ st = 0 := fun z => h0 (by rw [z]; rfl)
        refine ⟨_, rfl, p, c, _, 12, rfl, pen6, by omega, by decide, by decide, fun H7 r7 k7 pen7 r70 r71 => ?_⟩
        refine ⟨_, _, rfl, rfl, _, rfl, _, rfl, _, _, rfl, rfl, ?_⟩
        exact done H7 _ k7 (pen7.up (by omega)) (by unfold mLt; simp only; omega) (by omega) (by omega)
    · rintro σ3 H3 ⟨d, l, v5, v6, ms, rfl, k3, pen3, ls, hl, hpw, hok, hlt, hd0, hd1, hl0, hl1⟩
      refine ⟨_, rfl, k H3 F ms (fun a o na e => ?_) (pen3.up (by omega)) hF ls hl hpw hok⟩
      have e1 : upd H F (.lst []) a = some o := by rw [upd_ne (ne_of_none e hF)]; exact e
      exact k3 a o na (ne_of_none e hF) (k02 _ _ na e1)
end
end KN


set_option Elab.async false
set_option linter.all false
set_option maxRecDepth 100000
set_option maxHeartbeats 4000000
namespace KN
open PySem L2
def isWB (s : Str) : Bool := decide (1 ≤ s.length) && decide (s.length ≤ 12) && (tl s).all fun c => decide (c ∈ tl letters)
theorem mem_letters (c : Nat) : c ∈ tl letters ↔ 97 ≤ c ∧ c ≤ 122 := by
  rw [tl_letters, List.mem_map]
  constructor
  · rintro ⟨k, hk, rfl⟩
    rw [List.mem_range] at hk; omega
  · intro h
    exact ⟨c - 97, List.mem_range.mpr (by omega), by omega⟩
theorem isWB_iff {s : Str} : isWB s = true ↔ IsW s := by
  unfold isWB IsW Lt
  rw [Bool.and_eq_true, Bool.and_eq_true, decide_eq_true_iff, decide_eq_true_iff, List.all_eq_true, slen]
  constructor
  · rintro ⟨⟨h1, h2⟩, h3⟩
    exact ⟨h1, h2, fun c hc => (mem_letters c).mp (of_decide_eq_true (h3 c hc))⟩
  · rintro ⟨h1, h2, h3⟩
    exact ⟨⟨h1, h2⟩, fun c hc => decide_eq_true ((mem_letters c).mpr (h3 c hc))⟩

def spNumber (K : PySem.W.Frag) : Sp := fun vs H Q _ => ∃ (v : V) (lo hi : Int), vs = [v, .int lo, .int hi] ∧
  ((∃ i, v = .int i ∧ Q (.bl (decide (lo ≤ i) && decide (i ≤ hi))) H) ∨ (∃ b, v = .bl b ∧ Q (.bl false) H) ∨ ∃ t, TyX K H v t ∧ PySem.W.kitOne K t (.type "int") = some false ∧ Q (.bl false) H)
def spWord (K : PySem.W.Frag) : Sp := fun vs H Q _ => ∃ v : V, vs = [v] ∧
  ((∃ s, v = .str s ∧ s.length ≤ sizeLine ∧ ∀ H', Same H H' → Q (.bl (isWB s)) H') ∨ ∃ t, TyX K H v t ∧ PySem.W.kitOne K t (.type "str") = some false ∧ Q (.bl false) H)
def spMoment : Sp := fun vs H Q _ => ∃ (a : Addr) (m : Mo), vs = [.ref a] ∧ H a = some (.tup [.int m.1, .int m.2]) ∧ MoOk m ∧ Q (.bl true) H
def spList : Sp := fun vs H Q _ => ∃ a, vs = [.ref a] ∧ ((∃ xs, H a = some (.tup xs)) ∨ ∃ xs, H a = some (.lst xs)) ∧ ∀ H', Same H H' → Q (.bl true) H'
/-- one sheet in a tuple -/
def SheetsOk (ss : List Str) : Prop := ss ≠ [] ∧ ss.length ≤ 60 ∧ ss.Nodup ∧ ∀ s ∈ ss, IsW s
def spSheets : Sp := fun vs H Q _ => ∃ (a : Addr) (ss : List Str), vs = [.ref a] ∧ H a = some (.tup (ss.map V.str)) ∧ SheetsOk ss ∧ ∀ H', Same H H' → Q (.bl true) H'
def spSheets1 : Sp := fun vs H Q _ => ∃ (a : Addr) (s : Str), vs = [.ref a] ∧ H a = some (.tup [.str s]) ∧ IsW s ∧ ∀ H', Same H H' → Q (.bl true) H'
/-- up to a pair -/
def upB (m : Mo) : Option Mo → Bool
  | none => true
  | some u => decide (m.1 < u.1 ∨ m.1 = u.1 ∧ m.2 ≤ u.2)
def UpV (H : Hp) (v : V) : Option Mo → Prop
  | none => v = .non
  | some u => ∃ a, v = .ref a ∧ H a = some (.tup [.int u.1, .int u.2])
theorem UpV.to {H H' : Hp} {v : V} {u : Option Mo} (h : UpV H v u) (k : TK H H') : UpV H' v u := by
  cases u with
  | none => exact h
  | some u => obtain ⟨a, e, h⟩ := h; exact ⟨a, e, k _ _ h⟩
def spThere : Sp := fun vs H Q _ => ∃ (a : Addr) (m : Mo) (v : V) (u : Option Mo), vs = [.ref a, v] ∧ H a = some (.tup [.int m.1, .int m.2]) ∧ UpV H v u ∧ Q (.bl (upB m u)) H
/-- a new moment beside a dict by moments: nothing is raised -/
def spNew : Sp := fun vs H Q _ => ∃ (a d : Addr) (m : Mo) (kvs : List (List Key × V)), vs = [.ref a, .ref d] ∧ H a = some (.tup [.int m.1, .int m.2]) ∧ MoOk m ∧ H d = some (.dT kvs) ∧ valV kvs (mK m) = none ∧ Q .non H
def spMissing : Sp := fun vs H Q _ => ∃ (a d : Addr) (m : Mo) (kvs : List (List Key × V)), vs = [.ref a, .ref d] ∧ H a = some (.tup [.int m.1, .int m.2]) ∧ MoOk m ∧ H d = some (.dT kvs) ∧ (valV kvs (mK m)).isSome = true ∧ Q .non H
theorem lex2 (m u : Mo) : Ob.lexAt (fun j => decide (([m.1, m.2] : List Int).getD j 0 = ([u.1, u.2] : List Int).getD j 0)) (fun j => decide (([m.1, m.2] : List Int).getD j 0 ≤ ([u.1, u.2] : List Int).getD j 0)) (decide (([m.1, m.2] : List Int).length ≤ ([u.1, u.2] : List Int).length)) 0 (min ([m.1, m.2] : List Int).length ([u.1, u.2] : List Int).length) = decide (m.1 < u.1 ∨ m.1 = u.1 ∧ m.2 ≤ u.2) := by
  show Ob.lexAt _ _ _ 0 2 = _
  rw [Ob.lexAt_succ, Ob.lexAt_succ, Ob.lexAt_zero]
  simp only [List.getD_cons_zero, List.getD_cons_succ, List.length_cons, List.length_nil]
  by_cases h1 : m.1 = u.1
  · rw [decide_eq_true h1, if_pos rfl]
    by_cases h2 : m.2 = u.2
    · rw [decide_eq_true h2, if_pos rfl]
      rw [decide_eq_true (by omega : (0 + 1 + 1 ≤ 0 + 1 + 1))]
      exact (decide_eq_true (by omega)).symm
    · rw [decide_eq_false h2, if_neg (by decide)]
      by_cases h3 : m.2 ≤ u.2
      · rw [decide_eq_true h3]; exact (decide_eq_true (by omega)).symm
      · rw [decide_eq_false h3]; exact (decide_eq_false (by omega)).symm
  · rw [decide_eq_false h1, if_neg (by decide)]
    by_cases h3 : m.1 ≤ u.1
    · rw [decide_eq_true h3]; exact (decide_eq_true (by omega)).symm
    · rw [decide_eq_false h3]; exact (decide_eq_false (by omega)).symm

section
variable {P : Program} {w : World} {K : PySem.W.Frag} {mg : Str → Option Value} {base : Heap}
theorem sc_is_number : FnScope ["thing", "low", "high"] ["thing", "low", "high"] (defScope s_is_number) := ⟨rfl, rfl, rfl, by decide +kernel, rfl, by decide +kernel, by decide +kernel⟩
theorem ok_is_number {f : Addr} {fd : FuncData} (F : Fun K "is_number" "is_number" s_is_number f fd) (m_isinstance : mg "isinstance" = none) (m_int : mg "int" = none) (m_bool : mg "bool" = none) : FnOk P w K mg base CX0 1 f fd ["thing", "low", "high"] (spNumber K) := by
  refine F.ok sc_is_number (fun vs H Q E h => ?_) (fun cdv A outer s H vs Q E hr h => ?_)
  · obtain ⟨v, lo, hi, rfl, _⟩ := h; rfl
  · obtain ⟨v, lo, hi, rfl, h⟩ := h
    refine ⟨_, (pss_one (ps_ret (pe_and (pe_callB call_isi (by rfl) m_isinstance (by decide +kernel) (pa_cons (pv 0) (pa_cons (pe_bltn (v := .ty "int") (u := .type "int") rfl m_int (by decide +kernel) rfl) pa_nil))) (pe_and (pe_not (pe_callB call_isi (by rfl) m_isinstance (by decide +kernel) (pa_cons (pv 0) (pa_cons (pe_bltn (v := .ty "bool") (u := .type "bool") rfl m_bool (by decide +kernel) rfl) pa_nil)))) (pe_one (pe_chain op_le op_le (pv 1) (pv 0) (pv 2))))))), ?_⟩
    rcases h with ⟨i, rfl, k⟩ | ⟨b, rfl, k⟩ | ⟨t, ht, hk, k⟩
    · refine ⟨_, rfl, _, _, _, _, true, rfl, .ty _, .base (.int _), kit_ty (by decide +kernel), _, rfl, iteT ?_⟩
      refine ⟨_, rfl, _, _, _, _, false, rfl, .ty _, .base (.int _), kit_ty (by decide +kernel), _, rfl, _, rfl, iteT ?_⟩
      refine ⟨_, rfl, _, rfl, _, _, rfl, rfl, _, rfl, ite2 (fun h1 => ?_) (fun h1 => ?_)⟩
      · refine ⟨_, rfl, _, _, rfl, rfl, ?_⟩
        rw [h1] at k; exact k
      · rw [Bool.eq_false_iff.mpr h1] at k; exact k
    · refine ⟨_, rfl, _, _, _, _, true, rfl, .ty _, .base (.bl _), kit_ty (by decide +kernel), _, rfl, iteT ?_⟩
      refine ⟨_, rfl, _, _, _, _, true, rfl, .ty _, .base (.bl _), kit_ty (by decide +kernel), _, rfl, _, rfl, iteF ?_⟩
      exact k
    · refine ⟨_, rfl, _, _, _, _, false, rfl, .ty _, ht, hk, _, rfl, iteF ?_⟩
      exact k
theorem sc_is_word : FnScope ["thing", "sign"] ["thing"] (defScope s_is_word) := ⟨rfl, rfl, rfl, by decide +kernel, rfl, by decide +kernel, by decide +kernel⟩
theorem ok_is_word {f : Addr} {fd : FuncData} (F : Fun K "is_word" "is_word" s_is_word f fd) (m_isinstance : mg "isinstance" = none) (m_str : mg "str" = none) (m_len : mg "len" = none) (m_all : mg "all" = none)
    (g_MOST_LETTERS : ∃ u, mg "MOST_LETTERS" = some u ∧ RelV (.int 12) u) (g_LETTERS : ∃ u, mg "LETTERS" = some u ∧ RelV (.str letters) u) : FnOk P w K mg base CX0 1 f fd ["thing"] (spWord K) := by
  refine F.ok sc_is_word (fun vs H Q E h => ?_) (fun cdv A outer s H vs Q E hr h => ?_)
  · obtain ⟨v, rfl, _⟩ := h; rfl
  · obtain ⟨v, rfl, h⟩ := h
    refine ⟨_, (pss_cons (ps_if (PW.pt (pw_or (pt_not (pt_val (pe_callB call_isi (by rfl) m_isinstance (by decide +kernel) (pa_cons (pv 0) (pa_cons (pe_bltn (v := .ty "str") (u := .type "str") rfl m_str (by decide +kernel) rfl) pa_nil))))) (pw_or1 (pt_not (pt_chain op_le op_le pe_int (pe_callB call_len_str (by rfl) m_len (by decide +kernel) (pa_cons (pv 0) pa_nil)) (C8.pe_gc rfl g_MOST_LETTERS)))))) (pss_one (ps_ret pe_bl)) pss_nil)
      (pss_one (ps_ret (pe_callB (cr_all rfl) (by rfl) m_all (by decide +kernel) (pa_cons (pe_lc (own := [("sign", 1)]) (g := gName 1) (tt := tYes) rfl sc_is_word.nd (pi_str (pv 0)) (blkOk_by (own := [("sign", 1)]) (N := ["thing", "sign"]) (sc := defScope s_is_word) (by decide +kernel)) (fun _ _ _ _ _ => pg_name (i := 1) sc_is_word.nd rfl (Or.inl rfl)) (fun _ _ _ _ _ => pts_nil) (fun _ _ _ _ _ => (pe_cmpR op_in_sign (pv 1) (C8.pe_gc rfl g_LETTERS) rfl))) pa_nil))))), ?_⟩
    rcases h with ⟨z, rfl, hz, k⟩ | ⟨t, ht, hk, k⟩
    · refine ⟨_, rfl, _, _, _, _, true, rfl, .ty _, .base (.str _), kit_ty (by decide +kernel), _, rfl, iteF ?_⟩
      refine ⟨_, rfl, _, rfl, hz, _, _, rfl, rfl, _, rfl, ?_⟩
      have go : 1 ≤ z.length ∧ z.length ≤ 12 ∨ ¬ (1 ≤ z.length ∧ z.length ≤ 12) := Decidable.em _
      rcases go with h1 | h1
      · rw [decide_eq_true (by have := h1.1; omega : (1 : Int) ≤ (z.length : Int))]
        refine iteT ⟨_, _, rfl, rfl, _, rfl, ?_⟩
        rw [decide_eq_true (by have := h1.2; omega : (z.length : Int) ≤ 12)]
        refine iteF ?_
        -- all([..])
        refine ⟨_, rfl, _, rfl, fun D hD => ?_⟩
        refine lc_it walk_str (fun i H' => Same H H' ∧ ∃ bs : List Bool, H' D = some (.lst (bs.map V.bl)) ∧ bs = ((tl z).take i).map fun c => decide (c ∈ tl letters))
          ⟨Same.new hD, [], upd_same, by rw [List.take_zero]; rfl⟩ (fun _ _ _ _ => trivial) ?_ ?_
        · rintro i x H1 H2 hi ⟨s1, bs, e1, e2⟩ ⟨rfl, c, hc, rfl⟩
          have hc' : (tl z)[i]? = some c := by show z.cps.toList[i]? = _; rw [Array.getElem?_toList]; exact hc
          have hlen : bs.length ≤ 12 := by rw [e2, List.length_map]; exact Nat.le_trans (List.length_take_le' _ _) (by rw [← slen]; exact h1.2)
          refine ⟨rfl, _, rfl, c, _, rfl, rfl, _, e1, by rw [List.length_map]; exact small1000 (by omega), fun b o e => ?_, bs ++ [decide (c ∈ tl letters)], by rw [upd_same, List.map_append]; rfl, ?_⟩
          · rw [upd_ne (ne_of_none e hD)]; exact s1 _ _ e
          · rw [List.take_add_one, hc', e2, Option.toList_some, List.map_append]; rfl
        · rintro H1 ⟨s1, bs, e1, e2⟩
          refine ⟨D, bs, rfl, SqL.of e1, ?_⟩
          have e3 : bs.all id = isWB z := by
            rw [e2, show z.cps.size = (tl z).length from (Array.length_toList).symm, List.take_of_length_le (Nat.le_refl _), List.all_map]
            unfold isWB
            rw [decide_eq_true h1.1, decide_eq_true h1.2]; rfl
          rw [e3]; exact k _ s1
      · have e0 : isWB z = false := by
          unfold isWB
          rcases Nat.lt_or_ge z.length 1 with h | h
          · rw [decide_eq_false (by omega : ¬ 1 ≤ z.length)]; rfl
          · rw [decide_eq_false (fun q => h1 ⟨h, q⟩ : ¬ z.length ≤ 12), Bool.and_false]; rfl
        refine ite2 (fun h => ?_) (fun h => ?_)
        · have h' := of_decide_eq_true h
          refine ⟨_, _, rfl, rfl, _, rfl, ?_⟩
          rw [decide_eq_false (fun q => h1 ⟨by omega, by omega⟩ : ¬ (z.length : Int) ≤ 12)]
          refine iteT ?_
          have := k H (Same.refl H)
          rw [e0] at this; exact this
        · refine ⟨_, rfl, ?_⟩
          refine iteT ?_
          have := k H (Same.refl H)
          rw [e0] at this; exact this
    · refine ⟨_, rfl, _, _, _, _, false, rfl, .ty _, ht, hk, _, rfl, iteT ?_⟩
      exact iteT k
end
end KN


set_option Elab.async false
set_option linter.all false
set_option maxRecDepth 100000
set_option maxHeartbeats 4000000
/-! Own rules: own exception classes over KeyError, LookupError, RuntimeError, ValueError, each with an __init__ of its own that stores. -/
namespace KN
open PySem PySem.Spec PyProof.Rows L2
/-- what a class's line beneath the class itself must say: made as B is -/
structure LineOk (B : String) (bm : List Value) : Prop where
  base : bm.contains (.type B) = true
  plainA : bm.contains (.type "AttributeError") = false
  plainN : bm.contains (.type "NameError") = false
  top : bm.contains (.type "object") = true
  some_ : bm.isEmpty = false
  pass : ∀ self : Value, refuseLoop self "__setattr__" bm = pure ()
theorem key_line : LineOk "LookupError" keyLine := ⟨by decide +kernel, by decide +kernel, by decide +kernel, by decide +kernel, rfl, fun self => by kernel_rfl⟩
theorem look_line : LineOk "LookupError" lookLine := ⟨by decide +kernel, by decide +kernel, by decide +kernel, by decide +kernel, rfl, PySem.F.store_LookupError.passes⟩
theorem run_line : LineOk "RuntimeError" runLine := ⟨by decide +kernel, by decide +kernel, by decide +kernel, by decide +kernel, rfl, PySem.F.store_RuntimeError.passes⟩
theorem val_line : LineOk "ValueError" valLine := ⟨by decide +kernel, by decide +kernel, by decide +kernel, by decide +kernel, rfl, PySem.F.store_ValueError.passes⟩
/-- how a class is made: by the __new__ named, along the line -/
inductive MadeBy : String → List Value → Prop where
  | mk {B nw ini : String} {bmB bm : List Value} (F : ExcBaseFacts B nw ini bmB) (L : LineOk B bm) : MadeBy nw bm
theorem key_made : MadeBy "LookupError.__new__" keyLine := .mk PySem.F.excBase_LookupError key_line
theorem look_made : MadeBy "LookupError.__new__" lookLine := .mk PySem.F.excBase_LookupError look_line
theorem run_made : MadeBy "RuntimeError.__new__" runLine := .mk PySem.F.excBase_RuntimeError run_line
theorem val_made : MadeBy "ValueError.__new__" valLine := .mk PySem.F.excBase_ValueError val_line
section
variable {prog : Program} {w : World} {A : Around} {Er : Value → Shared → Prop} {hp : Heap} {gs : Array GenState} {dr : Drawn} {tk : Nat} {os : OsState} {C N : Addr} {nm qn : Str} {bs bm bmB : List Value} {hd ab : Bool} {sn : List Str} {sb : List Value} {col : Option Bool} {dd : Option Addr} {k0 k1 k2 k3 k5 : Option Value} {B nw ini : String}
theorem mk_check {M : Model} (F : ExcBaseFacts B nw ini bmB) (L : LineOk B bm) {us : List Value} {Qu : Unit → Shared → Prop} (at_ : hp.get? C = some (excClassObj nm qn C N bs bm hd sn sb ab col dd k0 k1 k2 k3 k5 nw)) (fin : Qu () ⟨hp, gs, dr, tk, os⟩) :
    wpAny M A (checkBuiltinCall nw ⟨.ref C :: us, []⟩) Qu Er ⟨hp, gs, dr, tk, os⟩ := by
  have inB : (Value.ref C :: bm).contains (.type B) = true := by
    rw [List.contains_cons, L.base]
    exact Bool.or_true _
  have star := F.noStar
  unfold checkBuiltinCall
  rw [F.newKind, F.newSplit]
  simp only [F.newRow]
  repeat first
    | refine wpAny_loadPart_at at_ ?_
    | (refine wpAny_isSubtype_exc at_ ?_
       rw [inB])
    | refine wpAny_staticBase_exc at_ ?_
    | refine wpAny_madeBy_exc at_ ?_
    | simp only [bne_self_eq_false, Bool.false_eq_true, if_false]
    | wp_step
  exact fin
/-- .. the object made: its args a fresh tuple -/
theorem mk_new (F : ExcBaseFacts B nw ini bmB) (L : LineOk B bm) {us : List Value} {Rs : Result → Shared → Prop} (at_ : hp.get? C = some (excClassObj nm qn C N bs bm hd sn sb ab col dd k0 k1 k2 k3 k5 nw)) (few : us.length ≤ sizeLine)
    (fin : Rs (.ok (.ret (.ref (hp.objs.size + 1)))) ⟨(hp.push (PySem.W.kdv_tup us)).push (PySem.HandSPX.excO C hp.objs.size), gs, dr, tk, os⟩) :
    codeAny (model prog w) A (.builtin nw ⟨.ref C :: us, []⟩) Rs ⟨hp, gs, dr, tk, os⟩ := by
  have has : ∀ {X : String} {r : Bool}, bm.contains (.type X) = r → (Value.ref C :: bm).contains (.type X) = r := fun {X r} z => by
    rw [List.contains_cons, z]
    exact Bool.false_or _
  have yesB := has L.base
  have notA := has L.plainA
  have notN := has L.plainN
  have ends_ := F.ends
  apply codeAny_builtinAt F.entry
  unfold Builtin.«BaseException.__new__»; apply PySem.wpAt_bind
  show PySem.wpAt _ _ _ (stack >>= _) _ _ _
  apply PySem.wpAt_bind; refine PySem.wpAt_stack fun p1 p2 => PySem.wpAt_of_wpAny ?_
  wp_walk
  apply PySem.wpAt_of_wpAny
  rw [F.owner]
  repeat first
    | with_reducible refine wpAny_madeHere_exc F.canon at_ ?_
    | with_reducible refine wpAny_loadPart_at at_ ?_
    | (with_reducible refine wpAny_isSubtype_exc at_ ?_
       first
         | rw [yesB]
         | rw [notA]
         | rw [notN])
    | wp_step
  show Rs _ _
  rw [Heap.size_push]
  exact fin
/-- what is known of a class's own __init__ -/
structure InitAt (prog : Program) (w : World) (hp : Heap) (C fI : Addr) : Prop where
  found : PySem.W.Looks (model prog w) hp (typeLookup (.ref C) "__init__") (some (.ref fI))
  bound : ∀ v, PySem.W.Looks (model prog w) hp (bindSpecial (.ref fI) v) (.ref fI, [v])
theorem mk_type (F : ExcBaseFacts B nw ini bmB) (L : LineOk B bm) {us : List Value} {fI : Addr} {Qf : Fin → Shared → Prop} (at_ : hp.get? C = some (excClassObj nm qn C N bs bm hd sn sb ab col dd k0 k1 k2 k3 k5 nw)) (ia : InitAt prog w hp C fI) (few : us.length ≤ sizeLine)
    (run : codeAny (model prog w) A (.call (.ref fI) ⟨.ref (hp.objs.size + 1) :: us, []⟩) (fun r t => match r with | .error e => Er e t | .ok (.ret v) => v = .none ∧ Qf (.done (.ret (.ref (hp.objs.size + 1)))) t | .ok _ => False)
      ⟨(hp.push (PySem.W.kdv_tup us)).push (PySem.HandSPX.excO C hp.objs.size), gs, dr, tk, os⟩) :
    wpAny (model prog w) A (Builtin.«type.__call__» ⟨.ref C :: us, []⟩) Qf Er ⟨hp, gs, dr, tk, os⟩ := by
  repeat first
    | with_reducible refine wpAny_loadPart_at at_ ?_
    | with_reducible refine wpAny_madeBy_exc at_ ?_
    | wp_step
  apply codeAny_call_builtin_code (Code.quiet_builtin _ F.quiet)
  apply mk_check F L at_
  refine mk_new F L at_ few (?_ : wpAny _ _ _ _ _ _)
  have grown : ∀ (b : Addr) (o : Obj), hp.get? b = some o → ((hp.push (PySem.W.kdv_tup us)).push (PySem.HandSPX.excO C hp.objs.size)).get? b = some o := fun b o e => Heap.get?_push_of_some _ (Heap.get?_push_of_some _ e)
  have at2 := grown _ _ at_
  have self_ : ((hp.push (PySem.W.kdv_tup us)).push (PySem.HandSPX.excO C hp.objs.size)).get? (hp.objs.size + 1) = some (PySem.HandSPX.excO C hp.objs.size) := by heap_get
  have own : (Value.ref C :: bm).contains (.ref C) = true := by simp
  have l1 := ia.found.keeps grown
  have l2 := (ia.bound (.ref (hp.objs.size + 1))).keeps grown
  unfold isInstance
  repeat first
    | with_reducible refine wpAny_loadPart_at self_ ?_
    | (with_reducible refine wpAny_isSubtype_exc at2 ?_
       rw [own])
    | wp_step
  show wpAny _ _ (typeLookup (.ref C) _) _ _ _
  refine l1.at (wpAny_holding (wpAny_bind (l2.at (wpAny_bind (wpAny_call (codeAny_mono run fun r t z => ?_))))))
  match r, z with
  | .error e, z => exact z
  | .ok (.ret v), ⟨e, z⟩ =>
    subst e
    first
      | exact wpAny_pure (wpAny_pure z)
      | (wp_walk; exact z)
theorem mk_call (F : ExcBaseFacts B nw ini bmB) (L : LineOk B bm) {us : List Value} {fI : Addr} {Rs : Result → Shared → Prop} (at_ : hp.get? C = some (excClassObj nm qn C N bs bm hd sn sb ab col dd k0 k1 k2 k3 k5 nw)) (ia : InitAt prog w hp C fI) (few : us.length ≤ sizeLine)
    (run : codeAny (model prog w) (A.under (.builtin "type.__call__" ⟨.ref C :: us, []⟩)) (.call (.ref fI) ⟨.ref (hp.objs.size + 1) :: us, []⟩) (PySem.W.InitBack (hp.objs.size + 1) Rs)
      ⟨(hp.push (PySem.W.kdv_tup us)).push (PySem.HandSPX.excO C hp.objs.size), gs, dr, tk, os⟩) :
    codeAny (model prog w) A (.call (.ref C) ⟨us, []⟩) Rs ⟨hp, gs, dr, tk, os⟩ := by
  have ty : (⟨hp, gs, dr, tk, os⟩ : Shared).TypeIs (.ref C) "type" := ⟨_, at_, rfl⟩
  have c1 := tc_lookup
  have c2 := tc_bind (.ref C)
  apply codeAny_of_tree
  show wpAny _ _ (callAny (.ref C) _) _ _ _
  repeat any_goals first
    | assumption
    | with_reducible refine wpAny_loadPart_at at_ ?_
    | wp_step
  refine ⟨rfl, codeAny_call_builtin_at (Code.quiet_builtin _ (by decide +kernel)) entry_typeCall (wpAny_check_type_call_sub at_ (mk_type F L at_ ia few ?_))⟩
  refine codeAny_mono run fun r t z => ?_
  match r, z with
  | .error e, z => exact z
  | .ok (.ret v), z => exact z
end
section
open Builtin Builtin.ObjectAttr
variable {prog : Program} {w : World} {A : Around} {Rs : Result → Shared → Prop} {hp : Heap} {gs : Array GenState} {dr : Drawn} {tk n0 : Nat} {os : OsState} {K : PySem.W.Frag} {x C : Addr} {name : Str} {v : Value} {cd : ClassData} {bm : List Value} {B : String}
theorem put_core {ox : Obj} {od : Option Obj} (X : K.In hp) (I : PySem.W.InstAt hp x ox C od) (known : PySem.W.clsIn K C = some cd) (line : cd.mro = .ref C :: bm) (L : LineOk B bm) (plain : PySem.W.findIn K (.ref C) name = some none)
    (go : wpAny (model prog w) A.in1 (storeInOwnDict (.ref x) (.ref C) (.str name n0) name v false) (fun f t => match f with | .done r => Rs (.ok r) t | .again c => c.quiet = true ∧ codeAny (model prog w) A c Rs t) (fun e t => Rs (.error e) t) ⟨hp, gs, dr, tk, os⟩) :
    codeAny (model prog w) A (.call (.builtin "object.__setattr__") ⟨[.ref x, .str name n0, v], []⟩) Rs ⟨hp, gs, dr, tk, os⟩ := by
  have SO := PySem.F.store_object
  have isO : PySem.W.mroIn K C (.type "object") = some true := by
    unfold PySem.W.mroIn
    rw [known, Option.bind_some, line]
    rw [if_neg (by simp), List.contains_cons, L.top]
    exact congrArg some (Bool.or_true _)
  have below : PySem.W.Looks (model prog w) hp (isInstance (.ref x) (.type "object")) true := I.type.andThen (PySem.W.looks_mroIn X isO)
  have pass : refuseLoop (.ref x) "__setattr__" cd.mro = pure () := by
    rw [line, refuseLoop_ref, L.pass]
  apply codeAny_call_builtin SO.slot.plain SO.entry
  apply @PySem.W.check_slot (model prog w) _ _ ⟨hp, gs, dr, tk, os⟩ "object.__setattr__" "object" "__setattr__" (.ref x) [.str name n0, v] [] _ SO.kind SO.split below (SO.args (.ref x) (.str name n0) v)
  have m1 : PySem.W.Looks (model prog w) hp (mroOf (.ref C)) cd.mro := (PySem.W.looks_clsIn X known).andThen .now
  have m2 : PySem.W.Looks (model prog w) hp (storeTaker? none) none := .now
  rw [PySem.W.osa_eq, refuse_eq]
  refine wpAny_bind (wpAny_bind (I.type.at (wpAny_bind (m1.at (?_ : wpAny _ _ (refuseLoop _ _ _) _ _ _)))))
  rw [pass]
  exact wpAny_pure (wpAny_bind (I.type.at (wpAny_bind ((PySem.W.looks_findIn X plain).at (wpAny_bind (m2.at go))))))
/-- the first field: the dict is laid -/
theorem put_first {fv : Array Value} (X : K.In hp) (at_ : hp.get? x = some { cls := .ref C, data := .fields fv }) (known : PySem.W.clsIn K C = some cd) (line : cd.mro = .ref C :: bm) (L : LineOk B bm) (dict : cd.hasDict = true) (plain : PySem.W.findIn K (.ref C) name = some none)
    (fin : ∀ h2 t2 dx, (∀ b o, b ≠ x → hp.get? b = some o → h2.get? b = some o) → hp.objs.size ≤ dx → dx ≠ x → h2.get? x = some { cls := .ref C, dict := some dx, data := .fields fv } → h2.Ns1 dx (fun y => if y = name then some v else none) → Rs (.ok (.ret .none)) ⟨h2, gs, dr, t2, os⟩) :
    codeAny (model prog w) A (.call (.builtin "object.__setattr__") ⟨[.ref x, .str name n0, v], []⟩) Rs ⟨hp, gs, dr, tk, os⟩ := by
  have inst : PySem.W.InstAt hp x { cls := .ref C, data := .fields fv } C none := ⟨at_, rfl, rfl, trivial⟩
  have apart : x ≠ hp.objs.size := Nat.ne_of_lt (Heap.lt_size at_)
  refine put_core X inst known line L plain ?_
  have look : PySem.W.Looks (model prog w) hp (classData C) cd := PySem.W.looks_clsIn X known
  cases cd with
  | mk nm bs mro ns qn hd sn sb ab col del =>
    dsimp only at dict
    cases dict
    unfold storeInOwnDict ownDictForStores
    repeat first
      | with_reducible refine PySem.HandSPX.store_in_new ?_ ?_
      | with_reducible refine wpAny_loadPart_at at_ ?_
      | with_reducible refine look.at ?_
      | wp_step
    · refine ⟨_, #[], _, ((Heap.get?_update_ne _ _ _ _ apart.symm).trans (Heap.get?_push_at rfl rfl)), rfl, (fun e h => ?_), fun _ => rfl⟩
      exact absurd h (by simp)
    · intro h2 t2 ns2 same
      have at2 : (hp.push { cls := .type "dict", data := .dict #[] }).get? x = some { cls := .ref C, data := .fields fv } := Heap.get?_push_of_some _ at_
      refine fin h2 t2 hp.objs.size ?_ (Nat.le_refl _) apart.symm ((same.2 x apart).trans (Heap.get?_update_self _ at2 rfl)) ns2
      intro b o nb ob
      exact (same.2 b (Nat.ne_of_lt (Heap.lt_size ob))).trans ((Heap.get?_update_ne _ _ _ _ nb).trans (Heap.get?_push_of_some _ ob))
/-- a further field -/
theorem put_more {fv : Array Value} {dx : Addr} {m0 : Str → Option Value} {nl : List Str} (X : K.In hp) (at_ : hp.get? x = some { cls := .ref C, dict := some dx, data := .fields fv }) (ns : hp.Ns1 dx m0) (within : Within m0 nl) (few : nl.length ≤ 1000) (known : PySem.W.clsIn K C = some cd) (line : cd.mro = .ref C :: bm) (L : LineOk B bm) (dict : cd.hasDict = true) (plain : PySem.W.findIn K (.ref C) name = some none)
    (fin : ∀ h2 t2, (∀ b o, b ≠ dx → hp.get? b = some o → h2.get? b = some o) → h2.Ns1 dx (fun y => if y = name then some v else m0 y) → Rs (.ok (.ret .none)) ⟨h2, gs, dr, t2, os⟩) :
    codeAny (model prog w) A (.call (.builtin "object.__setattr__") ⟨[.ref x, .str name n0, v], []⟩) Rs ⟨hp, gs, dr, tk, os⟩ := by
  obtain ⟨od, _, _, hod, _, _⟩ := ns.count within
  have inst : PySem.W.InstAt hp x { cls := .ref C, dict := some dx, data := .fields fv } C (some od) := ⟨at_, rfl, rfl, hod⟩
  refine put_core X inst known line L plain ?_
  have look : PySem.W.Looks (model prog w) hp (classData C) cd := PySem.W.looks_clsIn X known
  cases cd with
  | mk nm bs mro ns_ qn hd sn sb ab col del =>
    dsimp only at dict
    cases dict
    unfold storeInOwnDict ownDictForStores
    repeat first
      | with_reducible refine PySem.OEX.store_in_old ns within few ?_
      | with_reducible refine wpAny_loadPart_at at_ ?_
      | with_reducible refine look.at ?_
      | wp_step
    intro h2 t2 ns2 same
    exact fin h2 t2 (fun b o nb ob => (same.2 b nb).trans ob) ns2
end
end KN

set_option Elab.async false
set_option linter.all false
set_option maxRecDepth 100000
set_option maxHeartbeats 4000000
/-! Own rules: own exceptions in the hand layer's words. -/
namespace KN
open PySem PySem.Spec PyProof.Rows L2
/-- C is an own exception class, made and stored into plainly -/
structure OexG (K : PySem.W.Frag) (C : Addr) : Prop where
  made : ∃ nm qn N bs bm sn sb ab col dd k0 k1 k2 k3 k5 nw, K.lookup C = some (excClassObj nm qn C N bs bm true sn sb ab col dd k0 k1 k2 k3 k5 nw) ∧ MadeBy nw bm
  store : PySem.W.findIn K (.ref C) "__setattr__" = some (some (.builtin "object.__setattr__"))
  below : PySem.W.subIn K (.ref C) (.type "BaseException") = some true
  type_ : PySem.W.typeIn K (.ref C) = some (.type "type")
  keep : PySem.W.keepIn K (.ref C) = true
section
variable {X : Cx} {pins : List (Addr × Obj)} {σ : L2.St} {H : Hp} {s : Shared} {a C dx : Addr} {f : Str} {y : V} {u : Value} {fs : List (Str × V)} {Qu : Unit → Shared → Prop} {Er : Value → Shared → Prop} {A : Around}
theorem OexG.cd (T : OexG X.K C) : ∃ (cd : ClassData) (bm : List Value) (B : String), PySem.W.clsIn X.K C = some cd ∧ cd.mro = .ref C :: bm ∧ cd.hasDict = true ∧ LineOk B bm := by
  obtain ⟨nm, qn, N, bs, bm, sn, sb, ab, col, dd, k0, k1, k2, k3, k5, nw, look, mb⟩ := T.made
  cases mb with
  | mk F L => exact ⟨_, bm, _, by unfold PySem.W.clsIn; rw [look] <;> rfl, rfl, rfl, L⟩
theorem put_new (T : OexG X.K C) (I : Inv X pins σ H s) (here : H a = some (exo a C none)) (plain : PySem.W.findIn X.K (.ref C) f = some none) (ru : RelV y u)
    (go : ∀ dx t, H dx = none → dx ≠ a → Inv X pins σ (upd (upd H dx (exd dx [(f, y)])) a (exo a C (some dx))) t → Qu () t) : wpAny (model X.prog X.w) A (setAttr (.ref a) f u) Qu Er s := by
  obtain ⟨cd, bm, B, known, line, dict, L⟩ := T.cd
  obtain ⟨t1, obj⟩ := exo_at I.hok here
  obtain ⟨hp, gs, dr, tk, os⟩ := s
  apply PySem.W.set_plain I.kIn (ox := { cls := .ref C, dict := none, data := .fields #[.ref t1, .none, .none, .none, .bool false, .none] }) (od := none) ⟨obj, rfl, rfl, trivial⟩ T.store
  refine put_first I.kIn obj known line L dict plain fun h2 t2 dx kept fresh apart at2 ns2 => ?_
  have none_ : H dx = none := I.hok.fresh fresh
  have off : ∀ {b : Addr} {o : Obj}, hp.get? b = some o → b ≠ dx := fun {b o} e => Nat.ne_of_lt (Nat.lt_of_lt_of_le (Heap.lt_size e) fresh)
  have off2 : ∀ {b : Addr}, H b = none → b ≠ a := fun {b} e z => by
    subst z; rw [here] at e; cases e
  have un : Un X.fs [] H (upd (upd H dx (exd dx [(f, y)])) a (exo a C (some dx))) hp h2 :=
    { keep := fun b o e n p q => kept b o (off2 n) e
      slot := fun b o e n p q => ⟨o.slots, kept b o (off2 n) e⟩
      free := fun b o e n p => by
        rw [upd_ne (off2 n), upd_ne (off e)]
        exact n
      there := fun b o e p => (Classical.em (b = a)).elim (fun z => ⟨_, (congrArg h2.get? z).trans at2⟩) fun z => ⟨o, kept b o z e⟩
      tups := fun b xs e => by
        rw [upd_ne (at_ne here e exo_tup), upd_ne (ne_of_none e none_)]
        exact e
      frzs := fun b o v e => by
        rw [upd_ne (at_ne here e exo_frz), upd_ne (ne_of_none e none_)]
        exact e
      tbls := fun b ps e => ⟨#[], by
        rw [upd_ne (at_ne here e exo_tbl), upd_ne (ne_of_none e none_), e]
        simp⟩ }
  refine go dx _ none_ apart (I.un (t' := t2) un fun b o e => ?_)
  rcases Classical.em (b = a) with z | z
  · subst z
    rw [upd_same] at e; cases e
    exact exo_ok at2
  rw [upd_ne z] at e
  rcases Classical.em (b = dx) with z2 | z2
  · subst z2
    rw [upd_same] at e; cases e
    exact exd_ok ns2 (relO_put (fs := []) ru fun _ => True.intro)
  rw [upd_ne z2] at e
  refine (I.hok b o e).stay (fun c v hc => kept c v ?_) (fun c hc => ?_) fun c xs hc => ?_
  · rcases hc with hc | hc
    · rw [hc]; exact z
    · exact at_ne here hc exo_own
  · rw [upd_ne (at_ne here hc exo_own), upd_ne (ne_of_none hc none_)]
    exact hc
  · rw [upd_ne (at_ne here hc exo_tup), upd_ne (ne_of_none hc none_)]
    exact hc
theorem put_old (T : OexG X.K C) (I : Inv X pins σ H s) (here : H a = some (exo a C (some dx))) (hd : H dx = some (exd dx fs)) (few : fs.length ≤ 900) (plain : PySem.W.findIn X.K (.ref C) f = some none) (ru : RelV y u)
    (go : ∀ t, Inv X pins σ (upd H dx (exd dx ((f, y) :: fs))) t → Qu () t) : wpAny (model X.prog X.w) A (setAttr (.ref a) f u) Qu Er s := by
  obtain ⟨cd, bm, B, known, line, dict, L⟩ := T.cd
  obtain ⟨t1, obj⟩ := exo_at I.hok here
  obtain ⟨mA, ns, rel⟩ := exd_at I.hok hd
  have within := within_of rel
  obtain ⟨hp, gs, dr, tk, os⟩ := s
  obtain ⟨od, _, _, hod, _, _⟩ := ns.count within
  apply PySem.W.set_plain I.kIn (ox := { cls := .ref C, dict := some dx, data := .fields #[.ref t1, .none, .none, .none, .bool false, .none] }) (od := some od) ⟨obj, rfl, rfl, hod⟩ T.store
  refine put_more I.kIn obj ns within (by rw [List.length_map]; exact Nat.le_trans few (by decide)) known line L dict plain fun h2 t2 kept ns2 => ?_
  have there : ∃ o, h2.get? dx = some o := let ⟨o, _, _, e, _⟩ := ns2; ⟨o, e⟩
  exact go _ (I.write (t' := t2) (x := dx) (e := dx) (o := exd dx ((f, y) :: fs)) (by rw [hd]; trivial) (Or.inl rfl) kept there (exd_ok ns2 (relO_put ru rel)))
end
/-- what follows when f of the exception at a takes y: a further field of its dict, or its first one -/
def PutG (D : Ends) (σ : L2.St) (f : Str) (a C : Addr) (y : V) (H : Hp) : Prop :=
  (∃ (at_ : Addr) (had : List (Str × V)), H a = some (exo a C (some at_)) ∧ H at_ = some (exd at_ had) ∧ had.length ≤ 900 ∧ D.nx σ (upd H at_ (exd at_ ((f, y) :: had)))) ∨
    (H a = some (exo a C none) ∧ ∀ at_, H at_ = none → at_ ≠ a → D.nx σ (upd (upd H at_ (exd at_ [(f, y)])) a (exo a C (some at_))))
/-- self.f = e, self an exception that is being made -/
def tPutG (K : PySem.W.Frag) (f : Str) (to te : TE) : TS := fun D σ H => te σ H fun y H1 => to σ H1 fun self_ H2 => ∃ (a C : Addr), self_ = .ref a ∧ OexG K C ∧ PySem.W.findIn K (.ref C) f = some none ∧ PutG D σ f a C y H2
section
variable {X : Cx} {o e : Expr} {es : List Expr} {to te : TE} {ta : TA} {f : Str} {p p' pos : Pos}
theorem ps_putG (ho : PE X o to) (he : PE X e te) (hs : swapsWith e (some (.Attribute o f p')) pos.line X.env = pure false := by rfl) : PS X (.Assign [.Attribute o f p'] e pos) (tPutG X.K f to te) := by
  constructor
  intro pins s σ H D I h
  refine plainObj_wpAny_Assign_Attribute (thn (he.run pins s σ H _ I h) fun v s1 ⟨y, H1, I1, ry, q1⟩ => thn (ho.run pins s1 σ H1 _ I1 q1) ?_) hs
  rintro u s2 ⟨x, H2, I2, rx, a, C, rfl, T, plain, q⟩
  cases rx
  rcases q with ⟨dx, fs, here, hd, few, q⟩ | ⟨here, q⟩
  · exact put_old T I2 here hd few plain ry fun t J => ⟨σ, _, J, q⟩
  · exact put_new T I2 here plain ry fun dx t n ne J => ⟨σ, _, J, q dx n ne⟩
/-- C(e, ..) of an own class whose __init__ keeps sp -/
theorem pmk_G {CX : CXT} {x : Str} {C fI : Addr} {k : Nat} {fd : FuncData} {ps : List Str} {sp : Sp} {ds : List Value} {dvs : List V} (T : OexG X.K C) (own : PySem.W.findIn X.K (.ref C) "__init__" = some (some (.ref fI))) (fn : PySem.W.typeIn X.K (.ref fI) = some (.type "function"))
    (F1 : FnOk X.prog X.w X.K X.mg X.base CX k fI fd ps sp) (hr : Room (k + 1) X.A) (hb : Binds X.K fd ps ds) (hd : Vals dvs ds) (hx : Passes CX X (fun _ _ _ => False)) (hg : Gl X x) (hm : X.mg x = some (.ref C)) (ha : PA X (e :: es) ta)
    (hdb : (x == ("__debug__" : Str)) = false := by decide) (hs : starEach (e :: es) X.env = (false, eval e X.env) :: starEach es X.env := by rfl) (hpl : (backTo pos (starEach es X.env)).any (·.1) = false := by rfl) :
    PMk X (.Call (.Name x p) (e :: es) [] pos) (tMkO C sp dvs ta) := by
  intro pins s σ H Q I h
  obtain ⟨nm, qn, N, bs, bm, sn, sb, ab, col, dd, k0, k1, k2, k3, k5, nw, look, mb⟩ := T.made
  obtain ⟨FB, L⟩ := mb
  refine wpAny_Call_Name_kw (ld_glob I hg hm ?_ hdb)
  refine PySem.W.callWith_K (h₀ := X.base) I.ok.mod.kin T.keep (thn (ha.run pos pins s σ H _ I h) ?_) hs hpl
  rintro us s1 ⟨vs, H1, I1, rv, few, q⟩
  refine ⟨I1.kIn, (?_ : wpAny _ _ (call (.ref C) us) _ _ _)⟩
  obtain ⟨hp, gs, dr, tk, os⟩ := s1
  have later : hp.objs.size ≤ hp.objs.size + 1 := Nat.le_succ _
  have q' := q (hp.objs.size + 1) (I1.hok.fresh later)
  have grown : ∀ (b : Addr) (o : Obj), hp.get? b = some o → ((hp.push (PySem.W.kdv_tup us)).push (PySem.HandSPX.excO C hp.objs.size)).get? b = some o := fun b o e => Heap.get?_push_of_some _ (Heap.get?_push_of_some _ e)
  have self_ : ((hp.push (PySem.W.kdv_tup us)).push (PySem.HandSPX.excO C hp.objs.size)).get? (hp.objs.size + 1) = some (PySem.HandSPX.excO C hp.objs.size) := by heap_get
  have I2 := I1.laid (t' := tk) (a := hp.objs.size + 1) (o := exo (hp.objs.size + 1) C none) grown later (exo_ok self_)
  have rv2 : Vals (V.ref (hp.objs.size + 1) :: (vs ++ dvs)) (Value.ref (hp.objs.size + 1) :: (us ++ ds)) := Paired.cons rfl (rv.append hd)
  have many : (Value.ref (hp.objs.size + 1) :: us ++ ds).length = ps.length := (rv2.length.symm.trans (F1.len _ _ _ _ q'))
  have ulen : us.length ≤ sizeLine := by
    rw [← Paired.length rv, sizeLine_eq]
    omega
  have ia : InitAt X.prog X.w hp C fI := ⟨PySem.W.looks_findIn I1.kIn own, fun v => PySem.W.bind_fn I1.kIn v fn⟩
  refine wpAny_call (mk_call FB L (I1.kIn _ _ look) ia ulen (codeAny_mono (F1.run _ X.stack _ _ ⟨Value.ref (hp.objs.size + 1) :: us, []⟩ (Value.ref (hp.objs.size + 1) :: (us ++ ds)) _ _ (fun _ _ _ => False) (hr.make C us []) (I2.env0.make C us []) (hb _ (Value.ref (hp.objs.size + 1) :: us) I2.kIn many) rv2 q') ?_))
  intro r t out
  match r, out with
  | .error er, out => exact hx pins σ _ _ er t I2 out
  | .ok (.ret u), out =>
    obtain ⟨v, H2, os2, bare2, un2, hok2, ru, rfl, d, fs, ea, ed, hd1, q2⟩ := out
    obtain ⟨h2, g2, d2, t2, os'⟩ := t
    exact ⟨ru, mk_end (raises_own T.below T.type_) I1 later grown un2 hok2 os2 bare2 ea ed hd1 q2⟩
end
end KN

set_option Elab.async false
set_option linter.all false
set_option maxRecDepth 100000
set_option maxHeartbeats 4000000
/-! Own words: defs, methods and classes that raise, under their names. -/
namespace KN
open PySem PySem.Spec PyProof.Rows L2
section
variable (P : Program) (w : World) (K : PySem.W.Frag) (mg : Str → Option Value) (base : Heap)
/-- a def that may raise -/
structure CalX (k : Nat) (x : Str) (sp : Sp) (dvs : List V) : Prop where
  ex : ∃ (f : Addr) (fd : FuncData) (ps : List Str) (ds : List Value), FnOk P w K mg base (L2.CX P w) k f fd ps sp ∧ mg x = some (.ref f) ∧ PySem.W.keepIn K (.ref f) = true ∧ Binds K fd ps ds ∧ Vals dvs ds
structure MetX (k : Nat) (C : Addr) (m : Str) (sp : Sp) (dvs : List V) : Prop where
  ex : ∃ (f : Addr) (fd : FuncData) (ps : List Str) (ds : List Value), Cls K C ∧ Meth K C m f ∧ FnOk P w K mg base (L2.CX P w) k f fd ps sp ∧ Binds K fd ps ds ∧ Vals dvs ds
structure MakX (k : Nat) (x : Str) (C : Addr) (sp : Sp) (dvs : List V) : Prop where
  ex : ∃ (f : Addr) (fd : FuncData) (ps : List Str) (ds : List Value), Mk K C f ∧ FnOk P w K mg base (L2.CX P w) k f fd ps sp ∧ mg x = some (.ref C) ∧ Binds K fd ps ds ∧ Vals dvs ds
/-- an own exception's class, made by its __init__ -/
structure ExcAt (k : Nat) (x : Str) (C : Addr) (sp : Sp) (dvs : List V) : Prop where
  cls : OexG K C
  mgc : mg x = some (.ref C)
  ex : ∃ (f : Addr) (fd : FuncData) (ps : List Str) (ds : List Value), PySem.W.findIn K (.ref C) "__init__" = some (some (.ref f)) ∧ PySem.W.typeIn K (.ref f) = some (.type "function") ∧ FnOk P w K mg base C8.CX0 k f fd ps sp ∧ Binds K fd ps ds ∧ Vals dvs ds
end
section
variable {X : Cx} {W : WX} {E0 : XK} {k j : Nat} {C : Addr} {x m : Str} {sp : Sp} {dvs : List V} {p pos apos : Pos} {e o : Expr} {es : List Expr} {ta : TE} {t : TA}
theorem run_at {pins : List (Addr × Obj)} {σ : L2.St} {H : Hp} {s : Shared} {Q : VK} {us ds : List Value} {vs : List V} {f : Addr} {fd : FuncData} {ps : List Str} (tk : Takes X W) (F : FnOk X.prog X.w X.K X.mg X.base (L2.CX X.prog X.w) k f fd ps sp) (room : Room k X.A) (hb : Binds X.K fd ps ds) (hd : Vals dvs ds)
    (I : Inv X pins σ H s) (rv : Vals vs us) (h : sp (vs ++ dvs) H Q (fun c d H' => W c d σ H')) : wpAny (model X.prog X.w) X.A (call (.ref f) us) (EP X pins σ Q) X.xe s := by
  have rv2 := rv.append hd
  have many : (us ++ ds).length = ps.length := rv2.length.symm.trans (F.len _ _ _ _ h)
  apply wpAny_call
  refine codeAny_mono (F.run X.A X.stack s H ⟨us, []⟩ (us ++ ds) (vs ++ dvs) Q _ room I.env0 (hb s us I.kIn many) rv2 h) ?_
  intro r s2 out
  match r, out with
  | .error er, out => exact passAt tk σ pins H s er s2 I out
  | .ok (.ret u), out => exact I.after out
/-- f(e, ..) that may raise -/
theorem pe_cX (c : CalX X.prog X.w X.K X.mg X.base k x sp dvs) (tk : Takes X W) (hr : Room j X.A) (hk : k ≤ j) (hg : Gl X x) (ha : PA X (e :: es) t)
    (hdb : (x == ("__debug__" : Str)) = false := by decide) (hs : starEach (e :: es) X.env = (false, eval e X.env) :: starEach es X.env := by rfl) (hpl : (backTo pos (starEach es X.env)).any (·.1) = false := by rfl) :
    PE X (.Call (.Name x p) (e :: es) [] pos) (fun σ H Q => t σ H fun vs H1 => sp (vs ++ dvs) H1 Q fun cl d H' => W cl d σ H') := by
  obtain ⟨f, fd, ps, ds, F, hm, keep, hb, hd⟩ := c.ex
  constructor
  intro pins s σ H Q I h
  refine wpAny_Call_Name_kw (ld_glob I hg hm ?_ hdb)
  refine PySem.W.callWith_K (h₀ := X.base) I.ok.mod.kin keep (thn (ha.run pos pins s σ H _ I h) ?_) hs hpl
  rintro us s1 ⟨vs, H1, I1, rv, q⟩
  exact ⟨I1.kIn, run_at tk F (hr.mono hk) hb hd I1 rv q⟩
/-- o.m(e, ..) that may raise, in a def -/
theorem pe_mtX {pl : Sem Bool} (c : MetX X.prog X.w X.K X.mg X.base k C m sp dvs) (tk : Takes X fun cl d _ H => E0 cl d H) (hr : Room j X.A) (hk : k ≤ j) (he : PE X o ta) (ha : PA X (e :: es) t)
    (hs : starEach (e :: es) X.env = (false, eval e X.env) :: starEach es X.env := by rfl) (hpl : (backTo pos (starEach es X.env)).any (·.1) = false := by rfl)
    (ht : eval (.Call (.Attribute o m apos) (e :: es) [] pos) X.env = (do
      let recv ← eval o X.env
      standAt apos.atName
      let (fn, self) ← holding [recv] (getMethod recv m pl)
      callWith pos fn self (backTo pos (starEach (e :: es) X.env)) (backToKw pos (keywordEach [] X.env))) := by rfl) :
    PE X (.Call (.Attribute o m apos) (e :: es) [] pos) (tMeth C m sp dvs E0 ta t) := by
  obtain ⟨f, fd, ps, ds, cl, me, F, hb, hd⟩ := c.ex
  exact pe_meth he cl me F (hr.mono hk) hb hd (passes_call tk fun _ _ _ _ z => z) ha hs hpl ht
/-- C(e, ..) that may raise, in a def -/
theorem pe_mkX (c : MakX X.prog X.w X.K X.mg X.base k x C sp dvs) (tk : Takes X fun cl d _ H => E0 cl d H) (hr : Room j X.A) (hk : k + 1 ≤ j) (hg : Gl X x) (ha : PA X (e :: es) t)
    (hdb : (x == ("__debug__" : Str)) = false := by decide) (hs : starEach (e :: es) X.env = (false, eval e X.env) :: starEach es X.env := by rfl) (hpl : (backTo pos (starEach es X.env)).any (·.1) = false := by rfl) :
    PE X (.Call (.Name x p) (e :: es) [] pos) (tMake C sp dvs E0 t) := by
  obtain ⟨f, fd, ps, ds, M, F, hm, hb, hd⟩ := c.ex
  exact pe_make M F (hr.mono hk) hg hm hb hd (passes_call tk fun _ _ _ _ z => z) ha hdb hs hpl
/-- raise C(e, ..) of an own class -/
theorem ps_raiseG {pos' : Pos} (calm : X.calm = true) (tk : Takes X W) (c : ExcAt X.prog X.w X.K X.mg X.base k x C sp dvs) (hr : Room j X.A) (hk : k + 1 ≤ j) (hg : Gl X x) (ha : PA X (e :: es) t)
    (hdb : (x == ("__debug__" : Str)) = false := by decide) (hs : starEach (e :: es) X.env = (false, eval e X.env) :: starEach es X.env := by rfl) (hpl : (backTo pos (starEach es X.env)).any (·.1) = false := by rfl) :
    PS X (.Raise (some (.Call (.Name x p) (e :: es) [] pos)) none pos') (fun _ σ H => tMkO C sp dvs t σ H fun cl d H' => W cl d σ H') := by
  obtain ⟨f, fd, ps, ds, own, fn, F, hb, hd⟩ := c.ex
  exact ps_raise calm tk (pmk_G c.cls own fn F (hr.mono hk) hb hd C8.pass0 hg c.mgc ha hdb hs hpl)
end
/-- an __init__ that stores one thing in its exception -/
def spOne (K : PySem.W.Frag) (f : Str) : Sp := fun vs H Q _ => ∃ (a C : Addr) (y : V), vs = [.ref a, y] ∧ H a = some (exo a C none) ∧ OexG K C ∧ PySem.W.findIn K (.ref C) f = some none ∧ ∀ dx, H dx = none → dx ≠ a → Q .non (upd (upd H dx (exd dx [(f, y)])) a (exo a C (some dx)))
end KN

set_option Elab.async false
set_option linter.all false
set_option maxRecDepth 100000
set_option maxHeartbeats 4000000
/-! Own words: an exception of two things told. -/
namespace KN
open PySem PySem.Spec PyProof.Rows L2
/-- an __init__ that stores two things in its exception -/
def spTwo (K : PySem.W.Frag) (f g : Str) : Sp := fun vs H Q _ => ∃ (a C : Addr) (y z : V), vs = [.ref a, y, z] ∧ H a = some (exo a C none) ∧ OexG K C ∧ PySem.W.findIn K (.ref C) f = some none ∧ PySem.W.findIn K (.ref C) g = some none ∧
  ∀ dx, H dx = none → dx ≠ a → Q .non (upd (upd (upd H dx (exd dx [(f, y)])) a (exo a C (some dx))) dx (exd dx [(g, z), (f, y)]))
/-- what is let out: an exception of class C that holds y in f, z in g -/
def OutTwo (H : Hp) (C : Addr) (f g : Str) (y z : V) (E : XK) : Prop := ∀ H' d, (∀ b o, H b = some o → H' b = some o) → H' d = some (.xd [(g, z), (f, y)]) → E (.ref C) (some d) H'
theorem out_two {H : Hp} {C a dx : Addr} {f g : Str} {y z : V} {E : XK} (o : OutTwo H C f g y z E) (ha : H a = none) (hd : upd H a (exo a C none) dx = none) (ne : dx ≠ a) :
    ∃ (d : Addr) (fs : List (Str × V)), upd (upd (upd (upd H a (exo a C none)) dx (exd dx [(f, y)])) a (exo a C (some dx))) dx (exd dx [(g, z), (f, y)]) a = some (exo a C (some d)) ∧ upd (upd (upd (upd H a (exo a C none)) dx (exd dx [(f, y)])) a (exo a C (some dx))) dx (exd dx [(g, z), (f, y)]) d = some (exd d fs) ∧ H d = none ∧
      E (.ref C) (some d) (upd (del (upd (upd (upd (upd H a (exo a C none)) dx (exd dx [(f, y)])) a (exo a C (some dx))) dx (exd dx [(g, z), (f, y)])) a) d (.xd fs)) := by
  rw [upd_ne ne] at hd
  refine ⟨dx, [(g, z), (f, y)], by rw [upd_ne (Ne.symm ne), upd_same], upd_same, hd, o _ _ (fun b u e => ?_) upd_same⟩
  have nb : b ≠ a := fun q => by subst q; rw [ha] at e; cases e
  have nd : b ≠ dx := fun q => by subst q; rw [hd] at e; cases e
  rw [upd_ne nd, del_ne nb, upd_ne nd, upd_ne nb, upd_ne nd, upd_ne nb]
  exact e
/-- by its body: two stores -/
theorem two_stores {K : PySem.W.Frag} {f g : Str} {D : Ends} {H : Hp} {a C : Addr} {y z : V} {σ : L2.St} (h0 : σ[0]? = some (some (.ref a))) (h1 : σ[1]? = some (some y)) (h2 : σ[2]? = some (some z)) (T : OexG K C) (nf : PySem.W.findIn K (.ref C) f = some none) (ng : PySem.W.findIn K (.ref C) g = some none) (ha : H a = some (exo a C none))
    (k : ∀ dx, H dx = none → dx ≠ a → D.nx σ (upd (upd (upd H dx (exd dx [(f, y)])) a (exo a C (some dx))) dx (exd dx [(g, z), (f, y)]))) :
    tPutG K f (tVar 0) (tVar 1) { D with nx := fun σ H => tPutG K g (tVar 0) (tVar 2) D σ H } σ H := by
  refine ⟨_, h1, _, h0, a, C, rfl, T, nf, .inr ⟨ha, fun dx n1 n2 => ?_⟩⟩
  refine ⟨_, h2, _, h0, a, C, rfl, T, ng, .inl ⟨dx, [(f, y)], upd_same, by rw [upd_ne n2, upd_same], (show 1 ≤ 900 by decide), k dx n1 n2⟩⟩
end KN

set_option Elab.async false
set_option linter.all false
set_option maxRecDepth 100000
set_option maxHeartbeats 4000000
/-! Things of any sort; what repr says of data; == and != by an own __eq__. -/
namespace KN
open PySem PySem.Spec PyProof.Rows L2

mutual
/-- a thing: data, a list, an empty dict -/
inductive Ob (H : Hp) : V → PyData → Prop
  | non : Ob H .non .none
  | bl (b : Bool) : Ob H (.bl b) (.bool b)
  | int (i : Int) : Ob H (.int i) (.int i)
  | str (x : Str) (h : x.length ≤ 60 ∧ PyData.strOk x = true) : Ob H (.str x) (.str x)
  | tup {a : Addr} {xs : List V} {ds : List PyData} : H a = some (.tup xs) → ObAll H xs ds → Ob H (.ref a) (.tuple ds)
  | lst {a : Addr} {xs : List V} {ds : List PyData} : H a = some (.lst xs) → ObAll H xs ds → Ob H (.ref a) (.list ds)
  | emp {a : Addr} : H a = some (.dK []) → Ob H (.ref a) (.dict [])
inductive ObAll (H : Hp) : List V → List PyData → Prop
  | nil : ObAll H [] []
  | cons {v : V} {vs : List V} {d : PyData} {ds : List PyData} : Ob H v d → ObAll H vs ds → ObAll H (v :: vs) (d :: ds)
end
/-- tuples, lists and empty dicts stay -/
def Ke (H H' : Hp) : Prop := ∀ a o, ((∃ xs, o = .tup xs) ∨ (∃ xs, o = .lst xs) ∨ o = .dK []) → H a = some o → H' a = some o
theorem Ke.of {H H' : Hp} (s : Same H H') : Ke H H' := fun a o _ h => s a o h
theorem Ke.refl (H : Hp) : Ke H H := fun _ _ _ h => h
theorem Ke.trans {H H1 H2 : Hp} (a : Ke H H1) (b : Ke H1 H2) : Ke H H2 := fun c o n h => b c o n (a c o n h)
mutual
theorem Ob.mono {H H' : Hp} (k : Ke H H') : ∀ (d : PyData) (v : V), Ob H v d → Ob H' v d
  | .none, _, h => by cases h; exact .non
  | .bool b, _, h => by cases h; exact .bl b
  | .int i, _, h => by cases h; exact .int i
  | .str x, _, h => by cases h with | str _ l => exact .str x l
  | .tuple ds, _, h => by
    cases h with
    | tup e r => exact .tup (k _ _ (.inl ⟨_, rfl⟩) e) (ObAll.mono k ds _ r)
  | .list ds, _, h => by
    cases h with
    | lst e r => exact .lst (k _ _ (.inr (.inl ⟨_, rfl⟩)) e) (ObAll.mono k ds _ r)
  | .dict _, _, h => by
    cases h with
    | emp e => exact .emp (k _ _ (.inr (.inr rfl)) e)
theorem ObAll.mono {H H' : Hp} (k : Ke H H') : ∀ (ds : List PyData) (vs : List V), ObAll H vs ds → ObAll H' vs ds
  | [], _, h => by cases h; exact .nil
  | d :: ds, _, h => by
    cases h with
    | cons a r => exact .cons (Ob.mono k d _ a) (ObAll.mono k ds _ r)
end
theorem Ob.to {H H' : Hp} {d : PyData} {v : V} (h : Ob H v d) (k : Ke H H') : Ob H' v d := Ob.mono k d v h
theorem ObAll.to {H H' : Hp} {ds : List PyData} {vs : List V} (h : ObAll H vs ds) (k : Ke H H') : ObAll H' vs ds := ObAll.mono k ds vs h
theorem ObAll.len {H : Hp} : ∀ {ds : List PyData} {vs : List V}, ObAll H vs ds → vs.length = ds.length
  | [], _, h => by cases h; rfl
  | d :: ds, _, h => by
    cases h with
    | cons a r => rw [List.length_cons, List.length_cons, ObAll.len r]
theorem ObAll.get {H : Hp} : ∀ {ds : List PyData} {vs : List V} {i : Nat} {v : V}, ObAll H vs ds → vs[i]? = some v → ∃ d, ds[i]? = some d ∧ Ob H v d
  | [], _, i, d, h, e => by cases h; simp at e
  | d0 :: ds, _, i, d, h, e => by
    cases h with
    | cons a r =>
      cases i with
      | zero => rw [List.getElem?_cons_zero] at e; cases e; exact ⟨_, rfl, a⟩
      | succ i =>
        rw [List.getElem?_cons_succ] at e
        obtain ⟨v, h1, h2⟩ := ObAll.get r e
        exact ⟨v, by rw [List.getElem?_cons_succ]; exact h1, h2⟩
theorem ObAll.app {H : Hp} : ∀ {ds es : List PyData} {vs ws : List V}, ObAll H vs ds → ObAll H ws es → ObAll H (vs ++ ws) (ds ++ es)
  | [], _, _, _, h, k => by cases h; exact k
  | d :: ds, _, _, _, h, k => by
    cases h with
    | cons a r => exact .cons a (ObAll.app r k)
/-- what sort a thing is -/
def isTp : PyData → Bool
  | .tuple _ => true
  | _ => false
def isSt : PyData → Bool
  | .str _ => true
  | _ => false
def isIn : PyData → Bool
  | .int _ => true
  | .bool _ => true
  | _ => false
def isBo : PyData → Bool
  | .bool _ => true
  | _ => false
structure Sort4 (K : PySem.W.Frag) (H : Hp) (v : V) (d : PyData) (t : String) : Prop where
  ty : TyX K H v (.type t)
  tp : PySem.W.kitOne K (.type t) (.type "tuple") = some (isTp d)
  st : PySem.W.kitOne K (.type t) (.type "str") = some (isSt d)
  int : PySem.W.kitOne K (.type t) (.type "int") = some (isIn d)
  bo : PySem.W.kitOne K (.type t) (.type "bool") = some (isBo d)
  bi : (PySem.fastBuiltinMro t).isSome = true
theorem sort_mk {K : PySem.W.Frag} {H : Hp} {v : V} {d : PyData} {t : String} (b1 b2 b3 b4 : Bool) (ty : TyX K H v (.type t))
    (h : kitB t "tuple" = some b1 ∧ kitB t "str" = some b2 ∧ kitB t "int" = some b3 ∧ kitB t "bool" = some b4 ∧ (PySem.fastBuiltinMro t).isSome = true) (e : isTp d = b1 ∧ isSt d = b2 ∧ isIn d = b3 ∧ isBo d = b4) : Sort4 K H v d t :=
  ⟨ty, by rw [e.1]; exact kit_ty h.1, by rw [e.2.1]; exact kit_ty h.2.1, by rw [e.2.2.1]; exact kit_ty h.2.2.1, by rw [e.2.2.2]; exact kit_ty h.2.2.2.1, h.2.2.2.2⟩
theorem Ob.sort {K : PySem.W.Frag} {H : Hp} {v : V} {d : PyData} (h : Ob H v d) : ∃ t, Sort4 K H v d t := by
  cases h with
  | non => exact ⟨"NoneType", sort_mk false false false false (.base (.non)) (by decide +kernel) ⟨rfl, rfl, rfl, rfl⟩⟩
  | bl b => exact ⟨"bool", sort_mk false false true true (.base (.bl b)) (by decide +kernel) ⟨rfl, rfl, rfl, rfl⟩⟩
  | int b => exact ⟨"int", sort_mk false false true false (.base (.int b)) (by decide +kernel) ⟨rfl, rfl, rfl, rfl⟩⟩
  | str b => exact ⟨"str", sort_mk false true false false (.base (.str b)) (by decide +kernel) ⟨rfl, rfl, rfl, rfl⟩⟩
  | tup e => exact ⟨"tuple", sort_mk true false false false (.base (.tup e)) (by decide +kernel) ⟨rfl, rfl, rfl, rfl⟩⟩
  | lst e => exact ⟨"list", sort_mk false false false false (.base (.lst e)) (by decide +kernel) ⟨rfl, rfl, rfl, rfl⟩⟩
  | emp e => exact ⟨"dict", sort_mk false false false false (.base (.dK e)) (by decide +kernel) ⟨rfl, rfl, rfl, rfl⟩⟩
theorem Ob.of_tp {H : Hp} {v : V} {d : PyData} (h : Ob H v d) (e : isTp d = true) : ∃ a xs ds, v = .ref a ∧ d = .tuple ds ∧ H a = some (.tup xs) ∧ ObAll H xs ds := by
  cases h with
  | tup h r => exact ⟨_, _, _, rfl, rfl, h, r⟩
  | _ => cases e

/-! ### repr of data -/
def spReprD (K : PySem.W.Frag) : List V → Hp → VK → Prop := fun xs H Q => ∃ (a : Addr) (d : PyData), xs = [.ref a] ∧ Dp K H (.ref a) d ∧ d.showable = true ∧ d.hasDict = false ∧ d.depth ≤ 60 ∧ d.shown.length ≤ sizeLine ∧ Q (.str d.shown) H
theorem call_reprD {X : Cx} (hg : X.A.guards = some []) (hu : X.A.units + 65 < cLine) : CallR X (.builtin "repr") (spReprD X.K) := by
  intro pins s σ H xs us Q I r h
  obtain ⟨a, d, rfl, hd, hs, hn, hl, hz, q⟩ := h
  obtain ⟨u, rfl, ru⟩ := vals1 r
  cases ru
  obtain ⟨as, r1⟩ := Dp.reads I d (.ref a) (.ref a) hd rfl
  refine repr_of_reads' r1 hs (PyData.noDict_hsm hn) hg (by omega) (fun _ _ e => e) (fun h' u tk hk => ?_) hz
  exact ⟨.str d.shown, H, I.kept (t' := tk) hk, ⟨_, rfl⟩, q⟩
end KN

set_option Elab.async false
set_option linter.all false
set_option maxRecDepth 100000
set_option maxHeartbeats 4000000
/-! == and != of instances whose class has an own __eq__ and no __ne__. -/
namespace KN
open PySem PySem.Spec PyProof.Rows L2
/-- what is known of a class with its own == -/
structure OwnEq (K : PySem.W.Frag) (C f : Addr) : Prop where
  eq : PySem.W.findIn K (.ref C) "__eq__" = some (some (.ref f))
  fn : PySem.W.isFn K (.ref f) = true
  ne : PySem.W.findIn K (.ref C) "__ne__" = some (some (.builtin "object.__ne__"))
  ob : PySem.W.mroIn K C (.type "object") = some true
section
variable {prog : Program} {w : World} {A : Around} {E : Value → Shared → Prop} {s : Shared} {K : PySem.W.Frag} {x C f : Addr} {ox : Obj} {od : Option Obj} {name : Str} {b tb : Value}
theorem bound_blt {M : Model} {B id : String} {args : List Value} {Q : Option Value → Shared → Prop} (X : K.In s.heap) (I : PySem.W.InstAt s.heap x ox C od) (hs : PySem.W.findIn K (.ref C) name = some (some (.builtin id))) (S : Slot B name id)
    (h : wpAny M A (call (.builtin id) (.ref x :: args)) (fun v => Q (some v)) E s) : wpAny M A (callSpecialIfBound? (.ref x) name args) Q E s := by
  have found := PySem.W.looks_findIn (M := M) X hs
  have fin : wpAny M A (call (.builtin id) ([.ref x] ++ args) >>= fun v => pure (some v)) Q E s :=
    wpAny_bind (wpAny_mono h (fun _ _ z => wpAny_pure z) fun _ _ z => z)
  unfold callSpecialIfBound? bindSpecialIfBound?
  refine wpAny_holding (wpAny_bind (wpAny_bind (wpAny_bind (I.type.here (found.here ?_)))))
  simp only [S.bind]
  refine wpAny_bind (wpAny_askSetting (wpAny_ite ?_))
  split
  · refine wpAny_bind (wpAny_pure (wpAny_pure ?_))
    exact fin
  · refine wpAny_tryCatch (wpAny_bind (wpAny_pure (wpAny_pure ?_)))
    exact fin

theorem obj_ne (hu : A.units + 1 < cLine) (X : K.In s.heap) (I : PySem.W.InstAt s.heap x ox C od) (o : OwnEq K C f) {Q : Value → Shared → Prop}
    (h : wpAny (model prog w) A.in1 (call (.ref f) [.ref x, b]) (fun v s' => ∃ r, v = .bool r ∧ Q (.bool (!r)) s') E s) :
    wpAny (model prog w) A (call (.builtin "object.__ne__") [.ref x, b]) Q E s := by
  have below : PySem.W.Looks (model prog w) s.heap (isInstance (.ref x) (.type "object")) true := I.type.andThen (PySem.W.looks_mroIn X o.ob)
  refine wpAny_call (codeAny_call_builtin PySem.F.cmp_object.ne.plain PySem.F.cmpEntry_ne ?_)
  obtain ⟨hp, gs, dr, tk, os⟩ := s
  apply @PySem.W.check_slot (model prog w) _ _ ⟨hp, gs, dr, tk, os⟩ "object.__ne__" "object" "__ne__" (.ref x) [b] [] _ PySem.F.cmpKind_ne PySem.F.cmpSplit_ne below (PySem.F.cmpArgs_ne _ _)
  unfold Builtin.«object.__ne__»; apply wpAny_bind
  refine wpAny_of_eq (a := ((Value.ref x : Value), [b])) (by first | rfl | (simp only [Builtin.slotArgs]; rfl)) ?_
  refine wpAny_bind (wpAny_cRoomFor (by show A.units + 1 < cLine; omega) ?_)
  refine wpAny_bind (PySem.W.ifBound_K X I o.eq o.fn (wpAny_mono h (fun v s' q => ?_) fun _ _ z => z))
  obtain ⟨r, rfl, q⟩ := q
  refine wpAny_bind (wpAny_truthy_bool ?_)
  exact wpAny_pure q

theorem cmp_ne (hu : A.units + 1 < cLine) (X : K.In s.heap) (I : PySem.W.InstAt s.heap x ox C od) (hb : PySem.W.Looks (model prog w) s.heap (typeOf b) tb) (hn : PySem.W.notFirst K C tb = true) (o : OwnEq K C f) {Q : Value → Shared → Prop}
    (h : wpAny (model prog w) A.in1 (call (.ref f) [.ref x, b]) (fun v s' => ∃ r, v = .bool r ∧ Q (.bool (!r)) s') E s) : wpAny (model prog w) A (richCompare .NotEq (.ref x) b) Q E s := by
  have one : wpAny (model prog w) A (tryCompare (.ref x) (cmpInfo .NotEq).2.1 b) (fun r s' => ∃ v, r = some v ∧ Q v s') E s := by
    unfold tryCompare
    refine wpAny_bind (bound_blt X I o.ne PySem.F.cmp_object.ne (obj_ne hu X I o (wpAny_mono h (fun v s' q => ?_) fun _ _ z => z)))
    obtain ⟨r, e, q⟩ := q
    exact ⟨r, e, wpAny_pure ⟨_, rfl, q⟩⟩
  unfold richCompare
  simp only [oneThing_ref]
  refine wpAny_holding (wpAny_bind (wpAny_cRoomFor (by omega) ?_))
  refine wpAny_bind (I.type.here (wpAny_bind (hb.here ?_)))
  split
  · rename_i q
    have e : PySem.W.subIn K tb (.ref C) = some false := (Bool.or_eq_true_iff.mp hn).elim (fun e => by rw [beq_iff_eq.mp e] at q; simp at q) beq_iff_eq.mp
    refine wpAny_bind ((PySem.W.looks_subIn X e).here ?_)
    simp only [Bool.false_eq_true, if_false]
    refine wpAny_bind (wpAny_mono one (fun r s' z => ?_) fun _ _ z => z)
    obtain ⟨v, rfl, hq⟩ := z
    exact wpAny_pure hq
  · refine wpAny_bind (wpAny_pure ?_)
    simp only [Bool.false_eq_true, if_false]
    refine wpAny_bind (wpAny_mono one (fun r s' z => ?_) fun _ _ z => z)
    obtain ⟨v, rfl, hq⟩ := z
    exact wpAny_pure hq
end
section
variable {X : Cx} {n : Nat} {C f : Addr} {fd : FuncData} {ps : List Str} {sp : Sp}
/-- an instance of C beside anything: what its own == says, or the other way about -/
def rCmpO (K : PySem.W.Frag) (C : Addr) (sp : Sp) (neg : Bool) : R2 := fun x y H Q => ∃ (a dx : Addr) (fs : List (Str × V)) (t : Value), x = .ref a ∧ H a = some (.ins C dx fs) ∧ TyX K H y t ∧ PySem.W.notFirst K C t = true ∧
  sp [x, y] H (fun v H' => ∃ b, v = .bl b ∧ Q (.bl (if neg then !b else b)) H') (fun _ _ _ => False)
theorem run_eqO (F : FnOk X.prog X.w X.K X.mg X.base C8.CX0 n f fd ps sp) (hb : Binds X.K fd ps []) {A : Around} (hr : Room n A) (hfr : A.frames = X.A.frames) {pins : List (Addr × Obj)} {s : Shared} {σ : L2.St} {H : Hp} {x y : V} {u v : Value} (I : Inv X pins σ H s) (rx : RelV x u) (ry : RelV y v)
    {Q : VK} (q : sp [x, y] H Q (fun _ _ _ => False)) : wpAny (model X.prog X.w) A (call (.ref f) [u, v]) (EP X pins σ Q) X.xe s := by
  have e0 : Env0 X.prog X.w X.K X.mg X.base A X.stack s H := by
    have e := I.env0
    exact ⟨by rw [hfr]; exact e.frames, e.mod, e.bs, e.bsz, e.funs, e.frf, e.hok, e.bare⟩
  have rv : Vals [x, y] [u, v] := .cons rx (.cons ry .nil)
  have len := F.len _ _ _ _ q
  have bd : BindsTo s fd ⟨[u, v], []⟩ (ps.zip [u, v]) := by
    have z := hb s [u, v] I.kIn (by simpa using len)
    simpa using z
  refine wpAny_call (codeAny_mono (F.run A X.stack s H ⟨[u, v], []⟩ [u, v] [x, y] Q _ hr e0 bd rv q) fun r s' out => ?_)
  match r, out with
  | .error er, out => exact C8.pass0 (E := fun _ _ _ => False) pins σ H s er s' I out
  | .ok (.ret z), out => exact I.after out
theorem op_cmpO (op : CmpOp) (neg : Bool) (hop : op = .Eq ∧ neg = false ∨ op = .NotEq ∧ neg = true) (F : FnOk X.prog X.w X.K X.mg X.base C8.CX0 n f fd ps sp) (o : OwnEq X.K C f) (hb : Binds X.K fd ps []) (hr : Room (n + 1) X.A) : OpR X (compareOp op) (rCmpO X.K C sp neg) := by
  intro pins s σ H x y v u Q I rx ry hq
  obtain ⟨a, dx, fs, t, rfl, ha, ty, nf, q⟩ := hq
  have rx' := rx
  cases rx
  obtain ⟨mA, J, _⟩ := ins_get I.hok ha
  obtain ⟨od, J, _⟩ := J.look
  obtain ⟨P, kit, hP, _⟩ := kit_of I ry ty
  have hty := kit.ty (model X.prog X.w) s.heap I.kIn hP
  obtain ⟨m, hF⟩ := I.fr
  rcases hop with ⟨rfl, rfl⟩ | ⟨rfl, rfl⟩
  · show wpAny (model X.prog X.w) X.A (richCompare .Eq (.ref a) u) (EP X pins σ Q) X.xe s
    refine PySem.W.cmp_K (op := .Eq) (tb := t) hr.units0 hF I.ok.mod.kin J hty nf o.eq o.fn ?_
    refine wpAny_mono (run_eqO F hb (hr.mono (by omega)) rfl I rx' ry q) (fun z s' w => ?_) fun _ _ z => z
    obtain ⟨z', H', I', rz, b, rfl, q'⟩ := w
    cases rz
    exact ⟨.bl b, H', I', rfl, q'⟩
  · show wpAny (model X.prog X.w) X.A (richCompare .NotEq (.ref a) u) (EP X pins σ Q) X.xe s
    refine cmp_ne (by have := hr.un; omega) I.kIn J hty nf o ?_
    refine wpAny_mono (run_eqO F hb hr.in1 rfl I rx' ry q) (fun z s' w => ?_) fun _ _ z => z
    obtain ⟨z', H', I', rz, b, rfl, q'⟩ := w
    cases rz
    exact ⟨b, rfl, .bl (!b), H', I', rfl, q'⟩
end
end KN

set_option Elab.async false
set_option linter.all false
set_option maxRecDepth 100000
set_option maxHeartbeats 4000000
namespace KN
open PySem L2
/-! What is a node, a side, a part of a saying: of data. -/
def numB (lo hi : Int) : PyData → Bool
  | .int i => decide (lo ≤ i) && decide (i ≤ hi)
  | _ => false
def wordB : PyData → Bool
  | .str s => isWB s
  | _ => false
def nodeB : PyData → Bool
  | .tuple [a, b] => numB 0 5 a && wordB b
  | _ => false
def sideB (many : Int) : PyData → Bool
  | .tuple [a, b] => numB 0 (many - 1) a && nodeB b
  | _ => false
def badP : PyData → Bool
  | .none => false
  | .bool _ => false
  | _ => true
/-- is not of a truth or None beside anything -/
theorem op_isNotC {X : Cx} : OpR X (compareOp .IsNot) (fun x y H Q => ((∃ b, y = .bl b) ∨ y = .non) ∧ Q (.bl (!decide (x = y))) H) := by
  intro pins s σ H x y v u Q I rx ry h
  obtain ⟨hy, q⟩ := h
  by_cases e : x = y
  · subst e
    rcases hy with ⟨b, rfl⟩ | rfl
    · cases (show v = Value.bool b from rx)
      cases (show u = Value.bool b from ry)
      exact wpAny_isNot_self rfl ⟨.bl false, H, I, rfl, by simpa using q⟩
    · cases (show v = Value.none from rx)
      cases (show u = Value.none from ry)
      exact wpAny_isNot_self rfl ⟨.bl false, H, I, rfl, by simpa using q⟩
  · have q' : Q (.bl true) H := by simpa [e] using q
    rcases hy with ⟨b, rfl⟩ | rfl
    · cases (show u = Value.bool b from ry)
      have go : plainIs v (Value.bool b) = true ∧ v ≠ Value.bool b := by
        cases x with
        | bl c => cases rx; exact ⟨rfl, fun z => e (by cases z; rfl)⟩
        | non => cases rx; exact ⟨rfl, fun z => by cases z⟩
        | ref a => cases rx; exact ⟨rfl, fun z => by cases z⟩
        | ty a => cases rx; exact ⟨rfl, fun z => by cases z⟩
        | _ => obtain ⟨t, rfl⟩ := rx; exact ⟨rfl, fun z => by cases z⟩
      exact wpAny_isNot_other go.1 go.2 ⟨.bl true, H, I, rfl, q'⟩
    · cases (show u = Value.none from ry)
      have go : plainIs v Value.none = true ∧ v ≠ Value.none := by
        cases x with
        | bl c => cases rx; exact ⟨rfl, fun z => by cases z⟩
        | non => exact absurd rfl e
        | ref a => cases rx; exact ⟨rfl, fun z => by cases z⟩
        | ty a => cases rx; exact ⟨rfl, fun z => by cases z⟩
        | _ => obtain ⟨t, rfl⟩ := rx; exact ⟨rfl, fun z => by cases z⟩
      exact wpAny_isNot_other go.1 go.2 ⟨.bl true, H, I, rfl, q'⟩
def spNodeB : Sp := fun vs H Q _ => ∃ (v : V) (d : PyData), vs = [v] ∧ Ob H v d ∧ ∀ H', Same H H' → Q (.bl (nodeB d)) H'
def spSideB : Sp := fun vs H Q _ => ∃ (v : V) (d : PyData) (n : Int), vs = [v, .int n] ∧ Ob H v d ∧ ∀ H', Same H H' → Q (.bl (sideB n d)) H'
section
variable {P : Program} {w : World} {K : PySem.W.Frag} {mg : Str → Option Value} {base : Heap} {C CB f : Addr}
/-- what the number's look says of a thing -/
theorem number_of {H : Hp} {v : V} {d : PyData} (h : Ob H v d) {lo hi : Int} {Q : VK} {E : XK} (k : Q (.bl (numB lo hi d)) H) : spNumber K [v, .int lo, .int hi] H Q E := by
  refine ⟨v, lo, hi, rfl, ?_⟩
  cases h with
  | int i => exact .inl ⟨i, rfl, k⟩
  | bl b => exact .inr (.inl ⟨b, rfl, k⟩)
  | non => exact .inr (.inr ⟨_, .base .non, kit_ty (by decide +kernel), k⟩)
  | str x h => exact .inr (.inr ⟨_, .base (.str x), kit_ty (by decide +kernel), k⟩)
  | tup e r => exact .inr (.inr ⟨_, .base (.tup e), kit_ty (by decide +kernel), k⟩)
  | lst e r => exact .inr (.inr ⟨_, .base (.lst e), kit_ty (by decide +kernel), k⟩)
  | emp e => exact .inr (.inr ⟨_, .base (.dK e), kit_ty (by decide +kernel), k⟩)
theorem word_of {H : Hp} {v : V} {d : PyData} (h : Ob H v d) {Q : VK} {E : XK} (k : ∀ H', Same H H' → Q (.bl (wordB d)) H') : spWord K [v] H Q E := by
  refine ⟨v, rfl, ?_⟩
  cases h with
  | str x h => exact .inl ⟨x, rfl, Nat.le_trans h.1 (by decide), k⟩
  | int i => exact .inr ⟨_, .base (.int i), kit_ty (by decide +kernel), k H (Same.refl H)⟩
  | bl b => exact .inr ⟨_, .base (.bl b), kit_ty (by decide +kernel), k H (Same.refl H)⟩
  | non => exact .inr ⟨_, .base .non, kit_ty (by decide +kernel), k H (Same.refl H)⟩
  | tup e r => exact .inr ⟨_, .base (.tup e), kit_ty (by decide +kernel), k H (Same.refl H)⟩
  | lst e r => exact .inr ⟨_, .base (.lst e), kit_ty (by decide +kernel), k H (Same.refl H)⟩
  | emp e => exact .inr ⟨_, .base (.dK e), kit_ty (by decide +kernel), k H (Same.refl H)⟩
/-- two things in a tuple -/
theorem two_of {H : Hp} {xs : List V} {ds : List PyData} (h : ObAll H xs ds) (l : xs.length = 2) : ∃ x y a b, xs = [x, y] ∧ ds = [a, b] ∧ Ob H x a ∧ Ob H y b := by
  cases h with
  | nil => cases l
  | cons p h =>
    cases h with
    | nil => cases l
    | cons q h =>
      cases h with
      | nil => exact ⟨_, _, _, _, rfl, rfl, p, q⟩
      | cons _ _ => simp at l
theorem nodeB_not {ds : List PyData} (l : ds.length ≠ 2) : nodeB (.tuple ds) = false := by
  match ds, l with
  | [], _ => rfl
  | [_], _ => rfl
  | [_, _], l => exact absurd rfl l
  | _ :: _ :: _ :: _, _ => rfl
theorem sideB_not {n : Int} {ds : List PyData} (l : ds.length ≠ 2) : sideB n (.tuple ds) = false := by
  match ds, l with
  | [], _ => rfl
  | [_], _ => rfl
  | [_, _], l => exact absurd rfl l
  | _ :: _ :: _ :: _, _ => rfl
end
end KN


set_option Elab.async false
set_option linter.all false
set_option maxRecDepth 100000
/-! set(t) of a tuple of unlike texts, and how many it has: any number of texts (the layer's own rule takes one at most). -/
namespace KS
open PySem PySem.Spec PyProof.Rows
/-- what the set holds behind the first i texts -/
def Has (xs : List Str) (i : Nat) : Str → Bool := fun y => (xs.take i).any (· == y)
theorem has_zero (xs : List Str) (y : Str) : Has xs 0 y = false := rfl
theorem has_next {xs : List Str} {i : Nat} (h : i < xs.length) (y : Str) : Has xs (i + 1) y = (Has xs i y || decide (y = xs.getD i Str.empty)) := by
  unfold Has
  rw [List.take_add_one, List.getElem?_eq_getElem h, List.any_append, List.getD_eq_getElem?_getD, List.getElem?_eq_getElem h]
  show (_ || [xs[i]].any (· == y)) = (_ || decide (y = xs[i]))
  congr 1
  by_cases e : y = xs[i]
  · rw [e]; simp
  · rw [decide_eq_false e]
    have e2 : ¬ xs[i] = y := fun z => e z.symm
    simp [e2]
theorem has_new {xs : List Str} (nd : xs.Nodup) {i : Nat} (h : i < xs.length) : Has xs i (xs.getD i Str.empty) = false := by
  cases q : Has xs i (xs.getD i Str.empty) with
  | false => rfl
  | true =>
    obtain ⟨y, hy, e⟩ := List.any_eq_true.mp q
    have e := eq_of_beq e
    obtain ⟨j, hj, ej⟩ := List.getElem_of_mem hy
    rw [List.length_take] at hj
    rw [List.getElem_take] at ej
    rw [List.getD_eq_getElem?_getD, List.getElem?_eq_getElem h] at e
    exact absurd (ej.trans e) (List.pairwise_iff_getElem.mp nd j i (by omega) h (by omega))
section
variable {p : Program} {w : World} {B : Around} {Z : Result → Shared → Prop} {it : Addr} {seen wrote : List Addr} {J : Array GenState → Array GenState → Prop} {m : Nat} {Is : Nat → Value → Prop} {At : Nat → Shared → Prop}
/-- the loop that puts the texts in -/
theorem puts_in (walk : WalksS p w B.in1 it seen wrote J m Is At) (a : Addr) (ha : a ∉ seen) (xs : List Str) (hl : xs.length = m) (few : m ≤ 60) (nd : xs.Nodup) (txt : ∀ i v, Is i v → ∃ t, v = .str (xs.getD i Str.empty) t) :
    ∀ (left i : Nat) (s : Shared), m - i = left → i ≤ m → At i s → s.heap.SetOf (strKind p w) a (Has xs i) i →
      (∀ z, Moved (a :: wrote) J s z → z.heap.SetOf (strKind p w) a (Has xs m) m → Z (.ok (.ret .none)) z) → codeAny (model p w) B (.builtin "set.update.loop" ⟨[.ref a, .ref it], []⟩) Z s := by
  have aw : a ∉ wrote := fun h => ha (walk.sub _ h)
  have inn : ∀ b ∈ wrote, b ∈ a :: wrote := fun b => List.mem_cons_of_mem a
  have stays : ∀ {x z : Shared} {S : Str → Bool} {c : Nat}, Moved wrote J x z → x.heap.SetOf (strKind p w) a S c → z.heap.SetOf (strKind p w) a S c := fun mv q => by
    obtain ⟨o, es, ep, t, ho, r⟩ := q
    exact ⟨o, es, ep, t, mv.heap a _ aw ho, r⟩
  intro left
  induction left with
  | zero =>
    intro i s e hi st hs fin
    obtain rfl : i = m := by omega
    refine codeAny_builtin F.entry_set_update_loop ?_
    rw [Around.under_plainId F.plain_set_update_loop _]
    show wpAny _ B.in1 (pyNext (.ref it) >>= _) _ _ s
    exact wpAny_bind (walk.done s _ _ st fun z mv => wpAny_pure (fin z (mv.mono inn) (stays mv hs)))
  | succ left ih =>
    intro i s e hi st hs fin
    have lt : i < m := by omega
    refine codeAny_builtin F.entry_set_update_loop ?_
    rw [Around.under_plainId F.plain_set_update_loop _]
    show wpAny _ B.in1 (pyNext (.ref it) >>= _) _ _ s
    refine wpAny_bind (walk.item i s _ _ lt st fun v z pv st2 mv => ?_)
    obtain ⟨t, rfl⟩ := txt i v pv
    show wpAny _ B.in1 (holding [Value.str (xs.getD i Str.empty) t] (setAdd a (.str (xs.getD i Str.empty) t)) >>= _) _ _ z
    refine wpAny_bind (wpAny_holding ?_)
    unfold setAdd
    refine wpAny_holding (wpAny_bind ((strKind p w).pyHash (k := xs.getD i Str.empty) (strKind_is _ _ _ _) ?_))
    refine wpAny_setAddHashed_of (knd := strKind p w) (s := { z with toks := z.toks + 1 }) (strKind_is _ _ _ _) rfl (show z.heap.SetOf (strKind p w) a (Has xs i) i from stays mv hs) (by unfold scanBound; omega) fun h2 sb hs2 => ?_
    have hs3 : h2.SetOf (strKind p w) a (Has xs (i + 1)) (i + 1) := by
      refine SetOf_congr hs2 (fun y => (has_next (by omega) y).symm) ?_
      rw [has_new nd (by omega)]; rfl
    refine wpAny_pure ⟨plainId_quiet F.plain_set_update_loop _, ih (i + 1) _ (by omega) lt (walk.frame _ z _ _ st2 (Nat.le_succ _) fun b hb o eo => ?_) hs3 fun z2 mv2 hz2 => ?_⟩
    · rw [sb.2 b fun h => ha (h ▸ hb)]; exact eo
    · refine fin z2 (Moved.trans walk.gtrans ((mv.mono inn).then_heap (Nat.le_succ _) fun b o hb eo => ?_) mv2) hz2
      rw [sb.2 b fun h => hb (h ▸ List.mem_cons_self)]; exact eo
end
section
variable {p : Program} {w : World} {B : Around} {E : Value → Shared → Prop} {s : Shared}
set_option maxHeartbeats 3200000 in
/-- set(t), t a tuple of unlike texts -/
theorem set_tup {l : Addr} {its : Array Value} {xs : List Str} {Q : Value → Shared → Prop} (calm : B.handled = none) (tl : s.heap.IsTuple l its) (ts : StrsAre its.toList xs) (few : xs.length ≤ 60) (nd : xs.Nodup)
    (fin : ∀ (g : Heap) (tk : Nat), g.SetOf (strKind p w) s.heap.objs.size (Has xs xs.length) xs.length → (∀ b o, b < s.heap.objs.size → s.heap.get? b = some o → g.get? b = some o) → Q (.ref s.heap.objs.size) { s with heap := g, toks := tk }) :
    wpAny (model p w) B (call (.type "set") [.ref l]) Q E s := by
  have hlen : xs.length = its.size := by rw [← StrsAre.len_eq ts, Array.length_toList]
  obtain ⟨c0, t0, q0⟩ := PySem.F.called_set.mro
  have q1 := PySem.F.called_set.made
  have q2 := PySem.F.called_set.sub
  refine wpAny_call (codeAny_of_tree ?_)
  show wpAny _ _ (callAny (.type "set") _) _ _ _
  refine wpAny_pure ⟨Code.quiet_builtin _ (by decide +kernel), codeAny_builtin PySem.F.entry_type_call ?_⟩
  rw [Around.under_plain (weight_type_call_type "set" [.ref l] []) rfl]
  have q3 := PySem.F.called_set.notType
  have q4 := PySem.F.called_set.canCreate
  have q5 := PySem.F.typeCall_set_1 (.ref l)
  repeat (any_goals (first | assumption | wp_step))
  refine codeAny_mono (code_set_new_1 (.ref l) (E := E) (Q₁ := fun v z => ∃ led : Bool, v = .ref s.heap.objs.size ∧ z = { s with heap := s.heap.push { cls := .type "set", dict := none, data := .set #[] 0 (.fresh 0 0 led) } }) fun led => ⟨led, rfl, rfl⟩) fun r z hz => ?_
  rcases r with e | fl
  · exact hz
  cases fl
  case ret v =>
    obtain ⟨led, rfl, rfl⟩ := hz
    -- the new set at a, the tuple as it was
    have fresh : (s.heap.push { cls := .type "set", dict := none, data := .set #[] 0 (.fresh 0 0 led) }).get? s.heap.objs.size = some { cls := .type "set", dict := none, data := .set #[] 0 (.fresh 0 0 led) } := Heap.get?_push_size _ rfl
    have isSet : Shared.TypeIs { s with heap := s.heap.push { cls := .type "set", dict := none, data := .set #[] 0 (.fresh 0 0 led) } } (.ref s.heap.objs.size) "set" := ⟨_, fresh, rfl⟩
    have q6 := PySem.F.called_set.init.lookup
    have q7 := PySem.F.called_set.init.bind (.ref s.heap.objs.size)
    have tl2 : (s.heap.push { cls := .type "set", dict := none, data := .set #[] 0 (.fresh 0 0 led) }).IsTuple l its := tl.push _
    have below : l < s.heap.objs.size := let ⟨_, h, _⟩ := tl; Heap.lt_size h
    repeat (any_goals (first | assumption | wp_step))
    refine codeAny_mono (codeAny_call_builtin (R := wants (fun v z => v = .none ∧ ∃ g tk, z = { s with heap := g, toks := tk } ∧ g.SetOf (strKind p w) s.heap.objs.size (Has xs xs.length) xs.length ∧
      ∀ b o, b < s.heap.objs.size → s.heap.get? b = some o → g.get? b = some o) E) PySem.F.called_set.init.plain PySem.F.entry_set_init (check_set_init_1 isSet ?_)) fun r z hz => ?_
    · obtain ⟨⟨c, dd, dt, sl⟩, hol, hc, nl, hd⟩ := tl
      simp only at hc hd
      subst hc
      subst hd
      have q8 := PySem.F.sub_tuple_set
      have q9 := PySem.F.sub_tuple_frozenset
      have qa : (Value.type "tuple" == Value.type "dict") = false := by decide
      have seenL : (s.heap.push { cls := .type "set", dict := none, data := .set #[] 0 (.fresh 0 0 led) }).get? l = some { cls := .type "tuple", dict := dd, data := .seq its nl, slots := sl } := Heap.get?_push_of_some _ hol
      unfold Builtin.«set.__init__» noKeywords Builtin.Frozenset.updateFrom
      generalize hIt : pyIter = It
      wp_walk
      subst hIt
      refine wpAny_pyIter_tuple tl2 (wpAny_bind (wpAny_runValue ?_))
      have szP : (s.heap.push { cls := .type "set", dict := none, data := .set #[] 0 (.fresh 0 0 led) }).objs.size = s.heap.objs.size + 1 := Heap.size_push ..
      have lI : l ≠ (s.heap.push { cls := .type "set", dict := none, data := .set #[] 0 (.fresh 0 0 led) }).objs.size := by rw [szP]; exact Nat.ne_of_lt (Nat.lt_succ_of_lt below)
      have aOut : s.heap.objs.size ∉ [(s.heap.push { cls := .type "set", dict := none, data := .set #[] 0 (.fresh 0 0 led) }).objs.size, l] := by
        rw [szP]
        intro h
        rcases List.mem_cons.mp h with e | h
        · exact absurd e (Nat.ne_of_lt (Nat.lt_succ_self _))
        · exact absurd (List.mem_singleton.mp h).symm (Nat.ne_of_lt below)
      have txt : ∀ (i : Nat) (v : Value), its[i]? = some v → ∃ t, v = .str (xs.getD i Str.empty) t := fun i v hv => SS.strs_at ts i v (by rw [Array.getElem?_toList]; exact hv)
      have quiet3 : B.in1.in1.in1.handled = none := by simp [calm]
      refine puts_in ((Walks.tuple quiet3 _ l lI its).toS) s.heap.objs.size aOut xs hlen (by omega) nd txt (its.size - 0) 0 _ rfl (Nat.zero_le _) ⟨⟨_, Heap.get?_push_size _ rfl, rfl, rfl⟩, tl2.push _⟩ ?_ ?_
      · have kept : ((s.heap.push { cls := .type "set", dict := none, data := .set #[] 0 (.fresh 0 0 led) }).push { cls := .type "tuple_iterator", data := .fields #[.ref l, .int 0 0] }).get? s.heap.objs.size = some { cls := .type "set", dict := none, data := .set #[] 0 (.fresh 0 0 led) } := Heap.get?_push_of_some _ fresh
        exact SetOf_congr ((setObjOf_fresh (knd := strKind p w) led).setOf kept (by unfold scanBound; omega)) (fun _ => rfl) rfl
      · rintro ⟨g, gn, dr, tk, os⟩ mv hg
        obtain rfl : gn = s.gens := mv.gens
        obtain rfl : dr = s.drawn := mv.drawn
        obtain rfl : os = s.os := mv.os
        show wpAny _ _ _ _ _ _
        refine wpAny_pure ?_
        show wpAny _ _ (ret Value.none) _ _ _
        refine wpAny_pure ⟨rfl, g, tk, rfl, by rw [hlen]; exact hg, fun b o hb e => ?_⟩
        refine mv.heap b o (fun h => ?_) (Heap.get?_push_of_some _ (Heap.get?_push_of_some _ e))
        rcases List.mem_cons.mp h with e2 | h
        · exact absurd e2 (Nat.ne_of_lt hb)
        · have e3 := List.mem_singleton.mp h
          rw [szP] at e3
          exact absurd e3 (Nat.ne_of_lt (Nat.lt_succ_of_lt hb))
    · rcases r with e | fl
      · exact hz
      cases fl
      case ret v =>
        obtain ⟨rfl, g, tk, rfl, hg, hk⟩ := hz
        repeat (any_goals (first | assumption | wp_step))
        exact fin _ _ hg hk
      all_goals exact hz.elim
  all_goals exact hz.elim
end
end KS
namespace KN
open PySem PySem.Spec PyProof.Rows L2
/-- len(set(t)), t a tuple of unlike texts -/
def tLenSetT (K : PySem.W.Frag) (ta : TE) : TE := fun σ H Q => ta σ H fun x H1 => ∃ l, ∃ ss : List Str, x = .ref l ∧ SqT K H1 l (ss.map V.str) ∧ ss.length ≤ 60 ∧ ss.Nodup ∧ Q (.int ss.length) H1
theorem pe_lenSetT {X : Cx} {a : Expr} {ta : TE} {p p2 q pos : Pos} (calm : X.calm = true) (g1 : Gl X "len") (m1 : X.mg "len" = none) (g2 : Gl X "set") (m2 : X.mg "set" = none) (ha : PE X a ta)
    (one : starEach [a] X.env = (false, eval a X.env) :: starEach [] X.env := by rfl) : PE X (.Call (.Name "len" p) [.Call (.Name "set" p2) [a] [] q] [] pos) (tLenSetT X.K ta) := ⟨fun pins s σ H Q I h => by
  refine Call_ (ld_blt I g1 m1 boot_len (callWith_builtin1 (args_cons ?_ rfl) rfl rfl))
  refine Call_ (ld_blt I g2 m2 boot_set (callWith_type1 (args_cons (thn (ha.run pins s σ H _ I h) fun v z ⟨x, H1, J, rx, k⟩ => args_nil ?_) one) one rfl))
  obtain ⟨l, ss, rfl, sq, few, nd, k⟩ := k
  obtain rfl : v = Value.ref l := rx
  obtain ⟨its, r, pl, _⟩ := J.tuple sq
  refine KS.set_tup (J.ok.hd calm) pl (by simpa using strsAre_of r) few nd fun g tk hs keep => args_nil ?_
  obtain ⟨o, es, ep, t, ho, hex, hd, _, _, _, hf, hn⟩ := hs
  have J2 : Inv X pins σ H1 { z with heap := g, toks := tk } := J.kept fun b o e => keep b o (Heap.lt_size e) e
  exact call_len_set ho hex hd hf (by rw [hn] <;> omega) ⟨.int ss.length, H1, J2.tok _, ⟨_, by rw [hn]⟩, k⟩⟩
end KN

set_option Elab.async false
set_option linter.all false
set_option maxRecDepth 100000
set_option maxHeartbeats 4000000
namespace KN
open PySem L2
section
variable {P : Program} {w : World} {K : PySem.W.Frag} {mg : Str → Option Value} {base : Heap}
theorem sc_is_moment : FnScope ["thing"] ["thing"] (defScope s_is_moment) := ⟨rfl, rfl, rfl, by decide +kernel, rfl, by decide +kernel, by decide +kernel⟩
theorem ok_is_moment {f : Addr} {fd : FuncData} (F : Fun K "is_moment" "is_moment" s_is_moment f fd) (m_isinstance : mg "isinstance" = none) (m_tuple : mg "tuple" = none) (m_len : mg "len" = none)
    (g_MOST : ∃ u, mg "MOST" = some u ∧ RelV (.int 1000000000000) u) (c_is_number : C8.Cal P w K mg base 1 "is_number" (spNumber K) []) : FnOk P w K mg base CX0 2 f fd ["thing"] spMoment := by
  refine F.ok sc_is_moment (fun vs H Q E h => ?_) (fun cdv A outer s H vs Q E hr h => ?_)
  · obtain ⟨a, m, rfl, _⟩ := h; rfl
  · obtain ⟨a, m, rfl, ha, hm, k⟩ := h
    refine ⟨_, (pss_cons (ps_if (PW.pt (pw_or (pt_not (pt_val (pe_callB call_isi (by rfl) m_isinstance (by decide +kernel) (pa_cons (pv 0) (pa_cons (pe_bltn (v := .ty "tuple") (u := .type "tuple") rfl m_tuple (by decide +kernel) rfl) pa_nil))))) (pw_or1 (pt_cmpR op_ne (pe_callB call_len_seq (by rfl) m_len (by decide +kernel) (pa_cons (pv 0) pa_nil)) pe_int (nomark _))))) (pss_one (ps_ret pe_bl)) pss_nil)
      (pss_one (ps_ret (pe_and (C8.pe_c c_is_number hr (by decide) rfl (pa_cons (pe_ix ix_tup (pv 0) pe_int (fun _ _ => rfl)) (pa_cons pe_int (pa_cons (C8.pe_gc rfl g_MOST) pa_nil)))) (pe_one (C8.pe_c c_is_number hr (by decide) rfl (pa_cons (pe_ix ix_tup (pv 0) pe_int (fun _ _ => rfl)) (pa_cons pe_int (pa_cons (C8.pe_gc rfl g_MOST) pa_nil))))))))), ?_⟩
    unfold MoOk at hm
    refine ⟨_, rfl, _, _, _, _, true, rfl, .ty _, .base (.tup ha), kit_ty (by decide +kernel), _, rfl, iteF ?_⟩
    refine ⟨_, rfl, _, _, rfl, .inr (SqT.of ha), rfl, _, rfl, ?_⟩
    refine iteF ?_
    have go : ∀ i : Int, 0 ≤ i → i ≤ 1000000000000 → (decide ((0 : Int) ≤ i) && decide (i ≤ 1000000000000)) = true := fun i h1 h2 => by rw [decide_eq_true h1, decide_eq_true h2]; rfl
    have go1 : ∀ i : Int, 1 ≤ i → i ≤ 1000000000000 → (decide ((1 : Int) ≤ i) && decide (i ≤ 1000000000000)) = true := fun i h1 h2 => by rw [decide_eq_true h1, decide_eq_true h2]; rfl
    refine ⟨_, rfl, _, _, _, _, rfl, rfl, SqT.of ha, (by exact at_of (j := 0) rfl rfl), _, _, _, rfl, .inl ⟨_, rfl, ?_⟩⟩
    rw [go _ hm.1 (by omega)]
    refine ⟨_, rfl, iteT ?_⟩
    refine ⟨_, rfl, _, _, _, _, rfl, rfl, SqT.of ha, (by exact at_of (j := 1) rfl rfl), _, _, _, rfl, .inl ⟨_, rfl, ?_⟩⟩
    rw [go1 _ hm.2.2.1 (by omega)]
    exact k
theorem sc_is_list : FnScope ["thing"] ["thing"] (defScope s_is_list) := ⟨rfl, rfl, rfl, by decide +kernel, rfl, by decide +kernel, by decide +kernel⟩
theorem ok_is_list {f : Addr} {fd : FuncData} (F : Fun K "is_list" "is_list" s_is_list f fd) (m_isinstance : mg "isinstance" = none) (m_tuple : mg "tuple" = none) (m_list : mg "list" = none) : FnOk P w K mg base CX0 1 f fd ["thing"] spList := by
  refine F.ok sc_is_list (fun vs H Q E h => ?_) (fun cdv A outer s H vs Q E hr h => ?_)
  · obtain ⟨a, rfl, _⟩ := h; rfl
  · obtain ⟨a, rfl, ha, k⟩ := h
    refine ⟨_, (pss_one (ps_ret (pe_callB call_isiT (by rfl) m_isinstance (by decide +kernel) (pa_cons (pv 0) (pa_cons (pe_tup (pa_cons (pe_bltn (v := .ty "list") (u := .type "list") rfl m_list (by decide +kernel) rfl) (pa_cons (pe_bltn (v := .ty "tuple") (u := .type "tuple") rfl m_tuple (by decide +kernel) rfl) pa_nil))) pa_nil))))), ?_⟩
    refine ⟨_, rfl, by show 2 ≤ sizeLine; decide, fun T hT => ?_⟩
    rcases ha with ⟨xs, ha⟩ | ⟨xs, ha⟩
    · refine ⟨_, T, _, _, _, true, rfl, upd_same, .cons (.ty _) (.cons (.ty _) .nil), .base (.tup (by rw [upd_ne (ne_of_none ha hT)]; exact ha)), kitAny_cons (kit_ty (b := "list") (r := false) (by decide +kernel)) (fun _ => kitAny_cons (kit_ty (b := "tuple") (r := true) (by decide +kernel)) (fun z => by cases z) fun _ => rfl) (fun z => by cases z), k _ (Same.new hT)⟩
    · refine ⟨_, T, _, _, _, true, rfl, upd_same, .cons (.ty _) (.cons (.ty _) .nil), .base (.lst (by rw [upd_ne (ne_of_none ha hT)]; exact ha)), kitAny_cons (kit_ty (b := "list") (r := true) (by decide +kernel)) (fun z => by cases z) (fun _ => rfl), k _ (Same.new hT)⟩
theorem sc_are_sheets : FnScope ["thing", "sheet"] ["thing"] (defScope s_are_sheets) := ⟨rfl, rfl, rfl, by decide +kernel, rfl, by decide +kernel, by decide +kernel⟩
theorem ok_are_sheets {f : Addr} {fd : FuncData} (F : Fun K "are_sheets" "are_sheets" s_are_sheets f fd) (m_len : mg "len" = none) (m_set : mg "set" = none) (m_all : mg "all" = none)
    (c_is_list : C8.Cal P w K mg base 1 "is_list" spList []) (c_is_word : C8.Cal P w K mg base 1 "is_word" (spWord K) []) : FnOk P w K mg base CX0 2 f fd ["thing"] spSheets := by
  refine F.ok sc_are_sheets (fun vs H Q E h => ?_) (fun cdv A outer s H vs Q E hr h => ?_)
  · obtain ⟨a, z, rfl, _⟩ := h; rfl
  · obtain ⟨a, ss, rfl, ha, ⟨hne, hl, hnd, hz⟩, k⟩ := h
    refine ⟨_, (pss_cons (ps_if (PW.pt (pw_or (pt_not (pt_val (C8.pe_c c_is_list hr (by decide) rfl (pa_cons (pv 0) pa_nil)))) (pw_or (pt_cmpR op_eq (pe_callB call_len_seq (by rfl) m_len (by decide +kernel) (pa_cons (pv 0) pa_nil)) pe_int (nomark _)) (pw_or1 (pt_not (pt_val (pe_callB (cr_all rfl) (by rfl) m_all (by decide +kernel) (pa_cons (pe_lc (own := [("sheet", 1)]) (g := gName 1) (tt := tYes) rfl sc_are_sheets.nd (pi_tup (pv 0)) (blkOk_by (own := [("sheet", 1)]) (N := ["thing", "sheet"]) (sc := defScope s_are_sheets) (by decide +kernel)) (fun _ _ _ _ _ => pg_name (i := 1) sc_are_sheets.nd rfl (Or.inl rfl)) (fun _ _ _ _ _ => pts_nil) (fun _ _ _ _ _ => (C8.pe_c c_is_word hr (by decide) rfl (pa_cons (pv 1) pa_nil)))) pa_nil)))))))) (pss_one (ps_ret pe_bl)) pss_nil)
      (pss_one (ps_ret (pe_cmpR op_eq (pe_lenSetT rfl rfl m_len rfl m_set (pv 0)) (pe_callB call_len_seq (by rfl) m_len (by decide +kernel) (pa_cons (pv 0) pa_nil)) (nomark _))))), ?_⟩
    have hpos : 0 < ss.length := List.length_pos_iff.mpr hne
    refine ⟨_, rfl, a, rfl, .inl ⟨_, ha⟩, fun H1 s1 => ?_⟩
    refine ⟨_, rfl, iteF ?_⟩
    refine ⟨_, rfl, _, _, rfl, .inr (SqT.of (s1 _ _ ha)), rfl, _, rfl, ?_⟩
    rw [decide_eq_false (fun z => by injection z with z; rw [List.length_map] at z; omega)]
    refine iteF ?_
    refine ⟨_, rfl, a, rfl, ⟨_, SqT.of (s1 _ _ ha)⟩, fun D hD => ?_⟩
    refine lc_tup (K := K) (a := a) (xs := ss.map V.str) (fun i H' => Same H1 H' ∧ ∃ bs : List Bool, H' D = some (.lst (bs.map V.bl)) ∧ bs.length = i ∧ bs.all id = true)
      ⟨Same.new hD, [], upd_same, rfl, rfl⟩ (fun i H' _ q => SqT.of (q.1 _ _ (s1 _ _ ha))) ?_ ?_
    · rintro i x H2 hi ⟨s2, bs, e2, l2, a2⟩
      rw [List.getElem?_map] at hi
      obtain ⟨z, hz1, rfl⟩ : ∃ z, ss[i]? = some z ∧ x = .str z := by
        cases e : ss[i]? with
        | none => rw [e] at hi; cases hi
        | some z => rw [e] at hi; exact ⟨z, rfl, (Option.some.inj hi).symm⟩
      have hw := hz z (List.mem_of_getElem? hz1)
      have hlt : i < ss.length := (List.getElem?_eq_some_iff.mp hz1).1
      refine ⟨rfl, _, rfl, _, rfl, .inl ⟨z, rfl, by rw [slen]; exact Nat.le_trans hw.2.1 (by decide), fun H3 s3 => ?_⟩⟩
      rw [isWB_iff.mpr hw]
      refine ⟨_, s3 _ _ e2, by rw [List.length_map, l2]; exact small1000 (by omega), fun b o e => ?_, bs ++ [true], by rw [upd_same, List.map_append]; rfl, by rw [List.length_append, l2]; rfl, by rw [List.all_append, a2]; rfl⟩
      rw [upd_ne (ne_of_none e hD)]; exact s3 _ _ (s2 _ _ e)
    · rintro H2 ⟨s2, bs, e2, l2, a2⟩
      refine ⟨D, bs, rfl, SqL.of e2, _, rfl, ?_⟩
      rw [a2]
      refine iteF ?_
      refine ⟨_, rfl, a, ss, rfl, SqT.of (s2 _ _ (s1 _ _ ha)), hl, hnd, ?_⟩
      refine ⟨_, rfl, _, _, rfl, .inr (SqT.of (s2 _ _ (s1 _ _ ha))), rfl, ?_⟩
      have e : decide (V.int (ss.length : Int) = V.int ((ss.map V.str).length : Int)) = true := decide_eq_true (by rw [List.length_map])
      show Q (.bl (decide (V.int (ss.length : Int) = V.int ((ss.map V.str).length : Int)))) H2
      rw [e]
      exact k _ (s1.trans s2)
theorem sc_is_there : FnScope ["moment", "upto"] ["moment", "upto"] (defScope s_is_there) := ⟨rfl, rfl, rfl, by decide +kernel, rfl, by decide +kernel, by decide +kernel⟩
theorem ok_is_there {f : Addr} {fd : FuncData} (F : Fun K "is_there" "is_there" s_is_there f fd) : FnOk P w K mg base CX0 1 f fd ["moment", "upto"] spThere := by
  refine F.ok sc_is_there (fun vs H Q E h => ?_) (fun cdv A outer s H vs Q E hr h => ?_)
  · obtain ⟨a, m, v, u, rfl, _⟩ := h; rfl
  · obtain ⟨a, m, v, u, rfl, ha, hu, k⟩ := h
    refine ⟨_, (pss_one (ps_ret (pe_or (pe_cmpR op_isN (pv 1) pe_non (nomark _)) (pe_one (pe_cmpR (op_leT hr.units0) (pv 0) (pv 1) (nomark _)))))), ?_⟩
    cases u with
    | none =>
      cases (show v = .non from hu)
      exact ⟨_, rfl, rfl, _, rfl, iteT k⟩
    | some u =>
      obtain ⟨b, rfl, hb⟩ := hu
      refine ⟨_, rfl, rfl, _, rfl, iteF ?_⟩
      refine ⟨_, rfl, _, rfl, a, b, [m.1, m.2], [u.1, u.2], rfl, rfl, SqT.of ha, SqT.of hb, ?_⟩
      rw [lex2]; exact k
theorem sc_refuse_new : FnScope ["moment", "entries"] ["moment", "entries"] (defScope s_refuse_new) := ⟨rfl, rfl, rfl, by decide +kernel, rfl, by decide +kernel, by decide +kernel⟩
theorem ok_refuse_new {f : Addr} {fd : FuncData} (F : Fun K "refuse_new" "refuse_new" s_refuse_new f fd) (c_is_moment : C8.Cal P w K mg base 2 "is_moment" spMoment []) : FnOk P w K mg base CX0 3 f fd ["moment", "entries"] spNew := by
  refine F.ok sc_refuse_new (fun vs H Q E h => ?_) (fun cdv A outer s H vs Q E hr h => ?_)
  · obtain ⟨a, d, m, kvs, rfl, _⟩ := h; rfl
  · obtain ⟨a, d, m, kvs, rfl, ha, hm, hd, hn, k⟩ := h
    have hu := hu_of hr
    refine ⟨_, (pss_cons (ps_if (pt_not (pt_val (C8.pe_c c_is_moment hr (by decide) rfl (pa_cons (pv 0) pa_nil)))) (pss_one ps_never) pss_nil)
      (pss_one (ps_if (pt_cmp (pc_din hu (pv 0) (pv 1))) (pss_one ps_never) pss_nil))), ?_⟩
    refine ⟨_, rfl, a, m, rfl, ha, hm, _, rfl, iteF ?_⟩
    refine ⟨_, rfl, _, rfl, d, _, rfl, DGet.m hd ha, _, rfl, ?_⟩
    rw [hn]
    exact iteF k
end
end KN


set_option Elab.async false
set_option linter.all false
set_option maxRecDepth 100000
/-! Links and what they lead to: plain mathematics. -/
namespace KN
open PySem L2
/-- (mark, from, to) -/
abbrev Lnk := Mo × Mo × Mo
def lD (l : Lnk) : PyData := .tuple [mD l.1, mD l.2.1, mD l.2.2]
theorem okD_l (l : Lnk) : okD (lD l) = true := rfl
theorem lD_inj {a b : Lnk} (h : lD a = lD b) : a = b := by
  unfold lD at h
  injection h with h
  injection h with h1 h
  injection h with h2 h
  injection h with h3 _
  exact Prod.ext (mD_inj h1) (Prod.ext (mD_inj h2) (mD_inj h3))
inductive Rch (ls : List Lnk) (s : Mo) : Mo → Prop
  | refl : Rch ls s s
  | step {b : Mo} {l : Lnk} : Rch ls s b → l ∈ ls → l.2.1 = b → Rch ls s l.2.2
theorem Rch.mono {ls ls' : List Lnk} (h : ∀ l ∈ ls, l ∈ ls') {s a : Mo} (r : Rch ls s a) : Rch ls' s a := by
  induction r with
  | refl => exact .refl
  | step _ hl e ih => exact .step ih (h _ hl) e
theorem Rch.trans {ls : List Lnk} {a b c : Mo} (h : Rch ls a b) (k : Rch ls b c) : Rch ls a c := by
  induction k with
  | refl => exact h
  | step _ hl e ih => exact .step ih hl e
structure Bfs (ls : List Lnk) (s : Mo) (ns ws : List Mo) : Prop where
  start : s ∈ ns
  sub : ∀ n ∈ ns, Rch ls s n
  wsub : ∀ n ∈ ws, n ∈ ns
  clo : ∀ n ∈ ns, n ∉ ws → ∀ l ∈ ls, l.2.1 = n → l.2.2 ∈ ns
structure BfsI (ls : List Lnk) (s a : Mo) (i : Nat) (ns ws : List Mo) : Prop where
  start : s ∈ ns
  sub : ∀ n ∈ ns, Rch ls s n
  wsub : ∀ n ∈ ws, n ∈ ns
  here : a ∈ ns
  clo : ∀ n ∈ ns, n ∉ ws → n ≠ a → ∀ l ∈ ls, l.2.1 = n → l.2.2 ∈ ns
  own : ∀ l ∈ ls.take i, l.2.1 = a → l.2.2 ∈ ns
theorem Bfs.init (ls : List Lnk) (s : Mo) : Bfs ls s [s] [s] :=
  ⟨List.mem_singleton.mpr rfl, fun n h => by rw [List.mem_singleton] at h; subst h; exact .refl, fun _ h => h, fun n h k => absurd h k⟩
theorem Bfs.pop {ls : List Lnk} {s a : Mo} {ns ws : List Mo} (b : Bfs ls s ns (a :: ws)) : BfsI ls s a 0 ns ws :=
  ⟨b.start, b.sub, fun n h => b.wsub n (List.mem_cons_of_mem _ h), b.wsub a List.mem_cons_self, fun n h k e => b.clo n h fun z => (List.mem_cons.mp z).elim e k, fun l h => by rw [List.take_zero] at h; cases h⟩
theorem BfsI.done {ls : List Lnk} {s a : Mo} {ns ws : List Mo} (b : BfsI ls s a ls.length ns ws) : Bfs ls s ns ws :=
  ⟨b.start, b.sub, b.wsub, fun n h k l hl e => by
    by_cases q : n = a
    · exact b.own l (by rw [List.take_length]; exact hl) (e.trans q)
    · exact b.clo n h k q l hl e⟩
theorem BfsI.skip {ls : List Lnk} {s a : Mo} {i : Nat} {ns ws : List Mo} {l : Lnk} (b : BfsI ls s a i ns ws) (hl : ls[i]? = some l) (h : l.2.1 = a → l.2.2 ∈ ns) : BfsI ls s a (i + 1) ns ws :=
  ⟨b.start, b.sub, b.wsub, b.here, b.clo, fun l' h' e => by
    rw [List.take_add_one, hl] at h'
    rcases List.mem_append.mp h' with q | q
    · exact b.own l' q e
    · rw [Option.toList_some, List.mem_singleton] at q; subst q; exact h e⟩
theorem BfsI.add {ls : List Lnk} {s a : Mo} {i : Nat} {ns ws : List Mo} {l : Lnk} (b : BfsI ls s a i ns ws) (hl : ls[i]? = some l) (h : l.2.1 = a) : BfsI ls s a (i + 1) (ns ++ [l.2.2]) (ws ++ [l.2.2]) where
  start := List.mem_append_left _ b.start
  sub := fun n hn => by
    rcases List.mem_append.mp hn with q | q
    · exact b.sub n q
    · rw [List.mem_singleton] at q; subst q
      exact .step (b.sub a b.here) (List.mem_of_getElem? hl) h
  wsub := fun n hn => by
    rcases List.mem_append.mp hn with q | q
    · exact List.mem_append_left _ (b.wsub n q)
    · exact List.mem_append_right _ q
  here := List.mem_append_left _ b.here
  clo := fun n hn hw ha l' hl' e => by
    rcases List.mem_append.mp hn with q | q
    · exact List.mem_append_left _ (b.clo n q (fun z => hw (List.mem_append_left _ z)) ha l' hl' e)
    · exact absurd (List.mem_append_right _ q) hw
  own := fun l' h' e => by
    rw [List.take_add_one, hl] at h'
    rcases List.mem_append.mp h' with q | q
    · exact List.mem_append_left _ (b.own l' q e)
    · rw [Option.toList_some, List.mem_singleton] at q; subst q; exact List.mem_append_right _ (List.mem_singleton.mpr rfl)
theorem Bfs.all {ls : List Lnk} {s g : Mo} {ns : List Mo} (b : Bfs ls s ns []) : g ∈ ns ↔ Rch ls s g := by
  refine ⟨b.sub g, fun r => ?_⟩
  induction r with
  | refl => exact b.start
  | step _ hl e ih => exact b.clo _ ih (by simp) _ hl e
def Unv (ls : List Lnk) (ns : List Mo) : Nat := (ls.filter fun l => decide (l.2.2 ∉ ns)).length
theorem Unv.le (ls : List Lnk) (ns : List Mo) (c : Mo) : Unv ls (ns ++ [c]) ≤ Unv ls ns := by
  unfold Unv
  induction ls with
  | nil => exact Nat.le_refl _
  | cons l ls ih =>
    rw [List.filter_cons, List.filter_cons]
    by_cases h : l.2.2 ∈ ns
    · have h' : l.2.2 ∈ ns ++ [c] := List.mem_append_left _ h
      simp only [h, h', not_true, decide_false, if_neg (by decide : ¬ (false = true))]
      exact ih
    · by_cases h' : l.2.2 ∈ ns ++ [c]
      · simp only [h, h', not_true, not_false_iff, decide_false, decide_true, if_true, if_neg (by decide : ¬ (false = true)), List.length_cons]
        omega
      · simp only [h, h', not_false_iff, decide_true, if_true, List.length_cons]
        omega
theorem Unv.lt {ls : List Lnk} {ns : List Mo} {l : Lnk} (hl : l ∈ ls) (h : l.2.2 ∉ ns) : Unv ls (ns ++ [l.2.2]) + 1 ≤ Unv ls ns := by
  induction ls with
  | nil => cases hl
  | cons k ls ih =>
    have le := Unv.le ls ns l.2.2
    unfold Unv at ih le ⊢
    rw [List.filter_cons, List.filter_cons]
    rcases List.mem_cons.mp hl with rfl | hl
    · have h' : l.2.2 ∈ ns ++ [l.2.2] := List.mem_append_right _ (List.mem_singleton.mpr rfl)
      simp only [h, h', not_true, not_false_iff, decide_false, decide_true, if_true, if_neg (by decide : ¬ (false = true)), List.length_cons]
      omega
    · have ih := ih hl
      by_cases q : k.2.2 ∈ ns
      · have q' : k.2.2 ∈ ns ++ [l.2.2] := List.mem_append_left _ q
        simp only [q, q', not_true, decide_false, if_neg (by decide : ¬ (false = true))]
        exact ih
      · by_cases q' : k.2.2 ∈ ns ++ [l.2.2]
        · simp only [q, q', not_true, not_false_iff, decide_false, decide_true, if_true, if_neg (by decide : ¬ (false = true)), List.length_cons]
          omega
        · simp only [q, q', not_false_iff, decide_true, if_true, List.length_cons]
          omega
theorem Unv.len (ls : List Lnk) (ns : List Mo) : Unv ls ns ≤ ls.length := List.length_filter_le _ _

/-! dicts by moments -/
theorem valV_ks {kvs : List (List Key × V)} {ns : List Mo} (h : kvs.map (·.1) = ns.map mK) (m : Mo) : (valV kvs (mK m)).isSome = decide (m ∈ ns) := by
  induction kvs generalizing ns with
  | nil =>
    cases ns with
    | nil => rfl
    | cons n ns => cases h
  | cons q kvs ih =>
    cases ns with
    | nil => cases h
    | cons n ns =>
      rw [List.map_cons, List.map_cons] at h
      injection h with h1 h2
      by_cases e : n = m
      · subst e
        rw [valV_pos h1, decide_eq_true List.mem_cons_self]; rfl
      · rw [valV_neg (fun z => e (mK_inj (h1.symm.trans z))), ih h2]
        have : m ∈ n :: ns ↔ m ∈ ns := by
          rw [List.mem_cons]; exact ⟨fun z => z.elim (fun y => absurd y.symm e) id, .inr⟩
        by_cases q : m ∈ ns
        · rw [decide_eq_true q, decide_eq_true (this.mpr q)]
        · rw [decide_eq_false q, decide_eq_false (fun z => q (this.mp z))]
theorem valV_mem {κ : Type} [DecidableEq κ] {kvs : List (κ × V)} {k : κ} {v : V} (h : valV kvs k = some v) : (k, v) ∈ kvs := by
  induction kvs with
  | nil => cases h
  | cons q kvs ih =>
    by_cases e : q.1 = k
    · rw [valV_pos e] at h
      cases h
      subst e
      exact List.mem_cons_self
    · rw [valV_neg e] at h
      exact List.mem_cons_of_mem _ (ih h)
theorem Tp.ln_inv {H : Hp} {v : V} {l : Lnk} (h : Tp H v (lD l)) : ∃ t a b c, v = .ref t ∧ H t = some (.tup [.ref a, .ref b, .ref c]) ∧ H a = some (.tup [.int l.1.1, .int l.1.2]) ∧ H b = some (.tup [.int l.2.1.1, .int l.2.1.2]) ∧ H c = some (.tup [.int l.2.2.1, .int l.2.2.2]) := by
  obtain ⟨t, xs, rfl, e, r⟩ := Tp.inv h
  cases r with
  | cons h1 r =>
    cases r with
    | cons h2 r =>
      cases r with
      | cons h3 r =>
        cases r
        obtain ⟨a, rfl, ha⟩ := Tp.mo_inv h1
        obtain ⟨b, rfl, hb⟩ := Tp.mo_inv h2
        obtain ⟨c, rfl, hc⟩ := Tp.mo_inv h3
        exact ⟨t, a, b, c, rfl, e, ha, hb, hc⟩
theorem Tp.ln {H : Hp} {t a b c : Addr} {l : Lnk} (e : H t = some (.tup [.ref a, .ref b, .ref c])) (ha : H a = some (.tup [.int l.1.1, .int l.1.2])) (hb : H b = some (.tup [.int l.2.1.1, .int l.2.1.2])) (hc : H c = some (.tup [.int l.2.2.1, .int l.2.2.2])) : Tp H (.ref t) (lD l) :=
  .tup e (.cons (Tp.mo ha) (.cons (Tp.mo hb) (.cons (Tp.mo hc) .nil)))
theorem eqv_m (a b : Mo) : PyData.eqv (mD a) (mD b) = decide (a = b) := eqv_dec (okD_m a) (okD_m b) ⟨mD_inj, congrArg mD⟩
theorem shaped_m (m : Mo) : SeqAt.shaped (mD m) = true := shaped_of (okD_m m) (by simp [mD, PyData.depth, PyData.depthAll])
end KN

set_option Elab.async false
set_option linter.all false
set_option maxRecDepth 100000
set_option maxHeartbeats 4000000
namespace KN
open PySem PySem.Spec PyProof.Rows L2
/-! ### t > u of two moments -/
def rGtM (K : PySem.W.Frag) : R2 := fun x y H Q => ∃ (a b : Addr) (m u : Mo), x = .ref a ∧ y = .ref b ∧ SqT K H a [.int m.1, .int m.2] ∧ SqT K H b [.int u.1, .int u.2] ∧ Q (.bl (decide (mLt u m))) H
theorem gt2 (m u : Mo) : Ob.lexAt (fun j => decide (([m.1, m.2] : List Int).getD j 0 = ([u.1, u.2] : List Int).getD j 0)) (fun j => decide (([u.1, u.2] : List Int).getD j 0 < ([m.1, m.2] : List Int).getD j 0)) (decide (([m.1, m.2] : List Int).length > ([u.1, u.2] : List Int).length)) 0 (min ([m.1, m.2] : List Int).length ([u.1, u.2] : List Int).length) = decide (mLt u m) := by
  show Ob.lexAt _ _ _ 0 2 = _
  rw [Ob.lexAt_succ, Ob.lexAt_succ, Ob.lexAt_zero]
  simp only [List.getD_cons_zero, List.getD_cons_succ, List.length_cons, List.length_nil]
  unfold mLt
  by_cases h1 : m.1 = u.1
  · rw [decide_eq_true h1, if_pos rfl]
    by_cases h2 : m.2 = u.2
    · rw [decide_eq_true h2, if_pos rfl]
      rw [decide_eq_false (by omega : ¬ (0 + 1 + 1 > 0 + 1 + 1))]
      exact (decide_eq_false (by omega)).symm
    · rw [decide_eq_false h2, if_neg (by decide)]
      by_cases h3 : u.2 < m.2
      · rw [decide_eq_true h3]; exact (decide_eq_true (by omega)).symm
      · rw [decide_eq_false h3]; exact (decide_eq_false (by omega)).symm
  · rw [decide_eq_false h1, if_neg (by decide)]
    by_cases h3 : u.1 < m.1
    · rw [decide_eq_true h3]; exact (decide_eq_true (by omega)).symm
    · rw [decide_eq_false h3]; exact (decide_eq_false (by omega)).symm
theorem op_gtM {X : Cx} (hu : X.A.units < cLine) : OpR X (compareOp .Gt) (rGtM X.K) := by
  intro pins s σ H x y v u Q I rx ry h
  obtain ⟨a, b, m, um, rfl, rfl, ha', hb', q⟩ := h
  have ha : SqT X.K H a (([m.1, m.2] : List Int).map V.int) := ha'
  have hb : SqT X.K H b (([um.1, um.2] : List Int).map V.int) := hb'
  rw [← gt2] at q
  generalize ([m.1, m.2] : List Int) = ns at ha q
  generalize ([um.1, um.2] : List Int) = ms at hb q
  cases rx
  cases ry
  obtain ⟨its, r1, p1, _⟩ := I.tuple ha
  obtain ⟨its2, r2, p2, _⟩ := I.tuple hb
  have i1 : IntsAre its ns := Vals.ints r1
  have i2 : IntsAre its2 ms := Vals.ints r2
  have e1 : its.toArray.size = ns.length := by rw [List.size_toArray]; exact i1.length
  have e2 : its2.toArray.size = ms.length := by rw [List.size_toArray]; exact i2.length
  have at1 : ∀ j (h1 : j < its.toArray.size), ∃ t, its.toArray[j] = .int (ns.getD j 0) t := fun j h1 => PyProof.Rows.IntsAre.int_at i1 _ _ (by simp at h1; simp [h1])
  have at2 : ∀ j (h1 : j < its2.toArray.size), ∃ t, its2.toArray[j] = .int (ms.getD j 0) t := fun j h1 => PyProof.Rows.IntsAre.int_at i2 _ _ (by simp at h1; simp [h1])
  have R := Ob.RcOp.tuples_gt (A := X.A) (s := s) (e := fun j => decide (ns.getD j 0 = ms.getD j 0)) (r := fun j => decide (ms.getD j 0 < ns.getD j 0)) p1 p2 hu (fun j h1 h2 => by
    obtain ⟨t, et⟩ := at1 j h1
    obtain ⟨t', et'⟩ := at2 j h2
    rw [et, et']
    have z : (ns.getD j 0 == ms.getD j 0) = decide (ns.getD j 0 = ms.getD j 0) := by
      by_cases q : ns.getD j 0 = ms.getD j 0
      · rw [decide_eq_true q]; exact beq_iff_eq.mpr q
      · rw [decide_eq_false q]; exact beq_eq_false_iff_ne.mpr q
    rw [← z]
    exact SeqAt.EqAt.int_int _ _ _ _) (fun j h1 h2 _ => by
    obtain ⟨t, et⟩ := at1 j h1
    obtain ⟨t', et'⟩ := at2 j h2
    rw [et, et']
    exact Ob.RcOp.gt_int _ _ _ _)
  rw [e1, e2] at R
  have z : wpAny (model X.prog X.w) X.A (compareOp .Gt (.ref a) (.ref b)) (EP X pins σ Q) X.xe s := R X.prog X.w X.xe (EP X pins σ Q) ⟨.bl _, H, I, rfl, q⟩
  exact z
end KN
namespace KN
open PySem PySem.Spec PyProof.Rows L2
/-! ### the same rules with the written part by name: for a comprehension's block -/
section
variable {X : Cx}
theorem pe_fldK (K : PySem.W.Frag) {e : Expr} {f : Str} {pos : Pos} {ta : TE} (he : PE X e ta) (hb : attributeBase e f X.env (eval e X.env) = eval e X.env) (h : X.K = K := by rfl) : PE X (.Attribute e f pos) (tFld K ta f) := by
  subst h; exact pe_fld he hb
theorem ix_tupK (K : PySem.W.Frag) (h : X.K = K := by rfl) : IxR X (rIxT K) := by subst h; exact ix_tup
theorem ix_listK (K : PySem.W.Frag) (h : X.K = K := by rfl) : IxR X (rIxL K) := by subst h; exact ix_list
theorem sl_tupAK (K : PySem.W.Frag) (h : X.K = K := by rfl) : SlR X (rSlA K) := by subst h; exact sl_tupA
theorem op_eqDK (K : PySem.W.Frag) (hu : X.A.units + 64 < cLine) (h : X.K = K := by rfl) : OpR X (compareOp .Eq) (rEqD K) := by subst h; exact op_eqD hu
theorem op_inDK (K : PySem.W.Frag) (hu : X.A.units + 65 < cLine) (h : X.K = K := by rfl) : OpR X (compareOp .In) (rInD K) := by subst h; exact op_inD hu
theorem op_notInDK (K : PySem.W.Frag) (hu : X.A.units + 65 < cLine) (h : X.K = K := by rfl) : OpR X (compareOp .NotIn) (rNotInD K) := by subst h; exact op_notInD hu
theorem op_leTK (K : PySem.W.Frag) (hu : X.A.units < cLine) (h : X.K = K := by rfl) : OpR X (compareOp .LtE) (rLeT K) := by subst h; exact op_leT hu
theorem op_ltTK (K : PySem.W.Frag) (hu : X.A.units < cLine) (h : X.K = K := by rfl) : OpR X (compareOp .Lt) (rLtT K) := by subst h; exact op_ltT hu
end
theorem u65 {k : Nat} {A : Around} (r : Room k A) : A.units + 65 < cLine := by have := r.un; omega
end KN

set_option Elab.async false
set_option linter.all false
set_option maxRecDepth 100000
set_option maxHeartbeats 4000000
/-! Own rules for dicts whose keys are nodes (a number and a text): walks over their pairs, their keys sorted. -/
namespace KN
open PySem PySem.Spec PyProof.Rows L2
/-- a node; its data, its key -/
abbrev Nd := Int × Str
def nD (n : Nd) : PyData := .tuple [.int n.1, .str n.2]
def nK (n : Nd) : List Key := [.inl n.1, .inr n.2]
theorem nK_inj {a b : Nd} (h : nK a = nK b) : a = b := by
  unfold nK at h
  injection h with h1 h2
  injection h2 with h2 _
  exact Prod.ext (Sum.inl.inj h1) (Sum.inr.inj h2)
theorem nD_inj {a b : Nd} (h : nD a = nD b) : a = b := by
  unfold nD at h
  injection h with h
  injection h with h1 h2
  injection h2 with h2 _
  injection h1 with h1
  injection h2 with h2
  exact Prod.ext h1 h2
def NdA (H : Hp) (a : Addr) (n : Nd) : Prop := H a = some (.tup [.int n.1, .str n.2])
theorem Tp.nd {H : Hp} {a : Addr} {n : Nd} (h : NdA H a n) : Tp H (.ref a) (nD n) := .tup h (.cons (.int _) (.cons (.str _) .nil))
theorem Tp.nd_inv {H : Hp} {v : V} {n : Nd} (h : Tp H v (nD n)) : ∃ a, v = .ref a ∧ NdA H a n := by
  obtain ⟨a, xs, rfl, e, r⟩ := Tp.inv h
  cases r with
  | cons h1 r =>
    cases r with
    | cons h2 r =>
      cases r
      cases h1
      cases h2
      exact ⟨a, rfl, e⟩
theorem DGet.n {H : Hp} {a b : Addr} {kvs : List (List Key × V)} {n : Nd} (e : H a = some (.dT kvs)) (eb : NdA H b n) : DGet H a (.ref b) (valV kvs (nK n)) := DGet.t e eb
/-- a node or none -/
def oN (o : Option Nd) : PyData := match o with | none => .none | some n => nD n
/-! ### for a, b in d.items() -/
def ItT (d : Addr) (o : Obj) (kvs : List (List Key × V)) : It :=
  ⟨fun i H => H d = some (.frz o (.dT kvs)) ∧ i < kvs.length, fun i H x H' => ∃ (T q : Addr) (k : List Key) (v : V), kvs[i]? = some (k, v) ∧ x = .ref T ∧ H T = none ∧ H q = some (.tup (k.map kV)) ∧ H' = upd H T (.tup [.ref q, v]), fun i H => H d = some (.frz o (.dT kvs)) ∧ kvs.length ≤ i⟩
section
variable {X : Cx} {pins : List (Addr × Obj)} {σ : L2.St} {H : Hp} {s : Shared} {d : Addr} {o : Obj} {kvs : List (List Key × V)}
theorem frzT2 (I : Inv X pins σ H s) (h : H d = some (.frz o (.dT kvs))) :
    (d == sysModules) = false ∧ ∃ (es : Array DictEntry) (ep : Nat), s.heap.DictRaw d es ep ∧ o.data = .dict es ep ∧ es.size = kvs.length ∧
      ∀ (i : Nat) (k : List Key) (v : V), kvs[i]? = some (k, v) → ∃ (en : DictEntry) (q : Addr), es[i]? = some en ∧ en.key = .ref q ∧ H q = some (.tup (k.map kV)) ∧ RelV v en.val := by
  obtain ⟨hd, z, hs, xs, pr, o2, es, ep, ho, hx, hdt, he, _⟩ := I.hok d _ h
  have eo : o2 = o := Option.some.inj (ho.symm.trans hd)
  subst eo
  refine ⟨hs, es, ep, ⟨o2, hd, hx, hdt⟩, hdt, ?_, fun i k v e => ?_⟩
  · rw [size_of_entries he, Paired.length pr]
  · obtain ⟨b, hb, e1, e2, e3⟩ := paired_get pr e
    have q := entry_at he i
    rw [hb] at q
    exact ⟨_, b.2.1, q, rfl, e2, e3⟩
end
section
variable {P : Program} {w : World} {K : PySem.W.Frag} {d : Addr} {o : Obj} {es : Array DictEntry} {ep : Nat}
theorem turn_pairsT {kvs : List (List Key × V)} {elts : List Expr} {kk : Nat} {tpos : Pos} (it : Addr) (hod : o.data = .dict es ep) :
    Turn P w K (.Tuple elts kk tpos) (ItT d o kvs) [it] it (fun i h => ∃ ok ov, IsItemIter h it d i kvs.length ep ok ov) where
  mem := by simp
  obj := fun i h st b hb => by
    have e : b = it := by simpa using hb
    subst e
    obtain ⟨ok, ov, e⟩ := st
    exact ⟨_, e, fun v z => nomatch z⟩
  keep := fun i h h' st k => let ⟨ok, ov, e⟩ := st; ⟨ok, ov, k it (by simp) _ e⟩
  item := by
    intro X hP hw hK hc i pins s σ H E I hf st hg
    subst hP hw hK
    obtain ⟨hd, hi⟩ := hg
    obtain ⟨hs, fs, fp, raw, hdt, hsz, ent⟩ := frzT2 I hd
    obtain ⟨e1, e2⟩ := dict_ep hod hdt
    subst e1 e2
    obtain ⟨⟨k, v⟩, hkv⟩ : ∃ p, kvs[i]? = some p := ⟨kvs[i], List.getElem?_eq_getElem hi⟩
    obtain ⟨en, q, hen, hkey, hq, rv⟩ := ent i k v hkv
    obtain ⟨ok, ov, hit⟩ := st
    have hlt : it < s.heap.objs.size := Heap.lt_size hit
    have hi2 : i < fs.size := by rw [hsz]; exact hi
    have hen2 : fs[i] = en := by
      rw [Array.getElem?_eq_getElem hi2] at hen
      exact Option.some.inj hen
    rw [← hsz] at hit
    refine wpAny_pyNext_items_item_raw hit raw hi2 fun g hout hT hz hk => ?_
    refine ⟨_, rfl, wpAny_letOwnedTupleGo_items (s := { s with heap := g }) hout fun g2 hit2 sb => ?_⟩
    rw [hen2] at hT hit2
    have hT2 : g2.get? s.heap.objs.size = some { cls := .type "tuple", data := .seq #[en.key, en.val] } := (sb.2 _ (Nat.ne_of_gt hlt)).trans hT
    have rk : RelV (.ref q) en.key := hkey
    have new : ObjOk X.prog X.w (upd H s.heap.objs.size (.tup [.ref q, v])) g2 s.heap.objs.size (.tup [.ref q, v]) :=
      ⟨by show 2 ≤ sizeLine; decide, [en.key, en.val], .cons rk (.cons rv .nil), ⟨_, hT2, rfl, _, rfl⟩⟩
    have J : Inv X pins σ (upd H s.heap.objs.size (.tup [.ref q, v])) { s with heap := g2 } :=
      I.turnedNew (t' := s.toks) (ch := [it]) (fun b ob hb e => (sb.2 b (by simpa using hb)).trans (hk b ob (by simpa using hb) e)) hf (Nat.le_refl _) new
    refine ⟨.ref s.heap.objs.size, _, J, rfl, ⟨_, q, k, v, hkv, rfl, I.hok.fresh (Nat.le_refl _), hq, rfl⟩, ⟨_, _, by rw [← hsz]; exact hit2⟩, fun b hb => ?_⟩
    have e : b = it := by simpa using hb
    rw [e, upd_ne (Nat.ne_of_lt hlt)]
    exact (hf it (by simp)).1
  done := by
    intro X hP hw hK hc i pins s σ H E I hf st hg
    subst hP hw hK
    obtain ⟨hd, hi⟩ := hg
    obtain ⟨f0, f1, f2, f3, f4, f5⟩ := hf it (by simp)
    obtain ⟨hs, fs, fp, raw, hdt, hsz, ent⟩ := frzT2 I hd
    obtain ⟨e1, e2⟩ := dict_ep hod hdt
    subst e1 e2
    obtain ⟨ok, ov, hit⟩ := st
    rw [← hsz] at hit
    exact wpAny_pyNext_items_end_raw (I.ok.hd hc) hit raw (by rw [hsz]; exact hi) fun g eb => ⟨rfl, I.turned (t' := s.toks) (fun b ob hb e => eb b ob hb e) f0 f1 f3 f4 f5⟩
  self := fun A i s Q E st h => let ⟨_, _, e⟩ := st; wpAny_pyIter_itemiter e h
end
def iPairsT (td : TE) : TI := fun σ H R => td σ H fun x H1 => ∃ d o kvs, x = .ref d ∧ H1 d = some (.frz o (.dT kvs)) ∧ R (ItT d o kvs) H1
theorem pi_pairsT {X : Cx} {e : Expr} {td : TE} {elts : List Expr} {kk : Nat} {tpos apos cpos : Pos} (he : PE X e td) (hbase : attributeBase e "items" X.env (eval e X.env) = eval e X.env := by rfl) (hline : (apos.endLine == cpos.line) = true := by rfl) :
    PI X (.Tuple elts kk tpos) (.Call (.Attribute e "items" apos) [] [] cpos) (iPairsT td) := by
  refine ⟨fun pins s σ H R I h => ?_⟩
  refine wpAny_Call_method (T := "dict") (id := "dict.items") hbase rfl hline F.plainAttrs_dict F.slot_dict_items F.type_dict_items (thn (he.run pins s σ H _ I h) fun u s1 ⟨x, H1, J, rx, d, o, kvs, ex, hd, q⟩ => ?_)
  subst ex
  obtain rfl : u = Value.ref d := rx
  obtain ⟨hs, es, ep, raw, hdt, hsz, ent⟩ := frzT2 J hd
  refine ⟨raw.typeIs, ?_, ?_⟩
  · obtain ⟨ob, h1, h2, h3⟩ := raw
    exact fun a e => by cases e; exact ⟨ob, h1, h2.2.1⟩
  have J2 : Inv X pins σ H1 { s1 with heap := s1.heap.push { cls := .type "dict_items", data := .fields #[.ref d] } } := J.kept (t' := s1.toks) fun b ob q => Heap.get?_push_of_some _ q
  have fin : wpAny (model X.prog X.w) X.A (pyIter (.ref s1.heap.objs.size)) (PIE X pins σ (.Tuple elts kk tpos) R) X.xe { s1 with heap := s1.heap.push { cls := .type "dict_items", data := .fields #[.ref d] } } := by
    refine wpAny_pyIter_items_raw (d := d) ⟨_, Heap.get?_push_size _ rfl, rfl, rfl⟩ (raw.at fun ob q => Heap.get?_push_of_some _ q) (pi_one (tk := s1.toks) J2 _ (turn_pairsT _ hdt) ⟨.none, .none, ?_⟩ q)
    rw [← hsz]
    exact Heap.get?_push_size _ rfl
  show wpAny _ _ (callWith cpos (.builtin "dict.items") [.ref d] [] []) _ X.xe s1
  exact method_meetsIn F.slot_dict_items F.entry_dict_items rfl (PySem.evalArgs_none ⟨rfl, raw.typeIs, F.args_dict_items_1 _, _, meets_dict_items_raw d hs, ⟨es, ep, raw⟩, fin⟩)
/-! ### sorted(d) of a dict by nodes -/
def NdR (H : Hp) (v : Value) (x : Addr × Nd) : Prop := v = .ref x.1 ∧ NdA H x.1 x.2
def rSortedN : List V → Hp → VK → Prop := fun xs H Q => ∃ (a : Addr) (kvs : List (List Key × V)) (ns : List Nd), xs = [.ref a] ∧ Rd H a (.dT kvs) ∧ kvs.map (·.1) = ns.map nK ∧ ns.length < 1000 ∧
  ∀ (ys : List (Addr × Nd)) (p : Addr), (ys.map Prod.snd).Perm ns → (∀ y ∈ ys, NdA H y.1 y.2) → H p = none → Q (.ref p) (upd H p (.lst (ys.map fun y => V.ref y.1)))
theorem ktN {H : Hp} : ∀ {kvs : List (List Key × V)} {xs : List (List Key × Addr × Value)} {ns : List Nd}, KT H kvs xs → kvs.map (·.1) = ns.map nK →
    ∃ bs : List (Addr × Nd), bs.map Prod.snd = ns ∧ (xs.map fun x => Value.ref x.2.1) = bs.map (fun b => Value.ref b.1) ∧ ∀ b ∈ bs, NdA H b.1 b.2
  | _, _, ns, Paired.nil, e => by
    cases ns with
    | nil => exact ⟨[], rfl, rfl, fun b hb => by cases hb⟩
    | cons m ms => cases e
  | _, _, ns, Paired.cons (a := p) (b := q) h t, e => by
    cases ns with
    | nil => cases e
    | cons m ms =>
      rw [List.map_cons, List.map_cons] at e
      injection e with e1 e2
      obtain ⟨bs, i1, i2, i3⟩ := ktN t e2
      have hm : NdA H q.2.1 m := by
        have := h.2.1
        rw [e1] at this; exact this
      refine ⟨(q.2.1, m) :: bs, by rw [List.map_cons, i1], by rw [List.map_cons, List.map_cons, i2], fun b hb => ?_⟩
      rcases List.mem_cons.mp hb with rfl | hb
      · exact hm
      · exact i3 b hb
theorem eachN {H : Hp} : ∀ {bs : List (Addr × Nd)}, (∀ b ∈ bs, NdA H b.1 b.2) → PySem.W.EachIs (NdR H) (bs.map fun b => Value.ref b.1) bs
  | [], _ => .nil
  | b :: bs, h => .cons ⟨rfl, h b List.mem_cons_self⟩ (eachN fun x hx => h x (List.mem_cons_of_mem _ hx))
theorem eachN_inv {H : Hp} : ∀ {out : List Value} {bs : List (Addr × Nd)}, PySem.W.EachIs (NdR H) out bs → Vals (bs.map fun b => V.ref b.1) out ∧ ∀ b ∈ bs, NdA H b.1 b.2
  | _, _, .nil => ⟨.nil, fun b hb => by cases hb⟩
  | _, _, .cons h hs => by
    obtain ⟨h1, h2⟩ := eachN_inv hs
    refine ⟨.cons h.1 h1, fun b hb => ?_⟩
    rcases List.mem_cons.mp hb with rfl | hb
    · exact h.2
    · exact h2 b hb
theorem cr_sortedN {X : Cx} (hcalm : X.calm = true) (hun : X.A.units + 64 < cLine) : CallR X (.builtin "sorted") rSortedN := by
  intro pins s σ H xs us Q I r q
  obtain ⟨a, kvs, ns, rfl, hd, hks, hl, q⟩ := q
  obtain ⟨u, eu, rx⟩ := vals1 r
  subst eu
  cases rx
  obtain ⟨z, hs, ks, pr, o, es, ep, ho, hx, hdt, he, hn⟩ := (show ObjOk X.prog X.w H s.heap a (.dT kvs) from hd.ok I.hok)
  obtain ⟨bs, b1, b2, b3⟩ := ktN pr hks
  have l1 : es.size = ks.length := size_of_entries he
  have l3 : ks.length = bs.length := by
    have e := congrArg List.length b2
    rw [List.length_map, List.length_map] at e; exact e
  have l2 : kvs.length = ks.length := Paired.length pr
  have l4 : bs.length = ns.length := by rw [← b1, List.length_map]
  refine Calls.call_function_entry PyProof.Rows.kind_sorted PyProof.Rows.plain_sorted PyProof.Rows.entry_sorted (PyProof.Rows.args_sorted1 _) ?_
  unfold Builtin.«sorted»
  refine wpAny_bind (m := checkCount "sorted" 1 1 _) (wpAny_pure ?_)
  refine wpAny_bind (PySem.W.kdu_collect (A := X.A.in1) (kdl_raw hs hx hdt) (I.ok.hd hcalm) ho (by omega) fun g tk acc hk hacc => ?_)
  have ea : acc.toList = bs.map fun b => Value.ref b.1 := by
    rw [← b2]
    apply List.ext_getElem?
    intro j
    rw [List.getElem?_map]
    cases hj : acc.toList[j]? with
    | none =>
      have h1 := List.getElem?_eq_none_iff.mp hj
      have h2 : acc.toList.length = ks.length := by rw [Array.length_toList, hacc.1]; exact l1
      rw [List.getElem?_eq_none (by omega)]
      all_goals rfl
    | some v =>
      obtain ⟨en, hen, hv⟩ := hacc.2 j v (by rw [← Array.getElem?_toList]; exact hj)
      have qe := entry_at he j
      rw [hen] at qe
      cases hb : ks[j]? with
      | none => rw [hb] at qe; cases qe
      | some x =>
        rw [hb] at qe
        have : en = entryOfKey (tupleKind (mixKind X.prog X.w)) x := Option.some.inj qe
        rw [hv, this]; rfl
  have hal : acc.toList.length = bs.length := by rw [ea, List.length_map]
  have J : Inv X pins σ H { s with heap := g, toks := tk } := I.kept hk
  refine wpAny_bind (wpAny_newList ?_ (by rw [hal, sizeLine_eq]; omega))
  have hoL : (g.push (seqObj "list" acc.toList.toArray 0)).get? g.objs.size = some (seqObj "list" acc.toList.toArray 0) := Heap.get?_push_size _ rfl
  have J2 : Inv X pins σ H { s with heap := g.push (seqObj "list" acc.toList.toArray 0), toks := tk } := J.kept fun b o e => Heap.get?_push_of_some _ e
  show wpAny _ _ _ _ _ { s with heap := g.push (seqObj "list" acc.toList.toArray 0), toks := tk }
  have hE : PySem.W.EachIs (NdR H) acc.toList bs := by rw [ea]; exact eachN b3
  have hread : PySem.W.EachIs (fun v (b : Addr × Nd) => ∃ as, Reads (g.push (seqObj "list" acc.toList.toArray 0)) v (nD b.2) as ∧ g.objs.size ∉ as) acc.toList bs := hE.mono fun v b ⟨e1, e2⟩ => by
    obtain ⟨its, rv, pt, _⟩ := J2.tuple (SqT.of e2)
    obtain ⟨ob, c1, c2, n1, c3⟩ := pt
    subst e1
    cases rv with
    | cons ra rv =>
    cases rv with
    | cons rc rv =>
    cases rv
    obtain ⟨t1, rfl⟩ := ra
    obtain ⟨t2, rfl⟩ := rc
    exact ⟨[], .tuple c1 c2 c3 (.cons (.int _ _) (.cons (.str _ _) .nil)), by simp⟩
  have hdp : ∀ b : Addr × Nd, (nD b.2).depth ≤ 2 := fun b => by simp [nD, PyData.depth, PyData.depthAll]
  refine wpAny_bind (wpAny_holding (PySem.W.list_sort_data (A := X.A.in1) (s := { s with heap := g.push (seqObj "list" acc.toList.toArray 0), toks := tk }) (enc := fun b : Addr × Nd => nD b.2) hoL hE hread ?_ ?_ (Nat.le_trans (by omega : bs.length ≤ 1000) (by decide)) (fun b _ => by have := hdp b; show X.A.units + 1 + 1 + _ < _; omega) fun out hlen hout => ?_))
  · intro d hd d' hd'
    obtain ⟨x, _, rfl⟩ := List.mem_map.mp hd
    obtain ⟨y, _, rfl⟩ := List.mem_map.mp hd'
    rfl
  · exact .inl fun d hd => by
      obtain ⟨x, _, rfl⟩ := List.mem_map.mp hd
      exact ⟨_, _, rfl⟩
  · obtain ⟨e', he'⟩ := PyProof.Rows.sortedHeap_at (vs := acc.toList) (out := out.toArray) hoL
    obtain ⟨v1, v2⟩ := eachN_inv hout
    have pm := List.mergeSort_perm bs (PySem.W.dataLe false fun b : Addr × Nd => nD b.2)
    have hl2 : ((bs.mergeSort (PySem.W.dataLe false fun b : Addr × Nd => nD b.2)).map fun b => V.ref b.1).length ≤ sizeLine := by
      rw [List.length_map, pm.length_eq, sizeLine_eq]; omega
    refine wpAny_pure ⟨_, rfl, .ref g.objs.size, upd H g.objs.size (.lst ((bs.mergeSort (PySem.W.dataLe false fun b : Addr × Nd => nD b.2)).map fun b => V.ref b.1)), J.laid (t' := tk) (fun b u e => ?_) (Nat.le_refl _)
      (show ObjOk X.prog X.w _ _ _ (.lst ((bs.mergeSort (PySem.W.dataLe false fun b : Addr × Nd => nD b.2)).map fun b => V.ref b.1)) from ⟨hl2, out, e', v1, he'⟩), rfl, q _ _ (by rw [← b1]; exact pm.map _) v2 (J.hok.fresh (Nat.le_refl _))⟩
    have hb : b < g.objs.size := Heap.lt_size e
    rw [PyProof.Rows.sortedHeap_old (Nat.ne_of_lt hb) (by rw [size_push']; exact Nat.lt_succ_of_lt hb)]
    exact Heap.get?_push_of_some _ e
/-! ### a text some times -/
def repS (z : Str) (n : Nat) : Str := ⟨(List.replicate n z.cps).foldl (· ++ ·) #[]⟩
theorem repS_list (z : Str) (n : Nat) : (repS z n).cps.toList = (List.replicate n z.cps.toList).flatten := by
  have g : ∀ (n : Nat) (a : Array Nat), ((List.replicate n z.cps).foldl (· ++ ·) a).toList = a.toList ++ (List.replicate n z.cps.toList).flatten := by
    intro n
    induction n with
    | zero => intro a; simp
    | succ n ih =>
      intro a
      rw [List.replicate_succ, List.foldl_cons, ih, List.replicate_succ, List.flatten_cons, Array.toList_append, List.append_assoc]
  have := g n #[]
  simpa [repS] using this
theorem repS_len (z : Str) (n : Nat) : (repS z n).length = n * z.length := by
  have h : (repS z n).cps.toList.length = n * z.cps.toList.length := by
    rw [repS_list, List.length_flatten, List.map_replicate, List.sum_replicate_nat]
  simpa [Str.length] using h
theorem op_repS {X : Cx} : OpR X (binaryOp .Mult) (fun x y H Q => ∃ (z : Str) (k : Int), x = .str z ∧ y = .int k ∧ 0 ≤ k ∧ k ≤ 100 ∧ z.length ≤ 100 ∧ Q (.str (repS z k.toNat)) H) := by
  intro pins s σ H x y v u Q I rx ry h
  obtain ⟨z, k, rfl, rfl, k0, k1, hz, q⟩ := h
  obtain ⟨t, rfl⟩ := rx
  obtain ⟨t', rfl⟩ := ry
  refine P.mul_str ?_ (fun h1 h2 => ?_) (fun h1 h2 => ?_) ?_
  · rw [decide_eq_false (by omega), decide_eq_false (by omega)]; rfl
  · have : (z.length : Int) ≤ 100 := by omega
    have h5 : (92233720368547758 : Int) ≤ (2 ^ 63 - 1) / k := by
      refine (Int.le_ediv_iff_mul_le (by omega)).mpr ?_
      omega
    omega
  · show decide (z.length * k.toNat > sizeLine) = false
    have : z.length * k.toNat ≤ 100 * 100 := Nat.mul_le_mul hz (by omega)
    exact decide_eq_false (by have : (10000 : Nat) < sizeLine := by decide
                              omega)
  · by_cases h1 : k < 1
    · rw [if_pos h1]
      have : k.toNat = 0 := by omega
      rw [this] at q
      exact ⟨by decide, .str _, H, I.tok _, ⟨_, rfl⟩, q⟩
    · rw [if_neg h1]
      by_cases h2 : (k == 1 || z.length == 0) = true
      · rw [if_pos h2]
        have e : repS z k.toNat = z := by
          rw [Bool.or_eq_true] at h2
          rcases h2 with h2 | h2
          · have : k = 1 := beq_iff_eq.mp h2
            subst this
            unfold repS
            simp
          · have h3 : z.length = 0 := beq_iff_eq.mp h2
            have h4 : z.cps = #[] := Array.eq_empty_of_size_eq_zero h3
            have g : ∀ n : Nat, (List.replicate n z.cps).foldl (· ++ ·) #[] = #[] := fun n => by
              rw [h4]
              induction n with
              | zero => rfl
              | succ n ih => rw [List.replicate_succ, List.foldl_cons]; exact ih
            unfold repS
            rw [g, ← h4]
        rw [e] at q
        exact ⟨.str _, H, I, ⟨_, rfl⟩, q⟩
      · rw [if_neg h2]
        refine ⟨?_, .str _, H, I.tok _, ⟨_, rfl⟩, q⟩
        show (repS z k.toNat).length ≤ sizeLine
        rw [repS_len]
        have : k.toNat * z.length ≤ 100 * 100 := Nat.mul_le_mul (by omega) hz
        exact Nat.le_trans this (by decide)
end KN
namespace KN
open PySem PySem.Spec PyProof.Rows L2
/-! ### sorted(t) of a tuple of texts -/
def StR (v : Value) (x : Str) : Prop := ∃ t, v = Value.str x t
theorem eachS : ∀ {xs : List Str} {us : List Value}, Vals (xs.map V.str) us → PySem.W.EachIs StR us xs
  | [], _, .nil => .nil
  | _ :: xs, _, .cons r t => .cons r (eachS t)
theorem eachS_inv : ∀ {out : List Value} {xs : List Str}, PySem.W.EachIs StR out xs → Vals (xs.map V.str) out
  | _, _, .nil => .nil
  | _, _, .cons h hs => .cons h (eachS_inv hs)
def rSortedTS (K : PySem.W.Frag) : List V → Hp → VK → Prop := fun vs H Q => ∃ (a : Addr) (xs : List Str), vs = [.ref a] ∧ H a = some (.tup (xs.map V.str)) ∧ xs.length < 1000 ∧
  ∀ (ys : List Str) (p : Addr), ys.Perm xs → H p = none → Q (.ref p) (upd H p (.lst (ys.map V.str)))
theorem cr_sortedTS {X : Cx} (hun : X.A.units + 64 < cLine) : CallR X (.builtin "sorted") (rSortedTS X.K) := by
  intro pins s σ H xs us Q I r q
  obtain ⟨a, xs, rfl, ha, hl, q⟩ := q
  obtain ⟨u, eu, rx⟩ := vals1 r
  subst eu
  cases rx
  obtain ⟨its, rv, pt, _⟩ := I.tuple (SqT.of ha)
  obtain ⟨ob, ho, hc, n0, hd⟩ := pt
  have hil : its.length = xs.length := by have := rv.length; rw [List.length_map] at this; omega
  refine Calls.call_function_entry PyProof.Rows.kind_sorted PyProof.Rows.plain_sorted PyProof.Rows.entry_sorted (PyProof.Rows.args_sorted1 _) ?_
  unfold Builtin.«sorted»
  refine wpAny_bind (m := checkCount "sorted" 1 1 _) (wpAny_pure ?_)
  refine wpAny_bind (wpAny_collect_seq (A := X.A.in1) a (.inr rfl) ho hc hd (fun g hk => ?_) (hsz := by rw [List.size_toArray, sizeLine_eq]; omega))
  have J : Inv X pins σ H { s with heap := g } := I.kept (t' := s.toks) hk
  show wpAny _ _ (newList its.toArray.toList >>= _) _ _ _
  rw [show its.toArray.toList = its from rfl]
  refine wpAny_bind (wpAny_newList ?_ (by rw [sizeLine_eq]; omega))
  have hoL : (g.push (seqObj "list" its.toArray 0)).get? g.objs.size = some (seqObj "list" its.toArray 0) := Heap.get?_push_size _ rfl
  have hE : PySem.W.EachIs StR its xs := eachS rv
  have hread : PySem.W.EachIs (fun v (b : Str) => ∃ as, Reads (g.push (seqObj "list" its.toArray 0)) v (PyData.str b) as ∧ g.objs.size ∉ as) its xs := hE.mono fun v b ⟨t, e1⟩ => by
    subst e1
    exact ⟨[], .str _ _, by simp⟩
  refine wpAny_bind (wpAny_holding (PySem.W.list_sort_data (A := X.A.in1) (s := { s with heap := g.push (seqObj "list" its.toArray 0) }) (enc := fun b : Str => PyData.str b) hoL hE hread ?_ ?_ (Nat.le_trans (by omega : xs.length ≤ 1000) (by decide)) (fun b _ => by show X.A.units + 1 + 1 + _ < _; simp only [PyData.depth]; omega) fun out hlen hout => ?_))
  · intro d hd d' hd'
    obtain ⟨x, _, rfl⟩ := List.mem_map.mp hd
    obtain ⟨y, _, rfl⟩ := List.mem_map.mp hd'
    rfl
  · exact .inr fun d hd => by
      obtain ⟨x, _, rfl⟩ := List.mem_map.mp hd
      exact ⟨(by intro z; cases z), fun ys z => (by cases z)⟩
  · obtain ⟨e', he'⟩ := PyProof.Rows.sortedHeap_at (vs := its) (out := out.toArray) hoL
    have v1 := eachS_inv hout
    have pm := List.mergeSort_perm xs (PySem.W.dataLe false fun b : Str => PyData.str b)
    have hl2 : ((xs.mergeSort (PySem.W.dataLe false fun b : Str => PyData.str b)).map V.str).length ≤ sizeLine := by
      rw [List.length_map, pm.length_eq, sizeLine_eq]; omega
    refine wpAny_pure ⟨_, rfl, .ref g.objs.size, upd H g.objs.size (.lst ((xs.mergeSort (PySem.W.dataLe false fun b : Str => PyData.str b)).map V.str)), J.laid (t' := s.toks) (fun b u e => ?_) (Nat.le_refl _)
      (show ObjOk X.prog X.w _ _ _ (.lst ((xs.mergeSort (PySem.W.dataLe false fun b : Str => PyData.str b)).map V.str)) from ⟨hl2, out, e', v1, he'⟩), rfl, q _ _ pm (J.hok.fresh (Nat.le_refl _))⟩
    have hb : b < g.objs.size := Heap.lt_size e
    rw [PyProof.Rows.sortedHeap_old (Nat.ne_of_lt hb) (by rw [size_push']; exact Nat.lt_succ_of_lt hb)]
    exact Heap.get?_push_of_some _ e
end KN

set_option Elab.async false
set_option linter.all false
set_option maxRecDepth 100000
set_option maxHeartbeats 4000000
namespace KN
open PySem PySem.Spec PyProof.Rows L2
/-! ### d.setdefault(t, x) by a tuple -/
def tSetdT (td ty tx : TE) : TE := fun σ H Q => td σ H fun x H1 => ∃ (a : Addr) (kvs0 : List (List Key × V)), x = .ref a ∧ H1 a = some (.dT kvs0) ∧ ty σ H1 fun y H2 => tx σ H2 fun z H3 => ∃ (kvs : List (List Key × V)) (k : List Key) (b : Addr), H3 a = some (.dT kvs) ∧ y = .ref b ∧ H3 b = some (.tup (k.map kV)) ∧ kvs.length < sizeLine ∧
  (∀ v, valV kvs k = some v → Q v H3) ∧ (valV kvs k = none → Q z (upd H3 a (.dT (putK kvs k z))))
theorem pe_setdT {X : Cx} {o e f : Expr} {td ty tx : TE} {apos cpos : Pos} (hu : X.A.units + 1 < cLine) (ho : PE X o td) (he : PE X e ty) (hf : PE X f tx) (m : M2 X o "setdefault" apos e f cpos) : PE X (.Call (.Attribute o "setdefault" apos) [e, f] [] cpos) (tSetdT td ty tx) := by
  refine ⟨fun pins s σ H Q I h => ?_⟩
  refine wpAny_Call_method m.base m.few m.line PySem.F.plainAttrs_dict PySem.F.slot_dict_setdefault PySem.F.type_dict_setdefault (thn (ho.run pins s σ H _ I h) fun u s1 ⟨x, H1, I1, rx, a, kvs0, ex, d, q1⟩ => ?_)
  subst ex
  obtain rfl : u = Value.ref a := rx
  obtain ⟨z0, lo0, xs0, rel0, dd0⟩ := dt_of I1.hok d
  refine ⟨dd0.typeIs, ?_, ?_⟩
  · obtain ⟨ob, es, ep, h1, h2, h3⟩ := dd0
    exact fun c e => by cases e; exact ⟨ob, h1, h2.2.1⟩
  rw [m.trees]
  refine Calls.callWith_builtin rfl (Calls.evalArgs_plain (Calls.spliced_cons (thn (he.run pins s1 σ H1 _ I1 q1) fun iv s2 ⟨y, H2, I2, ry, q2⟩ =>
    Calls.spliced_cons (thn (hf.run pins s2 σ H2 _ I2 q2) fun fv s3 ⟨z, H3, I3, rz, kvs, k, b, ea, ey, eb, hl, q3, q4⟩ => Calls.spliced_nil ?_))))
  subst ey
  obtain rfl : iv = Value.ref b := ry
  obtain ⟨zz, lo, xs, rel, dd⟩ := dt_of I3.hok ea
  have hxl : xs.length = kvs.length := (Paired.length rel).symm
  have r := rel.val k
  refine call_setdefault_heap (tupleKind_room_in1 hu) (key_of I3.hok eb) lo dd (fun p hp => ?_) (fun hno g dd' hs => ?_) (by omega)
  · rw [hp] at r
    cases ev : valV kvs k with
    | none => rw [ev] at r; exact (show False from r).elim
    | some v0 =>
      rw [ev] at r
      exact ⟨v0, H3, I3.tok _, r, q3 v0 ev⟩
  · have ev : valV kvs k = none := by
      cases ev : valV kvs k with
      | none => rfl
      | some v0 => rw [ev, hno] at r; exact (show False from r).elim
    obtain ⟨ob, es, ep, hq, h2, h3, h4, _, h5⟩ := dd'
    refine ⟨z, upd H3 a (.dT (putK kvs k z)), d_write (ob := .dT (putK kvs k z)) I3 (by rw [ea]; exact True.intro) hs ⟨ob, hq⟩ ⟨?_, lo, _, (KT.put rel k eb rz).keeps fun c ys ec => ?_, ob, es, ep, hq, h2, h3, h4, h5⟩, rz, q4 ev⟩
    · have := length_putK kvs k z; omega
    · rw [upd_ne (ne_of ec ea (fun z => nomatch z))]; exact ec
end KN

set_option Elab.async false
set_option linter.all false
set_option maxRecDepth 100000
set_option maxHeartbeats 4000000
namespace KN
open PySem L2
structure ChI (H0 H : Hp) (d wl : Addr) (ns ws : List Mo) (kvs : List (List Key × V)) : Prop where
  same : Same H0 H
  d0 : H0 d = none
  w0 : H0 wl = none
  dd : H d = some (.dT kvs)
  ks : kvs.map (·.1) = ns.map mK
  rows : ∀ q ∈ kvs, ∃ l xs, q.2 = .ref l ∧ H l = some (.lst xs) ∧ xs.length ≤ kvs.length ∧ l ≠ wl
  wt : Ls H wl (ws.map mD)
theorem ChI.to {H0 H H' : Hp} {d wl : Addr} {ns ws : List Mo} {kvs : List (List Key × V)} (I : ChI H0 H d wl ns ws kvs) (s : Same H H') : ChI H0 H' d wl ns ws kvs :=
  ⟨I.same.trans s, I.d0, I.w0, s _ _ I.dd, I.ks, fun q hq => let ⟨l, xs, h1, h2, h3, h4⟩ := I.rows q hq; ⟨l, xs, h1, s _ _ h2, h3, h4⟩, I.wt.to s⟩
/-- the ways on from each start, as far as the links are read -/
structure OnI (H0 H : Hp) (o : Addr) (ls : List Lnk) (okvs : List (List Key × V)) : Prop where
  same : Same H0 H
  o0 : H0 o = none
  od : H o = some (.dT okvs)
  rows : ∀ q ∈ okvs, ∃ (m : Mo) (l : Addr), q.1 = mK m ∧ q.2 = .ref l ∧ l ≠ o ∧ H0 l = none ∧ Ls H l ((ls.filter fun k => decide (k.2.1 = m)).map lD)
  nd : (okvs.map (·.2)).Nodup
  kd : (okvs.map (·.1)).Nodup
  all : ∀ m, valV okvs (mK m) = none → ∀ k ∈ ls, k.2.1 ≠ m
  len : okvs.length ≤ ls.length
/-- a link more among those of one start -/
theorem filt_app {ls : List Lnk} {l : Lnk} {m : Mo} : ((ls ++ [l]).filter fun k => decide (k.2.1 = m)) = (ls.filter fun k => decide (k.2.1 = m)) ++ (if l.2.1 = m then [l] else []) := by
  rw [List.filter_append]
  congr 1
  by_cases h : l.2.1 = m <;> simp [h]
structure BfsJ (ls : List Lnk) (s a : Mo) (La : List Lnk) (i : Nat) (ns ws : List Mo) : Prop where
  start : s ∈ ns
  sub : ∀ n ∈ ns, Rch ls s n
  wsub : ∀ n ∈ ws, n ∈ ns
  here : a ∈ ns
  clo : ∀ n ∈ ns, n ∉ ws → n ≠ a → ∀ l ∈ ls, l.2.1 = n → l.2.2 ∈ ns
  own : ∀ l ∈ La.take i, l.2.2 ∈ ns
theorem BfsJ.of {ls : List Lnk} {s a : Mo} {La : List Lnk} {ns ws : List Mo} (b : BfsI ls s a 0 ns ws) : BfsJ ls s a La 0 ns ws :=
  ⟨b.start, b.sub, b.wsub, b.here, b.clo, fun l h => by rw [List.take_zero] at h; cases h⟩
theorem BfsJ.done {ls : List Lnk} {s a : Mo} {La : List Lnk} {ns ws : List Mo} (b : BfsJ ls s a La La.length ns ws) (h : ∀ l ∈ ls, l.2.1 = a → l ∈ La) : Bfs ls s ns ws :=
  ⟨b.start, b.sub, b.wsub, fun n hn k l hl e => by
    by_cases q : n = a
    · exact b.own l (by rw [List.take_length]; exact h l hl (e.trans q))
    · exact b.clo n hn k q l hl e⟩
theorem BfsJ.skip {ls : List Lnk} {s a : Mo} {La : List Lnk} {i : Nat} {ns ws : List Mo} {l : Lnk} (b : BfsJ ls s a La i ns ws) (hl : La[i]? = some l) (h : l.2.2 ∈ ns) : BfsJ ls s a La (i + 1) ns ws :=
  ⟨b.start, b.sub, b.wsub, b.here, b.clo, fun k hk => by
    rw [List.take_add_one, hl] at hk
    rcases List.mem_append.mp hk with q | q
    · exact b.own k q
    · rw [Option.toList_some, List.mem_singleton] at q; subst q; exact h⟩
theorem BfsJ.add {ls : List Lnk} {s a : Mo} {La : List Lnk} {i : Nat} {ns ws : List Mo} {l : Lnk} (b : BfsJ ls s a La i ns ws) (hl : La[i]? = some l) (hin : l ∈ ls) (h : l.2.1 = a) : BfsJ ls s a La (i + 1) (ns ++ [l.2.2]) (ws ++ [l.2.2]) where
  start := List.mem_append_left _ b.start
  sub := fun n hn => by
    rcases List.mem_append.mp hn with q | q
    · exact b.sub n q
    · rw [List.mem_singleton] at q; subst q
      exact .step (b.sub a b.here) hin h
  wsub := fun n hn => by
    rcases List.mem_append.mp hn with q | q
    · exact List.mem_append_left _ (b.wsub n q)
    · exact List.mem_append_right _ q
  here := List.mem_append_left _ b.here
  clo := fun n hn hw ha k hk e => by
    rcases List.mem_append.mp hn with q | q
    · exact List.mem_append_left _ (b.clo n q (fun z => hw (List.mem_append_left _ z)) ha k hk e)
    · exact absurd (List.mem_append_right _ q) hw
  own := fun k hk => by
    rw [List.take_add_one, hl] at hk
    rcases List.mem_append.mp hk with q | q
    · exact List.mem_append_left _ (b.own k q)
    · rw [Option.toList_some, List.mem_singleton] at q; subst q; exact List.mem_append_right _ (List.mem_singleton.mpr rfl)
theorem val_row {kvs : List (List Key × V)} {k : List Key} {v : V} (h : valV kvs k = some v) : (k, v) ∈ kvs := valV_mem h
theorem OnI.add {H0 H : Hp} {o lx : Addr} {ls : List Lnk} {okvs : List (List Key × V)} (I : OnI H0 H o ls okvs) {l : Lnk} {xs : List V} {v : V} (hv : valV okvs (mK l.2.1) = some (.ref lx)) (hl : H lx = some (.lst xs)) (tv : Tp H v (lD l)) :
    OnI H0 (upd H lx (.lst (xs ++ [v]))) o (ls ++ [l]) okvs := by
  obtain ⟨m0, l0, e1, e2, n1, n0, ys, hys, ry⟩ := I.rows _ (val_row hv)
  cases e2
  have em : m0 = l.2.1 := (mK_inj e1).symm
  subst em
  rw [hl] at hys
  cases hys
  have tk : TK H (upd H lx (.lst (xs ++ [v]))) := TK.put hl (by intro z; exact nofun)
  refine ⟨fun b u e => by rw [upd_ne (ne_of_none e n0)]; exact I.same _ _ e, I.o0, by rw [upd_ne n1.symm]; exact I.od, fun q hq => ?_, I.nd, I.kd, fun m hm k hk => ?_, by rw [List.length_append]; have := I.len; omega⟩
  · obtain ⟨m, l', f1, f2, f3, f4, zs, hz, rz⟩ := I.rows q hq
    refine ⟨m, l', f1, f2, f3, f4, ?_⟩
    rw [filt_app]
    by_cases h : l.2.1 = m
    · subst h
      have : l' = lx := by
        have h1 : (mK l.2.1, V.ref l') ∈ okvs := by rw [← f1, ← f2]; exact hq
        have h2 := val_row hv
        obtain ⟨i, hi, ei⟩ := List.getElem_of_mem h1
        obtain ⟨j, hj, ej⟩ := List.getElem_of_mem h2
        have : i = j := by
          refine (List.getElem_inj (h₀ := by rw [List.length_map]; exact hi) (h₁ := by rw [List.length_map]; exact hj) I.kd).mp ?_
          rw [List.getElem_map, List.getElem_map, ei, ej]
        subst this
        rw [ei] at ej
        injection ej with _ e
        injection e
      subst this
      rw [hl] at hz
      cases hz
      rw [if_pos rfl, List.map_append]
      exact ⟨_, upd_same, (rz.to tk).snoc (tv.to tk)⟩
    · rw [if_neg h, List.append_nil]
      have : l' ≠ lx := fun z => by
        subst z
        have h1 : q ∈ okvs := hq
        have h2 := val_row hv
        obtain ⟨i, hi, ei⟩ := List.getElem_of_mem h1
        obtain ⟨j, hj, ej⟩ := List.getElem_of_mem h2
        have : i = j := by
          refine (List.getElem_inj (h₀ := by rw [List.length_map]; exact hi) (h₁ := by rw [List.length_map]; exact hj) I.nd).mp ?_
          rw [List.getElem_map, List.getElem_map, ei, ej, f2]
        subst this
        rw [ei] at ej
        rw [ej] at f1
        exact h (mK_inj f1)
      exact ⟨zs, by rw [upd_ne this]; exact hz, rz.to tk⟩
  · rcases List.mem_append.mp hk with h | h
    · exact I.all m hm k h
    · rw [List.mem_singleton] at h; subst h
      intro z; subst z; rw [hv] at hm; cases hm
theorem OnI.new {H0 H : Hp} {o lx : Addr} {ls : List Lnk} {okvs : List (List Key × V)} (I : OnI H0 H o ls okvs) {l : Lnk} {v : V} (hv : valV okvs (mK l.2.1) = none) (hl : H lx = none) (tv : Tp H v (lD l)) :
    OnI H0 (upd (upd (upd H lx (.lst [])) o (.dT (okvs ++ [(mK l.2.1, .ref lx)]))) lx (.lst ([] ++ [v]))) o (ls ++ [l]) (okvs ++ [(mK l.2.1, .ref lx)]) := by
  have nlo : lx ≠ o := fun z => by subst z; rw [I.od] at hl; cases hl
  have hl0 : H0 lx = none := I.same.free hl
  have tk : TK H (upd (upd (upd H lx (.lst [])) o (.dT (okvs ++ [(mK l.2.1, .ref lx)]))) lx (.lst ([] ++ [v]))) := fun b xs e => by
    rw [upd_ne (ne_of_none e hl), upd_ne (ne_of e I.od (by intro z; cases z)), upd_ne (ne_of_none e hl)]; exact e
  have nk : mK l.2.1 ∉ okvs.map (·.1) := fun z => by
    obtain ⟨q, hq, e⟩ := List.mem_map.mp z
    exact valV_not hv (List.mem_map.mpr ⟨q, hq, e⟩)
  have nv : V.ref lx ∉ okvs.map (·.2) := fun z => by
    obtain ⟨q, hq, e⟩ := List.mem_map.mp z
    obtain ⟨m, l', f1, f2, f3, f4, zs, hz, rz⟩ := I.rows q hq
    rw [f2] at e
    injection e with e
    subst e
    rw [hl] at hz; cases hz
  refine ⟨fun b u e => by rw [upd_ne (ne_of_none e hl0), upd_ne (ne_of_none e I.o0), upd_ne (ne_of_none e hl0)]; exact I.same _ _ e, I.o0, by rw [upd_ne nlo.symm, upd_same], fun q hq => ?_, ?_, ?_, fun m hm k hk => ?_, by rw [List.length_append, List.length_append, List.length_singleton, List.length_singleton]; have := I.len; omega⟩
  · rcases List.mem_append.mp hq with hq | hq
    · obtain ⟨m, l', f1, f2, f3, f4, zs, hz, rz⟩ := I.rows q hq
      refine ⟨m, l', f1, f2, f3, f4, zs, ?_, ?_⟩
      · rw [upd_ne (ne_of_none hz hl), upd_ne f3, upd_ne (ne_of_none hz hl)]; exact hz
      · have : l.2.1 ≠ m := fun z => by
          subst z
          exact nk (List.mem_map.mpr ⟨q, hq, f1⟩)
        rw [filt_app, if_neg this, List.append_nil]
        exact rz.to tk
    · rw [List.mem_singleton] at hq; subst hq
      refine ⟨l.2.1, lx, rfl, rfl, nlo, hl0, _, upd_same, ?_⟩
      have e : (ls.filter fun k => decide (k.2.1 = l.2.1)) = [] := List.filter_eq_nil_iff.mpr fun k hk z => I.all _ hv k hk (of_decide_eq_true z)
      rw [filt_app, if_pos rfl, e]
      exact .cons (tv.to tk) .nil
  · rw [List.map_append]
    exact List.nodup_append.mpr ⟨I.nd, by simp, fun x hx y hy => by rw [List.map_singleton, List.mem_singleton] at hy; subst hy; intro z; rw [z] at hx; exact nv hx⟩
  · rw [List.map_append]
    exact List.nodup_append.mpr ⟨I.kd, by simp, fun x hx y hy => by rw [List.map_singleton, List.mem_singleton] at hy; subst hy; intro z; rw [z] at hx; exact nk hx⟩
  · have hm' : mK m ∉ (okvs ++ [(mK l.2.1, V.ref lx)]).map (·.1) := valV_not hm
    rw [List.map_append] at hm'
    have h1 : mK m ∉ okvs.map (·.1) := fun z => hm' (List.mem_append_left _ z)
    have h2 : m ≠ l.2.1 := fun z => hm' (List.mem_append_right _ (by rw [z]; exact List.mem_singleton.mpr rfl))
    rcases List.mem_append.mp hk with h | h
    · exact I.all m (by
        cases e : valV okvs (mK m) with
        | none => rfl
        | some v => exact absurd (List.mem_map.mpr ⟨_, val_row e, rfl⟩) h1) k h
    · rw [List.mem_singleton] at h; subst h; exact fun z => h2 z.symm
def spChains : Sp := fun vs H Q _ => ∃ (a st : Addr) (s : Mo) (ls : List Lnk), vs = [.ref a, .ref st] ∧ Ls H a (ls.map lD) ∧ ls.length ≤ 500 ∧ H st = some (.tup [.int s.1, .int s.2]) ∧
  ∀ (H' : Hp) (d : Addr) (kvs : List (List Key × V)) (ns : List Mo), Same H H' → H d = none → H' d = some (.dT kvs) → kvs.map (·.1) = ns.map mK → kvs.length ≤ 1 + ls.length → (∀ g, g ∈ ns ↔ Rch ls s g) → (∀ q ∈ kvs, q.2 ≠ .non) → Q (.ref d) H'
def spChain : Sp := fun vs H Q _ => ∃ (a st g : Addr) (s e : Mo) (ls : List Lnk), vs = [.ref a, .ref st, .ref g] ∧ Ls H a (ls.map lD) ∧ ls.length ≤ 500 ∧ H st = some (.tup [.int s.1, .int s.2]) ∧ H g = some (.tup [.int e.1, .int e.2]) ∧
  ∀ (H' : Hp) (v : V), Same H H' → (v = .non ↔ ¬ Rch ls s e) → Q v H'
section
variable {P : Program} {w : World} {K : PySem.W.Frag} {mg : Str → Option Value} {base : Heap}
end
end KN


set_option Elab.async false
set_option linter.all false
set_option maxRecDepth 100000
set_option maxHeartbeats 4000000
/-! Rows of the book, and a book as it stands. -/
namespace KN
open PySem L2
inductive Row where
  | nm (m : Mo) (rank : Int) (ws ss : List Str) (like : Option Mo)
  | ch (m n : Mo) (s : Str)
  | st (m n : Mo) (w : Bool)
  | ah (m n o : Mo)
def oD : Option Mo → PyData
  | none => .none
  | some m => mD m
def Row.ds : Row → List PyData
  | .nm m r ws ss l => [.str "name", mD m, .int r, .tuple (ws.map PyData.str), .tuple (ss.map PyData.str), oD l]
  | .ch m n s => [.str "choice", mD m, mD n, .str s]
  | .st m n w => [.str "strike", mD m, mD n, .bool w]
  | .ah m n o => [.str "ahead", mD m, mD n, mD o]
def Row.d (r : Row) : PyData := .tuple r.ds
def Row.mo : Row → Mo
  | .nm m .. => m
  | .ch m .. => m
  | .st m .. => m
  | .ah m .. => m
def Row.names : Row → List Mo
  | .nm _ _ _ _ l => l.toList
  | .ch _ n _ => [n]
  | .st _ n _ => [n]
  | .ah _ n o => [n, o]
def Row.isNm : Row → Bool
  | .nm .. => true
  | _ => false
def Row.sort : Row → Str
  | .nm .. => "name"
  | .ch .. => "choice"
  | .st .. => "strike"
  | .ah .. => "ahead"
theorem Row.ds0 (r : Row) : r.ds[0]? = some (.str r.sort) := by cases r <;> rfl
theorem Row.ds1 (r : Row) : r.ds[1]? = some (mD r.mo) := by cases r <;> rfl
/-- a part of a tuple -/
theorem Tp.at {K : PySem.W.Frag} {H : Hp} {t : Addr} {xs : List V} {ds : List PyData} {i : Nat} {d : PyData} (h : H t = some (.tup xs)) (r : TpAll H xs ds) (e : ds[i]? = some d) : ∃ v, atI xs (i : Int) = some v ∧ Tp H v d :=
  let ⟨v, h1, h2⟩ := r.get e
  ⟨v, atI_nat h1, h2⟩
/-- the names of a book, in the order told -/
def nms (rs : List Row) : List Mo := (rs.filter Row.isNm).map Row.mo
/-- who names a name -/
def users (rs : List Row) (n : Mo) : List (List Key × V) := (rs.filter fun r => decide (n ∈ r.names)).map fun r => (mK r.mo, V.bl true)
theorem nms_app (rs : List Row) (r : Row) : nms (rs ++ [r]) = nms rs ++ (if r.isNm then [r.mo] else []) := by
  unfold nms
  rw [List.filter_append, List.map_append]
  congr 1
  by_cases h : r.isNm = true
  · rw [if_pos h, List.filter_cons_of_pos h]; rfl
  · rw [if_neg h, List.filter_cons_of_neg h]; rfl
theorem users_app (rs : List Row) (r : Row) (n : Mo) : users (rs ++ [r]) n = users rs n ++ (if n ∈ r.names then [(mK r.mo, V.bl true)] else []) := by
  unfold users
  rw [List.filter_append, List.map_append]
  congr 1
  by_cases h : n ∈ r.names
  · simp [h]
  · simp [h]
theorem users_le (rs : List Row) (n : Mo) : (users rs n).length ≤ rs.length := by
  unfold users
  rw [List.length_map]; exact List.length_filter_le _ _

theorem en_ : ¬ (("_entries" : Str) = "_named_by") := by decide +kernel
theorem ne_ : ¬ (("_named_by" : Str) = "_entries") := by decide +kernel
def bf (e n : Addr) : List (Str × V) := putF "_named_by" (.ref n) (putF "_entries" (.ref e) [])
theorem bf_eq (e n : Addr) : bf e n = ([("_entries", V.ref e), ("_named_by", V.ref n)] : List (Str × V)) := by
  show (if ("_entries" : Str) = "_named_by" then [(("_entries" : Str), V.ref n)] else (("_entries" : Str), V.ref e) :: putF "_named_by" (V.ref n) []) = _
  rw [if_neg en_]; rfl
theorem bf_e (e n : Addr) : (bf e n).lookup ("_entries" : Str) = some (.ref e) := by
  unfold bf; rw [lookup_putF, if_neg en_, lookup_putF, if_pos rfl]
theorem bf_n (e n : Addr) : (bf e n).lookup ("_named_by" : Str) = some (.ref n) := by
  unfold bf; rw [lookup_putF, if_pos rfl]
theorem bf_no (e n : Addr) {m : Str} (h1 : ¬ m = "_named_by") (h2 : ¬ m = "_entries") : (bf e n).lookup m = none := by
  unfold bf; rw [lookup_putF, if_neg h1, lookup_putF, if_neg h2]; rfl

/-- the entries -/
def EntR (H : Hp) : List (List Key × V) → List Row → Prop := Paired fun q r => q.1 = mK r.mo ∧ Tp H q.2 r.d
/-- the users of each name -/
def NamR (H : Hp) (e n : Addr) (f : Mo → List (List Key × V)) : List (List Key × V) → List Mo → Prop := Paired fun q m => q.1 = mK m ∧ ∃ u, q.2 = .ref u ∧ H u = some (.dT (f m)) ∧ u ≠ e ∧ u ≠ n
structure BookI (C : Addr) (H : Hp) (b dx e n : Addr) (kvs nkv : List (List Key × V)) (rs : List Row) : Prop where
  ob : H b = some (.ins C dx (bf e n))
  en : H e = some (.dT kvs)
  nb : H n = some (.dT nkv)
  ne : e ≠ n
  er : EntR H kvs rs
  nr : NamR H e n (users rs) nkv (nms rs)
  nd : (nkv.map (·.2)).Nodup
  md : (rs.map Row.mo).Nodup
  ok : ∀ r ∈ rs, MoOk r.mo
  cl : ∀ r ∈ rs, ∀ n ∈ r.names, n ∈ nms rs
def BookAt (C : Addr) (H : Hp) (b : Addr) (rs : List Row) : Prop := ∃ dx e n kvs nkv, BookI C H b dx e n kvs nkv rs

theorem Paired.imp {α β : Type} {F G : α → β → Prop} {l₁ : List α} {l₂ : List β} (h : Paired F l₁ l₂) (k : ∀ a b, F a b → G a b) : Paired G l₁ l₂ := L2.Paired.mapP h k
theorem Paired.len {α β : Type} {F : α → β → Prop} {l₁ : List α} {l₂ : List β} (h : Paired F l₁ l₂) : l₁.length = l₂.length := PySem.Paired.length h
theorem Paired.snoc {α β : Type} {F : α → β → Prop} {l₁ : List α} {l₂ : List β} {a : α} {b : β} (h : Paired F l₁ l₂) (k : F a b) : Paired F (l₁ ++ [a]) (l₂ ++ [b]) := by
  induction h with
  | nil => exact .cons k .nil
  | cons f _ ih => exact .cons f ih
theorem EntR.keys {H : Hp} {kvs : List (List Key × V)} {rs : List Row} (h : EntR H kvs rs) : kvs.map (·.1) = (rs.map Row.mo).map mK := by
  unfold EntR at h
  induction h with
  | nil => rfl
  | cons f _ ih => rw [List.map_cons, List.map_cons, List.map_cons, ih, f.1]
theorem NamR.keys {H : Hp} {e n : Addr} {g : Mo → List (List Key × V)} {nkv : List (List Key × V)} {ms : List Mo} (h : NamR H e n g nkv ms) : nkv.map (·.1) = ms.map mK := by
  unfold NamR at h
  induction h with
  | nil => rfl
  | cons f _ ih => rw [List.map_cons, List.map_cons, ih, f.1]
theorem EntR.to {H H' : Hp} {kvs : List (List Key × V)} {rs : List Row} (h : EntR H kvs rs) (k : TK H H') : EntR H' kvs rs := Paired.imp h fun _ _ f => ⟨f.1, f.2.to k⟩
/-- an entry found by its moment -/
theorem EntR.get {H : Hp} {kvs : List (List Key × V)} {rs : List Row} (h : EntR H kvs rs) (nd : (rs.map Row.mo).Nodup) {r : Row} (hr : r ∈ rs) : ∃ v, valV kvs (mK r.mo) = some v ∧ Tp H v r.d := by
  unfold EntR at h
  induction h with
  | nil => cases hr
  | @cons q r0 kvs rs f t ih =>
    rw [List.map_cons, List.nodup_cons] at nd
    rcases List.mem_cons.mp hr with rfl | hr
    · exact ⟨q.2, valV_pos f.1, f.2⟩
    · have ne : ¬ q.1 = mK r.mo := fun z => nd.1 (by
        have : r0.mo = r.mo := mK_inj (f.1.symm.trans z)
        rw [this]; exact List.mem_map.mpr ⟨r, hr, rfl⟩)
      rw [valV_neg ne]; exact ih nd.2 hr
theorem EntR.none {H : Hp} {kvs : List (List Key × V)} {rs : List Row} (h : EntR H kvs rs) {m : Mo} (hm : m ∉ rs.map Row.mo) : valV kvs (mK m) = none := by
  have := valV_ks h.keys m
  rw [decide_eq_false hm] at this
  cases e : valV kvs (mK m) with
  | none => rfl
  | some v => rw [e] at this; cases this
theorem EntR.drop {H : Hp} {kvs : List (List Key × V)} {rs : List Row} (h : EntR H kvs rs) (m : Mo) : EntR H (dropK kvs (mK m)) (rs.filter fun r => decide (r.mo ≠ m)) := by
  unfold EntR at h ⊢
  induction h with
  | nil => exact .nil
  | @cons q r kvs rs f t ih =>
    by_cases e : r.mo = m
    · rw [dropK_pos (f.1.trans (congrArg mK e)), List.filter_cons_of_neg (by simp [e])]; exact ih
    · rw [dropK_neg (fun z => e (mK_inj (f.1.symm.trans z))), List.filter_cons_of_pos (by simp [e])]
      exact .cons f ih
theorem NamR.get {H : Hp} {e n : Addr} {g : Mo → List (List Key × V)} {nkv : List (List Key × V)} {ms : List Mo} (h : NamR H e n g nkv ms) {m : Mo} (hm : m ∈ ms) : ∃ u, valV nkv (mK m) = some (.ref u) ∧ H u = some (.dT (g m)) ∧ u ≠ e ∧ u ≠ n := by
  unfold NamR at h
  induction h with
  | nil => cases hm
  | @cons q m0 nkv ms f t ih =>
    by_cases z : m0 = m
    · subst z
      obtain ⟨u, e1, e2, e3, e4⟩ := f.2
      exact ⟨u, by rw [valV_pos f.1, e1], e2, e3, e4⟩
    · rw [valV_neg (fun y => z (mK_inj (f.1.symm.trans y)))]
      exact ih ((List.mem_cons.mp hm).resolve_left fun y => z y.symm)
theorem NamR.none {H : Hp} {e n : Addr} {g : Mo → List (List Key × V)} {nkv : List (List Key × V)} {ms : List Mo} (h : NamR H e n g nkv ms) {m : Mo} (hm : m ∉ ms) : valV nkv (mK m) = none := by
  have := valV_ks h.keys m
  rw [decide_eq_false hm] at this
  cases e : valV nkv (mK m) with
  | none => rfl
  | some v => rw [e] at this; cases this
/-- all but lists and dicts by texts is kept -/
def KB (H H' : Hp) : Prop := ∀ a o, (∀ xs, o ≠ .lst xs) → (∀ kvs, o ≠ .dK kvs) → H a = some o → H' a = some o
theorem KB.of {H H' : Hp} (s : Same H H') : KB H H' := fun a o _ _ h => s a o h
theorem KB.tk {H H' : Hp} (k : KB H H') : TK H H' := fun a xs h => k a _ (by intro z; exact nofun) (by intro z; exact nofun) h
theorem KB.kp {H H' : Hp} {p : Addr} {kvs : List (Key × V)} (k : ∀ a o, a ≠ p → H a = some o → H' a = some o) (h : H p = some (.dK kvs)) : KB H H' := fun a o _ n e => k a o (fun z => by subst z; rw [h] at e; cases e; exact n _ rfl) e
theorem BookI.keep {C : Addr} {H H' : Hp} {b dx e n : Addr} {kvs nkv : List (List Key × V)} {rs : List Row} (B : BookI C H b dx e n kvs nkv rs) (k : KB H H') : BookI C H' b dx e n kvs nkv rs :=
  ⟨k _ _ (by intro z; exact nofun) (by intro z; exact nofun) B.ob, k _ _ (by intro z; exact nofun) (by intro z; exact nofun) B.en, k _ _ (by intro z; exact nofun) (by intro z; exact nofun) B.nb, B.ne, B.er.to k.tk,
    Paired.imp B.nr fun _ _ f => ⟨f.1, let ⟨u, h1, h2, h3⟩ := f.2; ⟨u, h1, k _ _ (by intro z; exact nofun) (by intro z; exact nofun) h2, h3⟩⟩, B.nd, B.md, B.ok, B.cl⟩
theorem BookAt.keep {C : Addr} {H H' : Hp} {b : Addr} {rs : List Row} (B : BookAt C H b rs) (k : KB H H') : BookAt C H' b rs :=
  let ⟨dx, e, n, kvs, nkv, I⟩ := B
  ⟨dx, e, n, kvs, nkv, I.keep k⟩
/-- the dicts that a book's own fields refer to -/
def Own (H : Hp) (b a : Addr) : Prop := ∃ C dx e n, H b = some (.ins C dx (bf e n)) ∧ (a = e ∨ a = n ∨ ∃ nkv q, H n = some (.dT nkv) ∧ q ∈ nkv ∧ q.2 = V.ref a)
theorem bf_inj {e n e' n' : Addr} (h : bf e n = bf e' n') : e = e' ∧ n = n' := by
  have h1 := bf_e e n
  have h2 := bf_n e n
  rw [h, bf_e] at h1
  rw [h, bf_n] at h2
  cases h1; cases h2; exact ⟨rfl, rfl⟩
theorem Own.of {H : Hp} {C b dx e n a : Addr} {nkv : List (List Key × V)} (hb : H b = some (.ins C dx (bf e n))) (hn : H n = some (.dT nkv)) (h : Own H b a) : a = e ∨ a = n ∨ ∃ q ∈ nkv, q.2 = V.ref a := by
  obtain ⟨C', dx', e', n', h1, h2⟩ := h
  rw [hb] at h1
  injection h1 with h1
  injection h1 with _ _ h1
  obtain ⟨rfl, rfl⟩ := bf_inj h1
  rcases h2 with h2 | h2 | ⟨nkv', q, h3, h4, h5⟩
  · exact .inl h2
  · exact .inr (.inl h2)
  · rw [hn] at h3
    cases h3
    exact .inr (.inr ⟨q, h4, h5⟩)
theorem Own.e {H : Hp} {C b dx e n : Addr} (hb : H b = some (.ins C dx (bf e n))) : Own H b e := ⟨C, dx, e, n, hb, .inl rfl⟩
theorem Own.n {H : Hp} {C b dx e n : Addr} (hb : H b = some (.ins C dx (bf e n))) : Own H b n := ⟨C, dx, e, n, hb, .inr (.inl rfl)⟩
theorem Own.u {H : Hp} {C b dx e n u : Addr} {nkv : List (List Key × V)} {q : List Key × V} (hb : H b = some (.ins C dx (bf e n))) (hn : H n = some (.dT nkv)) (hq : q ∈ nkv) (hu : q.2 = V.ref u) : Own H b u := ⟨C, dx, e, n, hb, .inr (.inr ⟨nkv, q, hn, hq, hu⟩)⟩
/-- all is kept but dicts by tuples among some -/
def KO (O : Addr → Prop) (H H' : Hp) : Prop := ∀ a o, (O a → ∀ kvs, o ≠ .dT kvs) → H a = some o → H' a = some o
theorem KO.of {O : Addr → Prop} {H H' : Hp} (s : Same H H') : KO O H H' := fun a o _ h => s a o h
theorem KO.refl {O : Addr → Prop} (H : Hp) : KO O H H := fun _ _ _ h => h
theorem KO.trans {O : Addr → Prop} {H H1 H2 : Hp} (a : KO O H H1) (b : KO O H1 H2) : KO O H H2 := fun c o n h => b c o n (a c o n h)
theorem KO.k {O : Addr → Prop} {H H' : Hp} (k : KO O H H') {a : Addr} {o : HO} (n : ∀ kvs, o ≠ .dT kvs) (h : H a = some o) : H' a = some o := k a o (fun _ => n) h
theorem KO.tk {O : Addr → Prop} {H H' : Hp} (k : KO O H H') : TK H H' := fun a xs h => k.k (by intro z; exact nofun) h
theorem KO.put {O : Addr → Prop} {H : Hp} {a : Addr} {kvs : List (List Key × V)} {o : HO} (h : H a = some (.dT kvs)) (ha : O a) : KO O H (upd H a o) := fun x u n e => by
  rw [upd_ne (fun z => by subst z; rw [h] at e; cases e; exact n ha _ rfl)]; exact e
/-- all is kept but what a book's fields refer to, and these are what they were, or new -/
def KD (b : Addr) (H H' : Hp) : Prop := KO (Own H b) H H' ∧ ∀ a, Own H' b a → Own H b a ∨ H a = none
theorem KD.k {b : Addr} {H H' : Hp} (k : KD b H H') {a : Addr} {o : HO} (n : ∀ kvs, o ≠ .dT kvs) (h : H a = some o) : H' a = some o := k.1.k n h
theorem KD.tk {b : Addr} {H H' : Hp} (k : KD b H H') : TK H H' := k.1.tk
theorem KD.same {b : Addr} {H H1 H2 : Hp} (s : Same H H1) (f : ∀ a, Own H1 b a → H a = none) (k : KD b H1 H2) : Same H H2 ∧ ∀ a, Own H2 b a → H a = none := by
  refine ⟨fun a o h => k.1 a o (fun z => by rw [f a z] at h; cases h) (s a o h), fun a h => ?_⟩
  rcases k.2 a h with z | z
  · exact f a z
  · cases e : H a with
    | none => rfl
    | some o => rw [s a o e] at z; cases z
theorem KD.seq {b : Addr} {H H1 H2 : Hp} (s : Same H H1) (w : ∀ a, Own H1 b a → Own H b a) (k : KD b H1 H2) : KD b H H2 := by
  refine ⟨fun a o n h => k.1 a o (fun z => n (w a z)) (s a o h), fun a h => ?_⟩
  rcases k.2 a h with z | z
  · exact .inl (w a z)
  · refine .inr ?_
    cases e : H a with
    | none => rfl
    | some o => rw [s a o e] at z; cases z
theorem BookI.ow {C : Addr} {H H' : Hp} {b dx e n : Addr} {kvs nkv : List (List Key × V)} {rs : List Row} (B : BookI C H b dx e n kvs nkv rs) (s : Same H H') (a : Addr) (h : Own H' b a) : Own H b a := by
  rcases h.of (s _ _ B.ob) (s _ _ B.nb) with h | h | ⟨q, h, z⟩
  · subst h; exact Own.e B.ob
  · subst h; exact Own.n B.ob
  · exact Own.u B.ob B.nb h z
theorem KD.sq {C : Addr} {H H1 H2 : Hp} {b : Addr} {rs : List Row} (B : BookAt C H b rs) (s : Same H H1) (k : KD b H1 H2) : KD b H H2 :=
  let ⟨_, _, _, _, _, I⟩ := B
  KD.seq s (I.ow s) k
theorem nms_sub {rs : List Row} {m : Mo} (h : m ∈ nms rs) : m ∈ rs.map Row.mo := by
  obtain ⟨r, hr, e⟩ := List.mem_map.mp h
  exact List.mem_map.mpr ⟨r, (List.mem_filter.mp hr).1, e⟩
theorem nms_nd {rs : List Row} (h : (rs.map Row.mo).Nodup) : (nms rs).Nodup := List.Nodup.sublist (List.Sublist.map _ List.filter_sublist) h
theorem nms_row {rs : List Row} {m : Mo} (h : m ∈ nms rs) : ∃ rk ws ss l, Row.nm m rk ws ss l ∈ rs := by
  obtain ⟨r, hr, e⟩ := List.mem_map.mp h
  obtain ⟨h1, h2⟩ := List.mem_filter.mp hr
  cases r with
  | nm m' rk ws ss l => cases e; exact ⟨rk, ws, ss, l, h1⟩
  | _ => cases h2
theorem row_nms {rs : List Row} {m : Mo} {rk : Int} {ws ss : List Str} {l : Option Mo} (h : Row.nm m rk ws ss l ∈ rs) : m ∈ nms rs := List.mem_map.mpr ⟨_, List.mem_filter.mpr ⟨h, rfl⟩, rfl⟩
theorem users_key {rs : List Row} {n m : Mo} (h : m ∉ rs.map Row.mo) : valV (users rs n) (mK m) = none := by
  cases e : valV (users rs n) (mK m) with
  | none => rfl
  | some v =>
    obtain ⟨r, hr, er⟩ := List.mem_map.mp (valV_mem e)
    have : mK r.mo = mK m := congrArg Prod.fst er
    exact absurd (List.mem_map.mpr ⟨r, (List.mem_filter.mp hr).1, mK_inj this⟩) h
theorem users_has {rs : List Row} {n : Mo} {r : Row} (h : r ∈ rs) (k : n ∈ r.names) : (valV (users rs n) (mK r.mo)).isSome = true := by
  have hm : (mK r.mo, V.bl true) ∈ users rs n := List.mem_map.mpr ⟨r, List.mem_filter.mpr ⟨h, decide_eq_true k⟩, rfl⟩
  cases e : valV (users rs n) (mK r.mo) with
  | some v => rfl
  | none => exact absurd (List.mem_map.mpr ⟨_, hm, rfl⟩) (valV_not e)
theorem users_drop {rs : List Row} (n : Mo) (m : Mo) : dropK (users rs n) (mK m) = users (rs.filter fun r => decide (r.mo ≠ m)) n := by
  unfold users
  induction rs with
  | nil => rfl
  | cons r rs ih =>
    by_cases h : n ∈ r.names <;> by_cases e : r.mo = m
    · rw [List.filter_cons_of_pos (by simp [h]), List.filter_cons_of_neg (p := fun (r : Row) => decide (r.mo ≠ m)) (by simp [e]), List.map_cons, dropK_pos (congrArg mK e)]; exact ih
    · rw [List.filter_cons_of_pos (by simp [h]), List.filter_cons_of_pos (p := fun (r : Row) => decide (r.mo ≠ m)) (by simp [e]), List.map_cons, dropK_neg (fun z => e (mK_inj z)), List.filter_cons_of_pos (by simp [h]), List.map_cons, ih]
    · rw [List.filter_cons_of_neg (by simp [h]), List.filter_cons_of_neg (p := fun (r : Row) => decide (r.mo ≠ m)) (by simp [e])]; exact ih
    · rw [List.filter_cons_of_neg (by simp [h]), List.filter_cons_of_pos (p := fun (r : Row) => decide (r.mo ≠ m)) (by simp [e]), List.filter_cons_of_neg (by simp [h])]; exact ih
/-- a name's users changed -/
theorem NamR.put1 {H : Hp} {e n : Addr} {f : Mo → List (List Key × V)} {nkv : List (List Key × V)} {ms : List Mo} (h : NamR H e n f nkv ms) (nd : (nkv.map (·.2)).Nodup) (md : ms.Nodup) {m : Mo} {u : Addr} (hm : m ∈ ms) (hu : valV nkv (mK m) = some (.ref u)) (l : List (List Key × V)) :
    NamR (upd H u (.dT l)) e n (fun x => if x = m then l else f x) nkv ms := by
  unfold NamR at h ⊢
  induction h with
  | nil => cases hm
  | @cons q m0 nkv ms g t ih =>
    rw [List.map_cons, List.nodup_cons] at nd
    rw [List.nodup_cons] at md
    obtain ⟨u0, e1, e2, e3, e4⟩ := g.2
    have keep : ∀ {nkv : List (List Key × V)} {ms : List Mo}, Paired (fun q m => q.1 = mK m ∧ ∃ u, q.2 = .ref u ∧ H u = some (.dT (f m)) ∧ u ≠ e ∧ u ≠ n) nkv ms → V.ref u ∉ nkv.map (·.2) → m ∉ ms →
        Paired (fun q x => q.1 = mK x ∧ ∃ u', q.2 = .ref u' ∧ upd H u (.dT l) u' = some (.dT (if x = m then l else f x)) ∧ u' ≠ e ∧ u' ≠ n) nkv ms := by
      intro nkv ms t
      induction t with
      | nil => intro _ _; exact .nil
      | @cons q x nkv ms g t ih =>
        intro h1 h2
        obtain ⟨u1, a1, a2, a3, a4⟩ := g.2
        refine .cons ⟨g.1, u1, a1, ?_, a3, a4⟩ (ih (fun z => h1 (List.mem_cons_of_mem _ z)) fun z => h2 (List.mem_cons_of_mem _ z))
        rw [upd_ne (fun z => h1 (by rw [← z, ← a1]; exact List.mem_cons_self)), if_neg (fun z => h2 (by rw [z]; exact List.mem_cons_self))]
        exact a2
    by_cases z : m0 = m
    · subst z
      rw [valV_pos g.1, e1] at hu
      cases hu
      rw [e1] at nd
      exact .cons ⟨g.1, u, e1, (by show _ = some (HO.dT (if m0 = m0 then l else f m0)); rw [upd_same, if_pos rfl]), e3, e4⟩ (keep t nd.1 md.1)
    · rw [valV_neg (fun y => z (mK_inj (g.1.symm.trans y)))] at hu
      have hu0 : u0 ≠ u := fun y => by
        subst y
        exact nd.1 (by rw [e1]; exact List.mem_map.mpr ⟨_, valV_mem hu, rfl⟩)
      refine .cons ⟨g.1, u0, e1, (by show _ = some (HO.dT (if m0 = m then l else f m0)); rw [upd_ne hu0, if_neg z]; exact e2), e3, e4⟩ (ih nd.2 md.2 ((List.mem_cons.mp hm).resolve_left fun y => z y.symm) hu)
theorem NamR.fn {H : Hp} {e n : Addr} {f g : Mo → List (List Key × V)} {nkv : List (List Key × V)} {ms : List Mo} (h : NamR H e n f nkv ms) (k : ∀ m ∈ ms, f m = g m) : NamR H e n g nkv ms := by
  unfold NamR at h ⊢
  induction h with
  | nil => exact .nil
  | @cons q m nkv ms a t ih =>
    obtain ⟨u, h1, h2, h3⟩ := a.2
    exact .cons ⟨a.1, u, h1, by rw [← k _ List.mem_cons_self]; exact h2, h3⟩ (ih fun x hx => k x (List.mem_cons_of_mem _ hx))
theorem NamR.off {H H' : Hp} {e n : Addr} {f : Mo → List (List Key × V)} {nkv : List (List Key × V)} {ms : List Mo} (h : NamR H e n f nkv ms) (k : ∀ u kvs, u ≠ e → u ≠ n → H u = some (.dT kvs) → H' u = some (.dT kvs)) : NamR H' e n f nkv ms :=
  Paired.imp h fun _ _ a => ⟨a.1, let ⟨u, h1, h2, h3, h4⟩ := a.2; ⟨u, h1, k _ _ h3 h4 h2, h3, h4⟩⟩
theorem NamR.snd {H : Hp} {e n : Addr} {f : Mo → List (List Key × V)} {nkv : List (List Key × V)} {ms : List Mo} (h : NamR H e n f nkv ms) {v : V} (hv : v ∈ nkv.map (·.2)) : ∃ u, v = .ref u ∧ ∃ kvs, H u = some (.dT kvs) := by
  unfold NamR at h
  induction h with
  | nil => cases hv
  | @cons q m nkv ms a t ih =>
    obtain ⟨u, h1, h2, _⟩ := a.2
    rcases List.mem_cons.mp hv with z | z
    · exact ⟨u, z.trans h1, _, h2⟩
    · exact ih z
end KN

set_option Elab.async false
set_option linter.all false
set_option maxRecDepth 100000
set_option maxHeartbeats 4000000
namespace KN
open PySem L2
def NmOk (rank : Int) (ws ss : List Str) (like : Option Mo) : Prop := 0 ≤ rank ∧ rank ≤ 5 ∧ ws.length = (if rank = 0 then 2 else 1) ∧ (∀ w ∈ ws, IsW w) ∧
  ((rank = 0 ∧ like = none ∧ SheetsOk ss) ∨ (ss = [] ∧ ∃ m, like = some m ∧ MoOk m))
def spBad : Sp := fun vs H Q _ => ∃ (rank : Int) (wa sa : Addr) (lv : V) (ws ss : List Str) (like : Option Mo), vs = [.int rank, .ref wa, .ref sa, lv] ∧ H wa = some (.tup (ws.map V.str)) ∧ H sa = some (.tup (ss.map V.str)) ∧ UpV H lv like ∧ NmOk rank ws ss like ∧
  ∀ H', Same H H' → Q .non H'
def spMayLike : Sp := fun vs H Q _ => ∃ r o : Int, vs = [.int r, .int o] ∧ Q (.bl (if r = 0 then decide (o = 0) else decide (o < r))) H
def spNamedIn : Sp := fun vs H Q _ => ∃ (v : V) (r : Row), vs = [v] ∧ Tp H v r.d ∧ ∀ (H' : Hp) (l : Addr), Same H H' → H l = none → Ls H' l (r.names.map mD) → Q (.ref l) H'
/-- what the walk asks of the class Book as the top has made it -/
structure BkT (K : PySem.W.Frag) (C : Addr) : Prop where
  cl : Cls K C
  nE : NoAttr K C "_entries"
  nN : NoAttr K C "_named_by"
def spInit (C : Addr) : Sp := fun vs H Q _ => ∃ (b dx : Addr), vs = [.ref b] ∧ H b = some (.ins C dx []) ∧ ∀ H', (∀ a o, a ≠ b → H a = some o → H' a = some o) → (∀ a, Own H' b a → H a = none) → BookAt C H' b [] → Q .non H'
def spKeep (C : Addr) : Sp := fun vs H Q _ => ∃ (b : Addr) (v : V) (r : Row) (rs : List Row), vs = [.ref b, v] ∧ BookAt C H b rs ∧ Tp H v r.d ∧ r.mo ∉ rs.map Row.mo ∧ MoOk r.mo ∧ (∀ n ∈ r.names, n ∈ nms rs) ∧ r.names.Nodup ∧ rs.length ≤ 60 ∧
  ∀ H', KD b H H' → BookAt C H' b (rs ++ [r]) → Q .non H'
theorem sort_nm (r : Row) : decide (V.str r.sort = V.str "name") = r.isNm := by
  have h1 : ¬ ("choice" : Str) = "name" := by decide +kernel
  have h2 : ¬ ("strike" : Str) = "name" := by decide +kernel
  have h3 : ¬ ("ahead" : Str) = "name" := by decide +kernel
  cases r with
  | nm => exact decide_eq_true rfl
  | ch => exact decide_eq_false fun z => h1 (by injection z)
  | st => exact decide_eq_false fun z => h2 (by injection z)
  | ah => exact decide_eq_false fun z => h3 (by injection z)
def Row.isAh : Row → Bool
  | .ah .. => true
  | _ => false
theorem sort_ah (r : Row) : decide (V.str r.sort = V.str "ahead") = r.isAh := by
  have h1 : ¬ ("choice" : Str) = "ahead" := by decide +kernel
  have h2 : ¬ ("strike" : Str) = "ahead" := by decide +kernel
  have h3 : ¬ ("name" : Str) = "ahead" := by decide +kernel
  cases r with
  | ah => exact decide_eq_true rfl
  | ch => exact decide_eq_false fun z => h1 (by injection z)
  | st => exact decide_eq_false fun z => h2 (by injection z)
  | nm => exact decide_eq_false fun z => h3 (by injection z)
theorem Tp.str_inv {H : Hp} {v : V} {s : Str} (h : Tp H v (.str s)) : v = .str s := by cases h; rfl
theorem Tp.int_inv {H : Hp} {v : V} {s : Int} (h : Tp H v (.int s)) : v = .int s := by cases h; rfl
section
variable {P : Program} {w : World} {K : PySem.W.Frag} {mg : Str → Option Value} {base : Heap} {C : Addr}
theorem sc_bad_name : FnScope ["rank", "words", "sheets", "like", "many", "word"] ["rank", "words", "sheets", "like"] (defScope s_bad_name) := ⟨rfl, rfl, rfl, by decide +kernel, rfl, by decide +kernel, by decide +kernel⟩
theorem ok_bad_name {f : Addr} {fd : FuncData} (F : Fun K "bad_name" "bad_name" s_bad_name f fd) (m_isinstance : mg "isinstance" = none) (m_tuple : mg "tuple" = none) (m_len : mg "len" = none) (m_all : mg "all" = none)
    (g_MOST_RANK : ∃ u, mg "MOST_RANK" = some u ∧ RelV (.int 5) u) (c_is_number : C8.Cal P w K mg base 1 "is_number" (spNumber K) []) (c_is_word : C8.Cal P w K mg base 1 "is_word" (spWord K) []) (c_are_sheets : C8.Cal P w K mg base 2 "are_sheets" spSheets [])
    (c_is_list : C8.Cal P w K mg base 1 "is_list" spList []) (c_is_moment : C8.Cal P w K mg base 2 "is_moment" spMoment []) : FnOk P w K mg base CX0 3 f fd ["rank", "words", "sheets", "like"] spBad := by
  refine F.ok sc_bad_name (fun vs H Q E h => ?_) (fun cdv A outer s H vs Q E hr h => ?_)
  · obtain ⟨rank, wa, sa, lv, ws, ss, like, rfl, _⟩ := h; rfl
  · obtain ⟨rank, wa, sa, lv, ws, ss, like, rfl, hwa, hsa, hl, ⟨r0, r5, hwl, hws, hss⟩, k⟩ := h
    refine ⟨_, (pss_cons (ps_if (pt_not (pt_val (C8.pe_c c_is_number hr (by decide) rfl (pa_cons (pv 0) (pa_cons pe_int (pa_cons (C8.pe_gc rfl g_MOST_RANK) pa_nil)))))) (pss_one (ps_ret pe_str)) pss_nil)
      (C8.pss_cut (ps_set (i := 4) sc_bad_name.nd rfl (Or.inl rfl) (pe_ifExp (pt_cmpR op_eq (pv 0) pe_int (nomark _)) pe_int pe_int))
      (pss_cons (ps_if (PW.pt (pw_or (pt_not (pt_val (pe_callB call_isi (by rfl) m_isinstance (by decide +kernel) (pa_cons (pv 1) (pa_cons (pe_bltn (v := .ty "tuple") (u := .type "tuple") rfl m_tuple (by decide +kernel) rfl) pa_nil))))) (pw_or (pt_cmpR op_ne (pe_callB call_len_seq (by rfl) m_len (by decide +kernel) (pa_cons (pv 1) pa_nil)) (pv 4) (nomark _)) (pw_or1 (pt_not (pt_val (pe_callB (cr_all rfl) (by rfl) m_all (by decide +kernel) (pa_cons (pe_lc (own := [("word", 5)]) (g := gName 5) (tt := tYes) rfl sc_bad_name.nd (pi_tup (pv 1)) (blkOk_by (own := [("word", 5)]) (N := ["rank", "words", "sheets", "like", "many", "word"]) (sc := defScope s_bad_name) (by decide +kernel)) (fun _ _ _ _ _ => pg_name (i := 5) sc_bad_name.nd rfl (Or.inl rfl)) (fun _ _ _ _ _ => pts_nil) (fun _ _ _ _ _ => (C8.pe_c c_is_word hr (by decide) rfl (pa_cons (pv 5) pa_nil)))) pa_nil)))))))) (pss_one (ps_ret pe_str)) pss_nil)
      (C8.pss_cut (ps_if (PW.pt (pw_and (pt_cmpR op_eq (pv 0) pe_int (nomark _)) (pw_and1 (pt_cmpR op_isN (pv 3) pe_non (nomark _))))) (pss_one (ps_ret (pe_ifExp (pt_val (C8.pe_c c_are_sheets hr (by decide) rfl (pa_cons (pv 2) pa_nil))) pe_non pe_str))) pss_nil)
      (pss_cons (ps_if (PW.pt (pw_or (pt_not (pt_val (C8.pe_c c_is_list hr (by decide) rfl (pa_cons (pv 2) pa_nil)))) (pw_or1 (pt_cmpR op_gt (pe_callB call_len_seq (by rfl) m_len (by decide +kernel) (pa_cons (pv 2) pa_nil)) pe_int (nomark _))))) (pss_one (ps_ret pe_str)) pss_nil)
      (pss_one (ps_ret (pe_ifExp (pt_val (C8.pe_c c_is_moment hr (by decide) rfl (pa_cons (pv 3) pa_nil))) pe_non pe_str)))))))), ?_⟩
    have er : (decide ((0 : Int) ≤ rank) && decide (rank ≤ 5)) = true := by rw [decide_eq_true r0, decide_eq_true r5]; rfl
    refine ⟨_, rfl, _, _, _, rfl, .inl ⟨_, rfl, ?_⟩⟩
    rw [er]
    refine ⟨_, rfl, iteF ?_⟩
    refine ⟨fun σ' H' => σ' = [some (.int rank), some (.ref wa), some (.ref sa), some lv, some (.int (ws.length : Int)), none] ∧ H' = H, ?_, ?_⟩
    · refine ⟨_, rfl, rfl, _, rfl, ite2 (fun h => ?_) (fun h => ?_)⟩
      · have h' : rank = 0 := by have := of_decide_eq_true h; injection this
        rw [if_pos h'] at hwl
        exact ⟨by rw [hwl]; rfl, rfl⟩
      · have h' : ¬ rank = 0 := fun z => h (by rw [z]; rfl)
        rw [if_neg h'] at hwl
        exact ⟨by rw [hwl]; rfl, rfl⟩
    rintro σ1 H1 ⟨rfl, rfl⟩
    refine ⟨_, rfl, _, _, _, _, true, rfl, .ty _, .base (.tup hwa), kit_ty (by decide +kernel), _, rfl, iteF ?_⟩
    refine ⟨_, rfl, _, _, rfl, .inr (SqT.of hwa), _, rfl, rfl, _, rfl, ?_⟩
    rw [List.length_map, decide_eq_true rfl]
    refine iteF ?_
    -- all(words)
    have hwn : ws.length ≤ 2 := by rw [hwl]; split <;> omega
    refine ⟨_, rfl, wa, rfl, ⟨_, SqT.of hwa⟩, fun D hD => ?_⟩
    refine lc_tup (K := K) (a := wa) (xs := ws.map V.str) (fun i H' => Same H1 H' ∧ ∃ bs : List Bool, H' D = some (.lst (bs.map V.bl)) ∧ bs.length = i ∧ bs.all id = true)
      ⟨Same.new hD, [], upd_same, rfl, rfl⟩ (fun i H' _ q => SqT.of (q.1 _ _ hwa)) ?_ ?_
    · rintro i x H2 hi ⟨s2, bs, e2, l2, a2⟩
      rw [List.getElem?_map] at hi
      obtain ⟨z, hz, rfl⟩ : ∃ z, ws[i]? = some z ∧ x = .str z := by
        cases e : ws[i]? with
        | none => rw [e] at hi; cases hi
        | some z => rw [e] at hi; exact ⟨z, rfl, (Option.some.inj hi).symm⟩
      have hw := hws z (List.mem_of_getElem? hz)
      refine ⟨rfl, _, rfl, _, rfl, .inl ⟨z, rfl, by rw [slen]; exact Nat.le_trans hw.2.1 (by decide), fun H3 s3 => ?_⟩⟩
      rw [isWB_iff.mpr hw]
      have hlt : i < ws.length := (List.getElem?_eq_some_iff.mp hz).1
      refine ⟨_, s3 _ _ e2, by rw [List.length_map, l2]; exact small1000 (by omega), fun b o e => ?_, bs ++ [true], by rw [upd_same, List.map_append]; rfl, by rw [List.length_append, l2]; rfl, by rw [List.all_append, a2]; rfl⟩
      rw [upd_ne (ne_of_none e hD)]; exact s3 _ _ (s2 _ _ e)
    rintro H2 ⟨s2, bs, e2, l2, a2⟩
    refine ⟨D, bs, rfl, SqL.of e2, _, rfl, ?_⟩
    rw [a2]
    refine iteF ?_
    have hsa2 := s2 _ _ hsa
    have hl2 := hl.to (TK.of s2)
    refine ⟨fun σ' H' => σ' = [some (.int rank), some (.ref wa), some (.ref sa), some lv, some (.int (ws.length : Int)), none] ∧ H' = H2 ∧ ss = [] ∧ ∃ m, like = some m ∧ MoOk m, ?_, ?_⟩
    · rcases hss with ⟨e0, rfl, hz⟩ | ⟨rfl, m, rfl, hm⟩
      · subst e0
        cases (show lv = .non from hl)
        refine ⟨_, rfl, rfl, _, rfl, iteT ?_⟩
        refine ⟨_, rfl, rfl, _, rfl, iteT ?_⟩
        refine ⟨_, rfl, sa, ss, rfl, hsa2, hz, fun H3 s3 => ⟨_, rfl, iteT ?_⟩⟩
        exact k _ (s2.trans s3)
      · obtain ⟨la, rfl, hla⟩ := hl2
        refine ⟨_, rfl, rfl, _, rfl, ite2 (fun h => ?_) (fun h => ?_)⟩
        · refine ⟨_, rfl, rfl, _, rfl, iteF ?_⟩
          exact ⟨rfl, rfl, rfl, m, rfl, hm⟩
        · exact ⟨rfl, rfl, rfl, m, rfl, hm⟩
    rintro σ3 H3 ⟨rfl, rfl, rfl, m, rfl, hm⟩
    obtain ⟨la, rfl, hla⟩ := hl2
    refine ⟨_, rfl, sa, rfl, .inl ⟨_, hsa2⟩, fun H4 s4 => ?_⟩
    refine ⟨_, rfl, iteF ?_⟩
    refine ⟨_, rfl, _, _, rfl, .inr (SqT.of (s4 _ _ hsa2)), _, _, rfl, rfl, _, rfl, iteF ?_⟩
    refine ⟨_, rfl, la, m, rfl, s4 _ _ hla, hm, _, rfl, iteT ?_⟩
    exact k _ (s2.trans s4)
theorem sc__may_be_like : FnScope ["rank", "other"] ["rank", "other"] (defScope s__may_be_like) := ⟨rfl, rfl, rfl, by decide +kernel, rfl, by decide +kernel, by decide +kernel⟩
theorem ok__may_be_like {f : Addr} {fd : FuncData} (F : Fun K "_may_be_like" "_may_be_like" s__may_be_like f fd) : FnOk P w K mg base CX0 1 f fd ["rank", "other"] spMayLike := by
  refine F.ok sc__may_be_like (fun vs H Q E h => ?_) (fun cdv A outer s H vs Q E hr h => ?_)
  · obtain ⟨r, o, rfl, _⟩ := h; rfl
  · obtain ⟨r, o, rfl, k⟩ := h
    refine ⟨_, (pss_one (ps_ret (pe_ifExp (pt_cmpR op_eq (pv 0) pe_int (nomark _)) (pe_cmpR op_eq (pv 1) pe_int (nomark _)) (pe_cmpR op_lt (pv 1) (pv 0) (nomark _))))), ?_⟩
    refine ⟨_, rfl, rfl, _, rfl, ite2 (fun h => ?_) (fun h => ?_)⟩
    · have h' : r = 0 := by have := of_decide_eq_true h; injection this
      rw [if_pos h'] at k
      refine ⟨_, rfl, rfl, ?_⟩
      have e : decide (V.int o = V.int 0) = decide (o = 0) := by
        by_cases q : o = 0
        · rw [decide_eq_true q, q]; rfl
        · rw [decide_eq_false q]; exact decide_eq_false fun z => q (by injection z)
      rw [e]; exact k
    · have h' : ¬ r = 0 := fun z => h (by rw [z]; rfl)
      rw [if_neg h'] at k
      exact ⟨_, rfl, _, rfl, _, _, rfl, rfl, k⟩
theorem sc__named_in : FnScope ["record"] ["record"] (defScope s__named_in) := ⟨rfl, rfl, rfl, by decide +kernel, rfl, by decide +kernel, by decide +kernel⟩
theorem ok__named_in {f : Addr} {fd : FuncData} (F : Fun K "_named_in" "_named_in" s__named_in f fd) : FnOk P w K mg base CX0 1 f fd ["record"] spNamedIn := by
  refine F.ok sc__named_in (fun vs H Q E h => ?_) (fun cdv A outer s H vs Q E hr h => ?_)
  · obtain ⟨v, r, rfl, _⟩ := h; rfl
  · obtain ⟨v, r, rfl, hv, k⟩ := h
    refine ⟨_, (pss_cons (ps_if (pt_cmpR op_eq (pe_ix ix_tup (pv 0) pe_int (fun _ _ => rfl)) pe_str (nomark _)) (pss_one (ps_ret (pe_ifExp (pt_cmpR op_isN (pe_ix ix_tup (pv 0) pe_int (fun _ _ => rfl)) pe_non (nomark _)) (pe_lst pa_nil) (pe_lst (pa_cons (pe_ix ix_tup (pv 0) pe_int (fun _ _ => rfl)) pa_nil))))) pss_nil)
      (pss_cons (ps_if (pt_cmpR op_eq (pe_ix ix_tup (pv 0) pe_int (fun _ _ => rfl)) pe_str (nomark _)) (pss_one (ps_ret (pe_lst (pa_cons (pe_ix ix_tup (pv 0) pe_int (fun _ _ => rfl)) (pa_cons (pe_ix ix_tup (pv 0) pe_int (fun _ _ => rfl)) pa_nil))))) pss_nil)
      (pss_one (ps_ret (pe_lst (pa_cons (pe_ix ix_tup (pv 0) pe_int (fun _ _ => rfl)) pa_nil)))))), ?_⟩
    obtain ⟨t, xs, rfl, ht, rx⟩ := Tp.inv hv
    obtain ⟨v0, a0, t0⟩ := Tp.at (K := K) ht rx r.ds0
    cases Tp.str_inv t0
    refine ⟨_, rfl, _, _, _, _, rfl, rfl, SqT.of ht, a0, rfl, _, rfl, ?_⟩
    rw [sort_nm]
    cases r with
    | nm m rk ws ss l =>
      refine iteT ?_
      obtain ⟨v5, a5, t5⟩ := Tp.at (K := K) (i := 5) (d := oD l) ht rx rfl
      refine ⟨_, rfl, _, _, _, _, rfl, rfl, SqT.of ht, a5, rfl, _, rfl, ?_⟩
      cases l with
      | none =>
        cases t5
        exact iteT ⟨Nat.zero_le _, fun l hl => k _ l (Same.new hl) hl ⟨_, upd_same, .nil⟩⟩
      | some m5 =>
        obtain ⟨b, rfl, hb⟩ := Tp.mo_inv t5
        refine iteF ⟨_, rfl, _, _, _, _, rfl, rfl, SqT.of ht, a5, by show 1 ≤ sizeLine; decide, fun l hl => k _ l (Same.new hl) hl ⟨_, upd_same, .cons (t5.to (TK.new hl)) .nil⟩⟩
    | ch m n z =>
      refine iteF ?_
      obtain ⟨v2, a2, t2⟩ := Tp.at (K := K) (i := 2) (d := mD n) ht rx rfl
      refine ⟨_, rfl, _, _, _, _, rfl, rfl, SqT.of ht, a0, rfl, _, rfl, ?_⟩
      rw [sort_ah]
      exact iteF ⟨_, rfl, _, _, _, _, rfl, rfl, SqT.of ht, a2, by show 1 ≤ sizeLine; decide, fun l hl => k _ l (Same.new hl) hl ⟨_, upd_same, .cons (t2.to (TK.new hl)) .nil⟩⟩
    | st m n z =>
      refine iteF ?_
      obtain ⟨v2, a2, t2⟩ := Tp.at (K := K) (i := 2) (d := mD n) ht rx rfl
      refine ⟨_, rfl, _, _, _, _, rfl, rfl, SqT.of ht, a0, rfl, _, rfl, ?_⟩
      rw [sort_ah]
      exact iteF ⟨_, rfl, _, _, _, _, rfl, rfl, SqT.of ht, a2, by show 1 ≤ sizeLine; decide, fun l hl => k _ l (Same.new hl) hl ⟨_, upd_same, .cons (t2.to (TK.new hl)) .nil⟩⟩
    | ah m n o =>
      refine iteF ?_
      obtain ⟨v2, a2, t2⟩ := Tp.at (K := K) (i := 2) (d := mD n) ht rx rfl
      obtain ⟨v3, a3, t3⟩ := Tp.at (K := K) (i := 3) (d := mD o) ht rx rfl
      refine ⟨_, rfl, _, _, _, _, rfl, rfl, SqT.of ht, a0, rfl, _, rfl, ?_⟩
      rw [sort_ah]
      exact iteT ⟨_, rfl, _, _, _, _, rfl, rfl, SqT.of ht, a2, _, rfl, _, _, _, _, rfl, rfl, SqT.of ht, a3, by show 2 ≤ sizeLine; decide, fun l hl => k _ l (Same.new hl) hl ⟨_, upd_same, .cons (t2.to (TK.new hl)) (.cons (t3.to (TK.new hl)) .nil)⟩⟩
theorem sc_Book___init__ : FnScope ["self"] ["self"] (defScope s_Book___init__) := ⟨rfl, rfl, rfl, by decide +kernel, rfl, by decide +kernel, by decide +kernel⟩
theorem ok_Book_init {f : Addr} {fd : FuncData} (F : Fun K "__init__" "Book.__init__" s_Book___init__ f fd) (T : BkT K C) : FnOk P w K mg base CX0 1 f fd ["self"] (spInit C) := by
  refine F.ok sc_Book___init__ (fun vs H Q E h => ?_) (fun cdv A outer s H vs Q E hr h => ?_)
  · obtain ⟨b, dx, rfl, _⟩ := h; rfl
  · obtain ⟨b, dx, rfl, hb, k⟩ := h
    refine ⟨_, (pss_cons (ps_fld (pv 0) pe_dnewT rfl)
      (pss_one (ps_fld (pv 0) pe_dnewT rfl))), ?_⟩
    intro e he
    have nbe : b ≠ e := ne_of_none hb he
    refine ⟨_, rfl, b, C, dx, [], rfl, (by rw [upd_ne nbe]; exact hb), T.cl, T.nE, (by show 0 < 1000; decide), ?_⟩
    intro n hn
    have nbn : b ≠ n := fun z => by subst z; rw [upd_same] at hn; cases hn
    have nen : e ≠ n := fun z => by subst z; rw [upd_ne nbe.symm, upd_same] at hn; cases hn
    have hn0 : H n = none := by rw [upd_ne nbn.symm, upd_ne nen.symm] at hn; exact hn
    refine ⟨_, rfl, b, C, dx, _, rfl, (by rw [upd_ne nbn, upd_same]), T.cl, T.nN, (by show 1 < 1000; decide), ?_⟩
    refine k _ (fun a o na ea => ?_) (fun a ha => ?_) ⟨dx, e, n, [], [], upd_same, by rw [upd_ne nbe.symm, upd_ne nen, upd_ne nbe.symm, upd_same], by rw [upd_ne nbn.symm, upd_same], nen, .nil, .nil, List.nodup_nil, List.nodup_nil, (fun r hr => by cases hr), (fun r hr => by cases hr)⟩
    · rw [upd_ne na, upd_ne (ne_of_none ea hn0), upd_ne na, upd_ne (ne_of_none ea he)]
      exact ea
    · rcases ha.of (C := C) (dx := dx) (e := e) (n := n) upd_same (by rw [upd_ne nbn.symm, upd_same]) with h | h | ⟨q, h, _⟩
      · subst h; exact he
      · subst h; exact hn0
      · cases h
end
end KN


set_option Elab.async false
set_option linter.all false
set_option maxRecDepth 100000
set_option maxHeartbeats 4000000
namespace KN
open PySem L2
theorem cut_nox {X : Cx} {st : List Stmt} {D : Ends} {σ : St} {H : Hp} (h : ∃ t, PSs X.nox st t ∧ t D σ H) : ∃ t, PSs X st t ∧ t D σ H := let ⟨t, a, b⟩ := h; ⟨t, a.nox, b⟩
def spName (C : Addr) : Sp := fun vs H Q _ => ∃ (b a : Addr) (v : V) (u : Option Mo) (rs : List Row) (r : Row), vs = [.ref b, .ref a, v] ∧ BookAt C H b rs ∧ H a = some (.tup [.int r.mo.1, .int r.mo.2]) ∧ UpV H v u ∧ r ∈ rs ∧ r.isNm = true ∧ upB r.mo u = true ∧
  ∀ x, Tp H x r.d → Q x H
def spRefuse (C : Addr) : Sp := fun vs H Q _ => ∃ (b am an : Addr) (m n : Mo) (rs : List Row), vs = [.ref b, .ref am, .ref an] ∧ BookAt C H b rs ∧ H am = some (.tup [.int m.1, .int m.2]) ∧ H an = some (.tup [.int n.1, .int n.2]) ∧ n ∈ nms rs ∧ ¬ mLt m n ∧ Q .non H
def spRank (C : Addr) : Sp := fun vs H Q _ => ∃ (b a : Addr) (m : Mo) (rk : Int) (ws ss : List Str) (l : Option Mo) (rs : List Row), vs = [.ref b, .ref a] ∧ BookAt C H b rs ∧ H a = some (.tup [.int m.1, .int m.2]) ∧ Row.nm m rk ws ss l ∈ rs ∧ Q (.int rk) H
def spPublish (C : Addr) : Sp := fun vs H Q _ => ∃ (b am wa sa : Addr) (lv : V) (m : Mo) (rank : Int) (ws ss : List Str) (like : Option Mo) (rs : List Row), vs = [.ref b, .ref am, .ref wa, .int rank, .ref sa, lv] ∧ BookAt C H b rs ∧
  H am = some (.tup [.int m.1, .int m.2]) ∧ H wa = some (.tup (ws.map V.str)) ∧ H sa = some (.tup (ss.map V.str)) ∧ UpV H lv like ∧ NmOk rank ws ss like ∧ MoOk m ∧ m ∉ rs.map Row.mo ∧ rs.length ≤ 60 ∧
  (∀ l, like = some l → ¬ mLt m l ∧ ∃ rk ws' ss' l', Row.nm l rk ws' ss' l' ∈ rs ∧ (if rank = 0 then decide (rk = 0) else decide (rk < rank)) = true) ∧
  ∀ H', KD b H H' → BookAt C H' b (rs ++ [.nm m rank ws ss like]) → Q .non H'
def spAhead (C : Addr) : Sp := fun vs H Q _ => ∃ (b am an ao : Addr) (m n o : Mo) (rk : Int) (rs : List Row), vs = [.ref b, .ref am, .ref an, .ref ao] ∧ BookAt C H b rs ∧
  H am = some (.tup [.int m.1, .int m.2]) ∧ H an = some (.tup [.int n.1, .int n.2]) ∧ H ao = some (.tup [.int o.1, .int o.2]) ∧ MoOk m ∧ m ∉ rs.map Row.mo ∧ rs.length ≤ 60 ∧ ¬ mLt m n ∧ ¬ mLt m o ∧ n ≠ o ∧
  (∃ ws ss l, Row.nm n rk ws ss l ∈ rs) ∧ (∃ ws ss l, Row.nm o rk ws ss l ∈ rs) ∧ ∀ H', KD b H H' → BookAt C H' b (rs ++ [.ah m n o]) → Q .non H'
section
variable {P : Program} {w : World} {K : PySem.W.Frag} {mg : Str → Option Value} {base : Heap} {C : Addr}
theorem sc_Book__keep : FnScope ["self", "record", "name"] ["self", "record"] (defScope s_Book__keep) := ⟨rfl, rfl, rfl, by decide +kernel, rfl, by decide +kernel, by decide +kernel⟩
theorem ok_Book_keep {f : Addr} {fd : FuncData} (F : Fun K "_keep" "Book._keep" s_Book__keep f fd) (T : BkT K C) (c__named_in : C8.Cal P w K mg base 1 "_named_in" spNamedIn []) : FnOk P w K mg base CX0 2 f fd ["self", "record"] (spKeep C) := by
  refine F.ok sc_Book__keep (fun vs H Q E h => ?_) (fun cdv A outer s H vs Q E hr h => ?_)
  · obtain ⟨b, v, r, rs, rfl, _⟩ := h; rfl
  · obtain ⟨b, v, r, rs, rfl, ⟨dx, e, n, kvs, nkv, B⟩, hv, hm, hok, hn, hnd, h60, k⟩ := h
    have hu := hu_of hr
    refine ⟨_, (pss_cons (ps_dput hu (pe_fld (pv 0) rfl) (pe_ix ix_tup (pv 1) pe_int (fun _ _ => rfl)) (pv 1) rfl)
      (C8.pss_cut (ps_if (pt_cmpR op_eq (pe_ix ix_tup (pv 1) pe_int (fun _ _ => rfl)) pe_str (nomark _)) (pss_one (ps_dput hu (pe_fld (pv 0) rfl) (pe_ix ix_tup (pv 1) pe_int (fun _ _ => rfl)) pe_dnewT rfl)) pss_nil)
      (pss_one (ps_for PassesOwn.never rfl (pi_list (C8.pe_c c__named_in hr (by decide) rfl (pa_cons (pv 1) pa_nil))) (pg_name (i := 2) sc_Book__keep.nd rfl (Or.inl rfl))
      (pss_one (ps_dput hu (pe_dget hu (pe_fld (pv 0) rfl) (pv 2) (fun _ _ => rfl)) (pe_ix ix_tup (pv 1) pe_int (fun _ _ => rfl)) pe_bl rfl)))))), ?_⟩
    obtain ⟨t, xs, rfl, ht, rx⟩ := Tp.inv hv
    obtain ⟨v0, a0, t0⟩ := Tp.at (K := K) ht rx r.ds0
    cases Tp.str_inv t0
    obtain ⟨v1, a1, t1⟩ := Tp.at (K := K) ht rx r.ds1
    obtain ⟨am, rfl, ham⟩ := Tp.mo_inv t1
    have hkl : kvs.length = rs.length := Paired.len B.er
    have hbe : b ≠ e := ne_of B.ob B.en (by intro z; cases z)
    have hbn : b ≠ n := ne_of B.ob B.nb (by intro z; cases z)
    -- self._entries[record[1]] = record
    refine ⟨_, rfl, _, rfl, b, C, dx, _, _, rfl, B.ob, T.cl, T.nE, bf_e _ _, _, rfl, _, _, _, _, rfl, rfl, SqT.of ht, a1, e, _, rfl, DPut.t (k := mK r.mo) B.en ham (by rw [hkl]; exact small1000 (by omega)), ?_⟩
    rw [putK_new _ (B.er.none hm)]
    obtain ⟨O, hO⟩ : ∃ O : Addr → Prop, O = fun a => Own H b a ∨ H a = none := ⟨_, rfl⟩
    have Oe : O e := by rw [hO]; exact .inl (Own.e B.ob)
    have On : O n := by rw [hO]; exact .inl (Own.n B.ob)
    have Ou : ∀ q ∈ nkv, ∀ u, q.2 = V.ref u → O u := fun q hq u e => by rw [hO]; exact .inl (Own.u B.ob B.nb hq e)
    have kd1 : KO O H (upd H e (.dT (kvs ++ [(mK r.mo, V.ref t)]))) := KO.put B.en Oe
    have I1 : (∃ nkv1 : List (List Key × V), True) := ⟨nkv, trivial⟩
    -- a name gets a dict of users
    refine ⟨fun σ' H' => σ' = [some (.ref b), some (.ref t), none] ∧ KO O H H' ∧ H' b = some (.ins C dx (bf e n)) ∧ H' e = some (.dT (kvs ++ [(mK r.mo, V.ref t)])) ∧ ∃ nkv1, H' n = some (.dT nkv1) ∧ NamR H' e n (users rs) nkv1 (nms (rs ++ [r])) ∧ (nkv1.map (·.2)).Nodup ∧ ∀ q ∈ nkv1, ∀ u, q.2 = V.ref u → O u, ?_, ?_⟩
    · refine ⟨_, rfl, _, _, _, _, rfl, rfl, SqT.of (kd1.tk _ _ ht), a0, rfl, _, rfl, ?_⟩
      rw [sort_nm]
      have n1 : NamR (upd H e (.dT (kvs ++ [(mK r.mo, V.ref t)]))) e n (users rs) nkv (nms rs) := B.nr.off fun u kvs h1 _ h => by rw [upd_ne h1]; exact h
      by_cases hnm : r.isNm = true
      · rw [hnm]
        refine iteT ?_
        intro u0 hu0
        have nu0e : u0 ≠ e := fun z => by subst z; rw [upd_same] at hu0; cases hu0
        have hu00 : H u0 = none := by rw [upd_ne nu0e] at hu0; exact hu0
        have nu0n : u0 ≠ n := (ne_of_none B.nb hu00).symm
        have nu0b : b ≠ u0 := ne_of_none B.ob hu00
        have kd2 : KO O H (upd (upd H e (.dT (kvs ++ [(mK r.mo, V.ref t)]))) u0 (.dT [])) := kd1.trans (KO.of (Same.new hu0))
        refine ⟨_, rfl, b, C, dx, _, _, rfl, kd2.k (by intro z; exact nofun) B.ob, T.cl, T.nN, bf_n _ _, _, rfl, _, _, _, _, rfl, rfl, SqT.of (kd2.tk _ _ ht), a1, n, _, rfl, DPut.t (k := mK r.mo) (by rw [upd_ne nu0n.symm, upd_ne B.ne.symm]; exact B.nb) (kd2.tk _ _ ham) (by
          have := Paired.len B.nr; rw [this]; unfold nms; rw [List.length_map]; exact small1000 (Nat.le_trans (List.length_filter_le _ _) (by omega))), ?_⟩
        have hmn : r.mo ∉ nms rs := fun z => hm (nms_sub z)
        rw [putK_new _ (B.nr.none hmn)]
        refine ⟨rfl, fun a o no ea => ?_, by rw [upd_ne hbn, upd_ne nu0b, upd_ne hbe]; exact B.ob, by rw [upd_ne B.ne, upd_ne nu0e.symm, upd_same], _, upd_same, ?_, ?_, ?_⟩
        · rw [upd_ne (fun z => by subst z; rw [B.nb] at ea; cases ea; exact no On _ rfl)]
          exact kd2 a o no ea
        · rw [nms_app, if_pos hnm]
          refine Paired.snoc (NamR.off n1 fun u kvs h1 h2 h => ?_) ⟨rfl, u0, rfl, ?_, nu0e, nu0n⟩
          · rw [upd_ne h2, upd_ne (ne_of_none h hu0)]; exact h
          · rw [upd_ne nu0n, upd_same]
            have : users rs r.mo = [] := by
              unfold users
              have : (rs.filter fun r' => decide (r.mo ∈ r'.names)) = [] := List.filter_eq_nil_iff.mpr fun r' hr' z => hmn (B.cl r' hr' _ (of_decide_eq_true z))
              rw [this]; rfl
            rw [this]
        · rw [List.map_append]
          refine List.nodup_append.mpr ⟨B.nd, (by simp), fun x hx y hy => ?_⟩
          rw [List.map_singleton, List.mem_singleton] at hy
          subst hy
          intro z
          obtain ⟨u1, e1, _, h1⟩ := n1.snd hx
          rw [z] at e1; cases e1
          rw [h1] at hu0; cases hu0
        · intro q hq u eu
          rcases List.mem_append.mp hq with h | h
          · exact Ou q h u eu
          · rw [List.mem_singleton] at h; subst h; cases eu; rw [hO]; exact .inr hu00
      · rw [Bool.eq_false_iff.mpr hnm]
        refine iteF ?_
        refine ⟨rfl, kd1, by rw [upd_ne hbe]; exact B.ob, upd_same, nkv, by rw [upd_ne B.ne.symm]; exact B.nb, ?_, B.nd, Ou⟩
        rw [nms_app, if_neg hnm, List.append_nil]; exact n1
    rintro σ1 H1 ⟨rfl, kdA, hb1, he1, nkv1, hn1, nr1, nd1, Ou1⟩
    -- for name in _named_in(record)
    refine ⟨_, rfl, _, r, rfl, hv.to kdA.tk, fun H2 l s2 l0 ⟨lx, hl, rl⟩ => ?_⟩
    have hll : lx.length = r.names.length := by rw [rl.len, List.length_map]
    have md' : ((rs ++ [r]).map Row.mo).Nodup := by
      rw [List.map_append]
      exact List.nodup_append.mpr ⟨B.md, (by simp), fun x hx y hy => by rw [List.map_singleton, List.mem_singleton] at hy; subst hy; exact fun z => hm (z ▸ hx)⟩
    refine ⟨l, rfl, ⟨_, SqL.of hl⟩, for_list (K := K) (a := l) (xs := lx) (fun i σ' H' => ∃ v2 : Option V, σ' = [some (.ref b), some (.ref t), v2] ∧ KO O H2 H' ∧ H' b = some (.ins C dx (bf e n)) ∧ H' e = some (.dT (kvs ++ [(mK r.mo, V.ref t)])) ∧ H' n = some (.dT nkv1) ∧
        NamR H' e n (fun m => users rs m ++ (if m ∈ r.names.take i then [(mK r.mo, V.bl true)] else [])) nkv1 (nms (rs ++ [r])))
      ⟨none, rfl, KO.refl _, s2 _ _ hb1, s2 _ _ he1, s2 _ _ hn1, (nr1.off fun u kvs _ _ h => s2 _ _ h).fn fun m _ => by rw [List.take_zero, if_neg (by simp), List.append_nil]⟩
      (fun i σ' H' _ ⟨_, _, kd, _⟩ => SqL.of (kd.k (by intro z; exact nofun) hl)) ?_ ?_⟩
    · rintro i x σ3 H3 hi ⟨v2, rfl, kd3, hb3, he3, hn3, nr3⟩
      obtain ⟨d, hd, tx⟩ := rl.getv hi
      rw [List.getElem?_map] at hd
      obtain ⟨nm, hnm, rfl⟩ : ∃ nm, r.names[i]? = some nm ∧ d = mD nm := by
        cases q : r.names[i]? with
        | none => rw [q] at hd; cases hd
        | some nm => rw [q] at hd; exact ⟨nm, rfl, (Option.some.inj hd).symm⟩
      obtain ⟨ax, rfl, hax⟩ := Tp.mo_inv tx
      have tk3 : TK H H3 := kdA.tk.trans ((TK.of s2).trans kd3.tk)
      have hin : nm ∈ nms (rs ++ [r]) := by
        rw [nms_app]; exact List.mem_append_left _ (hn nm (List.mem_of_getElem? hnm))
      obtain ⟨u, hu1, hu2, hu3, hu4⟩ := nr3.get hin
      have hnt : nm ∉ r.names.take i := fun z => by
        obtain ⟨j, hj, ej⟩ := List.getElem_of_mem z
        rw [List.getElem_take] at ej
        rw [List.length_take] at hj
        obtain ⟨h1, h2⟩ := List.getElem?_eq_some_iff.mp hnm
        have := (List.getElem_inj hnd).mp (ej.trans h2.symm)
        omega
      rw [if_neg hnt, List.append_nil] at hu2
      have g3 : DGet H3 n (.ref ax) (some (.ref u)) := by have := DGet.m hn3 (kd3.tk _ _ hax); rw [hu1] at this; exact this
      refine ⟨_, rfl, b, C, dx, _, _, rfl, hb3, T.cl, T.nN, bf_n _ _, _, rfl, n, _, rfl, g3, _, rfl, _, _, _, _, rfl, rfl, SqT.of (tk3 _ _ ht), a1, u, _, rfl, DPut.t (k := mK r.mo) hu2 (tk3 _ _ ham) (Nat.lt_of_le_of_lt (users_le rs nm) (small1000 (by omega))), ?_⟩
      rw [putK_new _ (users_key hm)]
      refine ⟨_, rfl, kd3.trans (KO.put hu2 (Ou1 _ (valV_mem hu1) _ rfl)), by rw [upd_ne (ne_of hb3 hu2 (by intro z; cases z))]; exact hb3, by rw [upd_ne hu3.symm]; exact he3, by rw [upd_ne hu4.symm]; exact hn3, ?_⟩
      refine (nr3.put1 nd1 (nms_nd md') hin hu1 _).fn fun m _ => ?_
      by_cases z : m = nm
      · subst z
        rw [if_pos rfl, if_pos (by rw [List.take_add_one, hnm]; exact List.mem_append_right _ (List.mem_singleton.mpr rfl))]
      · rw [if_neg z]
        have : m ∈ r.names.take (i + 1) ↔ m ∈ r.names.take i := by
          rw [List.take_add_one, hnm, List.mem_append, Option.toList_some, List.mem_singleton]
          exact ⟨fun y => y.elim id fun y => absurd y z, .inl⟩
        by_cases y : m ∈ r.names.take i
        · rw [if_pos y, if_pos (this.mpr y)]
        · rw [if_neg y, if_neg (fun q => y (this.mp q))]
    · rintro σ3 H3 ⟨v2, rfl, kd3, hb3, he3, hn3, nr3⟩
      have tk3 : TK H H3 := kdA.tk.trans ((TK.of s2).trans kd3.tk)
      have kdF : KO O H H3 := fun a o no ea => kd3 a o no (s2 a o (kdA a o no ea))
      refine k H3 ⟨fun a o no ea => kdF a o (fun z => by
          rw [hO] at z
          rcases z with z | z
          · exact no z
          · rw [z] at ea; cases ea) ea, fun a ha => by
          rcases ha.of hb3 hn3 with h | h | ⟨q, h, z⟩
          · subst h; exact .inl (Own.e B.ob)
          · subst h; exact .inl (Own.n B.ob)
          · have := Ou1 q h a z
            rw [hO] at this; exact this⟩ ⟨dx, e, n, _, nkv1, hb3, he3, hn3, B.ne, Paired.snoc (B.er.to tk3) ⟨rfl, hv.to tk3⟩, nr3.fn fun m _ => ?_, nd1, md', fun x hx => ?_, fun x hx y hy => ?_⟩
      · rw [hll, List.take_length, users_app]
      · rcases List.mem_append.mp hx with h | h
        · exact B.ok x h
        · rw [List.mem_singleton] at h; subst h; exact hok
      · rw [nms_app]
        rcases List.mem_append.mp hx with h | h
        · exact List.mem_append_left _ (B.cl x h y hy)
        · rw [List.mem_singleton] at h; subst h; exact List.mem_append_left _ (hn y hy)
theorem sc_Book__name : FnScope ["self", "name", "upto"] ["self", "name", "upto"] (defScope s_Book__name) := ⟨rfl, rfl, rfl, by decide +kernel, rfl, by decide +kernel, by decide +kernel⟩
theorem ok_Book_name {f : Addr} {fd : FuncData} (F : FunD K "_name" "Book._name" (defArgs s_Book__name) (defBody s_Book__name) (defScope s_Book__name) [] [("upto", V.non)] f fd) (T : BkT K C) (c_is_moment : C8.Cal P w K mg base 2 "is_moment" spMoment []) (c_is_there : C8.Cal P w K mg base 1 "is_there" spThere []) : FnOk P w K mg base CX0 3 f fd ["self", "name", "upto"] (spName C) := by
  refine F.ok sc_Book__name (fun vs H Q E h => ?_) (fun cdv A outer s H vs Q E hr h => ?_)
  · obtain ⟨b, a, v, u, rs, r, rfl, _⟩ := h; rfl
  · obtain ⟨b, a, v, u, rs, r, rfl, ⟨dx, e, n, kvs, nkv, B⟩, ha, hv, hr', hnm, hup, k⟩ := h
    have hu := hu_of hr
    refine cut_nox ⟨_, (pss_cons (ps_if (PW.pt (pw_or (pt_not (pt_val (C8.pe_c c_is_moment hr (by decide) rfl (pa_cons (pv 1) pa_nil)))) (pw_or (pt_cmp (pc_dnotin hu (pv 1) (pe_fld (pv 0) rfl))) (pw_or1 (pt_not (pt_val (C8.pe_c c_is_there hr (by decide) rfl (pa_cons (pv 1) (pa_cons (pv 2) pa_nil))))))))) (pss_one ps_never) pss_nil)
      (pss_one (ps_ret (pe_dget hu (pe_fld (pv 0) rfl) (pv 1) (fun _ _ => rfl))))), ?_⟩
    refine ⟨_, rfl, a, r.mo, rfl, ha, B.ok r hr', _, rfl, iteF ?_⟩
    have hin : r.mo ∈ nms rs := List.mem_map.mpr ⟨r, List.mem_filter.mpr ⟨hr', hnm⟩, rfl⟩
    obtain ⟨u0, h1, _⟩ := B.nr.get hin
    refine ⟨_, rfl, _, rfl, b, C, dx, _, _, rfl, B.ob, T.cl, T.nN, bf_n _ _, n, _, rfl, DGet.m B.nb ha, _, rfl, ?_⟩
    rw [h1]
    refine iteF ?_
    refine ⟨_, rfl, _, rfl, a, r.mo, v, u, rfl, ha, hv, ?_⟩
    rw [hup]
    refine ⟨_, rfl, iteF ?_⟩
    obtain ⟨x, hx, tx⟩ := B.er.get B.md hr'
    have g : DGet H e (.ref a) (some x) := by have := DGet.m B.en ha; rw [hx] at this; exact this
    exact ⟨_, rfl, b, C, dx, _, _, rfl, B.ob, T.cl, T.nE, bf_e _ _, _, rfl, e, x, rfl, g, k x tx⟩
theorem sc_Book__refuse_named : FnScope ["self", "moment", "name"] ["self", "moment", "name"] (defScope s_Book__refuse_named) := ⟨rfl, rfl, rfl, by decide +kernel, rfl, by decide +kernel, by decide +kernel⟩
theorem ok_Book_refuse_named {f : Addr} {fd : FuncData} (F : Fun K "_refuse_named" "Book._refuse_named" s_Book__refuse_named f fd) (c_Book__name : C8.Met P w K mg base 3 C "_name" (spName C) [.non]) : FnOk P w K mg base CX0 4 f fd ["self", "moment", "name"] (spRefuse C) := by
  refine F.ok sc_Book__refuse_named (fun vs H Q E h => ?_) (fun cdv A outer s H vs Q E hr h => ?_)
  · obtain ⟨b, am, an, m, n, rs, rfl, _⟩ := h; rfl
  · obtain ⟨b, am, an, m, n, rs, rfl, BA, ham, han, hn, hl, k⟩ := h
    refine ⟨_, (pss_cons (ps_expr (C8.pe_mt c_Book__name hr (by decide) (pv 0) (pa_cons (pv 2) pa_nil)))
      (pss_one (ps_if (pt_cmpR (op_gtM hr.units0) (pv 2) (pv 1) (nomark _)) (pss_one ps_never) pss_nil))), ?_⟩
    obtain ⟨dx, e, nn, kvs, nkv, B⟩ := id BA
    obtain ⟨rk, ws, ss, l, hrow⟩ := nms_row hn
    refine ⟨_, rfl, b, dx, _, rfl, B.ob, bf_no _ _ (by decide +kernel) (by decide +kernel), _, rfl, b, an, .non, none, rs, Row.nm n rk ws ss l, rfl, BA, han, rfl, hrow, rfl, rfl, fun x tx => ?_⟩
    refine ⟨_, rfl, _, rfl, an, am, n, m, rfl, rfl, SqT.of han, SqT.of ham, _, rfl, ?_⟩
    rw [decide_eq_false hl]
    exact iteF k
theorem sc_Book_rank : FnScope ["self", "name"] ["self", "name"] (defScope s_Book_rank) := ⟨rfl, rfl, rfl, by decide +kernel, rfl, by decide +kernel, by decide +kernel⟩
theorem ok_Book_rank {f : Addr} {fd : FuncData} (F : Fun K "rank" "Book.rank" s_Book_rank f fd) (c_Book__name : C8.Met P w K mg base 3 C "_name" (spName C) [.non]) : FnOk P w K mg base CX0 4 f fd ["self", "name"] (spRank C) := by
  refine F.ok sc_Book_rank (fun vs H Q E h => ?_) (fun cdv A outer s H vs Q E hr h => ?_)
  · obtain ⟨b, a, m, rk, ws, ss, l, rs, rfl, _⟩ := h; rfl
  · obtain ⟨b, a, m, rk, ws, ss, l, rs, rfl, BA, ha, hrow, k⟩ := h
    refine ⟨_, (pss_one (ps_ret (pe_ix ix_tup (C8.pe_mt c_Book__name hr (by decide) (pv 0) (pa_cons (pv 1) pa_nil)) pe_int (fun _ _ => rfl)))), ?_⟩
    obtain ⟨dx, e, nn, kvs, nkv, B⟩ := id BA
    refine ⟨_, rfl, b, dx, _, rfl, B.ob, bf_no _ _ (by decide +kernel) (by decide +kernel), _, rfl, b, a, .non, none, rs, Row.nm m rk ws ss l, rfl, BA, ha, rfl, hrow, rfl, rfl, fun x tx => ?_⟩
    obtain ⟨t, xs, rfl, ht, rx⟩ := Tp.inv tx
    obtain ⟨v2, a2, t2⟩ := Tp.at (K := K) (i := 2) (d := .int rk) ht rx rfl
    cases Tp.int_inv t2
    exact ⟨t, _, _, _, rfl, rfl, SqT.of ht, a2, k⟩
theorem sc_Book_publish : FnScope ["self", "moment", "words", "rank", "sheets", "like", "part"] ["self", "moment", "words", "rank", "sheets", "like"] (defScope s_Book_publish) := ⟨rfl, rfl, rfl, by decide +kernel, rfl, by decide +kernel, by decide +kernel⟩
theorem ok_Book_publish {f : Addr} {fd : FuncData} {kws : List (Str × V)} (F : FunD K "publish" "Book.publish" (defArgs s_Book_publish) (defBody s_Book_publish) (defScope s_Book_publish) [] kws f fd) (T : BkT K C) (m_tuple : mg "tuple" = none)
    (c_refuse_new : C8.Cal P w K mg base 3 "refuse_new" spNew []) (c_bad_name : C8.Cal P w K mg base 3 "bad_name" spBad []) (c__may_be_like : C8.Cal P w K mg base 1 "_may_be_like" spMayLike [])
    (c_Book__refuse_named : C8.Met P w K mg base 4 C "_refuse_named" (spRefuse C) []) (c_Book_rank : C8.Met P w K mg base 4 C "rank" (spRank C) []) (c_Book__keep : C8.Met P w K mg base 2 C "_keep" (spKeep C) []) : FnOk P w K mg base CX0 5 f fd ["self", "moment", "words", "rank", "sheets", "like"] (spPublish C) := by
  refine F.ok sc_Book_publish (fun vs H Q E h => ?_) (fun cdv A outer s H vs Q E hr h => ?_)
  · obtain ⟨b, am, wa, sa, lv, m, rank, ws, ss, like, rs, rfl, _⟩ := h; rfl
  · obtain ⟨b, am, wa, sa, lv, m, rank, ws, ss, like, rs, rfl, BA, ham, hwa, hsa, hlv, hok, hmo, hm, h60, hlk, k⟩ := h
    refine cut_nox ⟨_, (pss_cons (ps_expr (C8.pe_c c_refuse_new hr (by decide) rfl (pa_cons (pv 1) (pa_cons (pe_fld (pv 0) rfl) pa_nil))))
      (pss_cons (ps_set (i := 6) sc_Book_publish.nd rfl (Or.inl rfl) (C8.pe_c c_bad_name hr (by decide) rfl (pa_cons (pv 3) (pa_cons (pv 2) (pa_cons (pv 4) (pa_cons (pv 5) pa_nil))))))
      (pss_cons (ps_if (pt_cmpR op_notN (pv 6) pe_non (nomark _)) (pss_one ps_never) pss_nil)
      (C8.pss_cut (ps_if (pt_cmpR op_notN (pv 5) pe_non (nomark _)) (pss_cons (ps_expr (C8.pe_mt c_Book__refuse_named hr (by decide) (pv 0) (pa_cons (pv 1) (pa_cons (pv 5) pa_nil))))
      (pss_one (ps_if (pt_not (pt_val (C8.pe_c c__may_be_like hr (by decide) rfl (pa_cons (pv 3) (pa_cons (C8.pe_mt c_Book_rank hr (by decide) (pv 0) (pa_cons (pv 5) pa_nil)) pa_nil))))) (pss_one ps_never) pss_nil))) pss_nil)
      (pss_one (ps_expr (C8.pe_mt c_Book__keep hr (by decide) (pv 0) (pa_cons (pe_tup (pa_cons pe_str (pa_cons (pv 1) (pa_cons (pv 3) (pa_cons (pv 2) (pa_cons (pe_callTy call_tuple_of (by rfl) m_tuple (by decide +kernel) (pa_cons (pv 4) pa_nil)) (pa_cons (pv 5) pa_nil))))))) pa_nil)))))))), ?_⟩
    obtain ⟨dx, e, nn, kvs, nkv, B⟩ := id BA
    refine ⟨_, rfl, _, rfl, b, C, dx, _, _, rfl, B.ob, T.cl, T.nE, bf_e _ _, am, e, m, kvs, rfl, ham, hmo, B.en, B.er.none hm, ?_⟩
    refine ⟨_, rfl, _, rfl, _, rfl, _, rfl, rank, wa, sa, lv, ws, ss, like, rfl, hwa, hsa, hlv, hok, fun H1 s1 => ?_⟩
    refine ⟨_, rfl, rfl, _, rfl, iteF ?_⟩
    have BA1 := BA.keep (KB.of s1)
    have B1 := B.keep (KB.of s1)
    refine ⟨fun σ' H' => σ' = [some (.ref b), some (.ref am), some (.ref wa), some (.int rank), some (.ref sa), some lv, some .non] ∧ H' = H1, ?_, ?_⟩
    · cases like with
      | none =>
        cases (show lv = .non from hlv)
        exact ⟨_, rfl, rfl, _, rfl, iteF ⟨rfl, rfl⟩⟩
      | some l =>
        obtain ⟨la, rfl, hla⟩ := hlv
        obtain ⟨hlm, rk, ws', ss', l', hrow, hrk⟩ := hlk l rfl
        refine ⟨_, rfl, rfl, _, rfl, iteT ?_⟩
        refine ⟨_, rfl, b, dx, _, rfl, B1.ob, bf_no _ _ (by decide +kernel) (by decide +kernel), _, rfl, _, rfl, b, am, la, m, l, rs, rfl, BA1, s1 _ _ ham, s1 _ _ hla, row_nms hrow, hlm, ?_⟩
        refine ⟨_, rfl, _, rfl, b, dx, _, rfl, B1.ob, bf_no _ _ (by decide +kernel) (by decide +kernel), _, rfl, b, la, l, rk, ws', ss', l', rs, rfl, BA1, s1 _ _ hla, hrow, ?_⟩
        refine ⟨_, _, rfl, ?_⟩
        rw [hrk]
        exact ⟨_, rfl, iteF ⟨rfl, rfl⟩⟩
    rintro σ2 H2 ⟨rfl, rfl⟩
    refine ⟨_, rfl, b, dx, _, rfl, B1.ob, bf_no _ _ (by decide +kernel) (by decide +kernel), _, rfl, _, rfl, _, rfl, _, rfl, sa, _, rfl, .inr ⟨SqT.of (s1 _ _ hsa), ?_⟩⟩
    refine ⟨_, rfl, by show 6 ≤ sizeLine; decide, fun t ht => ?_⟩
    have s3 : Same H2 (upd H2 t (.tup [.str "name", .ref am, .int rank, .ref wa, .ref sa, lv])) := Same.new ht
    have s13 := s1.trans s3
    have tl : Tp (upd H2 t (.tup [.str "name", .ref am, .int rank, .ref wa, .ref sa, lv])) lv (oD like) := by
      cases like with
      | none => cases (show lv = .non from hlv); exact .non
      | some l => obtain ⟨la, rfl, hla⟩ := hlv; exact Tp.mo (s13 _ _ hla)
    refine ⟨b, .ref t, .nm m rank ws ss like, rs, rfl, BA1.keep (KB.of s3), .tup upd_same (.cons (.str _) (.cons (Tp.mo (s13 _ _ ham)) (.cons (.int _) (.cons (.tup (s13 _ _ hwa) (TpAll.strs ws)) (.cons (.tup (s13 _ _ hsa) (TpAll.strs ss)) (.cons tl .nil)))))), hm, hmo, fun n hn => ?_, ?_, h60, fun H4 k4 B4 => ?_⟩
    · cases like with
      | none => cases hn
      | some l =>
        have : n = l := by simpa [Row.names] using hn
        subst this
        obtain ⟨_, rk, ws', ss', l', hrow, _⟩ := hlk _ rfl
        exact row_nms hrow
    · cases like <;> simp [Row.names]
    · exact k H4 (k4.sq BA s13) B4
theorem sc_Book_ahead : FnScope ["self", "moment", "name", "other"] ["self", "moment", "name", "other"] (defScope s_Book_ahead) := ⟨rfl, rfl, rfl, by decide +kernel, rfl, by decide +kernel, by decide +kernel⟩
theorem ok_Book_ahead {f : Addr} {fd : FuncData} (F : Fun K "ahead" "Book.ahead" s_Book_ahead f fd) (T : BkT K C)
    (c_refuse_new : C8.Cal P w K mg base 3 "refuse_new" spNew []) (c_Book__refuse_named : C8.Met P w K mg base 4 C "_refuse_named" (spRefuse C) []) (c_Book_rank : C8.Met P w K mg base 4 C "rank" (spRank C) []) (c_Book__keep : C8.Met P w K mg base 2 C "_keep" (spKeep C) []) : FnOk P w K mg base CX0 5 f fd ["self", "moment", "name", "other"] (spAhead C) := by
  refine F.ok sc_Book_ahead (fun vs H Q E h => ?_) (fun cdv A outer s H vs Q E hr h => ?_)
  · obtain ⟨b, am, an, ao, m, n, o, rk, rs, rfl, _⟩ := h; rfl
  · obtain ⟨b, am, an, ao, m, n, o, rk, rs, rfl, BA, ham, han, hao, hmo, hm, h60, hln, hlo, hno, ⟨ws, ss, l, hn⟩, ⟨ws', ss', l', ho⟩, k⟩ := h
    refine ⟨_, (pss_cons (ps_expr (C8.pe_c c_refuse_new hr (by decide) rfl (pa_cons (pv 1) (pa_cons (pe_fld (pv 0) rfl) pa_nil))))
      (pss_cons (ps_expr (C8.pe_mt c_Book__refuse_named hr (by decide) (pv 0) (pa_cons (pv 1) (pa_cons (pv 2) pa_nil))))
      (pss_cons (ps_expr (C8.pe_mt c_Book__refuse_named hr (by decide) (pv 0) (pa_cons (pv 1) (pa_cons (pv 3) pa_nil))))
      (pss_cons (ps_if (PW.pt (pw_or (pt_cmpR (op_eqD hr.units) (pv 2) (pv 3) (nomark _)) (pw_or1 (pt_cmpR op_ne (C8.pe_mt c_Book_rank hr (by decide) (pv 0) (pa_cons (pv 2) pa_nil)) (C8.pe_mt c_Book_rank hr (by decide) (pv 0) (pa_cons (pv 3) pa_nil)) (nomark _))))) (pss_one ps_never) pss_nil)
      (pss_one (ps_expr (C8.pe_mt c_Book__keep hr (by decide) (pv 0) (pa_cons (pe_tup (pa_cons pe_str (pa_cons (pv 1) (pa_cons (pv 2) (pa_cons (pv 3) pa_nil))))) pa_nil)))))))), ?_⟩
    obtain ⟨dx, e, nn, kvs, nkv, B⟩ := id BA
    have x1 := bf_no e nn (m := "_refuse_named") (by decide +kernel) (by decide +kernel)
    have x2 := bf_no e nn (m := "rank") (by decide +kernel) (by decide +kernel)
    have x3 := bf_no e nn (m := "_keep") (by decide +kernel) (by decide +kernel)
    refine ⟨_, rfl, _, rfl, b, C, dx, _, _, rfl, B.ob, T.cl, T.nE, bf_e _ _, am, e, m, kvs, rfl, ham, hmo, B.en, B.er.none hm, ?_⟩
    refine ⟨_, rfl, b, dx, _, rfl, B.ob, x1, _, rfl, _, rfl, b, am, an, m, n, rs, rfl, BA, ham, han, row_nms hn, hln, ?_⟩
    refine ⟨_, rfl, b, dx, _, rfl, B.ob, x1, _, rfl, _, rfl, b, am, ao, m, o, rs, rfl, BA, ham, hao, row_nms ho, hlo, ?_⟩
    refine ⟨_, rfl, _, rfl, _, _, (Tp.mo han).d, (Tp.mo hao).d, shaped_m _, shaped_m _, _, rfl, ?_⟩
    rw [eqv_m, decide_eq_false hno]
    refine iteF ?_
    refine ⟨_, rfl, b, dx, _, rfl, B.ob, x2, _, rfl, b, an, n, rk, ws, ss, l, rs, rfl, BA, han, hn, ?_⟩
    refine ⟨_, rfl, b, dx, _, rfl, B.ob, x2, _, rfl, b, ao, o, rk, ws', ss', l', rs, rfl, BA, hao, ho, ?_⟩
    refine ⟨rfl, _, rfl, ?_⟩
    rw [decide_eq_true rfl]
    refine iteF ?_
    refine ⟨_, rfl, b, dx, _, rfl, B.ob, x3, _, rfl, _, rfl, _, rfl, by show 4 ≤ sizeLine; decide, fun t ht => ?_⟩
    have s3 : Same H (upd H t (.tup [.str "ahead", .ref am, .ref an, .ref ao])) := Same.new ht
    refine ⟨b, .ref t, .ah m n o, rs, rfl, BA.keep (KB.of s3), .tup upd_same (.cons (.str _) (.cons (Tp.mo (s3 _ _ ham)) (.cons (Tp.mo (s3 _ _ han)) (.cons (Tp.mo (s3 _ _ hao)) .nil)))), hm, hmo, fun x hx => ?_, ?_, h60, fun H4 k4 B4 => ?_⟩
    · rcases List.mem_cons.mp hx with rfl | hx
      · exact row_nms hn
      · rw [List.mem_singleton] at hx; subst hx; exact row_nms ho
    · show ([n, o] : List Mo).Nodup
      simp [hno]
    · exact k H4 (k4.sq BA s3) B4
end
end KN


set_option Elab.async false
set_option linter.all false
set_option maxRecDepth 100000
set_option maxHeartbeats 4000000
namespace KN
open PySem L2
theorem perm_map {α β : Type} {f : α → β} {l₁ l₂ : List β} (p : l₁.Perm l₂) : ∀ k : List α, l₂ = k.map f → ∃ l : List α, l.Perm k ∧ l.map f = l₁ := by
  induction p with
  | nil => intro k e; exact ⟨k, .refl _, e.symm⟩
  | cons x _ ih =>
    intro k e
    cases k with
    | nil => cases e
    | cons a k =>
      rw [List.map_cons] at e
      injection e with e1 e2
      obtain ⟨l, h1, h2⟩ := ih k e2
      exact ⟨a :: l, h1.cons a, by rw [List.map_cons, h2, e1]⟩
  | swap x y l =>
    intro k e
    match k, e with
    | a :: b :: k, e =>
      rw [List.map_cons, List.map_cons] at e
      injection e with e1 e2
      injection e2 with e2 e3
      exact ⟨b :: a :: k, .swap a b k, by rw [List.map_cons, List.map_cons, e1, e2, e3]⟩
  | trans _ _ ih1 ih2 =>
    intro k e
    obtain ⟨l, h1, h2⟩ := ih2 k e
    obtain ⟨l', h3, h4⟩ := ih1 l h2.symm
    exact ⟨l', h3.trans h1, h4⟩
theorem mLt_tot {a b : Mo} (h : ¬ mLt b a) (n : a ≠ b) : mLt a b := by
  unfold mLt at *
  have : ¬ (a.1 = b.1 ∧ a.2 = b.2) := fun z => n (Prod.ext z.1 z.2)
  omega
/-- rows rising by their moments -/
def Rise (rs : List Row) : Prop := rs.Pairwise fun x y => mLt x.mo y.mo
def spEntries (C : Addr) : Sp := fun vs H Q _ => ∃ (b : Addr) (v : V) (u : Option Mo) (rs : List Row), vs = [.ref b, v] ∧ BookAt C H b rs ∧ UpV H v u ∧ rs.length < 64 ∧
  ∀ (H' : Hp) (l : Addr) (srt : List Row), Same H H' → H l = none → srt.Perm rs → Rise srt → Ls H' l ((srt.filter fun r => upB r.mo u).map Row.d) → Q (.ref l) H'
open Classical in
noncomputable def ahStep (told : List Lnk) (r : Row) : List Lnk := match r with
  | .ah m n o => if Rch told o n then told else told ++ [(m, n, o)]
  | _ => told
theorem ahStep_yes {told : List Lnk} {m n o : Mo} (h : Rch told o n) : ahStep told (.ah m n o) = told := by
  unfold ahStep; exact if_pos h
theorem ahStep_no {told : List Lnk} {m n o : Mo} (h : ¬ Rch told o n) : ahStep told (.ah m n o) = told ++ [(m, n, o)] := by
  unfold ahStep; exact if_neg h
/-- the aheads that do something, of rising rows -/
noncomputable def ahF (rs : List Row) : List Lnk := rs.foldl ahStep []
theorem ahF_snoc (rs : List Row) (r : Row) : ahF (rs ++ [r]) = ahStep (ahF rs) r := by
  unfold ahF; rw [List.foldl_append]; rfl
theorem ahF_len (rs : List Row) : (ahF rs).length ≤ rs.length := by
  unfold ahF
  have g : ∀ (rs : List Row) (t : List Lnk), (rs.foldl ahStep t).length ≤ t.length + rs.length := by
    intro rs
    induction rs with
    | nil => intro t; exact Nat.le_refl _
    | cons r rs ih =>
      intro t
      have h := ih (ahStep t r)
      have : (ahStep t r).length ≤ t.length + 1 := by
        unfold ahStep
        split
        · split
          · omega
          · rw [List.length_append]; exact Nat.le_refl _
        · omega
      rw [List.foldl_cons, List.length_cons]; omega
  have := g rs []
  rw [List.length_nil] at this; omega
def spAheads (C : Addr) : Sp := fun vs H Q _ => ∃ (b : Addr) (v : V) (u : Option Mo) (rs : List Row), vs = [.ref b, v] ∧ BookAt C H b rs ∧ UpV H v u ∧ rs.length < 64 ∧
  ∀ (H' : Hp) (l : Addr) (srt : List Row), Same H H' → H l = none → srt.Perm rs → Rise srt → Ls H' l ((ahF (srt.filter fun r => upB r.mo u)).map lD) → Q (.ref l) H'
/-- an entry that is no name is dropped -/
def spDrop (C : Addr) : Sp := fun vs H Q _ => ∃ (b a : Addr) (r : Row) (rs : List Row), vs = [.ref b, .ref a] ∧ BookAt C H b rs ∧ H a = some (.tup [.int r.mo.1, .int r.mo.2]) ∧ r ∈ rs ∧ r.isNm = false ∧ r.names.Nodup ∧
  ∀ H', KD b H H' → BookAt C H' b (rs.filter fun x => decide (x.mo ≠ r.mo)) → Q .non H'
section
variable {P : Program} {w : World} {K : PySem.W.Frag} {mg : Str → Option Value} {base : Heap} {C : Addr}
theorem sc_Book_entries : FnScope ["self", "upto", "moment"] ["self", "upto"] (defScope s_Book_entries) := ⟨rfl, rfl, rfl, by decide +kernel, rfl, by decide +kernel, by decide +kernel⟩
theorem ok_Book_entries {f : Addr} {fd : FuncData} {kws : List (Str × V)} (F : FunD K "entries" "Book.entries" (defArgs s_Book_entries) (defBody s_Book_entries) (defScope s_Book_entries) [] kws f fd) (T : BkT K C) (m_sorted : mg "sorted" = none) (c_is_there : C8.Cal P w K mg base 1 "is_there" spThere []) : FnOk P w K mg base CX0 2 f fd ["self", "upto"] (spEntries C) := by
  refine F.ok sc_Book_entries (fun vs H Q E h => ?_) (fun cdv A outer s H vs Q E hr h => ?_)
  · obtain ⟨b, v, u, rs, rfl, _⟩ := h; rfl
  · obtain ⟨b, v, u, rs, rfl, ⟨dx, e, n, kvs, nkv, B⟩, hv, h64, k⟩ := h
    have hu := hu_of hr
    refine cut_nox ⟨_, (pss_one (ps_ret (pe_lc (own := [("moment", 2)]) (g := gName 2) rfl sc_Book_entries.nd (pi_list (pe_callB (cr_sortedDM rfl) (by rfl) m_sorted (by decide +kernel) (pa_cons (pe_fld (pv 0) rfl) pa_nil))) (blkOk_by (own := [("moment", 2)]) (N := ["self", "upto", "moment"]) (sc := defScope s_Book_entries) (by decide +kernel)) (fun _ _ _ _ _ => pg_name (i := 2) sc_Book_entries.nd rfl (Or.inl rfl)) (fun _ _ _ _ _ => (pts_one (pt_val (C8.pe_c c_is_there hr (by decide) rfl (pa_cons (pv 2) (pa_cons (pv 1) pa_nil)))))) (fun _ _ _ _ _ => (pe_dget (by exact hu) (pe_fldK K (pv 0) rfl) (pv 2) (fun _ _ => rfl)))))), ?_⟩
    refine ⟨_, rfl, b, C, dx, _, _, rfl, B.ob, T.cl, T.nE, bf_e _ _, e, kvs, rs.map Row.mo, rfl, Rd.of B.en, B.er.keys, by rw [List.length_map]; exact h64, fun m hm => ?_, fun ys ns p hp hpw hl hys hp0 => ?_⟩
    · obtain ⟨r, hr', rfl⟩ := List.mem_map.mp hm; exact B.ok r hr'
    obtain ⟨srt, sp, sm⟩ := perm_map hp rs rfl
    have rise : Rise srt := by
      have nd : (srt.map Row.mo).Nodup := (sp.map Row.mo).nodup_iff.mpr B.md
      rw [← sm] at hpw
      have h1 := List.pairwise_map.mp hpw
      have h2 := List.pairwise_map.mp nd
      exact List.Pairwise.imp₂ (fun a b h k => mLt_tot h k) h1 h2
    have s1 : Same H (upd H p (.lst (ys.map V.ref))) := Same.new hp0
    have hyl : ys.length = srt.length := by rw [hl, ← sm, List.length_map]
    refine ⟨p, rfl, ⟨_, SqL.of upd_same⟩, fun D hD => ?_⟩
    refine lc_list (K := K) (a := p) (xs := ys.map V.ref) (fun i H' => Same (upd H p (.lst (ys.map V.ref))) H' ∧ Ls H' D (((srt.take i).filter fun r => upB r.mo u).map Row.d))
      ⟨Same.new hD, [], upd_same, by rw [List.take_zero]; exact .nil⟩ (fun i H' _ q => SqL.of (q.1 _ _ upd_same)) ?_ ?_
    · rintro i x H2 hi ⟨s2, xs, hx, rx⟩
      rw [List.getElem?_map] at hi
      obtain ⟨a, ha, rfl⟩ : ∃ a, ys[i]? = some a ∧ x = .ref a := by
        cases q : ys[i]? with
        | none => rw [q] at hi; cases hi
        | some a => rw [q] at hi; exact ⟨a, rfl, (Option.some.inj hi).symm⟩
      obtain ⟨m, hm, ham⟩ := hys i a ha
      rw [← sm, List.getElem?_map] at hm
      obtain ⟨r, hr1, rfl⟩ : ∃ r, srt[i]? = some r ∧ m = r.mo := by
        cases q : srt[i]? with
        | none => rw [q] at hm; cases hm
        | some r => rw [q] at hm; exact ⟨r, rfl, (Option.some.inj hm).symm⟩
      have hrs : r ∈ rs := sp.mem_iff.mp (List.mem_of_getElem? hr1)
      have ham2 := s2 _ _ (s1 _ _ ham)
      have sH2 := s1.trans s2
      refine ⟨rfl, _, rfl, _, rfl, a, r.mo, v, u, rfl, ham2, hv.to (TK.of sH2), ?_⟩
      have step : ((srt.take (i + 1)).filter fun r => upB r.mo u) = ((srt.take i).filter fun r => upB r.mo u) ++ (if upB r.mo u = true then [r] else []) := by
        rw [List.take_add_one, hr1, List.filter_append]
        congr 1
        by_cases q : upB r.mo u = true
        · simp [q]
        · simp [q]
      by_cases q : upB r.mo u = true
      · rw [q]
        refine ⟨_, rfl, iteT ?_⟩
        obtain ⟨z, hz, tz⟩ := B.er.get B.md hrs
        have g : DGet H2 e (.ref a) (some z) := by have := DGet.m (sH2 _ _ B.en) ham2; rw [hz] at this; exact this
        have hxl : xs.length ≤ 64 := by rw [rx.len, List.length_map]; have := List.length_filter_le (fun r => upB (Row.mo r) u) (srt.take i); have := List.length_take_le' i srt; have := sp.length_eq; omega
        refine ⟨_, rfl, b, C, dx, _, _, rfl, sH2 _ _ B.ob, T.cl, T.nE, bf_e _ _, _, rfl, e, z, rfl, g, xs, hx, small1000 (by omega), fun c o ec => ?_, _, upd_same, ?_⟩
        · rw [upd_ne (ne_of_none ec hD)]; exact s2 _ _ ec
        · rw [step, if_pos q, List.map_append]
          exact (rx.to (TK.put hx (by intro z; exact nofun))).snoc ((tz.to (TK.of sH2)).to (TK.put hx (by intro z; exact nofun)))
      · rw [Bool.eq_false_iff.mpr q]
        refine ⟨_, rfl, iteF ?_⟩
        refine ⟨s2, xs, hx, ?_⟩
        rw [step, if_neg q, List.append_nil]; exact rx
    · rintro H2 ⟨s2, ls⟩
      rw [List.length_map, hyl, List.take_length] at ls
      exact k H2 D srt (s1.trans s2) (s1.free hD) sp rise ls
end
end KN


set_option Elab.async false
set_option linter.all false
set_option maxRecDepth 100000
set_option maxHeartbeats 4000000
namespace KN
open PySem L2
/-! The asks of a book: words, names, strikes, takers. -/
def spWords (C : Addr) : Sp := fun vs H Q _ => ∃ (b a : Addr) (m : Mo) (rk : Int) (ws ss : List Str) (l : Option Mo) (rs : List Row), vs = [.ref b, .ref a] ∧ BookAt C H b rs ∧ H a = some (.tup [.int m.1, .int m.2]) ∧ Row.nm m rk ws ss l ∈ rs ∧ ∀ x, Tp H x (.tuple (ws.map PyData.str)) → Q x H
def spStrike (C : Addr) : Sp := fun vs H Q _ => ∃ (b am an : Addr) (m n : Mo) (wh : Bool) (rs : List Row), vs = [.ref b, .ref am, .ref an, .bl wh] ∧ BookAt C H b rs ∧ H am = some (.tup [.int m.1, .int m.2]) ∧ H an = some (.tup [.int n.1, .int n.2]) ∧
  MoOk m ∧ m ∉ rs.map Row.mo ∧ rs.length ≤ 60 ∧ ¬ mLt m n ∧ n ∈ nms rs ∧ ∀ H', KD b H H' → BookAt C H' b (rs ++ [.st m n wh]) → Q .non H'
def spToldOf (C : Addr) : Sp := fun vs H Q _ => ∃ (b an : Addr) (n : Mo) (z : Str) (v : V) (u : Option Mo) (rs : List Row), vs = [.ref b, .ref an, .str z, v] ∧ BookAt C H b rs ∧ H an = some (.tup [.int n.1, .int n.2]) ∧ n ∈ nms rs ∧ UpV H v u ∧ rs.length < 64 ∧
  ∀ (H' : Hp) (l : Addr) (S : List Row), Same H H' → H l = none → S.Perm (rs.filter fun r => decide (n ∈ r.names)) → Rise S → Ls H' l ((S.filter fun r => upB r.mo u && decide (r.sort = z)).map Row.d) → Q (.ref l) H'
/-- a moment, or none -/
def spStruck (C : Addr) (g : Row → Bool) : Sp := fun vs H Q _ => ∃ (b an : Addr) (n : Mo) (v : V) (u : Option Mo) (rs : List Row), vs = [.ref b, .ref an, v] ∧ BookAt C H b rs ∧ H an = some (.tup [.int n.1, .int n.2]) ∧ n ∈ nms rs ∧ upB n u = true ∧ UpV H v u ∧ rs.length < 64 ∧
  ∀ (H' : Hp) (x : V) (S : List Row), Same H H' → S.Perm (rs.filter fun r => decide (n ∈ r.names)) → Rise S → Tp H' x (oD ((S.filter fun r => upB r.mo u && decide (r.sort = ("strike" : Str)) && g r).head?.map Row.mo)) → Q x H'
def wholeB : Row → Bool
  | .st _ _ w => w
  | _ => false
def rankB (rk : Option Int) : Row → Bool
  | .nm _ r _ _ _ => match rk with | none => true | some k => decide (r = k)
  | _ => false
def RkV (v : V) (rk : Option Int) : Prop := match rk with | none => v = .non | some k => v = .int k
def spNamesOf (C : Addr) : Sp := fun vs H Q _ => ∃ (b : Addr) (rv v : V) (rk : Option Int) (u : Option Mo) (rs : List Row), vs = [.ref b, rv, v] ∧ BookAt C H b rs ∧ RkV rv rk ∧ UpV H v u ∧ rs.length < 64 ∧
  ∀ (H' : Hp) (l : Addr) (S : List Row), Same H H' → H l = none → S.Perm rs → Rise S → Ls H' l ((S.filter fun r => upB r.mo u && rankB rk r).map fun r => mD r.mo) → Q (.ref l) H'
theorem sort_dec (r : Row) (z : Str) : decide (V.str r.sort = V.str z) = decide (r.sort = z) := by
  by_cases h : r.sort = z
  · rw [decide_eq_true h, decide_eq_true (congrArg V.str h)]
  · rw [decide_eq_false h, decide_eq_false fun e => h (by injection e)]
theorem filter_step {α : Type} {p : α → Bool} {xs : List α} {i : Nat} {x : α} (h : xs[i]? = some x) : (xs.take (i + 1)).filter p = (xs.take i).filter p ++ (if p x = true then [x] else []) := by
  rw [List.take_add_one, h, List.filter_append]
  congr 1
  by_cases q : p x = true
  · simp [q]
  · simp [q]
theorem users_keys (rs : List Row) (n : Mo) : (users rs n).map (·.1) = ((rs.filter fun r => decide (n ∈ r.names)).map Row.mo).map mK := by
  unfold users
  rw [List.map_map, List.map_map]; rfl
/-- the rows of a list, one by one -/
theorem row_at {K : PySem.W.Frag} {H : Hp} {xs : List V} {rs : List Row} {i : Nat} {x : V} (rx : TpAll H xs (rs.map Row.d)) (hi : xs[i]? = some x) : ∃ r, rs[i]? = some r ∧ Tp H x r.d := by
  obtain ⟨d, hd, tx⟩ := rx.getv hi
  rw [List.getElem?_map] at hd
  cases q : rs[i]? with
  | none => rw [q] at hd; cases hd
  | some r => rw [q] at hd; cases hd; exact ⟨r, rfl, tx⟩
theorem strOk_w {s : Str} (h : IsW s) : PyData.strOk s = true := by
  unfold PyData.strOk
  rw [← Array.all_toList]
  exact List.all_eq_true.mpr fun c hc => decide_eq_true (by have := h.2.2 c hc; omega)
def RowW (r : Row) : Prop := match r with
  | .nm _ _ ws ss _ => ws.length ≤ 2 ∧ (∀ w ∈ ws, IsW w) ∧ (∀ w ∈ ss, IsW w) ∧ ss.length ≤ 60
  | .ch _ _ z => IsW z
  | _ => True
theorem okD_ws {ws : List Str} (h : ∀ w ∈ ws, IsW w) : okD (.tuple (ws.map PyData.str)) = true := by
  simp only [okD]
  refine okDs_all.mpr fun d hd => ?_
  obtain ⟨x, hx, rfl⟩ := List.mem_map.mp hd
  simp only [okD]; exact strOk_w (h x hx)
theorem depthA_le {k : Nat} : ∀ {ds : List PyData}, (∀ d ∈ ds, d.depth ≤ k) → PyData.depthAll ds ≤ k
  | [], _ => by simp [PyData.depthAll]
  | d :: ds, h => by
    have h1 := h d List.mem_cons_self
    have h2 := depthA_le (ds := ds) fun x hx => h x (List.mem_cons_of_mem _ hx)
    simp only [PyData.depthAll]; omega
theorem depth_ws (ws : List Str) : (PyData.tuple (ws.map PyData.str)).depth ≤ 2 := by
  have := depthA_le (k := 1) (ds := ws.map PyData.str) fun d hd => by obtain ⟨x, _, rfl⟩ := List.mem_map.mp hd; simp [PyData.depth]
  simp only [PyData.depth]; omega
theorem shaped_ws {ws : List Str} (h : ∀ w ∈ ws, IsW w) : SeqAt.shaped (.tuple (ws.map PyData.str)) = true := shaped_of (okD_ws h) (by have := depth_ws ws; omega)
theorem strs_inj {a b : List Str} (h : a.map PyData.str = b.map PyData.str) : a = b := (List.map_inj_right fun x y e => by injection e).mp h
theorem eqv_ws {a b : List Str} (ha : ∀ w ∈ a, IsW w) (hb : ∀ w ∈ b, IsW w) : PyData.eqv (.tuple (a.map PyData.str)) (.tuple (b.map PyData.str)) = decide (a = b) :=
  eqv_dec (okD_ws ha) (okD_ws hb) ⟨fun h => strs_inj (by injection h), fun h => by rw [h]⟩
theorem int_dec (a b : Int) : decide (V.int a = V.int b) = decide (a = b) := by
  by_cases h : a = b
  · rw [decide_eq_true h, decide_eq_true (congrArg V.int h)]
  · rw [decide_eq_false h, decide_eq_false fun e => h (by injection e)]
instance decMLt (a b : Mo) : Decidable (mLt a b) := inferInstanceAs (Decidable (_ ∨ _ ∧ _))
theorem lt2 (m u : Mo) : HT.lexLt [m.1, m.2] [u.1, u.2] = decide (mLt m u) := by
  unfold mLt
  simp only [HT.lexLt]
  by_cases h1 : m.1 < u.1
  · have h3 : ¬ m.1 = u.1 := by omega
    simp [h1, h3]
  · by_cases h2 : m.1 = u.1
    · by_cases h4 : m.2 = u.2
      · simp [h2, h4]
      · simp [h2, h4]
    · simp [h1, h2]
/-- a whole strike of a name that is there -/
def wholeB' (rs : List Row) (u : Option Mo) (m : Mo) : Bool := rs.any fun r => decide (m ∈ r.names) && (upB r.mo u && wholeB r)
/-- an elder name with these words that isn't wholly struck -/
def takes (rs : List Row) (u : Option Mo) (n : Mo) (ws : List Str) (r : Row) : Bool := match r with
  | .nm m _ ws' _ _ => decide (mLt m n) && decide (ws' = ws) && !wholeB' rs u m
  | _ => false
theorem any_str {z : Str} {ss : List Str} (hz : IsW z) (h : ∀ w ∈ ss, IsW w) : ((ss.map PyData.str).any fun y => PyData.eqv y (.str z)) = decide (z ∈ ss) := by
  have oz : okD (.str z) = true := by simp only [okD]; exact strOk_w hz
  have os : okDs (ss.map PyData.str) = true := okDs_all.mpr fun d hd => by
    obtain ⟨x, hx, rfl⟩ := List.mem_map.mp hd
    simp only [okD]; exact strOk_w (h x hx)
  have e : ((ss.map PyData.str).any fun y => PyData.eqv y (.str z)) = true ↔ z ∈ ss := by
    rw [any_eqv oz os, List.mem_map]
    exact ⟨fun ⟨x, hx, q⟩ => by injection q with q; rw [← q]; exact hx, fun q => ⟨z, q, rfl⟩⟩
  by_cases q : z ∈ ss
  · rw [decide_eq_true q]; exact e.mpr q
  · rw [decide_eq_false q]; exact Bool.eq_false_iff.mpr fun y => q (e.mp y)
def spChoose (C : Addr) : Sp := fun vs H Q _ => ∃ (b am an : Addr) (m n : Mo) (z : Str) (rk : Int) (ws ss : List Str) (lk : Option Mo) (rs : List Row), vs = [.ref b, .ref am, .ref an, .str z] ∧ BookAt C H b rs ∧ H am = some (.tup [.int m.1, .int m.2]) ∧ H an = some (.tup [.int n.1, .int n.2]) ∧
  MoOk m ∧ m ∉ rs.map Row.mo ∧ rs.length ≤ 60 ∧ ¬ mLt m n ∧ Row.nm n rk ws ss lk ∈ rs ∧ z ∈ ss ∧ (∀ w ∈ ss, IsW w) ∧ ∀ H', KD b H H' → BookAt C H' b (rs ++ [.ch m n z]) → Q .non H'
def spTaker (C : Addr) : Sp := fun vs H Q _ => ∃ (b an : Addr) (n : Mo) (rk : Int) (ws ss : List Str) (lk : Option Mo) (v : V) (u : Option Mo) (rs : List Row), vs = [.ref b, .ref an, v] ∧ BookAt C H b rs ∧ H an = some (.tup [.int n.1, .int n.2]) ∧ Row.nm n rk ws ss lk ∈ rs ∧ upB n u = true ∧ UpV H v u ∧ rs.length < 64 ∧ (∀ r ∈ rs, RowW r) ∧
  ∀ (H' : Hp) (x : V) (S : List Row), Same H H' → S.Perm rs → Rise S → Tp H' x (oD (((S.filter fun r => upB r.mo u && rankB (some rk) r).filter (takes rs u n ws)).head?.map Row.mo)) → Q x H'
theorem whole_head {rs S : List Row} {u : Option Mo} {m : Mo} (sp : S.Perm (rs.filter fun r => decide (m ∈ r.names))) : ((S.filter fun r => upB r.mo u && decide (r.sort = ("strike" : Str)) && wholeB r).head?.map Row.mo = none) ↔ wholeB' rs u m = false := by
  have st : ∀ r : Row, wholeB r = true → r.sort = ("strike" : Str) := fun r h => by cases r <;> first | rfl | cases h
  unfold wholeB'
  rw [List.any_eq_false]
  constructor
  · intro h r hr z
    rw [Bool.and_eq_true, Bool.and_eq_true] at z
    have inS : r ∈ S := sp.mem_iff.mpr (List.mem_filter.mpr ⟨hr, z.1⟩)
    have : r ∈ S.filter fun r => upB r.mo u && decide (r.sort = ("strike" : Str)) && wholeB r := List.mem_filter.mpr ⟨inS, by rw [z.2.1, z.2.2, decide_eq_true (st r z.2.2)]; rfl⟩
    cases e : (S.filter fun r => upB r.mo u && decide (r.sort = ("strike" : Str)) && wholeB r) with
    | nil => rw [e] at this; cases this
    | cons a l => rw [e] at h; cases h
  · intro h
    have : (S.filter fun r => upB r.mo u && decide (r.sort = ("strike" : Str)) && wholeB r) = [] := List.filter_eq_nil_iff.mpr fun r hr z => by
      rw [Bool.and_eq_true, Bool.and_eq_true] at z
      obtain ⟨h1, h2⟩ := List.mem_filter.mp (sp.mem_iff.mp hr)
      exact h r h1 (by rw [h2, z.1.1, z.2]; rfl)
    rw [this]; rfl
section
variable {P : Program} {w : World} {K : PySem.W.Frag} {mg : Str → Option Value} {base : Heap} {C : Addr}
theorem sc_Book_words : FnScope ["self", "name"] ["self", "name"] (defScope s_Book_words) := ⟨rfl, rfl, rfl, by decide +kernel, rfl, by decide +kernel, by decide +kernel⟩
theorem ok_Book_words {f : Addr} {fd : FuncData} (F : Fun K "words" "Book.words" s_Book_words f fd) (c_Book__name : C8.Met P w K mg base 3 C "_name" (spName C) [.non]) : FnOk P w K mg base CX0 4 f fd ["self", "name"] (spWords C) := by
  refine F.ok sc_Book_words (fun vs H Q E h => ?_) (fun cdv A outer s H vs Q E hr h => ?_)
  · obtain ⟨b, a, m, rk, ws, ss, l, rs, rfl, _⟩ := h; rfl
  · obtain ⟨b, a, m, rk, ws, ss, l, rs, rfl, BA, ha, hrow, k⟩ := h
    refine ⟨_, (pss_one (ps_ret (pe_ix ix_tup (C8.pe_mt c_Book__name hr (by decide) (pv 0) (pa_cons (pv 1) pa_nil)) pe_int (fun _ _ => rfl)))), ?_⟩
    obtain ⟨dx, e, nn, kvs, nkv, B⟩ := id BA
    refine ⟨_, rfl, b, dx, _, rfl, B.ob, bf_no _ _ (by decide +kernel) (by decide +kernel), _, rfl, b, a, .non, none, rs, Row.nm m rk ws ss l, rfl, BA, ha, rfl, hrow, rfl, rfl, fun x tx => ?_⟩
    obtain ⟨t, xs, rfl, ht, rx⟩ := Tp.inv tx
    obtain ⟨v3, a3, t3⟩ := Tp.at (K := K) (i := 3) (d := .tuple (ws.map PyData.str)) ht rx rfl
    exact ⟨t, _, _, _, rfl, rfl, SqT.of ht, a3, k _ t3⟩
theorem sc_Book_strike : FnScope ["self", "moment", "name", "whole"] ["self", "moment", "name", "whole"] (defScope s_Book_strike) := ⟨rfl, rfl, rfl, by decide +kernel, rfl, by decide +kernel, by decide +kernel⟩
theorem ok_Book_strike {f : Addr} {fd : FuncData} {kws : List (Str × V)} (F : FunD K "strike" "Book.strike" (defArgs s_Book_strike) (defBody s_Book_strike) (defScope s_Book_strike) [] kws f fd) (T : BkT K C) (m_bool : mg "bool" = none)
    (c_refuse_new : C8.Cal P w K mg base 3 "refuse_new" spNew []) (c_Book__refuse_named : C8.Met P w K mg base 4 C "_refuse_named" (spRefuse C) []) (c_Book__keep : C8.Met P w K mg base 2 C "_keep" (spKeep C) []) : FnOk P w K mg base CX0 5 f fd ["self", "moment", "name", "whole"] (spStrike C) := by
  refine F.ok sc_Book_strike (fun vs H Q E h => ?_) (fun cdv A outer s H vs Q E hr h => ?_)
  · obtain ⟨b, am, an, m, n, wh, rs, rfl, _⟩ := h; rfl
  · obtain ⟨b, am, an, m, n, wh, rs, rfl, BA, ham, han, hmo, hm, h60, hln, hn, k⟩ := h
    refine cut_nox ⟨_, (pss_cons (ps_expr (C8.pe_c c_refuse_new hr (by decide) rfl (pa_cons (pv 1) (pa_cons (pe_fld (pv 0) rfl) pa_nil))))
      (pss_cons (ps_expr (C8.pe_mt c_Book__refuse_named hr (by decide) (pv 0) (pa_cons (pv 1) (pa_cons (pv 2) pa_nil))))
      (pss_one (ps_expr (C8.pe_mt c_Book__keep hr (by decide) (pv 0) (pa_cons (pe_tup (pa_cons pe_str (pa_cons (pv 1) (pa_cons (pv 2) (pa_cons (pe_callTy call_bool1 (by rfl) m_bool (by decide +kernel) (pa_cons (pv 3) pa_nil)) pa_nil))))) pa_nil)))))), ?_⟩
    obtain ⟨dx, e, nn, kvs, nkv, B⟩ := id BA
    have x1 := bf_no e nn (m := "_refuse_named") (by decide +kernel) (by decide +kernel)
    have x3 := bf_no e nn (m := "_keep") (by decide +kernel) (by decide +kernel)
    refine ⟨_, rfl, _, rfl, b, C, dx, _, _, rfl, B.ob, T.cl, T.nE, bf_e _ _, am, e, m, kvs, rfl, ham, hmo, B.en, B.er.none hm, ?_⟩
    refine ⟨_, rfl, b, dx, _, rfl, B.ob, x1, _, rfl, _, rfl, b, am, an, m, n, rs, rfl, BA, ham, han, hn, hln, ?_⟩
    refine ⟨_, rfl, b, dx, _, rfl, B.ob, x3, _, rfl, _, rfl, _, rfl, .inr ⟨wh, rfl, ?_⟩⟩
    refine ⟨by show 4 ≤ sizeLine; decide, fun t ht => ?_⟩
    have s3 : Same H (upd H t (.tup [.str "strike", .ref am, .ref an, .bl wh])) := Same.new ht
    refine ⟨b, .ref t, .st m n wh, rs, rfl, BA.keep (KB.of s3), .tup upd_same (.cons (.str _) (.cons (Tp.mo (s3 _ _ ham)) (.cons (Tp.mo (s3 _ _ han)) (.cons (.bl _) .nil)))), hm, hmo, fun x hx => ?_, ?_, h60, fun H4 k4 B4 => ?_⟩
    · have hx' : x ∈ [n] := hx
      rw [List.mem_singleton] at hx'; subst hx'; exact hn
    · show ([n] : List Mo).Nodup
      simp
    · exact k H4 (k4.sq BA s3) B4
theorem sc_Book__told_of : FnScope ["self", "name", "sort", "upto", "told", "moment", "record"] ["self", "name", "sort", "upto"] (defScope s_Book__told_of) := ⟨rfl, rfl, rfl, by decide +kernel, rfl, by decide +kernel, by decide +kernel⟩
theorem ok_Book_told_of {f : Addr} {fd : FuncData} (F : Fun K "_told_of" "Book._told_of" s_Book__told_of f fd) (T : BkT K C) (m_sorted : mg "sorted" = none) (c_is_there : C8.Cal P w K mg base 1 "is_there" spThere []) : FnOk P w K mg base CX0 2 f fd ["self", "name", "sort", "upto"] (spToldOf C) := by
  refine F.ok sc_Book__told_of (fun vs H Q E h => ?_) (fun cdv A outer s H vs Q E hr h => ?_)
  · obtain ⟨b, an, n, z, v, u, rs, rfl, _⟩ := h; rfl
  · obtain ⟨b, an, n, z, v, u, rs, rfl, ⟨dx, e, nn, kvs, nkv, B⟩, han, hn, hv, h64, k⟩ := h
    have hu := hu_of hr
    refine ⟨_, (pss_cons (ps_setLc (i := 4) (own := [("moment", 5)]) (g := gName 5) rfl sc_Book__told_of.nd rfl rfl (sw_true rfl rfl rfl (by decide +kernel)) (pi_list (pe_callB (cr_sortedDM rfl) (by rfl) m_sorted (by decide +kernel) (pa_cons (pe_dget hu (pe_fld (pv 0) rfl) (pv 1) (fun _ _ => rfl)) pa_nil))) (blkOk_by (own := [("moment", 5)]) (N := ["self", "name", "sort", "upto", "told", "moment", "record"]) (sc := defScope s_Book__told_of) (by decide +kernel)) (fun _ _ _ _ _ => pg_name (i := 5) sc_Book__told_of.nd rfl (Or.inl rfl)) (fun _ _ _ _ _ => (pts_one (pt_val (C8.pe_c c_is_there hr (by decide) rfl (pa_cons (pv 5) (pa_cons (pv 3) pa_nil)))))) (fun _ _ _ _ _ => (pe_dget (by exact hu) (pe_fldK K (pv 0) rfl) (pv 5) (fun _ _ => rfl))))
      (pss_one (ps_ret (pe_lc (own := [("record", 6)]) (g := gName 6) rfl sc_Book__told_of.nd (pi_list (pv 4)) (blkOk_by (own := [("record", 6)]) (N := ["self", "name", "sort", "upto", "told", "moment", "record"]) (sc := defScope s_Book__told_of) (by decide +kernel)) (fun _ _ _ _ _ => pg_name (i := 6) sc_Book__told_of.nd rfl (Or.inl rfl)) (fun _ _ _ _ _ => (pts_one (pt_cmpR op_eq (pe_ix (ix_tupK K) (pv 6) pe_int (fun _ _ => rfl)) (pv 2) (nomark _)))) (fun _ _ _ _ _ => (pv 6)))))), ?_⟩
    obtain ⟨ua, hu1, hu2, hu3, hu4⟩ := B.nr.get hn
    have g : DGet H nn (.ref an) (some (.ref ua)) := by have := DGet.m B.nb han; rw [hu1] at this; exact this
    have hfl : (rs.filter fun r => decide (n ∈ r.names)).length ≤ rs.length := List.length_filter_le _ _
    refine ⟨_, rfl, b, C, dx, _, _, rfl, B.ob, T.cl, T.nN, bf_n _ _, _, rfl, nn, _, rfl, g, ua, users rs n, (rs.filter fun r => decide (n ∈ r.names)).map Row.mo, rfl, Rd.of hu2, users_keys rs n, by rw [List.length_map]; omega, fun m hm => ?_, fun ys ns p hp hpw hl hys hp0 => ?_⟩
    · obtain ⟨r, hr', rfl⟩ := List.mem_map.mp hm; exact B.ok r (List.mem_filter.mp hr').1
    obtain ⟨S, sp, sm⟩ := perm_map hp _ rfl
    have inrs : ∀ r ∈ S, r ∈ rs := fun r h => (List.mem_filter.mp (sp.mem_iff.mp h)).1
    have rise : Rise S := by
      have nd0 : ((rs.filter fun r => decide (n ∈ r.names)).map Row.mo).Nodup := List.Nodup.sublist (List.Sublist.map _ List.filter_sublist) B.md
      have nd : (S.map Row.mo).Nodup := (sp.map Row.mo).nodup_iff.mpr nd0
      rw [← sm] at hpw
      exact List.Pairwise.imp₂ (fun a b h k => mLt_tot h k) (List.pairwise_map.mp hpw) (List.pairwise_map.mp nd)
    have hSl : S.length ≤ rs.length := by rw [sp.length_eq]; exact hfl
    have s1 : Same H (upd H p (.lst (ys.map V.ref))) := Same.new hp0
    have hyl : ys.length = S.length := by rw [hl, ← sm, List.length_map]
    refine ⟨p, rfl, ⟨_, SqL.of upd_same⟩, fun D hD => ?_⟩
    refine lc_list (K := K) (a := p) (xs := ys.map V.ref) (fun i H' => Same (upd H p (.lst (ys.map V.ref))) H' ∧ Ls H' D (((S.take i).filter fun r => upB r.mo u).map Row.d))
      ⟨Same.new hD, [], upd_same, by rw [List.take_zero]; exact .nil⟩ (fun i H' _ q => SqL.of (q.1 _ _ upd_same)) ?_ ?_
    · rintro i x H2 hi ⟨s2, xs, hx, rx⟩
      rw [List.getElem?_map] at hi
      obtain ⟨a, ha, rfl⟩ : ∃ a, ys[i]? = some a ∧ x = .ref a := by
        cases q : ys[i]? with
        | none => rw [q] at hi; cases hi
        | some a => rw [q] at hi; exact ⟨a, rfl, (Option.some.inj hi).symm⟩
      obtain ⟨m, hm, ham⟩ := hys i a ha
      rw [← sm, List.getElem?_map] at hm
      obtain ⟨r, hr1, rfl⟩ : ∃ r, S[i]? = some r ∧ m = r.mo := by
        cases q : S[i]? with
        | none => rw [q] at hm; cases hm
        | some r => rw [q] at hm; exact ⟨r, rfl, (Option.some.inj hm).symm⟩
      have hrs : r ∈ rs := inrs r (List.mem_of_getElem? hr1)
      have ham2 := s2 _ _ (s1 _ _ ham)
      have sH2 := s1.trans s2
      have step := filter_step (p := fun r : Row => upB r.mo u) hr1
      refine ⟨rfl, _, rfl, _, rfl, a, r.mo, v, u, rfl, ham2, hv.to (TK.of sH2), ?_⟩
      by_cases q : upB r.mo u = true
      · rw [q]
        refine ⟨_, rfl, iteT ?_⟩
        obtain ⟨y, hy, ty⟩ := B.er.get B.md hrs
        have g2 : DGet H2 e (.ref a) (some y) := by have := DGet.m (sH2 _ _ B.en) ham2; rw [hy] at this; exact this
        have hxl : xs.length ≤ 64 := by rw [rx.len, List.length_map]; have := List.length_filter_le (fun r => upB (Row.mo r) u) (S.take i); have := List.length_take_le' i S; omega
        refine ⟨_, rfl, b, C, dx, _, _, rfl, sH2 _ _ B.ob, T.cl, T.nE, bf_e _ _, _, rfl, e, y, rfl, g2, xs, hx, small1000 (by omega), fun c o ec => ?_, _, upd_same, ?_⟩
        · rw [upd_ne (ne_of_none ec hD)]; exact s2 _ _ ec
        · rw [step, if_pos q, List.map_append]
          exact (rx.to (TK.put hx (by intro z; exact nofun))).snoc ((ty.to (TK.of sH2)).to (TK.put hx (by intro z; exact nofun)))
      · rw [Bool.eq_false_iff.mpr q]
        refine ⟨_, rfl, iteF ⟨s2, xs, hx, ?_⟩⟩
        rw [step, if_neg q, List.append_nil]; exact rx
    rintro H2 ⟨s2, tx, htx, rtx⟩
    rw [List.length_map, hyl, List.take_length] at rtx
    have s12 := s1.trans s2
    generalize hU : (S.filter fun r => upB r.mo u) = U at rtx
    have hUl : U.length ≤ 64 := by rw [← hU]; exact Nat.le_trans (List.length_filter_le _ _) (by omega)
    have htxl : tx.length = U.length := by rw [rtx.len, List.length_map]
    refine ⟨_, rfl, D, rfl, ⟨_, SqL.of htx⟩, fun D2 hD2 => ?_⟩
    refine lc_list (K := K) (a := D) (xs := tx) (fun i H' => Same H2 H' ∧ Ls H' D2 (((U.take i).filter fun r => decide (r.sort = z)).map Row.d))
      ⟨Same.new hD2, [], upd_same, by rw [List.take_zero]; exact .nil⟩ (fun i H' _ q => SqL.of (q.1 _ _ htx)) ?_ ?_
    · rintro i x H3 hi ⟨s3, xs, hx, rx⟩
      obtain ⟨r, hr1, t0⟩ := row_at (K := K) rtx hi
      obtain ⟨t, ys2, rfl, ht, ry⟩ := Tp.inv (t0.to (TK.of s3))
      obtain ⟨v0, a0, t0'⟩ := Tp.at (K := K) ht ry r.ds0
      cases Tp.str_inv t0'
      have step := filter_step (p := fun r : Row => decide (r.sort = z)) hr1
      refine ⟨rfl, _, rfl, _, _, _, _, rfl, rfl, SqT.of ht, a0, _, rfl, rfl, _, rfl, ?_⟩
      rw [sort_dec]
      refine ite2 (fun q => ?_) (fun q => ?_)
      · have hxl : xs.length ≤ 64 := by rw [rx.len, List.length_map]; have := List.length_filter_le (fun r : Row => decide (r.sort = z)) (U.take i); have := List.length_take_le' i U; omega
        refine ⟨_, rfl, xs, hx, small1000 (by omega), fun c o ec => by rw [upd_ne (ne_of_none ec hD2)]; exact s3 _ _ ec, _, upd_same, ?_⟩
        rw [step, if_pos q, List.map_append]
        have tk : TK H3 (upd H3 D2 (.lst (xs ++ [.ref t]))) := TK.put hx (by intro z; exact nofun)
        exact (rx.to tk).snoc ((t0.to (TK.of s3)).to tk)
      · exact ⟨s3, xs, hx, by rw [step, if_neg q, List.append_nil]; exact rx⟩
    · rintro H3 ⟨s3, ls⟩
      rw [htxl, List.take_length, ← hU, List.filter_filter] at ls
      refine k H3 D2 S (s12.trans s3) (s12.free hD2) sp rise ?_
      rw [show (fun r : Row => upB r.mo u && decide (r.sort = z)) = fun r => decide (r.sort = z) && upB r.mo u from funext fun r => Bool.and_comm _ _]
      exact ls
theorem sc_Book_wholly : FnScope ["self", "name", "upto", "strikes", "record"] ["self", "name", "upto"] (defScope s_Book_wholly) := ⟨rfl, rfl, rfl, by decide +kernel, rfl, by decide +kernel, by decide +kernel⟩
theorem ok_Book_wholly {f : Addr} {fd : FuncData} {kws : List (Str × V)} (F : FunD K "wholly" "Book.wholly" (defArgs s_Book_wholly) (defBody s_Book_wholly) (defScope s_Book_wholly) [] kws f fd)
    (c_Book__name_upto : MetK P w K mg base 3 C "_name" (spName C) 2 ["upto"] (fun vs zs => vs ++ zs)) (c_Book__told_of : C8.Met P w K mg base 2 C "_told_of" (spToldOf C) []) : FnOk P w K mg base CX0 4 f fd ["self", "name", "upto"] (spStruck C wholeB) := by
  refine F.ok sc_Book_wholly (fun vs H Q E h => ?_) (fun cdv A outer s H vs Q E hr h => ?_)
  · obtain ⟨b, an, n, v, u, rs, rfl, _⟩ := h; rfl
  · obtain ⟨b, an, n, v, u, rs, rfl, BA, han, hn, hup, hv, h64, k⟩ := h
    refine cut_nox ⟨_, (pss_cons (ps_expr (pe_mtK c_Book__name_upto hr (by decide) (pv 0) (pa_cons (pv 1) pa_nil) (pk_cons (pv 2) pk_nil)))
      (pss_cons (ps_setLc (i := 3) (own := [("record", 4)]) (g := gName 4) rfl sc_Book_wholly.nd rfl rfl (sw_true rfl rfl rfl (by decide +kernel)) (pi_list (C8.pe_mt c_Book__told_of hr (by decide) (pv 0) (pa_cons (pv 1) (pa_cons pe_str (pa_cons (pv 2) pa_nil))))) (blkOk_by (own := [("record", 4)]) (N := ["self", "name", "upto", "strikes", "record"]) (sc := defScope s_Book_wholly) (by decide +kernel)) (fun _ _ _ _ _ => pg_name (i := 4) sc_Book_wholly.nd rfl (Or.inl rfl)) (fun _ _ _ _ _ => (pts_one (pt_val (pe_ix (ix_tupK K) (pv 4) pe_int (fun _ _ => rfl))))) (fun _ _ _ _ _ => (pv 4)))
      (pss_one (ps_ret (pe_ifExp (pt_truth (pv 3) (by intro _; rfl)) (pe_ix ix_tup (pe_ix ix_list (pv 3) pe_int (fun _ _ => rfl)) pe_int (fun _ _ => rfl)) pe_non))))), ?_⟩
    obtain ⟨dx, e, nn, kvs, nkv, B⟩ := id BA
    obtain ⟨rk, ws, ss, lk, hrow⟩ := nms_row hn
    refine ⟨_, rfl, b, dx, _, rfl, B.ob, bf_no _ _ (by decide +kernel) (by decide +kernel), _, rfl, _, rfl, rfl, rfl, b, an, v, u, rs, Row.nm n rk ws ss lk, rfl, BA, han, hv, hrow, rfl, hup, fun x tx => ?_⟩
    refine ⟨_, rfl, b, dx, _, rfl, B.ob, bf_no _ _ (by decide +kernel) (by decide +kernel), _, rfl, _, rfl, b, an, n, ("strike" : Str), v, u, rs, rfl, BA, han, hn, hv, h64, fun H1 l S s1 l0 sp rise ⟨xs, hx, rx⟩ => ?_⟩
    have allst : ∀ r ∈ (S.filter fun r => upB r.mo u && decide (r.sort = ("strike" : Str))), ∃ m q wh, r = Row.st m q wh := fun r h => by
      have h1 := (List.mem_filter.mp h).2
      rw [Bool.and_eq_true] at h1
      have h2 : r.sort = ("strike" : Str) := of_decide_eq_true h1.2
      cases r with
      | st m q wh => exact ⟨m, q, wh, rfl⟩
      | nm => exact absurd h2 (by show ¬ ("name" : Str) = "strike"; decide +kernel)
      | ch => exact absurd h2 (by show ¬ ("choice" : Str) = "strike"; decide +kernel)
      | ah => exact absurd h2 (by show ¬ ("ahead" : Str) = "strike"; decide +kernel)
    have hSl : (S.filter fun r => upB r.mo u && decide (r.sort = ("strike" : Str))).length ≤ 64 := by
      have h1 := List.length_filter_le (fun r : Row => upB r.mo u && decide (r.sort = ("strike" : Str))) S
      have h2 := sp.length_eq
      have h3 := List.length_filter_le (fun r : Row => decide (n ∈ r.names)) rs
      omega
    have fin : ∀ H2 y, Same H1 H2 → Tp H2 y (oD (((S.filter fun r => upB r.mo u && decide (r.sort = ("strike" : Str))).filter wholeB).head?.map Row.mo)) → Q y H2 := fun H2 y s2 hy => k H2 y S (s1.trans s2) sp rise (by
      rw [List.filter_filter] at hy
      rw [show (fun r : Row => upB r.mo u && decide (r.sort = ("strike" : Str)) && wholeB r) = fun r => wholeB r && (upB r.mo u && decide (r.sort = ("strike" : Str))) from funext fun r => Bool.and_comm _ _]; exact hy)
    generalize (S.filter fun r => upB r.mo u && decide (r.sort = ("strike" : Str))) = U at rx fin allst hSl
    have hxl : xs.length = U.length := by rw [rx.len, List.length_map]
    refine ⟨l, rfl, ⟨_, SqL.of hx⟩, fun D hD => ?_⟩
    refine lc_list (K := K) (a := l) (xs := xs) (fun i H' => Same H1 H' ∧ Ls H' D (((U.take i).filter wholeB).map Row.d))
      ⟨Same.new hD, [], upd_same, by rw [List.take_zero]; exact .nil⟩ (fun i H' _ q => SqL.of (q.1 _ _ hx)) ?_ ?_
    · rintro i x H3 hi ⟨s3, zs, hz, rz⟩
      obtain ⟨r, hr1, t0⟩ := row_at (K := K) rx hi
      obtain ⟨m, q, wh, rfl⟩ := allst r (List.mem_of_getElem? hr1)
      obtain ⟨t, ys2, rfl, ht, ry⟩ := Tp.inv (t0.to (TK.of s3))
      obtain ⟨v3, a3, t3⟩ := Tp.at (K := K) (i := 3) (d := .bool wh) ht ry rfl
      cases t3
      have step := filter_step (p := wholeB) hr1
      refine ⟨rfl, _, rfl, _, _, _, _, rfl, rfl, SqT.of ht, a3, _, rfl, ?_⟩
      refine ite2 (fun q => ?_) (fun q => ?_)
      · have hzl : zs.length ≤ 64 := by rw [rz.len, List.length_map]; have := List.length_filter_le wholeB (U.take i); have := List.length_take_le' i U; omega
        refine ⟨_, rfl, zs, hz, small1000 (by omega), fun c o ec => by rw [upd_ne (ne_of_none ec hD)]; exact s3 _ _ ec, _, upd_same, ?_⟩
        rw [step, if_pos (show wholeB (Row.st _ _ wh) = true from q), List.map_append]
        have tk : TK H3 (upd H3 D (.lst (zs ++ [.ref t]))) := TK.put hz (by intro z; exact nofun)
        exact (rz.to tk).snoc ((t0.to (TK.of s3)).to tk)
      · exact ⟨s3, zs, hz, by rw [step, if_neg (show ¬ wholeB (Row.st _ _ wh) = true from q), List.append_nil]; exact rz⟩
    rintro H3 ⟨s3, zs, hz, rz⟩
    rw [hxl, List.take_length] at rz
    have fin3 := fun y => fin H3 y s3
    refine ⟨_, rfl, _, .inl ⟨zs, SqL.of hz, rfl⟩, ?_⟩
    generalize (U.filter wholeB) = Y at rz fin3
    cases Y with
    | nil =>
      cases rz
      exact iteF (fin3 _ .non)
    | cons r Y =>
      cases rz with
      | cons t0 rest =>
        refine iteT ?_
        obtain ⟨t, ys, rfl, ht, ry⟩ := Tp.inv t0
        obtain ⟨v1, a1, t1⟩ := Tp.at (K := K) ht ry r.ds1
        exact ⟨_, rfl, D, _, _, _, rfl, rfl, SqL.of hz, at_of (j := 0) rfl rfl, t, _, _, _, rfl, rfl, SqT.of ht, a1, fin3 _ t1⟩
theorem sc_Book_names : FnScope ["self", "rank", "upto", "told", "record"] ["self", "rank", "upto"] (defScope s_Book_names) := ⟨rfl, rfl, rfl, by decide +kernel, rfl, by decide +kernel, by decide +kernel⟩
theorem ok_Book_names {f : Addr} {fd : FuncData} {kws : List (Str × V)} (F : FunD K "names" "Book.names" (defArgs s_Book_names) (defBody s_Book_names) (defScope s_Book_names) [] kws f fd)
    (c_Book_entries_upto : MetK P w K mg base 2 C "entries" (spEntries C) 1 ["upto"] (fun vs zs => vs ++ zs)) : FnOk P w K mg base CX0 3 f fd ["self", "rank", "upto"] (spNamesOf C) := by
  refine F.ok sc_Book_names (fun vs H Q E h => ?_) (fun cdv A outer s H vs Q E hr h => ?_)
  · obtain ⟨b, rv, v, rk, u, rs, rfl, _⟩ := h; rfl
  · obtain ⟨b, rv, v, rk, u, rs, rfl, BA, hrk, hv, h64, k⟩ := h
    refine cut_nox ⟨_, (pss_cons (ps_setLc (i := 3) (own := [("record", 4)]) (g := gName 4) rfl sc_Book_names.nd rfl rfl (sw_true rfl rfl rfl (by decide +kernel)) (pi_list (pe_mtK0 c_Book_entries_upto hr (by decide) (pv 0) (pk_cons (pv 2) pk_nil))) (blkOk_by (own := [("record", 4)]) (N := ["self", "rank", "upto", "told", "record"]) (sc := defScope s_Book_names) (by decide +kernel)) (fun _ _ _ _ _ => pg_name (i := 4) sc_Book_names.nd rfl (Or.inl rfl)) (fun _ _ _ _ _ => (pts_one (pt_cmpR op_eq (pe_ix (ix_tupK K) (pv 4) pe_int (fun _ _ => rfl)) pe_str (nomark _)))) (fun _ _ _ _ _ => (pv 4)))
      (pss_one (ps_ret (pe_lc (own := [("record", 4)]) (g := gName 4) rfl sc_Book_names.nd (pi_list (pv 3)) (blkOk_by (own := [("record", 4)]) (N := ["self", "rank", "upto", "told", "record"]) (sc := defScope s_Book_names) (by decide +kernel)) (fun _ _ _ _ _ => pg_name (i := 4) sc_Book_names.nd rfl (Or.inl rfl)) (fun _ _ _ _ _ => (pts_one (PW.pt (pw_or (pt_cmpR op_isN (pv 1) pe_non (nomark _)) (pw_or1 (pt_cmpR op_eq (pe_ix (ix_tupK K) (pv 4) pe_int (fun _ _ => rfl)) (pv 1) (nomark _))))))) (fun _ _ _ _ _ => (pe_ix (ix_tupK K) (pv 4) pe_int (fun _ _ => rfl))))))), ?_⟩
    obtain ⟨dx, e, nn, kvs, nkv, B⟩ := id BA
    refine ⟨_, rfl, b, dx, _, rfl, B.ob, bf_no _ _ (by decide +kernel) (by decide +kernel), _, rfl, rfl, rfl, b, v, u, rs, rfl, BA, hv, h64, fun H1 l S s1 l0 sp rise ⟨xs, hx, rx⟩ => ?_⟩
    have fin : ∀ H' D, Same H1 H' → H1 D = none → Ls H' D ((((S.filter fun r => upB r.mo u).filter Row.isNm).filter (rankB rk)).map fun r => mD r.mo) → Q (.ref D) H' := fun H' D s2 hD ls => k H' D S (s1.trans s2) (s1.free hD) sp rise (by
      rw [List.filter_filter, List.filter_filter] at ls
      rw [show (fun r : Row => upB r.mo u && rankB rk r) = fun r => rankB rk r && r.isNm && upB r.mo u from funext fun r => by cases r <;> simp [rankB, Row.isNm, Bool.and_comm]]
      exact ls)
    have hl0 : (S.filter fun r => upB r.mo u).length ≤ 64 := Nat.le_trans (List.length_filter_le _ _) (by rw [sp.length_eq]; omega)
    generalize (S.filter fun r => upB r.mo u) = U at rx fin hl0
    have hxl : xs.length = U.length := by rw [rx.len, List.length_map]
    refine ⟨l, rfl, ⟨_, SqL.of hx⟩, fun D hD => ?_⟩
    refine lc_list (K := K) (a := l) (xs := xs) (fun i H' => Same H1 H' ∧ Ls H' D (((U.take i).filter Row.isNm).map Row.d))
      ⟨Same.new hD, [], upd_same, by rw [List.take_zero]; exact .nil⟩ (fun i H' _ q => SqL.of (q.1 _ _ hx)) ?_ ?_
    · rintro i x H3 hi ⟨s3, zs, hz, rz⟩
      obtain ⟨r, hr1, t0⟩ := row_at (K := K) rx hi
      obtain ⟨t, ys2, rfl, ht, ry⟩ := Tp.inv (t0.to (TK.of s3))
      obtain ⟨v0, a0, t0'⟩ := Tp.at (K := K) ht ry r.ds0
      cases Tp.str_inv t0'
      have step := filter_step (p := Row.isNm) hr1
      refine ⟨rfl, _, rfl, _, _, _, _, rfl, rfl, SqT.of ht, a0, rfl, _, rfl, ?_⟩
      rw [sort_nm]
      refine ite2 (fun q => ?_) (fun q => ?_)
      · have hzl : zs.length ≤ 64 := by rw [rz.len, List.length_map]; have := List.length_filter_le Row.isNm (U.take i); have := List.length_take_le' i U; omega
        refine ⟨_, rfl, zs, hz, small1000 (by omega), fun c o ec => by rw [upd_ne (ne_of_none ec hD)]; exact s3 _ _ ec, _, upd_same, ?_⟩
        rw [step, if_pos q, List.map_append]
        have tk : TK H3 (upd H3 D (.lst (zs ++ [.ref t]))) := TK.put hz (by intro z; exact nofun)
        exact (rz.to tk).snoc ((t0.to (TK.of s3)).to tk)
      · exact ⟨s3, zs, hz, by rw [step, if_neg q, List.append_nil]; exact rz⟩
    rintro H3 ⟨s3, zs, hz, rz⟩
    rw [hxl, List.take_length] at rz
    have fin3 := fun H' D2 (s4 : Same H3 H') (h : H3 D2 = none) => fin H' D2 (s3.trans s4) (s3.free h)
    have hnm : ∀ r ∈ U.filter Row.isNm, r.isNm = true := fun r h => (List.mem_filter.mp h).2
    have hyl0 : (U.filter Row.isNm).length ≤ 64 := Nat.le_trans (List.length_filter_le _ _) hl0
    generalize (U.filter Row.isNm) = Y at rz fin3 hnm hyl0
    have hzl : zs.length = Y.length := by rw [rz.len, List.length_map]
    refine ⟨_, rfl, D, rfl, ⟨_, SqL.of hz⟩, fun D2 hD2 => ?_⟩
    refine lc_list (K := K) (a := D) (xs := zs) (fun i H' => Same H3 H' ∧ Ls H' D2 (((Y.take i).filter (rankB rk)).map fun r => mD r.mo))
      ⟨Same.new hD2, [], upd_same, by rw [List.take_zero]; exact .nil⟩ (fun i H' _ q => SqL.of (q.1 _ _ hz)) ?_ ?_
    · rintro i x H4 hi ⟨s4, qs, hq, rq⟩
      obtain ⟨r, hr1, t0⟩ := row_at (K := K) rz hi
      have hn := hnm r (List.mem_of_getElem? hr1)
      obtain ⟨t, ys2, rfl, ht, ry⟩ := Tp.inv (t0.to (TK.of s4))
      obtain ⟨v1, a1, t1⟩ := Tp.at (K := K) ht ry r.ds1
      obtain ⟨am, rfl, ham⟩ := Tp.mo_inv t1
      have step := filter_step (p := rankB rk) hr1
      have hql : qs.length ≤ 64 := by rw [rq.len, List.length_map]; have := List.length_filter_le (rankB rk) (Y.take i); have := List.length_take_le' i Y; omega
      have yes : rankB rk r = true → ∃ acc, H4 D2 = some (.lst acc) ∧ acc.length < sizeLine ∧ Same H3 (upd H4 D2 (.lst (acc ++ [.ref am]))) ∧ Ls (upd H4 D2 (.lst (acc ++ [.ref am]))) D2 (((Y.take (i + 1)).filter (rankB rk)).map fun r => mD r.mo) := fun q =>
        ⟨qs, hq, small1000 (by omega), fun c o ec => by rw [upd_ne (ne_of_none ec hD2)]; exact s4 _ _ ec, _, upd_same, by
          rw [step, if_pos q, List.map_append]
          have tk : TK H4 (upd H4 D2 (.lst (qs ++ [.ref am]))) := TK.put hq (by intro z; exact nofun)
          exact (rq.to tk).snoc ((Tp.mo ham).to tk)⟩
      cases r with
      | nm m rr ws ss lk =>
        cases rk with
        | none =>
          cases (show rv = .non from hrk)
          exact ⟨rfl, _, rfl, rfl, _, rfl, iteT (iteT ⟨_, rfl, _, _, _, _, rfl, rfl, SqT.of ht, a1, yes rfl⟩)⟩
        | some kk =>
          cases (show rv = .int kk from hrk)
          obtain ⟨v2, a2, t2⟩ := Tp.at (K := K) (i := 2) (d := .int rr) ht ry rfl
          cases Tp.int_inv t2
          refine ⟨rfl, _, rfl, rfl, _, rfl, iteF ?_⟩
          refine ⟨_, rfl, _, _, _, _, rfl, rfl, SqT.of ht, a2, _, rfl, rfl, _, rfl, ?_⟩
          rw [int_dec]
          refine ite2 (fun q => ?_) (fun q => ?_)
          · exact ⟨_, rfl, _, _, _, _, rfl, rfl, SqT.of ht, a1, yes q⟩
          · exact ⟨s4, qs, hq, by rw [step, if_neg (show ¬ rankB (some kk) (Row.nm m rr ws ss lk) = true from q), List.append_nil]; exact rq⟩
      | _ => cases hn
    · rintro H4 ⟨s4, ls⟩
      rw [hzl, List.take_length] at ls
      exact fin3 H4 D2 s4 hD2 ls
theorem sc_Book_choose : FnScope ["self", "moment", "name", "sheet", "sheets"] ["self", "moment", "name", "sheet"] (defScope s_Book_choose) := ⟨rfl, rfl, rfl, by decide +kernel, rfl, by decide +kernel, by decide +kernel⟩
theorem ok_Book_choose {f : Addr} {fd : FuncData} (F : Fun K "choose" "Book.choose" s_Book_choose f fd) (T : BkT K C) (c_refuse_new : C8.Cal P w K mg base 3 "refuse_new" spNew []) (c_Book__refuse_named : C8.Met P w K mg base 4 C "_refuse_named" (spRefuse C) [])
    (c_Book__name : C8.Met P w K mg base 3 C "_name" (spName C) [.non]) (c_Book__keep : C8.Met P w K mg base 2 C "_keep" (spKeep C) []) : FnOk P w K mg base CX0 5 f fd ["self", "moment", "name", "sheet"] (spChoose C) := by
  refine F.ok sc_Book_choose (fun vs H Q E h => ?_) (fun cdv A outer s H vs Q E hr h => ?_)
  · obtain ⟨b, am, an, m, n, z, rk, ws, ss, lk, rs, rfl, _⟩ := h; rfl
  · obtain ⟨b, am, an, m, n, z, rk, ws, ss, lk, rs, rfl, BA, ham, han, hmo, hm, h60, hln, hrow, hz, hW, k⟩ := h
    refine ⟨_, (pss_cons (ps_expr (C8.pe_c c_refuse_new hr (by decide) rfl (pa_cons (pv 1) (pa_cons (pe_fld (pv 0) rfl) pa_nil))))
      (pss_cons (ps_expr (C8.pe_mt c_Book__refuse_named hr (by decide) (pv 0) (pa_cons (pv 1) (pa_cons (pv 2) pa_nil))))
      (pss_cons (ps_set (i := 4) sc_Book_choose.nd rfl (Or.inl rfl) (pe_ix ix_tup (C8.pe_mt c_Book__name hr (by decide) (pv 0) (pa_cons (pv 2) pa_nil)) pe_int (fun _ _ => rfl)))
      (pss_cons (ps_if (pt_not (pt_truth (pv 4) (by intro _; rfl))) (pss_one ps_never) pss_nil)
      (pss_cons (ps_if (pt_cmpR op_notIn_seq (pv 3) (pv 4) rfl) (pss_one ps_never) pss_nil)
      (pss_one (ps_expr (C8.pe_mt c_Book__keep hr (by decide) (pv 0) (pa_cons (pe_tup (pa_cons pe_str (pa_cons (pv 1) (pa_cons (pv 2) (pa_cons (pv 3) pa_nil))))) pa_nil))))))))), ?_⟩
    obtain ⟨dx, e, nn, kvs, nkv, B⟩ := id BA
    have x1 := bf_no e nn (m := "_refuse_named") (by decide +kernel) (by decide +kernel)
    have x2 := bf_no e nn (m := "_name") (by decide +kernel) (by decide +kernel)
    have x3 := bf_no e nn (m := "_keep") (by decide +kernel) (by decide +kernel)
    refine ⟨_, rfl, _, rfl, b, C, dx, _, _, rfl, B.ob, T.cl, T.nE, bf_e _ _, am, e, m, kvs, rfl, ham, hmo, B.en, B.er.none hm, ?_⟩
    refine ⟨_, rfl, b, dx, _, rfl, B.ob, x1, _, rfl, _, rfl, b, am, an, m, n, rs, rfl, BA, ham, han, row_nms hrow, hln, ?_⟩
    refine ⟨_, rfl, b, dx, _, rfl, B.ob, x2, _, rfl, b, an, .non, none, rs, Row.nm n rk ws ss lk, rfl, BA, han, rfl, hrow, rfl, rfl, fun x tx => ?_⟩
    obtain ⟨t0, xs, rfl, ht0, rx⟩ := Tp.inv tx
    obtain ⟨v4, a4, t4⟩ := Tp.at (K := K) (i := 4) (d := .tuple (ss.map PyData.str)) ht0 rx rfl
    obtain ⟨sa, ys, rfl, hsa, rys⟩ := Tp.inv (id t4)
    refine ⟨t0, _, _, _, rfl, rfl, SqT.of ht0, a4, ?_⟩
    have hyl : ys.length = ss.length := by rw [rys.len, List.length_map]
    have hpos : 0 < ss.length := List.length_pos_of_mem hz
    refine ⟨_, rfl, _, .inr (.inl ⟨ys, SqT.of hsa, rfl⟩), ?_⟩
    have ne : ys.isEmpty = false := by
      cases ys with
      | nil => rw [List.length_nil] at hyl; omega
      | cons _ _ => rfl
    rw [ne]
    refine iteF ?_
    obtain rfl : ys = ss.map V.str := TpAll.of_strs rys
    have inv : inV (.str z) (ss.map V.str) = true := List.any_eq_true.mpr ⟨.str z, List.mem_map.mpr ⟨z, hz, rfl⟩, by show (z == z) = true; exact beq_self_eq_true z⟩
    refine ⟨_, rfl, _, rfl, sa, _, rfl, .inr (SqT.of hsa), rfl, flat_strs ss, _, rfl, ?_⟩
    rw [inv]
    refine iteF ?_
    refine ⟨_, rfl, b, dx, _, rfl, B.ob, x3, _, rfl, _, rfl, _, rfl, by show 4 ≤ sizeLine; decide, fun t ht => ?_⟩
    have s3 : Same H (upd H t (.tup [.str "choice", .ref am, .ref an, .str z])) := Same.new ht
    refine ⟨b, .ref t, .ch m n z, rs, rfl, BA.keep (KB.of s3), .tup upd_same (.cons (.str _) (.cons (Tp.mo (s3 _ _ ham)) (.cons (Tp.mo (s3 _ _ han)) (.cons (.str _) .nil)))), hm, hmo, fun x hx => ?_, ?_, h60, fun H4 k4 B4 => ?_⟩
    · have hx' : x ∈ [n] := hx
      rw [List.mem_singleton] at hx'; subst hx'; exact row_nms hrow
    · show ([n] : List Mo).Nodup
      simp
    · exact k H4 (k4.sq BA s3) B4
end
end KN


set_option Elab.async false
set_option linter.all false
set_option maxRecDepth 100000
set_option maxHeartbeats 4000000
/-! Own rule: isinstance of a caught error that has its dict. -/
namespace KN
open PySem PySem.Spec PyProof.Rows PySem.Calls L2
section
variable {prog : Program} {w : World} {A : Around} {Er : Value → Shared → Prop} {s : Shared} {K : PySem.W.Frag} {x D : Addr} {ox : Obj} {od : Option Obj}
theorem find_class (C : ExcC K D) : PySem.W.findObj K D od "__class__" = some (.bind (.builtin "getset_descriptor.__get__") (.builtin "object.__class__")) := by
  obtain ⟨cd, known, _⟩ := PySem.W.any_some C.hd
  unfold PySem.W.findObj
  rw [known, Option.bind_some, C.ha, Option.bind_some]
  simp [C.hn, C.ht]
theorem class_of {Qu : Option Value → Shared → Prop} (C : ExcC K D) (X : K.In s.heap) (I : PySem.W.InstAt s.heap x ox D od) (go : Qu (some (.ref D)) { s with toks := s.toks + 1 }) : wpAny (model prog w) A (getAttr? (.ref x) "__class__") Qu Er s := by
  have where_ := find_class (od := od) C
  obtain ⟨hp, gs, dr, tk, os⟩ := s
  have a0 := I.type (M := model prog w)
  have a1 := PySem.W.looks_findIn (M := model prog w) X C.hg
  have a2 := PySem.W.looks_findIn (M := model prog w) X C.hk
  have a3 := PySem.W.looks_find (M := model prog w) X I where_
  have exc : PySem.W.Looks (model prog w) hp (isInstance (.ref x) (.type "BaseException")) true := a0.andThen (PySem.W.looks_subIn X C.hs)
  have n2 : (Value.builtin "BaseException.__getattribute__" == Value.builtin "object.__getattribute__") = false := by decide +kernel
  have n1 : (onTheHeap (Value.ref D) && Value.builtin "BaseException.__getattribute__" == Value.builtin "object.__getattribute__") = false := by
    rw [n2, Bool.and_false]
  have n0 : (false && onTheHeap (Value.builtin "BaseException.__getattribute__")) = false := rfl
  unfold getAttr? getAttrBy? getAttrBy
  refine wpAny_bind (wpAny_mkText (wpAny_bind (wpAny_attempt (wpAny_holding (wpAny_bind (a0.at (wpAny_bind (a1.at (?_ : wpAny _ _ (if (onTheHeap (Value.ref D) && Value.builtin "BaseException.__getattribute__" == Value.builtin "object.__getattribute__") = true then _ else _) _ _ _)))))))))
  rw [n1, if_neg Bool.false_ne_true]
  unfold getAttrByItsOwn hookBefore; apply wpAny_bind
  have held : onTheHeap (Value.ref D) = true := rfl
  rw [if_pos held]
  refine a2.at (wpAny_bind (wpAny_attempt (wpAny_holding ?_)))
  unfold callGetattribute; rw [n0, if_neg Bool.false_ne_true]
  unfold boundAndCalled; rw [PySem.F.excAttr_ValueError.ga.bind (.ref x)]
  refine wpAny_bind (wpAny_pure (?_ : wpAny _ _ (call (.builtin "BaseException.__getattribute__") [.ref x, .str "__class__" tk]) _ _ _))
  apply wpAny_call
  apply codeAny_call_builtin PySem.F.excAttr_ValueError.ga.plain PySem.F.entry_bexc_ga
  apply @PySem.W.check_slot (model prog w) _ _ ⟨hp, gs, dr, tk + 1, os⟩ "BaseException.__getattribute__" "BaseException" "__getattribute__" (.ref x) [.str "__class__" tk] [] _ (by decide +kernel) (by decide +kernel) exc (PySem.F.args_bexc_ga (.ref x) (.str "__class__" tk))
  unfold Builtin.«object.__getattribute__»; apply wpAny_bind
  refine wpAny_of_eq (a := ((Value.ref x : Value), [Value.str "__class__" tk])) (by first | rfl | (simp only [slotArgs]; rfl)) ?_
  refine wpAny_bind (wpAny_pure (wpAny_bind (a0.at (wpAny_bind (a3.at (?_ : wpAny _ _ (holding [Value.builtin "object.__class__"] (call (.builtin "getset_descriptor.__get__") [.builtin "object.__class__", .ref x, .ref D]) >>= ret) _ _ _))))))
  refine wpAny_bind (wpAny_holding (wpAny_call (PySem.W.class_get (s := ⟨hp, gs, dr, tk + 1, os⟩) (ox := ox) (od := od) X I C.hm (wpAny_pure (?_ : wpAny _ _ (handedOut (.ref D)) _ _ _)))))
  rw [PySem.W.handedOut_of (v := .ref D) rfl]
  first
    | exact wpAny_pure (wpAny_pure go)
    | exact wpAny_pure go
    | exact wpAny_pure (wpAny_bind (wpAny_pure (wpAny_pure go)))
theorem kit_caught (C : ExcC K D) : PySem.W.KitX K (.ref x) (.ref D) (fun h => ∃ od, PySem.W.InstAt h x ox D od) where
  ca := fun X ⟨_, I⟩ go => class_of C X I go
  ty := fun _ _ _ ⟨_, I⟩ => I.type
  it := fun _ _ X _ => by
    obtain ⟨cd, known, _⟩ := PySem.W.any_some C.hd
    unfold PySem.W.clsIn at known
    split at known
    · rename_i o1 o2 o3 o4 look
      intro A' Q' E' s' k q
      unfold isType loadHead
      apply wpAny_bind
      exact wpAny_loadPart (k _ _ (X _ _ look)) (wpAny_pure q)
    · cases known
  ne := fun h tp dd its n sl X there => by
    obtain ⟨cd, known, _⟩ := PySem.W.any_some C.hd
    cases z : (Value.ref D == Value.ref tp) with
    | false => rfl
    | true =>
      obtain rfl : D = tp := Value.ref.inj (beq_iff_eq.mp z)
      unfold PySem.W.clsIn at known
      split at known
      · rename_i o1 o2 o3 o4 look
        have := (X _ _ look).symm.trans there
        cases this
      · cases known
end
theorem call_isD {X : Cx} {a D : Addr} {oe : Obj} {cls : Value} {d : Option Addr} {pn : List (Addr × Obj)} (C : ExcC X.K D) (hz : Zc cls d oe) (hf : ∃ vs, oe.data = .fields vs) :
    CallR (X.suite a ((a, oe) :: pn)) (.builtin "isinstance") (fun xs H Q => cls = .ref D ∧ (∃ dd fs, d = some dd ∧ H dd = some (.xd fs)) ∧ rIsE X.K D a xs H Q) := by
  intro pins s σ H xs us Q I r ⟨ec, ⟨dd, fs, ed, hdd⟩, c, cv, b, ex, hcv, e, q⟩
  subst ex ec
  obtain ⟨u1, u2, rfl, r1, r2⟩ : ∃ u1 u2, us = [u1, u2] ∧ RelV (.ref a) u1 ∧ RelV c u2 := by
    cases r with | cons r1 rr => cases rr with | cons r2 rr => cases rr; exact ⟨_, _, rfl, r1, r2⟩
  cases r1
  obtain rfl := hcv _ r2
  obtain ⟨at_, _⟩ := I.pin (a, oe) (List.mem_append.mpr (Or.inl List.mem_cons_self))
  obtain ⟨vs, hv⟩ := hf
  have okd : ObjOk X.prog X.w H s.heap dd (.xd fs) := I.hok dd _ hdd
  obtain ⟨mA, hns, _⟩ := okd
  obtain ⟨od, ho, _⟩ := lookIn_ns hns
  have J : PySem.W.InstAt s.heap a oe D (some od) := ⟨at_, hz.1, by unfold PySem.W.notCls; rw [hv] <;> rfl, by rw [hz.2, ed]; exact ho⟩
  exact PySem.W.kia_one (kit_caught C) I.kIn ⟨_, J⟩ e (fun z => nomatch z) fun tk => ⟨.bl b, H, I.kept (t' := tk) fun _ _ z => z, rfl, q⟩
end KN

set_option Elab.async false
set_option linter.all false
set_option maxRecDepth 100000
set_option maxHeartbeats 4000000
namespace KN
open PySem L2
/-- an own exception of one thing told, under its name -/
structure ExcOne (P : Program) (w : World) (K : PySem.W.Frag) (mg : Str → Option Value) (base : Heap) (k : Nat) (x f : Str) (C : Addr) : Prop where
  at_ : ExcAt P w K mg base k x C (spOne K f) []
  plain : PySem.W.findIn K (.ref C) f = some none
/-- what is let out: an exception of class C that holds y in f -/
def OutOne (H : Hp) (C : Addr) (f : Str) (y : V) (E : XK) : Prop := ∀ H' d, Same H H' → H' d = some (.xd [(f, y)]) → E (.ref C) (some d) H'
theorem out_one {H : Hp} {C a dx : Addr} {f : Str} {y : V} {E : XK} (o : OutOne H C f y E) (ha : H a = none) (hd : upd H a (exo a C none) dx = none) (ne : dx ≠ a) :
    ∃ (d : Addr) (fs : List (Str × V)), upd (upd (upd H a (exo a C none)) dx (exd dx [(f, y)])) a (exo a C (some dx)) a = some (exo a C (some d)) ∧ upd (upd (upd H a (exo a C none)) dx (exd dx [(f, y)])) a (exo a C (some dx)) d = some (exd d fs) ∧ H d = none ∧ E (.ref C) (some d) (upd (del (upd (upd (upd H a (exo a C none)) dx (exd dx [(f, y)])) a (exo a C (some dx))) a) d (.xd fs)) := by
  rw [upd_ne ne] at hd
  refine ⟨dx, [(f, y)], upd_same, by rw [upd_ne ne, upd_same], hd, o _ _ (fun b u e => ?_) upd_same⟩
  have nb : b ≠ a := ne_of_none e ha
  have nd : b ≠ dx := ne_of_none e hd
  rw [upd_ne nd, del_ne nb, upd_ne nb, upd_ne nd, upd_ne nb]
  exact e
theorem OutOne.to {H H' : Hp} {C : Addr} {f : Str} {y : V} {E : XK} (o : OutOne H C f y E) (s : Same H H') : OutOne H' C f y E := fun H2 d s2 h => o H2 d (s.trans s2) h
/-- an own exception's class as a clause and isinstance meet it -/
structure ExcMet (K : PySem.W.Frag) (C : Addr) (B : String) : Prop where
  xf : XfC K C
  isC : ExcC K C
  me : PySem.W.exmOne K (.ref C) (.ref C) = some true
  up : PySem.W.kitOne K (.ref C) (.type B) = some true
end KN

set_option Elab.async false
set_option linter.all false
set_option maxRecDepth 100000
set_option maxHeartbeats 4000000
namespace KN
open PySem L2
/-! A thing that may be no moment, a name that may not be told: how they are refused. -/
def momB : PyData → Bool
  | .tuple [a, b] => numB 0 1000000000000 a && numB 1 1000000000000 b
  | _ => false
theorem momB_not {ds : List PyData} (l : ds.length ≠ 2) : momB (.tuple ds) = false := by
  match ds, l with
  | [], _ => rfl
  | [_], _ => rfl
  | [_, _], l => exact absurd rfl l
  | _ :: _ :: _ :: _, _ => rfl
theorem momB_ok {m : Mo} (h : MoOk m) : momB (mD m) = true := by
  unfold MoOk at h
  have e : momB (mD m) = (decide ((0 : Int) ≤ m.1) && decide (m.1 ≤ 1000000000000) && (decide ((1 : Int) ≤ m.2) && decide (m.2 ≤ 1000000000000))) := rfl
  rw [e, decide_eq_true h.1, decide_eq_true (show m.1 ≤ 1000000000000 by omega), decide_eq_true h.2.2.1, decide_eq_true (show m.2 ≤ 1000000000000 by omega)]; rfl
theorem ob_mo {H : Hp} {a : Addr} {m : Mo} (h : H a = some (.tup [.int m.1, .int m.2])) : Ob H (.ref a) (mD m) := .tup h (.cons (.int _) (.cons (.int _) .nil))
def spMomB : Sp := fun vs H Q _ => ∃ (v : V) (d : PyData), vs = [v] ∧ Ob H v d ∧ Q (.bl (momB d)) H
/-- a new moment, or what is wrong with it -/
def spNewX (CB CS : Addr) : Sp := fun vs H Q E => ∃ (v : V) (d : Addr) (dd : PyData) (kvs : List (List Key × V)), vs = [v, .ref d] ∧ Ob H v dd ∧ H d = some (.dT kvs) ∧
  ((momB dd = false ∧ OutOne H CB "moment" v E) ∨ ∃ m, dd = mD m ∧ MoOk m ∧ ((valV kvs (mK m) = none ∧ Q .non H) ∨ ((valV kvs (mK m)).isSome = true ∧ OutOne H CS "moment" v E)))
/-- a name that is told up to u, or none -/
def spNameX (C CN : Addr) : Sp := fun vs H Q E => ∃ (b a : Addr) (v : V) (u : Option Mo) (rs : List Row) (m : Mo), vs = [.ref b, .ref a, v] ∧ BookAt C H b rs ∧ H a = some (.tup [.int m.1, .int m.2]) ∧ UpV H v u ∧
  ((∃ r ∈ rs, r.mo = m ∧ r.isNm = true ∧ upB r.mo u = true ∧ ∀ x, Tp H x r.d → Q x H) ∨ (¬ (m ∈ nms rs ∧ upB m u = true) ∧ OutOne H CN "moment" (.ref a) E))
def spRefuseX (C CN CL : Addr) : Sp := fun vs H Q E => ∃ (b am an : Addr) (m n : Mo) (rs : List Row), vs = [.ref b, .ref am, .ref an] ∧ BookAt C H b rs ∧ H am = some (.tup [.int m.1, .int m.2]) ∧ H an = some (.tup [.int n.1, .int n.2]) ∧
  ((n ∉ nms rs ∧ OutOne H CN "moment" (.ref an) E) ∨ (n ∈ nms rs ∧ mLt m n ∧ OutOne H CL "moment" (.ref an) E) ∨ (n ∈ nms rs ∧ ¬ mLt m n ∧ Q .non H))
section
variable {P : Program} {w : World} {K : PySem.W.Frag} {mg : Str → Option Value} {base : Heap} {C CB CS CN CL : Addr}
theorem ok_b_is_moment {f : Addr} {fd : FuncData} (F : Fun K "is_moment" "is_moment" s_is_moment f fd) (m_isinstance : mg "isinstance" = none) (m_tuple : mg "tuple" = none) (m_len : mg "len" = none)
    (g_MOST : ∃ u, mg "MOST" = some u ∧ RelV (.int 1000000000000) u) (c_is_number : C8.Cal P w K mg base 1 "is_number" (spNumber K) []) : FnOk P w K mg base CX0 2 f fd ["thing"] spMomB := by
  refine F.ok sc_is_moment (fun vs H Q E h => ?_) (fun cdv A outer s H vs Q E hr h => ?_)
  · obtain ⟨v, d, rfl, _⟩ := h; rfl
  · obtain ⟨v, d, rfl, ob, k⟩ := h
    refine ⟨_, (pss_cons (ps_if (PW.pt (pw_or (pt_not (pt_val (pe_callB call_isi (by rfl) m_isinstance (by decide +kernel) (pa_cons (pv 0) (pa_cons (pe_bltn (v := .ty "tuple") (u := .type "tuple") rfl m_tuple (by decide +kernel) rfl) pa_nil))))) (pw_or1 (pt_cmpR op_ne (pe_callB call_len_seq (by rfl) m_len (by decide +kernel) (pa_cons (pv 0) pa_nil)) pe_int (nomark _))))) (pss_one (ps_ret pe_bl)) pss_nil)
      (pss_one (ps_ret (pe_and (C8.pe_c c_is_number hr (by decide) rfl (pa_cons (pe_ix ix_tup (pv 0) pe_int (fun _ _ => rfl)) (pa_cons pe_int (pa_cons (C8.pe_gc rfl g_MOST) pa_nil)))) (pe_one (C8.pe_c c_is_number hr (by decide) rfl (pa_cons (pe_ix ix_tup (pv 0) pe_int (fun _ _ => rfl)) (pa_cons pe_int (pa_cons (C8.pe_gc rfl g_MOST) pa_nil))))))))), ?_⟩
    obtain ⟨t, S⟩ := ob.sort (K := K)
    refine ⟨_, rfl, _, _, _, _, _, rfl, .ty _, S.ty, S.tp, _, rfl, ?_⟩
    cases et : isTp d with
    | false =>
      have e : momB d = false := by cases d <;> first | rfl | cases et
      refine iteT (iteT ?_)
      rw [← e]; exact k
    | true =>
      obtain ⟨a, xs, ds, rfl, rfl, ha, hs⟩ := ob.of_tp et
      refine iteF ?_
      refine ⟨_, rfl, _, _, rfl, .inr (SqT.of ha), rfl, _, rfl, ?_⟩
      by_cases h2 : xs.length = 2
      · obtain ⟨x, y, d1, d2, rfl, rfl, o1, o2⟩ := two_of hs h2
        refine iteF ?_
        refine ⟨_, rfl, _, _, _, _, rfl, rfl, SqT.of ha, at_of (j := 0) rfl rfl, ?_⟩
        dsimp only [tCons, tC, tNil, List.append_nil]
        refine number_of o1 ?_
        refine ⟨_, rfl, ?_⟩
        cases en : numB 0 1000000000000 d1 with
        | false =>
          refine iteF ?_
          have e : momB (.tuple [d1, d2]) = false := by show (numB 0 1000000000000 d1 && numB 1 1000000000000 d2) = false; rw [en]; rfl
          rw [← e]; exact k
        | true =>
          refine iteT ?_
          refine ⟨_, rfl, _, _, _, _, rfl, rfl, SqT.of ha, at_of (j := 1) rfl rfl, ?_⟩
          dsimp only [tCons, tC, tNil, List.append_nil]
          refine number_of o2 ?_
          have e : momB (.tuple [d1, d2]) = numB 1 1000000000000 d2 := by show (numB 0 1000000000000 d1 && numB 1 1000000000000 d2) = _; rw [en]; rfl
          rw [← e]; exact k
      · have e0 : decide (V.int (xs.length : Int) = V.int 2) = false := decide_eq_false fun z => by injection z with z; omega
        rw [show decide (V.int (xs.length : Int) = V.int 2) = false from e0]
        refine iteT ?_
        have e : momB (.tuple ds) = false := momB_not (by rw [← hs.len]; exact h2)
        rw [← e]; exact k
theorem ok_x_refuse_new {f : Addr} {fd : FuncData} (F : Fun K "refuse_new" "refuse_new" s_refuse_new f fd) (c_is_moment : C8.Cal P w K mg base 2 "is_moment" spMomB []) (c_BadMoment : ExcOne P w K mg base 1 "BadMoment" "moment" CB) (c_SameMoment : ExcOne P w K mg base 1 "SameMoment" "moment" CS) : FnOk P w K mg base (L2.CX P w) 3 f fd ["moment", "entries"] (spNewX CB CS) := by
  refine F.okX sc_refuse_new (fun vs H Q E h => ?_) (fun cdv A outer s H vs Q E hr h => ?_)
  · obtain ⟨v, d, dd, kvs, rfl, _⟩ := h; rfl
  · obtain ⟨v, d, dd, kvs, rfl, ob, hd, k⟩ := h
    have hu := hu_of hr
    refine ⟨_, (pss_cons (ps_if (pt_not (pt_val (C8.pe_c c_is_moment hr (by decide) rfl (pa_cons (pv 0) pa_nil)))) (pss_one (ps_raiseG rfl (takes_of rfl rfl rfl rfl) c_BadMoment.at_ hr (by decide) rfl (pa_cons (pv 0) pa_nil))) pss_nil)
      (pss_one (ps_if (pt_cmp (pc_din hu (pv 0) (pv 1))) (pss_one (ps_raiseG rfl (takes_of rfl rfl rfl rfl) c_SameMoment.at_ hr (by decide) rfl (pa_cons (pv 0) pa_nil))) pss_nil))), ?_⟩
    refine ⟨_, rfl, v, dd, rfl, ob, _, rfl, ?_⟩
    rcases k with ⟨hb, o⟩ | ⟨m, rfl, hm, k⟩
    · rw [hb]
      refine iteT ⟨_, rfl, by show 1 ≤ 1000; decide, fun x hx => ?_⟩
      refine ⟨x, CB, _, rfl, upd_same, c_BadMoment.at_.cls, c_BadMoment.plain, fun dx h1 h2 => ⟨rfl, ?_⟩⟩
      exact out_one o hx h1 h2
    · rw [momB_ok hm]
      refine iteF ?_
      obtain ⟨a, rfl, ha⟩ : ∃ a, v = .ref a ∧ H a = some (.tup [.int m.1, .int m.2]) := by
        unfold mD at ob
        cases ob with
        | tup e r =>
          obtain ⟨x, y, d1, d2, rfl, e2, o1, o2⟩ := two_of r (by rw [r.len]; rfl)
          injection e2 with e3 e4
          injection e4 with e4 _
          subst e3 e4
          cases o1
          cases o2
          exact ⟨_, rfl, e⟩
      refine ⟨_, rfl, _, rfl, d, _, rfl, DGet.m hd ha, _, rfl, ?_⟩
      rcases k with ⟨hn, k⟩ | ⟨hn, o⟩
      · rw [hn]; exact iteF k
      · rw [hn]
        refine iteT ⟨_, rfl, by show 1 ≤ 1000; decide, fun x hx => ?_⟩
        refine ⟨x, CS, _, rfl, upd_same, c_SameMoment.at_.cls, c_SameMoment.plain, fun dx h1 h2 => ⟨rfl, ?_⟩⟩
        exact out_one o hx h1 h2
theorem ok_x_Book_name {f : Addr} {fd : FuncData} (F : FunD K "_name" "Book._name" (defArgs s_Book__name) (defBody s_Book__name) (defScope s_Book__name) [] [("upto", V.non)] f fd) (T : BkT K C) (c_is_moment : C8.Cal P w K mg base 2 "is_moment" spMomB []) (c_is_there : C8.Cal P w K mg base 1 "is_there" spThere []) (c_NoName : ExcOne P w K mg base 1 "NoName" "moment" CN) : FnOk P w K mg base (L2.CX P w) 3 f fd ["self", "name", "upto"] (spNameX C CN) := by
  refine F.ok sc_Book__name (fun vs H Q E h => ?_) (fun cdv A outer s H vs Q E hr h => ?_)
  · obtain ⟨b, a, v, u, rs, m, rfl, _⟩ := h; rfl
  · obtain ⟨b, a, v, u, rs, m, rfl, ⟨dx, e, n, kvs, nkv, B⟩, ha, hv, k⟩ := h
    have hu := hu_of hr
    refine ⟨_, (pss_cons (ps_if (PW.pt (pw_or (pt_not (pt_val (C8.pe_c c_is_moment hr (by decide) rfl (pa_cons (pv 1) pa_nil)))) (pw_or (pt_cmp (pc_dnotin hu (pv 1) (pe_fld (pv 0) rfl))) (pw_or1 (pt_not (pt_val (C8.pe_c c_is_there hr (by decide) rfl (pa_cons (pv 1) (pa_cons (pv 2) pa_nil))))))))) (pss_one (ps_raiseG rfl (takes_of rfl rfl rfl rfl) c_NoName.at_ hr (by decide) rfl (pa_cons (pv 1) pa_nil))) pss_nil)
      (pss_one (ps_ret (pe_dget hu (pe_fld (pv 0) rfl) (pv 1) (fun _ _ => rfl))))), ?_⟩
    refine ⟨_, rfl, .ref a, mD m, rfl, ob_mo ha, _, rfl, ?_⟩
    rcases k with ⟨r, hr', rfl, hnm, hup, k⟩ | ⟨hno, o⟩
    · rw [momB_ok (B.ok r hr')]
      refine iteF ?_
      have hin : r.mo ∈ nms rs := List.mem_map.mpr ⟨r, List.mem_filter.mpr ⟨hr', hnm⟩, rfl⟩
      obtain ⟨u0, h1, _⟩ := B.nr.get hin
      refine ⟨_, rfl, _, rfl, b, C, dx, _, _, rfl, B.ob, T.cl, T.nN, bf_n _ _, n, _, rfl, DGet.m B.nb ha, _, rfl, ?_⟩
      rw [h1]
      refine iteF ?_
      refine ⟨_, rfl, _, rfl, a, r.mo, v, u, rfl, ha, hv, ?_⟩
      rw [hup]
      refine ⟨_, rfl, iteF ?_⟩
      obtain ⟨x, hx, tx⟩ := B.er.get B.md hr'
      have g : DGet H e (.ref a) (some x) := by have := DGet.m B.en ha; rw [hx] at this; exact this
      exact ⟨_, rfl, b, C, dx, _, _, rfl, B.ob, T.cl, T.nE, bf_e _ _, _, rfl, e, x, rfl, g, k x tx⟩
    · cases hb : momB (mD m) with
      | false =>
        refine iteT (iteT ⟨_, rfl, by show 1 ≤ 1000; decide, fun x hx => ?_⟩)
        exact ⟨x, CN, _, rfl, upd_same, c_NoName.at_.cls, c_NoName.plain, fun dx h1 h2 => ⟨rfl, out_one o hx h1 h2⟩⟩
      | true =>
        refine iteF ?_
        refine ⟨_, rfl, _, rfl, b, C, dx, _, _, rfl, B.ob, T.cl, T.nN, bf_n _ _, n, _, rfl, DGet.m B.nb ha, _, rfl, ?_⟩
        by_cases hin : m ∈ nms rs
        · obtain ⟨u0, h1, _⟩ := B.nr.get hin
          rw [h1]
          refine iteF ?_
          refine ⟨_, rfl, _, rfl, a, m, v, u, rfl, ha, hv, ?_⟩
          rw [show upB m u = false from Bool.not_eq_true _ ▸ fun z => hno ⟨hin, z⟩]
          refine ⟨_, rfl, iteT ⟨_, rfl, by show 1 ≤ 1000; decide, fun x hx => ?_⟩⟩
          exact ⟨x, CN, _, rfl, upd_same, c_NoName.at_.cls, c_NoName.plain, fun dx h1 h2 => ⟨rfl, out_one o hx h1 h2⟩⟩
        · rw [B.nr.none hin]
          refine iteT (iteT ⟨_, rfl, by show 1 ≤ 1000; decide, fun x hx => ?_⟩)
          exact ⟨x, CN, _, rfl, upd_same, c_NoName.at_.cls, c_NoName.plain, fun dx h1 h2 => ⟨rfl, out_one o hx h1 h2⟩⟩
theorem ok_x_Book_refuse_named {f : Addr} {fd : FuncData} (F : Fun K "_refuse_named" "Book._refuse_named" s_Book__refuse_named f fd) (c_Book__name : MetX P w K mg base 3 C "_name" (spNameX C CN) [.non]) (c_Later : ExcOne P w K mg base 1 "Later" "moment" CL) : FnOk P w K mg base (L2.CX P w) 4 f fd ["self", "moment", "name"] (spRefuseX C CN CL) := by
  refine F.okX sc_Book__refuse_named (fun vs H Q E h => ?_) (fun cdv A outer s H vs Q E hr h => ?_)
  · obtain ⟨b, am, an, m, n, rs, rfl, _⟩ := h; rfl
  · obtain ⟨b, am, an, m, n, rs, rfl, BA, ham, han, k⟩ := h
    refine ⟨_, (pss_cons (ps_expr (pe_mtX c_Book__name (takes_of rfl rfl rfl rfl) hr (by decide) (pv 0) (pa_cons (pv 2) pa_nil)))
      (pss_one (ps_if (pt_cmpR (op_gtM hr.units0) (pv 2) (pv 1) (nomark _)) (pss_one (ps_raiseG rfl (takes_of rfl rfl rfl rfl) c_Later.at_ hr (by decide) rfl (pa_cons (pv 2) pa_nil))) pss_nil))), ?_⟩
    obtain ⟨dx, e, nn, kvs, nkv, B⟩ := id BA
    refine ⟨_, rfl, b, dx, _, rfl, B.ob, bf_no _ _ (by decide +kernel) (by decide +kernel), _, rfl, b, an, .non, none, rs, n, rfl, BA, han, rfl, ?_⟩
    have go : n ∈ nms rs → ∃ r ∈ rs, r.mo = n ∧ r.isNm = true ∧ upB r.mo none = true := fun h => by
      obtain ⟨rk, ws, ss, l, hrow⟩ := nms_row h
      exact ⟨_, hrow, rfl, rfl, rfl⟩
    rcases k with ⟨hn, o⟩ | ⟨hn, hl, o⟩ | ⟨hn, hl, k⟩
    · exact .inr ⟨fun z => hn z.1, o⟩
    · obtain ⟨r, h1, h2, h3, h4⟩ := go hn
      refine .inl ⟨r, h1, h2, h3, h4, fun x tx => ?_⟩
      refine ⟨_, rfl, _, rfl, an, am, n, m, rfl, rfl, SqT.of han, SqT.of ham, _, rfl, ?_⟩
      rw [show ∀ i : Decidable (mLt m n), @decide (mLt m n) i = true from fun i => @decide_eq_true _ i hl]
      refine iteT ⟨_, rfl, by show 1 ≤ 1000; decide, fun x hx => ?_⟩
      exact ⟨x, CL, _, rfl, upd_same, c_Later.at_.cls, c_Later.plain, fun dx h1 h2 => ⟨rfl, out_one o hx h1 h2⟩⟩
    · obtain ⟨r, h1, h2, h3, h4⟩ := go hn
      refine .inl ⟨r, h1, h2, h3, h4, fun x tx => ?_⟩
      refine ⟨_, rfl, _, rfl, an, am, n, m, rfl, rfl, SqT.of han, SqT.of ham, _, rfl, ?_⟩
      rw [show ∀ i : Decidable (mLt m n), @decide (mLt m n) i = false from fun i => @decide_eq_false _ i hl]
      exact iteF k
end
end KN


set_option Elab.async false
set_option linter.all false
set_option maxRecDepth 100000
set_option maxHeartbeats 2000000
/-! Own rule: a method called with keywords that may raise. -/
namespace KN
open PySem PySem.Spec PyProof.Rows L2
structure MetKX (P : Program) (w : World) (K : PySem.W.Frag) (mg : Str → Option Value) (base : Heap) (k : Nat) (C : Addr) (m : Str) (sp : Sp) (n : Nat) (ks : List Str) (gV : List V → List V → List V) : Prop where
  ex : ∃ (f : Addr) (fd : FuncData) (ps : List Str) (g : List Value → List Value → List Value), Cls K C ∧ Meth K C m f ∧ FnOk P w K mg base (L2.CX P w) k f fd ps sp ∧ KBn K fd ps n ks g gV
theorem pe_mtKX {X : Cx} {E0 : XK} {k j : Nat} {C : Addr} {m : Str} {sp : Sp} {pos apos : Pos} {o e : Expr} {es : List Expr} {kws : List Keyword} {ta : TE} {t tk : TA} {pl : Sem Bool} {n : Nat} {ks : List Str} {gV : List V → List V → List V} (c : MetKX X.prog X.w X.K X.mg X.base k C m sp n ks gV) (tx : Takes X fun cl d _ H => E0 cl d H) (hr : Room j X.A) (hk : k ≤ j) (he : PE X o ta) (ha : PA X (e :: es) t) (hkw : PK X kws tk)
    (hall : (backToKw pos (keywordEach kws X.env)).all (·.1.isSome) = true := by rfl) (hks : (backToKw pos (keywordEach kws X.env)).filterMap (·.1) = ks := by rfl)
    (hst : starEach (e :: es) X.env = (false, eval e X.env) :: starEach es X.env := by rfl)
    (hpl : ((backTo pos (starEach (e :: es) X.env)).any (·.1) || (backToKw pos (keywordEach kws X.env)).any (·.1.isNone)) = false := by rfl)
    (ht : eval (.Call (.Attribute o m apos) (e :: es) kws pos) X.env = (do
      let ov ← eval o X.env
      standAt apos.atName
      let (f, first) ← holding [ov] (getMethod ov m pl)
      callWith pos f first (backTo pos (starEach (e :: es) X.env)) (backToKw pos (keywordEach kws X.env))) := by rfl) :
    PE X (.Call (.Attribute o m apos) (e :: es) kws pos) (tMethK C m n ks.length sp gV E0 ta t tk) := by
  obtain ⟨f, fd, ps, g, cl, hm, F, hb⟩ := c.ex
  refine ⟨fun pins s σ H Q I h => ?_⟩
  refine PySem.W.methodCall_KW (pl := pl) (thn (he.run pins s σ H _ I h) fun u s1 ⟨x, H1, I1, rx, a, dx, fs, ex, ea, l, q⟩ => ?_) ht
  subst ex
  obtain rfl : u = Value.ref a := rx
  refine getmeth_ok I1 ea cl hm l ?_
  refine PySem.W.callWith_KW (first := [.ref a]) (h₀ := X.base) I.ok.mod.kin hm.kp hall (thn (ha.run pos pins s1 σ H1 _ I1 q) fun us s2 ⟨vs, H2, I2, r, q2⟩ => ?_) hpl hst
  refine thn (hkw.run pos pins s2 σ H2 _ I2 q2) fun ws s3 ⟨zs, H3, I3, rz, l1, l2, q3⟩ => ⟨I3.kIn, ?_⟩
  rw [hks]
  exact run_fnN (us := .ref a :: us) (vs := .ref a :: vs) F (hr.mono hk) hb (passes_call tx fun _ _ _ _ z => z) I3 (.cons rfl r) rz l1 l2 q3
end KN

set_option Elab.async false
set_option linter.all false
set_option maxRecDepth 100000
set_option maxHeartbeats 4000000
namespace KN
open PySem L2
/-! A choice, a strike, an ahead: told, or refused. -/
theorem ob_mD {H : Hp} {v : V} {m : Mo} (ob : Ob H v (mD m)) : ∃ a, v = .ref a ∧ H a = some (.tup [.int m.1, .int m.2]) := by
  unfold mD at ob
  cases ob with
  | tup e r =>
    obtain ⟨x, y, d1, d2, rfl, e2, o1, o2⟩ := two_of r (by rw [r.len]; rfl)
    injection e2 with e3 e4
    injection e4 with e4 _
    subst e3 e4
    cases o1
    cases o2
    exact ⟨_, rfl, e⟩
/-- the moment's part: bad, one that stands, or new -/
def PreX (CB CS : Addr) (H : Hp) (v : V) (dd : PyData) (rs : List Row) (E : XK) (k : Mo → Prop) : Prop :=
  (momB dd = false ∧ OutOne H CB "moment" v E) ∨ ∃ m, dd = mD m ∧ MoOk m ∧ ((m ∈ rs.map Row.mo ∧ OutOne H CS "moment" v E) ∨ (m ∉ rs.map Row.mo ∧ k m))
/-- a name's part: none, a later one, or an elder -/
def NmX (CN CL : Addr) (H : Hp) (an : Addr) (m n : Mo) (rs : List Row) (E : XK) (k : Prop) : Prop :=
  (n ∉ nms rs ∧ OutOne H CN "moment" (.ref an) E) ∨ (n ∈ nms rs ∧ mLt m n ∧ OutOne H CL "moment" (.ref an) E) ∨ (n ∈ nms rs ∧ ¬ mLt m n ∧ k)
theorem NmX.go {C CN CL : Addr} {H : Hp} {b am an : Addr} {m n : Mo} {rs : List Row} {E : XK} {k : Prop} {Q : VK} (h : NmX CN CL H an m n rs E k) (BA : BookAt C H b rs) (ham : H am = some (.tup [.int m.1, .int m.2])) (han : H an = some (.tup [.int n.1, .int n.2])) (go : n ∈ nms rs → ¬ mLt m n → k → Q .non H) : spRefuseX C CN CL [.ref b, .ref am, .ref an] H Q E := by
  refine ⟨b, am, an, m, n, rs, rfl, BA, ham, han, ?_⟩
  rcases h with h | ⟨h1, h2, h3⟩ | ⟨h1, h2, h3⟩
  · exact .inl h
  · exact .inr (.inl ⟨h1, h2, h3⟩)
  · exact .inr (.inr ⟨h1, h2, go h1 h2 h3⟩)
theorem PreX.go {C CB CS : Addr} {H : Hp} {v : V} {e b dx nn : Addr} {dd : PyData} {rs : List Row} {kvs nkv : List (List Key × V)} {E : XK} {k : Mo → Prop} {Q : VK} (h : PreX CB CS H v dd rs E k) (ob : Ob H v dd) (B : BookI C H b dx e nn kvs nkv rs) (go : ∀ m, dd = mD m → MoOk m → m ∉ rs.map Row.mo → k m → Q .non H) : spNewX CB CS [v, .ref e] H Q E := by
  refine ⟨v, e, dd, kvs, rfl, ob, B.en, ?_⟩
  rcases h with ⟨h1, h2⟩ | ⟨m, rfl, hm, ⟨h1, h2⟩ | ⟨h1, h2⟩⟩
  · exact .inl ⟨h1, h2⟩
  · refine .inr ⟨m, rfl, hm, .inr ⟨?_, h2⟩⟩
    obtain ⟨r, hr, rfl⟩ := List.mem_map.mp h1
    obtain ⟨x, hx, _⟩ := B.er.get B.md hr
    rw [hx]; rfl
  · exact .inr ⟨m, rfl, hm, .inl ⟨B.er.none h1, go m rfl hm h1 h2⟩⟩
def spStrikeX (C CB CS CN CL : Addr) : Sp := fun vs H Q E => ∃ (b an : Addr) (v : V) (dd : PyData) (n : Mo) (wh : Bool) (rs : List Row), vs = [.ref b, v, .ref an, .bl wh] ∧ BookAt C H b rs ∧ Ob H v dd ∧ H an = some (.tup [.int n.1, .int n.2]) ∧ rs.length ≤ 60 ∧
  PreX CB CS H v dd rs E fun m => NmX CN CL H an m n rs E (∀ H', KD b H H' → BookAt C H' b (rs ++ [.st m n wh]) → Q .non H')
def spChooseX (C CB CS CN CL CU CZ : Addr) : Sp := fun vs H Q E => ∃ (b an : Addr) (v : V) (dd : PyData) (n : Mo) (z : Str) (rs : List Row), vs = [.ref b, v, .ref an, .str z] ∧ BookAt C H b rs ∧ Ob H v dd ∧ H an = some (.tup [.int n.1, .int n.2]) ∧ rs.length ≤ 60 ∧
  PreX CB CS H v dd rs E fun m => NmX CN CL H an m n rs E (∃ rk ws ss lk, Row.nm n rk ws ss lk ∈ rs ∧ ((ss = [] ∧ OutOne H CU "moment" (.ref an) E) ∨ (ss ≠ [] ∧ z ∉ ss ∧ OutOne H CZ "sheet" (.str z) E) ∨ (z ∈ ss ∧ ∀ H', KD b H H' → BookAt C H' b (rs ++ [.ch m n z]) → Q .non H')))
def spAheadX (C CB CS CN CL CU : Addr) : Sp := fun vs H Q E => ∃ (b an ao : Addr) (v : V) (dd : PyData) (n o : Mo) (rs : List Row), vs = [.ref b, v, .ref an, .ref ao] ∧ BookAt C H b rs ∧ Ob H v dd ∧ H an = some (.tup [.int n.1, .int n.2]) ∧ H ao = some (.tup [.int o.1, .int o.2]) ∧ rs.length ≤ 60 ∧
  PreX CB CS H v dd rs E fun m => NmX CN CL H an m n rs E (NmX CN CL H ao m o rs E (∃ rk ws ss lk rk' ws' ss' lk', Row.nm n rk ws ss lk ∈ rs ∧ Row.nm o rk' ws' ss' lk' ∈ rs ∧ (((n = o ∨ rk ≠ rk') ∧ OutOne H CU "moment" (.ref ao) E) ∨ (n ≠ o ∧ rk = rk' ∧ ∀ H', KD b H H' → BookAt C H' b (rs ++ [.ah m n o]) → Q .non H'))))
section
variable {P : Program} {w : World} {K : PySem.W.Frag} {mg : Str → Option Value} {base : Heap} {C CB CS CN CL CU CZ : Addr}
theorem ok_x_Book_strike {f : Addr} {fd : FuncData} {kws : List (Str × V)} (F : FunD K "strike" "Book.strike" (defArgs s_Book_strike) (defBody s_Book_strike) (defScope s_Book_strike) [] kws f fd) (T : BkT K C) (m_bool : mg "bool" = none)
    (c_refuse_new : CalX P w K mg base 3 "refuse_new" (spNewX CB CS) []) (c_Book__refuse_named : MetX P w K mg base 4 C "_refuse_named" (spRefuseX C CN CL) []) (c_Book__keep : C8.Met P w K mg base 2 C "_keep" (spKeep C) []) : FnOk P w K mg base (L2.CX P w) 5 f fd ["self", "moment", "name", "whole"] (spStrikeX C CB CS CN CL) := by
  refine F.ok sc_Book_strike (fun vs H Q E h => ?_) (fun cdv A outer s H vs Q E hr h => ?_)
  · obtain ⟨b, an, v, dd, n, wh, rs, rfl, _⟩ := h; rfl
  · obtain ⟨b, an, v, dd, n, wh, rs, rfl, BA, ob, han, h60, k⟩ := h
    refine ⟨_, (pss_cons (ps_expr (pe_cX c_refuse_new (takes_of rfl rfl rfl rfl) hr (by decide) rfl (pa_cons (pv 1) (pa_cons (pe_fld (pv 0) rfl) pa_nil))))
      (pss_cons (ps_expr (pe_mtX c_Book__refuse_named (takes_of rfl rfl rfl rfl) hr (by decide) (pv 0) (pa_cons (pv 1) (pa_cons (pv 2) pa_nil))))
      (pss_one (ps_expr (C8.pe_mt c_Book__keep hr (by decide) (pv 0) (pa_cons (pe_tup (pa_cons pe_str (pa_cons (pv 1) (pa_cons (pv 2) (pa_cons (pe_callTy call_bool1 (by rfl) m_bool (by decide +kernel) (pa_cons (pv 3) pa_nil)) pa_nil))))) pa_nil)))))), ?_⟩
    obtain ⟨dx, e, nn, kvs, nkv, B⟩ := id BA
    have x1 := bf_no e nn (m := "_refuse_named") (by decide +kernel) (by decide +kernel)
    have x3 := bf_no e nn (m := "_keep") (by decide +kernel) (by decide +kernel)
    refine ⟨_, rfl, _, rfl, b, C, dx, _, _, rfl, B.ob, T.cl, T.nE, bf_e _ _, ?_⟩
    dsimp only [tNil, List.append_nil]
    refine PreX.go k ob B fun m em hmo hm k2 => ?_
    subst em
    obtain ⟨am, rfl, ham⟩ := ob_mD ob
    refine ⟨_, rfl, b, dx, _, rfl, B.ob, x1, _, rfl, _, rfl, ?_⟩
    dsimp only [tNil, List.append_nil]
    refine NmX.go k2 BA ham han fun hn hln k3 => ?_
    refine ⟨_, rfl, b, dx, _, rfl, B.ob, x3, _, rfl, _, rfl, _, rfl, .inr ⟨wh, rfl, ?_⟩⟩
    refine ⟨by show 4 ≤ sizeLine; decide, fun t ht => ?_⟩
    have s3 : Same H (upd H t (.tup [.str "strike", .ref am, .ref an, .bl wh])) := Same.new ht
    refine ⟨b, .ref t, .st m n wh, rs, rfl, BA.keep (KB.of s3), .tup upd_same (.cons (.str _) (.cons (Tp.mo (s3 _ _ ham)) (.cons (Tp.mo (s3 _ _ han)) (.cons (.bl _) .nil)))), hm, hmo, fun x hx => ?_, ?_, h60, fun H4 k4 B4 => ?_⟩
    · have hx' : x ∈ [n] := hx
      rw [List.mem_singleton] at hx'; subst hx'; exact hn
    · show ([n] : List Mo).Nodup
      simp
    · exact k3 H4 (k4.sq BA s3) B4
theorem ok_x_Book_choose {f : Addr} {fd : FuncData} (F : Fun K "choose" "Book.choose" s_Book_choose f fd) (T : BkT K C) (c_refuse_new : CalX P w K mg base 3 "refuse_new" (spNewX CB CS) []) (c_Book__refuse_named : MetX P w K mg base 4 C "_refuse_named" (spRefuseX C CN CL) [])
    (c_Book__name : C8.Met P w K mg base 3 C "_name" (spName C) [.non]) (c_Book__keep : C8.Met P w K mg base 2 C "_keep" (spKeep C) []) (c_Unfit : ExcOne P w K mg base 1 "Unfit" "moment" CU) (c_NoSheet : ExcOne P w K mg base 1 "NoSheet" "sheet" CZ) : FnOk P w K mg base (L2.CX P w) 5 f fd ["self", "moment", "name", "sheet"] (spChooseX C CB CS CN CL CU CZ) := by
  refine F.okX sc_Book_choose (fun vs H Q E h => ?_) (fun cdv A outer s H vs Q E hr h => ?_)
  · obtain ⟨b, an, v, dd, n, z, rs, rfl, _⟩ := h; rfl
  · obtain ⟨b, an, v, dd, n, z, rs, rfl, BA, ob, han, h60, k⟩ := h
    refine ⟨_, (pss_cons (ps_expr (pe_cX c_refuse_new (takes_of rfl rfl rfl rfl) hr (by decide) rfl (pa_cons (pv 1) (pa_cons (pe_fld (pv 0) rfl) pa_nil))))
      (pss_cons (ps_expr (pe_mtX c_Book__refuse_named (takes_of rfl rfl rfl rfl) hr (by decide) (pv 0) (pa_cons (pv 1) (pa_cons (pv 2) pa_nil))))
      (pss_cons (ps_set (i := 4) sc_Book_choose.nd rfl (Or.inl rfl) (pe_ix ix_tup (C8.pe_mt c_Book__name hr (by decide) (pv 0) (pa_cons (pv 2) pa_nil)) pe_int (fun _ _ => rfl)))
      (pss_cons (ps_if (pt_not (pt_truth (pv 4) (by intro _; rfl))) (pss_one (ps_raiseG rfl (takes_of rfl rfl rfl rfl) c_Unfit.at_ hr (by decide) rfl (pa_cons (pv 2) pa_nil))) pss_nil)
      (pss_cons (ps_if (pt_cmpR op_notIn_seq (pv 3) (pv 4) rfl) (pss_one (ps_raiseG rfl (takes_of rfl rfl rfl rfl) c_NoSheet.at_ hr (by decide) rfl (pa_cons (pv 3) pa_nil))) pss_nil)
      (pss_one (ps_expr (C8.pe_mt c_Book__keep hr (by decide) (pv 0) (pa_cons (pe_tup (pa_cons pe_str (pa_cons (pv 1) (pa_cons (pv 2) (pa_cons (pv 3) pa_nil))))) pa_nil))))))))), ?_⟩
    obtain ⟨dx, e, nn, kvs, nkv, B⟩ := id BA
    have x1 := bf_no e nn (m := "_refuse_named") (by decide +kernel) (by decide +kernel)
    have x2 := bf_no e nn (m := "_name") (by decide +kernel) (by decide +kernel)
    have x3 := bf_no e nn (m := "_keep") (by decide +kernel) (by decide +kernel)
    refine ⟨_, rfl, _, rfl, b, C, dx, _, _, rfl, B.ob, T.cl, T.nE, bf_e _ _, ?_⟩
    dsimp only [tNil, List.append_nil]
    refine PreX.go k ob B fun m em hmo hm k2 => ?_
    subst em
    obtain ⟨am, rfl, ham⟩ := ob_mD ob
    refine ⟨_, rfl, b, dx, _, rfl, B.ob, x1, _, rfl, _, rfl, ?_⟩
    dsimp only [tNil, List.append_nil]
    refine NmX.go k2 BA ham han fun hn hln k3 => ?_
    obtain ⟨rk, ws, ss, lk, hrow, k3⟩ := k3
    refine ⟨_, rfl, b, dx, _, rfl, B.ob, x2, _, rfl, b, an, .non, none, rs, Row.nm n rk ws ss lk, rfl, BA, han, rfl, hrow, rfl, rfl, fun x tx => ?_⟩
    obtain ⟨t0, xs, rfl, ht0, rx⟩ := Tp.inv tx
    obtain ⟨v4, a4, t4⟩ := Tp.at (K := K) (i := 4) (d := .tuple (ss.map PyData.str)) ht0 rx rfl
    obtain ⟨sa, ys, rfl, hsa, rys⟩ := Tp.inv (id t4)
    refine ⟨t0, _, _, _, rfl, rfl, SqT.of ht0, a4, ?_⟩
    obtain rfl : ys = ss.map V.str := TpAll.of_strs rys
    refine ⟨_, rfl, _, .inr (.inl ⟨_, SqT.of hsa, rfl⟩), ?_⟩
    rcases k3 with ⟨hs, o⟩ | ⟨hs, hz, o⟩ | ⟨hz, k3⟩
    · rw [hs]
      refine iteT ⟨_, rfl, by show 1 ≤ 1000; decide, fun x hx => ?_⟩
      exact ⟨x, CU, _, rfl, upd_same, c_Unfit.at_.cls, c_Unfit.plain, fun dx h1 h2 => ⟨rfl, out_one o hx h1 h2⟩⟩
    · have ne : (ss.map V.str).isEmpty = false := by cases ss with | nil => exact absurd rfl hs | cons _ _ => rfl
      rw [ne]
      refine iteF ?_
      have inv : inV (.str z) (ss.map V.str) = false := by
        rw [← Bool.not_eq_true]
        intro h
        obtain ⟨y, hy, e⟩ := List.any_eq_true.mp h
        obtain ⟨q, hq, rfl⟩ := List.mem_map.mp hy
        have e' : q = z := by
          first
            | exact (beq_iff_eq.mp (show (z == q) = true from e)).symm
            | exact beq_iff_eq.mp (show (q == z) = true from e)
        exact hz (e' ▸ hq)
      refine ⟨_, rfl, _, rfl, sa, _, rfl, .inr (SqT.of hsa), rfl, flat_strs ss, _, rfl, ?_⟩
      rw [inv]
      refine iteT ⟨_, rfl, by show 1 ≤ 1000; decide, fun x hx => ?_⟩
      exact ⟨x, CZ, _, rfl, upd_same, c_NoSheet.at_.cls, c_NoSheet.plain, fun dx h1 h2 => ⟨rfl, out_one o hx h1 h2⟩⟩
    · have hpos : 0 < ss.length := List.length_pos_of_mem hz
      have ne : (ss.map V.str).isEmpty = false := by cases ss with | nil => cases hz | cons _ _ => rfl
      rw [ne]
      refine iteF ?_
      have inv : inV (.str z) (ss.map V.str) = true := List.any_eq_true.mpr ⟨.str z, List.mem_map.mpr ⟨z, hz, rfl⟩, by show (z == z) = true; exact beq_self_eq_true z⟩
      refine ⟨_, rfl, _, rfl, sa, _, rfl, .inr (SqT.of hsa), rfl, flat_strs ss, _, rfl, ?_⟩
      rw [inv]
      refine iteF ?_
      refine ⟨_, rfl, b, dx, _, rfl, B.ob, x3, _, rfl, _, rfl, _, rfl, by show 4 ≤ sizeLine; decide, fun t ht => ?_⟩
      have s3 : Same H (upd H t (.tup [.str "choice", .ref am, .ref an, .str z])) := Same.new ht
      refine ⟨b, .ref t, .ch m n z, rs, rfl, BA.keep (KB.of s3), .tup upd_same (.cons (.str _) (.cons (Tp.mo (s3 _ _ ham)) (.cons (Tp.mo (s3 _ _ han)) (.cons (.str _) .nil)))), hm, hmo, fun x hx => ?_, ?_, h60, fun H4 k4 B4 => ?_⟩
      · have hx' : x ∈ [n] := hx
        rw [List.mem_singleton] at hx'; subst hx'; exact hn
      · show ([n] : List Mo).Nodup
        simp
      · exact k3 H4 (k4.sq BA s3) B4
theorem ok_x_Book_ahead {f : Addr} {fd : FuncData} (F : Fun K "ahead" "Book.ahead" s_Book_ahead f fd) (T : BkT K C) (c_refuse_new : CalX P w K mg base 3 "refuse_new" (spNewX CB CS) []) (c_Book__refuse_named : MetX P w K mg base 4 C "_refuse_named" (spRefuseX C CN CL) [])
    (c_Book_rank : C8.Met P w K mg base 4 C "rank" (spRank C) []) (c_Book__keep : C8.Met P w K mg base 2 C "_keep" (spKeep C) []) (c_Unfit : ExcOne P w K mg base 1 "Unfit" "moment" CU) : FnOk P w K mg base (L2.CX P w) 5 f fd ["self", "moment", "name", "other"] (spAheadX C CB CS CN CL CU) := by
  refine F.okX sc_Book_ahead (fun vs H Q E h => ?_) (fun cdv A outer s H vs Q E hr h => ?_)
  · obtain ⟨b, an, ao, v, dd, n, o, rs, rfl, _⟩ := h; rfl
  · obtain ⟨b, an, ao, v, dd, n, o, rs, rfl, BA, ob, han, hao, h60, k⟩ := h
    have hu := hu_of hr
    refine ⟨_, (pss_cons (ps_expr (pe_cX c_refuse_new (takes_of rfl rfl rfl rfl) hr (by decide) rfl (pa_cons (pv 1) (pa_cons (pe_fld (pv 0) rfl) pa_nil))))
      (pss_cons (ps_expr (pe_mtX c_Book__refuse_named (takes_of rfl rfl rfl rfl) hr (by decide) (pv 0) (pa_cons (pv 1) (pa_cons (pv 2) pa_nil))))
      (pss_cons (ps_expr (pe_mtX c_Book__refuse_named (takes_of rfl rfl rfl rfl) hr (by decide) (pv 0) (pa_cons (pv 1) (pa_cons (pv 3) pa_nil))))
      (pss_cons (ps_if (PW.pt (pw_or (pt_cmpR (op_eqD hr.units) (pv 2) (pv 3) (nomark _)) (pw_or1 (pt_cmpR op_ne (C8.pe_mt c_Book_rank hr (by decide) (pv 0) (pa_cons (pv 2) pa_nil)) (C8.pe_mt c_Book_rank hr (by decide) (pv 0) (pa_cons (pv 3) pa_nil)) (nomark _))))) (pss_one (ps_raiseG rfl (takes_of rfl rfl rfl rfl) c_Unfit.at_ hr (by decide) rfl (pa_cons (pv 3) pa_nil))) pss_nil)
      (pss_one (ps_expr (C8.pe_mt c_Book__keep hr (by decide) (pv 0) (pa_cons (pe_tup (pa_cons pe_str (pa_cons (pv 1) (pa_cons (pv 2) (pa_cons (pv 3) pa_nil))))) pa_nil)))))))), ?_⟩
    obtain ⟨dx, e, nn, kvs, nkv, B⟩ := id BA
    have x1 := bf_no e nn (m := "_refuse_named") (by decide +kernel) (by decide +kernel)
    have x2 := bf_no e nn (m := "rank") (by decide +kernel) (by decide +kernel)
    have x3 := bf_no e nn (m := "_keep") (by decide +kernel) (by decide +kernel)
    refine ⟨_, rfl, _, rfl, b, C, dx, _, _, rfl, B.ob, T.cl, T.nE, bf_e _ _, ?_⟩
    dsimp only [tNil, List.append_nil]
    refine PreX.go k ob B fun m em hmo hm k2 => ?_
    subst em
    obtain ⟨am, rfl, ham⟩ := ob_mD ob
    refine ⟨_, rfl, b, dx, _, rfl, B.ob, x1, _, rfl, _, rfl, ?_⟩
    dsimp only [tNil, List.append_nil]
    refine NmX.go k2 BA ham han fun hn hln k3 => ?_
    refine ⟨_, rfl, b, dx, _, rfl, B.ob, x1, _, rfl, _, rfl, ?_⟩
    dsimp only [tNil, List.append_nil]
    refine NmX.go k3 BA ham hao fun ho hlo k4 => ?_
    obtain ⟨rk, ws, ss, lk, rk', ws', ss', lk', hrn, hro, k4⟩ := k4
    refine ⟨_, rfl, _, rfl, _, _, (Tp.mo han).d, (Tp.mo hao).d, shaped_m _, shaped_m _, _, rfl, ?_⟩
    rw [eqv_m]
    by_cases hno : n = o
    · rw [decide_eq_true hno]
      rcases k4 with ⟨_, o'⟩ | ⟨h, _⟩
      · refine iteT (iteT ⟨_, rfl, by show 1 ≤ 1000; decide, fun x hx => ?_⟩)
        exact ⟨x, CU, _, rfl, upd_same, c_Unfit.at_.cls, c_Unfit.plain, fun dx h1 h2 => ⟨rfl, out_one o' hx h1 h2⟩⟩
      · exact absurd hno h
    · rw [decide_eq_false hno]
      refine iteF ?_
      refine ⟨_, rfl, b, dx, _, rfl, B.ob, x2, _, rfl, b, an, n, rk, ws, ss, lk, rs, rfl, BA, han, hrn, ?_⟩
      refine ⟨_, rfl, b, dx, _, rfl, B.ob, x2, _, rfl, b, ao, o, rk', ws', ss', lk', rs, rfl, BA, hao, hro, ?_⟩
      refine ⟨rfl, _, rfl, ?_⟩
      rw [int_dec]
      rcases k4 with ⟨h, o'⟩ | ⟨_, hrk, k4⟩
      · have hrk : rk ≠ rk' := h.resolve_left hno
        rw [decide_eq_false hrk]
        refine iteT ⟨_, rfl, by show 1 ≤ 1000; decide, fun x hx => ?_⟩
        exact ⟨x, CU, _, rfl, upd_same, c_Unfit.at_.cls, c_Unfit.plain, fun dx h1 h2 => ⟨rfl, out_one o' hx h1 h2⟩⟩
      · rw [decide_eq_true hrk]
        refine iteF ?_
        refine ⟨_, rfl, b, dx, _, rfl, B.ob, x3, _, rfl, _, rfl, _, rfl, by show 4 ≤ sizeLine; decide, fun t ht => ?_⟩
        have s3 : Same H (upd H t (.tup [.str "ahead", .ref am, .ref an, .ref ao])) := Same.new ht
        refine ⟨b, .ref t, .ah m n o, rs, rfl, BA.keep (KB.of s3), .tup upd_same (.cons (.str _) (.cons (Tp.mo (s3 _ _ ham)) (.cons (Tp.mo (s3 _ _ han)) (.cons (Tp.mo (s3 _ _ hao)) .nil)))), hm, hmo, fun x hx => ?_, ?_, h60, fun H4 k5 B4 => ?_⟩
        · rcases List.mem_cons.mp hx with rfl | hx
          · exact hn
          · rw [List.mem_singleton.mp hx]; exact ho
        · show ([n, o] : List Mo).Nodup
          simpa using hno
        · exact k4 H4 (k5.sq BA s3) B4
end
end KN


set_option Elab.async false
set_option linter.all false
set_option maxRecDepth 100000
/-! Rings of links: peeling, and what a new link closes. -/
namespace KN
open PySem L2
/-- some link comes back to its own start -/
def Ring (ls : List Lnk) : Prop := ∃ l ∈ ls, Rch ls l.2.2 l.2.1
def peel (ls : List Lnk) : List Lnk := ls.filter fun l => decide (l.2.1 ∈ ls.map (·.2.2))
def peels : Nat → List Lnk → List Lnk
  | 0, ls => ls
  | n + 1, ls => peel (peels n ls)
theorem peel_le (ls : List Lnk) : (peel ls).length ≤ ls.length := List.length_filter_le _ _
theorem peels_le (n : Nat) (ls : List Lnk) : (peels n ls).length ≤ ls.length := by
  induction n with
  | zero => exact Nat.le_refl _
  | succ n ih => exact Nat.le_trans (peel_le _) ih
theorem peel_sub {ls : List Lnk} {l : Lnk} (h : l ∈ peel ls) : l ∈ ls := (List.mem_filter.mp h).1
theorem peels_sub {n : Nat} {ls : List Lnk} {l : Lnk} (h : l ∈ peels n ls) : l ∈ ls := by
  induction n with
  | zero => exact h
  | succ n ih => exact ih (peel_sub h)
theorem peel_fix {ls : List Lnk} (h : (peel ls).length = ls.length) : peel ls = ls := List.filter_eq_self.mpr (List.length_filter_eq_length_iff.mp h)
/-- after as many turns as there are links nothing changes any more -/
theorem peels_fix (ls : List Lnk) : peel (peels ls.length ls) = peels ls.length ls := by
  have g : ∀ n, peel (peels n ls) = peels n ls ∨ (peels n ls).length + n ≤ ls.length := by
    intro n
    induction n with
    | zero => exact .inr (Nat.le_refl _)
    | succ n ih =>
      rcases ih with h | h
      · left; show peel (peel (peels n ls)) = peel (peels n ls); rw [h, h]
      · by_cases q : (peel (peels n ls)).length = (peels n ls).length
        · left; have := peel_fix q; show peel (peel (peels n ls)) = peel (peels n ls); rw [this, this]
        · right
          have := peel_le (peels n ls)
          show (peel (peels n ls)).length + (n + 1) ≤ ls.length
          omega
  rcases g ls.length with h | h
  · exact h
  · have h0 : peels ls.length ls = [] := List.length_eq_zero_iff.mp (by omega)
    rw [h0]; rfl
theorem filter_le {α : Type} {p q : α → Bool} : ∀ {xs : List α}, (∀ j ∈ xs, p j = true → q j = true) → (xs.filter p).length ≤ (xs.filter q).length
  | [], _ => Nat.le_refl _
  | x :: xs, h => by
    have r := filter_le (xs := xs) fun j hj => h j (List.mem_cons_of_mem _ hj)
    by_cases a : p x = true
    · rw [List.filter_cons_of_pos a, List.filter_cons_of_pos (h x List.mem_cons_self a), List.length_cons, List.length_cons]; omega
    · rw [List.filter_cons_of_neg a]
      by_cases b : q x = true
      · rw [List.filter_cons_of_pos b, List.length_cons]; omega
      · rw [List.filter_cons_of_neg b]; exact r
theorem filter_lt {α : Type} {p q : α → Bool} {k : α} : ∀ {xs : List α}, (∀ j ∈ xs, p j = true → q j = true) → k ∈ xs → q k = true → ¬ p k = true → (xs.filter p).length < (xs.filter q).length
  | [], _, hk, _, _ => by cases hk
  | x :: xs, h, hk, hq, hp => by
    have r := filter_le (xs := xs) fun j hj => h j (List.mem_cons_of_mem _ hj)
    rcases List.mem_cons.mp hk with e | hk
    · subst e
      rw [List.filter_cons_of_neg hp, List.filter_cons_of_pos hq, List.length_cons]; omega
    · have r := filter_lt (xs := xs) (fun j hj => h j (List.mem_cons_of_mem _ hj)) hk hq hp
      by_cases a : p x = true
      · rw [List.filter_cons_of_pos a, List.filter_cons_of_pos (h x List.mem_cons_self a), List.length_cons, List.length_cons]; omega
      · rw [List.filter_cons_of_neg a]
        by_cases b : q x = true
        · rw [List.filter_cons_of_pos b, List.length_cons]; omega
        · rw [List.filter_cons_of_neg b]; exact r
/-- a set of links each of which starts where one of them ends has a ring -/
theorem fix_ring {ls : List Lnk} (h : peel ls = ls) (h0 : ls ≠ []) : Ring ls := by
  have pre : ∀ l ∈ ls, ∃ k ∈ ls, k.2.2 = l.2.1 := fun l hl => by
    rw [← h] at hl
    obtain ⟨k, hk, e⟩ := List.mem_map.mp (of_decide_eq_true (List.mem_filter.mp hl).2)
    exact ⟨k, hk, e⟩
  apply Classical.byContradiction
  intro nr
  have noc : ∀ l ∈ ls, ¬ Rch ls l.2.2 l.2.1 := fun l hl r => nr ⟨l, hl, r⟩
  classical
  have go : ∀ (n : Nat) (l : Lnk), l ∈ ls → (ls.filter fun k => decide (Rch ls k.2.2 l.2.1)).length = n → False := by
    intro n
    induction n using Nat.strongRecOn with
    | ind n ih =>
      intro l hl hn
      obtain ⟨k, hk, ek⟩ := pre l hl
      refine ih (ls.filter fun j => decide (Rch ls j.2.2 k.2.1)).length ?_ k hk rfl
      rw [← hn]
      -- k itself is in the one, not in the other
      have sub : ∀ j ∈ ls, decide (Rch ls j.2.2 k.2.1) = true → decide (Rch ls j.2.2 l.2.1) = true := fun j _ hj => decide_eq_true (by
        have := Rch.step (of_decide_eq_true hj) hk rfl
        rw [ek] at this; exact this)
      have kin : decide (Rch ls k.2.2 l.2.1) = true := decide_eq_true (by rw [ek]; exact .refl)
      have kout : ¬ decide (Rch ls k.2.2 k.2.1) = true := fun z => noc k hk (of_decide_eq_true z)
      exact filter_lt (p := fun j : Lnk => decide (Rch ls j.2.2 k.2.1)) (q := fun j : Lnk => decide (Rch ls j.2.2 l.2.1)) sub hk kin kout
  obtain ⟨l, hl⟩ := List.exists_mem_of_ne_nil ls h0
  exact go _ l hl rfl
theorem Ring.mono {ls ls' : List Lnk} (h : ∀ l ∈ ls, l ∈ ls') (r : Ring ls) : Ring ls' :=
  let ⟨l, hl, q⟩ := r
  ⟨l, h l hl, q.mono h⟩
/-- the links of rings are never taken out -/
theorem ring_stays {ls : List Lnk} {l : Lnk} (hl : l ∈ ls) (hr : Rch ls l.2.2 l.2.1) : ∀ n, l ∈ peels n ls := by
  have all : ∀ n, ∀ l ∈ ls, Rch ls l.2.2 l.2.1 → l ∈ peels n ls := by
    intro n
    induction n with
    | zero => intro l hl _; exact hl
    | succ n ih =>
      intro l hl hr
      refine List.mem_filter.mpr ⟨ih l hl hr, decide_eq_true ?_⟩
      -- the last step of the way back
      have last : ∀ {a b : Mo}, Rch ls a b → a = b ∨ ∃ k ∈ ls, k.2.2 = b ∧ Rch ls a k.2.1 := fun r => by
        cases r with
        | refl => exact .inl rfl
        | step r hk e => exact .inr ⟨_, hk, rfl, by rw [e]; exact r⟩
      rcases last hr with e | ⟨k, hk, e, rk⟩
      · exact List.mem_map.mpr ⟨l, ih l hl hr, e⟩
      · have kr : Rch ls k.2.2 k.2.1 := by
          rw [e]
          exact (Rch.step .refl hl rfl).trans rk
        exact List.mem_map.mpr ⟨k, ih k hk kr, e⟩
  exact fun n => all n l hl hr
theorem ring_iff (ls : List Lnk) : peels ls.length ls ≠ [] ↔ Ring ls := by
  constructor
  · intro h
    exact (fix_ring (peels_fix ls) h).mono fun l hl => peels_sub hl
  · rintro ⟨l, hl, r⟩ z
    have := ring_stays hl r ls.length
    rw [z] at this; cases this
theorem rch_snoc {ls : List Lnk} {x : Lnk} {a b : Mo} (r : Rch (ls ++ [x]) a b) : Rch ls a b ∨ (Rch ls a x.2.1 ∧ Rch ls x.2.2 b) := by
  induction r with
  | refl => exact .inl .refl
  | step r hk e ih =>
    rcases List.mem_append.mp hk with h | h
    · rcases ih with q | ⟨q1, q2⟩
      · exact .inl (.step q h e)
      · exact .inr ⟨q1, .step q2 h e⟩
    · rw [List.mem_singleton] at h
      subst h
      rcases ih with q | ⟨q1, q2⟩
      · exact .inr ⟨by rw [e]; exact q, .refl⟩
      · exact .inr ⟨q1, .refl⟩
/-- a new link closes a ring just where its end leads to its start -/
theorem ring_snoc {ls : List Lnk} {x : Lnk} (h : ¬ Ring ls) : Ring (ls ++ [x]) ↔ Rch ls x.2.2 x.2.1 := by
  constructor
  · rintro ⟨l, hl, r⟩
    rcases List.mem_append.mp hl with q | q
    · rcases rch_snoc r with z | ⟨z1, z2⟩
      · exact absurd ⟨l, q, z⟩ h
      · exact (Rch.step z2 q rfl).trans z1
    · rw [List.mem_singleton] at q
      subst q
      rcases rch_snoc r with z | ⟨z1, _⟩
      · exact z
      · exact z1
  · intro r
    exact ⟨x, List.mem_append_right _ (List.mem_singleton.mpr rfl), r.mono fun l hl => List.mem_append_left _ hl⟩
end KN

set_option Elab.async false
set_option linter.all false
set_option maxRecDepth 100000
set_option maxHeartbeats 4000000
namespace KN
open PySem L2
/-! ### lists of data -/
theorem depthAll_le {k : Nat} : ∀ {ds : List PyData}, (∀ d ∈ ds, d.depth ≤ k) → PyData.depthAll ds ≤ k
  | [], _ => by simp [PyData.depthAll]
  | d :: ds, h => by
    have h1 := h d List.mem_cons_self
    have h2 := depthAll_le (ds := ds) fun x hx => h x (List.mem_cons_of_mem _ hx)
    simp only [PyData.depthAll]; omega
theorem shaped_list {ds : List PyData} (h : ∀ d ∈ ds, okD d = true ∧ d.depth ≤ 60) : SeqAt.shaped (.list ds) = true := by
  refine shaped_of (by simpa [okD] using okDs_all.mpr fun d hd => (h d hd).1) ?_
  have := depthAll_le fun d hd => (h d hd).2
  simp only [PyData.depth]; omega
theorem depth_m (m : Mo) : (mD m).depth ≤ 60 := by simp [mD, PyData.depth, PyData.depthAll]
theorem depth_l (l : Lnk) : (lD l).depth ≤ 60 := by simp [lD, mD, PyData.depth, PyData.depthAll]
theorem shaped_ms (ns : List Mo) : SeqAt.shaped (.list (ns.map mD)) = true := shaped_list fun d hd => by
  obtain ⟨m, _, rfl⟩ := List.mem_map.mp hd; exact ⟨rfl, depth_m m⟩
theorem shaped_ls (ls : List Lnk) : SeqAt.shaped (.list (ls.map lD)) = true := shaped_list fun d hd => by
  obtain ⟨m, _, rfl⟩ := List.mem_map.mp hd; exact ⟨rfl, depth_l m⟩
theorem shaped_l (l : Lnk) : SeqAt.shaped (lD l) = true := shaped_of rfl (by have := depth_l l; omega)
theorem any_m (m : Mo) (ns : List Mo) : ((ns.map mD).any fun z => PyData.eqv z (mD m)) = decide (m ∈ ns) := by
  have h : ((ns.map mD).any fun z => PyData.eqv z (mD m)) = true ↔ m ∈ ns := by
    rw [any_eqv rfl (okDs_all.mpr fun d hd => by obtain ⟨x, _, rfl⟩ := List.mem_map.mp hd; rfl), List.mem_map]
    exact ⟨fun ⟨x, hx, e⟩ => by rw [mD_inj e] at hx; exact hx, fun h => ⟨m, h, rfl⟩⟩
  by_cases q : m ∈ ns
  · rw [decide_eq_true q]; exact h.mpr q
  · rw [decide_eq_false q]; exact Bool.eq_false_iff.mpr fun z => q (h.mp z)
theorem any_l (l : Lnk) (ls : List Lnk) : ((ls.map lD).any fun z => PyData.eqv z (lD l)) = decide (l ∈ ls) := by
  have h : ((ls.map lD).any fun z => PyData.eqv z (lD l)) = true ↔ l ∈ ls := by
    rw [any_eqv rfl (okDs_all.mpr fun d hd => by obtain ⟨x, _, rfl⟩ := List.mem_map.mp hd; rfl), List.mem_map]
    exact ⟨fun ⟨x, hx, e⟩ => by rw [lD_inj e] at hx; exact hx, fun h => ⟨l, h, rfl⟩⟩
  by_cases q : l ∈ ls
  · rw [decide_eq_true q]; exact h.mpr q
  · rw [decide_eq_false q]; exact Bool.eq_false_iff.mpr fun z => q (h.mp z)
/-- a part of a list read with its data -/
theorem Ls.get {K : PySem.W.Frag} {H : Hp} {a : Addr} {ds : List PyData} {xs : List V} {i : Nat} {x : V} (hx : xs[i]? = some x) (r : TpAll H xs ds) : ∃ d, ds[i]? = some d ∧ Tp H x d := r.getv hx

/-! ### what may be told to a book -/
def CanTell (rs : List Row) (r : Row) : Prop := MoOk r.mo ∧ r.mo ∉ rs.map Row.mo ∧ rs.length ≤ 60 ∧ match r with
  | .nm m rank ws ss like => NmOk rank ws ss like ∧ ∀ l, like = some l → ¬ mLt m l ∧ ∃ rk ws' ss' l', Row.nm l rk ws' ss' l' ∈ rs ∧ (if rank = 0 then decide (rk = 0) else decide (rk < rank)) = true
  | .ah m n o => ¬ mLt m n ∧ ¬ mLt m o ∧ n ≠ o ∧ ∃ rk, (∃ ws ss l, Row.nm n rk ws ss l ∈ rs) ∧ ∃ ws ss l, Row.nm o rk ws ss l ∈ rs
  | .ch m n z => ¬ mLt m n ∧ ∃ rk ws ss lk, Row.nm n rk ws ss lk ∈ rs ∧ z ∈ ss ∧ ∀ w ∈ ss, IsW w
  | .st m n _ => ¬ mLt m n ∧ n ∈ nms rs
def spTell (C : Addr) : Sp := fun vs H Q _ => ∃ (b : Addr) (v : V) (r : Row) (rs : List Row), vs = [.ref b, v] ∧ BookAt C H b rs ∧ Tp H v r.d ∧ CanTell rs r ∧ ∀ H', KD b H H' → BookAt C H' b (rs ++ [r]) → Q .non H'
def spBookOf (C : Addr) : Sp := fun vs H Q _ => ∃ (a : Addr) (rs : List Row), vs = [.ref a] ∧ Ls H a (rs.map Row.d) ∧ (∀ i r, rs[i]? = some r → CanTell (rs.take i) r) ∧ ∀ H' b, Same H H' → H b = none → BookAt C H' b rs → Q (.ref b) H'
def spThereR : Sp := fun vs H Q _ => ∃ (a : Addr) (v : V) (u : Option Mo) (rs : List Row), vs = [.ref a, v] ∧ Ls H a (rs.map Row.d) ∧ UpV H v u ∧ rs.length ≤ 500 ∧ ∀ (H' : Hp) (l : Addr), Same H H' → H l = none → Ls H' l ((rs.filter fun r => upB r.mo u).map Row.d) → Q (.ref l) H'
def spReached : Sp := fun vs H Q _ => ∃ (a st : Addr) (s : Mo) (ls : List Lnk), vs = [.ref a, .ref st] ∧ Ls H a (ls.map lD) ∧ ls.length ≤ 500 ∧ H st = some (.tup [.int s.1, .int s.2]) ∧
  ∀ (H' : Hp) (l : Addr) (ns : List Mo), Same H H' → Ls H' l (ns.map mD) → (∀ g, g ∈ ns ↔ Rch ls s g) → Q (.ref l) H'
def spAheadsR : Sp := fun vs H Q _ => ∃ (a : Addr) (v : V) (u : Option Mo) (rs : List Row), vs = [.ref a, v] ∧ Ls H a (rs.map Row.d) ∧ UpV H v u ∧ rs.length ≤ 64 ∧ ∀ (H' : Hp) (l : Addr), Same H H' → H l = none → Ls H' l ((ahF (rs.filter fun r => upB r.mo u)).map lD) → Q (.ref l) H'
def spRing : Sp := fun vs H Q _ => ∃ (a : Addr) (ls : List Lnk), vs = [.ref a] ∧ Ls H a (ls.map lD) ∧ ls.length ≤ 500 ∧ ∀ (H' : Hp) (k : Bool), Same H H' → (k = true ↔ Ring ls) → Q (.bl k) H'
/-- rows of a book as parts of a tuple -/
theorem Tp.tstr {H : Hp} {v : V} {ss : List Str} (h : Tp H v (.tuple (ss.map PyData.str))) : ∃ a, v = .ref a ∧ H a = some (.tup (ss.map V.str)) := by
  obtain ⟨a, xs, rfl, e, r⟩ := Tp.inv h
  rw [TpAll.of_strs r] at e
  exact ⟨a, rfl, e⟩
theorem Tp.up {H : Hp} {v : V} {u : Option Mo} (h : Tp H v (oD u)) : UpV H v u := by
  cases u with
  | none => cases h; rfl
  | some m => exact Tp.mo_inv h
section
variable {P : Program} {w : World} {K : PySem.W.Frag} {mg : Str → Option Value} {base : Heap} {C : Addr}
theorem sc__law_tell : FnScope ["_law_book", "_law_row"] ["_law_book", "_law_row"] (defScope s__law_tell) := ⟨rfl, rfl, rfl, by decide +kernel, rfl, by decide +kernel, by decide +kernel⟩
theorem ok__law_tell {f : Addr} {fd : FuncData} (F : Fun K "_law_tell" "_law_tell" s__law_tell f fd) (c_Book_publish_rank_sheets_like : MetK P w K mg base 5 C "publish" (spPublish C) 3 ["rank", "sheets", "like"] (fun vs zs => vs ++ zs))
    (c_Book_choose : C8.Met P w K mg base 5 C "choose" (spChoose C) []) (c_Book_strike_whole : MetK P w K mg base 5 C "strike" (spStrike C) 3 ["whole"] (fun vs zs => vs ++ zs)) (c_Book_ahead : C8.Met P w K mg base 5 C "ahead" (spAhead C) []) : FnOk P w K mg base CX0 6 f fd ["_law_book", "_law_row"] (spTell C) := by
  refine F.ok sc__law_tell (fun vs H Q E h => ?_) (fun cdv A outer s H vs Q E hr h => ?_)
  · obtain ⟨b, v, r, rs, rfl, _⟩ := h; rfl
  · obtain ⟨b, v, r, rs, rfl, BA, hv, ⟨hmo, hm, h60, hc⟩, k⟩ := h
    refine ⟨_, (pss_one (ps_if (pt_cmpR op_eq (pe_ix ix_tup (pv 1) pe_int (fun _ _ => rfl)) pe_str (nomark _)) (pss_one (ps_expr (pe_mtK c_Book_publish_rank_sheets_like hr (by decide) (pv 0) (pa_cons (pe_ix ix_tup (pv 1) pe_int (fun _ _ => rfl)) (pa_cons (pe_ix ix_tup (pv 1) pe_int (fun _ _ => rfl)) pa_nil)) (pk_cons (pe_ix ix_tup (pv 1) pe_int (fun _ _ => rfl)) (pk_cons (pe_ix ix_tup (pv 1) pe_int (fun _ _ => rfl)) (pk_cons (pe_ix ix_tup (pv 1) pe_int (fun _ _ => rfl)) pk_nil)))))) (pss_one (ps_if (pt_cmpR op_eq (pe_ix ix_tup (pv 1) pe_int (fun _ _ => rfl)) pe_str (nomark _)) (pss_one (ps_expr (C8.pe_mt c_Book_choose hr (by decide) (pv 0) (pa_cons (pe_ix ix_tup (pv 1) pe_int (fun _ _ => rfl)) (pa_cons (pe_ix ix_tup (pv 1) pe_int (fun _ _ => rfl)) (pa_cons (pe_ix ix_tup (pv 1) pe_int (fun _ _ => rfl)) pa_nil)))))) (pss_one (ps_if (pt_cmpR op_eq (pe_ix ix_tup (pv 1) pe_int (fun _ _ => rfl)) pe_str (nomark _)) (pss_one (ps_expr (pe_mtK c_Book_strike_whole hr (by decide) (pv 0) (pa_cons (pe_ix ix_tup (pv 1) pe_int (fun _ _ => rfl)) (pa_cons (pe_ix ix_tup (pv 1) pe_int (fun _ _ => rfl)) pa_nil)) (pk_cons (pe_ix ix_tup (pv 1) pe_int (fun _ _ => rfl)) pk_nil)))) (pss_one (ps_expr (C8.pe_mt c_Book_ahead hr (by decide) (pv 0) (pa_cons (pe_ix ix_tup (pv 1) pe_int (fun _ _ => rfl)) (pa_cons (pe_ix ix_tup (pv 1) pe_int (fun _ _ => rfl)) (pa_cons (pe_ix ix_tup (pv 1) pe_int (fun _ _ => rfl)) pa_nil)))))))))))), ?_⟩
    obtain ⟨dx, e, nn, kvs, nkv, B⟩ := id BA
    obtain ⟨t, xs, rfl, ht, rx⟩ := Tp.inv hv
    obtain ⟨v0, a0, t0⟩ := Tp.at (K := K) ht rx r.ds0
    cases Tp.str_inv t0
    refine ⟨_, rfl, _, _, _, _, rfl, rfl, SqT.of ht, a0, rfl, _, rfl, ?_⟩
    rw [sort_nm]
    have x0 := fun m (h1 : ¬ m = ("_named_by" : Str)) h2 => bf_no e nn (m := m) h1 h2
    cases r with
    | nm m rank ws ss like =>
      refine iteT ?_
      obtain ⟨v1, a1, t1⟩ := Tp.at (K := K) (i := 1) (d := mD m) ht rx rfl
      obtain ⟨v2, a2, t2⟩ := Tp.at (K := K) (i := 2) (d := .int rank) ht rx rfl
      obtain ⟨v3, a3, t3⟩ := Tp.at (K := K) (i := 3) (d := .tuple (ws.map PyData.str)) ht rx rfl
      obtain ⟨v4, a4, t4⟩ := Tp.at (K := K) (i := 4) (d := .tuple (ss.map PyData.str)) ht rx rfl
      obtain ⟨v5, a5, t5⟩ := Tp.at (K := K) (i := 5) (d := oD like) ht rx rfl
      obtain ⟨am, rfl, ham⟩ := Tp.mo_inv t1
      cases Tp.int_inv t2
      obtain ⟨wa, rfl, hwa⟩ := Tp.tstr t3
      obtain ⟨sa, rfl, hsa⟩ := Tp.tstr t4
      refine ⟨_, rfl, b, dx, _, rfl, B.ob, bf_no _ _ (by decide +kernel) (by decide +kernel), _, rfl, _, _, _, _, rfl, rfl, SqT.of ht, a1, _, rfl, _, _, _, _, rfl, rfl, SqT.of ht, a3, _, rfl, _, _, _, _, rfl, rfl, SqT.of ht, a2, _, rfl, _, _, _, _, rfl, rfl, SqT.of ht, a4, _, rfl, _, _, _, _, rfl, rfl, SqT.of ht, a5, rfl, rfl, ?_⟩
      exact ⟨b, am, wa, sa, v5, m, rank, ws, ss, like, rs, rfl, BA, ham, hwa, hsa, t5.up, hc.1, hmo, hm, h60, hc.2, k⟩
    | ch m n z =>
      refine iteF ?_
      refine ⟨_, rfl, _, _, _, _, rfl, rfl, SqT.of ht, a0, rfl, _, rfl, ?_⟩
      rw [show decide (V.str (Row.ch m n z).sort = V.str "choice") = true from decide_eq_true rfl]
      refine iteT ?_
      obtain ⟨v1, a1, t1⟩ := Tp.at (K := K) (i := 1) (d := mD m) ht rx rfl
      obtain ⟨v2, a2, t2⟩ := Tp.at (K := K) (i := 2) (d := mD n) ht rx rfl
      obtain ⟨v3, a3, t3⟩ := Tp.at (K := K) (i := 3) (d := .str z) ht rx rfl
      obtain ⟨am, rfl, ham⟩ := Tp.mo_inv t1
      obtain ⟨an, rfl, han⟩ := Tp.mo_inv t2
      cases Tp.str_inv t3
      obtain ⟨hl, rk, ws, ss, lk, hrow, hz, hW⟩ := hc
      refine ⟨_, rfl, b, dx, _, rfl, B.ob, bf_no _ _ (by decide +kernel) (by decide +kernel), _, rfl, _, _, _, _, rfl, rfl, SqT.of ht, a1, _, rfl, _, _, _, _, rfl, rfl, SqT.of ht, a2, _, rfl, _, _, _, _, rfl, rfl, SqT.of ht, a3, ?_⟩
      exact ⟨b, am, an, m, n, z, rk, ws, ss, lk, rs, rfl, BA, ham, han, hmo, hm, h60, hl, hrow, hz, hW, k⟩
    | st m n wh =>
      refine iteF ?_
      refine ⟨_, rfl, _, _, _, _, rfl, rfl, SqT.of ht, a0, rfl, _, rfl, ?_⟩
      rw [show decide (V.str (Row.st m n wh).sort = V.str "choice") = false from decide_eq_false fun z => by
        have h1 : ¬ ("strike" : Str) = "choice" := by decide +kernel
        exact h1 (by injection z)]
      refine iteF ?_
      refine ⟨_, rfl, _, _, _, _, rfl, rfl, SqT.of ht, a0, rfl, _, rfl, ?_⟩
      rw [show decide (V.str (Row.st m n wh).sort = V.str "strike") = true from decide_eq_true rfl]
      refine iteT ?_
      obtain ⟨v1, a1, t1⟩ := Tp.at (K := K) (i := 1) (d := mD m) ht rx rfl
      obtain ⟨v2, a2, t2⟩ := Tp.at (K := K) (i := 2) (d := mD n) ht rx rfl
      obtain ⟨v3, a3, t3⟩ := Tp.at (K := K) (i := 3) (d := .bool wh) ht rx rfl
      obtain ⟨am, rfl, ham⟩ := Tp.mo_inv t1
      obtain ⟨an, rfl, han⟩ := Tp.mo_inv t2
      cases t3
      refine ⟨_, rfl, b, dx, _, rfl, B.ob, bf_no _ _ (by decide +kernel) (by decide +kernel), _, rfl, _, _, _, _, rfl, rfl, SqT.of ht, a1, _, rfl, _, _, _, _, rfl, rfl, SqT.of ht, a2, _, rfl, _, _, _, _, rfl, rfl, SqT.of ht, a3, rfl, rfl, ?_⟩
      exact ⟨b, am, an, m, n, wh, rs, rfl, BA, ham, han, hmo, hm, h60, hc.1, hc.2, k⟩
    | ah m n o =>
      refine iteF ?_
      have nch : decide (V.str (Row.ah m n o).sort = V.str "choice") = false := decide_eq_false fun z => by
        have h1 : ¬ ("ahead" : Str) = "choice" := by decide +kernel
        exact h1 (by injection z)
      have nst : decide (V.str (Row.ah m n o).sort = V.str "strike") = false := decide_eq_false fun z => by
        have h1 : ¬ ("ahead" : Str) = "strike" := by decide +kernel
        exact h1 (by injection z)
      refine ⟨_, rfl, _, _, _, _, rfl, rfl, SqT.of ht, a0, rfl, _, rfl, ?_⟩
      rw [nch]
      refine iteF ?_
      refine ⟨_, rfl, _, _, _, _, rfl, rfl, SqT.of ht, a0, rfl, _, rfl, ?_⟩
      rw [nst]
      refine iteF ?_
      obtain ⟨v1, a1, t1⟩ := Tp.at (K := K) (i := 1) (d := mD m) ht rx rfl
      obtain ⟨v2, a2, t2⟩ := Tp.at (K := K) (i := 2) (d := mD n) ht rx rfl
      obtain ⟨v3, a3, t3⟩ := Tp.at (K := K) (i := 3) (d := mD o) ht rx rfl
      obtain ⟨am, rfl, ham⟩ := Tp.mo_inv t1
      obtain ⟨an, rfl, han⟩ := Tp.mo_inv t2
      obtain ⟨ao, rfl, hao⟩ := Tp.mo_inv t3
      obtain ⟨h1, h2, h3, rk, h4, h5⟩ := hc
      refine ⟨_, rfl, b, dx, _, rfl, B.ob, bf_no _ _ (by decide +kernel) (by decide +kernel), _, rfl, _, _, _, _, rfl, rfl, SqT.of ht, a1, _, rfl, _, _, _, _, rfl, rfl, SqT.of ht, a2, _, rfl, _, _, _, _, rfl, rfl, SqT.of ht, a3, ?_⟩
      exact ⟨b, am, an, ao, m, n, o, rk, rs, rfl, BA, ham, han, hao, hmo, hm, h60, h1, h2, h3, h4, h5, k⟩
end
end KN


set_option Elab.async false
set_option linter.all false
set_option maxRecDepth 100000
set_option maxHeartbeats 4000000
namespace KN
open PySem L2
/-! The exceptions made; a row told, or refused. -/
/-- what telling a row comes to, its moment put in -/
def TellX (CB CS CN CL CU CZ : Addr) (H : Hp) (b : Addr) (C : Addr) (v : V) (dd : PyData) (an : Addr) (n : Mo) (rs : List Row) (Q : VK) (E : XK) (t : Addr) : Prop :=
  (∃ z, H t = some (.tup [.str "choice", v, .ref an, .str z]) ∧ PreX CB CS H v dd rs E fun m => NmX CN CL H an m n rs E (∃ rk ws ss lk, Row.nm n rk ws ss lk ∈ rs ∧ ((ss = [] ∧ OutOne H CU "moment" (.ref an) E) ∨ (ss ≠ [] ∧ z ∉ ss ∧ OutOne H CZ "sheet" (.str z) E) ∨ (z ∈ ss ∧ ∀ H', KD b H H' → BookAt C H' b (rs ++ [.ch m n z]) → Q .non H')))) ∨
  (∃ wh, H t = some (.tup [.str "strike", v, .ref an, .bl wh]) ∧ PreX CB CS H v dd rs E fun m => NmX CN CL H an m n rs E (∀ H', KD b H H' → BookAt C H' b (rs ++ [.st m n wh]) → Q .non H')) ∨
  (∃ ao o, H t = some (.tup [.str "ahead", v, .ref an, .ref ao]) ∧ H ao = some (.tup [.int o.1, .int o.2]) ∧ PreX CB CS H v dd rs E fun m => NmX CN CL H an m n rs E (NmX CN CL H ao m o rs E (∃ rk ws ss lk rk' ws' ss' lk', Row.nm n rk ws ss lk ∈ rs ∧ Row.nm o rk' ws' ss' lk' ∈ rs ∧ (((n = o ∨ rk ≠ rk') ∧ OutOne H CU "moment" (.ref ao) E) ∨ (n ≠ o ∧ rk = rk' ∧ ∀ H', KD b H H' → BookAt C H' b (rs ++ [.ah m n o]) → Q .non H')))))
def spTellX (C CB CS CN CL CU CZ : Addr) : Sp := fun vs H Q E => ∃ (b t an : Addr) (v : V) (dd : PyData) (n : Mo) (rs : List Row), vs = [.ref b, .ref t] ∧ BookAt C H b rs ∧ Ob H v dd ∧ H an = some (.tup [.int n.1, .int n.2]) ∧ rs.length ≤ 60 ∧ TellX CB CS CN CL CU CZ H b C v dd an n rs Q E t
section
variable {P : Program} {w : World} {K : PySem.W.Frag} {mg : Str → Option Value} {base : Heap} {C CB CS CN CL CU CZ : Addr}
theorem sc_BadMoment___init__ : FnScope ["self", "moment"] ["self", "moment"] (defScope s_BadMoment___init__) := ⟨rfl, rfl, rfl, by decide +kernel, rfl, by decide +kernel, by decide +kernel⟩
theorem ok_BadMoment_init {f : Addr} {fd : FuncData} (F : Fun K "__init__" "BadMoment.__init__" s_BadMoment___init__ f fd) : FnOk P w K mg base CX0 1 f fd ["self", "moment"] (spOne K "moment") := by
  refine F.ok sc_BadMoment___init__ (fun vs H Q E h => ?_) (fun cdv A outer s H vs Q E hr h => ?_)
  · obtain ⟨a, C, y, rfl, _⟩ := h; rfl
  · obtain ⟨a, C, y, rfl, ha, T, nf, k⟩ := h
    refine ⟨_, pss_one (ps_putG (pv 0) (pv 1)), ?_⟩
    exact ⟨_, rfl, _, rfl, a, C, rfl, T, nf, .inr ⟨ha, fun dx h1 h2 => k dx h1 h2⟩⟩
theorem sc_SameMoment___init__ : FnScope ["self", "moment"] ["self", "moment"] (defScope s_SameMoment___init__) := ⟨rfl, rfl, rfl, by decide +kernel, rfl, by decide +kernel, by decide +kernel⟩
theorem ok_SameMoment_init {f : Addr} {fd : FuncData} (F : Fun K "__init__" "SameMoment.__init__" s_SameMoment___init__ f fd) : FnOk P w K mg base CX0 1 f fd ["self", "moment"] (spOne K "moment") := by
  refine F.ok sc_SameMoment___init__ (fun vs H Q E h => ?_) (fun cdv A outer s H vs Q E hr h => ?_)
  · obtain ⟨a, C, y, rfl, _⟩ := h; rfl
  · obtain ⟨a, C, y, rfl, ha, T, nf, k⟩ := h
    refine ⟨_, pss_one (ps_putG (pv 0) (pv 1)), ?_⟩
    exact ⟨_, rfl, _, rfl, a, C, rfl, T, nf, .inr ⟨ha, fun dx h1 h2 => k dx h1 h2⟩⟩
theorem sc_NoName___init__ : FnScope ["self", "moment"] ["self", "moment"] (defScope s_NoName___init__) := ⟨rfl, rfl, rfl, by decide +kernel, rfl, by decide +kernel, by decide +kernel⟩
theorem ok_NoName_init {f : Addr} {fd : FuncData} (F : Fun K "__init__" "NoName.__init__" s_NoName___init__ f fd) : FnOk P w K mg base CX0 1 f fd ["self", "moment"] (spOne K "moment") := by
  refine F.ok sc_NoName___init__ (fun vs H Q E h => ?_) (fun cdv A outer s H vs Q E hr h => ?_)
  · obtain ⟨a, C, y, rfl, _⟩ := h; rfl
  · obtain ⟨a, C, y, rfl, ha, T, nf, k⟩ := h
    refine ⟨_, pss_one (ps_putG (pv 0) (pv 1)), ?_⟩
    exact ⟨_, rfl, _, rfl, a, C, rfl, T, nf, .inr ⟨ha, fun dx h1 h2 => k dx h1 h2⟩⟩
theorem sc_NoSheet___init__ : FnScope ["self", "sheet"] ["self", "sheet"] (defScope s_NoSheet___init__) := ⟨rfl, rfl, rfl, by decide +kernel, rfl, by decide +kernel, by decide +kernel⟩
theorem ok_NoSheet_init {f : Addr} {fd : FuncData} (F : Fun K "__init__" "NoSheet.__init__" s_NoSheet___init__ f fd) : FnOk P w K mg base CX0 1 f fd ["self", "sheet"] (spOne K "sheet") := by
  refine F.ok sc_NoSheet___init__ (fun vs H Q E h => ?_) (fun cdv A outer s H vs Q E hr h => ?_)
  · obtain ⟨a, C, y, rfl, _⟩ := h; rfl
  · obtain ⟨a, C, y, rfl, ha, T, nf, k⟩ := h
    refine ⟨_, pss_one (ps_putG (pv 0) (pv 1)), ?_⟩
    exact ⟨_, rfl, _, rfl, a, C, rfl, T, nf, .inr ⟨ha, fun dx h1 h2 => k dx h1 h2⟩⟩
theorem sc_Later___init__ : FnScope ["self", "moment"] ["self", "moment"] (defScope s_Later___init__) := ⟨rfl, rfl, rfl, by decide +kernel, rfl, by decide +kernel, by decide +kernel⟩
theorem ok_Later_init {f : Addr} {fd : FuncData} (F : Fun K "__init__" "Later.__init__" s_Later___init__ f fd) : FnOk P w K mg base CX0 1 f fd ["self", "moment"] (spOne K "moment") := by
  refine F.ok sc_Later___init__ (fun vs H Q E h => ?_) (fun cdv A outer s H vs Q E hr h => ?_)
  · obtain ⟨a, C, y, rfl, _⟩ := h; rfl
  · obtain ⟨a, C, y, rfl, ha, T, nf, k⟩ := h
    refine ⟨_, pss_one (ps_putG (pv 0) (pv 1)), ?_⟩
    exact ⟨_, rfl, _, rfl, a, C, rfl, T, nf, .inr ⟨ha, fun dx h1 h2 => k dx h1 h2⟩⟩
theorem sc_Unfit___init__ : FnScope ["self", "moment"] ["self", "moment"] (defScope s_Unfit___init__) := ⟨rfl, rfl, rfl, by decide +kernel, rfl, by decide +kernel, by decide +kernel⟩
theorem ok_Unfit_init {f : Addr} {fd : FuncData} (F : Fun K "__init__" "Unfit.__init__" s_Unfit___init__ f fd) : FnOk P w K mg base CX0 1 f fd ["self", "moment"] (spOne K "moment") := by
  refine F.ok sc_Unfit___init__ (fun vs H Q E h => ?_) (fun cdv A outer s H vs Q E hr h => ?_)
  · obtain ⟨a, C, y, rfl, _⟩ := h; rfl
  · obtain ⟨a, C, y, rfl, ha, T, nf, k⟩ := h
    refine ⟨_, pss_one (ps_putG (pv 0) (pv 1)), ?_⟩
    exact ⟨_, rfl, _, rfl, a, C, rfl, T, nf, .inr ⟨ha, fun dx h1 h2 => k dx h1 h2⟩⟩
theorem ok_x__law_tell {f : Addr} {fd : FuncData} (F : Fun K "_law_tell" "_law_tell" s__law_tell f fd) (c_Book_publish_rank_sheets_like : MetK P w K mg base 5 C "publish" (spPublish C) 3 ["rank", "sheets", "like"] (fun vs zs => vs ++ zs))
    (c_Book_choose : MetX P w K mg base 5 C "choose" (spChooseX C CB CS CN CL CU CZ) []) (c_Book_strike_whole : MetKX P w K mg base 5 C "strike" (spStrikeX C CB CS CN CL) 3 ["whole"] (fun vs zs => vs ++ zs)) (c_Book_ahead : MetX P w K mg base 5 C "ahead" (spAheadX C CB CS CN CL CU) []) : FnOk P w K mg base (L2.CX P w) 6 f fd ["_law_book", "_law_row"] (spTellX C CB CS CN CL CU CZ) := by
  refine F.okX sc__law_tell (fun vs H Q E h => ?_) (fun cdv A outer s H vs Q E hr h => ?_)
  · obtain ⟨b, t, an, v, dd, n, rs, rfl, _⟩ := h; rfl
  · obtain ⟨b, t, an, v, dd, n, rs, rfl, BA, ob, han, h60, k⟩ := h
    refine ⟨_, (pss_one (ps_if (pt_cmpR op_eq (pe_ix ix_tup (pv 1) pe_int (fun _ _ => rfl)) pe_str (nomark _)) (pss_one (ps_expr (pe_mtK c_Book_publish_rank_sheets_like hr (by decide) (pv 0) (pa_cons (pe_ix ix_tup (pv 1) pe_int (fun _ _ => rfl)) (pa_cons (pe_ix ix_tup (pv 1) pe_int (fun _ _ => rfl)) pa_nil)) (pk_cons (pe_ix ix_tup (pv 1) pe_int (fun _ _ => rfl)) (pk_cons (pe_ix ix_tup (pv 1) pe_int (fun _ _ => rfl)) (pk_cons (pe_ix ix_tup (pv 1) pe_int (fun _ _ => rfl)) pk_nil)))))) (pss_one (ps_if (pt_cmpR op_eq (pe_ix ix_tup (pv 1) pe_int (fun _ _ => rfl)) pe_str (nomark _)) (pss_one (ps_expr (pe_mtX c_Book_choose (takes_of rfl rfl rfl rfl) hr (by decide) (pv 0) (pa_cons (pe_ix ix_tup (pv 1) pe_int (fun _ _ => rfl)) (pa_cons (pe_ix ix_tup (pv 1) pe_int (fun _ _ => rfl)) (pa_cons (pe_ix ix_tup (pv 1) pe_int (fun _ _ => rfl)) pa_nil)))))) (pss_one (ps_if (pt_cmpR op_eq (pe_ix ix_tup (pv 1) pe_int (fun _ _ => rfl)) pe_str (nomark _)) (pss_one (ps_expr (pe_mtKX c_Book_strike_whole (takes_of rfl rfl rfl rfl) hr (by decide) (pv 0) (pa_cons (pe_ix ix_tup (pv 1) pe_int (fun _ _ => rfl)) (pa_cons (pe_ix ix_tup (pv 1) pe_int (fun _ _ => rfl)) pa_nil)) (pk_cons (pe_ix ix_tup (pv 1) pe_int (fun _ _ => rfl)) pk_nil)))) (pss_one (ps_expr (pe_mtX c_Book_ahead (takes_of rfl rfl rfl rfl) hr (by decide) (pv 0) (pa_cons (pe_ix ix_tup (pv 1) pe_int (fun _ _ => rfl)) (pa_cons (pe_ix ix_tup (pv 1) pe_int (fun _ _ => rfl)) (pa_cons (pe_ix ix_tup (pv 1) pe_int (fun _ _ => rfl)) pa_nil)))))))))))), ?_⟩
    obtain ⟨dx, e, nn, kvs, nkv, B⟩ := id BA
    have sd : ∀ x y : Str, ¬ x = y → decide (V.str x = V.str y) = false := fun x y h => decide_eq_false fun z => h (by injection z)
    rcases k with ⟨z, ht, k⟩ | ⟨wh, ht, k⟩ | ⟨ao, o, ht, hao, k⟩
    · refine ⟨_, rfl, _, _, _, _, rfl, rfl, SqT.of ht, at_of (j := 0) rfl rfl, rfl, _, rfl, ?_⟩
      rw [sd "choice" "name" (by decide +kernel)]
      refine iteF ?_
      refine ⟨_, rfl, _, _, _, _, rfl, rfl, SqT.of ht, at_of (j := 0) rfl rfl, rfl, _, rfl, ?_⟩
      rw [show decide (V.str "choice" = V.str "choice") = true from decide_eq_true rfl]
      refine iteT ?_
      refine ⟨_, rfl, b, dx, _, rfl, B.ob, bf_no _ _ (by decide +kernel) (by decide +kernel), _, rfl, _, _, _, _, rfl, rfl, SqT.of ht, at_of (j := 1) rfl rfl, _, rfl, _, _, _, _, rfl, rfl, SqT.of ht, at_of (j := 2) rfl rfl, _, rfl, _, _, _, _, rfl, rfl, SqT.of ht, at_of (j := 3) rfl rfl, ?_⟩
      exact ⟨b, an, v, dd, n, z, rs, rfl, BA, ob, han, h60, k⟩
    · refine ⟨_, rfl, _, _, _, _, rfl, rfl, SqT.of ht, at_of (j := 0) rfl rfl, rfl, _, rfl, ?_⟩
      rw [sd "strike" "name" (by decide +kernel)]
      refine iteF ?_
      refine ⟨_, rfl, _, _, _, _, rfl, rfl, SqT.of ht, at_of (j := 0) rfl rfl, rfl, _, rfl, ?_⟩
      rw [sd "strike" "choice" (by decide +kernel)]
      refine iteF ?_
      refine ⟨_, rfl, _, _, _, _, rfl, rfl, SqT.of ht, at_of (j := 0) rfl rfl, rfl, _, rfl, ?_⟩
      rw [show decide (V.str "strike" = V.str "strike") = true from decide_eq_true rfl]
      refine iteT ?_
      refine ⟨_, rfl, b, dx, _, rfl, B.ob, bf_no _ _ (by decide +kernel) (by decide +kernel), _, rfl, _, _, _, _, rfl, rfl, SqT.of ht, at_of (j := 1) rfl rfl, _, rfl, _, _, _, _, rfl, rfl, SqT.of ht, at_of (j := 2) rfl rfl, _, rfl, _, _, _, _, rfl, rfl, SqT.of ht, at_of (j := 3) rfl rfl, rfl, rfl, ?_⟩
      exact ⟨b, an, v, dd, n, wh, rs, rfl, BA, ob, han, h60, k⟩
    · refine ⟨_, rfl, _, _, _, _, rfl, rfl, SqT.of ht, at_of (j := 0) rfl rfl, rfl, _, rfl, ?_⟩
      rw [sd "ahead" "name" (by decide +kernel)]
      refine iteF ?_
      refine ⟨_, rfl, _, _, _, _, rfl, rfl, SqT.of ht, at_of (j := 0) rfl rfl, rfl, _, rfl, ?_⟩
      rw [sd "ahead" "choice" (by decide +kernel)]
      refine iteF ?_
      refine ⟨_, rfl, _, _, _, _, rfl, rfl, SqT.of ht, at_of (j := 0) rfl rfl, rfl, _, rfl, ?_⟩
      rw [sd "ahead" "strike" (by decide +kernel)]
      refine iteF ?_
      refine ⟨_, rfl, b, dx, _, rfl, B.ob, bf_no _ _ (by decide +kernel) (by decide +kernel), _, rfl, _, _, _, _, rfl, rfl, SqT.of ht, at_of (j := 1) rfl rfl, _, rfl, _, _, _, _, rfl, rfl, SqT.of ht, at_of (j := 2) rfl rfl, _, rfl, _, _, _, _, rfl, rfl, SqT.of ht, at_of (j := 3) rfl rfl, ?_⟩
      exact ⟨b, an, ao, v, dd, n, o, rs, rfl, BA, ob, han, hao, h60, k⟩
end
end KN


set_option Elab.async false
set_option linter.all false
set_option maxRecDepth 100000
set_option maxHeartbeats 4000000
namespace KN
open PySem L2
theorem cut_to {xs : List V} (k : Nat) : cutV xs none (some (k : Int)) = xs.take k := by
  unfold cutV
  rw [HT.sIx_none, HT.sIx_nat, List.drop_zero, Nat.sub_zero]
  rcases Nat.le_total k xs.length with h | h
  · rw [Nat.min_eq_left h]
  · rw [Nat.min_eq_right h, List.take_length, List.take_of_length_le h]
theorem cut_from {xs : List V} (k : Nat) : cutV xs (some (k : Int)) none = xs.drop k := by
  unfold cutV
  rw [HT.sIx_none, HT.sIx_nat]
  rcases Nat.le_total k xs.length with h | h
  · rw [Nat.min_eq_left h]; exact List.take_of_length_le (by rw [List.length_drop]; omega)
  · rw [Nat.min_eq_right h, Nat.sub_self, List.take_zero, List.drop_eq_nil_of_le h]
def spUntil : Sp := fun vs H Q _ => ∃ (p c : Addr) (b : Int) (a : Addr) (rs : List Row), vs = [.ref p, .ref a] ∧ Pen H p c b ∧ b ≤ 1000000000 ∧ Ls H a (rs.map Row.d) ∧ rs ≠ [] ∧ rs.length ≤ 500 ∧ ∀ H' v u, Kp p H H' → Pen H' p c (b + 2) → UpV H' v u → Q v H'
theorem pick_yes {α : Type} {H1 H' : Hp} {D : Addr} {Y : List α} {p : α → Bool} {g : α → PyData} {i : Nat} {r : α} {v : V} (hD : H1 D = none) (hl : Y.length ≤ 900) (P : Same H1 H' ∧ Ls H' D (((Y.take i).filter p).map g)) (hr : Y[i]? = some r) (q : p r = true) (tv : Tp H' v (g r)) :
    ∃ acc, H' D = some (.lst acc) ∧ acc.length < sizeLine ∧ (Same H1 (upd H' D (.lst (acc ++ [v]))) ∧ Ls (upd H' D (.lst (acc ++ [v]))) D (((Y.take (i + 1)).filter p).map g)) := by
  obtain ⟨s, xs, hx, rx⟩ := P
  have hxl : xs.length ≤ 900 := by rw [rx.len, List.length_map]; have := List.length_filter_le p (Y.take i); have := List.length_take_le' i Y; omega
  refine ⟨xs, hx, small1000 (by omega), fun c o ec => by rw [upd_ne (ne_of_none ec hD)]; exact s _ _ ec, _, upd_same, ?_⟩
  rw [filter_step hr, if_pos q, List.map_append]
  have tk : TK H' (upd H' D (.lst (xs ++ [v]))) := TK.put hx (by intro z; exact nofun)
  exact (rx.to tk).snoc (tv.to tk)
theorem pick_no {α : Type} {H1 H' : Hp} {D : Addr} {Y : List α} {p : α → Bool} {g : α → PyData} {i : Nat} {r : α} (P : Same H1 H' ∧ Ls H' D (((Y.take i).filter p).map g)) (hr : Y[i]? = some r) (q : ¬ p r = true) :
    Same H1 H' ∧ Ls H' D (((Y.take (i + 1)).filter p).map g) := by
  obtain ⟨s, xs, hx, rx⟩ := P
  exact ⟨s, xs, hx, by rw [filter_step hr, if_neg q, List.append_nil]; exact rx⟩
theorem pick_zero {α : Type} {H1 : Hp} {D : Addr} {Y : List α} {p : α → Bool} {g : α → PyData} (hD : H1 D = none) : Same H1 (upd H1 D (.lst [])) ∧ Ls (upd H1 D (.lst [])) D (((Y.take 0).filter p).map g) :=
  ⟨Same.new hD, [], upd_same, by rw [List.take_zero]; exact .nil⟩
/-- the data of a list, one by one -/
theorem data_at {α : Type} {H : Hp} {xs : List V} {Y : List α} {g : α → PyData} {i : Nat} {x : V} (rx : TpAll H xs (Y.map g)) (hi : xs[i]? = some x) : ∃ r, Y[i]? = some r ∧ Tp H x (g r) := by
  obtain ⟨d, hd, tx⟩ := rx.getv hi
  rw [List.getElem?_map] at hd
  cases q : Y[i]? with
  | none => rw [q] at hd; cases hd
  | some r => rw [q] at hd; cases hd; exact ⟨r, rfl, tx⟩
def stOf (n : Mo) : Row → Bool
  | .st _ q _ => decide (q = n)
  | _ => false
def strikesL (rs : List Row) (n : Mo) (u : Option Mo) (ow : Bool) : List Row := (rs.filter fun r => upB r.mo u).filter fun r => stOf n r && (wholeB r || !ow)
def spRowOf : Sp := fun vs H Q _ => ∃ (a an : Addr) (r : Row) (rs : List Row), vs = [.ref a, .ref an] ∧ Ls H a (rs.map Row.d) ∧ H an = some (.tup [.int r.mo.1, .int r.mo.2]) ∧ r ∈ rs ∧ (rs.map Row.mo).Nodup ∧ rs.length ≤ 500 ∧ ∀ H' x, Same H H' → Tp H' x r.d → Q x H'
def spStrikesL : Sp := fun vs H Q _ => ∃ (a an : Addr) (n : Mo) (v : V) (u : Option Mo) (ow : Bool) (rs : List Row), vs = [.ref a, .ref an, v, .bl ow] ∧ Ls H a (rs.map Row.d) ∧ H an = some (.tup [.int n.1, .int n.2]) ∧ UpV H v u ∧ rs.length ≤ 500 ∧
  ∀ (H' : Hp) (l : Addr), Same H H' → H l = none → Ls H' l ((strikesL rs n u ow).map fun r => mD r.mo) → Q (.ref l) H'
def rankL (rs : List Row) (rk : Int) (u : Option Mo) : List Row := (rs.filter fun r => upB r.mo u).filter (rankB (some rk))
def spOfRank : Sp := fun vs H Q _ => ∃ (a : Addr) (rk : Int) (v : V) (u : Option Mo) (rs : List Row), vs = [.ref a, .int rk, v] ∧ Ls H a (rs.map Row.d) ∧ UpV H v u ∧ rs.length ≤ 500 ∧
  ∀ (H' : Hp) (l : Addr), Same H H' → H l = none → Ls H' l ((rankL rs rk u).map fun r => mD r.mo) → Q (.ref l) H'
theorem one_row {rs : List Row} (nd : (rs.map Row.mo).Nodup) {r : Row} (h : r ∈ rs) : rs.filter (fun x => decide (x.mo = r.mo)) = [r] := by
  induction rs with
  | nil => cases h
  | cons x rs ih =>
    rw [List.map_cons, List.nodup_cons] at nd
    rcases List.mem_cons.mp h with rfl | h
    · rw [List.filter_cons_of_pos (by simp)]
      congr 1
      exact List.filter_eq_nil_iff.mpr fun y hy z => nd.1 (by rw [← of_decide_eq_true z]; exact List.mem_map.mpr ⟨y, hy, rfl⟩)
    · rw [List.filter_cons_of_neg (by
        rw [decide_eq_true_eq]; intro z
        exact nd.1 (by rw [z]; exact List.mem_map.mpr ⟨r, h, rfl⟩))]
      exact ih nd.2 h
def takersL (rs : List Row) (rk : Int) (u : Option Mo) (n : Mo) (ws : List Str) : List Row := (rankL rs rk u).filter (takes rs u n ws)
def spTakersL : Sp := fun vs H Q _ => ∃ (a an : Addr) (n : Mo) (rk : Int) (ws ss : List Str) (lk : Option Mo) (v : V) (u : Option Mo) (rs : List Row), vs = [.ref a, .ref an, v] ∧ Ls H a (rs.map Row.d) ∧ H an = some (.tup [.int n.1, .int n.2]) ∧ Row.nm n rk ws ss lk ∈ rs ∧ UpV H v u ∧ rs.length ≤ 500 ∧ (rs.map Row.mo).Nodup ∧ (∀ r ∈ rs, RowW r) ∧
  ∀ (H' : Hp) (l : Addr), Same H H' → H l = none → Ls H' l ((takersL rs rk u n ws).map fun r => mD r.mo) → Q (.ref l) H'
/-- no whole strike, told two ways -/
theorem strikes_nil {rs : List Row} {u : Option Mo} {m : Mo} : strikesL rs m u true = [] ↔ wholeB' rs u m = false := by
  unfold strikesL wholeB'
  rw [List.filter_filter, List.filter_eq_nil_iff, List.any_eq_false]
  refine forall_congr' fun r => forall_congr' fun hr => not_congr ?_
  have e : (stOf m r && (wholeB r || !true) && upB r.mo u) = (decide (m ∈ r.names) && (upB r.mo u && wholeB r)) := by
    cases r with
    | st q x wh =>
      show (decide (x = m) && (wh || false) && upB q u) = (decide (m ∈ [x]) && (upB q u && wh))
      by_cases h : x = m
      · rw [decide_eq_true h, decide_eq_true (by rw [h]; exact List.mem_singleton.mpr rfl)]
        cases wh <;> cases upB q u <;> rfl
      · rw [decide_eq_false h, decide_eq_false (fun z => h (List.mem_singleton.mp z).symm)]; rfl
    | nm q x y z t => show (false && _ && _) = (_ && (_ && false)); simp
    | ch q x y => show (false && _ && _) = (_ && (_ && false)); simp
    | ah q x y => show (false && _ && _) = (_ && (_ && false)); simp
  rw [e]
theorem mo_nil {α : Type} (Y : List α) (g : α → Mo) : PyData.eqv (.list (Y.map fun r => mD (g r))) (.list []) = decide (Y = []) := by
  cases Y with
  | nil => rfl
  | cons x xs => simp [PyData.eqv, PyData.eqvAll]
section
variable {P : Program} {w : World} {K : PySem.W.Frag} {mg : Str → Option Value} {base : Heap} {C : Addr}
end
end KN


set_option Elab.async false
set_option linter.all false
set_option maxRecDepth 100000
set_option maxHeartbeats 4000000
namespace KN
open PySem L2
/-! The law's own look at a moment. -/
theorem call_isiK {X : Cx} (K : PySem.W.Frag) (h : X.K = K := by rfl) : CallR X (.builtin "isinstance") (rIsi K) := by subst h; exact call_isi
/-- a whole number or a truth -/
def flatN : PyData → Bool
  | .int _ => true
  | .bool _ => true
  | _ => false
def badN : PyData → Bool
  | .int _ => false
  | _ => true
theorem flat_tp {H : Hp} {v : V} {d : PyData} (h : Ob H v d) (f : flatN d = true) : Tp H v d := by
  cases h with
  | int i => exact .int i
  | bl b => exact .bl b
  | _ => cases f
theorem flat_shaped {ds : List PyData} (h : ∀ d ∈ ds, flatN d = true) : SeqAt.shaped (.list ds) = true := by
  have h1 : (PyData.list ds).canLay0 = true := by
    have e : (PyData.list ds).canLay0 = PyData.canLayAll0 ds := by simp [PyData.canLay0]
    rw [e]
    clear e
    induction ds with
    | nil => simp [PyData.canLayAll0]
    | cons d ds ih =>
      have hd := h d List.mem_cons_self
      have ih := ih fun x hx => h x (List.mem_cons_of_mem _ hx)
      cases d with
      | int i => simp [PyData.canLayAll0, PyData.canLay0, ih]
      | bool b => simp [PyData.canLayAll0, PyData.canLay0, ih]
      | _ => cases hd
  have h2 : (PyData.list ds).depth ≤ 64 := by
    have := depthAll_le (k := 1) (ds := ds) fun d hd => by
      have := h d hd
      cases d with
      | int i => simp [PyData.depth]
      | bool b => simp [PyData.depth]
      | _ => cases this
    simp only [PyData.depth]; omega
  unfold SeqAt.shaped
  rw [h1, decide_eq_true h2]; rfl
def spMomL : Sp := fun vs H Q _ => ∃ (v : V) (d : PyData), vs = [v] ∧ Ob H v d ∧ (∀ ds, d = .tuple ds → ∀ x ∈ ds, flatN x = true) ∧ ∀ H', Same H H' → Q (.bl (momB d)) H'
section
variable {P : Program} {w : World} {K : PySem.W.Frag} {mg : Str → Option Value} {base : Heap}
theorem sc__law_moment : FnScope ["_law_thing", "_law_one"] ["_law_thing"] (defScope s__law_moment) := ⟨rfl, rfl, rfl, by decide +kernel, rfl, by decide +kernel, by decide +kernel⟩
theorem ok__law_moment {f : Addr} {fd : FuncData} (F : Fun K "_law_moment" "_law_moment" s__law_moment f fd) (m_isinstance : mg "isinstance" = none) (m_tuple : mg "tuple" = none) (m_len : mg "len" = none) (m_int : mg "int" = none) (m_bool : mg "bool" = none) : FnOk P w K mg base CX0 1 f fd ["_law_thing"] spMomL := by
  refine F.ok sc__law_moment (fun vs H Q E h => ?_) (fun cdv A outer s H vs Q E hr h => ?_)
  · obtain ⟨v, d, rfl, _⟩ := h; rfl
  · obtain ⟨v, d, rfl, ob, fl, k⟩ := h
    have hu := hu_of hr
    refine ⟨_, (pss_cons (ps_if (PW.pt (pw_or (pt_not (pt_val (pe_callB call_isi (by rfl) m_isinstance (by decide +kernel) (pa_cons (pv 0) (pa_cons (pe_bltn (v := .ty "tuple") (u := .type "tuple") rfl m_tuple (by decide +kernel) rfl) pa_nil))))) (pw_or1 (pt_cmpR op_ne (pe_callB call_len_seq (by rfl) m_len (by decide +kernel) (pa_cons (pv 0) pa_nil)) pe_int (nomark _))))) (pss_one (ps_ret pe_bl)) pss_nil)
      (pss_cons (ps_if (pt_cmpR (op_neD hr.units) (pe_lc (own := [("_law_one", 1)]) (g := gName 1) rfl sc__law_moment.nd (pi_tup (pv 0)) (blkOk_by (own := [("_law_one", 1)]) (N := ["_law_thing", "_law_one"]) (sc := defScope s__law_moment) (by decide +kernel)) (fun _ _ _ _ _ => pg_name (i := 1) sc__law_moment.nd rfl (Or.inl rfl)) (fun _ _ _ _ _ => (pts_one (PW.pt (pw_or (pt_not (pt_val (pe_callB (call_isiK K) (by rfl) m_isinstance (by decide +kernel) (pa_cons (pv 1) (pa_cons (pe_bltn (v := .ty "int") (u := .type "int") rfl m_int (by decide +kernel) rfl) pa_nil))))) (pw_or1 (pt_val (pe_callB (call_isiK K) (by rfl) m_isinstance (by decide +kernel) (pa_cons (pv 1) (pa_cons (pe_bltn (v := .ty "bool") (u := .type "bool") rfl m_bool (by decide +kernel) rfl) pa_nil))))))))) (fun _ _ _ _ _ => (pv 1))) (pe_lst pa_nil) (nomark _)) (pss_one (ps_ret pe_bl)) pss_nil)
      (pss_one (ps_ret (pe_and (pe_chain op_le op_le pe_int (pe_ix ix_tup (pv 0) pe_int (fun _ _ => rfl)) (pe_op op_pow pe_int pe_int)) (pe_one (pe_chain op_le op_le pe_int (pe_ix ix_tup (pv 0) pe_int (fun _ _ => rfl)) (pe_op op_pow pe_int pe_int)))))))), ?_⟩
    obtain ⟨t, S⟩ := ob.sort (K := K)
    refine ⟨_, rfl, _, _, _, _, _, rfl, .ty _, S.ty, S.tp, _, rfl, ?_⟩
    cases et : isTp d with
    | false =>
      have e : momB d = false := by cases d <;> first | rfl | cases et
      refine iteT (iteT ?_)
      rw [← e]; exact k H (Same.refl H)
    | true =>
      obtain ⟨a, xs, ds, rfl, rfl, ha, hs⟩ := ob.of_tp et
      refine iteF ?_
      refine ⟨_, rfl, _, _, rfl, .inr (SqT.of ha), rfl, _, rfl, ?_⟩
      by_cases h2 : xs.length = 2
      · obtain ⟨x, y, d1, d2, rfl, rfl, o1, o2⟩ := two_of hs h2
        refine iteF ?_
        have f1 : flatN d1 = true := fl _ rfl _ (by simp)
        have f2 : flatN d2 = true := fl _ rfl _ (by simp)
        refine ⟨_, rfl, a, rfl, ⟨_, SqT.of ha⟩, fun D hD => ?_⟩
        refine lc_tup (K := K) (a := a) (xs := [x, y]) (fun j H' => Same H H' ∧ Ls H' D ((([d1, d2].take j).filter badN).map fun d => d)) (pick_zero hD) (fun j H' _ q => SqT.of (q.1 _ _ ha)) ?_ ?_
        · rintro j z H5 hj P5
          obtain ⟨d, hd, tz, fd⟩ : ∃ d, [d1, d2][j]? = some d ∧ Tp H z d ∧ flatN d = true := by
            match j, hj with
            | 0, hj => cases hj; exact ⟨d1, rfl, flat_tp o1 f1, f1⟩
            | 1, hj => cases hj; exact ⟨d2, rfl, flat_tp o2 f2, f2⟩
          have tz := tz.to (TK.of P5.1)
          cases d with
          | int q =>
            cases Tp.int_inv tz
            refine ⟨rfl, _, rfl, _, _, _, _, true, rfl, .ty _, .base (.int q), kit_ty (by decide +kernel), _, rfl, ?_⟩
            refine iteF ?_
            refine ⟨_, rfl, _, _, _, _, false, rfl, .ty _, .base (.int q), kit_ty (by decide +kernel), _, rfl, ?_⟩
            refine iteF ?_
            exact pick_no P5 hd (by simp [badN])
          | bool q =>
            cases tz
            refine ⟨rfl, _, rfl, _, _, _, _, true, rfl, .ty _, .base (.bl q), kit_ty (by decide +kernel), _, rfl, ?_⟩
            refine iteF ?_
            refine ⟨_, rfl, _, _, _, _, true, rfl, .ty _, .base (.bl q), kit_ty (by decide +kernel), _, rfl, ?_⟩
            refine iteT ?_
            exact ⟨_, rfl, pick_yes hD (by simp) P5 hd rfl (.bl q)⟩
          | _ => cases fd
        rintro H5 ⟨s5, lsB⟩
        have lsB : Ls H5 D ([d1, d2].filter badN) := by simpa using lsB
        refine ⟨Nat.zero_le _, fun Z hZ => ?_⟩
        have sZ : Same H5 (upd H5 Z (.lst [])) := Same.new hZ
        have lsZ : Ls (upd H5 Z (.lst [])) Z [] := ⟨_, upd_same, .nil⟩
        generalize (upd H5 Z (.lst [])) = H6 at sZ lsZ
        refine ⟨_, _, (lsB.to sZ).dp, lsZ.dp, flat_shaped fun d hd => ?_, rfl, _, rfl, ?_⟩
        · rcases List.mem_cons.mp (List.mem_filter.mp hd).1 with rfl | h
          · exact f1
          · rw [List.mem_singleton.mp h]; exact f2
        have s06 := s5.trans sZ
        have bad : ∀ {x y : PyData}, momB (.tuple [x, y]) = (numB 0 1000000000000 x && numB 1 1000000000000 y) := rfl
        have no : ∀ (z : PyData) (zs : List PyData), (PyData.list (z :: zs)).eqv (PyData.list []) = false := fun z zs => by simp [PyData.eqv, PyData.eqvAll]
        cases d1 with
        | int i =>
          cases d2 with
          | int j =>
            refine iteF ?_
            cases o1
            cases o2
            have ha6 := s06 _ _ ha
            have pw : (10 : Int) ^ (12 : Int).toNat = 1000000000000 := by decide
            have e : momB (.tuple [.int i, .int j]) = ((decide (0 ≤ i) && decide (i ≤ 1000000000000)) && (decide (1 ≤ j) && decide (j ≤ 1000000000000))) := rfl
            rw [e] at k
            refine ⟨_, rfl, _, _, _, _, rfl, rfl, SqT.of ha6, at_of (j := 0) rfl rfl, _, _, rfl, rfl, _, rfl, ?_⟩
            by_cases h0 : 0 ≤ i
            · rw [decide_eq_true h0] at k ⊢
              refine iteT ?_
              refine ⟨_, _, rfl, rfl, ⟨by decide, by decide, by decide⟩, _, _, rfl, rfl, ?_⟩
              rw [pw]
              refine ⟨_, rfl, ?_⟩
              by_cases h1 : i ≤ 1000000000000
              · rw [decide_eq_true h1] at k ⊢
                refine iteT ?_
                refine ⟨_, rfl, _, _, _, _, rfl, rfl, SqT.of ha6, at_of (j := 1) rfl rfl, _, _, rfl, rfl, _, rfl, ?_⟩
                by_cases h2 : 1 ≤ j
                · rw [decide_eq_true h2] at k ⊢
                  refine iteT ?_
                  refine ⟨_, _, rfl, rfl, ⟨by decide, by decide, by decide⟩, _, _, rfl, rfl, ?_⟩
                  rw [pw]
                  exact k H6 s06
                · rw [decide_eq_false h2] at k ⊢
                  exact iteF (k H6 s06)
              · rw [decide_eq_false h1] at k ⊢
                exact iteF (k H6 s06)
            · rw [decide_eq_false h0] at k ⊢
              refine iteF ?_
              exact ⟨_, rfl, iteF (k H6 s06)⟩
          | bool q =>
            have ef : [PyData.int i, .bool q].filter badN = [.bool q] := by simp [List.filter, badN]
            rw [ef, no]
            refine iteT ?_
            have e : momB (.tuple [.int i, .bool q]) = false := by rw [bad]; simp [numB]
            rw [← e]; exact k H6 s06
          | _ => cases f2
        | bool q =>
          have ef : [PyData.bool q, d2].filter badN = .bool q :: [d2].filter badN := by simp [List.filter, badN]
          rw [ef, no]
          refine iteT ?_
          have e : momB (.tuple [.bool q, d2]) = false := by rw [bad]; simp [numB]
          rw [← e]; exact k H6 s06
        | _ => cases f1
      · have e0 : decide (V.int (xs.length : Int) = V.int 2) = false := decide_eq_false fun z => by injection z with z; omega
        rw [show decide (V.int (xs.length : Int) = V.int 2) = false from e0]
        refine iteT ?_
        have e : momB (.tuple ds) = false := momB_not (by rw [← hs.len]; exact h2)
        rw [← e]; exact k H (Same.refl H)
end
end KN


set_option Elab.async false
set_option linter.all false
set_option maxRecDepth 100000
set_option maxHeartbeats 4000000
namespace KN
open PySem L2
theorem op_neDK {X : Cx} (K : PySem.W.Frag) (hu : X.A.units + 64 < cLine) (h : X.K = K := by rfl) : OpR X (compareOp .NotEq) (rNeD K) := by subst h; exact op_neD hu
theorem call_len_seqK {X : Cx} (K : PySem.W.Frag) (h : X.K = K := by rfl) : CallR X (.builtin "len") (fun xs H Q => ∃ p ys, xs = [.ref p] ∧ (SqL K H p ys ∨ SqT K H p ys) ∧ Q (.int ys.length) H) := by subst h; exact call_len_seq
theorem shareH {B S : Hp → Prop} {P : Prop} (h : (∀ H, S H → B H) → P) (g : ∀ H, S H → B H) : P := h g
theorem getD_some {α : Type} {xs : List α} {i : Nat} (d : α) (h : i < xs.length) : xs[i]? = some (xs.getD i d) := by
  rw [List.getD_eq_getElem?_getD, List.getElem?_eq_getElem h]; rfl
theorem str_at {ss : List Str} {r : Int} (h0 : 0 ≤ r) (h1 : r < ss.length) : atI (ss.map V.str) r = some (.str (ss.getD r.toNat "")) := by
  refine at_ofG h0 ?_
  rw [List.getElem?_map, getD_some ("" : Str) (by omega)]; rfl
theorem isW_at {ss : List Str} (h : ∀ s ∈ ss, IsW s) {r : Nat} (k : r < ss.length) : IsW (ss.getD r "") := h _ (List.mem_of_getElem? (getD_some ("" : Str) k))
theorem z3_at {d : Int} {r : Int} (h : 0 ≤ r) (k : r < 3) : ∃ f : Int, atI [V.int 0, V.int 0, V.int d] r = some (.int f) ∧ (f = 0 ∨ f = d) := by
  have : r = 0 ∨ r = 1 ∨ r = 2 := by omega
  rcases this with rfl | rfl | rfl
  · exact ⟨_, rfl, .inl rfl⟩
  · exact ⟨_, rfl, .inl rfl⟩
  · exact ⟨_, rfl, .inr rfl⟩
theorem Pen.kb {H H' : Hp} {p c : Addr} {b : Int} (h : Pen H p c b) (k : Kp p H H') : KB H H' :=
  let ⟨_, _, _, e1, _⟩ := h
  KB.kp k e1
theorem Ls.kp {H H' : Hp} {p c a : Addr} {b : Int} {ds : List PyData} (h : Ls H a ds) (pen : Pen H p c b) (k : Kp p H H') : Ls H' a ds :=
  let ⟨xs, e, r⟩ := h
  ⟨xs, k _ _ (pen.ne e) e, r.to (pen.tk k)⟩
/-- some texts of a lot, from a place on, round -/
def roundL (lot : List Str) (at_ : Int) (many : Nat) : List Str := (List.range many).map fun (j : Nat) => lot.getD ((at_ + (0 + (j : Int))) % (lot.length : Int)).toNat ""
theorem okD_nm {r : Row} (h : RowW r) (hn : r.isNm = true) : okD r.d = true ∧ r.d.depth ≤ 60 := by
  cases r with
  | nm m rk ws ss lk =>
    have h1 := okD_ws h.2.1
    have h2 := okD_ws h.2.2.1
    have h3 : PyData.strOk (Str.ofString "name") = true := by decide +kernel
    have h4 : okD (oD lk) = true := by cases lk <;> rfl
    have d1 := depth_ws ws
    have d2 := depth_ws ss
    have d3 : (oD lk).depth ≤ 2 := by cases lk <;> simp [oD, mD, PyData.depth, PyData.depthAll]
    refine ⟨?_, ?_⟩
    · show okDs [.str "name", mD m, .int rk, .tuple (ws.map PyData.str), .tuple (ss.map PyData.str), oD lk] = true
      simp only [okDs]
      rw [h1, h2, h4, okD_m]
      simp only [okD, h3]; rfl
    · show (PyData.tuple [.str "name", mD m, .int rk, .tuple (ws.map PyData.str), .tuple (ss.map PyData.str), oD lk]).depth ≤ 60
      have d4 : (mD m).depth ≤ 2 := by simp [mD, PyData.depth, PyData.depthAll]
      have := depthAll_le (k := 2) (ds := [.str "name", mD m, .int rk, .tuple (ws.map PyData.str), .tuple (ss.map PyData.str), oD lk]) fun d hd => by
        rcases List.mem_cons.mp hd with rfl | hd
        · simp [PyData.depth]
        rcases List.mem_cons.mp hd with rfl | hd
        · exact d4
        rcases List.mem_cons.mp hd with rfl | hd
        · simp [PyData.depth]
        rcases List.mem_cons.mp hd with rfl | hd
        · exact d1
        rcases List.mem_cons.mp hd with rfl | hd
        · exact d2
        rw [List.mem_singleton] at hd; subst hd; exact d3
      simp only [PyData.depth] at this ⊢; omega
  | _ => cases hn
theorem shaped_nms {N : List Row} (h : ∀ r ∈ N, RowW r ∧ r.isNm = true) : SeqAt.shaped (.list (N.map Row.d)) = true := shaped_list fun d hd => by
  obtain ⟨r, hr, rfl⟩ := List.mem_map.mp hd
  exact okD_nm (h r hr).1 (h r hr).2
theorem rows_nil (Y : List Row) : PyData.eqv (.list (Y.map Row.d)) (.list []) = decide (Y = []) := by
  cases Y with
  | nil => rfl
  | cons x xs => simp [PyData.eqv, PyData.eqvAll]
theorem share {B P : Prop} (h : B → P) (b : B) : P := h b
def ownB : Row → Bool
  | .nm _ _ _ ss _ => !decide (ss = [])
  | _ => false
def alikeB (n : Mo) (rk : Int) : Row → Bool
  | .nm m r _ _ _ => decide (r = rk) && !decide (m = n)
  | _ => false
structure Good (rs : List Row) : Prop where
  W : ∀ r ∈ rs, RowW r
  ok : ∀ r ∈ rs, MoOk r.mo
  rk : ∀ m rk ws ss lk, Row.nm m rk ws ss lk ∈ rs → 0 ≤ rk ∧ rk ≤ 5
  own : (∃ r ∈ rs, r.isNm = true) → ∃ m rk ws ss lk, Row.nm m rk ws ss lk ∈ rs ∧ ss ≠ []
theorem Good.add {rs : List Row} {r : Row} (G : Good rs) (hW : RowW r) (hok : MoOk r.mo) (hrk : ∀ m rk ws ss lk, r = Row.nm m rk ws ss lk → 0 ≤ rk ∧ rk ≤ 5)
    (hown : r.isNm = true → (∃ m rk ws ss lk, r = Row.nm m rk ws ss lk ∧ ss ≠ []) ∨ ∃ x ∈ rs, x.isNm = true) : Good (rs ++ [r]) := by
  refine ⟨fun x hx => ?_, fun x hx => ?_, fun m rk ws ss lk hx => ?_, ?_⟩
  · rcases List.mem_append.mp hx with h | h
    · exact G.W x h
    · rw [List.mem_singleton] at h; subst h; exact hW
  · rcases List.mem_append.mp hx with h | h
    · exact G.ok x h
    · rw [List.mem_singleton] at h; subst h; exact hok
  · rcases List.mem_append.mp hx with h | h
    · exact G.rk _ _ _ _ _ h
    · rw [List.mem_singleton] at h; exact hrk _ _ _ _ _ h.symm
  · rintro ⟨x, hx, hn⟩
    have old : (∃ x ∈ rs, x.isNm = true) → ∃ m rk ws ss lk, Row.nm m rk ws ss lk ∈ rs ++ [r] ∧ ss ≠ [] := fun h => by
      obtain ⟨m, rk, ws, ss, lk, h1, h2⟩ := G.own h
      exact ⟨m, rk, ws, ss, lk, List.mem_append_left _ h1, h2⟩
    rcases List.mem_append.mp hx with h | h
    · exact old ⟨x, h, hn⟩
    · rw [List.mem_singleton] at h; subst h
      rcases hown hn with ⟨m, rk, ws, ss, lk, e, h2⟩ | h
      · exact ⟨m, rk, ws, ss, lk, List.mem_append_right _ (by rw [e]; exact List.mem_singleton.mpr rfl), h2⟩
      · exact old h
theorem round_ok {lot : List Str} {at_ : Int} {many : Nat} (a0 : 0 ≤ at_) (m1 : 1 ≤ many) (m3 : many ≤ 3) (ll : lot.length = 6) (nd : lot.Nodup) (wl : ∀ s ∈ lot, IsW s) : SheetsOk (roundL lot at_ many) := by
  have hlen : (roundL lot at_ many).length = many := by unfold roundL; rw [List.length_map, List.length_range]
  have bnd : ∀ j : Nat, 0 ≤ (at_ + (0 + (j : Int))) % (lot.length : Int) ∧ (at_ + (0 + (j : Int))) % (lot.length : Int) < 6 := fun j => by rw [ll]; omega
  refine ⟨fun z => by rw [z] at hlen; simp at hlen; omega, by omega, ?_, fun s hs => ?_⟩
  · refine nd_of fun i j s u ij hi hj e => ?_
    subst e
    have hj' := (List.getElem?_eq_some_iff.mp hj).1
    rw [hlen] at hj'
    unfold roundL at hi hj
    rw [List.getElem?_map, List.getElem?_range (by omega)] at hi hj
    have e : lot.getD ((at_ + (0 + (i : Int))) % (lot.length : Int)).toNat ("" : Str) = lot.getD ((at_ + (0 + (j : Int))) % (lot.length : Int)).toNat ("" : Str) := (Option.some.inj hi).trans (Option.some.inj hj).symm
    have b1 := bnd i
    have b2 := bnd j
    have h1 := getD_some (xs := lot) ("" : Str) (i := ((at_ + (0 + (i : Int))) % (lot.length : Int)).toNat) (by omega)
    have h2 := getD_some (xs := lot) ("" : Str) (i := ((at_ + (0 + (j : Int))) % (lot.length : Int)).toNat) (by omega)
    rw [e] at h1
    obtain ⟨p1, q1⟩ := List.getElem?_eq_some_iff.mp h1
    obtain ⟨p2, q2⟩ := List.getElem?_eq_some_iff.mp h2
    have := (List.getElem_inj nd).mp (q1.trans q2.symm)
    rw [ll] at this b1 b2
    omega
  · unfold roundL at hs
    obtain ⟨j, _, rfl⟩ := List.mem_map.mp hs
    exact isW_at wl (by have := bnd j; omega)
def spRecord : Sp := fun vs H Q _ => ∃ (p c : Addr) (b : Int) (a am fa oa la : Addr) (m : Mo) (rs : List Row) (fs os lot : List Str), vs = [.ref p, .ref a, .ref am, .ref fa, .ref oa, .ref la] ∧ Pen H p c b ∧ b ≤ 100000000 ∧ Ls H a (rs.map Row.d) ∧ H am = some (.tup [.int m.1, .int m.2]) ∧
  H fa = some (.lst (fs.map V.str)) ∧ H oa = some (.lst (os.map V.str)) ∧ H la = some (.lst (lot.map V.str)) ∧ fs.length = 2 ∧ os.length = 3 ∧ lot.length = 6 ∧ lot.Nodup ∧ (∀ s ∈ fs, IsW s) ∧ (∀ s ∈ os, IsW s) ∧ (∀ s ∈ lot, IsW s) ∧ MoOk m ∧ rs.length ≤ 40 ∧ Good rs ∧ (∀ r ∈ rs, mLt r.mo m) ∧
  ∀ H' v r, Kp p H H' → Pen H' p c (b + 20) → Tp H' v r.d → r.mo = m → CanTell rs r → Good (rs ++ [r]) → Q v H'
section
variable {P : Program} {w : World} {K : PySem.W.Frag} {mg : Str → Option Value} {base : Heap}
theorem sc__law_record : FnScope ["_law_pen_here", "_law_rows", "_law_moment_here", "_law_firsts", "_law_owns", "_law_lot", "_law_names_here", "_law_way", "_law_many", "_law_at", "_law_some", "_law_one", "_law_level", "_law_own", "_law_base", "_law_alike", "_law_row", "_law_j"] ["_law_pen_here", "_law_rows", "_law_moment_here", "_law_firsts", "_law_owns", "_law_lot"] (defScope s__law_record) := ⟨rfl, rfl, rfl, by decide +kernel, rfl, by decide +kernel, by decide +kernel⟩
theorem ok__law_record {f : Addr} {fd : FuncData} (F : Fun K "_law_record" "_law_record" s__law_record f fd) (m_len : mg "len" = none) (m_tuple : mg "tuple" = none) (m_range : mg "range" = none) (m_min : mg "min" = none) (c__law_draw : C8.Cal P w K mg base 1 "_law_draw" spDraw []) : FnOk P w K mg base CX0 2 f fd ["_law_pen_here", "_law_rows", "_law_moment_here", "_law_firsts", "_law_owns", "_law_lot"] spRecord := by
  refine F.ok sc__law_record (fun vs H Q E h => ?_) (fun cdv A outer s H vs Q E hr h => ?_)
  · obtain ⟨p, c, b, a, am, fa, oa, la, m, rs, fs, os, lot, rfl, _⟩ := h; rfl
  · obtain ⟨p, c, b, a, am, fa, oa, la, m, rs, fs, os, lot, rfl, pen, hb, hls, ham, hfa, hoa, hla, lf, lo, ll, ndl, wf, wo, wl, hmo, h40, G, hlt, k⟩ := h
    refine ⟨_, (pss_cons (ps_setLc (i := 6) (own := [("_law_row", 16)]) (g := gName 16) rfl sc__law_record.nd rfl rfl (sw_true rfl rfl rfl (by decide +kernel)) (pi_list (pv 1)) (blkOk_by (own := [("_law_row", 16)]) (N := ["_law_pen_here", "_law_rows", "_law_moment_here", "_law_firsts", "_law_owns", "_law_lot", "_law_names_here", "_law_way", "_law_many", "_law_at", "_law_some", "_law_one", "_law_level", "_law_own", "_law_base", "_law_alike", "_law_row", "_law_j"]) (sc := defScope s__law_record) (by decide +kernel)) (fun _ _ _ _ _ => pg_name (i := 16) sc__law_record.nd rfl (Or.inl rfl)) (fun _ _ _ _ _ => (pts_one (pt_cmpR op_eq (pe_ix (ix_tupK K) (pv 16) pe_int (fun _ _ => rfl)) pe_str (nomark _)))) (fun _ _ _ _ _ => (pv 16)))
      (pss_cons (ps_set (i := 7) sc__law_record.nd rfl (Or.inl rfl) (C8.pe_c c__law_draw hr (by decide) rfl (pa_cons (pv 0) (pa_cons pe_int pa_nil))))
      (pss_cons (ps_if (PW.pt (pw_or (pt_cmpR op_lt (pv 7) pe_int (nomark _)) (pw_or1 (pt_cmpR (op_eqD hr.units) (pv 6) (pe_lst pa_nil) (nomark _))))) (pss_cons (ps_set (i := 8) sc__law_record.nd rfl (Or.inl rfl) (pe_op op_add pe_int (pe_ix ix_list (pe_lst (pa_cons pe_int (pa_cons pe_int (pa_cons (C8.pe_c c__law_draw hr (by decide) rfl (pa_cons (pv 0) (pa_cons pe_int pa_nil))) pa_nil)))) (C8.pe_c c__law_draw hr (by decide) rfl (pa_cons (pv 0) (pa_cons pe_int pa_nil))) (fun _ _ => rfl))))
      (pss_cons (ps_set (i := 9) sc__law_record.nd rfl (Or.inr rfl) (C8.pe_c c__law_draw hr (by decide) rfl (pa_cons (pv 0) (pa_cons (pe_callB call_len_seq (by rfl) m_len (by decide +kernel) (pa_cons (pv 5) pa_nil)) pa_nil))))
      (pss_cons (ps_set (i := 10) sc__law_record.nd rfl (Or.inl rfl) (pe_callTy call_tuple_of (by rfl) m_tuple (by decide +kernel) (pa_cons (pe_lc (own := [("_law_j", 17)]) (g := gName 17) (tt := tYes) rfl sc__law_record.nd (pi_range1 rfl m_range (pa_cons (pv 8) pa_nil)) (blkOk_by (own := [("_law_j", 17)]) (N := ["_law_pen_here", "_law_rows", "_law_moment_here", "_law_firsts", "_law_owns", "_law_lot", "_law_names_here", "_law_way", "_law_many", "_law_at", "_law_some", "_law_one", "_law_level", "_law_own", "_law_base", "_law_alike", "_law_row", "_law_j"]) (sc := defScope s__law_record) (by decide +kernel)) (fun _ _ _ _ _ => pg_name (i := 17) sc__law_record.nd rfl (Or.inl rfl)) (fun _ _ _ _ _ => pts_nil) (fun _ _ _ _ _ => (pe_ix (ix_listK K) (pv 5) (pe_op op_mod (pe_op op_add (pv 9) (pv 17)) (pe_callB (call_len_seqK K) (by rfl) m_len (by decide +kernel) (pa_cons (pv 5) pa_nil))) (fun _ _ => rfl)))) pa_nil)))
      (pss_one (ps_ret (pe_tup (pa_cons pe_str (pa_cons (pv 2) (pa_cons pe_int (pa_cons (pe_tup (pa_cons (pe_ix ix_list (pv 3) (C8.pe_c c__law_draw hr (by decide) rfl (pa_cons (pv 0) (pa_cons pe_int pa_nil))) (fun _ _ => rfl)) (pa_cons (pe_ix ix_list (pv 4) (C8.pe_c c__law_draw hr (by decide) rfl (pa_cons (pv 0) (pa_cons pe_int pa_nil))) (fun _ _ => rfl)) pa_nil))) (pa_cons (pv 10) (pa_cons pe_non pa_nil)))))))))))) pss_nil)
      (pss_cons (ps_set (i := 11) sc__law_record.nd rfl (Or.inr rfl) (pe_ix ix_list (pv 6) (C8.pe_c c__law_draw hr (by decide) rfl (pa_cons (pv 0) (pa_cons (pe_callB call_len_seq (by rfl) m_len (by decide +kernel) (pa_cons (pv 6) pa_nil)) pa_nil))) (fun _ _ => rfl)))
      (pss_cons (ps_if (PW.pt (pw_and (pt_cmpR op_eq (pv 7) pe_int (nomark _)) (pw_and1 (pt_cmpR op_eq (pe_ix ix_tup (pv 11) pe_int (fun _ _ => rfl)) pe_int (nomark _))))) (pss_one (ps_ret (pe_tup (pa_cons pe_str (pa_cons (pv 2) (pa_cons pe_int (pa_cons (pe_tup (pa_cons (pe_ix ix_list (pv 3) (C8.pe_c c__law_draw hr (by decide) rfl (pa_cons (pv 0) (pa_cons pe_int pa_nil))) (fun _ _ => rfl)) (pa_cons (pe_ix ix_list (pv 4) (C8.pe_c c__law_draw hr (by decide) rfl (pa_cons (pv 0) (pa_cons pe_int pa_nil))) (fun _ _ => rfl)) pa_nil))) (pa_cons (pe_tup pa_nil) (pa_cons (pe_ix ix_tup (pv 11) pe_int (fun _ _ => rfl)) pa_nil))))))))) pss_nil)
      (pss_cons (ps_if (PW.pt (pw_and (pt_cmpR op_lt (pv 7) pe_int (nomark _)) (pw_and1 (pt_cmpR op_lt (pe_ix ix_tup (pv 11) pe_int (fun _ _ => rfl)) pe_int (nomark _))))) (pss_cons (ps_set (i := 12) sc__law_record.nd rfl (Or.inl rfl) (pe_callB (call_min2 rfl) (by rfl) m_min (by decide +kernel) (pa_cons pe_int (pa_cons (pe_op op_add (pe_op op_add (pe_ix ix_tup (pv 11) pe_int (fun _ _ => rfl)) pe_int) (pe_ix ix_list (pe_lst (pa_cons pe_int (pa_cons pe_int (pa_cons (C8.pe_c c__law_draw hr (by decide) rfl (pa_cons (pv 0) (pa_cons pe_int pa_nil))) pa_nil)))) (C8.pe_c c__law_draw hr (by decide) rfl (pa_cons (pv 0) (pa_cons pe_int pa_nil))) (fun _ _ => rfl))) pa_nil))))
      (pss_one (ps_ret (pe_tup (pa_cons pe_str (pa_cons (pv 2) (pa_cons (pv 12) (pa_cons (pe_tup (pa_cons (pe_ix ix_list (pv 3) (C8.pe_c c__law_draw hr (by decide) rfl (pa_cons (pv 0) (pa_cons pe_int pa_nil))) (fun _ _ => rfl)) pa_nil)) (pa_cons (pe_tup pa_nil) (pa_cons (pe_ix ix_tup (pv 11) pe_int (fun _ _ => rfl)) pa_nil)))))))))) pss_nil)
      (pss_cons (ps_if (pt_cmpR op_eq (pv 7) pe_int (nomark _)) (pss_cons (ps_setLc (i := 13) (own := [("_law_row", 16)]) (g := gName 16) rfl sc__law_record.nd rfl rfl (sw_true rfl rfl rfl (by decide +kernel)) (pi_list (pv 6)) (blkOk_by (own := [("_law_row", 16)]) (N := ["_law_pen_here", "_law_rows", "_law_moment_here", "_law_firsts", "_law_owns", "_law_lot", "_law_names_here", "_law_way", "_law_many", "_law_at", "_law_some", "_law_one", "_law_level", "_law_own", "_law_base", "_law_alike", "_law_row", "_law_j"]) (sc := defScope s__law_record) (by decide +kernel)) (fun _ _ _ _ _ => pg_name (i := 16) sc__law_record.nd rfl (Or.inl rfl)) (fun _ _ _ _ _ => (pts_one (pt_cmpR (op_neDK K hr.units) (pe_ix (ix_tupK K) (pv 16) pe_int (fun _ _ => rfl)) (pe_tup pa_nil) (nomark _)))) (fun _ _ _ _ _ => (pv 16)))
      (pss_cons (ps_set (i := 14) sc__law_record.nd rfl (Or.inl rfl) (pe_ix ix_list (pv 13) (C8.pe_c c__law_draw hr (by decide) rfl (pa_cons (pv 0) (pa_cons (pe_callB call_len_seq (by rfl) m_len (by decide +kernel) (pa_cons (pv 13) pa_nil)) pa_nil))) (fun _ _ => rfl)))
      (pss_one (ps_ret (pe_tup (pa_cons pe_str (pa_cons (pv 2) (pa_cons (pe_ix ix_tup (pv 14) pe_int (fun _ _ => rfl)) (pa_cons (pe_ix ix_tup (pe_ix ix_tup (pv 14) pe_int (fun _ _ => rfl)) (C8.pe_c c__law_draw hr (by decide) rfl (pa_cons (pv 0) (pa_cons (pe_callB call_len_seq (by rfl) m_len (by decide +kernel) (pa_cons (pe_ix ix_tup (pv 14) pe_int (fun _ _ => rfl)) pa_nil)) pa_nil))) (fun _ _ => rfl)) pa_nil))))))))) pss_nil)
      (pss_cons (ps_setLc (i := 15) (own := [("_law_row", 16)]) (g := gName 16) rfl sc__law_record.nd rfl rfl (sw_true rfl rfl rfl (by decide +kernel)) (pi_list (pv 6)) (blkOk_by (own := [("_law_row", 16)]) (N := ["_law_pen_here", "_law_rows", "_law_moment_here", "_law_firsts", "_law_owns", "_law_lot", "_law_names_here", "_law_way", "_law_many", "_law_at", "_law_some", "_law_one", "_law_level", "_law_own", "_law_base", "_law_alike", "_law_row", "_law_j"]) (sc := defScope s__law_record) (by decide +kernel)) (fun _ _ _ _ _ => pg_name (i := 16) sc__law_record.nd rfl (Or.inl rfl)) (fun _ _ _ _ _ => (pts_one (PW.pt (pw_and (pt_cmpR op_eq (pe_ix (ix_tupK K) (pv 16) pe_int (fun _ _ => rfl)) (pe_ix (ix_tupK K) (pv 11) pe_int (fun _ _ => rfl)) (nomark _)) (pw_and1 (pt_cmpR (op_neDK K hr.units) (pe_ix (ix_tupK K) (pv 16) pe_int (fun _ _ => rfl)) (pe_ix (ix_tupK K) (pv 11) pe_int (fun _ _ => rfl)) (nomark _))))))) (fun _ _ _ _ _ => (pe_ix (ix_tupK K) (pv 16) pe_int (fun _ _ => rfl))))
      (pss_cons (ps_if (PW.pt (pw_or (pt_cmpR op_eq (pv 7) pe_int (nomark _)) (pw_or1 (pt_cmpR (op_eqD hr.units) (pv 15) (pe_lst pa_nil) (nomark _))))) (pss_one (ps_ret (pe_tup (pa_cons pe_str (pa_cons (pv 2) (pa_cons (pe_ix ix_tup (pv 11) pe_int (fun _ _ => rfl)) (pa_cons (pe_cmpR op_eq (C8.pe_c c__law_draw hr (by decide) rfl (pa_cons (pv 0) (pa_cons pe_int pa_nil))) pe_int (nomark _)) pa_nil))))))) pss_nil)
      (pss_one (ps_ret (pe_tup (pa_cons pe_str (pa_cons (pv 2) (pa_cons (pe_ix ix_tup (pv 11) pe_int (fun _ _ => rfl)) (pa_cons (pe_ix ix_list (pv 15) (C8.pe_c c__law_draw hr (by decide) rfl (pa_cons (pv 0) (pa_cons (pe_callB call_len_seq (by rfl) m_len (by decide +kernel) (pa_cons (pv 15) pa_nil)) pa_nil))) (fun _ _ => rfl)) pa_nil)))))))))))))))), ?_⟩
    obtain ⟨xs, hx, rx⟩ := id hls
    have hxl : xs.length = rs.length := by rw [rx.len, List.length_map]
    refine ⟨_, rfl, a, rfl, ⟨_, SqL.of hx⟩, fun D hD => ?_⟩
    refine lc_list (K := K) (a := a) (xs := xs) (fun i H' => Same H H' ∧ Ls H' D (((rs.take i).filter Row.isNm).map Row.d)) (pick_zero hD) (fun i H' _ q => SqL.of (q.1 _ _ hx)) ?_ ?_
    · rintro i x H' hi Pi
      obtain ⟨r2, hr2, t0⟩ := data_at rx hi
      have t1 := t0.to (TK.of Pi.1)
      obtain ⟨t, ys, rfl, ht, ry⟩ := Tp.inv (id t1)
      obtain ⟨v0, a0, t0'⟩ := Tp.at (K := K) ht ry r2.ds0
      cases Tp.str_inv t0'
      refine ⟨rfl, _, rfl, _, _, _, _, rfl, rfl, SqT.of ht, a0, rfl, _, rfl, ?_⟩
      rw [sort_nm]
      refine ite2 (fun q => ?_) (fun q => pick_no Pi hr2 q)
      exact ⟨_, rfl, pick_yes hD (by omega) Pi hr2 q t1⟩
    rintro H1 ⟨s1, lsN⟩
    rw [hxl, List.take_length] at lsN
    have memN : ∀ r, r ∈ rs.filter Row.isNm ↔ r ∈ rs ∧ r.isNm = true := fun r => List.mem_filter
    have hNl : (rs.filter Row.isNm).length ≤ 40 := Nat.le_trans (List.length_filter_le _ _) h40
    generalize rs.filter Row.isNm = N at lsN memN hNl
    have pen1 := pen.to s1
    refine ⟨_, rfl, p, c, _, 10, rfl, pen1, by omega, by decide, by decide, fun H2 way k2 pen2 w0 w1 => ?_⟩
    have k02 : Kp p H H2 := (Kp.of s1).trans k2
    have fresh : ∀ {t : List Row}, m ∉ rs.map Row.mo := fun {_} z => by
      obtain ⟨r, hr', e⟩ := List.mem_map.mp z
      have := hlt r hr'
      rw [e] at this; exact mLt.irr this
    -- what every way needs of the heap
    have keep : ∀ {H'}, Kp p H2 H' → H' am = some (.tup [.int m.1, .int m.2]) ∧ H' fa = some (.lst (fs.map V.str)) ∧ H' oa = some (.lst (os.map V.str)) ∧ H' la = some (.lst (lot.map V.str)) ∧ Ls H' D (N.map Row.d) := fun {H'} k3 =>
      have kk := k02.trans k3
      ⟨pen.tk kk _ _ ham, kk _ _ (pen.ne hfa) hfa, kk _ _ (pen.ne hoa) hoa, kk _ _ (pen.ne hla) hla, lsN.kp pen1 (k2.trans k3)⟩
    have fin : ∀ H' v r, Kp p H2 H' → Pen H' p c (b + 20) → Tp H' v r.d → r.mo = m → CanTell rs r → Good (rs ++ [r]) → Q v H' := fun H' v r k3 pen3 => k H' v r (k02.trans k3) pen3
    refine ⟨_, rfl, _, _, rfl, rfl, _, rfl, ?_⟩
    refine ite2 (fun q1 => ?wA) (fun q1 => ?wB)
    case' wB =>
      obtain ⟨_, _, _, _, lsN2⟩ := keep (Kp.refl p H2)
      refine ⟨_, rfl, Nat.zero_le _, fun Z hZ => ?_⟩
      have sZ : Same H2 (upd H2 Z (.lst [])) := Same.new hZ
      have lZ : Ls (upd H2 Z (.lst [])) Z [] := ⟨_, upd_same, .nil⟩
      have wordsN : ∀ r ∈ N, RowW r ∧ r.isNm = true := fun r h => ⟨G.W r ((memN r).mp h).1, ((memN r).mp h).2⟩
      refine ⟨_, _, (lsN2.to sZ).dp, lZ.dp, shaped_nms wordsN, rfl, _, rfl, ?_⟩
      rw [rows_nil]
      refine ite2 (fun e => ?wC) (fun e => ?wD)
    case' wA =>
      obtain ⟨H3, e3, k3, pen3⟩ : ∃ H3, H3 = H2 ∧ Kp p H2 H3 ∧ Pen H3 p c (b + 1) := ⟨H2, rfl, Kp.refl _ _, pen2⟩
      rw [← e3]
      refine iteT ?_
    case' wC =>
      obtain ⟨H3, e3, k3, pen3⟩ : ∃ H3, H3 = upd H2 Z (.lst []) ∧ Kp p H2 H3 ∧ Pen H3 p c (b + 1) := ⟨_, rfl, Kp.of sZ, pen2.to sZ⟩
      rw [← e3]
    case wD =>
      have hN0 : N ≠ [] := fun z => e (decide_eq_true z)
      have hNp : 0 < N.length := List.length_pos_iff.mpr hN0
      have kZ : Kp p H2 (upd H2 Z (.lst [])) := Kp.of sZ
      have penZ := pen2.to sZ
      generalize upd H2 Z (.lst []) = HZ at kZ penZ ⊢
      obtain ⟨_, _, _, _, nx, hnx, rnx⟩ := keep kZ
      have hnl : nx.length = N.length := by rw [rnx.len, List.length_map]
      refine ⟨_, rfl, _, rfl, _, rfl, _, _, rfl, .inl (SqL.of hnx), p, c, _, _, rfl, penZ, by omega, by omega, by omega, fun H4 r4 k4 pen4 r40 r41 => ?_⟩
      have k24 := kZ.trans k4
      obtain ⟨ham4, hfa4, hoa4, hla4, nx4, hnx4, rnx4⟩ := keep k24
      have hnl4 : nx4.length = N.length := by rw [rnx4.len, List.length_map]
      obtain ⟨x, ex, ex'⟩ := atI_in (xs := nx4) r40 (by omega)
      obtain ⟨r1, hr1, tx⟩ := data_at rnx4 ex'
      refine ⟨D, _, _, _, rfl, rfl, SqL.of hnx4, ex, ?_⟩
      obtain ⟨hr1s, hr1n⟩ := (memN r1).mp (List.mem_of_getElem? hr1)
      cases r1 with
      | ch => cases hr1n
      | st => cases hr1n
      | ah => cases hr1n
      | nm n rk ws ss lk =>
        obtain ⟨t, ts, rfl, ht, rt⟩ := Tp.inv (id tx)
        obtain ⟨v1, a1, t1⟩ := Tp.at (K := K) (i := 1) (d := mD n) ht rt rfl
        obtain ⟨an, rfl, han⟩ := Tp.mo_inv t1
        obtain ⟨v2, a2, t2⟩ := Tp.at (K := K) (i := 2) (d := .int rk) ht rt rfl
        cases Tp.int_inv t2
        have hnm : mLt n m := hlt _ hr1s
        have hnl' : ¬ mLt m n := fun z => mLt.irr (z.trans hnm)
        have hrk := G.rk _ _ _ _ _ hr1s
        have hnok : MoOk n := G.ok _ hr1s
        have hown := G.own ⟨_, hr1s, rfl⟩
        -- way 4
        refine ⟨_, rfl, rfl, _, rfl, ?_⟩
        refine share (fun rest => ite2 (fun q4 => ⟨_, rfl, _, _, _, _, rfl, rfl, SqT.of ht, a2, rfl, _, rfl, ite2 (fun q5 => ?_) (fun _ => rest)⟩) (fun _ => rest)) ?_
        · have hrk0 : rk = 0 := by have := of_decide_eq_true q5; injection this
          refine ⟨_, rfl, _, rfl, _, rfl, p, c, _, 2, rfl, pen4, by omega, by decide, by decide, fun H9 r9 k9 pen9 r90 r91 => ?_⟩
          obtain ⟨ham9, hfa9, hoa9, hla9, lsN9⟩ := keep (k24.trans k9)
          refine ⟨fa, _, _, _, rfl, rfl, SqL.of hfa9, str_at r90 (by omega), ?_⟩
          refine ⟨_, rfl, _, rfl, p, c, _, 3, rfl, pen9, by omega, by decide, by decide, fun H10 r10 k10 pen10 r100 r101 => ?_⟩
          obtain ⟨ham10, hfa10, hoa10, hla10, lsN10⟩ := keep (k24.trans (k9.trans k10))
          refine ⟨oa, _, _, _, rfl, rfl, SqL.of hoa10, str_at r100 (by omega), ?_⟩
          refine ⟨by show 2 ≤ sizeLine; decide, fun tw htw => ?_⟩
          refine ⟨Nat.zero_le _, fun te hte => ?_⟩
          have tk4 : TK H4 H10 := pen4.tk (k9.trans k10)
          have hw1 : IsW (fs.getD r9.toNat "") := isW_at wf (by omega)
          have hw2 : IsW (os.getD r10.toNat "") := isW_at wo (by omega)
          generalize fs.getD r9.toNat "" = w1 at *
          generalize os.getD r10.toNat "" = w2 at *
          have sW : Same H10 (upd H10 tw (.tup [.str w1, .str w2])) := Same.new htw
          have sE := sW.trans (Same.new (o := .tup []) hte)
          refine ⟨_, rfl, _, _, _, _, rfl, rfl, SqT.of (sE _ _ (tk4 _ _ ht)), a1, by show 6 ≤ sizeLine; decide, fun t9 ht9 => ?_⟩
          have sT := sE.trans (Same.new (o := .tup [.str "name", .ref am, .int 0, .ref tw, .ref te, .ref an]) ht9)
          have ntw : tw ≠ te := fun z => by subst z; rw [upd_same] at hte; cases hte
          have ntw9 : tw ≠ t9 := fun z => by subst z; rw [upd_ne ntw, upd_same] at ht9; cases ht9
          have nte9 : te ≠ t9 := fun z => by subst z; rw [upd_same] at ht9; cases ht9
          refine fin _ _ (.nm m 0 [w1, w2] [] (some n)) (k24.trans (k9.trans (k10.trans (Kp.of sT)))) ((pen10.to sT).up (by omega)) (.tup upd_same (.cons (.str _) (.cons (Tp.mo (m := m) (sT _ _ ham10)) (.cons (.int _) (.cons (.tup (by rw [upd_ne ntw9, upd_ne ntw, upd_same]; rfl) (TpAll.strs [w1, w2])) (.cons (.tup (by rw [upd_ne nte9, upd_same]; rfl) (TpAll.strs [])) (.cons (Tp.mo (m := n) (sT _ _ (tk4 _ _ han))) .nil))))))) rfl ?_ ?_
          · refine ⟨hmo, fresh (t := []), by omega, ⟨by decide, by decide, rfl, fun x hx => ?_, .inr ⟨rfl, n, rfl, hnok⟩⟩, fun l e => ?_⟩
            · rcases List.mem_cons.mp hx with rfl | hx
              · exact hw1
              · rw [List.mem_singleton] at hx; subst hx; exact hw2
            · cases e
              exact ⟨hnl', rk, ws, ss, lk, hr1s, by rw [if_pos rfl]; exact decide_eq_true hrk0⟩
          · refine G.add ⟨Nat.le_refl 2, fun x hx => ?_, (fun x hx => by cases hx), Nat.zero_le _⟩ hmo (fun m' rk' ws' ss' lk' e => by cases e; omega) (fun _ => .inr ⟨_, hr1s, rfl⟩)
            rcases List.mem_cons.mp hx with rfl | hx
            · exact hw1
            · rw [List.mem_singleton] at hx; subst hx; exact hw2
        -- ways 4 and 5
        refine ⟨_, rfl, _, _, rfl, rfl, _, rfl, ?_⟩
        refine share (fun rest => ite2 (fun q4 => ⟨_, rfl, _, _, _, _, rfl, rfl, SqT.of ht, a2, _, _, rfl, rfl, _, rfl, ite2 (fun q5 => ?_) (fun _ => rest)⟩) (fun _ => rest)) ?_
        · have hrk5 : rk < 5 := of_decide_eq_true q5
          refine ⟨_, rfl, _, _, _, _, rfl, rfl, SqT.of ht, a2, _, _, rfl, rfl, ?_⟩
          refine ⟨_, rfl, p, c, _, 3, rfl, pen4, by omega, by decide, by decide, fun H5 r5 k5 pen5 r50 r51 => ?_⟩
          refine ⟨by show 3 ≤ sizeLine; decide, fun L hL => ?_⟩
          have nL := pen5.off hL
          refine ⟨_, rfl, p, c, _, 3, rfl, pen5.put nL, by omega, by decide, by decide, fun H6 r6 k6 pen6 r60 r61 => ?_⟩
          obtain ⟨mf, emf, hmf⟩ := z3_at (d := r5) r60 r61
          refine ⟨L, _, _, _, rfl, rfl, SqL.of (k6 _ _ nL.1 upd_same), emf, _, _, rfl, rfl, _, _, rfl, ?_⟩
          have k46 : Kp p H4 H6 := k5.trans ((Kp.new hL).trans k6)
          have hlv : rk < (if rk + 1 + mf < 5 then rk + 1 + mf else 5) ∧ (if rk + 1 + mf < 5 then rk + 1 + mf else 5) ≤ 5 := by
            have : 0 ≤ mf := by rcases hmf with e | e <;> omega
            split <;> omega
          generalize (if rk + 1 + mf < 5 then rk + 1 + mf else 5) = lv at hlv ⊢
          refine ⟨_, rfl, _, rfl, _, rfl, _, rfl, p, c, _, 2, rfl, pen6, by omega, by decide, by decide, fun H9 r9 k9 pen9 r90 r91 => ?_⟩
          obtain ⟨ham9, hfa9, hoa9, hla9, lsN9⟩ := keep (k24.trans (k46.trans k9))
          refine ⟨fa, _, _, _, rfl, rfl, SqL.of hfa9, str_at r90 (by omega), ?_⟩
          refine ⟨by show 1 ≤ sizeLine; decide, fun tw htw => ?_⟩
          refine ⟨Nat.zero_le _, fun te hte => ?_⟩
          have tk4 : TK H4 H9 := pen4.tk (k46.trans k9)
          have hw1 : IsW (fs.getD r9.toNat "") := isW_at wf (by omega)
          generalize fs.getD r9.toNat "" = w1 at *
          have sW : Same H9 (upd H9 tw (.tup [.str w1])) := Same.new htw
          have sE := sW.trans (Same.new (o := .tup []) hte)
          refine ⟨_, rfl, _, _, _, _, rfl, rfl, SqT.of (sE _ _ (tk4 _ _ ht)), a1, by show 6 ≤ sizeLine; decide, fun t9 ht9 => ?_⟩
          have sT := sE.trans (Same.new (o := .tup [.str "name", .ref am, .int lv, .ref tw, .ref te, .ref an]) ht9)
          have ntw : tw ≠ te := fun z => by subst z; rw [upd_same] at hte; cases hte
          have ntw9 : tw ≠ t9 := fun z => by subst z; rw [upd_ne ntw, upd_same] at ht9; cases ht9
          have nte9 : te ≠ t9 := fun z => by subst z; rw [upd_same] at ht9; cases ht9
          refine fin _ _ (.nm m lv [w1] [] (some n)) (k24.trans (k46.trans (k9.trans (Kp.of sT)))) ((pen9.to sT).up (by omega)) (.tup upd_same (.cons (.str _) (.cons (Tp.mo (m := m) (sT _ _ ham9)) (.cons (.int _) (.cons (.tup (by rw [upd_ne ntw9, upd_ne ntw, upd_same]; rfl) (TpAll.strs [w1])) (.cons (.tup (by rw [upd_ne nte9, upd_same]; rfl) (TpAll.strs [])) (.cons (Tp.mo (m := n) (sT _ _ (tk4 _ _ han))) .nil))))))) rfl ?_ ?_
          · refine ⟨hmo, fresh (t := []), by omega, ⟨by omega, by omega, by rw [if_neg (by omega)]; rfl, fun x hx => ?_, .inr ⟨rfl, n, rfl, hnok⟩⟩, fun l e => ?_⟩
            · rw [List.mem_singleton] at hx; subst hx; exact hw1
            · cases e
              exact ⟨hnl', rk, ws, ss, lk, hr1s, by rw [if_neg (by omega)]; exact decide_eq_true hlv.1⟩
          · refine G.add ⟨(by decide : 1 ≤ 2), fun x hx => ?_, (fun x hx => by cases hx), Nat.zero_le _⟩ hmo (fun m' rk' ws' ss' lk' e => by cases e; omega) (fun _ => .inr ⟨_, hr1s, rfl⟩)
            rw [List.mem_singleton] at hx; subst hx; exact hw1
        -- way 6
        refine ⟨_, rfl, rfl, _, rfl, ?_⟩
        refine ite2 (fun q6 => ?_) (fun q6 => ?_)
        · refine ⟨_, rfl, D, rfl, ⟨_, SqL.of hnx4⟩, fun D6 hD6 => ?_⟩
          have wordsN := fun r (h : r ∈ N) => (⟨G.W r ((memN r).mp h).1, ((memN r).mp h).2⟩ : RowW r ∧ r.isNm = true)
          refine lc_list (K := K) (a := D) (xs := nx4) (fun i H' => Same H4 H' ∧ Ls H' D6 (((N.take i).filter ownB).map Row.d)) (pick_zero hD6) (fun i H' _ q => SqL.of (q.1 _ _ hnx4)) ?_ ?_
          · rintro i x H' hi Pi
            obtain ⟨r2, hr2, t0⟩ := data_at rnx4 hi
            obtain ⟨hW2, hn2⟩ := wordsN r2 (List.mem_of_getElem? hr2)
            have t1' := t0.to (TK.of Pi.1)
            obtain ⟨t', ys, rfl, ht', ry⟩ := Tp.inv (id t1')
            cases r2 with
            | ch => cases hn2
            | st => cases hn2
            | ah => cases hn2
            | nm n2 rk2 ws2 ss2 lk2 =>
              obtain ⟨v4, a4, t4⟩ := Tp.at (K := K) (i := 4) (d := .tuple (ss2.map PyData.str)) ht' ry rfl
              refine ⟨rfl, _, rfl, _, _, _, _, rfl, rfl, SqT.of ht', a4, Nat.zero_le _, fun te hte => ?_⟩
              have sE : Same H' (upd H' te (.tup [])) := Same.new hte
              have te0 : Tp (upd H' te (.tup [])) (.ref te) (.tuple (([] : List Str).map PyData.str)) := .tup upd_same .nil
              have P2 : Same H4 (upd H' te (.tup [])) ∧ Ls (upd H' te (.tup [])) D6 (((N.take i).filter ownB).map Row.d) := ⟨Pi.1.trans sE, Pi.2.to sE⟩
              refine ⟨_, _, (t4.to (TK.of sE)).d, te0.d, shaped_ws hW2.2.2.1, shaped_ws (fun _ h => by cases h), _, rfl, ?_⟩
              rw [eqv_ws hW2.2.2.1 (fun _ h => by cases h)]
              refine ite2 (fun q => ?_) (fun q => pick_no P2 hr2 q)
              exact ⟨_, rfl, pick_yes hD6 (by omega) P2 hr2 q (t1'.to (TK.of sE))⟩
          rintro H5 ⟨s5, ox, hox, rox⟩
          rw [hnl4, List.take_length] at rox
          have memO : ∀ r ∈ N.filter ownB, r ∈ rs ∧ ∃ m rk ws ss lk, r = Row.nm m rk ws ss lk ∧ ss ≠ [] := fun r h => by
            obtain ⟨h1, h2⟩ := List.mem_filter.mp h
            refine ⟨((memN r).mp h1).1, ?_⟩
            cases r with
            | nm m rk ws ss lk => exact ⟨m, rk, ws, ss, lk, rfl, fun z => by subst z; cases h2⟩
            | _ => cases h2
          have hOp : 0 < (N.filter ownB).length := by
            obtain ⟨m', rk', ws', ss', lk', h1, h2⟩ := hown
            exact List.length_pos_of_mem (List.mem_filter.mpr ⟨(memN _).mpr ⟨h1, rfl⟩, by show (!decide (ss' = [])) = true; rw [decide_eq_false h2]; rfl⟩)
          have hOl : (N.filter ownB).length ≤ 40 := Nat.le_trans (List.length_filter_le _ _) hNl
          generalize N.filter ownB = O at rox memO hOp hOl
          have hol : ox.length = O.length := by rw [rox.len, List.length_map]
          have k25 := k24.trans (Kp.of s5)
          have pen5 := pen4.to s5
          refine ⟨_, rfl, _, rfl, _, rfl, _, _, rfl, .inl (SqL.of hox), p, c, _, _, rfl, pen5, by omega, by omega, by omega, fun H6 r6 k6 pen6 r60 r61 => ?_⟩
          have hox6 := k6 _ _ (pen5.ne hox) hox
          have rox6 := rox.to (pen5.tk k6)
          obtain ⟨y, ey, ey'⟩ := atI_in (xs := ox) r60 (by omega)
          obtain ⟨r2, hr2, ty⟩ := data_at rox6 ey'
          refine ⟨D6, _, _, _, rfl, rfl, SqL.of hox6, ey, ?_⟩
          obtain ⟨hr2s, n2, rk2, ws2, ss2, lk2, rfl, hss2⟩ := memO r2 (List.mem_of_getElem? hr2)
          have hW2 := G.W _ hr2s
          obtain ⟨t', ys, rfl, ht', ry⟩ := Tp.inv ty
          obtain ⟨u1, b1, tu1⟩ := Tp.at (K := K) (i := 1) (d := mD n2) ht' ry rfl
          obtain ⟨an2, rfl, han2⟩ := Tp.mo_inv tu1
          obtain ⟨u4, b4, tu4⟩ := Tp.at (K := K) (i := 4) (d := .tuple (ss2.map PyData.str)) ht' ry rfl
          obtain ⟨sa, rfl, hsa⟩ := Tp.tstr tu4
          have hpos : 0 < ss2.length := List.length_pos_iff.mpr hss2
          obtain ⟨ham6, _, _, _, _⟩ := keep (k25.trans k6)
          refine ⟨_, rfl, _, rfl, _, _, _, _, rfl, rfl, SqT.of ht', b1, _, rfl, _, _, _, _, rfl, rfl, SqT.of ht', b4, _, rfl, _, rfl, _, _, _, _, rfl, rfl, SqT.of ht', b4, _, _, rfl, .inr (SqT.of hsa), p, c, _, _, rfl, pen6, by omega, by rw [List.length_map]; omega, by rw [List.length_map]; have := hW2.2.2.2; omega, fun H7 r7 k7 pen7 r70 r71 => ?_⟩
          rw [List.length_map] at r71
          have tk7 := pen6.tk k7
          refine ⟨sa, _, _, _, rfl, rfl, SqT.of (tk7 _ _ hsa), str_at r70 (by omega), by show 4 ≤ sizeLine; decide, fun t9 ht9 => ?_⟩
          have hz : ss2.getD r7.toNat "" ∈ ss2 := List.mem_of_getElem? (getD_some ("" : Str) (by omega))
          generalize ss2.getD r7.toNat "" = z at hz ⊢
          have sT : Same H7 (upd H7 t9 (.tup [.str "choice", .ref am, .ref an2, .str z])) := Same.new ht9
          refine fin _ _ (.ch m n2 z) (k25.trans (k6.trans (k7.trans (Kp.of sT)))) ((pen7.to sT).up (by omega)) (.tup upd_same (.cons (.str _) (.cons (Tp.mo (m := m) (sT _ _ (tk7 _ _ ham6))) (.cons (Tp.mo (m := n2) (sT _ _ (tk7 _ _ han2))) (.cons (.str _) .nil))))) rfl ?_ ?_
          · exact ⟨hmo, fresh (t := []), by omega, fun z => mLt.irr (z.trans (hlt _ hr2s)), rk2, ws2, ss2, lk2, hr2s, hz, hW2.2.2.1⟩
          · exact G.add (show IsW z from hW2.2.2.1 z hz) hmo (fun _ _ _ _ _ e => by cases e) (fun h => by cases h)
        -- a strike, or one set ahead
        refine ⟨_, rfl, D, rfl, ⟨_, SqL.of hnx4⟩, fun D7 hD7 => ?_⟩
        refine lc_list (K := K) (a := D) (xs := nx4) (fun i H' => Same H4 H' ∧ Ls H' D7 (((N.take i).filter (alikeB n rk)).map fun r => mD r.mo)) (pick_zero hD7) (fun i H' _ q => SqL.of (q.1 _ _ hnx4)) ?_ ?_
        · rintro i x H' hi Pi
          obtain ⟨r2, hr2, t0⟩ := data_at rnx4 hi
          have hn2 := ((memN r2).mp (List.mem_of_getElem? hr2)).2
          obtain ⟨t', ys, rfl, ht', ry⟩ := Tp.inv (t0.to (TK.of Pi.1))
          obtain ⟨u1, b1, tu1⟩ := Tp.at (K := K) ht' ry r2.ds1
          cases r2 with
          | ch => cases hn2
          | st => cases hn2
          | ah => cases hn2
          | nm n2 rk2 ws2 ss2 lk2 =>
            obtain ⟨an2, rfl, han2⟩ := Tp.mo_inv (id tu1)
            obtain ⟨u2, b2, tu2⟩ := Tp.at (K := K) (i := 2) (d := .int rk2) ht' ry rfl
            cases Tp.int_inv tu2
            refine ⟨rfl, _, rfl, _, _, _, _, rfl, rfl, SqT.of ht', b2, _, rfl, _, _, _, _, rfl, rfl, SqT.of (Pi.1 _ _ ht), a2, rfl, _, rfl, ?_⟩
            rw [int_dec]
            refine ite2 (fun q => ?_) (fun q => iteF (pick_no Pi hr2 (by show ¬ (decide (rk2 = rk) && !decide (n2 = n)) = true; rw [Bool.eq_false_iff.mpr q]; simp)))
            refine ⟨_, rfl, _, _, _, _, rfl, rfl, SqT.of ht', b1, _, rfl, _, _, _, _, rfl, rfl, SqT.of (Pi.1 _ _ ht), a1, _, _, tu1.d, (Tp.mo (m := n) (Pi.1 _ _ han)).d, shaped_m _, shaped_m _, _, rfl, ?_⟩
            rw [show mD (Row.nm n2 rk2 ws2 ss2 lk2).mo = mD n2 from rfl, eqv_m]
            refine ite2 (fun y => ?_) (fun y => ?_)
            · exact ⟨_, rfl, _, _, _, _, rfl, rfl, SqT.of ht', b1, pick_yes hD7 (by omega) Pi hr2 (by show (decide (rk2 = rk) && !decide (n2 = n)) = true; rw [q, y]; rfl) tu1⟩
            · exact pick_no Pi hr2 (by show ¬ (decide (rk2 = rk) && !decide (n2 = n)) = true; rw [Bool.eq_false_iff.mpr y]; simp)
        rintro H5 ⟨s5, ax, hax, rax⟩
        rw [hnl4, List.take_length] at rax
        have memA : ∀ r ∈ N.filter (alikeB n rk), ∃ n2 ws2 ss2 lk2, r = Row.nm n2 rk ws2 ss2 lk2 ∧ r ∈ rs ∧ n2 ≠ n := fun r h => by
          obtain ⟨h1, h2⟩ := List.mem_filter.mp h
          cases r with
          | nm n2 rk2 ws2 ss2 lk2 =>
            have h3 : (decide (rk2 = rk) && !decide (n2 = n)) = true := h2
            rw [Bool.and_eq_true] at h3
            have e1 : rk2 = rk := of_decide_eq_true h3.1
            subst e1
            refine ⟨n2, ws2, ss2, lk2, rfl, ((memN _).mp h1).1, fun z => ?_⟩
            rw [decide_eq_true z] at h3
            cases h3.2
          | _ => cases h2
        have hAl : (N.filter (alikeB n rk)).length ≤ 40 := Nat.le_trans (List.length_filter_le _ _) hNl
        generalize N.filter (alikeB n rk) = A7 at rax memA hAl
        have hal : ax.length = A7.length := by rw [rax.len, List.length_map]
        have k25 := k24.trans (Kp.of s5)
        have pen5 := pen4.to s5
        have hnin : n ∈ nms rs := row_nms hr1s
        refine ⟨_, rfl, rfl, _, rfl, ?_⟩
        refine ite2 (fun q7 => ?sA) (fun q7 => ?sB)
        case' sB =>
          refine ⟨_, rfl, Nat.zero_le _, fun Z7 hZ7 => ?_⟩
          have sZ7 : Same H5 (upd H5 Z7 (.lst [])) := Same.new hZ7
          have lZ7 : Ls (upd H5 Z7 (.lst [])) Z7 [] := ⟨_, upd_same, .nil⟩
          have lsA : Ls (upd H5 Z7 (.lst [])) D7 (A7.map fun r => mD r.mo) := Ls.to ⟨ax, hax, rax⟩ sZ7
          have shA : SeqAt.shaped (.list (A7.map fun r => mD r.mo)) = true := by
            have := shaped_ms (A7.map Row.mo)
            rw [List.map_map] at this; exact this
          refine ⟨_, _, lsA.dp, lZ7.dp, shA, rfl, _, rfl, ?_⟩
          rw [mo_nil]
          refine ite2 (fun e7 => ?sC) (fun e7 => ?sD)
        case' sA =>
          obtain ⟨H6, e6, s56⟩ : ∃ H6, H6 = H5 ∧ Same H5 H6 := ⟨H5, rfl, fun _ _ h => h⟩
          rw [← e6]
          refine iteT ?_
        case' sC =>
          obtain ⟨H6, e6, s56⟩ : ∃ H6, H6 = upd H5 Z7 (.lst []) ∧ Same H5 H6 := ⟨_, rfl, sZ7⟩
          rw [← e6]
        case sD =>
          have hA0 : 0 < A7.length := List.length_pos_iff.mpr fun z => e7 (decide_eq_true z)
          obtain ⟨bx, hbx, rbx⟩ := lsA
          have hbl : bx.length = A7.length := by rw [rbx.len, List.length_map]
          have k26 := k25.trans (Kp.of sZ7)
          have pen6 := pen5.to sZ7
          have ht6 := (s5.trans sZ7) _ _ ht
          have han6 := (s5.trans sZ7) _ _ han
          generalize upd H5 Z7 (.lst []) = H6 at hbx rbx k26 pen6 ht6 han6 ⊢
          obtain ⟨ham6, _, _, _, _⟩ := keep k26
          refine ⟨_, rfl, _, rfl, _, _, _, _, rfl, rfl, SqT.of ht6, a1, _, rfl, _, rfl, _, rfl, _, _, rfl, .inl (SqL.of hbx), p, c, _, _, rfl, pen6, by omega, by omega, by omega, fun H7 r7 k7 pen7 r70 r71 => ?_⟩
          have tk7 := pen6.tk k7
          obtain ⟨y, ey, ey'⟩ := atI_in (xs := bx) r70 (by omega)
          obtain ⟨r2, hr2, ty⟩ := data_at (rbx.to tk7) ey'
          obtain ⟨n2, ws2, ss2, lk2, rfl, hr2s, hn2⟩ := memA r2 (List.mem_of_getElem? hr2)
          obtain ⟨an2, rfl, han2⟩ := Tp.mo_inv ty
          refine ⟨D7, _, _, _, rfl, rfl, SqL.of (k7 _ _ (pen6.ne hbx) hbx), ey, by show 4 ≤ sizeLine; decide, fun t9 ht9 => ?_⟩
          have sT : Same H7 (upd H7 t9 (.tup [.str "ahead", .ref am, .ref an, .ref an2])) := Same.new ht9
          refine fin _ _ (.ah m n n2) (k26.trans (k7.trans (Kp.of sT))) ((pen7.to sT).up (by omega)) (.tup upd_same (.cons (.str _) (.cons (Tp.mo (m := m) (sT _ _ (tk7 _ _ ham6))) (.cons (Tp.mo (m := n) (sT _ _ (tk7 _ _ han6))) (.cons (Tp.mo (m := n2) (sT _ _ han2)) .nil))))) rfl ?_ ?_
          · exact ⟨hmo, fresh (t := []), by omega, hnl', fun z => mLt.irr (z.trans (hlt _ hr2s)), hn2.symm, rk, ⟨ws, ss, lk, hr1s⟩, ws2, ss2, lk2, hr2s⟩
          · exact G.add trivial hmo (fun _ _ _ _ _ e => by cases e) (fun h => by cases h)
        all_goals
          have k26 := k25.trans (Kp.of s56)
          have pen6 := pen5.to s56
          have ht6 := (s5.trans s56) _ _ ht
          have han6 := (s5.trans s56) _ _ han
          obtain ⟨ham6, _, _, _, _⟩ := keep k26
          refine ⟨_, rfl, _, rfl, _, _, _, _, rfl, rfl, SqT.of ht6, a1, _, rfl, p, c, _, 2, rfl, pen6, by omega, by decide, by decide, fun H7 r7 k7 pen7 r70 r71 => ?_⟩
          have tk7 := pen6.tk k7
          refine ⟨rfl, by show 4 ≤ sizeLine; decide, fun t9 ht9 => ?_⟩
          have sT : Same H7 (upd H7 t9 (.tup [.str "strike", .ref am, .ref an, .bl (decide (V.int r7 = V.int 1))])) := Same.new ht9
          refine fin _ _ (.st m n (decide (V.int r7 = V.int 1))) (k26.trans (k7.trans (Kp.of sT))) ((pen7.to sT).up (by omega)) (.tup upd_same (.cons (.str _) (.cons (Tp.mo (m := m) (sT _ _ (tk7 _ _ ham6))) (.cons (Tp.mo (m := n) (sT _ _ (tk7 _ _ han6))) (.cons (.bl _) .nil))))) rfl ?_ ?_
          · exact ⟨hmo, fresh (t := []), by omega, hnl', hnin⟩
          · exact G.add trivial hmo (fun _ _ _ _ _ e => by cases e) (fun h => by cases h)
    all_goals
      obtain ⟨ham3, hfa3, hoa3, hla3, lsN3⟩ := keep k3
      refine ⟨_, rfl, p, c, _, 3, rfl, pen3, by omega, by decide, by decide, fun H4 r4 k4 pen4 r40 r41 => ?_⟩
      refine ⟨by show 3 ≤ sizeLine; decide, fun L hL => ?_⟩
      have nL := pen4.off hL
      refine ⟨_, rfl, p, c, _, 3, rfl, pen4.put nL, by omega, by decide, by decide, fun H5 r5 k5 pen5 r50 r51 => ?_⟩
      obtain ⟨mf, emf, hmf⟩ := z3_at (d := r4) r50 r51
      refine ⟨L, _, _, _, rfl, rfl, SqL.of (k5 _ _ nL.1 upd_same), emf, ?_⟩
      refine ⟨_, _, rfl, rfl, ?_⟩
      have k25 : Kp p H2 H5 := k3.trans (k4.trans ((Kp.new hL).trans k5))
      obtain ⟨ham5, hfa5, hoa5, hla5, lsN5⟩ := keep k25
      refine ⟨_, rfl, _, rfl, _, _, rfl, .inl (SqL.of hla5), p, c, _, _, rfl, pen5, by omega, by rw [List.length_map]; omega, by rw [List.length_map]; omega, fun H6 at_ k6 pen6 a0 a1 => ?_⟩
      rw [List.length_map, ll] at a1
      have k26 := k25.trans k6
      obtain ⟨ham6, hfa6, hoa6, hla6, lsN6⟩ := keep k26
      have hm0 : 0 ≤ mf ∧ mf ≤ 2 := by rcases hmf with e | e <;> omega
      refine ⟨_, rfl, _, rfl, by omega, by omega, fun D3 hD3 => ?_⟩
      have nD3 := pen6.off hD3
      refine lc_range (lo := 0) (n := (1 + mf).toNat) (fun i H' => Same H6 H' ∧ H' D3 = some (.lst ((roundL lot at_ i).map V.str))) ⟨Same.new hD3, upd_same⟩ ?_ ?_
      · rintro i H7 hi ⟨s7, e7⟩
        have qm := mod_lt (x := at_ + (0 + (i : Int))) (m := (lot.length : Int)) (by rw [ll]; decide)
        refine ⟨rfl, _, rfl, _, rfl, _, rfl, _, _, rfl, rfl, _, rfl, _, _, rfl, .inl (SqL.of (s7 _ _ hla6)), _, _, rfl, rfl, by show (0 : Int) < ((lot.map V.str).length : Int); rw [List.length_map, ll]; decide, la, _, _, .str (lot.getD ((at_ + (0 + (i : Int))) % (lot.length : Int)).toNat ("" : Str)), rfl, rfl, SqL.of (s7 _ _ hla6), ?_⟩
        refine ⟨by rw [List.length_map]; exact str_at qm.1 (by omega), _, e7, by unfold roundL; rw [List.length_map, List.length_map, List.length_range]; exact small1000 (by omega), fun o1 o2 ec => by rw [upd_ne (ne_of_none ec hD3)]; exact s7 _ _ ec, ?_⟩
        rw [upd_same]
        unfold roundL
        rw [List.range_succ, List.map_append, List.map_append]; rfl
      rintro H7 ⟨s7, e7⟩
      refine ⟨D3, _, rfl, .inl ⟨SqL.of e7, fun t7 ht7 => ?_⟩⟩
      have s8 : Same H6 (upd H7 t7 (.tup ((roundL lot at_ (1 + mf).toNat).map V.str))) := s7.trans (Same.new ht7)
      have k28 : Kp p H2 (upd H7 t7 (.tup ((roundL lot at_ (1 + mf).toNat).map V.str))) := k26.trans (Kp.of s8)
      have pen8 := pen6.to s8
      obtain ⟨ham8, hfa8, hoa8, hla8, lsN8⟩ := keep k28
      have ht8 : (upd H7 t7 (.tup ((roundL lot at_ (1 + mf).toNat).map V.str))) t7 = some (.tup ((roundL lot at_ (1 + mf).toNat).map V.str)) := upd_same
      generalize upd H7 t7 (.tup ((roundL lot at_ (1 + mf).toNat).map V.str)) = H8 at k28 pen8 ham8 hfa8 hoa8 hla8 lsN8 ht8 ⊢
      -- the name
      refine ⟨_, rfl, _, rfl, _, rfl, p, c, _, 2, rfl, pen8, by omega, by decide, by decide, fun H9 r9 k9 pen9 r90 r91 => ?_⟩
      obtain ⟨ham9, hfa9, hoa9, hla9, lsN9⟩ := keep (k28.trans k9)
      refine ⟨fa, _, _, _, rfl, rfl, SqL.of hfa9, str_at r90 (by omega), ?_⟩
      refine ⟨_, rfl, _, rfl, p, c, _, 3, rfl, pen9, by omega, by decide, by decide, fun H10 r10 k10 pen10 r100 r101 => ?_⟩
      obtain ⟨ham10, hfa10, hoa10, hla10, lsN10⟩ := keep (k28.trans (k9.trans k10))
      refine ⟨oa, _, _, _, rfl, rfl, SqL.of hoa10, str_at r100 (by omega), ?_⟩
      refine ⟨by show 2 ≤ sizeLine; decide, fun tw htw => ?_⟩
      refine ⟨_, rfl, by show 6 ≤ sizeLine; decide, fun t ht => ?_⟩
      have t78 : H10 t7 = some (.tup ((roundL lot at_ (1 + mf).toNat).map V.str)) := pen8.tk (k9.trans k10) _ _ ht8
      have hw1 : IsW (fs.getD r9.toNat "") := isW_at wf (by omega)
      have hw2 : IsW (os.getD r10.toNat "") := isW_at wo (by omega)
      generalize fs.getD r9.toNat "" = w1 at *
      generalize os.getD r10.toNat "" = w2 at *
      have sW : Same H10 (upd H10 tw (.tup [.str w1, .str w2])) := Same.new htw
      have sT := sW.trans (Same.new (o := .tup [.str "name", .ref am, .int 0, .ref tw, .ref t7, .non]) ht)
      have hSh : SheetsOk (roundL lot at_ (1 + mf).toNat) := round_ok (by omega) (by omega) (by omega) ll ndl wl
      have ntw : tw ≠ t := fun z => by subst z; rw [upd_same] at ht; cases ht
      refine fin _ _ (.nm m 0 [w1, w2] (roundL lot at_ (1 + mf).toNat) none) (k28.trans (k9.trans (k10.trans (Kp.of sT)))) ((pen10.to sT).up (by omega)) (.tup upd_same (.cons (.str _) (.cons (Tp.mo (m := m) (sT _ _ ham10)) (.cons (.int _) (.cons (.tup (by rw [upd_ne ntw, upd_same]; rfl) (TpAll.strs [w1, w2])) (.cons (.tup (sT _ _ t78) (TpAll.strs _)) (.cons .non .nil))))))) rfl ?_ ?_
      · refine ⟨hmo, fresh (t := []), by omega, ⟨by decide, by decide, rfl, fun x hx => ?_, .inl ⟨rfl, rfl, hSh⟩⟩, fun l e => by cases e⟩
        rcases List.mem_cons.mp hx with rfl | hx
        · exact hw1
        · rw [List.mem_singleton] at hx; subst hx; exact hw2
      · refine G.add ⟨Nat.le_refl 2, fun x hx => ?_, hSh.2.2.2, hSh.2.1⟩ hmo (fun m' rk' ws' ss' lk' e => by cases e; omega) (fun _ => .inl ⟨_, _, _, _, _, rfl, hSh.1⟩)
        rcases List.mem_cons.mp hx with rfl | hx
        · exact hw1
        · rw [List.mem_singleton] at hx; subst hx; exact hw2
end
end KN


set_option Elab.async false
set_option linter.all false
set_option maxRecDepth 100000
set_option maxHeartbeats 4000000
namespace KN
open PySem L2
structure Told (rs : List Row) : Prop where
  good : Good rs
  rise : Rise rs
  tell : ∀ i r, rs[i]? = some r → CanTell (rs.take i) r
  mo : ∀ r ∈ rs, MoS r.mo
theorem Told.nil : Told [] := ⟨⟨fun _ h => (by cases h), fun _ h => (by cases h), fun _ _ _ _ _ h => (by cases h), fun ⟨_, h, _⟩ => (by cases h)⟩, .nil, fun i r h => by simp at h, fun _ h => (by cases h)⟩
theorem tell_snoc {rs : List Row} {r : Row} (h : ∀ i x, rs[i]? = some x → CanTell (rs.take i) x) (k : CanTell rs r) : ∀ i x, (rs ++ [r])[i]? = some x → CanTell ((rs ++ [r]).take i) x := by
  intro i x hx
  by_cases q : i < rs.length
  · rw [List.getElem?_append_left q] at hx
    rw [List.take_append_of_le_length (by omega)]; exact h i x hx
  · rw [List.getElem?_append_right (by omega)] at hx
    have hl := (List.getElem?_eq_some_iff.mp hx).1
    rw [List.length_singleton] at hl
    have e : i = rs.length := by omega
    subst e
    rw [Nat.sub_self] at hx
    cases hx
    rw [List.take_left']; exact k; rfl
theorem rise_snoc {rs : List Row} {r : Row} (h : Rise rs) (k : ∀ x ∈ rs, mLt x.mo r.mo) : Rise (rs ++ [r]) :=
  List.pairwise_append.mpr ⟨h, List.pairwise_singleton _ _, fun a ha b hb => by rw [List.mem_singleton] at hb; subst hb; exact k a ha⟩
theorem Told.snoc {rs : List Row} {r : Row} (T : Told rs) (g : Good (rs ++ [r])) (k : CanTell rs r) (l : ∀ x ∈ rs, mLt x.mo r.mo) (m : MoS r.mo) : Told (rs ++ [r]) :=
  ⟨g, rise_snoc T.rise l, tell_snoc T.tell k, fun x hx => by
    rcases List.mem_append.mp hx with h | h
    · exact T.mo x h
    · rw [List.mem_singleton] at h; subst h; exact m⟩
theorem Told.named {rs : List Row} (T : Told rs) (h : rs ≠ []) : nms rs ≠ [] := by
  cases rs with
  | nil => exact absurd rfl h
  | cons r rs =>
    have h1 := T.tell 0 r rfl
    rw [List.take_zero] at h1
    cases r with
    | nm m rk ws ss lk => exact fun z => by have : m ∈ nms (Row.nm m rk ws ss lk :: rs) := row_nms List.mem_cons_self; rw [z] at this; cases this
    | ch m n z => obtain ⟨_, _, _, _, rk, ws, ss, lk, h2, _⟩ := h1; cases h2
    | st m n w => obtain ⟨_, _, _, _, h2⟩ := h1; cases h2
    | ah m n o => obtain ⟨_, _, _, _, _, _, rk, ⟨ws, ss, l, h2⟩, _⟩ := h1; cases h2
def spRecords : Sp := fun vs H Q _ => ∃ (p c : Addr) (b : Int) (la : Addr) (lot : List Str) (many : Int), vs = [.ref p, .ref la, .int many] ∧ Pen H p c b ∧ b ≤ 10000000 ∧ H la = some (.lst (lot.map V.str)) ∧ lot.length = 6 ∧ lot.Nodup ∧ (∀ s ∈ lot, IsW s) ∧ 1 ≤ many ∧ many ≤ 30 ∧
  ∀ (H' : Hp) (l : Addr) (rs : List Row), Kp p H H' → Pen H' p c (b + 1000) → H l = none → Ls H' l (rs.map Row.d) → Told rs → rs.length = many.toNat → Q (.ref l) H'
section
variable {P : Program} {w : World} {K : PySem.W.Frag} {mg : Str → Option Value} {base : Heap} {C : Addr}
theorem sc__law_records : FnScope ["_law_pen_here", "_law_lot", "_law_many", "_law_words", "_law_found", "_law_moment_here"] ["_law_pen_here", "_law_lot", "_law_many"] (defScope s__law_records) := ⟨rfl, rfl, rfl, by decide +kernel, rfl, by decide +kernel, by decide +kernel⟩
theorem ok__law_records {f : Addr} {fd : FuncData} (F : Fun K "_law_records" "_law_records" s__law_records f fd) (c__law_names : C8.Cal P w K mg base 2 "_law_names" spNames []) (c__law_moments : C8.Cal P w K mg base 2 "_law_moments" spMoments []) (c__law_record : C8.Cal P w K mg base 2 "_law_record" spRecord []) : FnOk P w K mg base CX0 3 f fd ["_law_pen_here", "_law_lot", "_law_many"] spRecords := by
  refine F.ok sc__law_records (fun vs H Q E h => ?_) (fun cdv A outer s H vs Q E hr h => ?_)
  · obtain ⟨p, c, b, la, lot, many, rfl, _⟩ := h; rfl
  · obtain ⟨p, c, b, la, lot, many, rfl, pen, hb, hla, ll, ndl, wl, mm1, mm30, k⟩ := h
    refine ⟨_, (pss_cons (ps_set (i := 3) sc__law_records.nd rfl (Or.inl rfl) (C8.pe_c c__law_names hr (by decide) rfl (pa_cons (pv 0) (pa_cons pe_int pa_nil))))
      (pss_cons (ps_set (i := 4) sc__law_records.nd rfl (Or.inl rfl) (pe_lst pa_nil))
      (pss_cons (ps_for PassesOwn.never rfl (pi_list (C8.pe_c c__law_moments hr (by decide) rfl (pa_cons (pv 0) (pa_cons (pv 2) pa_nil)))) (pg_name (i := 5) sc__law_records.nd rfl (Or.inl rfl))
      (pss_one (ps_expr (pe_bm PySem.F.plainAttrs_list PySem.F.slot_list_append PySem.F.type_list_append mt_append (pv 4) (pa_cons (C8.pe_c c__law_record hr (by decide) rfl (pa_cons (pv 0) (pa_cons (pv 4) (pa_cons (pv 5) (pa_cons (pe_slice sl_list (pv 3) po_none (po_some pe_int)) (pa_cons (pe_slice sl_list (pv 3) (po_some pe_int) po_none) (pa_cons (pv 1) pa_nil))))))) pa_nil)))))
      (pss_one (ps_ret (pv 4)))))), ?_⟩
    refine ⟨_, rfl, p, c, b, 5, rfl, pen, by omega, by decide, by decide, fun H1 wa ss k1 pen1 wa0 hwa hsl hsw hsn => ?_⟩
    have hsl5 : ss.length = 5 := hsl
    refine ⟨Nat.zero_le _, fun F0 hF => ?_⟩
    have nF := pen1.off hF
    refine ⟨_, rfl, _, rfl, p, c, _, many, rfl, pen1.put nF, by omega, by omega, by omega, fun H2 ma ms k2 pen2 ma0 ⟨mx, hma, rma⟩ hml hpw hok => ?_⟩
    have hF0 : H F0 = none := k1.free nF.1 hF
    have k12 : Kp p H1 H2 := (Kp.new hF).trans k2
    have hF2 : H2 F0 = some (.lst []) := k2 _ _ nF.1 upd_same
    have hwa2 : H2 wa = some (.lst (ss.map V.str)) := k12 _ _ (pen1.ne hwa) hwa
    have hla2 : H2 la = some (.lst (lot.map V.str)) := (k1.trans k12) _ _ (pen.ne hla) hla
    have nFwa : F0 ≠ wa := fun z => by subst z; rw [hwa] at hF; cases hF
    have nFla : F0 ≠ la := fun z => by subst z; rw [hla] at hF0; cases hF0
    have nFma : F0 ≠ ma := fun z => by subst z; rw [upd_same] at ma0; cases ma0
    have hmxl : mx.length = ms.length := by rw [rma.len, List.length_map]
    refine ⟨ma, rfl, ⟨_, SqL.of hma⟩, for_list (K := K) (a := ma) (xs := mx) (fun i σ' H' => ∃ (v5 : Option V) (rs : List Row), σ' = [some (.ref p), some (.ref la), some (.int many), some (.ref wa), some (.ref F0), v5] ∧ (∀ a o, a ≠ p → a ≠ F0 → H2 a = some o → H' a = some o) ∧ Pen H' p c (b + 16 + 2 + 3 * many + 20 * i) ∧
        Ls H' F0 (rs.map Row.d) ∧ rs.length = i ∧ Told rs ∧ (∀ r ∈ rs, ∃ j, j < i ∧ ms[j]? = some r.mo))
      ⟨none, [], rfl, fun a o _ _ h => h, pen2.up (by omega), ⟨_, hF2, .nil⟩, rfl, Told.nil, fun _ h => by cases h⟩ (fun i σ' H' _ ⟨_, _, _, q, _⟩ => SqL.of (q _ _ (pen2.ne hma) nFma.symm hma)) ?_ ?_⟩
    · rintro i x σ3 H3 hi ⟨v5, rs, rfl, k3, pen3, ls3, hl, T, hin⟩
      obtain ⟨mo, hmo, tx⟩ := data_at rma hi
      have hir : i < ms.length := (List.getElem?_eq_some_iff.mp hmo).1
      have tk3 : TK H2 H3 := fun a o e => k3 a _ (fun z => by subst z; obtain ⟨_, _, _, h, _⟩ := pen2; rw [h] at e; cases e) (fun z => by subst z; rw [hF2] at e; cases e) e
      obtain ⟨am, rfl, ham⟩ := Tp.mo_inv (tx.to tk3)
      have hwa3 := k3 _ _ (pen2.ne hwa2) nFwa.symm hwa2
      have hla3 := k3 _ _ (pen2.ne hla2) nFla.symm hla2
      obtain ⟨xs, hx3, rx3⟩ := id ls3
      have hmany : ms.length = many.toNat := hml
      refine ⟨_, rfl, .inl ⟨rfl, _, SqL.of hx3⟩, _, rfl, _, rfl, _, rfl, _, rfl, _, rfl, wa, _, rfl, SqL.of hwa3, fun A1 hA1 => ?_⟩
      rw [show (some (2 : Int)) = some ((2 : Nat) : Int) from rfl, cut_to]
      have sA1 : Same H3 (upd H3 A1 (.lst ((ss.map V.str).take 2))) := Same.new hA1
      refine ⟨_, rfl, _, rfl, wa, _, rfl, SqL.of (sA1 _ _ hwa3), fun A2 hA2 => ?_⟩
      rw [show (some (2 : Int)) = some ((2 : Nat) : Int) from rfl, cut_from]
      have sA2 := sA1.trans (Same.new (o := .lst ((ss.map V.str).drop 2)) hA2)
      have nA : A1 ≠ A2 := fun z => by subst z; rw [upd_same] at hA2; cases hA2
      have hlt : ∀ r ∈ rs, mLt r.mo mo := fun r hr' => by
        obtain ⟨j, hj, ej⟩ := hin r hr'
        have h1 := List.pairwise_iff_getElem.mp hpw j i (by omega) hir hj
        rw [(List.getElem?_eq_some_iff.mp ej).2, (List.getElem?_eq_some_iff.mp hmo).2] at h1; exact h1
      have hmS : MoS mo := (hok mo (List.mem_of_getElem? hmo)).s
      refine ⟨_, rfl, p, c, _, F0, am, A1, A2, la, mo, rs, ss.take 2, ss.drop 2, lot, rfl, pen3.to sA2, by omega, ls3.to sA2, sA2 _ _ ham, by rw [upd_ne nA, upd_same, List.map_take], by rw [upd_same, List.map_drop], sA2 _ _ hla3, by rw [List.length_take]; omega, by rw [List.length_drop]; omega, ll, ndl, fun s h => hsw s (List.mem_of_mem_take h), fun s h => hsw s (List.mem_of_mem_drop h), wl, hmS.ok, by omega, T.good, hlt, fun H4 v r k4 pen4 tv er hc hg => ?_⟩
      have k34 : Kp p H3 H4 := (Kp.of sA2).trans k4
      have hx4 := k34 _ _ nF.1 hx3
      refine ⟨F0, _, _, rfl, rfl, hx4, by rw [rx3.len, List.length_map, hl]; exact small1000 (by omega), ?_⟩
      have tkF : TK H4 (upd H4 F0 (.lst (xs ++ [v]))) := TK.put hx4 (by intro z; exact nofun)
      refine ⟨_, rs ++ [r], rfl, fun a o na nb e => by rw [upd_ne nb]; exact k34 _ _ na (k3 a o na nb e), (pen4.put nF).up (by omega), ⟨_, upd_same, ?_⟩, by rw [List.length_append, hl]; rfl, T.snoc hg hc (fun y hy => by rw [er]; exact hlt y hy) (by rw [er]; exact hmS), fun y hy => ?_⟩
      · rw [List.map_append]
        exact (rx3.to ((pen3.tk k34).trans tkF)).snoc (tv.to tkF)
      · rcases List.mem_append.mp hy with h | h
        · obtain ⟨j, h1, h2⟩ := hin y h
          exact ⟨j, by omega, h2⟩
        · rw [List.mem_singleton] at h; subst h
          exact ⟨i, by omega, by rw [er]; exact hmo⟩
    · rintro σ3 H3 ⟨v5, rs, rfl, k3, pen3, ls3, hl, T, hin⟩
      refine ⟨_, rfl, k H3 F0 rs (fun a o na e => ?_) (pen3.up (by omega)) hF0 ls3 T (by rw [hl, hmxl]; exact hml)⟩
      exact k3 a o na (ne_of_none e hF0) ((k1.trans k12) _ _ na e)
end
end KN


set_option Elab.async false
set_option linter.all false
set_option maxRecDepth 100000
set_option maxHeartbeats 4000000
namespace KN
open PySem L2
theorem rise_perm : ∀ {a b : List Row}, a.Perm b → Rise a → Rise b → a = b
  | [], b, p, _, _ => (List.nil_perm.mp p).symm
  | x :: a, [], p, _, _ => absurd p.length_eq (by simp)
  | x :: a, y :: b, p, ha, hb => by
    have hx : x ∈ y :: b := p.mem_iff.mp List.mem_cons_self
    have hy : y ∈ x :: a := p.mem_iff.mpr List.mem_cons_self
    have e : x = y := by
      rcases List.mem_cons.mp hx with e | hx
      · exact e
      rcases List.mem_cons.mp hy with e | hy
      · exact e.symm
      exact absurd (((List.pairwise_cons.mp ha).1 y hy).trans ((List.pairwise_cons.mp hb).1 x hx)) mLt.irr
    subst e
    rw [rise_perm (List.Perm.cons_inv p) (List.pairwise_cons.mp ha).2 (List.pairwise_cons.mp hb).2]
theorem rise_nd {rs : List Row} (h : Rise rs) : (rs.map Row.mo).Nodup := List.pairwise_map.mpr (h.imp fun k e => by rw [e] at k; exact mLt.irr k)
theorem rise_sub {rs : List Row} (h : Rise rs) (p : Row → Bool) : Rise (rs.filter p) := List.Pairwise.sublist List.filter_sublist h
theorem st_eq {rs S : List Row} {n : Mo} {u : Option Mo} {ow : Bool} {g : Row → Bool} (rise : Rise rs) (sp : S.Perm (rs.filter fun r => decide (n ∈ r.names))) (riseS : Rise S) (hg : ∀ r, g r = (wholeB r || !ow)) :
    (S.filter fun r => upB r.mo u && decide (r.sort = ("strike" : Str)) && g r) = strikesL rs n u ow := by
  rw [rise_perm sp riseS (rise_sub rise _)]
  unfold strikesL
  rw [List.filter_filter, List.filter_filter]
  refine congrArg (fun p => rs.filter p) (funext fun r => ?_)
  rw [hg]
  have n1 : ¬ ("name" : Str) = "strike" := by decide +kernel
  have n2 : ¬ ("choice" : Str) = "strike" := by decide +kernel
  have n3 : ¬ ("ahead" : Str) = "strike" := by decide +kernel
  cases r with
  | st q x wh =>
    show (upB q u && decide (("strike" : Str) = "strike") && (wh || !ow) && decide (n ∈ [x])) = (decide (x = n) && (wh || !ow) && upB q u)
    rw [decide_eq_true (rfl : ("strike" : Str) = "strike")]
    by_cases h : x = n
    · rw [decide_eq_true h, decide_eq_true (by rw [h]; exact List.mem_singleton.mpr rfl)]
      cases upB q u <;> cases (wh || !ow) <;> rfl
    · rw [decide_eq_false h, decide_eq_false (fun z => h (List.mem_singleton.mp z).symm)]; simp
  | nm q x y z t =>
    show (upB q u && decide (("name" : Str) = "strike") && _ && _) = (false && _ && _)
    rw [decide_eq_false n1]; simp
  | ch q x y =>
    show (upB q u && decide (("choice" : Str) = "strike") && _ && _) = (false && _ && _)
    rw [decide_eq_false n2]; simp
  | ah q x y =>
    show (upB q u && decide (("ahead" : Str) = "strike") && _ && _) = (false && _ && _)
    rw [decide_eq_false n3]; simp
theorem tk_eq {rs S : List Row} {n : Mo} {u : Option Mo} {rk : Int} {ws : List Str} (rise : Rise rs) (sp : S.Perm rs) (riseS : Rise S) :
    ((S.filter fun r => upB r.mo u && rankB (some rk) r).filter (takes rs u n ws)) = takersL rs rk u n ws := by
  rw [rise_perm sp riseS rise]
  unfold takersL rankL
  rw [List.filter_filter (p := rankB (some rk))]
  exact congrArg (fun p => (rs.filter p).filter (takes rs u n ws)) (funext fun r => Bool.and_comm _ _)
/-- the first of some rows, or none -/
def fstD (L : List Row) : PyData := oD (L.head?.map Row.mo)
theorem fst_ok (L : List Row) : okD (fstD L) = true ∧ (fstD L).depth ≤ 60 := by
  unfold fstD
  cases L with
  | nil => exact ⟨rfl, by simp [oD, PyData.depth]⟩
  | cons r L => exact ⟨rfl, depth_m r.mo⟩
theorem okD_fst (Ls3 : List (List Row)) : okD (.list (Ls3.map fstD)) = true := by
  simp only [okD]
  exact okDs_all.mpr fun d hd => by obtain ⟨x, _, rfl⟩ := List.mem_map.mp hd; exact (fst_ok x).1
theorem shaped_fst (Ls3 : List (List Row)) : SeqAt.shaped (.list (Ls3.map fstD)) = true := shaped_list fun d hd => by
  obtain ⟨x, _, rfl⟩ := List.mem_map.mp hd; exact fst_ok x
end KN


set_option Elab.async false
set_option linter.all false
set_option maxRecDepth 100000
set_option maxHeartbeats 4000000
namespace KN
open PySem PySem.Spec PyProof.Rows L2
/-! Own rule: t >= u of two moments. -/
def rGeM (K : PySem.W.Frag) : R2 := fun x y H Q => ∃ (a b : Addr) (m u : Mo), x = .ref a ∧ y = .ref b ∧ SqT K H a [.int m.1, .int m.2] ∧ SqT K H b [.int u.1, .int u.2] ∧ Q (.bl (!decide (mLt m u))) H
theorem ge2 (m u : Mo) : Ob.lexAt (fun j => decide (([m.1, m.2] : List Int).getD j 0 = ([u.1, u.2] : List Int).getD j 0)) (fun j => decide (([u.1, u.2] : List Int).getD j 0 ≤ ([m.1, m.2] : List Int).getD j 0)) (decide (([m.1, m.2] : List Int).length ≥ ([u.1, u.2] : List Int).length)) 0 (min ([m.1, m.2] : List Int).length ([u.1, u.2] : List Int).length) = !decide (mLt m u) := by
  show Ob.lexAt _ _ _ 0 2 = _
  rw [Ob.lexAt_succ, Ob.lexAt_succ, Ob.lexAt_zero]
  simp only [List.getD_cons_zero, List.getD_cons_succ, List.length_cons, List.length_nil]
  have no : ∀ h : ¬ mLt m u, (!decide (mLt m u)) = true := fun h => by rw [decide_eq_false h]; rfl
  have ya : ∀ h : mLt m u, (!decide (mLt m u)) = false := fun h => by rw [decide_eq_true h]; rfl
  by_cases h1 : m.1 = u.1
  · rw [decide_eq_true h1, if_pos rfl]
    by_cases h2 : m.2 = u.2
    · rw [decide_eq_true h2, if_pos rfl]
      rw [decide_eq_true (by omega : (0 + 1 + 1 ≥ 0 + 1 + 1)), no (by unfold mLt; omega)]
    · rw [decide_eq_false h2, if_neg (by decide)]
      by_cases h3 : u.2 ≤ m.2
      · rw [decide_eq_true h3, no (by unfold mLt; omega)]
      · rw [decide_eq_false h3, ya (by unfold mLt; omega)]
  · rw [decide_eq_false h1, if_neg (by decide)]
    by_cases h3 : u.1 ≤ m.1
    · rw [decide_eq_true h3, no (by unfold mLt; omega)]
    · rw [decide_eq_false h3, ya (by unfold mLt; omega)]
theorem op_geM {X : Cx} (hu : X.A.units < cLine) : OpR X (compareOp .GtE) (rGeM X.K) := by
  intro pins s σ H x y v u Q I rx ry h
  obtain ⟨a, b, m, um, rfl, rfl, ha', hb', q⟩ := h
  have ha : SqT X.K H a (([m.1, m.2] : List Int).map V.int) := ha'
  have hb : SqT X.K H b (([um.1, um.2] : List Int).map V.int) := hb'
  rw [← ge2] at q
  generalize ([m.1, m.2] : List Int) = ns at ha q
  generalize ([um.1, um.2] : List Int) = ms at hb q
  cases rx
  cases ry
  obtain ⟨its, r1, p1, _⟩ := I.tuple ha
  obtain ⟨its2, r2, p2, _⟩ := I.tuple hb
  have i1 : IntsAre its ns := Vals.ints r1
  have i2 : IntsAre its2 ms := Vals.ints r2
  have e1 : its.toArray.size = ns.length := by rw [List.size_toArray]; exact i1.length
  have e2 : its2.toArray.size = ms.length := by rw [List.size_toArray]; exact i2.length
  have at1 : ∀ j (h1 : j < its.toArray.size), ∃ t, its.toArray[j] = .int (ns.getD j 0) t := fun j h1 => PyProof.Rows.IntsAre.int_at i1 _ _ (by simp at h1; simp [h1])
  have at2 : ∀ j (h1 : j < its2.toArray.size), ∃ t, its2.toArray[j] = .int (ms.getD j 0) t := fun j h1 => PyProof.Rows.IntsAre.int_at i2 _ _ (by simp at h1; simp [h1])
  have R := Ob.RcOp.tuples_ge (A := X.A) (s := s) (e := fun j => decide (ns.getD j 0 = ms.getD j 0)) (r := fun j => decide (ms.getD j 0 ≤ ns.getD j 0)) p1 p2 hu (fun j h1 h2 => by
    obtain ⟨t, et⟩ := at1 j h1
    obtain ⟨t', et'⟩ := at2 j h2
    rw [et, et']
    have z : (ns.getD j 0 == ms.getD j 0) = decide (ns.getD j 0 = ms.getD j 0) := by
      by_cases q : ns.getD j 0 = ms.getD j 0
      · rw [decide_eq_true q]; exact beq_iff_eq.mpr q
      · rw [decide_eq_false q]; exact beq_eq_false_iff_ne.mpr q
    rw [← z]
    exact SeqAt.EqAt.int_int _ _ _ _) (fun j h1 h2 _ => by
    obtain ⟨t, et⟩ := at1 j h1
    obtain ⟨t', et'⟩ := at2 j h2
    rw [et, et']
    exact Ob.RcOp.ge_int _ _ _ _)
  rw [e1, e2] at R
  have z : wpAny (model X.prog X.w) X.A (compareOp .GtE (.ref a) (.ref b)) (EP X pins σ Q) X.xe s := R X.prog X.w X.xe (EP X pins σ Q) ⟨.bl _, H, I, rfl, q⟩
  exact z
end KN

set_option Elab.async false
set_option linter.all false
set_option maxRecDepth 100000
set_option maxHeartbeats 4000000
/-! Own rule: {k: v for x in iter if ..} whose keys are tuples. -/
namespace KN
open PySem PySem.Spec PyProof.Rows L2
theorem setT {X : Cx} {pins : List (Addr × Obj)} {σ : L2.St} {H : Hp} {s : Shared} {E : Value → Shared → Prop} {d b : Addr} {kvs : List (List Key × V)} {k : List Key} {v : V} {r : Value} {Q : Unit → Shared → Prop} (hu : X.A.units + 1 < cLine) (J : Inv X pins σ H s)
    (e : H d = some (.dT kvs)) (eb : H b = some (.tup (k.map kV))) (room : kvs.length < sizeLine) (rv : RelV v r) (go : ∀ t, Inv X pins σ (upd H d (.dT (putK kvs k v))) t → Q () t) : wpAny (model X.prog X.w) X.A (dictSet d (.ref b) r) Q E s := by
  obtain ⟨z, lo, xs, rel, dd⟩ := dt_of J.hok e
  have few : xs.length ≤ sizeLine := by rw [← Paired.length rel]; exact z
  refine wpAny_dictSet_heap (hsz := few) (show X.A.units < cLine by omega) (key_of J.hok eb) dd fun g dd' same => go _ ?_
  obtain ⟨ob, es, ep, c1, c2, c3, c4, _, c5⟩ := dd'
  refine d_write J (by rw [e]; exact True.intro) same ⟨ob, c1⟩ ⟨?_, lo, _, (KT.put rel k eb rv).keeps fun c ys ec => ?_, ob, es, ep, c1, c2, c3, c4, c5⟩
  · have := length_putK kvs k v; omega
  · rw [upd_ne (ne_of ec e (fun z => nomatch z))]; exact ec
def tDcT (wi : TI) (g : TG) (tt : TT) (tk tv : TE) (vs : List Nat) : TE := fun σ H Q => wi σ H fun J G => ∀ D, G D = none → ∃ W : Nat → Nat → Hp → Prop, (∃ m, W 0 m (upd G D (.dT []))) ∧ ∀ i m H, W i m H →
  (J.stop i H ∧ Q (.ref D) H) ∨ (J.go i H ∧ ∃ N : Hp → Prop, (∀ H', N H' → ∃ m', m' < m ∧ W (i + 1) m' H') ∧ ∀ x H', J.yld i H x H' → g x (wipe σ vs) H' fun σ2 H2 => wipe σ2 vs = wipe σ vs ∧ tt σ2 H2 fun c H3 =>
    if c = true then tk σ2 H3 fun y H4 => tv σ2 H4 fun z H5 => ∃ (kvs : List (List Key × V)) (k : List Key) (b : Addr), y = .ref b ∧ H5 b = some (.tup (k.map kV)) ∧ H5 D = some (.dT kvs) ∧ kvs.length < sizeLine ∧ N (upd H5 D (.dT (putK kvs k z))) else N H3)
theorem pe_dcT {X : Cx} {ek ev tg iter : Expr} {ifs : List Expr} {sc : Scope} {own : List (Str × Nat)} {pos : Pos} {wi : TI} {g : TG} {tt : TT} {tk tv : TE} (hu : X.A.units + 1 < cLine) (calm : X.calm = true) (nodup : X.N.Nodup) (hi : PI X tg iter wi) (ok : BlkOk X.N X.env.scope sc own)
    (hg : ∀ (s : Shared) (H : Hp) (c : Addr) (cl : List (Str × Addr)) (fp : List Addr), PG (X.blk s H sc (compEnvC sc cl c X.env) fp) tg g)
    (ht : ∀ (s : Shared) (H : Hp) (c : Addr) (cl : List (Str × Addr)) (fp : List Addr), PTs (X.blk s H sc (compEnvC sc cl c X.env) fp) ifs tt)
    (hk : ∀ (s : Shared) (H : Hp) (c : Addr) (cl : List (Str × Addr)) (fp : List Addr), PE (X.blk s H sc (compEnvC sc cl c X.env) fp) ek tk)
    (hv : ∀ (s : Shared) (H : Hp) (c : Addr) (cl : List (Str × Addr)) (fp : List Addr), PE (X.blk s H sc (compEnvC sc cl c X.env) fp) ev tv)
    (fold : ∀ x, foldedSetIterable iter X.env x = pure x := by intro _; rfl) : PE X (.DictComp ek ev [⟨tg, iter, ifs, 0⟩] sc pos) (tDcT wi g tt tk tv (own.map (·.2))) := by
  refine ⟨fun pins s σ H Q I h => ?_⟩
  rw [arm_eval_DictComp]
  have open_ : ∀ y ∈ sc.names, y.2 = .free → ∃ c, X.env.cells.lookup y.1 = some c := fun y hy e => by
    rcases ok.free y hy e with q | q
    · exact I.ok.has _ (.inl q)
    · exact I.ok.has _ (.inr q)
  refine wpAny_comprehension_free (use := none) rfl fold (closure_ok open_) ok.kind (fun y hy e => by rw [ok.uniq y hy, e]) (thn (hi.run pins s σ H _ I h) fun xv t1 a => thn a fun iv t2 a2 => ?_)
  obtain ⟨it, fp, tn, J, G, rfl, I2, T, at0, off, q⟩ := a2
  refine wpAny_newObj_type (newEnv_comp ?_)
  generalize eD : t2.heap.objs.size = D
  have dn : G D = none := I2.hok.fresh (Nat.le_of_eq eD)
  obtain ⟨W, ⟨m0, w0⟩, turn⟩ := q D dn
  generalize e3 : ({ t2 with heap := t2.heap.push { cls := .type "dict", data := .dict #[] } } : Shared) = t3
  have eh : t3.heap = t2.heap.push { cls := .type "dict", data := .dict #[] } := by rw [← e3]
  have I3 : Inv X pins σ (upd G D (.dT [])) t3 := by
    rw [← e3]
    exact I2.laid (t' := t2.toks) (fun b o e => Heap.get?_push_of_some _ e) (Nat.le_of_eq eD) (by rw [← eD]; exact dt_empty t2.heap I2.big)
  have far : ∀ b ∈ fp, FpOk X pins (upd G D (.dT [])) b ∧ b < t3.heap.objs.size := fun b hb => by
    obtain ⟨o, e, _⟩ := T.obj _ _ at0 b hb
    have lt := Heap.lt_size e
    refine ⟨⟨?_, (off b hb).2⟩, by rw [eh, Heap.size_push]; exact Nat.lt_succ_of_lt lt⟩
    rw [upd_ne (by rw [← eD]; exact Nat.ne_of_lt lt)]; exact (off b hb).1
  have at3 : tn 0 t3.heap := T.keep _ _ _ at0 fun b _ o e => by rw [eh]; exact Heap.get?_push_of_some _ e
  have I4 := block_start I3 ok nodup far
  generalize eC : cellsFrom (t3.heap.objs.size + 1) sc.names (cloFrom X.env.cells sc.names []) = cl at I4
  have pg := hg t3 (upd G D (.dT [])) t3.heap.objs.size cl fp
  have pt := ht t3 (upd G D (.dT [])) t3.heap.objs.size cl fp
  have pk := hk t3 (upd G D (.dT [])) t3.heap.objs.size cl fp
  have pv := hv t3 (upd G D (.dT [])) t3.heap.objs.size cl fp
  have none0 : ∀ b ∈ fp, (upd G D (.dT [])) b = none := fun b hb => (far b hb).1.1
  have fin0 : ∀ t' H', Inv X pins σ H' t' → Q (.ref D) H' → ∀ m, t'.heap.Ns t3.heap.objs.size m → FpOk X pins H' t3.heap.objs.size → compPost (model X.prog X.w) X.A X.xe none (fun r t => ∃ x H', Inv X pins σ H' t ∧ RelV x r ∧ Q x H') (.ref D) t3.heap.objs.size (.ok .next) t' := by
    intro t' H' I' q m hn f
    refine ⟨m, hn, fun h'' sb => ?_⟩
    obtain ⟨f0, f1, f2, f3, f4, f5⟩ := f
    exact ⟨.ref D, H', I'.turned (t' := t'.toks) (fun b o hb e => (sb.2 b hb).trans e) f0 f1 f3 f4 f5, rfl, q⟩
  show codeAny (model X.prog X.w) X.A (.compStart (.DictComp ek ev [⟨tg, iter, ifs, 0⟩] sc pos) 0 (.ref it) (.ref D) (compEnvC sc cl t3.heap.objs.size X.env)) _ { t3 with heap := pushCells (t3.heap.push { cls := .type "dict", data := .dict #[] }) sc.names }
  generalize ee : compEnvC sc cl t3.heap.objs.size X.env = ce at I4 pg pt pk pv ⊢
  have el : ce.locals = t3.heap.objs.size := by subst ee; rfl
  generalize eG : upd G D (.dT []) = G3 at I3 I4 pg pt pk pv w0 none0 far
  generalize e4 : ({ t3 with heap := pushCells (t3.heap.push { cls := .type "dict", data := .dict #[] }) sc.names } : Shared) = t4 at I4 ⊢
  have at4 : tn 0 t4.heap := T.keep _ _ _ at3 fun b _ o e => by rw [← e4]; exact pushCells_keeps _ _ _ _ (Heap.get?_push_of_some _ e)
  have stand : ∀ {τ : L2.St} {H' : Hp} {t : Shared}, Inv (X.blk t3 G3 sc ce fp) [] τ H' t → (∀ b ∈ fp, H' b = none) → ∀ b ∈ fp, FpOk (X.blk t3 G3 sc ce fp) [] H' b := fun {τ H' t} I' n b hb =>
    ⟨n b hb, (I'.ok.exf b hb).1, I'.ok.exfs b hb, .inl hb, fun x c e => (I'.ok.exf b hb).2 x c e, fun p hp => absurd (show p ∈ ([] : List (Addr × Obj)) ++ [] from hp) (by simp)⟩
  have loop : codeAny (model X.prog X.w) X.A (.compLoop (.DictComp ek ev [⟨tg, iter, ifs, 0⟩] sc pos) 0 (.ref it) (.ref D) ce) (compPost (model X.prog X.w) X.A X.xe none (fun r t => ∃ x H', Inv X pins σ H' t ∧ RelV x r ∧ Q x H') (.ref D) t3.heap.objs.size) t4 := by
    refine compLoop_anyD (fun n t => ∃ i H', Inv (X.blk t3 G3 sc ce fp) [] (wipe σ (own.map (·.2))) H' t ∧ tn i t.heap ∧ (∀ b ∈ fp, H' b = none) ∧ W i n H') ?_ m0 ⟨0, G3, I4, at4, none0, w0⟩
    rintro n t5 ⟨i, H5, I5, at5, n5, w5⟩
    rcases turn i n H5 w5 with ⟨ends, fin⟩ | ⟨goes, N, less, step⟩
    · refine thnF (T.done (X.blk t3 G3 sc ce fp) rfl rfl rfl calm i [] t5 _ H5 (fun _ _ => False) I5 (stand I5 n5) at5 ends) fun r t6 ⟨er, I6⟩ => ?_
      subst er
      have I7 : Inv X pins σ H5 t6 := I3.call' (ch := fp) I6.os I6.base I6.hok I6.bare fun b hb => let f := (far b hb).1.2; ⟨f.2.2.1, f.1, f.2.2.2.1, f.2.2.2.2⟩
      have nC : H5 t3.heap.objs.size = none := by
        have z : H5 ce.locals = none := I6.free
        rw [el] at z; exact z
      obtain ⟨m, hn, _⟩ := I6.loc
      have hn' : t6.heap.Ns ce.locals m := hn
      rw [el] at hn'
      exact fin0 t6 H5 I7 fin m hn' (I3.fpOk (Nat.le_refl _) nC)
    · refine thnF (T.item (X.blk t3 G3 sc ce fp) rfl rfl rfl calm i [] t5 _ H5 (fun _ _ => False) I5 (stand I5 n5) at5 goes) fun r t6 ⟨u, er, h6⟩ => ?_
      subst er
      refine thnF h6 fun _ t7 ⟨x, H7, I7, r7, y7, at7, n7⟩ => ?_
      have I7p := I7.pinned (stand I7 n7) (T.obj _ _ at7)
      refine thnF (pg.run _ t7 _ H7 x u _ I7p r7 (step x H7 y7)) fun _ t8 ⟨σ8, H8, I8, same, q8⟩ => thnF (pt.run _ t8 σ8 H8 _ I8 q8) fun c t9 ⟨H9, I9, q9⟩ => ?_
      have back : ∀ {t : Shared} {H' : Hp}, Inv (X.blk t3 G3 sc ce fp) ([] ++ pinsAt fp t7.heap) σ8 H' t → N H' → ∃ m, m < n ∧ ∃ i H', Inv (X.blk t3 G3 sc ce fp) [] (wipe σ (own.map (·.2))) H' t ∧ tn i t.heap ∧ (∀ b ∈ fp, H' b = none) ∧ W i m H' := fun {t H'} I' nx => by
        obtain ⟨m', lt, w'⟩ := less H' nx
        have pin : ∀ b ∈ fp, ∀ o, t7.heap.get? b = some o → t.heap.get? b = some o ∧ H' b = none := fun b hb o e => by
          have z := I'.pin (b, o) (List.mem_append_right _ (List.mem_append_right _ (mem_pinsAt hb e)))
          exact ⟨z.1, z.2.1⟩
        refine ⟨m', lt, i + 1, H', (I'.unpinned (pins := [])).weak (by rw [← same, wipe_length]) (fun j v e => ?_), T.keep _ _ _ at7 fun b hb o e => (pin b hb o e).1, fun b hb => ?_, w'⟩
        · rw [← same] at e; exact (wipe_some e).1
        · obtain ⟨o, e, _⟩ := T.obj _ _ at7 b hb
          exact (pin b hb o e).2
      cases c with
      | false =>
        rw [if_neg Bool.false_ne_true] at q9 ⊢
        exact back I9 q9
      | true =>
        rw [if_pos rfl] at q9 ⊢
        refine thnF (pk.run _ t9 σ8 H9 _ I9 q9) fun z t10 ⟨yk, H10, I10, r10, q10⟩ => thnF (pv.run _ t10 σ8 H10 _ I10 q10) fun z2 t11 ⟨yv, H11, I11, r11, kvs, k, b, ek', eb, eD', room, nx⟩ => ?_
        subst ek'
        obtain rfl : z = Value.ref b := r10
        exact setT (X := X.blk t3 G3 sc ce fp) hu I11 eD' eb room r11 fun t12 I12 => back I12 nx
  exact codeAny_compStart_dict loop (T.self X.A 0 _ _ _ at4 loop)
theorem dcT_it {J : It} {n : Nat} {Gd : Hp → Prop} {Y : Nat → Hp → V → Hp → Prop} (w : Walk J n Gd Y) {g : TG} {tt : TT} {tk tv : TE} {vs : List Nat} {σ : L2.St} {G : Hp} {D : Addr} {Qd : Hp → Prop} (Pv : Nat → Hp → Prop) (h0 : Pv 0 (upd G D (.dT []))) (hG : ∀ i H, i ≤ n → Pv i H → Gd H)
    (hs : ∀ i x H H', i < n → Pv i H → Y i H x H' → g x (wipe σ vs) H' fun σ2 H2 => wipe σ2 vs = wipe σ vs ∧ tt σ2 H2 fun c H3 =>
      if c = true then tk σ2 H3 fun y H4 => tv σ2 H4 fun z H5 => ∃ (kvs : List (List Key × V)) (k : List Key) (b : Addr), y = .ref b ∧ H5 b = some (.tup (k.map kV)) ∧ H5 D = some (.dT kvs) ∧ kvs.length < sizeLine ∧ Pv (i + 1) (upd H5 D (.dT (putK kvs k z))) else Pv (i + 1) H3)
    (hd : ∀ H, Pv n H → Qd H) : ∃ W : Nat → Nat → Hp → Prop, (∃ m, W 0 m (upd G D (.dT []))) ∧ ∀ i m H, W i m H → (J.stop i H ∧ Qd H) ∨ (J.go i H ∧ ∃ N : Hp → Prop, (∀ H', N H' → ∃ m', m' < m ∧ W (i + 1) m' H') ∧
      ∀ x H', J.yld i H x H' → g x (wipe σ vs) H' fun σ2 H2 => wipe σ2 vs = wipe σ vs ∧ tt σ2 H2 fun c H3 =>
        if c = true then tk σ2 H3 fun y H4 => tv σ2 H4 fun z H5 => ∃ (kvs : List (List Key × V)) (k : List Key) (b : Addr), y = .ref b ∧ H5 b = some (.tup (k.map kV)) ∧ H5 D = some (.dT kvs) ∧ kvs.length < sizeLine ∧ N (upd H5 D (.dT (putK kvs k z))) else N H3) := by
  refine ⟨fun i m H => m = n - i ∧ i ≤ n ∧ Pv i H, ⟨n, (Nat.sub_zero n).symm, Nat.zero_le _, h0⟩, ?_⟩
  rintro i m H ⟨rfl, hi, p⟩
  have good := hG i H hi p
  rcases Nat.lt_or_ge i n with lt | ge
  · exact .inr ⟨w.goes i H lt good, Pv (i + 1), fun H' p' => ⟨n - (i + 1), by omega, rfl, lt, p'⟩, fun x H' y => hs i x H H' lt p (w.yields i H x H' lt good y)⟩
  · obtain rfl : i = n := by omega
    exact .inl ⟨w.stops H good, hd H p⟩
end KN

set_option Elab.async false
set_option linter.all false
set_option maxRecDepth 100000
set_option maxHeartbeats 4000000
/-! Own rules: an attribute as a part of a target, any() of lists. -/
namespace KN
open PySem PySem.Spec PyProof.Rows L2
def gFld (K : PySem.W.Frag) (to : TE) (f : Str) : TG := fun v σ H Q => to σ H fun x G => ∃ a C dx fs, x = .ref a ∧ G a = some (.ins C dx fs) ∧ Cls K C ∧ NoAttr K C f ∧ fs.length < 1000 ∧ Q σ (upd G a (.ins C dx (putF f v fs)))
theorem pg_fld {X : Cx} {o : Expr} {f : Str} {to : TE} {pos : Pos} (ho : PE X o to) : PG X (.Attribute o f pos) (gFld X.K to f) := by
  refine ⟨fun pins s σ H v u Q I r h => ?_⟩
  rw [assign_Attribute]
  refine wpAny_bind (wpAny_holding (thn (ho.run pins s σ H _ I h) fun ov t ⟨x, G, J, rx, a, C, dx, fs, ex, ea, c, n, l, q⟩ => ?_))
  subst ex
  obtain rfl : ov = Value.ref a := rx
  refine wpAny_bind (wpAny_standAt (wpAny_bind (wpAny_holding (setattr_ok J ea c n l r fun t2 J2 => ?_))))
  exact wpAny_release ⟨σ, _, J2, q⟩
section
variable {prog : Program} {w : World} {A : Around} {R : Result → Shared → Prop}
theorem anyL_loop {I l : Addr} {its : Array Value} {g0 : Heap} (calm : A.handled = none) (ne : l ≠ I) (hI : g0.get? I = none ∨ True) (tr : Nat → Bool) (htr : ∀ i v (s : Shared) (Q : Bool → Shared → Prop) (E : Value → Shared → Prop), its[i]? = some v → (∀ b o, g0.get? b = some o → b ≠ I → s.heap.get? b = some o) → (∀ tk, Q (tr i) { s with toks := tk }) → wpAny (model prog w) A.in1 (truthy v) Q E s) :
    ∀ (k i : Nat) (s : Shared), its.size - i = k → i ≤ its.size → s.heap.IsListIter I l i ∧ s.heap.IsList l its → (∀ b o, g0.get? b = some o → b ≠ I → s.heap.get? b = some o) →
    (∀ h' tk, (∀ b o, g0.get? b = some o → b ≠ I → h'.get? b = some o) → R (.ok (.ret (.bool (((List.range its.size).drop i).any tr)))) { s with heap := h', toks := tk }) → codeAny (model prog w) A (.builtin "any.loop" ⟨[.ref I], []⟩) R s := by
  have W := Walks.list (prog := prog) (w := w) (A := A.in1) calm I l ne its
  intro k
  induction k with
  | zero =>
    intro i s e le at_ kept out
    obtain rfl : i = its.size := by omega
    refine codeAny_builtin F.entry_any_loop ?_
    rw [Around.under_plainId F.plain_any_loop _]
    show wpAny _ A.in1 (pyNext (.ref I) >>= _) _ _ s
    refine wpAny_bind (W.done s _ _ at_ fun h' tk keep => wpAny_bind (wpAny_rule (wpAny_pure ?_)))
    have z := out h' tk fun b o e n => keep b o (by rw [List.mem_singleton]; exact n) (kept b o e n)
    rwa [List.drop_of_length_le (by rw [List.length_range]; exact Nat.le_refl _)] at z
  | succ k ih =>
    intro i s e le at_ kept out
    have lt : i < its.size := by omega
    have cut : (List.range its.size).drop i = i :: (List.range its.size).drop (i + 1) := by
      rw [List.drop_eq_getElem_cons (by rw [List.length_range]; exact lt), List.getElem_range]
    refine codeAny_builtin F.entry_any_loop ?_
    rw [Around.under_plainId F.plain_any_loop _]
    show wpAny _ A.in1 (pyNext (.ref I) >>= _) _ _ s
    refine wpAny_bind (W.item i s _ _ lt at_ fun v h' tk hv at' keep => ?_)
    have kept' : ∀ b o, g0.get? b = some o → b ≠ I → h'.get? b = some o := fun b o e n => keep b o (by rw [List.mem_singleton]; exact n) (kept b o e n)
    refine wpAny_bind (wpAny_holding (htr i v _ _ _ hv kept' fun tk2 => wpAny_bind (wpAny_letGo ?_)))
    cases c : tr i with
    | false =>
      rw [if_neg Bool.false_ne_true]
      refine wpAny_pure ⟨plainId_quiet F.plain_any_loop _, ih (i + 1) _ (by omega) lt at' kept' fun h2 tk2 kept2 => ?_⟩
      have z := out h2 tk2 kept2
      rwa [cut, List.any_cons, c, Bool.false_or] at z
    | true =>
      rw [if_pos rfl]
      refine wpAny_bind (wpAny_rule (wpAny_pure ?_))
      have z := out h' tk2 kept'
      rwa [cut, List.any_cons, c, Bool.true_or] at z
end
def rAnyL (K : PySem.W.Frag) : List V → Hp → VK → Prop := fun vs H Q => ∃ (a : Addr) (ls : List (Addr × List V)), vs = [.ref a] ∧ SqL K H a (ls.map fun p => V.ref p.1) ∧ (∀ p ∈ ls, SqL K H p.1 p.2) ∧ Q (.bl (ls.any fun p => !p.2.isEmpty)) H
theorem range_any {α : Type} (f : α → Bool) (d : Bool) : ∀ (xs : List α), (List.range xs.length).any (fun i => ((xs[i]?).map f).getD d) = xs.any f
  | [] => rfl
  | x :: xs => by
    rw [List.length_cons, List.range_succ_eq_map, List.any_cons, List.any_map, List.any_cons]
    congr 1
    exact range_any f d xs
theorem cr_anyL {X : Cx} (calm : X.calm = true) : CallR X (.builtin "any") (rAnyL X.K) := by
  intro pins s σ H vs us Q I r h
  obtain ⟨a, ls, rfl, hs, each, q⟩ := h
  obtain ⟨its, rv, hl, _⟩ := I.list hs
  rw [Vals.ref1 r]
  have len := rv.length
  rw [List.length_map] at len
  refine call_function_tree F.kind_any F.plain_any F.entry_any (F.args_any1 _) ?_
  unfold Builtin.«any»
  refine wpAny_bind (m := oneArg "any" _) (wpAny_pure ?_)
  refine wpAny_bind (iter_any hl.isList fun t et st ne => ?_)
  refine wpAny_pure ⟨plainId_quiet F.plain_any_loop _, anyL_loop (g0 := s.heap) (I.ok.hd calm) ne (.inr trivial) (fun i => ((ls[i]?).map fun p => !p.2.isEmpty).getD false) (fun i v t2 Q2 E2 hv kept q2 => ?_) _ 0 t rfl (Nat.zero_le _) st (fun b o e n => ?_) fun g tk kept => ?_⟩
  · have hv' : its[i]? = some v := by simpa using hv
    obtain ⟨y, hy, ry⟩ : ∃ y, (ls.map fun p => V.ref p.1)[i]? = some y ∧ RelV y v := by
      have := rv.length
      have hi : i < its.length := (List.getElem?_eq_some_iff.mp hv').1
      obtain ⟨u, hu, ru⟩ := rv.get (List.getElem?_eq_getElem (by omega : i < (ls.map fun p => V.ref p.1).length))
      rw [hv'] at hu; cases hu
      exact ⟨_, List.getElem?_eq_getElem (by omega), ru⟩
    rw [List.getElem?_map] at hy
    obtain ⟨p, hp, rfl⟩ := Option.map_eq_some_iff.mp hy
    cases ry
    obtain ⟨js, rj, hj, hz⟩ := I.list (each p (List.mem_of_getElem? hp))
    have e : (!js.toArray.isEmpty) = !p.2.isEmpty := isEmpty_of rj
    rw [hp] at q2
    have lj := hj.isList
    have lj2 : t2.heap.IsList p.1 js.toArray := lj.at fun o eo => kept _ _ eo (Nat.ne_of_lt (Heap.lt_size eo))
    have hlen := rj.length
    refine wpAny_truthy_list lj2 (by simp only [List.size_toArray]; have := line63; omega) ?_
    rw [e]
    exact q2 _
  · subst et
    exact Heap.get?_push_of_some _ e
  · subst et
    refine ⟨.bl _, H, I.kept fun b o eo => kept b o eo (Nat.ne_of_lt (Heap.lt_size eo)), ?_, q⟩
    show Value.bool _ = Value.bool _
    congr 1
    rw [List.drop_zero, List.size_toArray, ← len]
    exact range_any (fun p : Addr × List V => !p.2.isEmpty) false ls
end KN
namespace KN
open PySem PySem.Spec PyProof.Rows L2
theorem cr_anyLK {X : Cx} (K : PySem.W.Frag) (calm : X.calm = true) (h : X.K = K := by rfl) : CallR X (.builtin "any") (rAnyL K) := by subst h; exact cr_anyL calm
theorem cr_allK {X : Cx} (K : PySem.W.Frag) (calm : X.calm = true) (h : X.K = K := by rfl) : CallR X (.builtin "all") (rAll K) := by subst h; exact cr_all calm
end KN
namespace KN
open PySem PySem.Spec PyProof.Rows L2
theorem pi_listK {X : Cx} (K : PySem.W.Frag) {tg e : Expr} {te : TE} (he : PE X e te) (h : X.K = K := by rfl) : PI X tg e (iList K te) := by subst h; exact pi_list he
end KN

set_option Elab.async false
set_option linter.all false
set_option maxRecDepth 100000
set_option maxHeartbeats 4000000
namespace KN
open PySem L2
/-! Rows as data. -/
theorem lays_all {ds : List PyData} : PyData.canLayAll0 ds = true ↔ ∀ d ∈ ds, d.canLay0 = true := by
  induction ds with
  | nil => simp [PyData.canLayAll0]
  | cons d ds ih => simp [PyData.canLayAll0, ih]
theorem lay_strs {ss : List Str} (h : ∀ z ∈ ss, IsW z) : (PyData.tuple (ss.map PyData.str)).canLay0 = true := okD_lay _ (okD_ws h)
theorem lay_oD (l : Option Mo) : (oD l).canLay0 = true := by
  cases l with
  | none => rfl
  | some m => exact okD_lay _ (okD_m m)
theorem lay_row {r : Row} (h : RowW r) : r.d.canLay0 = true := by
  have hs : ∀ z : Str, PyData.strOk z = true → (PyData.str z).canLay0 = true := fun z q => okD_lay _ (by simpa [okD] using q)
  have hm : ∀ m : Mo, (mD m).canLay0 = true := fun m => okD_lay _ (okD_m m)
  have e : ∀ ds, (PyData.tuple ds).canLay0 = PyData.canLayAll0 ds := fun ds => by simp [PyData.canLay0]
  unfold Row.d
  rw [e, lays_all]
  intro d hd
  cases r with
  | nm m rk ws ss l =>
    simp only [Row.ds, List.mem_cons, List.not_mem_nil, or_false] at hd
    rcases hd with rfl | rfl | rfl | rfl | rfl | rfl
    · exact hs _ (by decide +kernel)
    · exact hm m
    · rfl
    · exact lay_strs h.2.1
    · exact lay_strs h.2.2.1
    · exact lay_oD l
  | ch m n z =>
    simp only [Row.ds, List.mem_cons, List.not_mem_nil, or_false] at hd
    rcases hd with rfl | rfl | rfl | rfl
    · exact hs _ (by decide +kernel)
    · exact hm m
    · exact hm n
    · exact hs _ (strOk_w h)
  | st m n b =>
    simp only [Row.ds, List.mem_cons, List.not_mem_nil, or_false] at hd
    rcases hd with rfl | rfl | rfl | rfl
    · exact hs _ (by decide +kernel)
    · exact hm m
    · exact hm n
    · simp [PyData.canLay0]
  | ah m n o =>
    simp only [Row.ds, List.mem_cons, List.not_mem_nil, or_false] at hd
    rcases hd with rfl | rfl | rfl | rfl
    · exact hs _ (by decide +kernel)
    · exact hm m
    · exact hm n
    · exact hm o
theorem depth_row (r : Row) : r.d.depth ≤ 10 := by
  have hs : ∀ ss : List Str, PyData.depthAll (ss.map PyData.str) ≤ 1 := fun ss => by
    induction ss with
    | nil => simp [PyData.depthAll]
    | cons s ss ih => simp only [List.map_cons, PyData.depthAll, PyData.depth] at ih ⊢; omega
  cases r with
  | nm m rk ws ss l =>
    have h1 := hs ws
    have h2 := hs ss
    cases l <;> simp [Row.d, Row.ds, oD, mD, PyData.depth, PyData.depthAll] <;> omega
  | _ => simp [Row.d, Row.ds, mD, PyData.depth, PyData.depthAll]
theorem shaped_row {r : Row} (h : RowW r) : SeqAt.shaped r.d = true := by
  unfold SeqAt.shaped
  rw [lay_row h, decide_eq_true (Nat.le_trans (depth_row r) (by decide))]; rfl
theorem shaped_rows {rs : List Row} (h : ∀ r ∈ rs, RowW r) : SeqAt.shaped (.list (rs.map Row.d)) = true := by
  unfold SeqAt.shaped
  have h1 : (PyData.list (rs.map Row.d)).canLay0 = true := by
    have e : ∀ ds, (PyData.list ds).canLay0 = PyData.canLayAll0 ds := fun ds => by simp [PyData.canLay0]
    rw [e, lays_all]
    intro d hd
    obtain ⟨r, hr, rfl⟩ := List.mem_map.mp hd
    exact lay_row (h r hr)
  have h2 : (PyData.list (rs.map Row.d)).depth ≤ 64 := by
    have := depthAll_le (k := 10) (ds := rs.map Row.d) fun d hd => by
      obtain ⟨r, hr, rfl⟩ := List.mem_map.mp hd
      exact depth_row r
    simp only [PyData.depth]; omega
  rw [h1, decide_eq_true h2]; rfl
theorem eqvAll_get : ∀ {ds es : List PyData} {i : Nat} {d e : PyData}, PyData.eqvAll ds es = true → ds[i]? = some d → es[i]? = some e → PyData.eqv d e = true
  | [], _, _, _, _, _, h, _ => by simp at h
  | _ :: _, [], _, _, _, _, _, h => by simp at h
  | d0 :: ds, e0 :: es, i, d, e, q, h1, h2 => by
    have q' : PyData.eqv d0 e0 = true ∧ PyData.eqvAll ds es = true := by simpa [PyData.eqvAll] using q
    cases i with
    | zero => cases h1; cases h2; exact q'.1
    | succ i => exact eqvAll_get q'.2 h1 h2
theorem eqv_row_mo {x y : Row} (h : PyData.eqv x.d y.d = true) : x.mo = y.mo := by
  have h' : PyData.eqvAll x.ds y.ds = true := by simpa [Row.d, PyData.eqv] using h
  have := eqvAll_get h' x.ds1 y.ds1
  rw [eqv_m] at this
  exact of_decide_eq_true this
theorem eqv_row {x y : Row} (w : RowW x) (one : x.mo = y.mo → x = y) : PyData.eqv x.d y.d = decide (x.mo = y.mo) := by
  by_cases q : x.mo = y.mo
  · rw [decide_eq_true q, ← one q]; exact SeqAt.eqv_refl _ (lay_row w)
  · rw [decide_eq_false q, Bool.eq_false_iff]
    exact fun z => q (eqv_row_mo z)
theorem any_row {rs : List Row} {y : Row} (w : ∀ r ∈ rs, RowW r) (one : ∀ x ∈ rs, x.mo = y.mo → x = y) : ((rs.map Row.d).any fun z => PyData.eqv z y.d) = decide (y.mo ∈ rs.map Row.mo) := by
  rw [Bool.eq_iff_iff, List.any_eq_true, decide_eq_true_iff]
  constructor
  · rintro ⟨z, hz, e⟩
    obtain ⟨x, hx, rfl⟩ := List.mem_map.mp hz
    exact List.mem_map.mpr ⟨x, hx, eqv_row_mo e⟩
  · intro h
    obtain ⟨x, hx, e⟩ := List.mem_map.mp h
    refine ⟨x.d, List.mem_map.mpr ⟨x, hx, rfl⟩, ?_⟩
    have := one x hx e
    subst this
    exact SeqAt.eqv_refl _ (lay_row (w x hx))
end KN


set_option Elab.async false
set_option linter.all false
set_option maxRecDepth 100000
set_option maxHeartbeats 4000000
namespace KN
open PySem L2
/-! What the law says is due. -/
/-- what an entry tried says: a choice, a strike, an ahead -/
inductive Kd where
  | ch (z : Str)
  | st (wh : Bool)
  | ah (o : Mo)
def Kd.sort : Kd → Str
  | .ch _ => "choice"
  | .st _ => "strike"
  | .ah _ => "ahead"
def Kd.d : Kd → PyData
  | .ch z => .str z
  | .st b => .bool b
  | .ah o => mD o
def Kd.ns (n : Mo) : Kd → List Mo
  | .ah o => [n, o]
  | _ => [n]
abbrev Due := Option (Str × PyData)
def dw (s : Str) (d : PyData) : Due := some (s, d)
def PreD (dd : PyData) (rs : List Row) (δ : Due) (k : Mo → Prop) : Prop :=
  (momB dd = false ∧ δ = dw "no moment" (dd)) ∨ ∃ m, dd = mD m ∧ MoOk m ∧ ((m ∈ rs.map Row.mo ∧ δ = dw "same" (dd)) ∨ (m ∉ rs.map Row.mo ∧ k m))
def NmsD (m : Mo) (rs : List Row) (δ : Due) : List Mo → Prop → Prop
  | [], k => k
  | n :: ns, k => (n ∉ nms rs ∧ δ = dw "no name" (mD n)) ∨ (n ∈ nms rs ∧ mLt m n ∧ δ = dw "later" (mD n)) ∨ (n ∈ nms rs ∧ ¬ mLt m n ∧ NmsD m rs δ ns k)
def EndD (rs : List Row) (n : Mo) (δ : Due) : Kd → Prop
  | .ch z => ∃ rk ws ss lk, Row.nm n rk ws ss lk ∈ rs ∧ ((ss = [] ∧ δ = dw "unfit" (mD n)) ∨ (ss ≠ [] ∧ z ∉ ss ∧ δ = dw "no sheet" (.str z)) ∨ (z ∈ ss ∧ δ = none))
  | .st _ => δ = none
  | .ah o => ∃ rk ws ss lk rk' ws' ss' lk', Row.nm n rk ws ss lk ∈ rs ∧ Row.nm o rk' ws' ss' lk' ∈ rs ∧ (((n = o ∨ rk ≠ rk') ∧ δ = dw "unfit" (mD o)) ∨ (n ≠ o ∧ rk = rk' ∧ δ = none))
def DueR (rs : List Row) (dd : PyData) (n : Mo) (k : Kd) (δ : Due) : Prop := PreD dd rs δ fun m => NmsD m rs δ (k.ns n) (EndD rs n δ k)
def OutD (H : Hp) (w : V) : Due → Prop
  | none => w = .non
  | some (s, d) => ∃ a x, w = .ref a ∧ H a = some (.tup [.str s, x]) ∧ Ob H x d
/-- the entry tried, as it stands -/
structure TryAt (H : Hp) (t : Addr) (v : V) (an : Addr) (x : V) (dd : PyData) (n : Mo) (k : Kd) : Prop where
  ht : H t = some (.tup [.str k.sort, v, .ref an, x])
  ob : Ob H v dd
  han : H an = some (.tup [.int n.1, .int n.2])
  tx : Tp H x k.d
  ox : Ob H x k.d
theorem TryAt.to {H H' : Hp} {t : Addr} {v : V} {an : Addr} {x : V} {dd : PyData} {n : Mo} {k : Kd} (h : TryAt H t v an x dd n k) (s : Same H H') : TryAt H' t v an x dd n k := ⟨s _ _ h.ht, h.ob.to (Ke.of s), s _ _ h.han, h.tx.to (TK.of s), h.ox.to (Ke.of s)⟩
theorem out_new {H0 H : Hp} {a : Addr} {x : V} {d : PyData} {s : Str} (s0 : Same H0 H) (ha : H a = none) (ob : Ob H0 x d) : Same H0 (upd H a (.tup [.str s, x])) ∧ OutD (upd H a (.tup [.str s, x])) (.ref a) (dw s d) :=
  have s1 := s0.trans (Same.new ha)
  ⟨s1, a, x, rfl, upd_same, ob.to (Ke.of s1)⟩
theorem map_at {α β : Type} {f : α → β} {L : List α} {i : Nat} {y : β} (hi : (L.map f)[i]? = some y) : ∃ p, L[i]? = some p ∧ f p = y := by
  rw [List.getElem?_map] at hi
  cases hh : L[i]? with
  | none => rw [hh] at hi; cases hi
  | some p => rw [hh] at hi; exact ⟨p, rfl, Option.some.inj hi⟩
theorem put_more2 {H1 H' : Hp} {D : Addr} {ds : List PyData} {v : V} {d : PyData} (hD : H1 D = none) (s : Same H1 H') (ls : Ls H' D ds) (tv : Tp H' v d) (hl : ds.length ≤ 900) :
    ∃ acc, H' D = some (.lst acc) ∧ acc.length < sizeLine ∧ (Same H1 (upd H' D (.lst (acc ++ [v]))) ∧ Ls (upd H' D (.lst (acc ++ [v]))) D (ds ++ [d])) := by
  obtain ⟨xs, hx, rx⟩ := ls
  have hxl : xs.length ≤ 900 := by rw [rx.len]; exact hl
  refine ⟨xs, hx, small1000 (by omega), fun c o ec => by rw [upd_ne (ne_of_none ec hD)]; exact s _ _ ec, _, upd_same, ?_⟩
  have tk : TK H' (upd H' D (.lst (xs ++ [v]))) := TK.put hx (by intro z; exact nofun)
  exact (rx.to tk).snoc (tv.to tk)
theorem mo_one {E : List Row} (nd : (E.map Row.mo).Nodup) {x y : Row} (hx : x ∈ E) (hy : y ∈ E) (e : x.mo = y.mo) : x = y := by
  obtain ⟨i, hi, ei⟩ := List.getElem_of_mem hx
  obtain ⟨j, hj, ej⟩ := List.getElem_of_mem hy
  have : i = j := by
    refine (List.getElem_inj (h₀ := by rw [List.length_map]; exact hi) (h₁ := by rw [List.length_map]; exact hj) nd).mp ?_
    rw [List.getElem_map, List.getElem_map, ei, ej]; exact e
  subst this
  rw [ei] at ej; exact ej
theorem strs_nil (ss : List Str) : PyData.eqv (.tuple (ss.map PyData.str)) (.tuple []) = decide (ss = []) := by
  cases ss with
  | nil => rfl
  | cons x xs => simp [PyData.eqv, PyData.eqvAll]
theorem inv_str {z : Str} {ss : List Str} : inV (.str z) (ss.map V.str) = decide (z ∈ ss) := by
  by_cases h : z ∈ ss
  · rw [decide_eq_true h]
    exact List.any_eq_true.mpr ⟨.str z, List.mem_map.mpr ⟨z, h, rfl⟩, by show (z == z) = true; exact beq_self_eq_true z⟩
  · rw [decide_eq_false h, ← Bool.not_eq_true]
    intro k
    obtain ⟨y, hy, e⟩ := List.any_eq_true.mp k
    obtain ⟨q, hq, rfl⟩ := List.mem_map.mp hy
    have e' : q = z := by
      first
        | exact (beq_iff_eq.mp (show (z == q) = true from e)).symm
        | exact beq_iff_eq.mp (show (q == z) = true from e)
    exact h (e' ▸ hq)
theorem nmsD_stop {m n : Mo} {rs : List Row} {δ : Due} {k : Prop} : ∀ {ns : List Mo} {i : Nat}, ns[i]? = some n → (∀ x ∈ ns.take i, x ∈ nms rs ∧ ¬ mLt m x) → ((n ∉ nms rs ∧ δ = dw "no name" (mD n)) ∨ (n ∈ nms rs ∧ mLt m n ∧ δ = dw "later" (mD n))) → NmsD m rs δ ns k
  | [], _, h, _, _ => by simp at h
  | y :: ns, 0, h, _, e => by
    cases h
    rcases e with e | e
    · exact .inl e
    · exact .inr (.inl e)
  | y :: ns, i + 1, h, b, e => by
    have hy := b y (by simp)
    exact .inr (.inr ⟨hy.1, hy.2, nmsD_stop (i := i) h (fun x hx => b x (by rw [List.take_succ_cons]; exact List.mem_cons_of_mem _ hx)) e⟩)
theorem nmsD_go {m : Mo} {rs : List Row} {δ : Due} {k : Prop} (hk : k) : ∀ {ns : List Mo}, (∀ x ∈ ns, x ∈ nms rs ∧ ¬ mLt m x) → NmsD m rs δ ns k
  | [], _ => hk
  | y :: ns, b => .inr (.inr ⟨(b y (by simp)).1, (b y (by simp)).2, nmsD_go hk fun x hx => b x (List.mem_cons_of_mem _ hx)⟩)
theorem mLt_un {a b : Mo} (h : a ≠ b) : ¬ mLt a b ↔ mLt b a := by
  have : ¬ (a.1 = b.1 ∧ a.2 = b.2) := fun q => h (Prod.ext q.1 q.2)
  unfold mLt
  omega
theorem Kd.two (k : Kd) (n : Mo) : (∃ o, k = .ah o ∧ k.ns n = [n, o]) ∨ (¬ k.sort = "ahead" ∧ k.ns n = [n]) := by
  cases k with
  | ah o => exact .inl ⟨o, rfl, rfl⟩
  | ch z => exact .inr ⟨by show ¬ ("choice" : Str) = "ahead"; decide +kernel, rfl⟩
  | st z => exact .inr ⟨by show ¬ ("strike" : Str) = "ahead"; decide +kernel, rfl⟩
theorem nms_iff {rs : List Row} {n : Mo} : (rs.filter fun r => r.isNm && decide (r.mo = n)) = [] ↔ n ∉ nms rs := by
  unfold nms
  rw [List.filter_eq_nil_iff]
  constructor
  · intro h hn
    obtain ⟨r, hr, e⟩ := List.mem_map.mp hn
    obtain ⟨h1, h2⟩ := List.mem_filter.mp hr
    exact h r h1 (by rw [h2, decide_eq_true e]; rfl)
  · intro h r hr q
    rw [Bool.and_eq_true, decide_eq_true_eq] at q
    exact h (List.mem_map.mpr ⟨r, List.mem_filter.mpr ⟨hr, q.1⟩, q.2⟩)
theorem shareA {B : Addr → Hp → Prop} {S : Addr → Hp → Prop} {P : Prop} (h : (∀ x H, S x H → B x H) → P) (g : ∀ x H, S x H → B x H) : P := h g
def spDueP : Sp := fun vs H Q _ => ∃ (ra t an : Addr) (v x : V) (dd : PyData) (n : Mo) (k : Kd) (rs : List Row), vs = [.ref ra, .ref t] ∧ Ls H ra (rs.map Row.d) ∧ TryAt H t v an x dd n k ∧ (∀ ds, dd = .tuple ds → ∀ x ∈ ds, flatN x = true) ∧ (momB dd = true → ∃ m, dd = mD m ∧ MoOk m) ∧ rs.length ≤ 500 ∧ (∀ r ∈ rs, RowW r) ∧ (rs.map Row.mo).Nodup ∧
  ∀ H' w δ, Same H H' → DueR rs dd n k δ → OutD H' w δ → Q w H'
section
variable {P : Program} {w : World} {K : PySem.W.Frag} {mg : Str → Option Value} {base : Heap}
theorem sc__law_due : FnScope ["_law_rows", "_law_row", "_law_moment_here", "_law_names_here", "_law_name", "_law_found", "_law_one"] ["_law_rows", "_law_row"] (defScope s__law_due) := ⟨rfl, rfl, rfl, by decide +kernel, rfl, by decide +kernel, by decide +kernel⟩
theorem ok__law_due {f : Addr} {fd : FuncData} (F : Fun K "_law_due" "_law_due" s__law_due f fd) (m_isinstance : mg "isinstance" = none) (c__law_moment : C8.Cal P w K mg base 1 "_law_moment" spMomL []) : FnOk P w K mg base CX0 2 f fd ["_law_rows", "_law_row"] spDueP := by
  refine F.ok sc__law_due (fun vs H Q E h => ?_) (fun cdv A outer s H vs Q E hr h => ?_)
  · obtain ⟨ra, t, an, v, x, dd, n, k, rs, rfl, _⟩ := h; rfl
  · obtain ⟨ra, t, an, v, x, dd, n, k, rs, rfl, hls, T, fl, mo, h500, hw, md, go⟩ := h
    have hu := hu_of hr
    refine ⟨_, (pss_cons (ps_par (i := 2) (j := 3) rfl sc__law_due.nd rfl rfl (by decide) rfl rfl (pa_cons (pe_ix ix_tup (pv 1) pe_int (fun _ _ => rfl)) (pa_cons (pe_ifExp (pt_cmpR op_eq (pe_ix ix_tup (pv 1) pe_int (fun _ _ => rfl)) pe_str (nomark _)) (pe_slice sl_tupA (pv 1) (po_some pe_int) (po_some pe_int)) (pe_slice sl_tupA (pv 1) (po_some pe_int) (po_some pe_int))) pa_nil)) (by rfl))
      (pss_cons (ps_if (pt_not (pt_val (C8.pe_c c__law_moment hr (by decide) rfl (pa_cons (pv 2) pa_nil)))) (pss_one (ps_ret (pe_tup (pa_cons pe_str (pa_cons (pv 2) pa_nil))))) pss_nil)
      (pss_cons (ps_if (pt_cmpR (op_inD (u65 hr)) (pv 2) (pe_lc (own := [("_law_one", 6)]) (g := gName 6) (tt := tYes) rfl sc__law_due.nd (pi_list (pv 0)) (blkOk_by (own := [("_law_one", 6)]) (N := ["_law_rows", "_law_row", "_law_moment_here", "_law_names_here", "_law_name", "_law_found", "_law_one"]) (sc := defScope s__law_due) (by decide +kernel)) (fun _ _ _ _ _ => pg_name (i := 6) sc__law_due.nd rfl (Or.inl rfl)) (fun _ _ _ _ _ => pts_nil) (fun _ _ _ _ _ => (pe_ix (ix_tupK K) (pv 6) pe_int (fun _ _ => rfl)))) rfl) (pss_one (ps_ret (pe_tup (pa_cons pe_str (pa_cons (pv 2) pa_nil))))) pss_nil)
      (pss_cons (ps_for PassesOwn.never rfl (pi_tup (pv 3)) (pg_name (i := 4) sc__law_due.nd rfl (Or.inr rfl))
      (pss_cons (ps_if (pt_cmpR (op_eqD hr.units) (pe_lc (own := [("_law_one", 6)]) (g := gName 6) rfl sc__law_due.nd (pi_list (pv 0)) (blkOk_by (own := [("_law_one", 6)]) (N := ["_law_rows", "_law_row", "_law_moment_here", "_law_names_here", "_law_name", "_law_found", "_law_one"]) (sc := defScope s__law_due) (by decide +kernel)) (fun _ _ _ _ _ => pg_name (i := 6) sc__law_due.nd rfl (Or.inl rfl)) (fun _ _ _ _ _ => (pts_one (PW.pt (pw_and (pt_cmpR op_eq (pe_ix (ix_tupK K) (pv 6) pe_int (fun _ _ => rfl)) pe_str (nomark _)) (pw_and1 (pt_cmpR (op_eqDK K hr.units) (pe_ix (ix_tupK K) (pv 6) pe_int (fun _ _ => rfl)) (pv 4) (nomark _))))))) (fun _ _ _ _ _ => (pv 6))) (pe_lst pa_nil) (nomark _)) (pss_one (ps_ret (pe_tup (pa_cons pe_str (pa_cons (pv 4) pa_nil))))) pss_nil)
      (pss_one (ps_if (pt_cmpR (op_geM hr.units0) (pv 4) (pv 2) (nomark _)) (pss_one (ps_ret (pe_tup (pa_cons pe_str (pa_cons (pv 4) pa_nil))))) pss_nil))))
      (pss_cons (ps_setLc (i := 5) (own := [("_law_name", 4)]) (g := gName 4) (tt := tYes) rfl sc__law_due.nd rfl rfl (sw_true rfl rfl rfl (by decide +kernel)) (pi_tup (pv 3)) (blkOk_by (own := [("_law_name", 4)]) (N := ["_law_rows", "_law_row", "_law_moment_here", "_law_names_here", "_law_name", "_law_found", "_law_one"]) (sc := defScope s__law_due) (by decide +kernel)) (fun _ _ _ _ _ => pg_name (i := 4) sc__law_due.nd rfl (Or.inr rfl)) (fun _ _ _ _ _ => pts_nil) (fun _ _ _ _ _ => (pe_ix (ix_listK K) (pe_lc (own := [("_law_one", 6)]) (g := gName 6) rfl sc__law_due.nd (pi_listK K (pv 0)) (blkOk_by (own := [("_law_one", 6)]) (N := ["_law_rows", "_law_row", "_law_moment_here", "_law_names_here", "_law_name", "_law_found", "_law_one"]) (sc := _) (by rfl)) (fun _ _ _ _ _ => pg_name (i := 6) sc__law_due.nd rfl (Or.inl rfl)) (fun _ _ _ _ _ => (pts_one (pt_cmpR (op_eqDK K hr.units) (pe_ix (ix_tupK K) (pv 6) pe_int (fun _ _ => rfl)) (pv 4) (nomark _)))) (fun _ _ _ _ _ => (pv 6))) pe_int (fun _ _ => rfl))))
      (pss_cons (ps_if (PW.pt (pw_and (pt_cmpR op_eq (pe_ix ix_tup (pv 1) pe_int (fun _ _ => rfl)) pe_str (nomark _)) (pw_and1 (pt_cmpR (op_eqD hr.units) (pe_ix ix_tup (pe_ix ix_list (pv 5) pe_int (fun _ _ => rfl)) pe_int (fun _ _ => rfl)) (pe_tup pa_nil) (nomark _))))) (pss_one (ps_ret (pe_tup (pa_cons pe_str (pa_cons (pe_ix ix_tup (pv 3) pe_int (fun _ _ => rfl)) pa_nil))))) pss_nil)
      (pss_cons (ps_if (PW.pt (pw_and (pt_cmpR op_eq (pe_ix ix_tup (pv 1) pe_int (fun _ _ => rfl)) pe_str (nomark _)) (pw_and1 (pt_cmpR op_notIn_seq (pe_ix ix_tup (pv 1) pe_int (fun _ _ => rfl)) (pe_ix ix_tup (pe_ix ix_list (pv 5) pe_int (fun _ _ => rfl)) pe_int (fun _ _ => rfl)) rfl)))) (pss_one (ps_ret (pe_tup (pa_cons pe_str (pa_cons (pe_ix ix_tup (pv 1) pe_int (fun _ _ => rfl)) pa_nil))))) pss_nil)
      (pss_cons (ps_if (PW.pt (pw_and (pt_cmpR op_eq (pe_ix ix_tup (pv 1) pe_int (fun _ _ => rfl)) pe_str (nomark _)) (pw_and1 (PW.pt (pw_or (pt_cmpR (op_eqD hr.units) (pe_ix ix_tup (pv 3) pe_int (fun _ _ => rfl)) (pe_ix ix_tup (pv 3) pe_int (fun _ _ => rfl)) (nomark _)) (pw_or1 (pt_cmpR op_ne (pe_ix ix_tup (pe_ix ix_list (pv 5) pe_int (fun _ _ => rfl)) pe_int (fun _ _ => rfl)) (pe_ix ix_tup (pe_ix ix_list (pv 5) pe_int (fun _ _ => rfl)) pe_int (fun _ _ => rfl)) (nomark _)))))))) (pss_one (ps_ret (pe_tup (pa_cons pe_str (pa_cons (pe_ix ix_tup (pv 3) pe_int (fun _ _ => rfl)) pa_nil))))) pss_nil)
      (pss_one (ps_ret pe_non)))))))))), ?_⟩
    have ht := T.ht
    have sd : ∀ x y : Str, ¬ x = y → decide (V.str x = V.str y) = false := fun x y h => decide_eq_false fun z => h (by injection z)
    refine ⟨_, rfl, _, _, _, _, rfl, rfl, SqT.of ht, at_of (j := 1) rfl rfl, ?_⟩
    refine ⟨_, rfl, _, _, _, _, rfl, rfl, SqT.of ht, at_of (j := 0) rfl rfl, rfl, _, rfl, ?_⟩
    apply shareA (S := fun q H1 => Same H H1 ∧ ∃ L : List (Addr × Mo), L.map Prod.snd = k.ns n ∧ (∀ p ∈ L, H p.1 = some (.tup [.int p.2.1, .int p.2.2])) ∧ H1 q = some (.tup (L.map fun p => V.ref p.1)))
    · intro c
      rcases k.two n with ⟨o, hk, hk2⟩ | ⟨hk, hk2⟩
      · have tx := T.tx
        rw [hk] at tx
        obtain ⟨ao, hxe, hao⟩ := Tp.mo_inv (m := o) tx
        rw [show decide (V.str k.sort = V.str "ahead") = true from decide_eq_true (by rw [hk]; rfl)]
        refine iteT ⟨_, rfl, _, rfl, _, rfl, t, _, rfl, SqT.of ht, fun z => absurd z.1 (by show ¬ (2 : Nat) = 0; decide), fun _ q hq => ?_⟩
        refine c q _ ⟨Same.new hq, [(an, n), (ao, o)], hk2.symm, fun p hp => ?_, ?_⟩
        · rcases List.mem_cons.mp hp with h | hp
          · rw [h]; exact T.han
          · rw [List.mem_singleton.mp hp]; exact hao
        · rw [upd_same, hxe]; rfl
      · rw [sd k.sort "ahead" hk]
        refine iteF ⟨_, rfl, _, rfl, _, rfl, t, _, rfl, SqT.of ht, fun z => absurd z.1 (by show ¬ (2 : Nat) = 0; decide), fun _ q hq => ?_⟩
        refine c q _ ⟨Same.new hq, [(an, n)], hk2.symm, fun p hp => ?_, ?_⟩
        · rw [List.mem_singleton.mp hp]; exact T.han
        · rw [upd_same]; rfl
    rintro q H1 ⟨s1, L, hL, hA, hq⟩
    refine ⟨_, _, rfl, ?_⟩
    refine ⟨_, rfl, v, dd, rfl, T.ob.to (Ke.of s1), fl, fun H2 s2 => ⟨_, rfl, ?_⟩⟩
    have s02 := s1.trans s2
    cases hb : momB dd with
    | false =>
      refine iteT ⟨_, rfl, by show 2 ≤ sizeLine; decide, fun a ha => ?_⟩
      obtain ⟨s3, o3⟩ := out_new (s := "no moment") s02 ha T.ob
      exact go _ _ _ s3 (.inl ⟨hb, rfl⟩) o3
    | true =>
    obtain ⟨m, rfl, hm⟩ := mo hb
    refine iteF ?_
    obtain ⟨xs, hx, rx⟩ := hls.to s02
    have hxl : xs.length = rs.length := by rw [rx.len, List.length_map]
    refine ⟨_, rfl, _, rfl, ra, rfl, ⟨_, SqL.of hx⟩, fun D hD => ?_⟩
    refine lc_list (K := K) (a := ra) (xs := xs) (fun i H' => Same H2 H' ∧ Ls H' D (((rs.take i).filter fun _ => true).map fun r => mD r.mo)) (pick_zero hD) (fun i H' _ q => SqL.of (q.1 _ _ hx)) ?_ ?_
    · rintro i y H3 hi P3
      obtain ⟨r, hr, t0⟩ := data_at rx hi
      obtain ⟨ta, ys, rfl, hta, ry⟩ := Tp.inv (t0.to (TK.of P3.1))
      obtain ⟨v1, a1, t1⟩ := Tp.at (K := K) hta ry r.ds1
      exact ⟨rfl, _, rfl, _, _, _, _, rfl, rfl, SqT.of hta, a1, pick_yes hD (by omega) P3 hr rfl t1⟩
    rintro H3 ⟨s3, lsM⟩
    rw [hxl, List.take_length, List.filter_eq_self.mpr (fun _ _ => rfl)] at lsM
    have s03 := s02.trans s3
    have lsM : Ls H3 D ((rs.map Row.mo).map mD) := by rw [List.map_map]; exact lsM
    obtain ⟨am, rfl, ham⟩ := ob_mD T.ob
    refine ⟨_, _, (Tp.mo (s03 _ _ ham)).d, lsM.dp, shaped_m _, shaped_ms _, _, rfl, ?_⟩
    have hin : (((rs.map Row.mo).map mD).any fun z => PyData.eqv z (mD m)) = decide (m ∈ rs.map Row.mo) := by
      rw [Bool.eq_iff_iff, any_eqv (okD_m m) (okDs_all.mpr fun d hd => by obtain ⟨x, _, rfl⟩ := List.mem_map.mp hd; exact okD_m x), decide_eq_true_iff]
      exact ⟨fun h => by obtain ⟨x, hx, e⟩ := List.mem_map.mp h; rw [← mD_inj e]; exact hx, fun h => List.mem_map.mpr ⟨_, h, rfl⟩⟩
    rw [hin]
    by_cases hmi : m ∈ rs.map Row.mo
    · rw [decide_eq_true hmi]
      refine iteT ⟨_, rfl, by show 2 ≤ sizeLine; decide, fun a ha => ?_⟩
      obtain ⟨s4, o4⟩ := out_new (s := "same") s03 ha T.ob
      exact go _ _ _ s4 (.inr ⟨m, rfl, hm, .inl ⟨hmi, rfl⟩⟩) o4
    rw [decide_eq_false hmi]
    refine iteF ?_
    have hLl : L.length = (k.ns n).length := by rw [← hL, List.length_map]
    have hLi : ∀ {i : Nat} {p : Addr × Mo}, L[i]? = some p → (k.ns n)[i]? = some p.2 := fun {i} {p} h => by rw [← hL, List.getElem?_map, h]; rfl
    refine ⟨_, rfl, q, rfl, ⟨_, SqT.of (s3 _ _ (s2 _ _ hq))⟩, for_tup (K := K) (a := q) (xs := L.map fun p => V.ref p.1) (fun i σ' H' => ∃ v4 : Option V, σ' = [some (.ref ra), some (.ref t), some (.ref am), some (.ref q), v4, none, none] ∧ Same H3 H' ∧ ∀ x ∈ (k.ns n).take i, x ∈ nms rs ∧ ¬ mLt m x)
      ⟨none, rfl, Same.refl H3, fun x hx => by cases hx⟩ (fun i σ' H' _ ⟨_, _, s4, _⟩ => SqT.of (s4 _ _ (s3 _ _ (s2 _ _ hq)))) ?_ ?_⟩
    · rintro i y σ4 H4 hi ⟨v4, rfl, s4, bf⟩
      obtain ⟨⟨aj, nj⟩, hp, rfl⟩ := map_at hi
      have s04 := s03.trans s4
      have haj : H aj = some (.tup [.int nj.1, .int nj.2]) := hA _ (List.mem_of_getElem? hp)
      have hx4 := (s3.trans s4) _ _ hx
      have rx4 := rx.to (TK.of (s3.trans s4))
      refine ⟨_, rfl, ra, rfl, ⟨_, SqL.of hx4⟩, fun D2 hD2 => ?_⟩
      refine lc_list (K := K) (a := ra) (xs := xs) (fun i H' => Same H4 H' ∧ Ls H' D2 (((rs.take i).filter fun r => r.isNm && decide (r.mo = nj)).map Row.d)) (pick_zero hD2) (fun i H' _ q => SqL.of (q.1 _ _ hx4)) ?_ ?_
      · rintro i2 y H5 hi2 P5
        obtain ⟨r, hr, t0⟩ := data_at rx4 hi2
        have tx := t0.to (TK.of P5.1)
        obtain ⟨ta, ys, rfl, hta, ry⟩ := Tp.inv (id tx)
        obtain ⟨v0, a0, t0'⟩ := Tp.at (K := K) hta ry r.ds0
        cases Tp.str_inv t0'
        obtain ⟨v1, a1, t1⟩ := Tp.at (K := K) hta ry r.ds1
        refine ⟨rfl, _, rfl, _, _, _, _, rfl, rfl, SqT.of hta, a0, rfl, _, rfl, ?_⟩
        rw [sort_dec]
        refine ite2 (fun z => ?_) (fun z => pick_no P5 hr (by cases r <;> first | exact absurd (decide_eq_true rfl) z | simp [Row.isNm]))
        refine ⟨_, rfl, _, _, _, _, rfl, rfl, SqT.of hta, a1, _, rfl, _, _, t1.d, (Tp.mo (P5.1 _ _ (s04 _ _ haj))).d, shaped_m _, shaped_m _, _, rfl, ?_⟩
        rw [eqv_m]
        have hnm : r.isNm = true := by
          cases r with
          | nm => rfl
          | ch => exact absurd (of_decide_eq_true z) (by show ¬ ("choice" : Str) = "name"; decide +kernel)
          | st => exact absurd (of_decide_eq_true z) (by show ¬ ("strike" : Str) = "name"; decide +kernel)
          | ah => exact absurd (of_decide_eq_true z) (by show ¬ ("ahead" : Str) = "name"; decide +kernel)
        refine ite2 (fun y => ?_) (fun y => ?_)
        · exact ⟨_, rfl, pick_yes hD2 (by omega) P5 hr (by rw [hnm, y]; rfl) tx⟩
        · exact pick_no P5 hr (by rw [hnm]; simpa using y)
      rintro H5 ⟨s5, lsF⟩
      rw [hxl, List.take_length] at lsF
      refine ⟨Nat.zero_le _, fun Z hZ => ?_⟩
      have sZ : Same H5 (upd H5 Z (.lst [])) := Same.new hZ
      have lsZ : Ls (upd H5 Z (.lst [])) Z [] := ⟨_, upd_same, .nil⟩
      generalize (upd H5 Z (.lst [])) = H6 at sZ lsZ
      refine ⟨_, _, (lsF.to sZ).dp, lsZ.dp, shaped_rows fun r hr => hw r (List.mem_filter.mp hr).1, rfl, _, rfl, ?_⟩
      rw [rows_nil]
      have s06 := s04.trans (s5.trans sZ)
      by_cases hn : nj ∈ nms rs
      · rw [decide_eq_false (fun z => (nms_iff.mp z) hn)]
        refine iteF ?_
        refine ⟨_, rfl, _, rfl, aj, am, nj, m, rfl, rfl, SqT.of (s06 _ _ haj), SqT.of (s06 _ _ ham), _, rfl, ?_⟩
        have hne : nj ≠ m := fun z => hmi (z ▸ nms_sub hn)
        by_cases hl : mLt m nj
        · rw [show ∀ i : Decidable (mLt nj m), @decide (mLt nj m) i = false from fun i => @decide_eq_false _ i ((mLt_un hne).mpr hl)]
          refine iteT ⟨_, rfl, by show 2 ≤ sizeLine; decide, fun a ha => ?_⟩
          obtain ⟨s7, o7⟩ := out_new (s := "later") s06 ha (ob_mo haj)
          exact go _ _ _ s7 (.inr ⟨m, rfl, hm, .inr ⟨hmi, nmsD_stop (hLi hp) bf (.inr ⟨hn, hl, rfl⟩)⟩⟩) o7
        · rw [show ∀ i : Decidable (mLt nj m), @decide (mLt nj m) i = true from fun i => @decide_eq_true _ i ((mLt_un hne.symm).mp hl)]
          refine iteF ⟨_, rfl, s4.trans (s5.trans sZ), fun x hx => ?_⟩
          rw [List.take_succ, hLi hp] at hx
          rcases List.mem_append.mp hx with hx | hx
          · exact bf x hx
          · rw [List.mem_singleton.mp hx]; exact ⟨hn, hl⟩
      · rw [decide_eq_true (nms_iff.mpr hn)]
        refine iteT ⟨_, rfl, by show 2 ≤ sizeLine; decide, fun a ha => ?_⟩
        obtain ⟨s7, o7⟩ := out_new (s := "no name") s06 ha (ob_mo haj)
        exact go _ _ _ s7 (.inr ⟨m, rfl, hm, .inr ⟨hmi, nmsD_stop (hLi hp) bf (.inl ⟨hn, rfl⟩)⟩⟩) o7
    rintro σ4 H4 ⟨v4, rfl, s4, bf⟩
    rw [List.length_map, hLl, List.take_length] at bf
    have s04 := s03.trans s4
    have hq4 : H4 q = some (.tup (L.map fun p => V.ref p.1)) := s4 _ _ (s3 _ _ (s2 _ _ hq))
    refine ⟨_, rfl, q, rfl, ⟨_, SqT.of hq4⟩, fun F0 hF0 => ?_⟩
    refine lc_tup (K := K) (a := q) (xs := L.map fun p => V.ref p.1) (fun i H' => Same H4 H' ∧ ∃ Fs : List Row, Fs.map Row.mo = (k.ns n).take i ∧ (∀ r ∈ Fs, r ∈ rs) ∧ Ls H' F0 (Fs.map Row.d)) ⟨Same.new hF0, [], by rw [List.take_zero]; rfl, (by intro r hr; cases hr), ⟨_, upd_same, .nil⟩⟩ (fun i H' _ q => SqT.of (q.1 _ _ hq4)) ?_ ?_
    · rintro i y H5 hi ⟨s5, Fs, e5, sub5, ls5⟩
      obtain ⟨⟨aj, nj⟩, hp, rfl⟩ := map_at hi
      have hnj : nj ∈ k.ns n := List.mem_of_getElem? (hLi hp)
      obtain ⟨rr, hrr, err⟩ := List.mem_map.mp (nms_sub (bf nj hnj).1)
      have s45 := s3.trans (s4.trans s5)
      have s05 := s04.trans s5
      have haj : H aj = some (.tup [.int nj.1, .int nj.2]) := hA _ (List.mem_of_getElem? hp)
      have hx5 := s45 _ _ hx
      have rx5 := rx.to (TK.of s45)
      refine ⟨rfl, _, rfl, ra, rfl, ⟨_, SqL.of hx5⟩, fun D2 hD2 => ?_⟩
      refine lc_list (K := K) (a := ra) (xs := xs) (fun i H' => Same H5 H' ∧ Ls H' D2 (((rs.take i).filter fun r => decide (r.mo = rr.mo)).map Row.d)) (pick_zero hD2) (fun i H' _ q => SqL.of (q.1 _ _ hx5)) ?_ ?_
      · rintro i2 y H6 hi2 P6
        obtain ⟨r, hr, t0⟩ := data_at rx5 hi2
        have tx := t0.to (TK.of P6.1)
        obtain ⟨ta, ys, rfl, hta, ry⟩ := Tp.inv (id tx)
        obtain ⟨v1, a1, t1⟩ := Tp.at (K := K) hta ry r.ds1
        refine ⟨rfl, _, rfl, _, _, _, _, rfl, rfl, SqT.of hta, a1, _, rfl, _, _, t1.d, (Tp.mo (P6.1 _ _ (s05 _ _ haj))).d, shaped_m _, shaped_m _, _, rfl, ?_⟩
        rw [eqv_m]
        refine ite2 (fun y => ?_) (fun y => ?_)
        · exact ⟨_, rfl, pick_yes hD2 (by omega) P6 hr (by rw [err]; exact y) tx⟩
        · exact pick_no P6 hr (by rw [err]; exact y)
      rintro H6 ⟨s6, lsF⟩
      rw [hxl, List.take_length, one_row md hrr] at lsF
      obtain ⟨zs, hz, rz⟩ := lsF
      cases rz with
      | cons tz rz =>
      cases rz
      refine ⟨D2, _, _, _, rfl, rfl, SqL.of hz, at_of (j := 0) rfl rfl, ?_⟩
      have lF : Fs.length ≤ 2 := by
        have := congrArg List.length e5
        rw [List.length_map] at this
        have h2 : (k.ns n).length ≤ 2 := by cases k <;> simp [Kd.ns]
        have := List.length_take_le i (k.ns n)
        have := List.length_take_le' i (k.ns n)
        omega
      obtain ⟨acc, h1, h2, h3, h4⟩ := put_more2 hF0 (s5.trans s6) (ls5.to s6) tz (by rw [List.length_map]; omega)
      refine ⟨acc, h1, h2, h3, Fs ++ [rr], ?_, fun r hr => ?_, by rw [List.map_append]; exact h4⟩
      · rw [List.map_append, e5, List.take_succ, hLi hp, ← err]; rfl
      · rcases List.mem_append.mp hr with h | h
        · exact sub5 r h
        · rw [List.mem_singleton.mp h]; exact hrr
    rintro H5 ⟨s5, Fs, e5, sub5, ls5⟩
    rw [List.length_map, hLl, List.take_length] at e5
    have s05 := s04.trans s5
    have hq5 := s5 _ _ hq4
    have ht5 := s05 _ _ ht
    obtain ⟨fx, hfx, rfx⟩ := ls5
    clear hx rx lsM hin hxl hLl
    have hFsz : Fs.length ≤ 2 := by
      have := congrArg List.length e5
      rw [List.length_map] at this
      have h2 : (k.ns n).length ≤ 2 := by cases k <;> simp [Kd.ns]
      omega
    have oneN : ∀ {j : Nat} {nj : Mo}, (k.ns n)[j]? = some nj → ∃ rk ws ss lk, Row.nm nj rk ws ss lk ∈ rs ∧ Fs[j]? = some (Row.nm nj rk ws ss lk) := fun {j} {nj} h => by
      obtain ⟨rk, ws, ss, lk, hrow⟩ := nms_row (bf nj (List.mem_of_getElem? h)).1
      refine ⟨rk, ws, ss, lk, hrow, ?_⟩
      have h2 : (Fs.map Row.mo)[j]? = some nj := by rw [e5]; exact h
      obtain ⟨r, hr, er⟩ := map_at h2
      rw [hr, mo_one md (sub5 r (List.mem_of_getElem? hr)) hrow er]
    have atN : ∀ {j : Nat} {nj : Mo}, (k.ns n)[j]? = some nj → ∃ aj, H aj = some (.tup [.int nj.1, .int nj.2]) ∧ (L.map fun p => V.ref p.1)[j]? = some (.ref aj) := fun {j} {nj} h => by
      rw [← hL] at h
      obtain ⟨p, hp, rfl⟩ := map_at h
      exact ⟨p.1, hA p (List.mem_of_getElem? hp), by rw [List.getElem?_map, hp]; rfl⟩
    cases k with
    | ch z =>
      have txz : x = .str z := by have := T.tx; cases this; rfl
      subst txz
      obtain ⟨an', han', hn0⟩ := atN (j := 0) (nj := n) rfl
      obtain ⟨rk, ws, ss, lk, hrow, hf0⟩ := oneN (j := 0) (nj := n) rfl
      have dn : ∀ δ, EndD rs n δ (.ch z) → DueR rs (mD m) n (.ch z) δ := fun δ h => .inr ⟨m, rfl, hm, .inr ⟨hmi, nmsD_go h bf⟩⟩
      obtain ⟨f0, hv0, tf0⟩ := rfx.get (i := 0) (d := (Row.nm n rk ws ss lk).d) (by rw [List.getElem?_map, hf0]; rfl)
      obtain ⟨tf, ys, rfl, htf, ry⟩ := Tp.inv (id tf0)
      obtain ⟨v4', a4, t4⟩ := Tp.at (K := K) (i := 4) (d := .tuple (ss.map PyData.str)) htf ry rfl
      obtain ⟨sa, zs, rfl, hsa, rzs⟩ := Tp.inv (id t4)
      obtain rfl : zs = ss.map V.str := TpAll.of_strs rzs
      refine ⟨_, rfl, _, _, _, _, rfl, rfl, SqT.of ht5, at_of (j := 0) rfl rfl, rfl, _, rfl, ?_⟩
      rw [show decide (V.str (Kd.ch z).sort = V.str "choice") = true from decide_eq_true rfl]
      refine iteT ?_
      refine ⟨_, rfl, F0, _, _, _, rfl, rfl, SqL.of hfx, at_of (j := 0) rfl hv0, tf, _, _, _, rfl, rfl, SqT.of htf, a4, Nat.zero_le _, fun Z hZ => ?_⟩
      have sZ : Same H5 (upd H5 Z (.tup [])) := Same.new hZ
      have tZ : Tp (upd H5 Z (.tup [])) (.ref Z) (.tuple []) := .tup upd_same .nil
      generalize (upd H5 Z (.tup [])) = H6 at sZ tZ
      have s06 := s05.trans sZ
      have wss : ∀ w ∈ ss, IsW w := (hw _ hrow).2.2.1
      refine ⟨_, _, (t4.to (TK.of sZ)).d, tZ.d, shaped_ws wss, rfl, _, rfl, ?_⟩
      rw [strs_nil]
      by_cases hss : ss = []
      · rw [decide_eq_true hss]
        refine iteT ⟨_, rfl, q, _, _, _, rfl, rfl, SqT.of (sZ _ _ hq5), at_of (j := 0) rfl hn0, by show 2 ≤ sizeLine; decide, fun a ha => ?_⟩
        obtain ⟨s7, o7⟩ := out_new (s := "unfit") s06 ha (ob_mo han')
        exact go _ _ _ s7 (dn _ ⟨rk, ws, ss, lk, hrow, .inl ⟨hss, rfl⟩⟩) o7
      · rw [decide_eq_false hss]
        refine iteF ?_
        refine ⟨_, rfl, _, _, _, _, rfl, rfl, SqT.of (sZ _ _ ht5), at_of (j := 0) rfl rfl, rfl, _, rfl, ?_⟩
        rw [show decide (V.str (Kd.ch z).sort = V.str "choice") = true from decide_eq_true rfl]
        refine iteT ?_
        refine ⟨_, rfl, _, _, _, _, rfl, rfl, SqT.of (sZ _ _ ht5), at_of (j := 3) rfl rfl, ?_⟩
        refine ⟨_, rfl, F0, _, _, _, rfl, rfl, SqL.of (sZ _ _ hfx), at_of (j := 0) rfl hv0, tf, _, _, _, rfl, rfl, SqT.of (sZ _ _ htf), a4, ?_⟩
        refine ⟨sa, _, rfl, .inr (SqT.of (sZ _ _ hsa)), rfl, flat_strs ss, _, rfl, ?_⟩
        rw [inv_str]
        by_cases hz : z ∈ ss
        · rw [decide_eq_true hz]
          refine iteF ?_
          refine ⟨_, rfl, _, _, _, _, rfl, rfl, SqT.of (sZ _ _ ht5), at_of (j := 0) rfl rfl, rfl, _, rfl, ?_⟩
          rw [sd (Kd.ch z).sort "ahead" (by show ¬ ("choice" : Str) = "ahead"; decide +kernel)]
          refine iteF (iteF ?_)
          exact go _ _ none s06 (dn _ ⟨rk, ws, ss, lk, hrow, .inr (.inr ⟨hz, rfl⟩)⟩) rfl
        · rw [decide_eq_false hz]
          refine iteT ⟨_, rfl, _, _, _, _, rfl, rfl, SqT.of (sZ _ _ ht5), at_of (j := 3) rfl rfl, by show 2 ≤ sizeLine; decide, fun a ha => ?_⟩
          obtain ⟨s7, o7⟩ := out_new (s := "no sheet") (x := .str z) (d := .str z) s06 ha T.ox
          exact go _ _ _ s7 (dn _ ⟨rk, ws, ss, lk, hrow, .inr (.inl ⟨hss, hz, rfl⟩)⟩) o7
    | st wh =>
      refine ⟨_, rfl, _, _, _, _, rfl, rfl, SqT.of ht5, at_of (j := 0) rfl rfl, rfl, _, rfl, ?_⟩
      rw [sd (Kd.st wh).sort "choice" (by show ¬ ("strike" : Str) = "choice"; decide +kernel)]
      refine iteF (iteF ?_)
      refine ⟨_, rfl, _, _, _, _, rfl, rfl, SqT.of ht5, at_of (j := 0) rfl rfl, rfl, _, rfl, ?_⟩
      rw [sd (Kd.st wh).sort "choice" (by show ¬ ("strike" : Str) = "choice"; decide +kernel)]
      refine iteF (iteF ?_)
      refine ⟨_, rfl, _, _, _, _, rfl, rfl, SqT.of ht5, at_of (j := 0) rfl rfl, rfl, _, rfl, ?_⟩
      rw [sd (Kd.st wh).sort "ahead" (by show ¬ ("strike" : Str) = "ahead"; decide +kernel)]
      refine iteF (iteF ?_)
      exact go _ _ none s05 (.inr ⟨m, rfl, hm, .inr ⟨hmi, nmsD_go rfl bf⟩⟩) rfl
    | ah o =>
      obtain ⟨an', han', hn0⟩ := atN (j := 0) (nj := n) rfl
      obtain ⟨ao', hao', ho0⟩ := atN (j := 1) (nj := o) rfl
      obtain ⟨rk, ws, ss, lk, hrow, hf0⟩ := oneN (j := 0) (nj := n) rfl
      obtain ⟨rk', ws', ss', lk', hrow', hf1⟩ := oneN (j := 1) (nj := o) rfl
      have dn : ∀ δ, EndD rs n δ (.ah o) → DueR rs (mD m) n (.ah o) δ := fun δ h => .inr ⟨m, rfl, hm, .inr ⟨hmi, nmsD_go h bf⟩⟩
      obtain ⟨f0, hv0, tf0⟩ := rfx.get (i := 0) (d := (Row.nm n rk ws ss lk).d) (by rw [List.getElem?_map, hf0]; rfl)
      obtain ⟨f1, hv1, tf1⟩ := rfx.get (i := 1) (d := (Row.nm o rk' ws' ss' lk').d) (by rw [List.getElem?_map, hf1]; rfl)
      obtain ⟨tf, ys, rfl, htf, ry⟩ := Tp.inv (id tf0)
      obtain ⟨tg, yg, rfl, htg, rg⟩ := Tp.inv (id tf1)
      obtain ⟨v2, a2, t2⟩ := Tp.at (K := K) (i := 2) (d := .int rk) htf ry rfl
      obtain ⟨w2, b2, u2⟩ := Tp.at (K := K) (i := 2) (d := .int rk') htg rg rfl
      cases Tp.int_inv t2
      cases Tp.int_inv u2
      refine ⟨_, rfl, _, _, _, _, rfl, rfl, SqT.of ht5, at_of (j := 0) rfl rfl, rfl, _, rfl, ?_⟩
      rw [sd (Kd.ah o).sort "choice" (by show ¬ ("ahead" : Str) = "choice"; decide +kernel)]
      refine iteF (iteF ?_)
      refine ⟨_, rfl, _, _, _, _, rfl, rfl, SqT.of ht5, at_of (j := 0) rfl rfl, rfl, _, rfl, ?_⟩
      rw [sd (Kd.ah o).sort "choice" (by show ¬ ("ahead" : Str) = "choice"; decide +kernel)]
      refine iteF (iteF ?_)
      refine ⟨_, rfl, _, _, _, _, rfl, rfl, SqT.of ht5, at_of (j := 0) rfl rfl, rfl, _, rfl, ?_⟩
      rw [show decide (V.str (Kd.ah o).sort = V.str "ahead") = true from decide_eq_true rfl]
      refine iteT ?_
      refine ⟨_, rfl, q, _, _, _, rfl, rfl, SqT.of hq5, at_of (j := 0) rfl hn0, _, rfl, q, _, _, _, rfl, rfl, SqT.of hq5, at_of (j := 1) rfl ho0, ?_⟩
      refine ⟨_, _, (Tp.mo (s05 _ _ han')).d, (Tp.mo (s05 _ _ hao')).d, shaped_m _, shaped_m _, _, rfl, ?_⟩
      rw [eqv_m]
      have bad : (n = o ∨ rk ≠ rk') → ∀ a, H5 a = none → ∀ (xx : V), xx = .ref ao' → Q (.ref a) (upd H5 a (.tup [.str "unfit", xx])) := fun h a ha xx exx => by
        subst exx
        obtain ⟨s7, o7⟩ := out_new (s := "unfit") s05 ha (ob_mo hao')
        exact go _ _ _ s7 (dn _ ⟨rk, ws, ss, lk, rk', ws', ss', lk', hrow, hrow', .inl ⟨h, rfl⟩⟩) o7
      by_cases hno : n = o
      · rw [decide_eq_true hno]
        refine iteT (iteT ?_)
        exact ⟨_, rfl, q, _, _, _, rfl, rfl, SqT.of hq5, at_of (j := 1) rfl ho0, by show 2 ≤ sizeLine; decide, fun a ha => bad (.inl hno) a ha _ rfl⟩
      · rw [decide_eq_false hno]
        refine iteF ?_
        refine ⟨_, rfl, F0, _, _, _, rfl, rfl, SqL.of hfx, at_of (j := 0) rfl hv0, tf, _, _, _, rfl, rfl, SqT.of htf, a2, _, rfl, F0, _, _, _, rfl, rfl, SqL.of hfx, at_of (j := 1) rfl hv1, tg, _, _, _, rfl, rfl, SqT.of htg, b2, rfl, _, rfl, ?_⟩
        rw [int_dec]
        by_cases hrk : rk = rk'
        · rw [decide_eq_true hrk]
          refine iteF ?_
          exact go _ _ none s05 (dn _ ⟨rk, ws, ss, lk, rk', ws', ss', lk', hrow, hrow', .inr ⟨hno, hrk, rfl⟩⟩) rfl
        · rw [decide_eq_false hrk]
          refine iteT ?_
          exact ⟨_, rfl, q, _, _, _, rfl, rfl, SqT.of hq5, at_of (j := 1) rfl ho0, by show 2 ≤ sizeLine; decide, fun a ha => bad (.inr hrk) a ha _ rfl⟩
end
end KN


set_option Elab.async false
set_option linter.all false
set_option maxRecDepth 100000
set_option maxHeartbeats 4000000
/-! Own rule: several except clauses, each with a name for what it caught. -/
namespace KN
open PySem PySem.Spec PyProof.Rows L2
/-- behind a clause its name is gone -/
def offE (D : Ends) (i : Nat) : Ends := { nx := fun τ G => D.nx (τ.set i none) G, rt := D.rt, bk := fun τ G => D.bk (τ.set i none) G, ct := fun τ G => D.ct (τ.set i none) G }
abbrev Clause := Value × (Addr → Value → Option Addr → TS)
/-- what the clauses wish of what the body lets out, one after the other -/
def wAsM (K : PySem.W.Frag) (Wout : WX) (i : Nat) (D : Ends) : List Clause → WX
  | [] => Wout
  | (k, t) :: rest => fun cl dd τ G => ∃ yes, PySem.W.exmOne K cl k = some yes ∧ (yes = true → ∀ x, G x = none → t x cl dd (offE D i) (τ.set i (some (.ref x))) G) ∧ (yes = false → wAsM K Wout i D rest cl dd τ G)
inductive AsOk (X : Cx) (n : Str) : List ExceptHandler → List Clause → Prop
  | nil : AsOk X n [] []
  | cons {z : Str} {k : Value} {t : Addr → Value → Option Addr → TS} {b0 : Stmt} {bs : List Stmt} {p1 p2 : Pos} {hs : List ExceptHandler} {l : List Clause} (nam : Names X z k)
      (run : ∀ (x : Addr) (ob : Obj) (cl : Value) (dd : Option Addr) (pn : List (Addr × Obj)), Zc cl dd ob → (∃ vs, ob.data = .fields vs) → PSs (X.suite x ((x, ob) :: pn)) (b0 :: bs) (t x cl dd)) (rest : AsOk X n hs l) :
      AsOk X n (.ExceptHandler (some (.Name z p1)) (some n) (b0 :: bs) p2 :: hs) ((k, t) :: l)
section
variable {X : Cx} {n : Str} {i : Nat} {body : List Stmt} {h0 : ExceptHandler} {hs : List ExceptHandler} {l : List Clause} {pos : Pos} {tb : WX → TS} {Wout : WX}
theorem ps_try_asM (stk : X.stack = X.env :: X.outer) (frm : X.env.frame = some X.env.locals) (nd : X.N.Nodup) (at_ : X.N[i]? = some n) (loc : X.env.kindOf n = some .local) (tkn : Takes X Wout)
    (bod : ∀ (W : WX) (pn : List (Addr × Obj)) (xe : Value → Shared → Prop), Takes (X.tr pn xe) W → PassesOwn (model X.prog X.w) X.A X.env xe → PSs (X.tr pn xe) body (tb W))
    (cls_ : AsOk X n (h0 :: hs) l) : PS X (.Try body (h0 :: hs) [] [] pos) (fun D τ G => tb (wAsM X.K Wout i D l) D τ G) := by
  refine ⟨fun pp t τ G D J0 go => ?_⟩
  have okX := J0.ok
  have frs_ : X.A.frames = some (X.env :: X.outer) := by rw [okX.frames, stk]
  have lc : Loc X.env.scope n := .inl loc
  refine wpAny_Try_except ?_
  have B0 := bod (wAsM X.K Wout i D l) (X.pn ++ pp) (fun u t1 => wpAny (model X.prog X.w) X.A (noteFrame u X.env) (fun _ t2 => wpAny (model X.prog X.w) X.A (setFlight u none) (fun _ t3 => wpAny (model X.prog X.w) X.A (handleBy u X.env (h0 :: hs)) (SP X pp D) X.xe t3) X.xe t2) X.xe t1)
  refine wpAny_mono ((B0 (fun u t' xx => ?_) PassesOwn.looking).run [] t τ G D (J0.toTry _) go) (fun fl t1 q => ?_) (fun _ _ z => z)
  · obtain ⟨x, B, tI, pp', τ', G', cl, dd, rfl, J1, nb, up, sky, none_, os, ag, wish⟩ := xx
    have J : Inv X pp τ' G' tI := J1.ofTry okX
    have skyX : Sky B (X.env :: X.outer) x (Zc cl dd) X.env.locals t'.heap := by rw [← stk]; exact sky
    show wpAny (model X.prog X.w) X.A (noteFrame (.ref x) X.env) _ _ _
    refine Sky.land Zc.steady frs_ frm skyX fun g fly upg => ?_
    have Jg : Inv X pp τ' G' { t' with heap := g } := J.landed nb fly.1 (up.trans upg) os ag
    obtain ⟨ob, vs, hob, zob, dob⟩ := fly.there
    have away : x ∉ frs (X.env :: X.outer) := fun hm => by
      obtain ⟨_, o', e', far⟩ := fly.2.2.1.mem hm
      rw [hob] at e'; cases e'
      exact far _ dob
    have offL : x ≠ X.env.locals := fun z => away (List.mem_filterMap.mpr ⟨X.env, List.mem_cons_self, by rw [frm, z]⟩)
    have offF : x ∉ X.fs := fun hm => by
      obtain ⟨en, hen, q⟩ := List.mem_filterMap.mp hm
      exact away (List.mem_filterMap.mpr ⟨en, List.mem_cons_of_mem _ hen, q⟩)
    have Sg := Jg.suite hob dob none_ offL offF
    have all : ∀ {hs' : List ExceptHandler} {l' : List Clause}, AsOk X n hs' l' → wAsM X.K Wout i D l' cl dd τ' G' → wpAny (model X.prog X.w) X.A (handleBy (.ref x) X.env hs') (SP X pp D) X.xe { t' with heap := g } := by
      intro hs' l' ok'
      induction ok' with
      | nil =>
        intro wsh
        refine wpAny_handleBy_nil ?_
        obtain ⟨_, _, _, ob2, vs2, T, oT, ts2, hob2, zob2, dob2, at1, _⟩ := id fly
        unfold PySem.passOn
        refine wpAny_bind (wpAny_field hob2 dob2 at1 ?_)
        rw [if_neg (show ¬ ((Value.ref T == Value.none) = true) from by simp)]
        have last : wpAny (model X.prog X.w) X.A (setFlight (.ref x) X.env.frame) (fun _ t4 => wpAny (model X.prog X.w) X.A (throw (.ref x) : Sem Flow) (SP X pp D) X.xe t4) X.xe { t' with heap := g } := by
          rw [frm]
          refine HandSPX.setFlight_upZ fly fun g4 fly4 up4 => wpAny_throw (tkn _ _ ?_)
          exact ⟨x, B, tI, pp, τ', G', cl, dd, rfl, J, nb, (up.trans upg).trans up4, .inr (.inr (by rw [stk]; exact fly4)), none_, os, ag, wsh⟩
        first
          | exact wpAny_bind (wpAny_pure (wpAny_bind last))
          | exact wpAny_bind last
      | @cons z k tS b0 bs p1 p2 hs2 l2 nam run rest ih =>
        intro wsh
        obtain ⟨yes, met, onY, onN⟩ := wsh
        refine wpAny_handleBy_cons (codeAny_handlers_test ?_) (by intro q; cases q)
        have ty : PySem.W.Looks (model X.prog X.w) g (typeOf (.ref x)) cl := fun A Q E t kk q => wpAny_typeOf_ref (kk _ _ hob) (by rw [zob.1]; exact q)
        have asks := PySem.W.exm_one (M := model X.prog X.w) (Jg.kIn) ty met
        have named : ∀ {Q : Value → Shared → Prop} {E : Value → Shared → Prop}, Q k { t' with heap := g } → wpAny (model X.prog X.w) (X.A.mark (some (.ref x))) (eval (.Name z p1) X.env) Q E { t' with heap := g } := fun {Q E} q => by
          obtain ⟨hg, hdbg, hm | ⟨hm, hv, hnn⟩⟩ := nam
          · exact ld_glob (X := X.suite x ((x, ob) :: (X.pn ++ pp))) Sg hg hm q hdbg
          · exact ld_blt (X := X.suite x ((x, ob) :: (X.pn ++ pp))) Sg hg hm hv q hnn hdbg
        refine named (asks.here ?_)
        cases yes with
        | false =>
          show wpAny _ X.A (handleBy (.ref x) X.env hs2) _ _ _
          exact ih (onN rfl)
        | true =>
          refine codeAny_handlers_suite_as ?_
          refine HandSPX.lands_againZ fly fun g4 fly4 up4 => ?_
          have J4 : Inv X pp τ' G' { t' with heap := g4 } := J.landed nb fly4.1 ((up.trans upg).trans up4) os ag
          obtain ⟨ob4, vs4, hob4, zob4, dob4⟩ := fly4.there
          have S4 := J4.suite hob4 dob4 none_ offL offF
          refine store_ok (X := X.suite x ((x, ob4) :: (X.pn ++ pp))) (v := .ref x) S4 nd at_ lc rfl (fun t5 S5 => ?_) (.inr loc)
          refine wpAny_mono ((run x ob4 cl dd (X.pn ++ pp) zob4 ⟨_, dob4⟩).run [] t5 _ G' _ S5 (onY rfl x none_)) (fun fl t6 q => ?_) (fun _ _ z => z.elim)
          have gone : ∀ {τ6 : L2.St} {G6 : Hp} {Q : Shared → Prop}, Inv (X.suite x ((x, ob4) :: (X.pn ++ pp))) [] τ6 G6 t6 → (∀ t7, Inv X pp (τ6.set i none) G6 t7 → Q t7) →
              wpAny (model X.prog X.w) X.A (do bindName X.env n .none; unbindBehindTheSuite X.env n p2) (fun _ t7 => Q t7) X.xe t6 := fun {τ6 G6 Q} S6 hq => gone_ok (S6.unsuite okX) nd at_ loc hq
          cases fl with
          | ret u =>
            obtain ⟨v6, τ6, G6, S6, r6, q6⟩ := q
            exact gone S6 fun t7 J7 => ⟨_, _, _, J7, r6, q6⟩
          | next =>
            obtain ⟨τ6, G6, S6, q6⟩ := q
            exact gone S6 fun t7 J7 => ⟨_, _, J7, q6⟩
          | brk =>
            obtain ⟨τ6, G6, S6, q6⟩ := q
            exact gone S6 fun t7 J7 => ⟨_, _, J7, q6⟩
          | cont =>
            obtain ⟨τ6, G6, S6, q6⟩ := q
            exact gone S6 fun t7 J7 => ⟨_, _, J7, q6⟩
    exact all cls_ wish
  · cases fl with
    | ret u =>
      obtain ⟨v1, τ1, G1, J1, r1, q1⟩ := q
      exact ⟨v1, τ1, G1, J1.ofTry okX, r1, q1⟩
    | next =>
      obtain ⟨τ1, G1, J1, q1⟩ := q
      exact wpAny_execs_nil ⟨τ1, G1, J1.ofTry okX, q1⟩
    | brk =>
      obtain ⟨τ1, G1, J1, q1⟩ := q
      exact ⟨τ1, G1, J1.ofTry okX, q1⟩
    | cont =>
      obtain ⟨τ1, G1, J1, q1⟩ := q
      exact ⟨τ1, G1, J1.ofTry okX, q1⟩
end
end KN

set_option Elab.async false
set_option linter.all false
set_option maxRecDepth 100000
set_option maxHeartbeats 4000000
namespace KN
open PySem PySem.Spec PyProof.Rows L2
/-! How an entry tried is refused: a lambda asked in a try with six clauses. -/
def rIsDT (K : PySem.W.Frag) (D a : Addr) : List V → Hp → VK → Prop := fun xs H Q => ∃ (tp : Addr) (cs : List V) (us : List Value) (b : Bool), xs = [.ref a, .ref tp] ∧ H tp = some (.tup cs) ∧ PySem.Paired ClsV cs us ∧ PySem.W.kitAny K (.ref D) us = some b ∧ Q (.bl b) H
theorem call_isDT {X : Cx} {a D : Addr} {oe : Obj} {cls : Value} {d : Option Addr} {pn : List (Addr × Obj)} (C : ExcC X.K D) (hz : Zc cls d oe) (hf : ∃ vs, oe.data = .fields vs) :
    CallR (X.suite a ((a, oe) :: pn)) (.builtin "isinstance") (fun xs H Q => cls = .ref D ∧ (∃ dd fs, d = some dd ∧ H dd = some (.xd fs)) ∧ rIsDT X.K D a xs H Q) := by
  intro pins s σ H xs us Q I r ⟨ec, ⟨dd, fs, ed, hdd⟩, tp, cs, ws, b, ex, hT, k, e, q⟩
  subst ex ec
  obtain ⟨u1, u2, rfl, r1, r2⟩ : ∃ u1 u2, us = [u1, u2] ∧ RelV (.ref a) u1 ∧ RelV (.ref tp) u2 := by
    cases r with | cons r1 rr => cases rr with | cons r2 rr => cases rr; exact ⟨_, _, rfl, r1, r2⟩
  cases r1
  cases r2
  obtain ⟨at_, _⟩ := I.pin (a, oe) (List.mem_append.mpr (Or.inl List.mem_cons_self))
  obtain ⟨vs, hv⟩ := hf
  have okd : ObjOk X.prog X.w H s.heap dd (.xd fs) := I.hok dd _ hdd
  obtain ⟨mA, hns, _⟩ := okd
  obtain ⟨od, ho, _⟩ := lookIn_ns hns
  have J : PySem.W.InstAt s.heap a oe D (some od) := ⟨at_, hz.1, by unfold PySem.W.notCls; rw [hv] <;> rfl, by rw [hz.2, ed]; exact ho⟩
  obtain ⟨_, its, rv, o, h1, h2, n, h3⟩ := (show ObjOk X.prog X.w H s.heap tp (.tup cs) from I.hok tp _ hT)
  have e3 := ClsV.all k rv
  subst e3
  obtain ⟨oc, odd, dt, sl⟩ := o
  simp only at h2 h3
  subst h2 h3
  exact PySem.W.kia_tup (kit_caught C) I.kIn ⟨_, J⟩ h1 e (fun z => nomatch z) fun tk => ⟨.bl b, H, I.kept (t' := tk) fun _ _ z => z, rfl, q⟩
theorem takes_len4 {X : Cx} {W : WX} (tk : Takes X W) : Takes X (fun cls d σ H => σ.length = X.N.length → W cls d σ H) := fun u s' ⟨a, B, sI, pins, σ, H, cls, d, e, I, nb, up, sky, na, os, ag, w⟩ =>
  tk u s' ⟨a, B, sI, pins, σ, H, cls, d, e, I, nb, up, sky, na, os, ag, w I.len⟩
/-- the six classes, as the clauses meet them -/
structure RefX (K : PySem.W.Frag) (mg : Str → Option Value) (CB CS CN CZ CL CU CW : Addr) : Prop where
  gB : mg "BadMoment" = some (.ref CB)
  gS : mg "SameMoment" = some (.ref CS)
  gN : mg "NoName" = some (.ref CN)
  gZ : mg "NoSheet" = some (.ref CZ)
  gL : mg "Later" = some (.ref CL)
  gU : mg "Unfit" = some (.ref CU)
  gW : mg "BadName" = some (.ref CW)
  mB : ExcMet K CB "ValueError"
  mS : ExcMet K CS "LookupError"
  mN : ExcMet K CN "KeyError"
  mZ : ExcMet K CZ "KeyError"
  mL : ExcMet K CL "LookupError"
  mU : ExcMet K CU "RuntimeError"
  pB : PySem.W.findIn K (.ref CB) "moment" = some none
  pS : PySem.W.findIn K (.ref CS) "moment" = some none
  pN : PySem.W.findIn K (.ref CN) "moment" = some none
  pZ : PySem.W.findIn K (.ref CZ) "sheet" = some none
  pL : PySem.W.findIn K (.ref CL) "moment" = some none
  pU : PySem.W.findIn K (.ref CU) "moment" = some none
  no : ∀ p ∈ [(CS, CB), (CN, CB), (CN, CS), (CZ, CB), (CZ, CS), (CZ, CN), (CL, CB), (CL, CS), (CL, CN), (CL, CZ), (CU, CB), (CU, CS), (CU, CN), (CU, CZ), (CU, CL)], PySem.W.exmOne K (.ref p.1) (.ref p.2) = some false
  kS : PySem.W.kitAny K (.ref CS) [.type "KeyError", .ref CL] = some false
  kN : PySem.W.kitAny K (.ref CN) [.ref CZ, .ref CW] = some false
def exKinds (CB CS CN CZ CL CU : Addr) : List (Addr × Str × Str) := [(CB, "moment", "no moment"), (CS, "moment", "same"), (CN, "moment", "no name"), (CZ, "sheet", "no sheet"), (CL, "moment", "later"), (CU, "moment", "unfit")]
/-- what an own exception let out is told as -/
def RefE (CB CS CN CZ CL CU : Addr) (Q : VK) : XK := fun cls d H' => ∃ (dd : Addr) (y : V) (C : Addr) (f s : Str), cls = .ref C ∧ d = some dd ∧ H' dd = some (.xd [(f, y)]) ∧ (C, f, s) ∈ exKinds CB CS CN CZ CL CU ∧ ∀ G a, Same H' G → G a = none → Q (.ref a) (upd G a (.tup [.str s, y]))
def TTref (CB CS CN CZ CL CU : Addr) : (XK → Hp → VK → Prop) → Hp → VK → Prop := fun tl H Q => tl (RefE CB CS CN CZ CL CU Q) H fun _ H' => ∃ v : V, (some (some V.non) : Option (Option V)) = some (some v) ∧ Q v H'
section
variable {K : PySem.W.Frag} {CB CS CN CZ CL CU CW : Addr}
theorem sc__law_refusal : FnScope ["_law_asked", "_law_wrong", "e", "_law_plain"] ["_law_asked"] (defScope s__law_refusal) := ⟨rfl, rfl, rfl, by decide +kernel, rfl, by decide +kernel, by decide +kernel⟩
theorem ref_gives {X : Cx} {g : Addr} {cdg : Value} {q : Str} (R : RefX X.K X.mg CB CS CN CZ CL CU CW) (m_isinstance : X.mg "isinstance" = none) (m_VE : X.mg "ValueError" = none) (m_KE : X.mg "KeyError" = none) (m_LE : X.mg "LookupError" = none) (m_RE : X.mg "RuntimeError" = none) :
    LamX.GivesTo X ["_law_asked", "_law_wrong", "e", "_law_plain"] "_law_refusal" (defScope s__law_refusal) g cdg (defBody s__law_refusal) "_law_asked" q (TTref CB CS CN CZ CL CU) := by
  intro f c' s H Q tl act hc h
  refine ⟨_, pss_cons (ps_set (i := 1) sc__law_refusal.nd rfl (Or.inl rfl) pe_non)
    (pss_cons (ps_try_asM (X := (cxOf C8.CX0 X.prog X.w X.K X.mg X.base ["_law_asked", "_law_wrong", "e", "_law_plain"] "_law_refusal" (defScope s__law_refusal) g cdg X.A X.stack s H C8.E0).nox) (n := "e") (i := 2) (Wout := fun _ _ _ _ => False)
      (tb := fun W D σ H => ∃ Ech : XK, (∀ cls d σ' H', σ'.length = 4 → Ech cls d H' → W cls d σ' H') ∧ σ[0]? = some (some (.ref f)) ∧ H c' = some (LamX.CodeO c' q) ∧ tl Ech H fun _ H' => D.nx σ H')
      rfl rfl sc__law_refusal.nd rfl rfl takes0 (fun W pn xe tk po => ?_)
      (.cons ⟨rfl, by decide, Or.inl R.gB⟩ (fun a oe cls d pn hz hf => pss_one (ps_set (i := 1) sc__law_refusal.nd rfl (Or.inl rfl) (pe_ifExp (pt_val (pe_callB (call_isD R.mB.isC hz hf) (by rfl) m_isinstance (by decide +kernel) (pa_cons (pv 2) (pa_cons (pe_bltn (v := .ty "ValueError") (u := .type "ValueError") rfl m_VE (by decide +kernel) rfl) pa_nil)))) (pe_tup (pa_cons pe_str (pa_cons (pe_xf R.mB.xf R.pB hz hf (pv 2)) pa_nil))) (pe_tup (pa_cons pe_str (pa_cons pe_non pa_nil))))))
      (.cons ⟨rfl, by decide, Or.inl R.gS⟩ (fun a oe cls d pn hz hf => pss_one (ps_set (i := 1) sc__law_refusal.nd rfl (Or.inl rfl) (pe_ifExp (pt_not (pt_val (pe_callB (call_isDT R.mS.isC hz hf) (by rfl) m_isinstance (by decide +kernel) (pa_cons (pv 2) (pa_cons (pe_tup (pa_cons (pe_bltn (v := .ty "KeyError") (u := .type "KeyError") rfl m_KE (by decide +kernel) rfl) (pa_cons (pe_glob (v := .ref CL) rfl R.gL rfl) pa_nil))) pa_nil))))) (pe_tup (pa_cons pe_str (pa_cons (pe_xf R.mS.xf R.pS hz hf (pv 2)) pa_nil))) (pe_tup (pa_cons pe_str (pa_cons pe_non pa_nil))))))
      (.cons ⟨rfl, by decide, Or.inl R.gN⟩ (fun a oe cls d pn hz hf => pss_cons (ps_set (i := 3) sc__law_refusal.nd rfl (Or.inl rfl) (pe_and (pe_callB (call_isD R.mN.isC hz hf) (by rfl) m_isinstance (by decide +kernel) (pa_cons (pv 2) (pa_cons (pe_bltn (v := .ty "KeyError") (u := .type "KeyError") rfl m_KE (by decide +kernel) rfl) pa_nil))) (pe_one (pe_not (pe_callB (call_isDT R.mN.isC hz hf) (by rfl) m_isinstance (by decide +kernel) (pa_cons (pv 2) (pa_cons (pe_tup (pa_cons (pe_glob (v := .ref CZ) rfl R.gZ rfl) (pa_cons (pe_glob (v := .ref CW) rfl R.gW rfl) pa_nil))) pa_nil)))))))
        (pss_one (ps_set (i := 1) sc__law_refusal.nd rfl (Or.inl rfl) (pe_ifExp (pt_val (pv 3)) (pe_tup (pa_cons pe_str (pa_cons (pe_xf R.mN.xf R.pN hz hf (pv 2)) pa_nil))) (pe_tup (pa_cons pe_str (pa_cons pe_non pa_nil)))))))
      (.cons ⟨rfl, by decide, Or.inl R.gZ⟩ (fun a oe cls d pn hz hf => pss_one (ps_set (i := 1) sc__law_refusal.nd rfl (Or.inl rfl) (pe_ifExp (pt_val (pe_callB (call_isD R.mZ.isC hz hf) (by rfl) m_isinstance (by decide +kernel) (pa_cons (pv 2) (pa_cons (pe_bltn (v := .ty "KeyError") (u := .type "KeyError") rfl m_KE (by decide +kernel) rfl) pa_nil)))) (pe_tup (pa_cons pe_str (pa_cons (pe_xf R.mZ.xf R.pZ hz hf (pv 2)) pa_nil))) (pe_tup (pa_cons pe_str (pa_cons pe_non pa_nil))))))
      (.cons ⟨rfl, by decide, Or.inl R.gL⟩ (fun a oe cls d pn hz hf => pss_one (ps_set (i := 1) sc__law_refusal.nd rfl (Or.inl rfl) (pe_ifExp (pt_val (pe_callB (call_isD R.mL.isC hz hf) (by rfl) m_isinstance (by decide +kernel) (pa_cons (pv 2) (pa_cons (pe_bltn (v := .ty "LookupError") (u := .type "LookupError") rfl m_LE (by decide +kernel) rfl) pa_nil)))) (pe_tup (pa_cons pe_str (pa_cons (pe_xf R.mL.xf R.pL hz hf (pv 2)) pa_nil))) (pe_tup (pa_cons pe_str (pa_cons pe_non pa_nil))))))
      (.cons ⟨rfl, by decide, Or.inl R.gU⟩ (fun a oe cls d pn hz hf => pss_one (ps_set (i := 1) sc__law_refusal.nd rfl (Or.inl rfl) (pe_ifExp (pt_val (pe_callB (call_isD R.mU.isC hz hf) (by rfl) m_isinstance (by decide +kernel) (pa_cons (pv 2) (pa_cons (pe_bltn (v := .ty "RuntimeError") (u := .type "RuntimeError") rfl m_RE (by decide +kernel) rfl) pa_nil)))) (pe_tup (pa_cons pe_str (pa_cons (pe_xf R.mU.xf R.pU hz hf (pv 2)) pa_nil))) (pe_tup (pa_cons pe_str (pa_cons pe_non pa_nil)))))) .nil)))))))
    (pss_one (ps_ret (pv 1)))), ?_⟩
  · refine ⟨fun pins s' σ H' D I h' => ?_⟩
    obtain ⟨Ech, hW, h1, h2, h3⟩ := h'
    exact (pss_one (ps_expr (act (fun cls d σ H => σ.length = 4 → W cls d σ H) pn xe Ech _ _ (takes_len4 tk) fun cls d σ' H' e l => hW cls d σ' H' l e))).run pins s' σ H' D I ⟨h1, h2, h3⟩
  · refine ⟨_, fun cls d σ' H' hl h' => ?_, rfl, hc, h⟩
    obtain ⟨w0, w1, w2, w3, rfl⟩ : ∃ w0 w1 w2 w3, σ' = [w0, w1, w2, w3] := by
      match σ', hl with
      | [w0, w1, w2, w3], _ => exact ⟨w0, w1, w2, w3, rfl⟩
    obtain ⟨dd, y, C, fl, sw, rfl, rfl, hd, hm, k⟩ := h'
    simp only [exKinds, List.mem_cons, List.not_mem_nil, or_false, Prod.mk.injEq] at hm
    rcases hm with ⟨rfl, rfl, rfl⟩ | ⟨rfl, rfl, rfl⟩ | ⟨rfl, rfl, rfl⟩ | ⟨rfl, rfl, rfl⟩ | ⟨rfl, rfl, rfl⟩ | ⟨rfl, rfl, rfl⟩
    · refine ⟨true, R.mB.me, fun _ a0 ha0 => ?_, fun z => by cases z⟩
      refine ⟨_, rfl, rfl, ⟨dd, _, rfl, hd⟩, _, .type "ValueError", true, rfl, (fun u hu => hu), R.mB.up, _, rfl, iteT ?_⟩
      refine ⟨_, rfl, rfl, rfl, dd, _, _, rfl, hd, rfl, by show 2 ≤ sizeLine; decide, fun a ha => ?_⟩
      exact ⟨_, rfl, k _ _ (Same.refl _) ha⟩
    · refine ⟨false, R.no (_, _) (by simp), (fun z => by cases z), fun _ => ?_⟩
      refine ⟨true, R.mS.me, fun _ a0 ha0 => ?_, fun z => by cases z⟩
      refine ⟨_, rfl, by show 2 ≤ sizeLine; decide, fun tp htp => ?_⟩
      have s1 : Same H' (upd H' tp (.tup [.ty "KeyError", .ref CL])) := Same.new htp
      refine ⟨rfl, ⟨dd, _, rfl, s1 _ _ hd⟩, tp, _, _, false, rfl, upd_same, .cons (.ty _) (.cons (.own _) .nil), R.kS, _, rfl, iteT ?_⟩
      refine ⟨_, rfl, rfl, rfl, dd, _, _, rfl, s1 _ _ hd, rfl, by show 2 ≤ sizeLine; decide, fun a ha => ?_⟩
      exact ⟨_, rfl, k _ _ s1 ha⟩
    · refine ⟨false, R.no (_, _) (by simp), (fun z => by cases z), fun _ => ⟨false, R.no (_, _) (by simp), (fun z => by cases z), fun _ => ?_⟩⟩
      refine ⟨true, R.mN.me, fun _ a0 ha0 => ?_, fun z => by cases z⟩
      refine ⟨_, rfl, rfl, ⟨dd, _, rfl, hd⟩, _, .type "KeyError", true, rfl, (fun u hu => hu), R.mN.up, _, rfl, iteT ?_⟩
      refine ⟨_, rfl, by show 2 ≤ sizeLine; decide, fun tp htp => ?_⟩
      have s1 : Same H' (upd H' tp (.tup [.ref CZ, .ref CW])) := Same.new htp
      refine ⟨rfl, ⟨dd, _, rfl, s1 _ _ hd⟩, tp, _, _, false, rfl, upd_same, .cons (.own _) (.cons (.own _) .nil), R.kN, _, rfl, ?_⟩
      refine ⟨_, rfl, _, rfl, iteT ?_⟩
      refine ⟨_, rfl, rfl, rfl, dd, _, _, rfl, s1 _ _ hd, rfl, by show 2 ≤ sizeLine; decide, fun a ha => ?_⟩
      exact ⟨_, rfl, k _ _ s1 ha⟩
    · refine ⟨false, R.no (_, _) (by simp), (fun z => by cases z), fun _ => ⟨false, R.no (_, _) (by simp), (fun z => by cases z), fun _ => ⟨false, R.no (_, _) (by simp), (fun z => by cases z), fun _ => ?_⟩⟩⟩
      refine ⟨true, R.mZ.me, fun _ a0 ha0 => ?_, fun z => by cases z⟩
      refine ⟨_, rfl, rfl, ⟨dd, _, rfl, hd⟩, _, .type "KeyError", true, rfl, (fun u hu => hu), R.mZ.up, _, rfl, iteT ?_⟩
      refine ⟨_, rfl, rfl, rfl, dd, _, _, rfl, hd, rfl, by show 2 ≤ sizeLine; decide, fun a ha => ?_⟩
      exact ⟨_, rfl, k _ _ (Same.refl _) ha⟩
    · refine ⟨false, R.no (_, _) (by simp), (fun z => by cases z), fun _ => ⟨false, R.no (_, _) (by simp), (fun z => by cases z), fun _ => ⟨false, R.no (_, _) (by simp), (fun z => by cases z), fun _ => ⟨false, R.no (_, _) (by simp), (fun z => by cases z), fun _ => ?_⟩⟩⟩⟩
      refine ⟨true, R.mL.me, fun _ a0 ha0 => ?_, fun z => by cases z⟩
      refine ⟨_, rfl, rfl, ⟨dd, _, rfl, hd⟩, _, .type "LookupError", true, rfl, (fun u hu => hu), R.mL.up, _, rfl, iteT ?_⟩
      refine ⟨_, rfl, rfl, rfl, dd, _, _, rfl, hd, rfl, by show 2 ≤ sizeLine; decide, fun a ha => ?_⟩
      exact ⟨_, rfl, k _ _ (Same.refl _) ha⟩
    · refine ⟨false, R.no (_, _) (by simp), (fun z => by cases z), fun _ => ⟨false, R.no (_, _) (by simp), (fun z => by cases z), fun _ => ⟨false, R.no (_, _) (by simp), (fun z => by cases z), fun _ => ⟨false, R.no (_, _) (by simp), (fun z => by cases z), fun _ => ⟨false, R.no (_, _) (by simp), (fun z => by cases z), fun _ => ?_⟩⟩⟩⟩⟩
      refine ⟨true, R.mU.me, fun _ a0 ha0 => ?_, fun z => by cases z⟩
      refine ⟨_, rfl, rfl, ⟨dd, _, rfl, hd⟩, _, .type "RuntimeError", true, rfl, (fun u hu => hu), R.mU.up, _, rfl, iteT ?_⟩
      refine ⟨_, rfl, rfl, rfl, dd, _, _, rfl, hd, rfl, by show 2 ≤ sizeLine; decide, fun a ha => ?_⟩
      exact ⟨_, rfl, k _ _ (Same.refl _) ha⟩
end
end KN


set_option Elab.async false
set_option linter.all false
set_option maxRecDepth 100000
set_option maxHeartbeats 4000000
namespace KN
open PySem L2
/-! An entry tried, drawn. -/
def rIxA (K : PySem.W.Frag) : R2 := fun x y H Q => ∃ p xs i v, x = .ref p ∧ y = .int i ∧ (SqL K H p xs ∨ SqT K H p xs) ∧ atI xs i = some v ∧ Q v H
theorem ix_any {X : Cx} : IxR X (rIxA X.K) := fun value slice pins s σ H x y v u Q I rx ry h e => by
  obtain ⟨p, xs, i, z, e1, e2, hs | hs, e3, q⟩ := h
  · exact ix_list value slice pins s σ H x y v u Q I rx ry ⟨p, xs, i, z, e1, e2, hs, e3, q⟩ e
  · exact ix_tup value slice pins s σ H x y v u Q I rx ry ⟨p, xs, i, z, e1, e2, hs, e3, q⟩ e
theorem Kp.ke {H H' : Hp} {p c : Addr} {b : Int} (k : Kp p H H') (pen : Pen H p c b) : Ke H H' := fun a o h e =>
  k a o (fun z => by
    subst z
    obtain ⟨n, m, ns, e1, _⟩ := pen
    rw [e1] at e
    cases e
    rcases h with ⟨xs, h⟩ | ⟨xs, h⟩ | h <;> cases h) e
/-- a thing for a moment: a moment, or none; whole numbers and truths in it -/
structure MoT (H : Hp) (v : V) (dd : PyData) : Prop where
  ob : Ob H v dd
  fl : ∀ ds, dd = .tuple ds → ∀ x ∈ ds, flatN x = true
  mo : momB dd = true → ∃ m, dd = mD m ∧ MoOk m
  sh : dd.canLay0 = true
  dp : dd.depth ≤ 10
theorem MoT.to {H H' : Hp} {v : V} {dd : PyData} (h : MoT H v dd) (k : Ke H H') : MoT H' v dd := ⟨h.ob.to k, h.fl, h.mo, h.sh, h.dp⟩
theorem MoT.m {H : Hp} {a : Addr} {m : Mo} (h : H a = some (.tup [.int m.1, .int m.2])) (ok : MoOk m) : MoT H (.ref a) (mD m) :=
  ⟨ob_mo h, fun ds e x hx => by cases e; simp at hx; rcases hx with rfl | rfl <;> rfl, fun _ => ⟨m, rfl, ok⟩, okD_lay _ (okD_m m), by simp [mD, PyData.depth, PyData.depthAll]⟩
theorem MoT.odd2 {H : Hp} {a : Addr} {x y : Int} (h : H a = some (.tup [.int x, .int y])) (no : y = 0 ∨ x < 0) : MoT H (.ref a) (mD (x, y)) := by
  refine ⟨ob_mo (m := (x, y)) h, fun ds e z hz => ?_, fun hb => ?_, okD_lay _ (okD_m _), by simp [mD, PyData.depth, PyData.depthAll]⟩
  · cases e; simp at hz; rcases hz with rfl | rfl <;> rfl
  · have e : momB (mD (x, y)) = ((decide ((0 : Int) ≤ x) && decide (x ≤ 1000000000000)) && (decide ((1 : Int) ≤ y) && decide (y ≤ 1000000000000))) := rfl
    rw [e] at hb
    simp only [Bool.and_eq_true, decide_eq_true_eq] at hb
    omega
structure TCore (H : Hp) (p c : Addr) (b : Int) (ra la ma na oa : Addr) (rs : List Row) (lot : List Str) (ms : List Mo) : Prop where
  pen : Pen H p c b
  ra : Ls H ra (rs.map Row.d)
  la : H la = some (.lst (lot.map V.str))
  ma : Ls H ma (ms.map mD)
  na : Ls H na ((nms rs).map mD)
  oa : Ls H oa ((rs.map Row.mo ++ ms).map mD)
section
variable {H H' : Hp} {p c : Addr} {b b' : Int} {ra la ma na oa : Addr} {rs : List Row} {lot : List Str} {ms : List Mo}
theorem Ls.kpp {l : Addr} {ds : List PyData} (h : Ls H l ds) (pen : Pen H p c b) (k : Kp p H H') : Ls H' l ds := by
  obtain ⟨xs, e, r⟩ := h
  exact ⟨xs, k _ _ (pen.ne e) e, r.to (pen.tk k)⟩
theorem TCore.kp (h : TCore H p c b ra la ma na oa rs lot ms) (k : Kp p H H') (pen : Pen H' p c b') : TCore H' p c b' ra la ma na oa rs lot ms :=
  ⟨pen, h.ra.kpp h.pen k, k _ _ (h.pen.ne h.la) h.la, h.ma.kpp h.pen k, h.na.kpp h.pen k, h.oa.kpp h.pen k⟩
theorem TCore.same (h : TCore H p c b ra la ma na oa rs lot ms) (s : Same H H') : TCore H' p c b ra la ma na oa rs lot ms := h.kp (Kp.of s) (h.pen.to s)
theorem TCore.up (h : TCore H p c b ra la ma na oa rs lot ms) (l : b ≤ b') : TCore H p c b' ra la ma na oa rs lot ms := { h with pen := h.pen.up l }
end
theorem MoT.no {H : Hp} {v : V} {dd : PyData} (ob : Ob H v dd) (fl : ∀ ds, dd = .tuple ds → ∀ x ∈ ds, flatN x = true) (hb : momB dd = false) (sh : dd.canLay0 = true) (dp : dd.depth ≤ 10) : MoT H v dd := ⟨ob, fl, (fun h => by rw [hb] at h; cases h), sh, dp⟩
theorem flat_lay {ds : List PyData} (h : ∀ d ∈ ds, flatN d = true) : PyData.canLayAll0 ds = true ∧ PyData.depthAll ds ≤ 1 := by
  induction ds with
  | nil => simp [PyData.canLayAll0, PyData.depthAll]
  | cons d ds ih =>
    have hd := h d List.mem_cons_self
    have ih := ih fun x hx => h x (List.mem_cons_of_mem _ hx)
    cases d with
    | int i => simp [PyData.canLayAll0, PyData.canLay0, PyData.depthAll, PyData.depth, ih]
    | bool b => simp [PyData.canLayAll0, PyData.canLay0, PyData.depthAll, PyData.depth, ih]
    | _ => cases hd
theorem MoT.tup {H : Hp} {a : Addr} {xs : List V} {ds : List PyData} (h : H a = some (.tup xs)) (r : ObAll H xs ds) (fl : ∀ x ∈ ds, flatN x = true) (hb : momB (.tuple ds) = false) : MoT H (.ref a) (.tuple ds) := by
  obtain ⟨l, d⟩ := flat_lay fl
  refine MoT.no (.tup h r) (fun es e x hx => ?_) hb (by simpa [PyData.canLay0] using l) (by simp only [PyData.depth]; omega)
  cases e; exact fl x hx
theorem ls_at {H : Hp} {a : Addr} {α : Type} {Y : List α} {g : α → PyData} {r : Int} (h : Ls H a (Y.map g)) (h0 : 0 ≤ r) (h1 : r < Y.length) : ∃ xs v y, H a = some (.lst xs) ∧ atI xs r = some v ∧ y ∈ Y ∧ Tp H v (g y) := by
  obtain ⟨xs, hx, rx⟩ := h
  have hl : r.toNat < Y.length := by omega
  obtain ⟨v, hv, tv⟩ := rx.get (i := r.toNat) (d := g Y[r.toNat]) (by rw [List.getElem?_map, List.getElem?_eq_getElem hl]; rfl)
  exact ⟨xs, v, Y[r.toNat], hx, at_ofG h0 hv, List.getElem_mem _, tv⟩
theorem mo_at {H : Hp} {a : Addr} {Y : List Mo} {r : Int} (h : Ls H a (Y.map mD)) (h0 : 0 ≤ r) (h1 : r < Y.length) : ∃ xs b m, H a = some (.lst xs) ∧ atI xs r = some (.ref b) ∧ m ∈ Y ∧ H b = some (.tup [.int m.1, .int m.2]) := by
  obtain ⟨xs, v, m, hx, hv, hm, tv⟩ := ls_at h h0 h1
  obtain ⟨b, rfl, hb⟩ := Tp.mo_inv tv
  exact ⟨xs, b, m, hx, hv, hm, hb⟩
theorem at_mem {xs : List V} {r : Int} (h0 : 0 ≤ r) (h1 : r < xs.length) : ∃ v, atI xs r = some v ∧ v ∈ xs := by
  have hl : r.toNat < xs.length := by omega
  exact ⟨xs[r.toNat], at_ofG h0 (List.getElem?_eq_getElem hl), List.getElem_mem _⟩
theorem len_mo {H : Hp} {a : Addr} {Y : List Mo} {xs : List V} (h : Ls H a (Y.map mD)) (hx : H a = some (.lst xs)) : xs.length = Y.length := by
  obtain ⟨ys, hy, ry⟩ := h
  rw [hy] at hx
  cases hx
  rw [ry.len, List.length_map]
theorem Ls.ex {H : Hp} {a : Addr} {ds : List PyData} (h : Ls H a ds) : ∃ xs, H a = some (.lst xs) ∧ xs.length = ds.length := let ⟨xs, h1, h2⟩ := h; ⟨xs, h1, h2.len⟩
def ssD : Row → PyData
  | .nm _ _ _ ss _ => .tuple (ss.map PyData.str)
  | _ => .none
theorem ob_w {H : Hp} {z : Str} (h : IsW z) : Ob H (.str z) (.str z) := .str z ⟨Nat.le_trans (show z.length ≤ 12 from by have := h.2.1; simpa [tl, Str.length] using this) (by decide), strOk_w h⟩
theorem ssD_nil (Y : List Row) : PyData.eqv (.list (Y.map ssD)) (.list []) = decide (Y = []) := by
  cases Y with
  | nil => rfl
  | cons x xs => simp [PyData.eqv, PyData.eqvAll]
theorem shareV {B S : V → Prop} {P : Prop} (h : (∀ x, S x → B x) → P) (g : ∀ x, S x → B x) : P := h g
theorem shareK {B : V → Hp → Prop} {S : V → Hp → Prop} {P : Prop} (h : (∀ x H, S x H → B x H) → P) (g : ∀ x H, S x H → B x H) : P := h g
def spTried : Sp := fun vs H Q _ => ∃ (p c : Addr) (b : Int) (ra la ma : Addr) (rs : List Row) (lot : List Str) (ms : List Mo), vs = [.ref p, .ref ra, .ref la, .ref ma] ∧ Pen H p c b ∧ b ≤ 10000000 ∧ Ls H ra (rs.map Row.d) ∧ H la = some (.lst (lot.map V.str)) ∧ Ls H ma (ms.map mD) ∧
  nms rs ≠ [] ∧ rs.length ≤ 500 ∧ (∀ r ∈ rs, RowW r) ∧ (∀ r ∈ rs, MoOk r.mo) ∧ lot.length = 6 ∧ (∀ s ∈ lot, IsW s) ∧ 1 ≤ ms.length ∧ ms.length ≤ 100 ∧ (∀ m ∈ ms, MoOk m) ∧
  ∀ H' t v an x dd n k, Kp p H H' → Pen H' p c (b + 20) → TryAt H' t v an x dd n k → MoT H' v dd → (∀ z, k = .ch z → IsW z) → Q (.ref t) H'
section
variable {P : Program} {w : World} {K : PySem.W.Frag} {mg : Str → Option Value} {base : Heap}
theorem sc__law_tried : FnScope ["_law_pen_here", "_law_rows", "_law_lot", "_law_moments_here", "_law_names_here", "_law_others", "_law_moment_here", "_law_odd", "_law_spots", "_law_one", "_law_two", "_law_way", "_law_own", "_law_some", "_law_picked", "_law_row"] ["_law_pen_here", "_law_rows", "_law_lot", "_law_moments_here"] (defScope s__law_tried) := ⟨rfl, rfl, rfl, by decide +kernel, rfl, by decide +kernel, by decide +kernel⟩
theorem ok__law_tried {f : Addr} {fd : FuncData} (F : Fun K "_law_tried" "_law_tried" s__law_tried f fd) (m_len : mg "len" = none) (c__law_draw : C8.Cal P w K mg base 1 "_law_draw" spDraw []) : FnOk P w K mg base CX0 2 f fd ["_law_pen_here", "_law_rows", "_law_lot", "_law_moments_here"] spTried := by
  refine F.ok sc__law_tried (fun vs H Q E h => ?_) (fun cdv A outer s H vs Q E hr h => ?_)
  · obtain ⟨p, c, b, ra, la, ma, rs, lot, ms, rfl, _⟩ := h; rfl
  · obtain ⟨p, c, b, ra, la, ma, rs, lot, ms, rfl, pen, hb, hra, hla, hma, hnm, h500, hw, hok, hl6, hlw, hm1, hm100, hmok, go⟩ := h
    have hu := hu_of hr
    refine ⟨_, (pss_cons (ps_setLc (i := 4) (own := [("_law_row", 15)]) (g := gName 15) rfl sc__law_tried.nd rfl rfl (sw_true rfl rfl rfl (by decide +kernel)) (pi_list (pv 1)) (blkOk_by (own := [("_law_row", 15)]) (N := ["_law_pen_here", "_law_rows", "_law_lot", "_law_moments_here", "_law_names_here", "_law_others", "_law_moment_here", "_law_odd", "_law_spots", "_law_one", "_law_two", "_law_way", "_law_own", "_law_some", "_law_picked", "_law_row"]) (sc := defScope s__law_tried) (by decide +kernel)) (fun _ _ _ _ _ => pg_name (i := 15) sc__law_tried.nd rfl (Or.inl rfl)) (fun _ _ _ _ _ => (pts_one (pt_cmpR op_eq (pe_ix (ix_tupK K) (pv 15) pe_int (fun _ _ => rfl)) pe_str (nomark _)))) (fun _ _ _ _ _ => (pe_ix (ix_tupK K) (pv 15) pe_int (fun _ _ => rfl))))
      (C8.pss_cut (ps_set (i := 5) sc__law_tried.nd rfl (Or.inl rfl) (pe_op op_cat (pe_lc (own := [("_law_row", 15)]) (g := gName 15) (tt := tYes) rfl sc__law_tried.nd (pi_list (pv 1)) (blkOk_by (own := [("_law_row", 15)]) (N := ["_law_pen_here", "_law_rows", "_law_lot", "_law_moments_here", "_law_names_here", "_law_others", "_law_moment_here", "_law_odd", "_law_spots", "_law_one", "_law_two", "_law_way", "_law_own", "_law_some", "_law_picked", "_law_row"]) (sc := defScope s__law_tried) (by decide +kernel)) (fun _ _ _ _ _ => pg_name (i := 15) sc__law_tried.nd rfl (Or.inl rfl)) (fun _ _ _ _ _ => pts_nil) (fun _ _ _ _ _ => (pe_ix (ix_tupK K) (pv 15) pe_int (fun _ _ => rfl)))) (pv 3)))
      (C8.pss_cut (ps_set (i := 6) sc__law_tried.nd rfl (Or.inl rfl) (pe_ix ix_list (pe_lst (pa_cons (pe_ix ix_list (pv 3) (C8.pe_c c__law_draw hr (by decide) rfl (pa_cons (pv 0) (pa_cons (pe_callB call_len_seq (by rfl) m_len (by decide +kernel) (pa_cons (pv 3) pa_nil)) pa_nil))) (fun _ _ => rfl)) (pa_cons (pe_ix ix_list (pv 5) (C8.pe_c c__law_draw hr (by decide) rfl (pa_cons (pv 0) (pa_cons (pe_callB call_len_seq (by rfl) m_len (by decide +kernel) (pa_cons (pv 5) pa_nil)) pa_nil))) (fun _ _ => rfl)) pa_nil))) (pe_op op_fdiv (C8.pe_c c__law_draw hr (by decide) rfl (pa_cons (pv 0) (pa_cons pe_int pa_nil))) pe_int) (fun _ _ => rfl)))
      (C8.pss_cut (ps_set (i := 6) sc__law_tried.nd rfl (Or.inl rfl) (pe_ix ix_list (pe_lst (pa_cons (pv 6) (pa_cons (pv 6) (pa_cons (pv 6) (pa_cons (pe_tup (pa_cons (pe_ix ix_tup (pv 6) pe_int (fun _ _ => rfl)) (pa_cons pe_int pa_nil))) (pa_cons (pe_tup (pa_cons (pe_op op_sub (pe_op op_sub pe_int pe_int) (pe_ix ix_tup (pv 6) pe_int (fun _ _ => rfl))) (pa_cons (pe_ix ix_tup (pv 6) pe_int (fun _ _ => rfl)) pa_nil))) pa_nil)))))) (pe_op op_fdiv (C8.pe_c c__law_draw hr (by decide) rfl (pa_cons (pv 0) (pa_cons pe_int pa_nil))) pe_int) (fun _ _ => rfl)))
      (pss_cons (ps_set (i := 7) sc__law_tried.nd rfl (Or.inl rfl) (pe_lst (pa_cons pe_non (pa_cons pe_bl (pa_cons pe_int (pa_cons pe_str (pa_cons (pe_lst (pa_cons pe_int (pa_cons pe_int pa_nil))) (pa_cons (pe_tup (pa_cons pe_int pa_nil)) (pa_cons (pe_tup (pa_cons pe_bl (pa_cons pe_int pa_nil))) (pa_cons (pe_tup (pa_cons pe_int (pa_cons pe_bl pa_nil))) (pa_cons (pe_tup (pa_cons (pe_op op_add (pe_op op_pow pe_int pe_int) pe_int) (pa_cons pe_int pa_nil))) (pa_cons (pe_tup (pa_cons pe_int (pa_cons (pe_op op_add (pe_op op_pow pe_int pe_int) pe_int) pa_nil))) (pa_cons (pe_tup (pa_cons pe_int (pa_cons pe_int (pa_cons pe_int pa_nil)))) pa_nil)))))))))))))
      (C8.pss_cut (ps_set (i := 6) sc__law_tried.nd rfl (Or.inl rfl) (pe_ix ix_list (pe_lst (pa_cons (pv 6) (pa_cons (pe_ix ix_list (pv 7) (C8.pe_c c__law_draw hr (by decide) rfl (pa_cons (pv 0) (pa_cons pe_int pa_nil))) (fun _ _ => rfl)) pa_nil))) (pe_op op_fdiv (C8.pe_c c__law_draw hr (by decide) rfl (pa_cons (pv 0) (pa_cons pe_int pa_nil))) pe_int) (fun _ _ => rfl)))
      (pss_cons (ps_set (i := 8) sc__law_tried.nd rfl (Or.inl rfl) (pe_lst (pa_cons (pe_ix ix_list (pv 4) (C8.pe_c c__law_draw hr (by decide) rfl (pa_cons (pv 0) (pa_cons (pe_callB call_len_seq (by rfl) m_len (by decide +kernel) (pa_cons (pv 4) pa_nil)) pa_nil))) (fun _ _ => rfl)) (pa_cons (pe_ix ix_list (pv 5) (C8.pe_c c__law_draw hr (by decide) rfl (pa_cons (pv 0) (pa_cons (pe_callB call_len_seq (by rfl) m_len (by decide +kernel) (pa_cons (pv 5) pa_nil)) pa_nil))) (fun _ _ => rfl)) pa_nil))))
      (C8.pss_cut (ps_set (i := 9) sc__law_tried.nd rfl (Or.inr rfl) (pe_ix ix_list (pv 8) (pe_op op_fdiv (C8.pe_c c__law_draw hr (by decide) rfl (pa_cons (pv 0) (pa_cons pe_int pa_nil))) pe_int) (fun _ _ => rfl)))
      (pss_cons (ps_set (i := 8) sc__law_tried.nd rfl (Or.inl rfl) (pe_lst (pa_cons (pe_ix ix_list (pv 4) (C8.pe_c c__law_draw hr (by decide) rfl (pa_cons (pv 0) (pa_cons (pe_callB call_len_seq (by rfl) m_len (by decide +kernel) (pa_cons (pv 4) pa_nil)) pa_nil))) (fun _ _ => rfl)) (pa_cons (pe_ix ix_list (pv 5) (C8.pe_c c__law_draw hr (by decide) rfl (pa_cons (pv 0) (pa_cons (pe_callB call_len_seq (by rfl) m_len (by decide +kernel) (pa_cons (pv 5) pa_nil)) pa_nil))) (fun _ _ => rfl)) (pa_cons (pv 9) pa_nil)))))
      (C8.pss_cut (ps_set (i := 10) sc__law_tried.nd rfl (Or.inl rfl) (pe_ix ix_list (pv 8) (pe_op op_fdiv (C8.pe_c c__law_draw hr (by decide) rfl (pa_cons (pv 0) (pa_cons pe_int pa_nil))) pe_int) (fun _ _ => rfl)))
      (pss_cons (ps_set (i := 11) sc__law_tried.nd rfl (Or.inl rfl) (C8.pe_c c__law_draw hr (by decide) rfl (pa_cons (pv 0) (pa_cons pe_int pa_nil))))
      (pss_cons (ps_if (pt_cmpR op_eq (pv 11) pe_int (nomark _)) (pss_cons (ps_setLc (i := 12) (own := [("_law_row", 15)]) (g := gName 15) rfl sc__law_tried.nd rfl rfl (sw_true rfl rfl rfl (by decide +kernel)) (pi_list (pv 1)) (blkOk_by (own := [("_law_row", 15)]) (N := ["_law_pen_here", "_law_rows", "_law_lot", "_law_moments_here", "_law_names_here", "_law_others", "_law_moment_here", "_law_odd", "_law_spots", "_law_one", "_law_two", "_law_way", "_law_own", "_law_some", "_law_picked", "_law_row"]) (sc := defScope s__law_tried) (by decide +kernel)) (fun _ _ _ _ _ => pg_name (i := 15) sc__law_tried.nd rfl (Or.inl rfl)) (fun _ _ _ _ _ => (pts_one (PW.pt (pw_and (pt_cmpR (op_eqDK K hr.units) (pe_ix (ix_tupK K) (pv 15) pe_int (fun _ _ => rfl)) (pv 9) (nomark _)) (pw_and (pt_cmpR op_eq (pe_ix (ix_tupK K) (pv 15) pe_int (fun _ _ => rfl)) pe_str (nomark _)) (pw_and1 (pt_cmpR (op_neDK K hr.units) (pe_ix (ix_tupK K) (pv 15) pe_int (fun _ _ => rfl)) (pe_tup pa_nil) (nomark _)))))))) (fun _ _ _ _ _ => (pe_ix (ix_tupK K) (pv 15) pe_int (fun _ _ => rfl))))
      (pss_cons (ps_set (i := 13) sc__law_tried.nd rfl (Or.inl rfl) (pe_ifExp (pt_cmpR (op_neD hr.units) (pv 12) (pe_lst pa_nil) (nomark _)) (pe_ix ix_list (pv 12) pe_int (fun _ _ => rfl)) (pv 2)))
      (pss_cons (ps_set (i := 14) sc__law_tried.nd rfl (Or.inl rfl) (pe_lst (pa_cons (pe_ix ix_any (pv 13) (C8.pe_c c__law_draw hr (by decide) rfl (pa_cons (pv 0) (pa_cons (pe_callB call_len_seq (by rfl) m_len (by decide +kernel) (pa_cons (pv 13) pa_nil)) pa_nil))) (fun _ _ => rfl)) (pa_cons (pe_ix ix_list (pv 2) (C8.pe_c c__law_draw hr (by decide) rfl (pa_cons (pv 0) (pa_cons pe_int pa_nil))) (fun _ _ => rfl)) pa_nil))))
      (pss_one (ps_ret (pe_tup (pa_cons pe_str (pa_cons (pv 6) (pa_cons (pv 9) (pa_cons (pe_ix ix_list (pv 14) (pe_op op_fdiv (C8.pe_c c__law_draw hr (by decide) rfl (pa_cons (pv 0) (pa_cons pe_int pa_nil))) pe_int) (fun _ _ => rfl)) pa_nil)))))))))) pss_nil)
      (pss_one (ps_ret (pe_ifExp (pt_cmpR op_eq (pv 11) pe_int (nomark _)) (pe_tup (pa_cons pe_str (pa_cons (pv 6) (pa_cons (pv 9) (pa_cons (pe_cmpR op_eq (C8.pe_c c__law_draw hr (by decide) rfl (pa_cons (pv 0) (pa_cons pe_int pa_nil))) pe_int (nomark _)) pa_nil))))) (pe_tup (pa_cons pe_str (pa_cons (pv 6) (pa_cons (pv 9) (pa_cons (pv 10) pa_nil)))))))))))))))))))), ?_⟩
    obtain ⟨rx, hrx, rrx⟩ := id hra
    have hrl : rx.length = rs.length := by rw [rrx.len, List.length_map]
    refine ⟨_, rfl, ra, rfl, ⟨_, SqL.of hrx⟩, fun na hna => ?_⟩
    refine lc_list (K := K) (a := ra) (xs := rx) (fun j H' => Same H H' ∧ Ls H' na (((rs.take j).filter Row.isNm).map fun r => mD r.mo)) (pick_zero hna) (fun j H' _ q => SqL.of (q.1 _ _ hrx)) ?_ ?_
    · rintro j y H2 hj P2
      obtain ⟨r, hr, t0⟩ := data_at rrx hj
      obtain ⟨t, ys, rfl, ht, ry⟩ := Tp.inv (t0.to (TK.of P2.1))
      obtain ⟨v0, a0, t0'⟩ := Tp.at (K := K) ht ry r.ds0
      cases Tp.str_inv t0'
      obtain ⟨v1, a1, t1⟩ := Tp.at (K := K) ht ry r.ds1
      refine ⟨rfl, _, rfl, _, _, _, _, rfl, rfl, SqT.of ht, a0, rfl, _, rfl, ?_⟩
      rw [sort_dec]
      refine ite2 (fun z => ?_) (fun z => pick_no P2 hr (by cases r <;> first | exact absurd (decide_eq_true rfl) z | simp [Row.isNm]))
      have hn : r.isNm = true := by
        cases r with
        | nm => rfl
        | ch => exact absurd (of_decide_eq_true z) (by show ¬ ("choice" : Str) = "name"; decide +kernel)
        | st => exact absurd (of_decide_eq_true z) (by show ¬ ("strike" : Str) = "name"; decide +kernel)
        | ah => exact absurd (of_decide_eq_true z) (by show ¬ ("ahead" : Str) = "name"; decide +kernel)
      exact ⟨_, rfl, _, _, _, _, rfl, rfl, SqT.of ht, a1, pick_yes hna (by omega) P2 hr hn t1⟩
    rintro H1 ⟨s1, lsN⟩
    rw [hrl, List.take_length] at lsN
    have lsN : Ls H1 na ((nms rs).map mD) := by unfold nms; rw [List.map_map]; exact lsN
    refine ⟨fun σ' H' => ∃ oa, σ' = [some (.ref p), some (.ref ra), some (.ref la), some (.ref ma), some (.ref na), some (.ref oa), none, none, none, none, none, none, none, none, none, none] ∧ TCore H' p c b ra la ma na oa rs lot ms ∧ Kp p H H', ?_, ?_⟩
    · have hrx1 := s1 _ _ hrx
      have rrx1 := rrx.to (TK.of s1)
      refine ⟨_, rfl, ra, rfl, ⟨_, SqL.of hrx1⟩, fun D hD => ?_⟩
      refine lc_list (K := K) (a := ra) (xs := rx) (fun j H' => Same H1 H' ∧ Ls H' D (((rs.take j).filter fun _ => true).map fun r => mD r.mo)) (pick_zero hD) (fun j H' _ q => SqL.of (q.1 _ _ hrx1)) ?_ ?_
      · rintro j y H2 hj P2
        obtain ⟨r, hr, t0⟩ := data_at rrx1 hj
        obtain ⟨t, ys, rfl, ht, ry⟩ := Tp.inv (t0.to (TK.of P2.1))
        obtain ⟨v1, a1, t1⟩ := Tp.at (K := K) ht ry r.ds1
        exact ⟨rfl, _, rfl, _, _, _, _, rfl, rfl, SqT.of ht, a1, pick_yes hD (by omega) P2 hr rfl t1⟩
      rintro H2 ⟨s2, lsO⟩
      rw [hrl, List.take_length, List.filter_eq_self.mpr (fun _ _ => rfl)] at lsO
      obtain ⟨ox, hox, rox⟩ := lsO
      have s02 := s1.trans s2
      obtain ⟨mx, hmx, rmx⟩ := hma.to s02
      have l1 : ox.length = rs.length := by rw [rox.len, List.length_map]
      have l2 : mx.length = ms.length := by rw [rmx.len, List.length_map]
      refine ⟨_, rfl, D, ma, _, _, rfl, rfl, hox, hmx, by rw [l1, l2]; exact Nat.le_of_lt (small1000 (by omega)), fun oa hoa => ?_⟩
      have s3 := Same.new (o := .lst (ox ++ mx)) hoa
      have s03 := s02.trans s3
      refine ⟨oa, rfl, ⟨pen.to s03, hra.to s03, s03 _ _ hla, hma.to s03, (lsN.to s2).to s3, ?_⟩, Kp.of s03⟩
      refine ⟨_, upd_same, ?_⟩
      rw [List.map_append, List.map_map]
      exact (rox.to (TK.of s3)).app (rmx.to (TK.of s3))
    clear lsN s1 rrx hrx hrl hna rx
    rintro σ2 H1 ⟨oa, rfl, core, k1⟩
    have nml : (nms rs).length ≤ 500 := by unfold nms; rw [List.length_map]; exact Nat.le_trans (List.length_filter_le _ _) h500
    have nm1 : 1 ≤ (nms rs).length := by have := List.length_pos_iff.mpr hnm; omega
    have oal : (rs.map Row.mo ++ ms).length = rs.length + ms.length := by rw [List.length_append, List.length_map]
    have ook : ∀ m ∈ rs.map Row.mo ++ ms, MoOk m := fun m hm => by
      rcases List.mem_append.mp hm with h | h
      · obtain ⟨r, hr, rfl⟩ := List.mem_map.mp h; exact hok r hr
      · exact hmok m h
    have nok : ∀ m ∈ nms rs, MoOk m := fun m hm => by
      obtain ⟨r, hr, rfl⟩ := List.mem_map.mp (nms_sub hm); exact hok r hr
    -- a draw of a list of moments
    refine ⟨fun σ' H' => ∃ (am : Addr) (m : Mo), σ' = [some (.ref p), some (.ref ra), some (.ref la), some (.ref ma), some (.ref na), some (.ref oa), some (.ref am), none, none, none, none, none, none, none, none, none] ∧ TCore H' p c (b + 3) ra la ma na oa rs lot ms ∧ Kp p H H' ∧ H' am = some (.tup [.int m.1, .int m.2]) ∧ MoOk m, ?_, ?_⟩
    · obtain ⟨mx, hmx, lm⟩ := core.ma.ex
      rw [List.length_map] at lm
      refine ⟨_, rfl, _, rfl, _, rfl, _, _, rfl, .inl (SqL.of hmx), p, c, b, _, rfl, core.pen, by omega, by omega, by omega, fun H2 r2 k2 pen2 r20 r21 => ?_⟩
      have core2 := core.kp k2 pen2
      obtain ⟨mx2, b2, m2, hmx2, hb2, hm2, e2⟩ := mo_at core2.ma r20 (by omega)
      refine ⟨ma, _, _, _, rfl, rfl, SqL.of hmx2, hb2, ?_⟩
      obtain ⟨ox, hox, lo⟩ := core2.oa.ex
      rw [List.length_map] at lo
      refine ⟨_, rfl, _, rfl, _, rfl, _, _, rfl, .inl (SqL.of hox), p, c, _, _, rfl, pen2, by omega, by omega, by omega, fun H3 r3 k3 pen3 r30 r31 => ?_⟩
      have core3 := core2.kp k3 pen3
      obtain ⟨ox3, b3, m3, hox3, hb3, hm3, e3⟩ := mo_at core3.oa r30 (by omega)
      refine ⟨oa, _, _, _, rfl, rfl, SqL.of hox3, hb3, by show 2 ≤ sizeLine; decide, fun D hD => ?_⟩
      have s4 := Same.new (o := .lst [.ref b2, .ref b3]) hD
      have hD4 := upd_same (H := H3) (a := D) (o := .lst [.ref b2, .ref b3])
      generalize upd H3 D (.lst [.ref b2, .ref b3]) = H4 at s4 hD4 ⊢
      have core4 := core3.same s4
      refine ⟨_, rfl, p, c, _, 6, rfl, core4.pen, by omega, by decide, by decide, fun H5 r5 k5 pen5 r50 r51 => ?_⟩
      refine ⟨_, _, rfl, rfl, ⟨by decide, by decide⟩, ?_⟩
      have hD5 := k5 _ _ (core4.pen.ne hD4) hD4
      obtain ⟨v, hv, hvm⟩ := at_mem (xs := [V.ref b2, V.ref b3]) (r := r5 / 5) (by omega) (by show r5 / 5 < 2; omega)
      refine ⟨D, _, _, _, rfl, rfl, SqL.of hD5, hv, ?_⟩
      have core5 := core4.kp k5 pen5
      have kk : Kp p H H5 := k1.trans (k2.trans (k3.trans ((Kp.of s4).trans k5)))
      have t2 : H5 b2 = some (.tup [.int m2.1, .int m2.2]) := core4.pen.tk k5 _ _ (s4 _ _ (core2.pen.tk k3 _ _ e2))
      have t3 : H5 b3 = some (.tup [.int m3.1, .int m3.2]) := core4.pen.tk k5 _ _ (s4 _ _ e3)
      rcases List.mem_cons.mp hvm with rfl | hvm
      · exact ⟨b2, m2, rfl, core5.up (by omega), kk, t2, hmok m2 hm2⟩
      · rw [List.mem_singleton] at hvm
        subst hvm
        exact ⟨b3, m3, rfl, core5.up (by omega), kk, t3, ook m3 hm3⟩
    clear core k1
    rintro σ2 H1 ⟨am, m, rfl, core, k1, ham, hm⟩
    refine ⟨fun σ' H' => ∃ (v : V) (dd : PyData), σ' = [some (.ref p), some (.ref ra), some (.ref la), some (.ref ma), some (.ref na), some (.ref oa), some v, none, none, none, none, none, none, none, none, none] ∧ TCore H' p c (b + 4) ra la ma na oa rs lot ms ∧ Kp p H H' ∧ MoT H' v dd, ?_, ?_⟩
    · refine ⟨_, rfl, _, rfl, _, rfl, _, rfl, _, _, _, _, rfl, rfl, SqT.of ham, at_of (j := 0) rfl rfl, by show 2 ≤ sizeLine; decide, fun A1 h1 => ?_⟩
      have s1 := Same.new (o := .tup [.int m.1, .int 0]) h1
      have e1 := upd_same (H := H1) (a := A1) (o := .tup [.int m.1, .int 0])
      generalize upd H1 A1 (.tup [.int m.1, .int 0]) = H2 at s1 e1 ⊢
      refine ⟨_, _, rfl, rfl, _, rfl, _, _, _, _, rfl, rfl, SqT.of (s1 _ _ ham), at_of (j := 0) rfl rfl, _, _, rfl, rfl, _, rfl, _, _, _, _, rfl, rfl, SqT.of (s1 _ _ ham), at_of (j := 1) rfl rfl, by show 2 ≤ sizeLine; decide, fun A2 h2 => ?_⟩
      have s2 := Same.new (o := .tup [.int (0 - 1 - m.1), .int m.2]) h2
      have e2 := upd_same (H := H2) (a := A2) (o := .tup [.int (0 - 1 - m.1), .int m.2])
      generalize upd H2 A2 (.tup [.int (0 - 1 - m.1), .int m.2]) = H3 at s2 e2 ⊢
      refine ⟨by show 5 ≤ sizeLine; decide, fun D hD => ?_⟩
      have s3 := Same.new (o := .lst [.ref am, .ref am, .ref am, .ref A1, .ref A2]) hD
      have hD3 := upd_same (H := H3) (a := D) (o := .lst [.ref am, .ref am, .ref am, .ref A1, .ref A2])
      generalize upd H3 D (.lst [.ref am, .ref am, .ref am, .ref A1, .ref A2]) = H4 at s3 hD3 ⊢
      have s14 := (s1.trans s2).trans s3
      have core4 := core.same s14
      refine ⟨_, rfl, p, c, _, 9, rfl, core4.pen, by omega, by decide, by decide, fun H5 r5 k5 pen5 r50 r51 => ?_⟩
      refine ⟨_, _, rfl, rfl, ⟨by decide, by decide⟩, ?_⟩
      have hD5 := k5 _ _ (core4.pen.ne hD3) hD3
      obtain ⟨v, hv, hvm⟩ := at_mem (xs := [V.ref am, V.ref am, V.ref am, V.ref A1, V.ref A2]) (r := r5 / 2) (by omega) (by show r5 / 2 < 5; omega)
      refine ⟨D, _, _, _, rfl, rfl, SqL.of hD5, hv, ?_⟩
      have tk5 := core4.pen.tk k5
      have kk : Kp p H H5 := k1.trans ((Kp.of s14).trans k5)
      have q0 := MoT.m (tk5 _ _ (s14 _ _ ham)) hm
      have q1 := MoT.odd2 (tk5 _ _ (s3 _ _ (s2 _ _ e1))) (.inl rfl)
      have q2 := MoT.odd2 (tk5 _ _ (s3 _ _ e2)) (.inr (by have := hm.1; omega))
      have core5 := core4.kp k5 pen5
      simp only [List.mem_cons, List.not_mem_nil, or_false] at hvm
      rcases hvm with rfl | rfl | rfl | rfl | rfl
      · exact ⟨_, _, rfl, core5.up (by omega), kk, q0⟩
      · exact ⟨_, _, rfl, core5.up (by omega), kk, q0⟩
      · exact ⟨_, _, rfl, core5.up (by omega), kk, q0⟩
      · exact ⟨_, _, rfl, core5.up (by omega), kk, q1⟩
      · exact ⟨_, _, rfl, core5.up (by omega), kk, q2⟩
    clear core k1 ham hm
    rintro σ2 H1 ⟨v, dd, rfl, core, k1, mt⟩
    have one1 : ∀ {G : Hp}, Ob G (.int 1) (.int 1) := fun {G} => .int 1
    have tru1 : ∀ {G : Hp}, Ob G (.bl true) (.bool true) := fun {G} => .bl true
    have two : ∀ {x y : PyData}, flatN x = true → flatN y = true → ∀ z ∈ [x, y], flatN z = true := fun hx hy z hz => by
      rcases List.mem_cons.mp hz with rfl | hz
      · exact hx
      · rw [List.mem_singleton.mp hz]; exact hy
    refine ⟨by show 2 ≤ sizeLine; decide, fun a1 h1 => ?_⟩
    have s1 := Same.new (o := .lst [.int 1, .int 1]) h1
    have e1 := upd_same (H := H1) (a := a1) (o := .lst [.int 1, .int 1])
    generalize upd H1 a1 (.lst [.int 1, .int 1]) = H2 at s1 e1 ⊢
    refine ⟨by show 1 ≤ sizeLine; decide, fun a2 h2 => ?_⟩
    have s2 := Same.new (o := .tup [.int 1]) h2
    have e2 := upd_same (H := H2) (a := a2) (o := .tup [.int 1])
    generalize upd H2 a2 (.tup [.int 1]) = H3 at s2 e2 ⊢
    refine ⟨by show 2 ≤ sizeLine; decide, fun a3 h3 => ?_⟩
    have s3 := Same.new (o := .tup [.bl true, .int 1]) h3
    have e3 := upd_same (H := H3) (a := a3) (o := .tup [.bl true, .int 1])
    generalize upd H3 a3 (.tup [.bl true, .int 1]) = H4 at s3 e3 ⊢
    refine ⟨by show 2 ≤ sizeLine; decide, fun a4 h4 => ?_⟩
    have s4 := Same.new (o := .tup [.int 1, .bl true]) h4
    have e4 := upd_same (H := H4) (a := a4) (o := .tup [.int 1, .bl true])
    generalize upd H4 a4 (.tup [.int 1, .bl true]) = H5 at s4 e4 ⊢
    refine ⟨_, _, rfl, rfl, ⟨by decide, by decide, by decide⟩, _, _, rfl, rfl, by show 2 ≤ sizeLine; decide, fun a5 h5 => ?_⟩
    have pw : (10 : Int) ^ (12 : Int).toNat + 1 = 1000000000001 := by decide
    have s5 := Same.new (o := .tup [.int ((10 : Int) ^ (12 : Int).toNat + 1), .int 1]) h5
    have e5 := upd_same (H := H5) (a := a5) (o := .tup [.int ((10 : Int) ^ (12 : Int).toNat + 1), .int 1])
    generalize upd H5 a5 (.tup [.int ((10 : Int) ^ (12 : Int).toNat + 1), .int 1]) = H6 at s5 e5 ⊢
    refine ⟨_, _, rfl, rfl, ⟨by decide, by decide, by decide⟩, _, _, rfl, rfl, by show 2 ≤ sizeLine; decide, fun a6 h6 => ?_⟩
    have s6 := Same.new (o := .tup [.int 1, .int ((10 : Int) ^ (12 : Int).toNat + 1)]) h6
    have e6 := upd_same (H := H6) (a := a6) (o := .tup [.int 1, .int ((10 : Int) ^ (12 : Int).toNat + 1)])
    generalize upd H6 a6 (.tup [.int 1, .int ((10 : Int) ^ (12 : Int).toNat + 1)]) = H7 at s6 e6 ⊢
    rw [pw] at e5 e6
    refine ⟨by show 3 ≤ sizeLine; decide, fun a7 h7 => ?_⟩
    have s7 := Same.new (o := .tup [.int 1, .int 1, .int 1]) h7
    have e7 := upd_same (H := H7) (a := a7) (o := .tup [.int 1, .int 1, .int 1])
    generalize upd H7 a7 (.tup [.int 1, .int 1, .int 1]) = H8 at s7 e7 ⊢
    refine ⟨by show 11 ≤ sizeLine; decide, fun od hod => ?_⟩
    have s8 := Same.new (o := .lst [.non, .bl true, .int 0, .str "", .ref a1, .ref a2, .ref a3, .ref a4, .ref a5, .ref a6, .ref a7]) hod
    have e8 := upd_same (H := H8) (a := od) (o := .lst [.non, .bl true, .int 0, .str "", .ref a1, .ref a2, .ref a3, .ref a4, .ref a5, .ref a6, .ref a7])
    generalize hL : [V.non, V.bl true, V.int 0, V.str "", V.ref a1, V.ref a2, V.ref a3, V.ref a4, V.ref a5, V.ref a6, V.ref a7] = L at s8 e8 ⊢
    generalize upd H8 od (.lst L) = H9 at s8 e8 ⊢
    have u7 := s7.trans s8
    have u6 := s6.trans u7
    have u5 := s5.trans u6
    have u4 := s4.trans u5
    have u3 := s3.trans u4
    have u2 := s2.trans u3
    have u1 := s1.trans u2
    have odd : ∀ u ∈ L, ∃ d, MoT H9 u d := fun u hu => by
      rw [← hL] at hu
      simp only [List.mem_cons, List.not_mem_nil, or_false] at hu
      rcases hu with rfl | rfl | rfl | rfl | rfl | rfl | rfl | rfl | rfl | rfl | rfl
      · exact ⟨_, MoT.no .non (fun _ e => by cases e) rfl rfl (by decide)⟩
      · exact ⟨_, MoT.no (.bl true) (fun _ e => by cases e) rfl rfl (by decide)⟩
      · exact ⟨_, MoT.no (.int 0) (fun _ e => by cases e) rfl rfl (by decide)⟩
      · exact ⟨_, MoT.no (.str "" ⟨by decide +kernel, by decide +kernel⟩) (fun _ e => by cases e) rfl (by decide +kernel) (by decide)⟩
      · exact ⟨_, MoT.no (.lst (u2 _ _ e1) (.cons one1 (.cons one1 .nil))) (fun _ e => by cases e) rfl (by decide) (by decide)⟩
      · exact ⟨_, MoT.tup (u3 _ _ e2) (.cons one1 .nil) (fun z hz => by rw [List.mem_singleton.mp hz]; rfl) rfl⟩
      · exact ⟨_, MoT.tup (u4 _ _ e3) (.cons tru1 (.cons one1 .nil)) (two rfl rfl) rfl⟩
      · exact ⟨_, MoT.tup (u5 _ _ e4) (.cons one1 (.cons tru1 .nil)) (two rfl rfl) rfl⟩
      · exact ⟨_, MoT.tup (u6 _ _ e5) (.cons (.int _) (.cons one1 .nil)) (two rfl rfl) (by decide)⟩
      · exact ⟨_, MoT.tup (u7 _ _ e6) (.cons one1 (.cons (.int _) .nil)) (two rfl rfl) (by decide)⟩
      · exact ⟨_, MoT.tup (s8 _ _ e7) (.cons one1 (.cons one1 (.cons one1 .nil))) (fun z hz => by simp at hz; rw [hz]; rfl) rfl⟩
    have hLl : L.length = 11 := by rw [← hL]; rfl
    replace core := core.same u1
    replace k1 := k1.trans (Kp.of u1)
    replace mt := mt.to (Ke.of u1)
    clear one1 tru1 two s1 s2 s3 s4 s5 s6 s7 s8 u1 u2 u3 u4 u5 u6 u7 e1 e2 e3 e4 e5 e6 e7 pw hL h1 h2 h3 h4 h5 h6 h7 hod
    clear a1 a2 a3 a4 a5 a6 a7 H1 H2 H3 H4 H5 H6 H7 H8
    refine ⟨fun σ' H' => ∃ (v : V) (dd : PyData) (x7 : Option V), σ' = [some (.ref p), some (.ref ra), some (.ref la), some (.ref ma), some (.ref na), some (.ref oa), some v, x7, none, none, none, none, none, none, none, none] ∧ TCore H' p c (b + 6) ra la ma na oa rs lot ms ∧ Kp p H H' ∧ MoT H' v dd, ?_, ?_⟩
    · refine ⟨_, rfl, _, rfl, _, rfl, p, c, _, 11, rfl, core.pen, by omega, by decide, by decide, fun H2 r2 k2 pen2 r20 r21 => ?_⟩
      have e8' := k2 _ _ (core.pen.ne e8) e8
      obtain ⟨u, hu, hum⟩ := at_mem (xs := L) (r := r2) r20 (by omega)
      obtain ⟨du, mu⟩ := odd u hum
      refine ⟨od, _, _, _, rfl, rfl, SqL.of e8', hu, by show 2 ≤ sizeLine; decide, fun D hD => ?_⟩
      have core2 := core.kp k2 pen2
      have s3 := Same.new (o := .lst [v, u]) hD
      have hD3 := upd_same (H := H2) (a := D) (o := .lst [v, u])
      generalize upd H2 D (.lst [v, u]) = H3 at s3 hD3 ⊢
      have core3 := core2.same s3
      refine ⟨_, rfl, p, c, _, 9, rfl, core3.pen, by omega, by decide, by decide, fun H5 r5 k5 pen5 r50 r51 => ?_⟩
      refine ⟨_, _, rfl, rfl, ⟨by decide, by decide⟩, ?_⟩
      have hD5 := k5 _ _ (core3.pen.ne hD3) hD3
      obtain ⟨x, hv, hvm⟩ := at_mem (xs := [v, u]) (r := r5 / 8) (by omega) (by show r5 / 8 < 2; omega)
      refine ⟨D, _, _, _, rfl, rfl, SqL.of hD5, hv, ?_⟩
      have ke5 := (k2.ke core.pen).trans ((Ke.of s3).trans (k5.ke core3.pen))
      have kk : Kp p H H5 := k1.trans (k2.trans ((Kp.of s3).trans k5))
      have core5 := core3.kp k5 pen5
      rcases List.mem_cons.mp hvm with rfl | hvm
      · exact ⟨_, _, _, rfl, core5.up (by omega), kk, mt.to ke5⟩
      · rw [List.mem_singleton] at hvm
        subst hvm
        exact ⟨_, _, _, rfl, core5.up (by omega), kk, mu.to ke5⟩
    clear odd e8 hLl core k1 mt
    rintro σ2 H1 ⟨v, dd, x7, rfl, core, k1, mt⟩
    obtain ⟨nx, hnx, ln⟩ := core.na.ex
    rw [List.length_map] at ln
    refine ⟨_, rfl, _, rfl, _, rfl, _, _, rfl, .inl (SqL.of hnx), p, c, _, _, rfl, core.pen, by omega, by omega, by omega, fun H2 r2 k2 pen2 r20 r21 => ?_⟩
    have core2 := core.kp k2 pen2
    obtain ⟨nx2, b2, m2, hnx2, hb2, hm2, e2⟩ := mo_at core2.na r20 (by omega)
    refine ⟨na, _, _, _, rfl, rfl, SqL.of hnx2, hb2, ?_⟩
    obtain ⟨ox, hox, lo⟩ := core2.oa.ex
    rw [List.length_map] at lo
    refine ⟨_, rfl, _, rfl, _, rfl, _, _, rfl, .inl (SqL.of hox), p, c, _, _, rfl, pen2, by omega, by omega, by omega, fun H3 r3 k3 pen3 r30 r31 => ?_⟩
    have core3 := core2.kp k3 pen3
    obtain ⟨ox3, b3, m3, hox3, hb3, hm3, e3⟩ := mo_at core3.oa r30 (by omega)
    refine ⟨oa, _, _, _, rfl, rfl, SqL.of hox3, hb3, by show 2 ≤ sizeLine; decide, fun D hD => ?_⟩
    have s4 := Same.new (o := .lst [.ref b2, .ref b3]) hD
    have hD4 := upd_same (H := H3) (a := D) (o := .lst [.ref b2, .ref b3])
    generalize upd H3 D (.lst [.ref b2, .ref b3]) = H4 at s4 hD4 ⊢
    have core4 := core3.same s4
    have t2 : H4 b2 = some (.tup [.int m2.1, .int m2.2]) := s4 _ _ (core2.pen.tk k3 _ _ e2)
    have t3 : H4 b3 = some (.tup [.int m3.1, .int m3.2]) := s4 _ _ e3
    have mt4 := mt.to ((k2.ke core.pen).trans ((k3.ke core2.pen).trans (Ke.of s4)))
    have kk4 : Kp p H H4 := k1.trans (k2.trans (k3.trans (Kp.of s4)))
    clear hnx hb2 hox hb3 hox3 hnx2 e2 e3 core3 core2 core mt k1
    refine ⟨fun σ' H' => ∃ (x7 x8 : Option V) (an : Addr) (n : Mo), σ' = [some (.ref p), some (.ref ra), some (.ref la), some (.ref ma), some (.ref na), some (.ref oa), some v, x7, x8, some (.ref an), none, none, none, none, none, none] ∧ TCore H' p c (b + 9) ra la ma na oa rs lot ms ∧ Kp p H H' ∧ MoT H' v dd ∧ H' an = some (.tup [.int n.1, .int n.2]), ?_, ?_⟩
    · refine ⟨_, rfl, _, rfl, p, c, _, 5, rfl, core4.pen, by omega, by decide, by decide, fun H5 r5 k5 pen5 r50 r51 => ?_⟩
      refine ⟨_, _, rfl, rfl, ⟨by decide, by decide⟩, ?_⟩
      have hD5 := k5 _ _ (core4.pen.ne hD4) hD4
      obtain ⟨x, hv, hvm⟩ := at_mem (xs := [V.ref b2, V.ref b3]) (r := r5 / 4) (by omega) (by show r5 / 4 < 2; omega)
      refine ⟨D, _, _, _, rfl, rfl, SqL.of hD5, hv, ?_⟩
      have core5 := core4.kp k5 pen5
      have mt5 := mt4.to (k5.ke core4.pen)
      rcases List.mem_cons.mp hvm with rfl | hvm
      · exact ⟨_, _, b2, m2, rfl, core5.up (by omega), kk4.trans k5, mt5, core4.pen.tk k5 _ _ t2⟩
      · rw [List.mem_singleton] at hvm
        subst hvm
        exact ⟨_, _, b3, m3, rfl, core5.up (by omega), kk4.trans k5, mt5, core4.pen.tk k5 _ _ t3⟩
    clear hD4 core4 t2 t3 mt4 kk4 hD s4 k2 k3 pen2 pen3
    rintro σ2 H1 ⟨x7, x8, an, n, rfl, core, k1, mt, han⟩
    obtain ⟨nx, hnx, ln⟩ := core.na.ex
    rw [List.length_map] at ln
    refine ⟨_, rfl, _, rfl, _, rfl, _, _, rfl, .inl (SqL.of hnx), p, c, _, _, rfl, core.pen, by omega, by omega, by omega, fun H2 r2 k2 pen2 r20 r21 => ?_⟩
    have core2 := core.kp k2 pen2
    obtain ⟨nx2, b2, m2, hnx2, hb2, hm2, e2⟩ := mo_at core2.na r20 (by omega)
    refine ⟨na, _, _, _, rfl, rfl, SqL.of hnx2, hb2, ?_⟩
    obtain ⟨ox, hox, lo⟩ := core2.oa.ex
    rw [List.length_map] at lo
    refine ⟨_, rfl, _, rfl, _, rfl, _, _, rfl, .inl (SqL.of hox), p, c, _, _, rfl, pen2, by omega, by omega, by omega, fun H3 r3 k3 pen3 r30 r31 => ?_⟩
    have core3 := core2.kp k3 pen3
    obtain ⟨ox3, b3, m3, hox3, hb3, hm3, e3⟩ := mo_at core3.oa r30 (by omega)
    have han3 := core2.pen.tk k3 _ _ (core.pen.tk k2 _ _ han)
    refine ⟨oa, _, _, _, rfl, rfl, SqL.of hox3, hb3, _, rfl, by show 3 ≤ sizeLine; decide, fun D hD => ?_⟩
    have s4 := Same.new (o := .lst [.ref b2, .ref b3, .ref an]) hD
    have hD4 := upd_same (H := H3) (a := D) (o := .lst [.ref b2, .ref b3, .ref an])
    generalize upd H3 D (.lst [.ref b2, .ref b3, .ref an]) = H4 at s4 hD4 ⊢
    have core4 := core3.same s4
    have t2 : H4 b2 = some (.tup [.int m2.1, .int m2.2]) := s4 _ _ (core2.pen.tk k3 _ _ e2)
    have t3 : H4 b3 = some (.tup [.int m3.1, .int m3.2]) := s4 _ _ e3
    have han4 := s4 _ _ han3
    have mt4 := mt.to ((k2.ke core.pen).trans ((k3.ke core2.pen).trans (Ke.of s4)))
    have kk4 : Kp p H H4 := k1.trans (k2.trans (k3.trans (Kp.of s4)))
    clear hnx hb2 hox hb3 hox3 hnx2 e2 e3 core3 core2 core mt k1
    refine ⟨fun σ' H' => ∃ (x7 x8 : Option V) (ao : Addr) (o : Mo), σ' = [some (.ref p), some (.ref ra), some (.ref la), some (.ref ma), some (.ref na), some (.ref oa), some v, x7, x8, some (.ref an), some (.ref ao), none, none, none, none, none] ∧ TCore H' p c (b + 12) ra la ma na oa rs lot ms ∧ Kp p H H' ∧ MoT H' v dd ∧ H' an = some (.tup [.int n.1, .int n.2]) ∧ H' ao = some (.tup [.int o.1, .int o.2]), ?_, ?_⟩
    · refine ⟨_, rfl, _, rfl, p, c, _, 7, rfl, core4.pen, by omega, by decide, by decide, fun H5 r5 k5 pen5 r50 r51 => ?_⟩
      refine ⟨_, _, rfl, rfl, ⟨by decide, by decide⟩, ?_⟩
      have hD5 := k5 _ _ (core4.pen.ne hD4) hD4
      obtain ⟨x, hv, hvm⟩ := at_mem (xs := [V.ref b2, V.ref b3, V.ref an]) (r := r5 / 3) (by omega) (by show r5 / 3 < 3; omega)
      refine ⟨D, _, _, _, rfl, rfl, SqL.of hD5, hv, ?_⟩
      have core5 := core4.kp k5 pen5
      have mt5 := mt4.to (k5.ke core4.pen)
      have han5 := core4.pen.tk k5 _ _ han4
      simp only [List.mem_cons, List.not_mem_nil, or_false] at hvm
      rcases hvm with rfl | rfl | rfl
      · exact ⟨_, _, b2, m2, rfl, core5.up (by omega), kk4.trans k5, mt5, han5, core4.pen.tk k5 _ _ t2⟩
      · exact ⟨_, _, b3, m3, rfl, core5.up (by omega), kk4.trans k5, mt5, han5, core4.pen.tk k5 _ _ t3⟩
      · exact ⟨_, _, an, n, rfl, core5.up (by omega), kk4.trans k5, mt5, han5, han5⟩
    clear hD4 core4 t2 t3 mt4 kk4 hD s4 k2 k3 pen2 pen3 han han3 han4
    rintro σ2 H1 ⟨x7, x8, ao, o, rfl, core, k1, mt, han, hao⟩
    refine ⟨_, rfl, p, c, _, 3, rfl, core.pen, by omega, by decide, by decide, fun H2 r2 k2 pen2 r20 r21 => ?_⟩
    have core2 := core.kp k2 pen2
    have mt2 := mt.to (k2.ke core.pen)
    have han2 := core.pen.tk k2 _ _ han
    have hao2 := core.pen.tk k2 _ _ hao
    have kk2 := k1.trans k2
    clear core mt k1 han hao k2
    refine ⟨_, rfl, rfl, _, rfl, ?_⟩
    rw [int_dec]
    by_cases hw0 : r2 = 0
    · rw [decide_eq_true hw0]
      refine iteT ?_
      obtain ⟨rx, hrx, rrx⟩ := core2.ra
      have hrl : rx.length = rs.length := by rw [rrx.len, List.length_map]
      refine ⟨_, rfl, ra, rfl, ⟨_, SqL.of hrx⟩, fun D hD => ?_⟩
      refine lc_list (K := K) (a := ra) (xs := rx) (fun j H' => Same H2 H' ∧ Ls H' D (((rs.take j).filter fun r => decide (r.mo = n) && ownB r).map ssD)) (pick_zero hD) (fun j H' _ q => SqL.of (q.1 _ _ hrx)) ?_ ?_
      · rintro j y H3 hj P3
        obtain ⟨r, hr, t0⟩ := data_at rrx hj
        obtain ⟨t, ys, rfl, ht, ry⟩ := Tp.inv (t0.to (TK.of P3.1))
        obtain ⟨v0, a0, t0'⟩ := Tp.at (K := K) ht ry r.ds0
        cases Tp.str_inv t0'
        obtain ⟨v1, a1, t1⟩ := Tp.at (K := K) ht ry r.ds1
        refine ⟨rfl, _, rfl, _, _, _, _, rfl, rfl, SqT.of ht, a1, _, rfl, _, _, t1.d, (Tp.mo (P3.1 _ _ han2)).d, shaped_m _, shaped_m _, _, rfl, ?_⟩
        rw [eqv_m]
        refine ite2 (fun z1 => ?_) (fun z1 => pick_no P3 hr (by rw [Bool.and_eq_true]; exact fun z => z1 z.1))
        refine ⟨_, rfl, _, _, _, _, rfl, rfl, SqT.of ht, a0, rfl, _, rfl, ?_⟩
        rw [sort_dec]
        refine ite2 (fun z2 => ?_) (fun z2 => pick_no P3 hr (by cases r <;> first | exact absurd (decide_eq_true rfl) z2 | simp [ownB]))
        cases r with
        | nm rm rk ws ss lk =>
          obtain ⟨v4, a4, t4⟩ := Tp.at (K := K) (i := 4) (d := .tuple (ss.map PyData.str)) ht ry rfl
          refine ⟨_, rfl, _, _, _, _, rfl, rfl, SqT.of ht, a4, Nat.zero_le _, fun Z hZ => ?_⟩
          have sZ : Same H3 (upd H3 Z (.tup [])) := Same.new hZ
          have tZ : Tp (upd H3 Z (.tup [])) (.ref Z) (.tuple []) := .tup upd_same .nil
          generalize (upd H3 Z (.tup [])) = H4 at sZ tZ
          have P4 : Same H2 H4 ∧ Ls H4 D (((rs.take j).filter fun r => decide (r.mo = n) && ownB r).map ssD) := ⟨P3.1.trans sZ, P3.2.to sZ⟩
          have wss : ∀ w ∈ ss, IsW w := (hw _ (List.mem_of_getElem? hr)).2.2.1
          refine ⟨_, _, (t4.to (TK.of sZ)).d, tZ.d, shaped_ws wss, rfl, _, rfl, ?_⟩
          rw [strs_nil]
          by_cases hss : ss = []
          · rw [decide_eq_true hss]
            exact iteF (pick_no P4 hr (by simp [ownB, hss]))
          · rw [decide_eq_false hss]
            refine iteT ⟨_, rfl, _, _, _, _, rfl, rfl, SqT.of (sZ _ _ ht), a4, ?_⟩
            exact pick_yes hD (by omega) P4 hr (by rw [z1]; simp [ownB, hss]) (t4.to (TK.of sZ))
        | ch => exact absurd (of_decide_eq_true z2) (by show ¬ ("choice" : Str) = "name"; decide +kernel)
        | st => exact absurd (of_decide_eq_true z2) (by show ¬ ("strike" : Str) = "name"; decide +kernel)
        | ah => exact absurd (of_decide_eq_true z2) (by show ¬ ("ahead" : Str) = "name"; decide +kernel)
      rintro H3 ⟨s3, lsD⟩
      rw [hrl, List.take_length] at lsD
      have allO : ∀ r ∈ rs.filter (fun r => decide (r.mo = n) && ownB r), ∃ ss, ssD r = .tuple (ss.map PyData.str) ∧ ss ≠ [] ∧ (∀ w ∈ ss, IsW w) ∧ ss.length ≤ 60 := fun r hr => by
        obtain ⟨h1, h2⟩ := List.mem_filter.mp hr
        rw [Bool.and_eq_true] at h2
        cases r with
        | nm rm rk ws ss lk => exact ⟨ss, rfl, by simpa [ownB] using h2.2, (hw _ h1).2.2.1, (hw _ h1).2.2.2⟩
        | _ => cases h2.2
      generalize rs.filter (fun r => decide (r.mo = n) && ownB r) = Y at lsD allO
      have core3 := core2.same s3
      refine ⟨_, rfl, Nat.zero_le _, fun Z hZ => ?_⟩
      have sZ : Same H3 (upd H3 Z (.lst [])) := Same.new hZ
      have lsZ : Ls (upd H3 Z (.lst [])) Z [] := ⟨_, upd_same, .nil⟩
      generalize (upd H3 Z (.lst [])) = H4 at sZ lsZ
      have core4 := core3.same sZ
      have lsD := lsD.to sZ
      have shD : SeqAt.shaped (.list (Y.map ssD)) = true := shaped_list fun d hd => by
        obtain ⟨r, hr, rfl⟩ := List.mem_map.mp hd
        obtain ⟨ss, e, _, h2, _⟩ := allO r hr
        rw [e]
        exact ⟨okD_ws h2, by have := depth_ws ss; omega⟩
      refine ⟨_, _, lsD.dp, lsZ.dp, shD, rfl, _, rfl, ?_⟩
      rw [ssD_nil]
      have s24 := s3.trans sZ
      apply shareV (S := fun x => ∃ (a : Addr) (ss : List Str), x = .ref a ∧ (H4 a = some (.tup (ss.map V.str)) ∨ H4 a = some (.lst (ss.map V.str))) ∧ ss ≠ [] ∧ (∀ w ∈ ss, IsW w) ∧ ss.length ≤ 60)
      · intro cc
        by_cases hY : ¬ Y = []
        · rw [decide_eq_false hY]
          refine iteT ?_
          obtain ⟨r0, Y', eY⟩ := List.exists_cons_of_ne_nil hY
          obtain ⟨dx, hdx, rdx⟩ := id lsD
          rw [eY] at rdx
          obtain ⟨ss, e, h1, h2, h3⟩ := allO r0 (by rw [eY]; exact List.mem_cons_self)
          obtain ⟨x0, hx0, tx0⟩ := rdx.get (i := 0) (d := ssD r0) rfl
          rw [e] at tx0
          obtain ⟨sa, zs, ex, hsa, rzs⟩ := Tp.inv tx0
          have ez : zs = ss.map V.str := TpAll.of_strs rzs
          refine ⟨_, rfl, D, _, _, _, rfl, rfl, SqL.of hdx, at_of (j := 0) rfl hx0, ?_⟩
          exact cc x0 ⟨sa, ss, ex, .inl (by rw [← ez]; exact hsa), h1, h2, h3⟩
        · rw [decide_eq_true (Classical.not_not.mp hY)]
          refine iteF ⟨_, rfl, ?_⟩
          refine cc _ ⟨la, lot, rfl, .inr core4.la, (fun z => by rw [z] at hl6; cases hl6), hlw, by omega⟩
      rintro _ ⟨sa, ss, rfl, hsa, hs0, hsw, hs60⟩
      have hpos : 0 < ss.length := List.length_pos_iff.mpr hs0
      have sqs : SqL (cxOf CX0 P w K mg base ["_law_pen_here", "_law_rows", "_law_lot", "_law_moments_here", "_law_names_here", "_law_others", "_law_moment_here", "_law_odd", "_law_spots", "_law_one", "_law_two", "_law_way", "_law_own", "_law_some", "_law_picked", "_law_row"] "_law_tried" (defScope s__law_tried) f cdv A outer s H E).nox.K H4 sa (ss.map V.str) ∨ SqT (cxOf CX0 P w K mg base ["_law_pen_here", "_law_rows", "_law_lot", "_law_moments_here", "_law_names_here", "_law_others", "_law_moment_here", "_law_odd", "_law_spots", "_law_one", "_law_two", "_law_way", "_law_own", "_law_some", "_law_picked", "_law_row"] "_law_tried" (defScope s__law_tried) f cdv A outer s H E).nox.K H4 sa (ss.map V.str) := by
        rcases hsa with h | h
        · exact .inr (SqT.of h)
        · exact .inl (SqL.of h)
      refine ⟨_, rfl, _, rfl, _, rfl, _, _, rfl, sqs, p, c, _, _, rfl, core4.pen, by omega, by rw [List.length_map]; omega, by rw [List.length_map]; omega, fun H5 r5 k5 pen5 r50 r51 => ?_⟩
      rw [List.length_map] at r51
      have hsa5 : H5 sa = some (.tup (ss.map V.str)) ∨ H5 sa = some (.lst (ss.map V.str)) := by
        rcases hsa with h | h
        · exact .inl (core4.pen.tk k5 _ _ h)
        · exact .inr (k5 _ _ (core4.pen.ne h) h)
      have core5 := core4.kp k5 pen5
      have hz5 : ss.getD r5.toNat "" ∈ ss := List.mem_of_getElem? (getD_some ("" : Str) (by omega))
      have hat5 := str_at r50 r51
      generalize ss.getD r5.toNat "" = z5 at hz5 hat5
      refine ⟨sa, _, _, _, rfl, rfl, hsa5.elim (fun h => .inr (SqT.of h)) (fun h => .inl (SqL.of h)), hat5, ?_⟩
      refine ⟨_, rfl, _, rfl, p, c, _, 6, rfl, pen5, by omega, by decide, by decide, fun H6 r6 k6 pen6 r60 r61 => ?_⟩
      have core6 := core5.kp k6 pen6
      have hz6 : lot.getD r6.toNat "" ∈ lot := List.mem_of_getElem? (getD_some ("" : Str) (by omega))
      have hat6 := str_at (ss := lot) r60 (by omega)
      generalize lot.getD r6.toNat "" = z6 at hz6 hat6
      refine ⟨la, _, _, _, rfl, rfl, SqL.of core6.la, hat6, by show 2 ≤ sizeLine; decide, fun D2 hD2 => ?_⟩
      have s7 := Same.new (o := .lst [.str z5, .str z6]) hD2
      have hD7 := upd_same (H := H6) (a := D2) (o := .lst [.str z5, .str z6])
      generalize upd H6 D2 (.lst [.str z5, .str z6]) = H7 at s7 hD7 ⊢
      have core7 := core6.same s7
      refine ⟨_, rfl, _, rfl, _, rfl, _, rfl, p, c, _, 4, rfl, core7.pen, by omega, by decide, by decide, fun H8 r8 k8 pen8 r80 r81 => ?_⟩
      refine ⟨_, _, rfl, rfl, ⟨by decide, by decide⟩, ?_⟩
      have hD8 := k8 _ _ (core7.pen.ne hD7) hD7
      obtain ⟨x, hv, hvm⟩ := at_mem (xs := [V.str z5, V.str z6]) (r := r8 / 3) (by omega) (by show r8 / 3 < 2; omega)
      refine ⟨D2, _, _, _, rfl, rfl, SqL.of hD8, hv, by show 4 ≤ sizeLine; decide, fun t ht => ?_⟩
      obtain ⟨z, rfl, hz⟩ : ∃ z, x = .str z ∧ IsW z := by
        rcases List.mem_cons.mp hvm with rfl | h
        · exact ⟨_, rfl, hsw _ hz5⟩
        · rw [List.mem_singleton] at h; subst h; exact ⟨_, rfl, hlw _ hz6⟩
      have s9 := Same.new (o := .tup [.str "choice", v, .ref an, .str z]) ht
      have kk8 : Kp p H2 H8 := (Kp.of s24).trans (k5.trans (k6.trans ((Kp.of s7).trans k8)))
      have kk9 := kk8.trans (Kp.of s9)
      have mt9 := mt2.to (kk9.ke core2.pen)
      exact go _ t v an _ dd n (.ch z) (kk2.trans kk9) ((pen8.to s9).up (by omega)) ⟨upd_same, mt9.ob, core2.pen.tk kk9 _ _ han2, .str z, ob_w hz⟩ mt9 (fun z' hz' => by cases hz'; exact hz)
    · rw [decide_eq_false hw0]
      refine iteF ?_
      refine ⟨_, rfl, rfl, _, rfl, ?_⟩
      rw [int_dec]
      by_cases hw1 : r2 = 1
      · rw [decide_eq_true hw1]
        refine iteT ⟨_, rfl, _, rfl, _, rfl, p, c, _, 2, rfl, core2.pen, by omega, by decide, by decide, fun H3 r3 k3 pen3 r30 r31 => ?_⟩
        refine ⟨rfl, by show 4 ≤ sizeLine; decide, fun t ht => ?_⟩
        have s4 := Same.new (o := .tup [.str "strike", v, .ref an, .bl (decide (V.int r3 = V.int 1))]) ht
        have core3 := core2.kp k3 pen3
        have han3 := core2.pen.tk k3 _ _ han2
        refine go _ t v an _ dd n (.st (decide (V.int r3 = V.int 1))) (kk2.trans (k3.trans (Kp.of s4))) ((pen3.to s4).up (by omega)) ⟨upd_same, (mt2.to ((k3.ke core2.pen).trans (Ke.of s4))).ob, s4 _ _ han3, .bl _, .bl _⟩ (mt2.to ((k3.ke core2.pen).trans (Ke.of s4))) (fun z hz => by cases hz)
      · rw [decide_eq_false hw1]
        refine iteF ⟨_, rfl, _, rfl, _, rfl, by show 4 ≤ sizeLine; decide, fun t ht => ?_⟩
        have s4 := Same.new (o := .tup [.str "ahead", v, .ref an, .ref ao]) ht
        refine go _ t v an _ dd n (.ah o) (kk2.trans (Kp.of s4)) ((core2.pen.to s4).up (by omega)) ⟨upd_same, (mt2.to (Ke.of s4)).ob, s4 _ _ han2, Tp.mo (s4 _ _ hao2), ob_mo (s4 _ _ hao2)⟩ (mt2.to (Ke.of s4)) (fun z hz => by cases hz)
end
end KN


set_option Elab.async false
set_option linter.all false
set_option maxRecDepth 100000
set_option maxHeartbeats 4000000
/-! sorted(rows, key=lambda one: one[1]) of rows by moments. -/
namespace KN
open PySem PySem.Spec PyProof.Rows L2 LamX
/-- a row with its moment, as the key sees it -/
def KeyRow (H : Hp) (x : V) (m : Mo) : Prop := ∃ (t b : Addr) (ys : List V), x = .ref t ∧ H t = some (.tup ys) ∧ ys[1]? = some (.ref b) ∧ H b = some (.tup [.int m.1, .int m.2])
/-- the values with what stands for them -/
def KR (H : Hp) (v : Value) (x : V × Mo) : Prop := RelV x.1 v ∧ KeyRow H x.1 x.2
theorem each_of {H : Hp} : ∀ {xs : List V} {its : List Value} {ms : List Mo}, Vals xs its → PySem.Paired (KeyRow H) xs ms → PySem.W.EachIs (KR H) its (xs.zip ms)
  | _, _, _, .nil, .nil => .nil
  | _, _, _, .cons r rs, .cons h hs => .cons ⟨r, h⟩ (each_of rs hs)
theorem vals_of {H : Hp} : ∀ {out : List Value} {qs : List (V × Mo)}, PySem.W.EachIs (KR H) out qs → Vals (qs.map Prod.fst) out
  | _, _, .nil => .nil
  | _, _, .cons h hs => .cons h.1 (vals_of hs)
def kD (x : V × Mo) : PyData := .tuple [.int x.2.1, .int x.2.2]
def tSortLam (T : List (Addr × Str)) (ta : TA) : TE := fun σ H Q => ta σ H fun vs H1 => ∃ (a : Addr) (xs : List V) (ms : List Mo), vs = [.ref a] ∧ H1 a = some (.lst xs) ∧ xs.length ≤ 900 ∧ PySem.Paired (KeyRow H1) xs ms ∧ Tabs T H1 ∧
  ∀ (H2 : Hp) (p : Addr) (qs : List (V × Mo)), ExtN H1 H2 → Tabs T H2 → H2 p = none → qs.Perm (xs.zip ms) → qs.Pairwise (fun x y => ¬ mLt y.2 x.2) → Q (.ref p) (upd H2 p (.lst (qs.map Prod.fst)))
theorem pe_sortLam {X : Cx} {T : List (Addr × Str)} {c P : Addr} {k : Nat} {x : Str} {params : Arguments} {scope : Scope} {p pos lpos q1 q2 q3 kpos : Pos} {e : Expr} {ta : TA} {j : Nat}
    (TB : TabB X.base X.mg c P) (hcode : X.env.code = .ref c) (hm : (P, X.env.qual ++ "<lambda>") ∈ T) (hu : ∀ p ∈ T, p.1 = P → p.2 = X.env.qual ++ "<lambda>") (hg : Gl X "sorted") (hms : X.mg "sorted" = none) (hr : Room (k + 3) X.A)
    (he : PA X [e] ta) (hk : scope.kind = .function := by rfl) (hco : scope.isCoroutine = false := by rfl) (hgen : scope.isGenerator = false := by rfl) (hn : scope.names = [(x, .local)] := by rfl) (hdef : defaultsOf params X.env = ([], []) := by rfl)
    (hbind : ∀ (b : Expr) (q : Str) (cl : List (Str × Addr)) (pm cv ctv u : Value), bindArgs (PySem.W.kla_fn "<lambda>" q params b scope cl pm cv ctv) ⟨[u], []⟩ = pure [(x, u)] := by intros; rfl) (hd : (x == ("__debug__" : Str)) = false := by decide)
    (hea : backTo pos (starEach [e] X.env) = (false, eval e X.env) :: backTo pos (starEach [] X.env) := by rfl) (hpl : (backTo pos (starEach [e] X.env)).any (·.1) = false := by rfl) :
    PE X (.Call (.Name "sorted" p) [e] [⟨some "key", .Lambda params (.Subscript (.Name x q1) (.Constant (.int 1) j q2) q3) scope lpos, kpos⟩] pos) (tSortLam T ta) := by
  refine ⟨fun pins s σ H Q I h => ?_⟩
  refine wpAny_Call_Name_kw (ld_blt I hg hms (u := .builtin "sorted") rfl ?_)
  refine PyProof.Rows.callWith_kw (thn (he.run pos pins s σ H _ I h) fun us s1 ⟨vs, H1, I1, r1, a, xs, ms, e1, ha, hl, hp, hT, q⟩ => ?_) hea hpl
  subst e1
  cases r1 with
  | cons ra rn =>
  cases rn
  cases ra
  refine kwAll_cons ?_
  have hfree : ∀ y ∈ scope.names, y.2 = .free → ∃ c, X.env.cells.lookup y.1 = some c := fun y hy z => by
    rw [hn, List.mem_singleton] at hy; subst hy; cases z
  refine lam_make2 I1 TB hcode hm hu hT hdef hfree fun f c' pm ctv H2 s2 I2 eN hT2 hf hfn hfr hco' => ?_
  refine kwAll_nil ?_
  show wpAny _ _ (call (.builtin "sorted") [.ref a] [(Str.ofString "key", .ref f)]) _ _ _
  have ha2 : H2 a = some (.lst xs) := eN _ _ ha (by intro z; exact nofun)
  obtain ⟨its, rv, pl, hz⟩ := I2.list (SqL.of ha2)
  have hp2 : PySem.Paired (KeyRow H2) xs ms := L2.Paired.mapP hp fun x m ⟨t, b, ys, h1, h2, h3, h4⟩ => ⟨t, b, ys, h1, eN _ _ h2 (by intro z; exact nofun), h3, eN _ _ h4 (by intro z; exact nofun)⟩
  have hea' := each_of rv hp2
  have hzl : (xs.zip ms).length = xs.length := by rw [← hea'.length]; exact rv.length.symm
  have hal : PySem.W.AllAlike ((xs.zip ms).map kD) := fun d hd d' hd' => by
    obtain ⟨x, _, rfl⟩ := List.mem_map.mp hd
    obtain ⟨y, _, rfl⟩ := List.mem_map.mp hd'
    rfl
  have hso : PySem.W.Sortable ((xs.zip ms).map kD) := .inl fun d hd => by
    obtain ⟨x, _, rfl⟩ := List.mem_map.mp hd
    exact ⟨_, _, rfl⟩
  have hdp : ∀ x : V × Mo, (kD x).depth ≤ 2 := fun x => by simp [kD, PyData.depth, PyData.depthAll]
  have hX := hr.un
  refine PySem.W.sorted_key_data (b := false) (f := .ref f) kD pl.isList hea' hal hso (by rw [hzl]; exact Nat.le_trans hl (by decide)) (fun x _ => by have := hdp x; omega) (ksk_s1 _ _) (fun _ => ksk_l1 _ _) (fun _ => ksk_t1 _ _) ?_ ?_
  · rintro v ⟨x1, m1⟩ ⟨rx, t, b, ys, ex, ht, hy, hb⟩ hx g tk gk
    have ex : x1 = .ref t := ex
    have rx : RelV x1 v := rx
    rw [ex] at rx
    cases rx
    have J : Inv X pins σ H2 { s2 with heap := g, toks := tk } := I2.kept gk
    obtain ⟨itt, rt, pt, zt⟩ := J.tuple (SqT.of ht)
    obtain ⟨w1, ew, rw1⟩ := rt.get hy
    cases rw1
    obtain ⟨itb, rb, pb, zb⟩ := J.tuple (SqT.of hb)
    obtain ⟨⟨oc, cvs, ct, hoc, hdc, hvc⟩, _, _⟩ := J.hok c' _ hco'
    have hgf := gk _ _ hf
    have lt1 := (List.getElem?_eq_some_iff.mp ew).1
    have dp : X.A.in1.in1.depth < recursionLimit := by have := hr.dp; show X.A.depth < _; omega
    refine wpAny_call ?_
    refine PySem.W.kla_callFunE dp hgf rfl hco hgen rfl ⟨c', oc, cvs, ct, rfl, hoc, hdc, hvc⟩ ?_
    rw [hbind]
    refine wpAny_pure (wpAny_newFunctionEnv (fun y hy => by rw [hn, List.mem_singleton] at hy; subst hy; exact nofun) (fun y hy => by rw [List.mem_singleton] at hy; subst hy; rw [hn]; simp) (fun h₁ hns hsb => ⟨J.nolimit.fresh _ hsb, ?_⟩) hk)
    have kp : ∀ b o, g.get? b = some o → h₁.get? b = some o := fun b o e => hsb.extBut b o (Nat.ne_of_lt (Heap.lt_size e)) (Heap.get?_push_of_some _ e)
    refine PySem.W.kla_codeExpr ?_
    refine Subscript_ (wpAny_Name (wpAny_loadName_local (v := .ref t) hk ?_ hns ?_ ?_) hd)
    · show scope.names.lookup x = some .local
      rw [hn]; simp
    · simp
    · refine wpAny_Constant_int ?_
      have pt1 : IsTup h₁ t itt.toArray := pt.keeps kp
      refine subscriptTail_builtinR (x := .ref b) pt1.typeIs slot_tuple_getitem.lookup (getItem_tuple (j := 1) pt1 (by decide) (by decide) ?_ (by simpa using ew) ⟨rfl, ?_⟩)
      · have := rt.length
        have hl1 : (1 : Nat) < itt.toArray.size := by rw [List.size_toArray]; exact lt1
        exact seqIndex_of (by decide) (by have := hl1; show (1 : Int) < _; omega)
      · refine ⟨h₁, _, rfl, kp, ?_⟩
        obtain ⟨ob, e1, e2, n1, e3⟩ := pb.keeps kp
        cases rb with
        | cons ra rb =>
        cases rb with
        | cons rc rb =>
        cases rb
        obtain ⟨t1, rfl⟩ := ra
        obtain ⟨t2, rfl⟩ := rc
        exact .tuple e1 e2 e3 (.cons (.int _ _) (.cons (.int _ _) .nil))
  · intro out c2 h' tk hkeep hnone hD hlen hout
    have hle : PySem.W.dataLe false kD = fun p q : V × Mo => decide (p.2.1 < q.2.1 ∨ (p.2.1 = q.2.1 ∧ p.2.2 ≤ q.2.2)) := PySem.W.dataLe_ii (fun b : V × Mo => b.2.1) (fun b : V × Mo => b.2.2)
    rw [hle] at hout
    generalize hqs : (xs.zip ms).mergeSort (fun p q : V × Mo => decide (p.2.1 < q.2.1 ∨ (p.2.1 = q.2.1 ∧ p.2.2 ≤ q.2.2))) = qs at hout
    have hperm : qs.Perm (xs.zip ms) := hqs ▸ List.mergeSort_perm _ _
    have hpw : qs.Pairwise (fun x y => ¬ mLt y.2 x.2) := by
      have := List.pairwise_mergeSort (le := fun p q : V × Mo => decide (p.2.1 < q.2.1 ∨ (p.2.1 = q.2.1 ∧ p.2.2 ≤ q.2.2))) (fun a b c h1 h2 => by
        rw [decide_eq_true_eq] at h1 h2 ⊢; omega) (fun a b => by
        rw [Bool.or_eq_true, decide_eq_true_eq, decide_eq_true_eq]; omega) (xs.zip ms)
      rw [hqs] at this
      exact this.imp fun {x y} h => by rw [decide_eq_true_eq] at h; unfold mLt; omega
    have hql : (qs.map Prod.fst).length ≤ sizeLine := by rw [List.length_map, hperm.length_eq, hzl]; exact Nat.le_trans hl (by decide)
    exact ⟨.ref _, upd H2 (s2.heap.objs.size + 1) (.lst (qs.map Prod.fst)), I2.laid (t' := tk) hkeep (Nat.le_succ _) ⟨hql, out, c2, vals_of hout, hD⟩, rfl, q H2 _ qs eN hT2 (I2.hok.fresh (Nat.le_succ _)) hperm hpw⟩
end KN

set_option Elab.async false
set_option linter.all false
set_option maxRecDepth 100000
set_option maxHeartbeats 4000000
/-! Own rule: len() of an instance whose class has an own __len__. -/
namespace KN
open PySem PySem.Spec PyProof.Rows L2
structure OwnLen (K : PySem.W.Frag) (C f : Addr) : Prop where
  ln : PySem.W.findIn K (.ref C) "__len__" = some (some (.ref f))
  fn : PySem.W.isFn K (.ref f) = true
section
variable {A : Around} {E : Value → Shared → Prop} {s : Shared} {K : PySem.W.Frag} {x C f : Addr} {ox : Obj} {od : Option Obj} {name : Str}
theorem own_special {M : Model} {args : List Value} {Q : Option Value → Shared → Prop} (X : K.In s.heap) (I : PySem.W.InstAt s.heap x ox C od) (at_ : PySem.W.findIn K (.ref C) name = some (some (.ref f))) (fn : PySem.W.isFn K (.ref f) = true)
    (q : wpAny M A (call (.ref f) (.ref x :: args)) (fun v => Q (some v)) E s) : wpAny M A (callSpecial? (.ref x) name args) Q E s := by
  unfold callSpecial?
  refine wpAny_bind (wpAny_bind (I.type.here ((PySem.W.looks_findIn X at_).here ?_)))
  refine wpAny_holding (wpAny_bind ((PySem.W.bind_fn X _ (beq_iff_eq.mp fn)).here ?_))
  exact wpAny_bind (wpAny_mono q (fun v s' o => wpAny_pure o) fun _ _ o => o)
end
section
variable {X : Cx} {n : Nat} {C f : Addr} {fd : FuncData} {ps : List Str} {sp : Sp}
def rLenO (C : Addr) (sp : Sp) : List V → Hp → VK → Prop := fun xs H Q => ∃ (a dx : Addr) (fs : List (Str × V)), xs = [.ref a] ∧ H a = some (.ins C dx fs) ∧ sp [.ref a] H (fun v H' => ∃ m : Nat, v = .int m ∧ m ≤ 1000 ∧ Q (.int m) H') (fun _ _ _ => False)
theorem run_len (F : FnOk X.prog X.w X.K X.mg X.base C8.CX0 n f fd ps sp) (hb : Binds X.K fd ps []) {A : Around} (hr : Room n A) (same : A.frames = X.A.frames) {pins : List (Addr × Obj)} {s : Shared} {σ : L2.St} {H : Hp} {x : V} {u : Value} (I : Inv X pins σ H s) (rx : RelV x u)
    {Q : VK} (q : sp [x] H Q (fun _ _ _ => False)) : wpAny (model X.prog X.w) A (call (.ref f) [u]) (EP X pins σ Q) X.xe s := by
  have e0 : Env0 X.prog X.w X.K X.mg X.base A X.stack s H :=
    ⟨by rw [same]; exact I.env0.frames, I.env0.mod, I.env0.bs, I.env0.bsz, I.env0.funs, I.env0.frf, I.env0.hok, I.env0.bare⟩
  have one : Vals [x] [u] := .cons rx .nil
  have len := F.len _ _ _ _ q
  have bd : BindsTo s fd ⟨[u], []⟩ (ps.zip [u]) := by
    have z := hb s [u] I.kIn (by simpa using len)
    simpa using z
  refine wpAny_call (codeAny_mono (F.run A X.stack s H ⟨[u], []⟩ [u] [x] Q _ hr e0 bd one q) fun r s' out => ?_)
  match r, out with
  | .ok (.ret z), out => exact I.after out
  | .error er, out => exact C8.pass0 (E := fun _ _ _ => False) pins σ H s er s' I out
theorem call_lenO (F : FnOk X.prog X.w X.K X.mg X.base C8.CX0 n f fd ps sp) (o : OwnLen X.K C f) (hb : Binds X.K fd ps []) (hr : Room (n + 1) X.A) : CallR X (.builtin "len") (rLenO C sp) := by
  intro pins s σ H xs us Q I r h
  obtain ⟨a, dx, fs, rfl, ha, q⟩ := h
  obtain ⟨u, rfl, rx⟩ := vals1 r
  have rx' := rx
  cases rx
  obtain ⟨mA, J, _⟩ := ins_get I.hok ha
  obtain ⟨od, J, _⟩ := J.look
  refine Calls.call_function_entry kind_len plain_len entry_len (args_len1 _) ?_
  unfold Builtin.«len»
  refine wpAny_bind (m := oneArg "len" _) (wpAny_pure ?_)
  refine wpAny_bind (m := callSpecial? (.ref a) (Str.ofString "__len__")) (own_special I.kIn J o.ln o.fn ?_)
  refine wpAny_mono (run_len F hb hr.in1 rfl I rx' q) (fun z s' w => ?_) fun _ _ z => z
  obtain ⟨z', H', I', rz, m, rfl, hm, q'⟩ := w
  obtain ⟨t, rfl⟩ := rz
  refine wpAny_bind (wpAny_holding (wpAny_pure ?_))
  refine wpAny_bind (wpAny_letGo ?_)
  show wpAny _ _ (if ((m : Nat) : Int) < 0 then _ else _) _ _ _
  rw [if_neg (by omega)]
  show wpAny _ _ (if ((m : Nat) : Int) ≥ 2 ^ 63 then _ else _) _ _ _
  rw [if_neg (by omega)]
  refine wpAny_bind (wpAny_mkInt (wpAny_pure ⟨_, rfl, .int m, H', I'.tok _, ⟨_, rfl⟩, q'⟩))
end
end KN

set_option Elab.async false
set_option linter.all false
set_option maxRecDepth 100000
set_option maxHeartbeats 4000000
namespace KN
open PySem PySem.Spec PyProof.Rows L2
/-! The law: what it keeps from turn to turn. -/
theorem tk_ext {H H' : Hp} (k : LamX.ExtN H H') : TK H H' := fun a xs e => k a _ e (fun ps z => by cases z)
theorem Pen.ext {H H' : Hp} {p c : Addr} {b : Int} (h : Pen H p c b) (k : LamX.ExtN H H') : Pen H' p c b :=
  let ⟨n, m, ns, e1, e2, r⟩ := h
  ⟨n, m, ns, k _ _ e1 (fun ps z => by cases z), k _ _ e2 (fun ps z => by cases z), r⟩
theorem codeO_dK {c : Addr} {q : Str} {kvs : List (Key × V)} : LamX.CodeO c q ≠ .dK kvs := fun z => by unfold LamX.CodeO at z; cases z
theorem codeO_dT {c : Addr} {q : Str} {kvs : List (List Key × V)} : LamX.CodeO c q ≠ .dT kvs := fun z => by unfold LamX.CodeO at z; cases z
theorem tabs_kp {T : List (Addr × Str)} {H H' : Hp} {p c : Addr} {b : Int} (t : LamX.Tabs T H) (k : Kp p H H') (pen : Pen H p c b) : LamX.Tabs T H' := fun q hq => by
  obtain ⟨ps, h1, h2, h3⟩ := t q hq
  obtain ⟨n, m, ns, e1, _⟩ := pen
  refine ⟨ps, k _ _ (fun z => by rw [z, e1] at h1; cases h1) h1, h2, fun pos cv hc => ?_⟩
  obtain ⟨c0, e, hco⟩ := h3 pos cv hc
  exact ⟨c0, e, k _ _ (fun z => by rw [z, e1] at hco; exact codeO_dK (Option.some.inj hco).symm) hco⟩
theorem tabs_same {T : List (Addr × Str)} {H H' : Hp} (t : LamX.Tabs T H) (s : Same H H') : LamX.Tabs T H' := t.ext s
theorem tabs_kd {T : List (Addr × Str)} {H H' : Hp} {b : Addr} (t : LamX.Tabs T H) (k : KD b H H') : LamX.Tabs T H' := fun q hq => by
  obtain ⟨ps, h1, h2, h3⟩ := t q hq
  refine ⟨ps, k.k (fun _ z => by cases z) h1, h2, fun pos cv hc => ?_⟩
  obtain ⟨c0, e, hco⟩ := h3 pos cv hc
  exact ⟨c0, e, k.k (fun _ => codeO_dT) hco⟩
theorem BookAt.ext {C : Addr} {H H' : Hp} {b : Addr} {rs : List Row} (B : BookAt C H b rs) (k : LamX.ExtN H H') : BookAt C H' b rs := by
  obtain ⟨dx, e, n, kvs, nkv, B⟩ := B
  exact ⟨dx, e, n, kvs, nkv, k _ _ B.ob (fun ps z => by cases z), k _ _ B.en (fun ps z => by cases z), k _ _ B.nb (fun ps z => by cases z), B.ne, B.er.to (tk_ext k),
    Paired.imp B.nr fun _ _ f => ⟨f.1, let ⟨u, h1, h2, h3⟩ := f.2; ⟨u, h1, k _ _ h2 (fun ps z => by cases z), h3⟩⟩, B.nd, B.md, B.ok, B.cl⟩
theorem sq_keep {K : PySem.W.Frag} {H H' : Hp} {a : Addr} {xs : List V} (h : SqL K H a xs) (k : ∀ o, (∀ kvs, o ≠ .dK kvs) → (∀ kvs, o ≠ .dT kvs) → (∀ ps, o ≠ .tbl ps) → H a = some o → H' a = some o) : SqL K H' a xs := by
  rcases h with h | h
  · refine .inl ?_
    unfold Rd at h ⊢
    rcases h with h | ⟨o, h⟩
    · exact .inl (k _ (fun _ z => by cases z) (fun _ z => by cases z) (fun _ z => by cases z) h)
    · exact .inr ⟨o, k _ (fun _ z => by cases z) (fun _ z => by cases z) (fun _ z => by cases z) h⟩
  · exact .inr h
theorem mLt_tri {a b : Mo} (h : ¬ mLt b a) (n : a ≠ b) : mLt a b := by
  unfold mLt at *
  have : a.1 ≠ b.1 ∨ a.2 ≠ b.2 := by
    by_cases h1 : a.1 = b.1
    · exact .inr fun h2 => n (Prod.ext h1 h2)
    · exact .inl h1
  omega
theorem rise_of {rs : List Row} (nd : (rs.map Row.mo).Nodup) (h : rs.Pairwise fun x y => ¬ mLt y.mo x.mo) : Rise rs := by
  have nd' := List.pairwise_map.mp nd
  exact (h.and nd').imp fun {x y} q => mLt_tri q.1 q.2
structure Cor (K : PySem.W.Frag) (C : Addr) (T : List (Addr × Str)) (a p c la bk ra ma : Addr) (ns : List Int) (lot : List Str) (ms : List Mo) (b : Int) (R ro : List Row) (H : Hp) : Prop where
  pen : Pen H p c b
  tabs : LamX.Tabs T H
  sq : SqL K H a (ns.map V.int)
  lot : H la = some (.lst (lot.map V.str))
  book : BookAt C H bk ro
  ra : Ls H ra (R.map Row.d)
  ma : Ls H ma (ms.map mD)
section
variable {K : PySem.W.Frag} {C : Addr} {T : List (Addr × Str)} {a p c la bk ra ma : Addr} {ns : List Int} {lot : List Str} {ms : List Mo} {b : Int} {R ro : List Row} {H H' : Hp}
theorem sq_kp (h : SqL K H a (ns.map V.int)) (pen : Pen H p c b) (k : Kp p H H') : SqL K H' a (ns.map V.int) := sq_keep h fun o n _ _ e => by
  obtain ⟨_, _, _, e1, _⟩ := pen
  exact k _ _ (fun z => by rw [z, e1] at e; exact n _ (Option.some.inj e).symm) e
theorem Ls.ext {l : Addr} {ds : List PyData} (h : Ls H l ds) (k : LamX.ExtN H H') : Ls H' l ds :=
  let ⟨xs, e, r⟩ := h
  ⟨xs, k _ _ e (fun ps z => by cases z), r.to (tk_ext k)⟩
theorem Ls.kd {l x : Addr} {ds : List PyData} (h : Ls H l ds) (k : KD x H H') : Ls H' l ds :=
  let ⟨xs, e, r⟩ := h
  ⟨xs, k.k (fun _ z => by cases z) e, r.to k.tk⟩
theorem Cor.kp {b' : Int} (h : Cor K C T a p c la bk ra ma ns lot ms b R ro H) (k : Kp p H H') (pen : Pen H' p c b') : Cor K C T a p c la bk ra ma ns lot ms b' R ro H' :=
  ⟨pen, tabs_kp h.tabs k h.pen, sq_kp h.sq h.pen k, k _ _ (h.pen.ne h.lot) h.lot, h.book.keep (h.pen.kb k), h.ra.kpp h.pen k, h.ma.kpp h.pen k⟩
theorem Cor.same (h : Cor K C T a p c la bk ra ma ns lot ms b R ro H) (s : Same H H') : Cor K C T a p c la bk ra ma ns lot ms b R ro H' := h.kp (Kp.of s) (h.pen.to s)
theorem Cor.up {b' : Int} (h : Cor K C T a p c la bk ra ma ns lot ms b R ro H) (l : b ≤ b') : Cor K C T a p c la bk ra ma ns lot ms b' R ro H := { h with pen := h.pen.up l }
theorem Cor.ext (h : Cor K C T a p c la bk ra ma ns lot ms b R ro H) (k : LamX.ExtN H H') (t : LamX.Tabs T H') : Cor K C T a p c la bk ra ma ns lot ms b R ro H' :=
  ⟨h.pen.ext k, t, sq_keep h.sq fun o _ _ n e => k _ _ e n, k _ _ h.lot (fun ps z => by cases z), h.book.ext k, h.ra.ext k, h.ma.ext k⟩
theorem Pen.kd {x : Addr} (h : Pen H p c b) (k : KD x H H') : Pen H' p c b :=
  let ⟨n, m, ns, e1, e2, r⟩ := h
  ⟨n, m, ns, k.k (fun _ z => by cases z) e1, k.k (fun _ z => by cases z) e2, r⟩
theorem Cor.kd {ro' : List Row} (h : Cor K C T a p c la bk ra ma ns lot ms b R ro H) (k : KD bk H H') (B : BookAt C H' bk ro') : Cor K C T a p c la bk ra ma ns lot ms b R ro' H' :=
  ⟨h.pen.kd k, tabs_kd h.tabs k, sq_keep h.sq fun o _ n _ e => k.k n e, k.k (fun _ z => by cases z) h.lot, B, h.ra.kd k, h.ma.kd k⟩
end
theorem perm_lift {α β : Type} {g : α → β} {qs ys : List β} (h : qs.Perm ys) : ∀ {zs : List α}, ys = zs.map g → ∃ zs' : List α, zs'.Perm zs ∧ qs = zs'.map g := by
  induction h with
  | nil => intro zs e; exact ⟨[], by rw [List.map_eq_nil_iff.mp e.symm], rfl⟩
  | cons x h ih =>
    intro zs e
    cases zs with
    | nil => cases e
    | cons z zs =>
      injection e with e1 e2
      obtain ⟨zs', p, e⟩ := ih e2
      exact ⟨z :: zs', p.cons z, by rw [List.map_cons, e, e1]⟩
  | swap x y l =>
    intro zs e
    match zs, e with
    | z1 :: z2 :: zs, e =>
      injection e with e1 e2
      injection e2 with e2 e3
      exact ⟨z2 :: z1 :: zs, List.Perm.swap _ _ _, by rw [List.map_cons, List.map_cons, e1, e2, e3]⟩
  | trans h1 h2 ih1 ih2 =>
    intro zs e
    obtain ⟨z2, p2, e2⟩ := ih2 e
    obtain ⟨z1, p1, e1⟩ := ih1 e2
    exact ⟨z1, p1.trans p2, e1⟩
theorem key_rows {H : Hp} : ∀ {rs : List Row} {xs : List V}, TpAll H xs (rs.map Row.d) → PySem.Paired (KeyRow H) xs (rs.map Row.mo)
  | [], _, .nil => .nil
  | r :: rs, x :: _, .cons h t => by
    obtain ⟨t0, ys, rfl, ht, ry⟩ := Tp.inv h
    obtain ⟨v1, e1, t1⟩ := ry.get r.ds1
    obtain ⟨b, rfl, hb⟩ := Tp.mo_inv t1
    exact .cons ⟨t0, b, ys, rfl, ht, e1, hb⟩ (key_rows t)
theorem tpall_zip {H : Hp} : ∀ {zs : List (V × Row)}, (∀ z ∈ zs, Tp H z.1 z.2.d) → TpAll H (zs.map Prod.fst) ((zs.map Prod.snd).map Row.d)
  | [], _ => .nil
  | z :: zs, h => .cons (h z List.mem_cons_self) (tpall_zip fun y hy => h y (List.mem_cons_of_mem _ hy))
theorem zip_tp {H : Hp} : ∀ {rs : List Row} {xs : List V}, TpAll H xs (rs.map Row.d) → ∀ z ∈ xs.zip rs, Tp H z.1 z.2.d
  | [], _, .nil => fun z hz => by cases hz
  | r :: rs, x :: xs, .cons h t => fun z hz => by
    rcases List.mem_cons.mp hz with rfl | hz
    · exact h
    · exact zip_tp t z hz
theorem sorted_rows {H : Hp} {rs : List Row} {xs : List V} {qs : List (V × Mo)} (h : TpAll H xs (rs.map Row.d)) (pm : qs.Perm (xs.zip (rs.map Row.mo))) (pw : qs.Pairwise fun x y => ¬ mLt y.2 x.2) (nd : (rs.map Row.mo).Nodup) :
    ∃ R' : List Row, R'.Perm rs ∧ Rise R' ∧ TpAll H (qs.map Prod.fst) (R'.map Row.d) := by
  have e : xs.zip (rs.map Row.mo) = (xs.zip rs).map fun z => (z.1, z.2.mo) := by rw [List.zip_map_right]; rfl
  obtain ⟨zs, p, eq⟩ := perm_lift pm e
  have hl : xs.length = rs.length := by rw [h.len, List.length_map]
  have p2 : (zs.map Prod.snd).Perm rs := by
    have := p.map Prod.snd
    rwa [List.map_snd_zip (by omega)] at this
  refine ⟨zs.map Prod.snd, p2, rise_of ((p2.map Row.mo).nodup_iff.mpr nd) ?_, ?_⟩
  · rw [eq] at pw
    exact List.pairwise_map.mpr (List.pairwise_map.mp pw)
  · have : qs.map Prod.fst = zs.map Prod.fst := by rw [eq, List.map_map]; rfl
    rw [this]
    exact tpall_zip fun z hz => zip_tp h z (p.mem_iff.mp hz)
mutual
theorem Ob.dpp {K : PySem.W.Frag} {H : Hp} : ∀ (d : PyData) (v : V), d.canLay0 = true → Ob H v d → Dp K H v d
  | .none, _, _, h => by cases h; exact .non
  | .bool b, _, _, h => by cases h; exact .bl b
  | .int i, _, _, h => by cases h; exact .int i
  | .str x, _, _, h => by cases h; exact .str x
  | .tuple ds, _, q, h => by
    cases h with
    | tup e r => exact .tup (SqT.of e) (ObAll.dpp ds _ (by simpa [PyData.canLay0] using q) r)
  | .list ds, _, q, h => by
    cases h with
    | lst e r => exact .lst (SqL.of e) (ObAll.dpp ds _ (by simpa [PyData.canLay0] using q) r)
  | .dict _, _, q, _ => by simp [PyData.canLay0] at q
theorem ObAll.dpp {K : PySem.W.Frag} {H : Hp} : ∀ (ds : List PyData) (vs : List V), PyData.canLayAll0 ds = true → ObAll H vs ds → DpAll K H vs ds
  | [], _, _, h => by cases h; exact .nil
  | d :: ds, _, q, h => by
    cases h with
    | cons a r =>
      have q' : d.canLay0 = true ∧ PyData.canLayAll0 ds = true := by simpa [PyData.canLayAll0] using q
      exact .cons (Ob.dpp d _ q'.1 a) (ObAll.dpp ds _ q'.2 r)
end
theorem Ob.dp {K : PySem.W.Frag} {H : Hp} {d : PyData} {v : V} (h : Ob H v d) (q : d.canLay0 = true) : Dp K H v d := Ob.dpp d v q h
/-- the row that an entry tried is -/
def Kd.row (m n : Mo) : Kd → Row
  | .ch z => .ch m n z
  | .st b => .st m n b
  | .ah o => .ah m n o
theorem Kd.row_mo (m n : Mo) (k : Kd) : (k.row m n).mo = m := by cases k <;> rfl
theorem nms_perm {a b : List Row} (h : a.Perm b) {m : Mo} : m ∈ nms a ↔ m ∈ nms b := ((h.filter _).map _).mem_iff
theorem mos_perm {a b : List Row} (h : a.Perm b) {m : Mo} : m ∈ a.map Row.mo ↔ m ∈ b.map Row.mo := (h.map _).mem_iff
theorem tell_due {C CB CS CN CL CU CZ : Addr} {H : Hp} {b t an : Addr} {v x : V} {dd : PyData} {n : Mo} {k : Kd} {R ro : List Row} {δ : Due} {Q : VK} {E : XK} (pm : ro.Perm R) (T : TryAt H t v an x dd n k) (D : DueR R dd n k δ)
    (hE : ∀ C f s d y, (C, f, s) ∈ exKinds CB CS CN CZ CL CU → δ = dw s d → Ob H y d → OutOne H C f y E)
    (hQ : δ = none → ∀ m, dd = mD m → MoOk m → m ∉ R.map Row.mo → ∀ H', KD b H H' → BookAt C H' b (ro ++ [k.row m n]) → Q .non H') : TellX CB CS CN CL CU CZ H b C v dd an n ro Q E t := by
  have obn : Ob H (.ref an) (mD n) := ob_mo T.han
  have nmx : ∀ {m n : Mo} {a : Addr} {ns : List Mo} {p q : Prop}, Ob H (.ref a) (mD n) → NmsD m R δ (n :: ns) p → (NmsD m R δ ns p → q) → NmX CN CL H a m n ro E q := fun {m n a ns p q} ob h go => by
    rcases h with ⟨h1, h2⟩ | ⟨h1, h2, h3⟩ | ⟨h1, h2, h3⟩
    · exact .inl ⟨fun z => h1 ((nms_perm pm).mp z), hE _ _ _ _ _ (by simp [exKinds]) h2 ob⟩
    · exact .inr (.inl ⟨(nms_perm pm).mpr h1, h2, hE _ _ _ _ _ (by simp [exKinds]) h3 ob⟩)
    · exact .inr (.inr ⟨(nms_perm pm).mpr h1, h2, go h3⟩)
  have pre : ∀ {kk : Mo → Prop}, (∀ m, dd = mD m → MoOk m → m ∉ R.map Row.mo → NmsD m R δ (k.ns n) (EndD R n δ k) → kk m) → PreX CB CS H v dd ro E kk := fun {kk} go => by
    rcases D with ⟨h1, h2⟩ | ⟨m, e, hm, ⟨h1, h2⟩ | ⟨h1, h2⟩⟩
    · exact .inl ⟨h1, hE _ _ _ _ _ (by simp [exKinds]) h2 T.ob⟩
    · exact .inr ⟨m, e, hm, .inl ⟨(mos_perm pm).mpr h1, hE _ _ _ _ _ (by simp [exKinds]) h2 T.ob⟩⟩
    · exact .inr ⟨m, e, hm, .inr ⟨fun z => h1 ((mos_perm pm).mp z), go m e hm h1 h2⟩⟩
  cases k with
  | ch z =>
    have ex : x = .str z := by have := T.tx; cases this; rfl
    refine .inl ⟨z, by rw [← ex]; exact T.ht, pre fun m e hm hn h => nmx obn h fun h => ?_⟩
    obtain ⟨rk, ws, ss, lk, hrow, h⟩ := h
    refine ⟨rk, ws, ss, lk, pm.mem_iff.mpr hrow, ?_⟩
    rcases h with ⟨h1, h2⟩ | ⟨h1, h2, h3⟩ | ⟨h1, h2⟩
    · exact .inl ⟨h1, hE _ _ _ _ _ (by simp [exKinds]) h2 obn⟩
    · exact .inr (.inl ⟨h1, h2, hE _ _ _ _ _ (by simp [exKinds]) h3 (by rw [← ex]; exact T.ox)⟩)
    · exact .inr (.inr ⟨h1, hQ h2 m e hm hn⟩)
  | st wh =>
    have ex : x = .bl wh := by have := T.tx; cases this; rfl
    exact .inr (.inl ⟨wh, by rw [← ex]; exact T.ht, pre fun m e hm hn h => nmx obn h fun h => hQ h m e hm hn⟩)
  | ah o =>
    obtain ⟨ao, ex, hao⟩ := Tp.mo_inv (m := o) T.tx
    refine .inr (.inr ⟨ao, o, by rw [← ex]; exact T.ht, hao, pre fun m e hm hn h => nmx obn h fun h => nmx (ob_mo hao) h fun h => ?_⟩)
    obtain ⟨rk, ws, ss, lk, rk', ws', ss', lk', h1, h2, h⟩ := h
    refine ⟨rk, ws, ss, lk, rk', ws', ss', lk', pm.mem_iff.mpr h1, pm.mem_iff.mpr h2, ?_⟩
    rcases h with ⟨h1, h2⟩ | ⟨h1, h2, h3⟩
    · exact .inl ⟨h1, hE _ _ _ _ _ (by simp [exKinds]) h2 (ob_mo hao)⟩
    · exact .inr ⟨h1, h2, hQ h3 m e hm hn⟩
theorem due_lay {R : List Row} {dd : PyData} {n : Mo} {k : Kd} {s : Str} {d : PyData} (D : DueR R dd n k (dw s d)) (hd : dd.canLay0 = true ∧ dd.depth ≤ 10) (hz : ∀ z, k = .ch z → IsW z) : d.canLay0 = true ∧ d.depth ≤ 10 ∧ PyData.strOk s = true := by
  have inj : ∀ {s' : Str} {d' : PyData}, dw s d = dw s' d' → s = s' ∧ d = d' := fun h => by
    unfold dw at h; injection h with h; injection h with h1 h2; exact ⟨h1, h2⟩
  have mok : ∀ m : Mo, (mD m).canLay0 = true ∧ (mD m).depth ≤ 10 := fun m => ⟨okD_lay _ (okD_m m), by simp [mD, PyData.depth, PyData.depthAll]⟩
  have non : ¬ (dw s d = none) := fun z => by cases z
  have nms_ : ∀ {m : Mo} {ns : List Mo} {p : Prop}, (p → d.canLay0 = true ∧ d.depth ≤ 10 ∧ PyData.strOk s = true) → NmsD m R (dw s d) ns p → d.canLay0 = true ∧ d.depth ≤ 10 ∧ PyData.strOk s = true := fun {m ns p} hp => by
    induction ns with
    | nil => exact hp
    | cons y ns ih =>
      rintro (⟨_, h⟩ | ⟨_, _, h⟩ | ⟨_, _, h⟩)
      · obtain ⟨rfl, rfl⟩ := inj h; exact ⟨(mok y).1, (mok y).2, by decide +kernel⟩
      · obtain ⟨rfl, rfl⟩ := inj h; exact ⟨(mok y).1, (mok y).2, by decide +kernel⟩
      · exact ih h
  rcases D with ⟨_, h⟩ | ⟨m, e, _, ⟨_, h⟩ | ⟨_, h⟩⟩
  · obtain ⟨rfl, rfl⟩ := inj h; exact ⟨hd.1, hd.2, by decide +kernel⟩
  · obtain ⟨rfl, rfl⟩ := inj h; exact ⟨hd.1, hd.2, by decide +kernel⟩
  · refine nms_ (fun h => ?_) h
    cases k with
    | st wh => exact absurd h non
    | ch z =>
      obtain ⟨_, _, _, _, _, ⟨_, h⟩ | ⟨_, _, h⟩ | ⟨_, h⟩⟩ := h
      · obtain ⟨rfl, rfl⟩ := inj h; exact ⟨(mok n).1, (mok n).2, by decide +kernel⟩
      · obtain ⟨rfl, rfl⟩ := inj h
        exact ⟨okD_lay _ (by simp only [okD]; exact strOk_w (hz z rfl)), by simp [PyData.depth], by decide +kernel⟩
      · exact absurd h non
    | ah o =>
      obtain ⟨_, _, _, _, _, _, _, _, _, _, ⟨_, h⟩ | ⟨_, _, h⟩⟩ := h
      · obtain ⟨rfl, rfl⟩ := inj h; exact ⟨(mok o).1, (mok o).2, by decide +kernel⟩
      · exact absurd h non
theorem shaped_out {s : Str} {d : PyData} (h : d.canLay0 = true ∧ d.depth ≤ 10 ∧ PyData.strOk s = true) : SeqAt.shaped (.tuple [.str s, d]) = true ∧ (PyData.tuple [.str s, d]).canLay0 = true := by
  have h1 : (PyData.tuple [.str s, d]).canLay0 = true := by simp [PyData.canLay0, PyData.canLayAll0, h.1, h.2.2]
  refine ⟨?_, h1⟩
  unfold SeqAt.shaped
  rw [h1, decide_eq_true (by simp only [PyData.depth, PyData.depthAll]; omega)]; rfl
/-- the def that asks, as the law wants it -/
structure RefAt (K : PySem.W.Frag) (mg : Str → Option Value) (CB CS CN CZ CL CU CW : Addr) : Prop where
  ex : ∃ (f : Addr) (fd : FuncData), Fun K "_law_refusal" "_law_refusal" s__law_refusal f fd ∧ Binds K fd ["_law_asked"] [] ∧ mg "_law_refusal" = some (.ref f)
  R : RefX K mg CB CS CN CZ CL CU CW
  m_isi : mg "isinstance" = none
  m_VE : mg "ValueError" = none
  m_KE : mg "KeyError" = none
  m_LE : mg "LookupError" = none
  m_RE : mg "RuntimeError" = none
theorem pe_ref {X : Cx} {T : List (Addr × Str)} {c P CB CS CN CZ CL CU CW : Addr} {j k : Nat} {params : Arguments} {body : Expr} {scope : Scope} {t : XK → TE} {p lpos pos : Pos} (B : RefAt X.K X.mg CB CS CN CZ CL CU CW) (TB : LamX.TabB X.base X.mg c P) (hcode : X.env.code = .ref c)
    (hmT : (P, X.env.qual ++ "<lambda>") ∈ T) (hu : ∀ p ∈ T, p.1 = P → p.2 = X.env.qual ++ "<lambda>") (hr : Room j X.A) (hj : k + 2 ≤ j) (hg : Gl X "_law_refusal") (L : LamX.LamS X.env.scope scope)
    (hbody : ∀ (A : Around) (outer : List Env) (s : Shared) (H : Hp) (E : XK) (f c' : Addr), Room k (A.deeper (LamX.lamEnv X scope s.heap.objs.size f c')) → PE (LamX.lamCx X A outer s H E scope f c') body (t E))
    (hdef : defaultsOf params X.env = ([], []) := by rfl) (hbind : ∀ (q : Str) (cl : List (Str × Addr)) (pm cv ctv : Value), bindArgs (PySem.W.kla_fn "<lambda>" q params body scope cl pm cv ctv) ⟨[], []⟩ = pure [] := by intros; rfl) :
    PE X (.Call (.Name "_law_refusal" p) [.Lambda params body scope lpos] [] pos) (LamX.tLam T (TTref CB CS CN CZ CL CU) t) := by
  obtain ⟨f, fd, F, hb, hm⟩ := B.ex
  have keep := F.2
  obtain ⟨oc, od, kV, doc, pm, an, cdv, ct, osl, rfl, lk, hcd⟩ := F.ex
  exact LamX.pe_lamcall hg hm keep lk hcd hb sc__law_refusal rfl (.inl rfl) (ref_gives B.R B.m_isi B.m_VE B.m_KE B.m_LE B.m_RE) TB hcode hmT hu (hr.mono hj) L hdef hbind hbody
structure Pur (R ro : List Row) (k : Nat) : Prop where
  pm : ro.Perm R
  w : ∀ r ∈ R, RowW r
  ok : ∀ r ∈ R, MoOk r.mo
  rise : Rise R
  nm : nms R ≠ []
  len : R.length ≤ k
theorem lay_rows {rs : List Row} (h : ∀ r ∈ rs, RowW r) : (PyData.list (rs.map Row.d)).canLay0 = true := by
  have e : ∀ ds, (PyData.list ds).canLay0 = PyData.canLayAll0 ds := fun ds => by simp [PyData.canLay0]
  rw [e, lays_all]
  intro d hd
  obtain ⟨r, hr, rfl⟩ := List.mem_map.mp hd
  exact lay_row (h r hr)
theorem last_at {xs : List V} (h : 0 < xs.length) : ∃ v, atI xs (-1) = some v ∧ xs[xs.length - 1]? = some v := by
  have hl : xs.length - 1 < xs.length := by omega
  refine ⟨xs[xs.length - 1], ?_, List.getElem?_eq_getElem hl⟩
  have e : ixN xs.length (-1) = some (xs.length - 1) := by
    unfold ixN
    rw [if_neg (by decide), if_pos (by omega)]
    congr 1
    omega
  unfold atI
  rw [e]
  exact List.getElem?_eq_getElem hl
theorem ke_ext {H H' : Hp} (x : LamX.ExtN H H') : Ke H H' := fun a o h e => x a o e (fun ps z => by
  rcases h with ⟨xs, h⟩ | ⟨xs, h⟩ | h <;> rw [h] at z <;> cases z)
theorem ke_kd {H H' : Hp} {b : Addr} (x : KD b H H') : Ke H H' := fun a o h e => x.k (fun kvs z => by
  rcases h with ⟨xs, h⟩ | ⟨xs, h⟩ | h <;> rw [h] at z <;> cases z) e
theorem Ke.tk {H H' : Hp} (k : Ke H H') : TK H H' := fun a xs e => k a _ (.inl ⟨_, rfl⟩) e
theorem TryAt.ke {H H' : Hp} {t : Addr} {v : V} {an : Addr} {x : V} {dd : PyData} {n : Mo} {k : Kd} (h : TryAt H t v an x dd n k) (s : Ke H H') : TryAt H' t v an x dd n k := ⟨s.tk _ _ h.ht, h.ob.to s, s.tk _ _ h.han, h.tx.to s.tk, h.ox.to s⟩
theorem TryAt.row {H : Hp} {t : Addr} {v : V} {an : Addr} {x : V} {m n : Mo} {k : Kd} (h : TryAt H t v an x (mD m) n k) : Tp H (.ref t) (k.row m n).d := by
  obtain ⟨am, rfl, ham⟩ := ob_mD h.ob
  have e : (k.row m n).d = .tuple [.str k.sort, mD m, mD n, k.d] := by cases k <;> rfl
  rw [e]
  exact .tup h.ht (.cons (.str _) (.cons (Tp.mo ham) (.cons (Tp.mo h.han) (.cons h.tx .nil))))
theorem Pur.step {R ro R' : List Row} {k : Nat} {m n : Mo} {kd : Kd} (p : Pur R ro k) (hm : MoOk m) (hz : ∀ z, kd = .ch z → IsW z) (rise : Rise R') (pm : R'.Perm (R ++ [kd.row m n])) : Pur R' (ro ++ [kd.row m n]) (k + 1) := by
  have mem : ∀ r ∈ R', r ∈ R ∨ r = kd.row m n := fun r hr => by
    rcases List.mem_append.mp (pm.mem_iff.mp hr) with h | h
    · exact .inl h
    · exact .inr (List.mem_singleton.mp h)
  refine ⟨(p.pm.append_right _).trans pm.symm, fun r hr => ?_, fun r hr => ?_, rise, fun z => ?_, ?_⟩
  · rcases mem r hr with h | rfl
    · exact p.w r h
    · cases kd with
      | ch z => exact hz z rfl
      | st b => exact True.intro
      | ah o => exact True.intro
  · rcases mem r hr with h | rfl
    · exact p.ok r h
    · rw [Kd.row_mo]; exact hm
  · obtain ⟨q, tl, e⟩ := List.exists_cons_of_ne_nil p.nm
    have hq : q ∈ nms R := by rw [e]; exact List.mem_cons_self
    have : q ∈ nms R' := by
      rw [nms_perm pm, nms_app]
      exact List.mem_append_left _ hq
    rw [z] at this; cases this
  · rw [pm.length_eq, List.length_append]
    have := p.len
    show R.length + 1 ≤ k + 1
    omega
theorem Pur.up {R ro : List Row} {k : Nat} (p : Pur R ro k) : Pur R ro (k + 1) := { p with len := Nat.le_succ_of_le p.len }
def spLen (C : Addr) : Sp := fun vs H Q _ => ∃ (b : Addr) (rs : List Row), vs = [.ref b] ∧ BookAt C H b rs ∧ Q (.int rs.length) H
section
variable {P : Program} {w : World} {K : PySem.W.Frag} {mg : Str → Option Value} {base : Heap} {C CN CE : Addr}
theorem sc_Book___len__ : FnScope ["self"] ["self"] (defScope s_Book___len__) := ⟨rfl, rfl, rfl, by decide +kernel, rfl, by decide +kernel, by decide +kernel⟩
theorem ok_Book_len {f : Addr} {fd : FuncData} (F : Fun K "__len__" "Book.__len__" s_Book___len__ f fd) (T : BkT K C) (m_len : mg "len" = none) : FnOk P w K mg base CX0 1 f fd ["self"] (spLen C) := by
  refine F.ok sc_Book___len__ (fun vs H Q E h => ?_) (fun cdv A outer s H vs Q E hr h => ?_)
  · obtain ⟨b, rs, rfl, _⟩ := h; rfl
  · obtain ⟨b, rs, rfl, BA, k⟩ := h
    obtain ⟨dx, e, n, kvs, nkv, B⟩ := id BA
    refine ⟨_, (pss_one (ps_ret (pe_callB call_len_dT (by rfl) m_len (by decide +kernel) (pa_cons (pe_fld (pv 0) rfl) pa_nil)))), ?_⟩
    have hl : kvs.length = rs.length := PySem.Paired.length B.er
    exact ⟨_, rfl, b, C, dx, _, _, rfl, B.ob, T.cl, T.nE, rfl, e, kvs, rfl, B.en, by rw [hl]; exact k⟩
def spLawB (T : List (Addr × Str)) (K : PySem.W.Frag) : Sp := fun vs H Q _ => ∃ (a : Addr) (ns : List Int), vs = [.ref a] ∧ SqL K H a (ns.map V.int) ∧ ns.length ≤ 63 ∧ LamX.Tabs T H ∧ ∀ H', Q (.bl true) H'
theorem sc_law : FnScope ["_law_script", "_law_pen_here", "_law_lot", "_law_rows", "_law_book", "_law_row", "_law_moments_here", "_law_turn", "_law_due_here", "_law_k"] ["_law_script"] (defScope s_law) := ⟨rfl, rfl, rfl, by decide +kernel, rfl, by decide +kernel, by decide +kernel⟩
theorem run_law {CB CS CZ CL CU CW : Addr} {f : Addr} {fd : FuncData} (F : Fun K "law" "law" s_law f fd) {T : List (Addr × Str)} {c2 P2 : Addr} (hcc : fd.code = .ref c2) (TB : LamX.TabB base mg c2 P2) (hmT : (P2, ("law" : Str) ++ ".<locals>." ++ "<lambda>") ∈ T) (huT : ∀ p ∈ T, p.1 = P2 → p.2 = ("law" : Str) ++ ".<locals>." ++ "<lambda>")
    (m_len : mg "len" = none) (m_range : mg "range" = none) (m_min : mg "min" = none) (m_sorted : mg "sorted" = none)
    {fl : Addr} {fdl : FuncData} (FL : FnOk P w K mg base CX0 1 fl fdl ["self"] (spLen C)) (OL : OwnLen K C fl) (bL : Binds K fdl ["self"] []) (R : RefAt K mg CB CS CN CZ CL CU CW)
    (c__law_pen : C8.Cal P w K mg base 1 "_law_pen" (spPen K) []) (c__law_draw : C8.Cal P w K mg base 1 "_law_draw" spDraw []) (c__law_names : C8.Cal P w K mg base 2 "_law_names" spNames []) (c__law_records : C8.Cal P w K mg base 3 "_law_records" spRecords []) (c__law_moments : C8.Cal P w K mg base 2 "_law_moments" spMoments [])
    (c_Book : C8.Mak P w K mg base 1 "Book" C (spInit C) []) (c__law_tell : C8.Cal P w K mg base 6 "_law_tell" (spTell C) []) (cX__law_tell : CalX P w K mg base 6 "_law_tell" (spTellX C CB CS CN CL CU CZ) []) (c__law_tried : C8.Cal P w K mg base 2 "_law_tried" spTried []) (c__law_due : C8.Cal P w K mg base 2 "_law_due" spDueP [])
    (c_Book_entries : C8.Met P w K mg base 2 C "entries" (spEntries C) [.non])
    {A : Around} {outer : List Env} {s : Shared} {H : Hp} {args : Args} {us : List Value} {vs : List V} {Q : VK} {E : XK} (hr0 : Room 9 A) (e0 : Env0 P w K mg base A outer s H) (hb : BindsTo s fd args (([("_law_script" : Str)]).zip us)) (rv : Vals vs us) (h : spLawB T K vs H Q E) :
    codeAny (model P w) A (.call (.ref f) args) (CR C8.CX0 outer P w H s Q E) s := by
  obtain ⟨oc, od, kV, doc, pm, an, cdv, ct, osl, rfl, lk, hcd⟩ := F.ex
  obtain rfl : cdv = .ref c2 := hcc
  obtain ⟨a, ns, rfl, hS, hlen, tabs, k⟩ := h
  refine LamX.run_ofS lk hcd sc_law hr0 e0 hb rv rfl (fun hr => ?_)
  have main : ∃ t, PSs (cxOf C8.CX0 P w K mg base ["_law_script", "_law_pen_here", "_law_lot", "_law_rows", "_law_book", "_law_row", "_law_moments_here", "_law_turn", "_law_due_here", "_law_k"] "law" (defScope s_law) f (.ref c2) A outer s H E).nox (defBody s_law) t ∧ t { nx := fun _ H' => Q .non H', rt := Q } (L2.start ["_law_script", "_law_pen_here", "_law_lot", "_law_rows", "_law_book", "_law_row", "_law_moments_here", "_law_turn", "_law_due_here", "_law_k"] [.ref a]) H := by
    refine ⟨_, (pss_cons (ps_set (i := 1) sc_law.nd rfl (Or.inl rfl) (C8.pe_c c__law_pen hr (by decide) rfl (pa_cons (pv 0) pa_nil)))
      (pss_cons (ps_set (i := 2) sc_law.nd rfl (Or.inl rfl) (C8.pe_c c__law_names hr (by decide) rfl (pa_cons (pv 1) (pa_cons pe_int pa_nil))))
      (pss_cons (ps_set (i := 3) sc_law.nd rfl (Or.inr rfl) (C8.pe_c c__law_records hr (by decide) rfl (pa_cons (pv 1) (pa_cons (pv 2) (pa_cons (pe_op op_add pe_int (C8.pe_c c__law_draw hr (by decide) rfl (pa_cons (pv 1) (pa_cons pe_int pa_nil)))) pa_nil)))))
      (pss_cons (ps_set (i := 4) sc_law.nd rfl (Or.inr rfl) (pe_mk0 c_Book hr (by decide) rfl))
      (pss_cons (ps_for PassesOwn.never rfl (pi_list (pv 3)) (pg_name (i := 5) sc_law.nd rfl (Or.inr rfl))
      (pss_one (ps_expr (C8.pe_c c__law_tell hr (by decide) rfl (pa_cons (pv 4) (pa_cons (pv 5) pa_nil))))))
      (C8.pss_cut (ps_set (i := 6) sc_law.nd rfl (Or.inl rfl) (pe_op op_cat (C8.pe_c c__law_moments hr (by decide) rfl (pa_cons (pv 1) (pa_cons pe_int pa_nil))) (pe_lc (own := [("_law_k", 9)]) (g := gName 9) (tt := tYes) rfl sc_law.nd (pi_range1 rfl m_range (pa_cons pe_int pa_nil)) (blkOk_by (own := [("_law_k", 9)]) (N := ["_law_script", "_law_pen_here", "_law_lot", "_law_rows", "_law_book", "_law_row", "_law_moments_here", "_law_turn", "_law_due_here", "_law_k"]) (sc := defScope s_law) (by decide +kernel)) (fun _ _ _ _ _ => pg_name (i := 9) sc_law.nd rfl (Or.inl rfl)) (fun _ _ _ _ _ => pts_nil) (fun _ _ _ _ _ => (pe_tup (pa_cons (pe_op op_add (pe_op op_add (pe_ix (ix_tupK K) (pe_ix (ix_tupK K) (pe_ix (ix_listK K) (pv 3) (pe_un un_neg pe_int) (fun _ _ => rfl)) pe_int (fun _ _ => rfl)) pe_int (fun _ _ => rfl)) pe_int) (pv 9)) (pa_cons pe_int pa_nil)))))))
      (pss_cons (ps_for PassesOwn.never rfl (pi_range1 rfl m_range (pa_cons (pe_op op_add pe_int (pe_callB (call_min2 rfl) (by rfl) m_min (by decide +kernel) (pa_cons pe_int (pa_cons (pe_callB call_len_seq (by rfl) m_len (by decide +kernel) (pa_cons (pv 0) pa_nil)) pa_nil)))) pa_nil)) (pg_name (i := 7) sc_law.nd rfl (Or.inl rfl))
      (pss_cons (ps_set (i := 5) sc_law.nd rfl (Or.inr rfl) (C8.pe_c c__law_tried hr (by decide) rfl (pa_cons (pv 1) (pa_cons (pv 3) (pa_cons (pv 2) (pa_cons (pv 6) pa_nil))))))
      (pss_cons (ps_set (i := 8) sc_law.nd rfl (Or.inl rfl) (C8.pe_c c__law_due hr (by decide) rfl (pa_cons (pv 3) (pa_cons (pv 5) pa_nil))))
      (pss_cons (ps_if (pt_cmpR (op_neD hr.units) (pe_ref (k := 6) R TB rfl hmT huT hr (by decide) rfl (LamX.lamS_by (by rfl)) (fun A outer s H E f c' hr2 => (pe_cX cX__law_tell (takes_of rfl rfl rfl rfl) hr2 (by decide) rfl (pa_cons (pv 4) (pa_cons (pv 5) pa_nil))))) (pv 8) (nomark _)) (pss_one (ps_ret pe_bl)) pss_nil)
      (C8.pss_cut (ps_if (pt_cmpR op_isN (pv 8) pe_non (nomark _)) (pss_one (ps_set (i := 3) sc_law.nd rfl (Or.inr rfl) (pe_sortLam TB rfl hmT huT rfl m_sorted hr (pa_cons (pe_op op_cat (pv 3) (pe_lst (pa_cons (pv 5) pa_nil))) pa_nil)))) pss_nil)
      (pss_one (ps_if (PW.pt (pw_or (pt_cmpR (op_neD hr.units) (C8.pe_mt0 c_Book_entries hr (by decide) (pv 4)) (pv 3) (nomark _)) (pw_or1 (pt_cmpR op_ne (pe_callB (call_lenO FL OL bL (hr.mono (by decide))) (by rfl) m_len (by decide +kernel) (pa_cons (pv 4) pa_nil)) (pe_callB call_len_seq (by rfl) m_len (by decide +kernel) (pa_cons (pv 3) pa_nil)) (nomark _))))) (pss_one (ps_ret pe_bl)) pss_nil)))))))
      (pss_one (ps_ret pe_bl))))))))), ?_⟩
    refine ⟨_, rfl, a, ns, rfl, hS, hlen, fun H1 p c s1 np nc pen1 => ?_⟩
    have hS1 := s1.seq hS
    have tabs1 : LamX.Tabs T H1 := tabs.ext s1
    refine ⟨_, rfl, p, c, _, 6, rfl, pen1, by omega, by decide, by decide, fun H2 la lot k2 pen2 la0 hla hl6 hlw hln => ?_⟩
    have hl6 : lot.length = 6 := hl6
    have hS2 := sq_kp hS1 pen1 k2
    have tabs2 := tabs_kp tabs1 k2 pen1
    refine ⟨_, rfl, _, rfl, _, rfl, p, c, _, 12, rfl, pen2, by omega, by decide, by decide, fun H3 r3 k3 pen3 r30 r31 => ?_⟩
    have hS3 := sq_kp hS2 pen2 k3
    have tabs3 := tabs_kp tabs2 k3 pen2
    have hla3 := k3 _ _ (pen2.ne hla) hla
    refine ⟨_, _, rfl, rfl, p, c, _, la, lot, _, rfl, pen3, by omega, hla3, hl6, hln, hlw, by omega, by omega, fun H4 ra rs k4 pen4 ra0 lsR TT rl => ?_⟩
    have hS4 := sq_kp hS3 pen3 k4
    have tabs4 := tabs_kp tabs3 k4 pen3
    have hla4 := k4 _ _ (pen3.ne hla3) hla3
    have rl12 : 1 ≤ rs.length ∧ rs.length ≤ 12 := by omega
    obtain ⟨rx, hrx, rrx⟩ := id lsR
    intro bk dx nb ndx nex
    have s0 : Same H4 (upd (upd H4 dx (.own bk)) bk (.ins C dx [])) := fun x o e => by
      rw [upd_ne (ne_of_none e nb), upd_ne (ne_of_none e ndx)]; exact e
    refine ⟨bk, dx, rfl, upd_same, fun H5 kp fr B5 => ⟨rfl, ?_⟩⟩
    have s5 : Same H4 H5 := fun x o e => kp x o (ne_of_none e nb) (s0 x o e)
    refine ⟨_, rfl, ra, rfl, ⟨_, SqL.of (s5 _ _ hrx)⟩, for_list (K := K) (a := ra) (xs := rx) (fun i σ' H' => ∃ v5 : Option V, σ' = [some (.ref a), some (.ref p), some (.ref la), some (.ref ra), some (.ref bk), v5, none, none, none, none] ∧ Same H4 H' ∧ (∀ x, Own H' bk x → H4 x = none) ∧ BookAt C H' bk (rs.take i))
      ⟨none, rfl, s5, (fun x hx => by
          have z := fr x hx
          cases e : H4 x with
          | none => rfl
          | some o => rw [s0 x o e] at z; cases z), B5⟩ (fun i σ' H' _ ⟨_, _, kd, _⟩ => SqL.of (kd _ _ hrx)) ?_ ?_⟩
    · rintro i x σ6 H6 hi ⟨v5, rfl, kd2, fr2, B2⟩
      obtain ⟨r, hr1, tx⟩ := data_at rrx hi
      refine ⟨_, rfl, _, rfl, bk, x, r, _, rfl, B2, tx.to (TK.of kd2), TT.tell i r hr1, fun H7 kd3 B3 => ⟨_, rfl, (KD.same kd2 fr2 kd3).1, (KD.same kd2 fr2 kd3).2, ?_⟩⟩
      rw [List.take_add_one, hr1]; exact B3
    rintro σ6 H6 ⟨v5, rfl, s6, _, B6⟩
    have hrl : rx.length = rs.length := by rw [rrx.len, List.length_map]
    rw [hrl, List.take_length] at B6
    have pen6 := pen4.to s6
    have hS6 := s6.seq hS4
    have tabs6 : LamX.Tabs T H6 := tabs4.ext s6
    have hla6 := s6 _ _ hla4
    have lsR6 := lsR.to s6
    clear hS hS1 hS2 hS3 hS4 tabs tabs1 tabs2 tabs3 tabs4 hla hla3 hla4 pen1 pen2 pen3 s1 k2 k3 k4 la0 np nc r30 r31 nb ndx nex s0 kp fr B5 s5 ra0
    refine ⟨fun σ' H' => ∃ (v5 : Option V) (ma : Addr) (ms : List Mo), σ' = [some (.ref a), some (.ref p), some (.ref la), some (.ref ra), some (.ref bk), v5, some (.ref ma), none, none, none] ∧ Cor K C T a p c la bk ra ma ns lot ms 10000 rs rs H' ∧ ms.length = 18 ∧ ∀ m ∈ ms, MoOk m, ?_, ?_⟩
    · refine ⟨_, rfl, p, c, _, 9, rfl, pen6, by omega, by decide, by decide, fun H7 m1 ms1 k7 pen7 m10 lsM hml hpw hok => ?_⟩
      have hrx7 := k7 _ _ (pen6.ne (s6 _ _ hrx)) (s6 _ _ hrx)
      have rrx7 := (rrx.to (TK.of s6)).to (pen6.tk k7)
      obtain ⟨vl, hvl, hvl2⟩ := last_at (xs := rx) (by omega)
      obtain ⟨rL, hrL, tL⟩ := data_at rrx7 hvl2
      have hrLm := List.mem_of_getElem? hrL
      obtain ⟨tl', yl, rfl, htl, ryl⟩ := Tp.inv (id tL)
      obtain ⟨v1, a1, t1⟩ := Tp.at (K := K) htl ryl rL.ds1
      obtain ⟨aL, rfl, haL⟩ := Tp.mo_inv t1
      have okL := TT.mo rL hrLm
      refine ⟨9, rfl, by decide, by decide, fun D hD => ?_⟩
      refine lc_range (lo := 0) (n := (9 : Int).toNat) (fun i H' => Same H7 H' ∧ Ls H' D (((List.range i).map fun (j : Nat) => ((rL.mo.1 + 1 + (j : Int), 3) : Mo)).map mD)) ⟨Same.new hD, [], upd_same, .nil⟩ ?_ ?_
      · rintro i H8 hi ⟨s8, ls8⟩
        refine ⟨rfl, _, rfl, _, rfl, ra, _, _, _, rfl, rfl, SqL.of (s8 _ _ hrx7), hvl, _, _, _, _, rfl, rfl, SqT.of (s8 _ _ htl), a1, _, _, _, _, rfl, rfl, SqT.of (s8 _ _ haL), at_of (j := 0) rfl rfl, _, _, rfl, rfl, _, rfl, _, _, rfl, rfl, by show 2 ≤ sizeLine; decide, fun q hq => ?_⟩
        have s9 := Same.new (o := .tup [.int (rL.mo.1 + 1 + (0 + (i : Int))), .int 3]) hq
        have e9 := upd_same (H := H8) (a := q) (o := .tup [.int (rL.mo.1 + 1 + (0 + (i : Int))), .int 3])
        generalize upd H8 q (.tup [.int (rL.mo.1 + 1 + (0 + (i : Int))), .int 3]) = H9 at s9 e9 ⊢
        have hi9 : i < 9 := hi
        obtain ⟨acc, h1, h2, h3, h4⟩ := put_more2 (v := .ref q) (d := mD (rL.mo.1 + 1 + (i : Int), 3)) hD (s8.trans s9) (ls8.to s9) (Tp.mo (by rw [e9, Int.zero_add])) (by rw [List.length_map, List.length_map, List.length_range]; omega)
        refine ⟨acc, h1, h2, h3, ?_⟩
        rw [List.range_succ, List.map_append, List.map_append]
        exact h4
      rintro H8 ⟨s8, ls8⟩
      obtain ⟨x1, hx1, lx1⟩ := (lsM.to s8).ex
      obtain ⟨x2, hx2, lx2⟩ := ls8.ex
      rw [List.length_map] at lx1 lx2
      rw [List.length_map, List.length_range] at lx2
      have hml9 : ms1.length = 9 := hml
      have lx2' : x2.length = 9 := lx2
      refine ⟨m1, D, x1, x2, rfl, rfl, hx1, hx2, by rw [lx1, lx2', hml9]; decide, fun ma hma => ?_⟩
      have s9 := Same.new (o := .lst (x1 ++ x2)) hma
      have s79 := s8.trans s9
      refine ⟨_, ma, ms1 ++ (List.range 9).map fun (j : Nat) => ((rL.mo.1 + 1 + (j : Int), 3) : Mo), rfl, ⟨(pen7.to s79).up (by omega), (tabs_kp tabs6 k7 pen6).ext s79, s79.seq (sq_kp hS6 pen6 k7), s79 _ _ (k7 _ _ (pen6.ne hla6) hla6), (B6.keep (pen6.kb k7)).keep (KB.of s79), (lsR6.kpp pen6 k7).to s79, ?_⟩, ?_, fun m hm => ?_⟩
      · obtain ⟨y1, hy1, ry1⟩ := lsM.to s8
        obtain ⟨y2, hy2, ry2⟩ := ls8
        rw [hx1] at hy1
        rw [hx2] at hy2
        cases hy1
        cases hy2
        refine ⟨_, upd_same, ?_⟩
        rw [List.map_append]
        exact (ry1.to (TK.of s9)).app (ry2.to (TK.of s9))
      · rw [List.length_append, List.length_map, List.length_range, hml9]
      · rcases List.mem_append.mp hm with h | h
        · have := hok m h
          unfold MoM at this
          unfold MoOk
          omega
        · obtain ⟨j, hj, rfl⟩ := List.mem_map.mp h
          have := List.mem_range.mp hj
          unfold MoS at okL
          unfold MoOk
          simp only
          omega
    clear B6 hS6 tabs6 hla6 lsR6 pen6 lsR pen4 rrx hrx hrl s6
    rintro σ7 H7 ⟨v5', ma, ms, rfl, core, hm18, hmok⟩
    have pur0 : Pur rs rs 12 := ⟨List.Perm.refl _, TT.good.W, TT.good.ok, TT.rise, TT.named (fun z => by rw [z] at rl12; simp at rl12), rl12.2⟩
    refine ⟨_, rfl, _, _, rfl, .inl core.sq, _, _, rfl, ?_⟩
    generalize hN : (if ((ns.map V.int).length : Int) < 10 then ((ns.map V.int).length : Int) else 10) = N
    have hN0 : 0 ≤ N ∧ N ≤ 10 := by
      rw [← hN]
      split <;> omega
    refine ⟨_, _, rfl, rfl, _, rfl, by omega, by omega, for_range (lo := 0) (n := (4 + N).toNat) (fun i σ' H' => ∃ (v5 v7 v8 : Option V) (ra : Addr) (R ro : List Row), σ' = [some (.ref a), some (.ref p), some (.ref la), some (.ref ra), some (.ref bk), v5, some (.ref ma), v7, v8, none] ∧ Cor K C T a p c la bk ra ma ns lot ms (10000 + 30 * i) R ro H' ∧ Pur R ro (12 + i))
      ⟨v5', none, none, ra, rs, rs, rfl, core.up (by omega), pur0⟩ ?_ ?_⟩
    · rintro i σ8 H8 hi ⟨v5, v7, v8, ra, R, ro, rfl, core, pur⟩
      have hi14 : i < 14 := by omega
      have hRl := pur.len
      refine ⟨_, rfl, _, rfl, _, rfl, _, rfl, p, c, _, ra, la, ma, R, lot, ms, rfl, core.pen, by omega, core.ra, core.lot, core.ma, pur.nm, by omega, pur.w, pur.ok, hl6, hlw, by omega, by omega, hmok, fun H9 t v an x dd n kd k9 pen9 TA mt hz => ?_⟩
      have core9 := core.kp k9 pen9
      refine ⟨_, rfl, _, rfl, ra, t, an, v, x, dd, n, kd, R, rfl, core9.ra, TA, mt.fl, mt.mo, by omega, pur.w, rise_nd pur.rise, fun H10 w1 δ s10 D o10 => ?_⟩
      have core10 := core9.same s10
      have TA10 := TA.to s10
      apply shareH (S := fun H' => ∃ ro', Cor K C T a p c la bk ra ma ns lot ms (10000 + 30 * i + 20) R ro' H' ∧ TryAt H' t v an x dd n kd ∧ ((w1 = .non ∧ ∃ m, dd = mD m ∧ MoOk m ∧ m ∉ R.map Row.mo ∧ ro' = ro ++ [kd.row m n]) ∨ (w1 ≠ .non ∧ ro' = ro)))
      · intro cc
        refine ⟨core10.tabs, fun H11 x11 tabs11 => ?_⟩
        have core11 := core10.ext x11 tabs11
        have TA11 := TA10.ke (ke_ext x11)
        unfold TTref
        dsimp only
        refine ⟨_, rfl, _, rfl, bk, t, an, v, dd, n, ro, rfl, core11.book, TA11.ob, TA11.han, by rw [pur.pm.length_eq]; omega, tell_due pur.pm TA11 D (fun C' f' s' d y hm hδ ob => fun H12 dx s12 hd => ⟨dx, y, C', f', s', rfl, rfl, hd, hm, fun G a' sG hG => ?_⟩) (fun hδ m em hmo hmn H12 kd12 B12 => ?_)⟩
        · have o10' := o10
          have D' := D
          rw [hδ] at o10' D'
          obtain ⟨a1, x1, ew1, ha1, ob1⟩ := o10'
          obtain ⟨sh1, sh2⟩ := shaped_out (due_lay D' ⟨mt.sh, mt.dp⟩ hz)
          have lay := due_lay D' ⟨mt.sh, mt.dp⟩ hz
          have s13 := Same.new (o := .tup [.str s', y]) hG
          have e13 := upd_same (H := G) (a := a') (o := .tup [.str s', y])
          generalize upd G a' (.tup [.str s', y]) = H13 at s13 e13 ⊢
          have ke12 : Ke H11 H13 := (Ke.of s12).trans ((Ke.of sG).trans (Ke.of s13))
          have ke10 : Ke H10 H13 := (ke_ext x11).trans ke12
          refine ⟨_, rfl, _, _, .tup (SqT.of e13) (.cons (.str _) (.cons ((ob.to ke12).dp lay.1) .nil)), (by rw [ew1]; exact .tup (SqT.of (ke10.tk _ _ ha1)) (.cons (.str _) (.cons ((ob1.to ke10).dp lay.1) .nil))), sh1, sh1, _, rfl, ?_⟩
          rw [SeqAt.eqv_refl _ sh2]
          refine iteF ?_
          exact cc H13 ⟨ro, ((core11.same (s12.trans (sG.trans s13))).up (by omega)), TA11.ke ke12, .inr ⟨(fun z => by rw [ew1] at z; cases z), rfl⟩⟩
        · have o10' := o10
          rw [hδ] at o10'
          have hw1 : w1 = .non := o10'
          refine ⟨_, rfl, _, rfl, .none, .none, .non, by rw [hw1]; exact .non, rfl, rfl, _, rfl, iteF ?_⟩
          exact cc H12 ⟨ro ++ [kd.row m n], (core11.kd kd12 B12).up (by omega), TA11.ke (ke_kd kd12), .inl ⟨hw1, m, em, hmo, hmn, rfl⟩⟩
      rintro H13 ⟨ro', core, TA, cas⟩
      clear core9 core10 TA10 o10 D s10 pen9 k9
      refine ⟨fun σ' H' => ∃ (ra' : Addr) (R' : List Row), σ' = [some (.ref a), some (.ref p), some (.ref la), some (.ref ra'), some (.ref bk), some (.ref t), some (.ref ma), some (.int (0 + (i : Int))), some w1, none] ∧ Cor K C T a p c la bk ra' ma ns lot ms (10000 + 30 * i + 20) R' ro' H' ∧ Pur R' ro' (12 + i + 1), ?_, ?_⟩
      · refine ⟨_, rfl, rfl, _, rfl, ?_⟩
        rcases cas with ⟨hw, m, em, hmo, hmn, ero⟩ | ⟨hw, ero⟩
        · rw [decide_eq_true hw]
          refine iteT ?_
          subst em
          have tv := TA.row
          obtain ⟨ax, hax, rax⟩ := id core.ra
          have hal : ax.length = R.length := by rw [rax.len, List.length_map]
          refine ⟨_, rfl, _, rfl, by show 1 ≤ sizeLine; decide, fun L hL => ?_⟩
          have s11 : Same H13 (upd H13 L (.lst [.ref t])) := Same.new hL
          have hL11 : (upd H13 L (.lst [.ref t])) L = some (.lst [.ref t]) := upd_same
          generalize (upd H13 L (.lst [.ref t])) = H14 at s11 hL11
          refine ⟨ra, L, ax, [.ref t], rfl, rfl, s11 _ _ hax, hL11, Nat.le_of_lt (small1000 (by show ax.length + 1 ≤ 1000; omega)), fun X hX => ?_⟩
          have s12 : Same H14 (upd H14 X (.lst (ax ++ [.ref t]))) := Same.new hX
          have hX12 : (upd H14 X (.lst (ax ++ [.ref t]))) X = some (.lst (ax ++ [.ref t])) := upd_same
          generalize (upd H14 X (.lst (ax ++ [.ref t]))) = H15 at s12 hX12
          have s02 := s11.trans s12
          have core := core.same s02
          have rX : TpAll H15 (ax ++ [.ref t]) ((R ++ [kd.row m n]).map Row.d) := by rw [List.map_append]; exact (rax.to (TK.of s02)).snoc (tv.to (TK.of s02))
          have ndX : ((R ++ [kd.row m n]).map Row.mo).Nodup := by
            rw [List.map_append, List.nodup_append]
            exact ⟨rise_nd pur.rise, by simp, fun x hx y hy => by rw [List.map_singleton, List.mem_singleton, Kd.row_mo] at hy; rw [hy]; exact fun z => hmn (z ▸ hx)⟩
          refine ⟨X, ax ++ [.ref t], _, rfl, hX12, by rw [List.length_append]; show ax.length + 1 ≤ 900; omega, key_rows rX, core.tabs, fun H16 p9 qs ext tabs13 hp9 pm9 pw9 => ?_⟩
          have core := core.ext ext tabs13
          obtain ⟨R', pR, rise', tR⟩ := sorted_rows (rX.to (tk_ext ext)) pm9 pw9 ndX
          have s14 : Same H16 (upd H16 p9 (.lst (qs.map Prod.fst))) := Same.new hp9
          have lsR : Ls (upd H16 p9 (.lst (qs.map Prod.fst))) p9 (R'.map Row.d) := ⟨_, upd_same, tR.to (TK.of s14)⟩
          generalize (upd H16 p9 (.lst (qs.map Prod.fst))) = H17 at s14 lsR
          have core := core.same s14
          refine ⟨p9, R', rfl, ⟨core.pen, core.tabs, core.sq, core.lot, core.book, lsR, core.ma⟩, ?_⟩
          rw [ero]
          exact pur.step hmo hz rise' pR
        · rw [decide_eq_false hw]
          refine iteF ?_
          exact ⟨ra, R, rfl, core, by rw [ero]; exact pur.up⟩
      clear cas TA core pur hRl
      rintro σ9 H14 ⟨ra', R', rfl, core, pur⟩
      have hRl := pur.len
      have hro := pur.pm.length_eq
      obtain ⟨dx, en, nn, kvs, nkv, B⟩ := id core.book
      refine ⟨_, rfl, bk, dx, _, rfl, B.ob, bf_no _ _ (by decide +kernel) (by decide +kernel), bk, .non, none, ro', rfl, core.book, rfl, by omega, fun H15 l srt s15 l0 pm15 rise15 ls15 => ?_⟩
      have es : srt = R' := rise_perm (pm15.trans pur.pm) rise15 pur.rise
      rw [es, show (R'.filter fun r => upB r.mo none) = R' from List.filter_eq_self.mpr fun _ _ => rfl] at ls15
      have core := core.same s15
      refine ⟨_, rfl, _, _, ls15.dp, core.ra.dp, shaped_rows pur.w, shaped_rows pur.w, _, rfl, ?_⟩
      rw [SeqAt.eqv_refl _ (lay_rows pur.w)]
      refine iteF ?_
      obtain ⟨dx, en, nn, kvs, nkv, B⟩ := id core.book
      obtain ⟨ax, hax, rax⟩ := id core.ra
      have hal : ax.length = R'.length := by rw [rax.len, List.length_map]
      refine ⟨_, rfl, bk, dx, _, rfl, B.ob, bk, ro', rfl, core.book, ro'.length, rfl, by omega, ?_⟩
      refine ⟨_, rfl, _, _, rfl, .inl (SqL.of hax), ?_⟩
      refine ⟨rfl, _, rfl, ?_⟩
      rw [int_dec, decide_eq_true (show (ro'.length : Int) = ((ax.length : Nat) : Int) by omega)]
      refine iteF ?_
      exact ⟨_, _, _, ra', R', ro', rfl, core.up (by omega), by rw [← Nat.add_assoc]; exact pur⟩
    · rintro σ8 H8 ⟨v5, v7, v8, ra, R, ro, rfl, _⟩
      exact k _
  obtain ⟨t, ht, hq⟩ := main
  exact ⟨t, ht.nox, hq⟩
end
end KN


set_option Elab.async false
set_option linter.all false
set_option maxRecDepth 100000
set_option maxHeartbeats 4000000
/-! The end, where the law's own run wants to know that no repr is under way. -/
namespace KN
open PySem PySem.Spec PyProof.Rows L2 LamX
/-- what is tracked at first: the tables, and the script where the written part has it not -/
def seen (ts : List Addr) (a : Addr) (vs : List Value) (ns : List Int) (own : Bool) : Hp := fun b =>
  if b ∈ ts then some (.tbl #[]) else if own = true ∧ b = a then some (.frz ⟨.type "list", none, .seq vs.toArray 0, #[]⟩ (.lst (ns.map V.int))) else none
section
variable {ts : List Addr} {a : Addr} {vs : List Value} {ns : List Int} {own : Bool} {b : Addr}
theorem seen_tab (h : b ∈ ts) : seen ts a vs ns own b = some (.tbl #[]) := if_pos h
theorem seen_off (h : b ∉ ts) (n : ¬ (own = true ∧ b = a)) : seen ts a vs ns own b = none := by
  unfold seen; rw [if_neg h, if_neg n]
theorem seen_cases {u : HO} (h : seen ts a vs ns own b = some u) : (b ∈ ts ∧ u = .tbl #[]) ∨ (b ∉ ts ∧ own = true ∧ b = a ∧ u = .frz ⟨.type "list", none, .seq vs.toArray 0, #[]⟩ (.lst (ns.map V.int))) := by
  unfold seen at h
  by_cases m : b ∈ ts
  · rw [if_pos m] at h; exact .inl ⟨m, (Option.some.inj h).symm⟩
  · rw [if_neg m] at h
    by_cases n : own = true ∧ b = a
    · rw [if_pos n] at h; exact .inr ⟨m, n.1, n.2, (Option.some.inj h).symm⟩
    · rw [if_neg n] at h; cases h
end
theorem not_tab {h : Heap} {b : Addr} {o : Obj} (e : h.get? b = some o) (t : h.get? b = some { cls := .none, data := .fields #[] }) : o.data = .fields #[] := by
  rw [e] at t; cases t; rfl
/-- the law called by the claim's caller: its own run is told of that place alone -/
theorem called_there {P : Program} {w : World} {K : PySem.W.Frag} {mg mb : Str → Option Value} {fa a : Addr} {cs : List (Addr × Addr)} {fd : FuncData} {x : Str} {sp : Sp} {s₁ : Shared} {vs : List Value} {ns : List Int}
    (kin : K.In s₁.heap) (glob : s₁.heap.Ns mainGlobals mg) (blt : s₁.heap.Ns builtinsNs mb) (boot : ∀ x : Str, x ≠ "__name__" → mb x = bootBuiltins x) (free : s₁.heap.NoLimit) (still : s₁.gens = #[])
    (tabs : ∀ p ∈ cs, s₁.heap.get? p.2 = some { cls := .none, data := .fields #[] }) (apart : ∀ p ∈ cs, K.lookup p.2 = none) (heads : ∀ p ∈ cs, PySem.W.CodeHd s₁.heap p.1 p.2)
    (bm : ∃ (bm : Addr) (ob : Obj), mg "__builtins__" = some (.ref bm) ∧ bm ≠ builtinsNs ∧ s₁.heap.get? bm = some ob ∧ ob.cls = .type "module" ∧ ob.dict = some builtinsNs ∧ ob.data = .plain)
    (arg : s₁.heap.get? a = some { cls := .type "list", data := .seq vs.toArray }) (whole : IntsAre vs ns) (few : ns.length ≤ sizeLine)
    (run : ∀ (base : Heap) (H : Hp), K.In base → base.Ns mainGlobals mg → (∀ p ∈ cs, TabB base mg p.1 p.2) → Env0 P w K mg base callerA [] s₁ H → BindsTo s₁ fd ⟨[.ref a], []⟩ [(x, .ref a)] → Vals [V.ref a] [Value.ref a] → sp [.ref a] H (fun v _ => v = .bl true) (fun _ _ _ => False) →
      codeAny (model P w) callerA (.call (.ref fa) ⟨[.ref a], []⟩) (CR C8.CX0 [] P w H s₁ (fun v _ => v = .bl true) (fun _ _ _ => False)) s₁)
    (bind : ∀ (s : Shared) (u : Value), BindsTo s fd ⟨[u], []⟩ [(x, u)])
    (told : ∀ H : Hp, (∀ p ∈ cs, H p.2 = some (.tbl #[])) → SqL K H a (ns.map V.int) → sp [.ref a] H (fun v _ => v = .bl true) fun _ _ _ => False) :
    codeAny (model P w) callerA (.call (.ref fa) ⟨[.ref a], []⟩) (fun r s' => r = .ok (.ret (.bool true)) ∧ OldK s₁.heap s'.heap ∧ s'.os = s₁.os ∧ AllBare s'.gens) s₁ := by
  have rv := vals_ints whole
  have lenV := whole.length
  have inT : ∀ {p : Addr × Addr}, p ∈ cs → p.2 ∈ cs.map (·.2) := fun hp => List.mem_map.mpr ⟨_, hp, rfl⟩
  have tabAt : ∀ {b : Addr}, b ∈ cs.map (·.2) → s₁.heap.get? b = some { cls := .none, data := .fields #[] } := fun hb => by
    obtain ⟨p, hp, rfl⟩ := List.mem_map.mp hb
    exact tabs p hp
  have aOff : a ∉ cs.map (·.2) := fun z => by
    have q := not_tab arg (tabAt z)
    cases q
  obtain ⟨own, ownIff⟩ : ∃ own : Bool, own = true ↔ K.lookup a = none := ⟨decide (K.lookup a = none), by simp⟩
  generalize hH : seen (cs.map (·.2)) a vs ns own = H
  have at_ : ∀ {b : Addr} {u : HO}, H b = some u → (b ∈ cs.map (·.2) ∧ u = .tbl #[]) ∨ (b ∉ cs.map (·.2) ∧ own = true ∧ b = a ∧ u = .frz ⟨.type "list", none, .seq vs.toArray 0, #[]⟩ (.lst (ns.map V.int))) := fun e => by
    rw [← hH] at e; exact seen_cases e
  have tabH : ∀ p ∈ cs, H p.2 = some (.tbl #[]) := fun p hp => by rw [← hH]; exact seen_tab (inT hp)
  -- what is neither a list nor an empty table isn't tracked
  have plain : ∀ {b : Addr} {o : Obj}, s₁.heap.get? b = some o → (∀ its n, o.data ≠ .seq its n) → o.data ≠ .fields #[] → H b = none := fun {b o} e n1 n2 => by
    cases q : H b with
    | none => rfl
    | some u =>
      rcases at_ q with ⟨m, _⟩ | ⟨_, _, rfl, _⟩
      · exact (n2 (not_tab e (tabAt m))).elim
      · rw [arg] at e; cases e; exact (n1 _ _ rfl).elim
  have dictOff : ∀ {b : Addr} {o : Obj} {es : Array DictEntry} {n : Nat}, s₁.heap.get? b = some o → o.data = .dict es n → H b = none := fun e d =>
    plain e (fun its n z => by rw [d] at z; cases z) (fun z => by rw [d] at z; cases z)
  have inK : ∀ {b : Addr} {o : Obj}, K.lookup b = some o → H b = none := fun {b o} e => by
    cases q : H b with
    | none => rfl
    | some u =>
      rcases at_ q with ⟨m, _⟩ | ⟨_, ho, rfl, _⟩
      · obtain ⟨p, hp, rfl⟩ := List.mem_map.mp m
        rw [apart p hp] at e; cases e
      · rw [ownIff.mp ho] at e; cases e
  have script : SqL K H a (ns.map V.int) := by
    cases hk : K.lookup a with
    | some o =>
      have e := kin a o hk
      rw [arg] at e; cases e
      exact .inr ⟨_, vs.toArray, 0, hk, rfl, rfl, rfl, by rw [List.size_toArray, lenV]; exact few, by simpa using rv⟩
    | none => exact .inl (.inr ⟨_, by rw [← hH]; unfold seen; rw [if_neg aOff, if_pos ⟨ownIff.mpr hk, rfl⟩]⟩)
  have hok : HOk P w H s₁.heap := fun b u e => by
    rcases at_ e with ⟨m, rfl⟩ | ⟨_, _, rfl, rfl⟩
    · exact tabAt m
    · exact ⟨arg, by rw [List.length_map]; exact few, vs, 0, rv, arg⟩
  have nsB : ∀ {b : Addr} {m : Str → Option Value}, s₁.heap.Ns b m → (hidT s₁.heap H).Ns b m := fun ⟨o, es, n, e, d, r⟩ => ⟨o, es, n, hidT_get e (dictOff e d), d, r⟩
  have kinB : K.In (hidT s₁.heap H) := fun b o e => hidT_get (kin b o e) (inK e)
  have tb : ∀ p ∈ cs, TabB (hidT s₁.heap H) mg p.1 p.2 := fun p hp => by
    refine ⟨?_, ?_, fun z => ?_⟩
    · obtain ⟨o, us, file, tf, flags, tg, inF, text, tt, e, r1, r2, r3, rest⟩ := heads p hp
      exact ⟨o, us, file, tf, flags, tg, inF, text, tt, hidT_get e (plain e (fun its n z => by rw [r2] at z; cases z) (fun z => by rw [r2] at z; cases z; simp at r3)), r1, r2, r3, rest⟩
    · obtain ⟨bm, ob, b1, b2, b3, b4, b5, b6⟩ := bm
      refine ⟨bm, ob, b1, b2, fun q => ?_, fun q => ?_, hidT_get b3 (plain b3 (fun its n z => by rw [b6] at z; cases z) (fun z => by rw [b6] at z; cases z)), b4, b5, b6⟩
      · obtain ⟨o, es, n, e, d, _⟩ := glob
        rw [q, e] at b3; cases b3; rw [d] at b6; cases b6
      · have := not_tab b3 (by rw [q]; exact tabs p hp)
        rw [b6] at this; cases this
    · obtain ⟨o, es, n, e, d, _⟩ := glob
      rw [z] at e
      have := not_tab e (tabs p hp)
      rw [d] at this; cases this
  have e0 : Env0 P w K mg (hidT s₁.heap H) callerA [] s₁ H := ⟨rfl, ⟨kinB, nsB glob, ⟨mb, nsB blt, boot⟩, let ⟨mc, h1, h2⟩ := free; ⟨mc, nsB h1, h2⟩⟩, fun b o e => of_hidT e, Nat.le_of_eq (hidT_size _ _), trivial,
    (fun b hb => absurd (show b ∈ ([] : List Addr) from hb) (by simp)), hok, .of_eq still⟩
  refine codeAny_mono (run _ H kinB (nsB glob) tb e0 (bind s₁ (.ref a)) (.cons rfl .nil) (told H tabH script)) fun r s' out => ?_
  match r, out with
  | .error e, out => exact (show False from out).elim
  | .ok (.ret u), out =>
    obtain ⟨v, H', os, bare, un, hok', ru, rfl⟩ := out
    obtain rfl : u = Value.bool true := ru
    have kept : ∀ b o, b ∉ cs.map (·.2) → s₁.heap.get? b = some o → s'.heap.get? b = some o := fun b o nb e => by
      cases q : H b with
      | none => exact un.keep b o e q (fun z => absurd (show b ∈ ([] : List Addr) from z) (by simp)) (by simp)
      | some u =>
        rcases at_ q with ⟨m, _⟩ | ⟨_, _, rfl, rfl⟩
        · exact (nb m).elim
        · obtain ⟨z1, _⟩ := hok _ _ q
          obtain ⟨z2, _⟩ := hok' _ _ (un.frzs _ _ _ q)
          rw [e] at z1; cases z1; exact z2
    have grown : ∀ p ∈ cs, ∃ more : Array Value, s'.heap.get? p.2 = some { cls := .none, data := .fields more } := fun p hp => by
      obtain ⟨more, z⟩ := un.tbls p.2 #[] (tabH p hp)
      exact ⟨_, hok' _ _ z⟩
    have two : ∀ b o, s₁.heap.get? b = some o → (b ∈ cs.map (·.2) ∧ ∃ p ∈ cs, p.2 = b) ∨ b ∉ cs.map (·.2) := fun b o e => by
      by_cases m : b ∈ cs.map (·.2)
      · obtain ⟨p, hp, z⟩ := List.mem_map.mp m
        exact .inl ⟨m, p, hp, z⟩
      · exact .inr m
    refine ⟨rfl, ⟨fun b o e => ?_, fun b o e => ?_⟩, os, bare⟩
    · rcases two b o e with ⟨_, p, hp, rfl⟩ | nb
      · obtain ⟨more, hm⟩ := grown p hp
        rw [tabs p hp] at e; cases e
        exact .inr (.inl ⟨((heads p hp).tab (tabs p hp)).isCodeTable, rfl, #[], more, rfl, by rw [Array.empty_append]; exact hm⟩)
      · exact .inl (kept b o nb e)
    · rcases two b o e with ⟨_, p, hp, rfl⟩ | nb
      · exact ⟨_, (grown p hp).choose_spec⟩
      · exact ⟨o, kept b o nb e⟩
theorem walk_there {l : PySem.W.OpenLaw} {n : Nat} {q : Program} {loose : List Str} {XP : (Str → Option Value) → Heap → Prop} {YP : World → Heap → Prop} {d : DefRec} {x : Str} (most : l.most = some n) (fits : n ≤ sizeLine) (plain : d.params.defaults = [])
    (F : ∀ (w : World) (mg : Str → Option Value) (fa : Addr) (h : Heap), YP w h → h.Ns mainGlobals mg → mg d.name = some (.ref fa) →
      ∃ (K : PySem.W.Frag) (fd : FuncData) (cs : List (Addr × Addr)) (sp : Sp), K.In h ∧ (∀ p ∈ cs, h.get? p.2 = some { cls := .none, data := .fields #[] }) ∧ (∀ p ∈ cs, K.lookup p.2 = none) ∧ (∀ p ∈ cs, PySem.W.CodeHd h p.1 p.2) ∧ (∀ (s : Shared) (u : Value), BindsTo s fd ⟨[u], []⟩ [(x, u)]) ∧
        (∀ (H : Hp) (a : Addr) (ns : List Int), ns.length ≤ n → (∀ p ∈ cs, H p.2 = some (.tbl #[])) → SqL K H a (ns.map V.int) → sp [.ref a] H (fun v _ => v = .bl true) fun _ _ _ => False) ∧
        ∀ (s₁ : Shared) (base : Heap) (H : Hp) (a : Addr), K.In base → base.Ns mainGlobals mg → (∀ p ∈ cs, TabB base mg p.1 p.2) → Env0 l.prog w K mg base callerA [] s₁ H → BindsTo s₁ fd ⟨[.ref a], []⟩ [(x, .ref a)] → Vals [V.ref a] [Value.ref a] → sp [.ref a] H (fun v _ => v = .bl true) (fun _ _ _ => False) →
          codeAny (model l.prog w) callerA (.call (.ref fa) ⟨[.ref a], []⟩) (CR C8.CX0 [] l.prog w H s₁ (fun v _ => v = .bl true) (fun _ _ _ => False)) s₁) :
    PySem.W.WalkO q loose XP YP l.row.toRowW d [] (fun f vs => PySem.call f vs) := by
  refine Att.attach_callB most plain fun w s₀ s₁ mg mb fa o pm cd doc a vs ns G Y ho hd hcd hmg arg whole short _ still => ?_
  obtain ⟨K, fd, cs, sp, kin, tabs, apart, heads, bind, told, run⟩ := F w mg fa _ Y G.T.g hmg
  exact called_there kin G.T.g G.T.b G.T.builtins G.T.nolimit still tabs apart heads G.T.bmain arg whole (Nat.le_trans short fits) (fun base H => run s₁ base H a) bind fun H t => told H a ns short t
end KN

set_option Elab.async false
set_option linter.all false
set_option maxRecDepth 100000
set_option maxHeartbeats 4000000
/-! What a look at the written part says of an own exception's class. -/
namespace KN
open PySem PySem.Spec PyProof.Rows L2
theorem madeB_ok {K : PySem.W.Frag} {C : Addr} {bm : List Value} {nw : String} (mb : MadeBy nw bm) (h : madeB K C bm nw = true) :
    ∃ nm qn N bs bm sn sb ab col dd k0 k1 k2 k3 k5 nw, K.lookup C = some (excClassObj nm qn C N bs bm true sn sb ab col dd k0 k1 k2 k3 k5 nw) ∧ MadeBy nw bm := by
  unfold madeB at h
  split at h
  · rename_i t dd cd sl look
    simp only [Bool.and_eq_true, decide_eq_true_eq, beq_iff_eq, Bool.not_eq_true'] at h
    obtain ⟨⟨⟨⟨rfl, h2⟩, h3⟩, h4⟩, h5⟩ := h
    split at h2
    · rename_i k0 k1 k2 k3 n k5 hs
      have e := of_decide_eq_true h2
      subst e
      obtain ⟨nm, bs, mro, ns, qn, hd, sn, sb, ab, col, del⟩ := cd
      dsimp only at h3 h4 h5
      subst h3 h4 h5
      have hsl : sl = #[k0, k1, k2, k3, some (.builtin n), k5] := by
        obtain ⟨l⟩ := sl
        simp only at hs
        rw [hs]
      subst hsl
      exact ⟨nm, qn, ns, bs, bm, sn, sb, ab, col, dd, k0, k1, k2, k3, k5, n, look, mb⟩
    · cases h2
  · cases h
structure ExcX (K : PySem.W.Frag) (C : Addr) (f : Str) (B : String) (fI : Addr) : Prop where
  cls : OexG K C
  plain : PySem.W.findIn K (.ref C) f = some none
  met : ExcMet K C B
  init : PySem.W.findIn K (.ref C) "__init__" = some (some (.ref fI))
  fn : PySem.W.typeIn K (.ref fI) = some (.type "function")
theorem excB_ok {K : PySem.W.Frag} {C : Addr} {f : Str} {B : String} {fI : Addr} {bm : List Value} {nw : String} (mb : MadeBy nw bm) (h : excB K C f B fI bm nw = true) : ExcX K C f B fI := by
  unfold excB at h
  obtain ⟨h1, h⟩ := Bool.and_eq_true_iff.mp h
  obtain ⟨h2, h⟩ := Bool.and_eq_true_iff.mp h
  obtain ⟨h3, h⟩ := Bool.and_eq_true_iff.mp h
  obtain ⟨h4, h⟩ := Bool.and_eq_true_iff.mp h
  obtain ⟨h5, h⟩ := Bool.and_eq_true_iff.mp h
  obtain ⟨h6, h⟩ := Bool.and_eq_true_iff.mp h
  obtain ⟨h7, h⟩ := Bool.and_eq_true_iff.mp h
  obtain ⟨h8, h⟩ := Bool.and_eq_true_iff.mp h
  obtain ⟨h9, h⟩ := Bool.and_eq_true_iff.mp h
  obtain ⟨h10, h⟩ := Bool.and_eq_true_iff.mp h
  obtain ⟨h11, h⟩ := Bool.and_eq_true_iff.mp h
  obtain ⟨h12, h⟩ := Bool.and_eq_true_iff.mp h
  obtain ⟨h13, h⟩ := Bool.and_eq_true_iff.mp h
  obtain ⟨h14, h15⟩ := Bool.and_eq_true_iff.mp h
  have xf := xfB_ok h7
  exact ⟨⟨madeB_ok mb h1, of_decide_eq_true h2, of_decide_eq_true h3, of_decide_eq_true h4, h5⟩, of_decide_eq_true h6,
    ⟨xf, ⟨xf.ga, xf.gg, xf.exC, xf.hdC, of_decide_eq_true h8, of_decide_eq_true h9, of_decide_eq_true h10, of_decide_eq_true h11⟩, of_decide_eq_true h12, of_decide_eq_true h13⟩, of_decide_eq_true h14, of_decide_eq_true h15⟩
end KN

set_option Elab.async false
set_option linter.all false
set_option maxRecDepth 100000
set_option maxHeartbeats 4000000
namespace KN
open PySem L2
theorem fun_of {K : PySem.W.Frag} {x qual : Str} {st : Stmt} {f : Addr} {fd : FuncData} {kws : List (Str × V)} (F : FunD K x qual (defArgs st) (defBody st) (defScope st) [] kws f fd) : Fun K x qual st f fd := by
  obtain ⟨⟨oc, od, dV, kV, doc, pm, an, cdv, ct, osl, e, l, c, h, _⟩, k⟩ := F
  rcases h with ⟨_, rfl⟩ | ⟨h, _⟩
  · exact ⟨⟨oc, od, kV, doc, pm, an, cdv, ct, osl, e, l, c⟩, k⟩
  · exact absurd rfl h
theorem fund_form {K : PySem.W.Frag} {x qual : Str} {params : Arguments} {body : List Stmt} {scope : Scope} {f : Addr} {fd : FuncData} {dvs : List V} {kws : List (Str × V)} (F : FunD K x qual params body scope dvs kws f fd) (e : dvs = []) : ∃ (kV doc pm : Value) (an : Option Addr) (cdv ct : Value), fd = PySem.W.fnOf x qual params body scope .none kV doc pm an cdv ct := by
  subst e
  obtain ⟨⟨oc, od, dV, kV, doc, pm, an, cdv, ct, osl, e, l, c, h, _⟩, k⟩ := F
  rcases h with ⟨_, rfl⟩ | ⟨h, _⟩
  · exact ⟨kV, doc, pm, an, cdv, ct, e⟩
  · exact absurd rfl h
set_option maxHeartbeats 0 in
theorem facts {l : PySem.W.OpenLaw} {w : World} {K : PySem.W.Frag} {h : Heap} {mg : Str → Option Value} {f : Addr} (X : K.In h) (G : h.Ns mainGlobals mg) (hfa : mg "law" = some (.ref f)) (cY : SaysY fa fn tf_ ex h K) :
    ∃ fd : FuncData, (∀ (s : Shared) (v : Value), BindsTo s fd ⟨[v], []⟩ [("_law_script", v)]) ∧ ∀ (s₁ : Shared) (base : Heap) (H : Hp) (a : Addr), K.In base → base.Ns mainGlobals mg → (∀ p ∈ [He.cT K ("law", none)], LamX.TabB base mg p.1 p.2) → Env0 l.prog w K mg base callerA [] s₁ H → BindsTo s₁ fd ⟨[.ref a], []⟩ [("_law_script", .ref a)] → Vals [V.ref a] [Value.ref a] → spLawB (tabT K) K [.ref a] H (fun v _ => v = .bl true) (fun _ _ _ => False) →
      codeAny (model l.prog w) callerA (.call (.ref f) ⟨[.ref a], []⟩) (CR C8.CX0 [] l.prog w H s₁ (fun v _ => v = .bl true) (fun _ _ _ => False)) s₁ := by
  have c := cY.d
  have cx := cY.more
  have e := hfa.symm.trans (He.glo_ok X G (c.fact 0 rfl))
  cases e
  obtain ⟨z_x_BadMoment, cx⟩ := He.ba cx
  obtain ⟨z_x_SameMoment, cx⟩ := He.ba cx
  obtain ⟨z_x_NoName, cx⟩ := He.ba cx
  obtain ⟨z_x_Later, cx⟩ := He.ba cx
  obtain ⟨z_x_Unfit, cx⟩ := He.ba cx
  obtain ⟨z_x_NoSheet, cx⟩ := He.ba cx
  obtain ⟨z_no, cx⟩ := He.ba cx
  obtain ⟨z_kS, cx⟩ := He.ba cx
  obtain ⟨z_kN, cx⟩ := He.ba cx
  obtain ⟨z_ln, cx⟩ := He.ba cx
  have z_lf := cx
  have X_BadMoment : ExcX K (He.ga K "BadMoment") "moment" "ValueError" (He.fAd K ("BadMoment", some "__init__")) := excB_ok val_made z_x_BadMoment
  have X_SameMoment : ExcX K (He.ga K "SameMoment") "moment" "LookupError" (He.fAd K ("SameMoment", some "__init__")) := excB_ok look_made z_x_SameMoment
  have X_NoName : ExcX K (He.ga K "NoName") "moment" "KeyError" (He.fAd K ("NoName", some "__init__")) := excB_ok key_made z_x_NoName
  have X_Later : ExcX K (He.ga K "Later") "moment" "LookupError" (He.fAd K ("Later", some "__init__")) := excB_ok look_made z_x_Later
  have X_Unfit : ExcX K (He.ga K "Unfit") "moment" "RuntimeError" (He.fAd K ("Unfit", some "__init__")) := excB_ok run_made z_x_Unfit
  have X_NoSheet : ExcX K (He.ga K "NoSheet") "sheet" "KeyError" (He.fAd K ("NoSheet", some "__init__")) := excB_ok key_made z_x_NoSheet
  have OL : OwnLen K (He.ga K "Book") (He.fAd K ("Book", some "__len__")) := ⟨of_decide_eq_true z_ln, z_lf⟩
  have K_Book : BkT K (He.ga K "Book") := ⟨He.cls_ok (c.fact 1 rfl), He.noat_ok (c.fact 2 rfl), He.noat_ok (c.fact 3 rfl)⟩
  have m_isinstance := He.free_ok X G (c.fact 4 rfl)
  have m_ValueError := He.free_ok X G (c.fact 5 rfl)
  have m_KeyError := He.free_ok X G (c.fact 6 rfl)
  have m_LookupError := He.free_ok X G (c.fact 7 rfl)
  have m_RuntimeError := He.free_ok X G (c.fact 8 rfl)
  have m_len := He.free_ok X G (c.fact 9 rfl)
  have m_abs := He.free_ok X G (c.fact 10 rfl)
  have m_range := He.free_ok X G (c.fact 11 rfl)
  have m_int := He.free_ok X G (c.fact 12 rfl)
  have m_bool := He.free_ok X G (c.fact 13 rfl)
  have m_str := He.free_ok X G (c.fact 14 rfl)
  have m_all := He.free_ok X G (c.fact 15 rfl)
  have m_tuple := He.free_ok X G (c.fact 16 rfl)
  have m_list := He.free_ok X G (c.fact 17 rfl)
  have m_set := He.free_ok X G (c.fact 18 rfl)
  have m_sorted := He.free_ok X G (c.fact 19 rfl)
  have m_min := He.free_ok X G (c.fact 20 rfl)
  have gl_MOST_LETTERS : ∃ u, mg "MOST_LETTERS" = some u ∧ RelV (.int 12) u := let ⟨t, h⟩ := He.int_ok X G (c.fact 21 rfl); ⟨_, h, t, rfl⟩
  have gl_LETTERS : ∃ u, mg "LETTERS" = some u ∧ RelV (.str letters) u := let ⟨t, h⟩ := He.str_ok X G (c.fact 22 rfl); ⟨_, h, t, rfl⟩
  have gl_MOST : ∃ u, mg "MOST" = some u ∧ RelV (.int 1000000000000) u := let ⟨t, h⟩ := He.int_ok X G (c.fact 23 rfl); ⟨_, h, t, rfl⟩
  have gl_MOST_RANK : ∃ u, mg "MOST_RANK" = some u ∧ RelV (.int 5) u := let ⟨t, h⟩ := He.int_ok X G (c.fact 24 rfl); ⟨_, h, t, rfl⟩
  obtain ⟨fd0, G0⟩ := c.def_ 0 (d := d0) rfl
  obtain ⟨kV0, dc0, pm0, an0, cd0, ct0, rfl⟩ := fund_form G0 rfl
  obtain ⟨fd1, G1⟩ := c.def_ 1 (d := d1) rfl
  obtain ⟨kV1, dc1, pm1, an1, cd1, ct1, rfl⟩ := fund_form G1 rfl
  obtain ⟨fd2, G2⟩ := c.def_ 2 (d := d2) rfl
  obtain ⟨kV2, dc2, pm2, an2, cd2, ct2, rfl⟩ := fund_form G2 rfl
  obtain ⟨fd3, G3⟩ := c.def_ 3 (d := d3) rfl
  obtain ⟨kV3, dc3, pm3, an3, cd3, ct3, rfl⟩ := fund_form G3 rfl
  obtain ⟨fd4, G4⟩ := c.def_ 4 (d := d4) rfl
  obtain ⟨kV4, dc4, pm4, an4, cd4, ct4, rfl⟩ := fund_form G4 rfl
  obtain ⟨fd5, G5⟩ := c.def_ 5 (d := d5) rfl
  obtain ⟨kV5, dc5, pm5, an5, cd5, ct5, rfl⟩ := fund_form G5 rfl
  obtain ⟨fd6, G6⟩ := c.def_ 6 (d := d6) rfl
  obtain ⟨kV6, dc6, pm6, an6, cd6, ct6, rfl⟩ := fund_form G6 rfl
  obtain ⟨fd7, G7⟩ := c.def_ 7 (d := d7) rfl
  obtain ⟨kV7, dc7, pm7, an7, cd7, ct7, rfl⟩ := fund_form G7 rfl
  obtain ⟨fd8, G8⟩ := c.def_ 8 (d := d8) rfl
  obtain ⟨kV8, dc8, pm8, an8, cd8, ct8, rfl⟩ := fund_form G8 rfl
  obtain ⟨fd9, G9⟩ := c.def_ 9 (d := d9) rfl
  obtain ⟨kV9, dc9, pm9, an9, cd9, ct9, rfl⟩ := fund_form G9 rfl
  obtain ⟨fd10, G10⟩ := c.def_ 10 (d := d10) rfl
  obtain ⟨kV10, dc10, pm10, an10, cd10, ct10, rfl⟩ := fund_form G10 rfl
  obtain ⟨fd11, G11⟩ := c.def_ 11 (d := d11) rfl
  obtain ⟨kV11, dc11, pm11, an11, cd11, ct11, rfl⟩ := fund_form G11 rfl
  obtain ⟨fd12, G12⟩ := c.def_ 12 (d := d12) rfl
  obtain ⟨kV12, dc12, pm12, an12, cd12, ct12, rfl⟩ := fund_form G12 rfl
  obtain ⟨fd13, G13⟩ := c.def_ 13 (d := d13) rfl
  obtain ⟨kV13, dc13, pm13, an13, cd13, ct13, rfl⟩ := fund_form G13 rfl
  obtain ⟨fd14, G14⟩ := c.def_ 14 (d := d14) rfl
  obtain ⟨kV14, dc14, pm14, an14, cd14, ct14, rfl⟩ := fund_form G14 rfl
  obtain ⟨fd15, G15⟩ := c.def_ 15 (d := d15) rfl
  obtain ⟨kV15, dc15, pm15, an15, cd15, ct15, rfl⟩ := fund_form G15 rfl
  obtain ⟨fd16, G16⟩ := c.def_ 16 (d := d16) rfl
  obtain ⟨kV16, dc16, pm16, an16, cd16, ct16, rfl⟩ := fund_form G16 rfl
  obtain ⟨fd17, G17⟩ := c.def_ 17 (d := d17) rfl
  obtain ⟨kV17, dc17, pm17, an17, cd17, ct17, rfl⟩ := fund_form G17 rfl
  obtain ⟨fd18, G18⟩ := c.def_ 18 (d := d18) rfl
  obtain ⟨kV18, dc18, pm18, an18, cd18, ct18, rfl⟩ := fund_form G18 rfl
  obtain ⟨fd19, G19⟩ := c.def_ 19 (d := d19) rfl
  obtain ⟨kV19, dc19, pm19, an19, cd19, ct19, rfl⟩ := fund_form G19 rfl
  obtain ⟨fd20, G20⟩ := c.def_ 20 (d := d20) rfl
  obtain ⟨kV20, dc20, pm20, an20, cd20, ct20, rfl⟩ := fund_form G20 rfl
  obtain ⟨fd21, G21⟩ := c.def_ 21 (d := d21) rfl
  obtain ⟨kV21, dc21, pm21, an21, cd21, ct21, rfl⟩ := fund_form G21 rfl
  obtain ⟨fd22, G22⟩ := c.def_ 22 (d := d22) rfl
  obtain ⟨kV22, dc22, pm22, an22, cd22, ct22, rfl⟩ := fund_form G22 rfl
  obtain ⟨fd23, G23⟩ := c.def_ 23 (d := d23) rfl
  obtain ⟨kV23, dc23, pm23, an23, cd23, ct23, rfl⟩ := fund_form G23 rfl
  obtain ⟨fd24, G24⟩ := c.def_ 24 (d := d24) rfl
  obtain ⟨kV24, dc24, pm24, an24, cd24, ct24, rfl⟩ := fund_form G24 rfl
  obtain ⟨fd25, G25⟩ := c.def_ 25 (d := d25) rfl
  obtain ⟨kV25, dc25, pm25, an25, cd25, ct25, rfl⟩ := fund_form G25 rfl
  obtain ⟨fd26, G26⟩ := c.def_ 26 (d := d26) rfl
  obtain ⟨kV26, dc26, pm26, an26, cd26, ct26, rfl⟩ := fund_form G26 rfl
  obtain ⟨fd27, G27⟩ := c.def_ 27 (d := d27) rfl
  obtain ⟨kV27, dc27, pm27, an27, cd27, ct27, rfl⟩ := fund_form G27 rfl
  obtain ⟨fd28, G28⟩ := c.def_ 28 (d := d28) rfl
  obtain ⟨kV28, dc28, pm28, an28, cd28, ct28, rfl⟩ := fund_form G28 rfl
  obtain ⟨fd29, G29⟩ := c.def_ 29 (d := d29) rfl
  obtain ⟨kV29, dc29, pm29, an29, cd29, ct29, rfl⟩ := fund_form G29 rfl
  obtain ⟨fd30, G30⟩ := c.def_ 30 (d := d30) rfl
  obtain ⟨kV30, dc30, pm30, an30, cd30, ct30, rfl⟩ := fund_form G30 rfl
  obtain ⟨fd31, G31⟩ := c.def_ 31 (d := d31) rfl
  obtain ⟨kV31, dc31, pm31, an31, cd31, ct31, rfl⟩ := fund_form G31 rfl
  obtain ⟨fd32, G32⟩ := c.def_ 32 (d := d32) rfl
  obtain ⟨kV32, dc32, pm32, an32, cd32, ct32, rfl⟩ := fund_form G32 rfl
  obtain ⟨fd33, G33⟩ := c.def_ 33 (d := d33) rfl
  obtain ⟨kV33, dc33, pm33, an33, cd33, ct33, rfl⟩ := fund_form G33 rfl
  obtain ⟨fd34, G34⟩ := c.def_ 34 (d := d34) rfl
  obtain ⟨kV34, dc34, pm34, an34, cd34, ct34, rfl⟩ := fund_form G34 rfl
  obtain ⟨fd35, G35⟩ := c.def_ 35 (d := d35) rfl
  obtain ⟨kV35, dc35, pm35, an35, cd35, ct35, rfl⟩ := fund_form G35 rfl
  obtain ⟨fd36, G36⟩ := c.def_ 36 (d := d36) rfl
  obtain ⟨kV36, dc36, pm36, an36, cd36, ct36, rfl⟩ := fund_form G36 rfl
  obtain ⟨fd37, G37⟩ := c.def_ 37 (d := d37) rfl
  obtain ⟨kV37, dc37, pm37, an37, cd37, ct37, rfl⟩ := fund_form G37 rfl
  obtain ⟨fd38, G38⟩ := c.def_ 38 (d := d38) rfl
  obtain ⟨kV38, dc38, pm38, an38, cd38, ct38, rfl⟩ := fund_form G38 rfl
  obtain ⟨fd39, G39⟩ := c.def_ 39 (d := d39) rfl
  obtain ⟨kV39, dc39, pm39, an39, cd39, ct39, rfl⟩ := fund_form G39 rfl
  obtain ⟨fd40, G40⟩ := c.def_ 40 (d := d40) rfl
  obtain ⟨kV40, dc40, pm40, an40, cd40, ct40, rfl⟩ := fund_form G40 rfl
  obtain ⟨fd41, G41⟩ := c.def_ 41 (d := d41) rfl
  obtain ⟨kV41, dc41, pm41, an41, cd41, ct41, rfl⟩ := fund_form G41 rfl
  obtain ⟨fd42, G42⟩ := c.def_ 42 (d := d42) rfl
  obtain ⟨kV42, dc42, pm42, an42, cd42, ct42, rfl⟩ := fund_form G42 rfl
  have H0 : FunD K "_law_pen" "_law_pen" (defArgs s__law_pen) (defBody s__law_pen) (defScope s__law_pen) [] [] (He.fAd K ("_law_pen", none)) (PySem.W.fnOf "_law_pen" "_law_pen" (defArgs s__law_pen) (defBody s__law_pen) (defScope s__law_pen) .none kV0 dc0 pm0 an0 cd0 ct0) := G0
  have F0 : Fun K "_law_pen" "_law_pen" s__law_pen (He.fAd K ("_law_pen", none)) (PySem.W.fnOf "_law_pen" "_law_pen" (defArgs s__law_pen) (defBody s__law_pen) (defScope s__law_pen) .none kV0 dc0 pm0 an0 cd0 ct0) := fun_of H0
  have b0 := F0.binds (ps := ["_law_script"]) fun _ _ _ _ _ _ us hl => match us, hl with | [_], _ => rfl
  have H1 : FunD K "_law_draw" "_law_draw" (defArgs s__law_draw) (defBody s__law_draw) (defScope s__law_draw) [] [] (He.fAd K ("_law_draw", none)) (PySem.W.fnOf "_law_draw" "_law_draw" (defArgs s__law_draw) (defBody s__law_draw) (defScope s__law_draw) .none kV1 dc1 pm1 an1 cd1 ct1) := G1
  have F1 : Fun K "_law_draw" "_law_draw" s__law_draw (He.fAd K ("_law_draw", none)) (PySem.W.fnOf "_law_draw" "_law_draw" (defArgs s__law_draw) (defBody s__law_draw) (defScope s__law_draw) .none kV1 dc1 pm1 an1 cd1 ct1) := fun_of H1
  have b1 := F1.binds (ps := ["_law_pen_here", "_law_many"]) fun _ _ _ _ _ _ us hl => match us, hl with | [_, _], _ => rfl
  have H2 : FunD K "_law_names" "_law_names" (defArgs s__law_names) (defBody s__law_names) (defScope s__law_names) [] [] (He.fAd K ("_law_names", none)) (PySem.W.fnOf "_law_names" "_law_names" (defArgs s__law_names) (defBody s__law_names) (defScope s__law_names) .none kV2 dc2 pm2 an2 cd2 ct2) := G2
  have F2 : Fun K "_law_names" "_law_names" s__law_names (He.fAd K ("_law_names", none)) (PySem.W.fnOf "_law_names" "_law_names" (defArgs s__law_names) (defBody s__law_names) (defScope s__law_names) .none kV2 dc2 pm2 an2 cd2 ct2) := fun_of H2
  have b2 := F2.binds (ps := ["_law_pen_here", "_law_many"]) fun _ _ _ _ _ _ us hl => match us, hl with | [_, _], _ => rfl
  have H3 : FunD K "_law_moments" "_law_moments" (defArgs s__law_moments) (defBody s__law_moments) (defScope s__law_moments) [] [] (He.fAd K ("_law_moments", none)) (PySem.W.fnOf "_law_moments" "_law_moments" (defArgs s__law_moments) (defBody s__law_moments) (defScope s__law_moments) .none kV3 dc3 pm3 an3 cd3 ct3) := G3
  have F3 : Fun K "_law_moments" "_law_moments" s__law_moments (He.fAd K ("_law_moments", none)) (PySem.W.fnOf "_law_moments" "_law_moments" (defArgs s__law_moments) (defBody s__law_moments) (defScope s__law_moments) .none kV3 dc3 pm3 an3 cd3 ct3) := fun_of H3
  have b3 := F3.binds (ps := ["_law_pen_here", "_law_many"]) fun _ _ _ _ _ _ us hl => match us, hl with | [_, _], _ => rfl
  have H4 : FunD K "is_number" "is_number" (defArgs s_is_number) (defBody s_is_number) (defScope s_is_number) [] [] (He.fAd K ("is_number", none)) (PySem.W.fnOf "is_number" "is_number" (defArgs s_is_number) (defBody s_is_number) (defScope s_is_number) .none kV4 dc4 pm4 an4 cd4 ct4) := G4
  have F4 : Fun K "is_number" "is_number" s_is_number (He.fAd K ("is_number", none)) (PySem.W.fnOf "is_number" "is_number" (defArgs s_is_number) (defBody s_is_number) (defScope s_is_number) .none kV4 dc4 pm4 an4 cd4 ct4) := fun_of H4
  have b4 := F4.binds (ps := ["thing", "low", "high"]) fun _ _ _ _ _ _ us hl => match us, hl with | [_, _, _], _ => rfl
  have H5 : FunD K "is_word" "is_word" (defArgs s_is_word) (defBody s_is_word) (defScope s_is_word) [] [] (He.fAd K ("is_word", none)) (PySem.W.fnOf "is_word" "is_word" (defArgs s_is_word) (defBody s_is_word) (defScope s_is_word) .none kV5 dc5 pm5 an5 cd5 ct5) := G5
  have F5 : Fun K "is_word" "is_word" s_is_word (He.fAd K ("is_word", none)) (PySem.W.fnOf "is_word" "is_word" (defArgs s_is_word) (defBody s_is_word) (defScope s_is_word) .none kV5 dc5 pm5 an5 cd5 ct5) := fun_of H5
  have b5 := F5.binds (ps := ["thing"]) fun _ _ _ _ _ _ us hl => match us, hl with | [_], _ => rfl
  have H6 : FunD K "is_moment" "is_moment" (defArgs s_is_moment) (defBody s_is_moment) (defScope s_is_moment) [] [] (He.fAd K ("is_moment", none)) (PySem.W.fnOf "is_moment" "is_moment" (defArgs s_is_moment) (defBody s_is_moment) (defScope s_is_moment) .none kV6 dc6 pm6 an6 cd6 ct6) := G6
  have F6 : Fun K "is_moment" "is_moment" s_is_moment (He.fAd K ("is_moment", none)) (PySem.W.fnOf "is_moment" "is_moment" (defArgs s_is_moment) (defBody s_is_moment) (defScope s_is_moment) .none kV6 dc6 pm6 an6 cd6 ct6) := fun_of H6
  have b6 := F6.binds (ps := ["thing"]) fun _ _ _ _ _ _ us hl => match us, hl with | [_], _ => rfl
  have H7 : FunD K "is_list" "is_list" (defArgs s_is_list) (defBody s_is_list) (defScope s_is_list) [] [] (He.fAd K ("is_list", none)) (PySem.W.fnOf "is_list" "is_list" (defArgs s_is_list) (defBody s_is_list) (defScope s_is_list) .none kV7 dc7 pm7 an7 cd7 ct7) := G7
  have F7 : Fun K "is_list" "is_list" s_is_list (He.fAd K ("is_list", none)) (PySem.W.fnOf "is_list" "is_list" (defArgs s_is_list) (defBody s_is_list) (defScope s_is_list) .none kV7 dc7 pm7 an7 cd7 ct7) := fun_of H7
  have b7 := F7.binds (ps := ["thing"]) fun _ _ _ _ _ _ us hl => match us, hl with | [_], _ => rfl
  have H8 : FunD K "are_sheets" "are_sheets" (defArgs s_are_sheets) (defBody s_are_sheets) (defScope s_are_sheets) [] [] (He.fAd K ("are_sheets", none)) (PySem.W.fnOf "are_sheets" "are_sheets" (defArgs s_are_sheets) (defBody s_are_sheets) (defScope s_are_sheets) .none kV8 dc8 pm8 an8 cd8 ct8) := G8
  have F8 : Fun K "are_sheets" "are_sheets" s_are_sheets (He.fAd K ("are_sheets", none)) (PySem.W.fnOf "are_sheets" "are_sheets" (defArgs s_are_sheets) (defBody s_are_sheets) (defScope s_are_sheets) .none kV8 dc8 pm8 an8 cd8 ct8) := fun_of H8
  have b8 := F8.binds (ps := ["thing"]) fun _ _ _ _ _ _ us hl => match us, hl with | [_], _ => rfl
  have H9 : FunD K "is_there" "is_there" (defArgs s_is_there) (defBody s_is_there) (defScope s_is_there) [] [] (He.fAd K ("is_there", none)) (PySem.W.fnOf "is_there" "is_there" (defArgs s_is_there) (defBody s_is_there) (defScope s_is_there) .none kV9 dc9 pm9 an9 cd9 ct9) := G9
  have F9 : Fun K "is_there" "is_there" s_is_there (He.fAd K ("is_there", none)) (PySem.W.fnOf "is_there" "is_there" (defArgs s_is_there) (defBody s_is_there) (defScope s_is_there) .none kV9 dc9 pm9 an9 cd9 ct9) := fun_of H9
  have b9 := F9.binds (ps := ["moment", "upto"]) fun _ _ _ _ _ _ us hl => match us, hl with | [_, _], _ => rfl
  have H10 : FunD K "refuse_new" "refuse_new" (defArgs s_refuse_new) (defBody s_refuse_new) (defScope s_refuse_new) [] [] (He.fAd K ("refuse_new", none)) (PySem.W.fnOf "refuse_new" "refuse_new" (defArgs s_refuse_new) (defBody s_refuse_new) (defScope s_refuse_new) .none kV10 dc10 pm10 an10 cd10 ct10) := G10
  have F10 : Fun K "refuse_new" "refuse_new" s_refuse_new (He.fAd K ("refuse_new", none)) (PySem.W.fnOf "refuse_new" "refuse_new" (defArgs s_refuse_new) (defBody s_refuse_new) (defScope s_refuse_new) .none kV10 dc10 pm10 an10 cd10 ct10) := fun_of H10
  have b10 := F10.binds (ps := ["moment", "entries"]) fun _ _ _ _ _ _ us hl => match us, hl with | [_, _], _ => rfl
  have H11 : FunD K "bad_name" "bad_name" (defArgs s_bad_name) (defBody s_bad_name) (defScope s_bad_name) [] [] (He.fAd K ("bad_name", none)) (PySem.W.fnOf "bad_name" "bad_name" (defArgs s_bad_name) (defBody s_bad_name) (defScope s_bad_name) .none kV11 dc11 pm11 an11 cd11 ct11) := G11
  have F11 : Fun K "bad_name" "bad_name" s_bad_name (He.fAd K ("bad_name", none)) (PySem.W.fnOf "bad_name" "bad_name" (defArgs s_bad_name) (defBody s_bad_name) (defScope s_bad_name) .none kV11 dc11 pm11 an11 cd11 ct11) := fun_of H11
  have b11 := F11.binds (ps := ["rank", "words", "sheets", "like"]) fun _ _ _ _ _ _ us hl => match us, hl with | [_, _, _, _], _ => rfl
  have H12 : FunD K "_may_be_like" "_may_be_like" (defArgs s__may_be_like) (defBody s__may_be_like) (defScope s__may_be_like) [] [] (He.fAd K ("_may_be_like", none)) (PySem.W.fnOf "_may_be_like" "_may_be_like" (defArgs s__may_be_like) (defBody s__may_be_like) (defScope s__may_be_like) .none kV12 dc12 pm12 an12 cd12 ct12) := G12
  have F12 : Fun K "_may_be_like" "_may_be_like" s__may_be_like (He.fAd K ("_may_be_like", none)) (PySem.W.fnOf "_may_be_like" "_may_be_like" (defArgs s__may_be_like) (defBody s__may_be_like) (defScope s__may_be_like) .none kV12 dc12 pm12 an12 cd12 ct12) := fun_of H12
  have b12 := F12.binds (ps := ["rank", "other"]) fun _ _ _ _ _ _ us hl => match us, hl with | [_, _], _ => rfl
  have H13 : FunD K "_named_in" "_named_in" (defArgs s__named_in) (defBody s__named_in) (defScope s__named_in) [] [] (He.fAd K ("_named_in", none)) (PySem.W.fnOf "_named_in" "_named_in" (defArgs s__named_in) (defBody s__named_in) (defScope s__named_in) .none kV13 dc13 pm13 an13 cd13 ct13) := G13
  have F13 : Fun K "_named_in" "_named_in" s__named_in (He.fAd K ("_named_in", none)) (PySem.W.fnOf "_named_in" "_named_in" (defArgs s__named_in) (defBody s__named_in) (defScope s__named_in) .none kV13 dc13 pm13 an13 cd13 ct13) := fun_of H13
  have b13 := F13.binds (ps := ["record"]) fun _ _ _ _ _ _ us hl => match us, hl with | [_], _ => rfl
  have H14 : FunD K "__init__" "Book.__init__" (defArgs s_Book___init__) (defBody s_Book___init__) (defScope s_Book___init__) [] [] (He.fAd K ("Book", some "__init__")) (PySem.W.fnOf "__init__" "Book.__init__" (defArgs s_Book___init__) (defBody s_Book___init__) (defScope s_Book___init__) .none kV14 dc14 pm14 an14 cd14 ct14) := G14
  have F14 : Fun K "__init__" "Book.__init__" s_Book___init__ (He.fAd K ("Book", some "__init__")) (PySem.W.fnOf "__init__" "Book.__init__" (defArgs s_Book___init__) (defBody s_Book___init__) (defScope s_Book___init__) .none kV14 dc14 pm14 an14 cd14 ct14) := fun_of H14
  have b14 := F14.binds (ps := ["self"]) fun _ _ _ _ _ _ us hl => match us, hl with | [_], _ => rfl
  have H15 : FunD K "_keep" "Book._keep" (defArgs s_Book__keep) (defBody s_Book__keep) (defScope s_Book__keep) [] [] (He.fAd K ("Book", some "_keep")) (PySem.W.fnOf "_keep" "Book._keep" (defArgs s_Book__keep) (defBody s_Book__keep) (defScope s_Book__keep) .none kV15 dc15 pm15 an15 cd15 ct15) := G15
  have F15 : Fun K "_keep" "Book._keep" s_Book__keep (He.fAd K ("Book", some "_keep")) (PySem.W.fnOf "_keep" "Book._keep" (defArgs s_Book__keep) (defBody s_Book__keep) (defScope s_Book__keep) .none kV15 dc15 pm15 an15 cd15 ct15) := fun_of H15
  have b15 := F15.binds (ps := ["self", "record"]) fun _ _ _ _ _ _ us hl => match us, hl with | [_, _], _ => rfl
  have H16 : FunD K "_name" "Book._name" (defArgs s_Book__name) (defBody s_Book__name) (defScope s_Book__name) [] [("upto", V.non)] (He.fAd K ("Book", some "_name")) (PySem.W.fnOf "_name" "Book._name" (defArgs s_Book__name) (defBody s_Book__name) (defScope s_Book__name) .none kV16 dc16 pm16 an16 cd16 ct16) := G16
  have F16 := H16
  have H17 : FunD K "_refuse_named" "Book._refuse_named" (defArgs s_Book__refuse_named) (defBody s_Book__refuse_named) (defScope s_Book__refuse_named) [] [] (He.fAd K ("Book", some "_refuse_named")) (PySem.W.fnOf "_refuse_named" "Book._refuse_named" (defArgs s_Book__refuse_named) (defBody s_Book__refuse_named) (defScope s_Book__refuse_named) .none kV17 dc17 pm17 an17 cd17 ct17) := G17
  have F17 : Fun K "_refuse_named" "Book._refuse_named" s_Book__refuse_named (He.fAd K ("Book", some "_refuse_named")) (PySem.W.fnOf "_refuse_named" "Book._refuse_named" (defArgs s_Book__refuse_named) (defBody s_Book__refuse_named) (defScope s_Book__refuse_named) .none kV17 dc17 pm17 an17 cd17 ct17) := fun_of H17
  have b17 := F17.binds (ps := ["self", "moment", "name"]) fun _ _ _ _ _ _ us hl => match us, hl with | [_, _, _], _ => rfl
  have H18 : FunD K "rank" "Book.rank" (defArgs s_Book_rank) (defBody s_Book_rank) (defScope s_Book_rank) [] [] (He.fAd K ("Book", some "rank")) (PySem.W.fnOf "rank" "Book.rank" (defArgs s_Book_rank) (defBody s_Book_rank) (defScope s_Book_rank) .none kV18 dc18 pm18 an18 cd18 ct18) := G18
  have F18 : Fun K "rank" "Book.rank" s_Book_rank (He.fAd K ("Book", some "rank")) (PySem.W.fnOf "rank" "Book.rank" (defArgs s_Book_rank) (defBody s_Book_rank) (defScope s_Book_rank) .none kV18 dc18 pm18 an18 cd18 ct18) := fun_of H18
  have b18 := F18.binds (ps := ["self", "name"]) fun _ _ _ _ _ _ us hl => match us, hl with | [_, _], _ => rfl
  have H19 : FunD K "publish" "Book.publish" (defArgs s_Book_publish) (defBody s_Book_publish) (defScope s_Book_publish) [] [] (He.fAd K ("Book", some "publish")) (PySem.W.fnOf "publish" "Book.publish" (defArgs s_Book_publish) (defBody s_Book_publish) (defScope s_Book_publish) .none kV19 dc19 pm19 an19 cd19 ct19) := G19
  have F19 := H19
  have H20 : FunD K "ahead" "Book.ahead" (defArgs s_Book_ahead) (defBody s_Book_ahead) (defScope s_Book_ahead) [] [] (He.fAd K ("Book", some "ahead")) (PySem.W.fnOf "ahead" "Book.ahead" (defArgs s_Book_ahead) (defBody s_Book_ahead) (defScope s_Book_ahead) .none kV20 dc20 pm20 an20 cd20 ct20) := G20
  have F20 : Fun K "ahead" "Book.ahead" s_Book_ahead (He.fAd K ("Book", some "ahead")) (PySem.W.fnOf "ahead" "Book.ahead" (defArgs s_Book_ahead) (defBody s_Book_ahead) (defScope s_Book_ahead) .none kV20 dc20 pm20 an20 cd20 ct20) := fun_of H20
  have b20 := F20.binds (ps := ["self", "moment", "name", "other"]) fun _ _ _ _ _ _ us hl => match us, hl with | [_, _, _, _], _ => rfl
  have H21 : FunD K "entries" "Book.entries" (defArgs s_Book_entries) (defBody s_Book_entries) (defScope s_Book_entries) [] [("upto", V.non)] (He.fAd K ("Book", some "entries")) (PySem.W.fnOf "entries" "Book.entries" (defArgs s_Book_entries) (defBody s_Book_entries) (defScope s_Book_entries) .none kV21 dc21 pm21 an21 cd21 ct21) := G21
  have F21 := H21
  have H22 : FunD K "words" "Book.words" (defArgs s_Book_words) (defBody s_Book_words) (defScope s_Book_words) [] [] (He.fAd K ("Book", some "words")) (PySem.W.fnOf "words" "Book.words" (defArgs s_Book_words) (defBody s_Book_words) (defScope s_Book_words) .none kV22 dc22 pm22 an22 cd22 ct22) := G22
  have F22 : Fun K "words" "Book.words" s_Book_words (He.fAd K ("Book", some "words")) (PySem.W.fnOf "words" "Book.words" (defArgs s_Book_words) (defBody s_Book_words) (defScope s_Book_words) .none kV22 dc22 pm22 an22 cd22 ct22) := fun_of H22
  have b22 := F22.binds (ps := ["self", "name"]) fun _ _ _ _ _ _ us hl => match us, hl with | [_, _], _ => rfl
  have H23 : FunD K "strike" "Book.strike" (defArgs s_Book_strike) (defBody s_Book_strike) (defScope s_Book_strike) [] [] (He.fAd K ("Book", some "strike")) (PySem.W.fnOf "strike" "Book.strike" (defArgs s_Book_strike) (defBody s_Book_strike) (defScope s_Book_strike) .none kV23 dc23 pm23 an23 cd23 ct23) := G23
  have F23 := H23
  have H24 : FunD K "_told_of" "Book._told_of" (defArgs s_Book__told_of) (defBody s_Book__told_of) (defScope s_Book__told_of) [] [] (He.fAd K ("Book", some "_told_of")) (PySem.W.fnOf "_told_of" "Book._told_of" (defArgs s_Book__told_of) (defBody s_Book__told_of) (defScope s_Book__told_of) .none kV24 dc24 pm24 an24 cd24 ct24) := G24
  have F24 : Fun K "_told_of" "Book._told_of" s_Book__told_of (He.fAd K ("Book", some "_told_of")) (PySem.W.fnOf "_told_of" "Book._told_of" (defArgs s_Book__told_of) (defBody s_Book__told_of) (defScope s_Book__told_of) .none kV24 dc24 pm24 an24 cd24 ct24) := fun_of H24
  have b24 := F24.binds (ps := ["self", "name", "sort", "upto"]) fun _ _ _ _ _ _ us hl => match us, hl with | [_, _, _, _], _ => rfl
  have H25 : FunD K "wholly" "Book.wholly" (defArgs s_Book_wholly) (defBody s_Book_wholly) (defScope s_Book_wholly) [] [] (He.fAd K ("Book", some "wholly")) (PySem.W.fnOf "wholly" "Book.wholly" (defArgs s_Book_wholly) (defBody s_Book_wholly) (defScope s_Book_wholly) .none kV25 dc25 pm25 an25 cd25 ct25) := G25
  have F25 := H25
  have H26 : FunD K "names" "Book.names" (defArgs s_Book_names) (defBody s_Book_names) (defScope s_Book_names) [] [("rank", V.non)] (He.fAd K ("Book", some "names")) (PySem.W.fnOf "names" "Book.names" (defArgs s_Book_names) (defBody s_Book_names) (defScope s_Book_names) .none kV26 dc26 pm26 an26 cd26 ct26) := G26
  have F26 := H26
  have H27 : FunD K "choose" "Book.choose" (defArgs s_Book_choose) (defBody s_Book_choose) (defScope s_Book_choose) [] [] (He.fAd K ("Book", some "choose")) (PySem.W.fnOf "choose" "Book.choose" (defArgs s_Book_choose) (defBody s_Book_choose) (defScope s_Book_choose) .none kV27 dc27 pm27 an27 cd27 ct27) := G27
  have F27 : Fun K "choose" "Book.choose" s_Book_choose (He.fAd K ("Book", some "choose")) (PySem.W.fnOf "choose" "Book.choose" (defArgs s_Book_choose) (defBody s_Book_choose) (defScope s_Book_choose) .none kV27 dc27 pm27 an27 cd27 ct27) := fun_of H27
  have b27 := F27.binds (ps := ["self", "moment", "name", "sheet"]) fun _ _ _ _ _ _ us hl => match us, hl with | [_, _, _, _], _ => rfl
  have H28 : FunD K "_law_tell" "_law_tell" (defArgs s__law_tell) (defBody s__law_tell) (defScope s__law_tell) [] [] (He.fAd K ("_law_tell", none)) (PySem.W.fnOf "_law_tell" "_law_tell" (defArgs s__law_tell) (defBody s__law_tell) (defScope s__law_tell) .none kV28 dc28 pm28 an28 cd28 ct28) := G28
  have F28 : Fun K "_law_tell" "_law_tell" s__law_tell (He.fAd K ("_law_tell", none)) (PySem.W.fnOf "_law_tell" "_law_tell" (defArgs s__law_tell) (defBody s__law_tell) (defScope s__law_tell) .none kV28 dc28 pm28 an28 cd28 ct28) := fun_of H28
  have b28 := F28.binds (ps := ["_law_book", "_law_row"]) fun _ _ _ _ _ _ us hl => match us, hl with | [_, _], _ => rfl
  have H29 : FunD K "_law_record" "_law_record" (defArgs s__law_record) (defBody s__law_record) (defScope s__law_record) [] [] (He.fAd K ("_law_record", none)) (PySem.W.fnOf "_law_record" "_law_record" (defArgs s__law_record) (defBody s__law_record) (defScope s__law_record) .none kV29 dc29 pm29 an29 cd29 ct29) := G29
  have F29 : Fun K "_law_record" "_law_record" s__law_record (He.fAd K ("_law_record", none)) (PySem.W.fnOf "_law_record" "_law_record" (defArgs s__law_record) (defBody s__law_record) (defScope s__law_record) .none kV29 dc29 pm29 an29 cd29 ct29) := fun_of H29
  have b29 := F29.binds (ps := ["_law_pen_here", "_law_rows", "_law_moment_here", "_law_firsts", "_law_owns", "_law_lot"]) fun _ _ _ _ _ _ us hl => match us, hl with | [_, _, _, _, _, _], _ => rfl
  have H30 : FunD K "_law_records" "_law_records" (defArgs s__law_records) (defBody s__law_records) (defScope s__law_records) [] [] (He.fAd K ("_law_records", none)) (PySem.W.fnOf "_law_records" "_law_records" (defArgs s__law_records) (defBody s__law_records) (defScope s__law_records) .none kV30 dc30 pm30 an30 cd30 ct30) := G30
  have F30 : Fun K "_law_records" "_law_records" s__law_records (He.fAd K ("_law_records", none)) (PySem.W.fnOf "_law_records" "_law_records" (defArgs s__law_records) (defBody s__law_records) (defScope s__law_records) .none kV30 dc30 pm30 an30 cd30 ct30) := fun_of H30
  have b30 := F30.binds (ps := ["_law_pen_here", "_law_lot", "_law_many"]) fun _ _ _ _ _ _ us hl => match us, hl with | [_, _, _], _ => rfl
  have H31 : FunD K "is_moment" "is_moment" (defArgs s_is_moment) (defBody s_is_moment) (defScope s_is_moment) [] [] (He.fAd K ("is_moment", none)) (PySem.W.fnOf "is_moment" "is_moment" (defArgs s_is_moment) (defBody s_is_moment) (defScope s_is_moment) .none kV6 dc6 pm6 an6 cd6 ct6) := G6
  have F31 : Fun K "is_moment" "is_moment" s_is_moment (He.fAd K ("is_moment", none)) (PySem.W.fnOf "is_moment" "is_moment" (defArgs s_is_moment) (defBody s_is_moment) (defScope s_is_moment) .none kV6 dc6 pm6 an6 cd6 ct6) := fun_of H31
  have b31 := F31.binds (ps := ["thing"]) fun _ _ _ _ _ _ us hl => match us, hl with | [_], _ => rfl
  have H32 : FunD K "refuse_new" "refuse_new" (defArgs s_refuse_new) (defBody s_refuse_new) (defScope s_refuse_new) [] [] (He.fAd K ("refuse_new", none)) (PySem.W.fnOf "refuse_new" "refuse_new" (defArgs s_refuse_new) (defBody s_refuse_new) (defScope s_refuse_new) .none kV10 dc10 pm10 an10 cd10 ct10) := G10
  have F32 : Fun K "refuse_new" "refuse_new" s_refuse_new (He.fAd K ("refuse_new", none)) (PySem.W.fnOf "refuse_new" "refuse_new" (defArgs s_refuse_new) (defBody s_refuse_new) (defScope s_refuse_new) .none kV10 dc10 pm10 an10 cd10 ct10) := fun_of H32
  have b32 := F32.binds (ps := ["moment", "entries"]) fun _ _ _ _ _ _ us hl => match us, hl with | [_, _], _ => rfl
  have H33 : FunD K "_name" "Book._name" (defArgs s_Book__name) (defBody s_Book__name) (defScope s_Book__name) [] [("upto", V.non)] (He.fAd K ("Book", some "_name")) (PySem.W.fnOf "_name" "Book._name" (defArgs s_Book__name) (defBody s_Book__name) (defScope s_Book__name) .none kV16 dc16 pm16 an16 cd16 ct16) := G16
  have F33 := H33
  have H34 : FunD K "_refuse_named" "Book._refuse_named" (defArgs s_Book__refuse_named) (defBody s_Book__refuse_named) (defScope s_Book__refuse_named) [] [] (He.fAd K ("Book", some "_refuse_named")) (PySem.W.fnOf "_refuse_named" "Book._refuse_named" (defArgs s_Book__refuse_named) (defBody s_Book__refuse_named) (defScope s_Book__refuse_named) .none kV17 dc17 pm17 an17 cd17 ct17) := G17
  have F34 : Fun K "_refuse_named" "Book._refuse_named" s_Book__refuse_named (He.fAd K ("Book", some "_refuse_named")) (PySem.W.fnOf "_refuse_named" "Book._refuse_named" (defArgs s_Book__refuse_named) (defBody s_Book__refuse_named) (defScope s_Book__refuse_named) .none kV17 dc17 pm17 an17 cd17 ct17) := fun_of H34
  have b34 := F34.binds (ps := ["self", "moment", "name"]) fun _ _ _ _ _ _ us hl => match us, hl with | [_, _, _], _ => rfl
  have H35 : FunD K "strike" "Book.strike" (defArgs s_Book_strike) (defBody s_Book_strike) (defScope s_Book_strike) [] [] (He.fAd K ("Book", some "strike")) (PySem.W.fnOf "strike" "Book.strike" (defArgs s_Book_strike) (defBody s_Book_strike) (defScope s_Book_strike) .none kV23 dc23 pm23 an23 cd23 ct23) := G23
  have F35 := H35
  have H36 : FunD K "choose" "Book.choose" (defArgs s_Book_choose) (defBody s_Book_choose) (defScope s_Book_choose) [] [] (He.fAd K ("Book", some "choose")) (PySem.W.fnOf "choose" "Book.choose" (defArgs s_Book_choose) (defBody s_Book_choose) (defScope s_Book_choose) .none kV27 dc27 pm27 an27 cd27 ct27) := G27
  have F36 : Fun K "choose" "Book.choose" s_Book_choose (He.fAd K ("Book", some "choose")) (PySem.W.fnOf "choose" "Book.choose" (defArgs s_Book_choose) (defBody s_Book_choose) (defScope s_Book_choose) .none kV27 dc27 pm27 an27 cd27 ct27) := fun_of H36
  have b36 := F36.binds (ps := ["self", "moment", "name", "sheet"]) fun _ _ _ _ _ _ us hl => match us, hl with | [_, _, _, _], _ => rfl
  have H37 : FunD K "ahead" "Book.ahead" (defArgs s_Book_ahead) (defBody s_Book_ahead) (defScope s_Book_ahead) [] [] (He.fAd K ("Book", some "ahead")) (PySem.W.fnOf "ahead" "Book.ahead" (defArgs s_Book_ahead) (defBody s_Book_ahead) (defScope s_Book_ahead) .none kV20 dc20 pm20 an20 cd20 ct20) := G20
  have F37 : Fun K "ahead" "Book.ahead" s_Book_ahead (He.fAd K ("Book", some "ahead")) (PySem.W.fnOf "ahead" "Book.ahead" (defArgs s_Book_ahead) (defBody s_Book_ahead) (defScope s_Book_ahead) .none kV20 dc20 pm20 an20 cd20 ct20) := fun_of H37
  have b37 := F37.binds (ps := ["self", "moment", "name", "other"]) fun _ _ _ _ _ _ us hl => match us, hl with | [_, _, _, _], _ => rfl
  have H38 : FunD K "__init__" "BadMoment.__init__" (defArgs s_BadMoment___init__) (defBody s_BadMoment___init__) (defScope s_BadMoment___init__) [] [] (He.fAd K ("BadMoment", some "__init__")) (PySem.W.fnOf "__init__" "BadMoment.__init__" (defArgs s_BadMoment___init__) (defBody s_BadMoment___init__) (defScope s_BadMoment___init__) .none kV31 dc31 pm31 an31 cd31 ct31) := G31
  have F38 : Fun K "__init__" "BadMoment.__init__" s_BadMoment___init__ (He.fAd K ("BadMoment", some "__init__")) (PySem.W.fnOf "__init__" "BadMoment.__init__" (defArgs s_BadMoment___init__) (defBody s_BadMoment___init__) (defScope s_BadMoment___init__) .none kV31 dc31 pm31 an31 cd31 ct31) := fun_of H38
  have b38 := F38.binds (ps := ["self", "moment"]) fun _ _ _ _ _ _ us hl => match us, hl with | [_, _], _ => rfl
  have H39 : FunD K "__init__" "SameMoment.__init__" (defArgs s_SameMoment___init__) (defBody s_SameMoment___init__) (defScope s_SameMoment___init__) [] [] (He.fAd K ("SameMoment", some "__init__")) (PySem.W.fnOf "__init__" "SameMoment.__init__" (defArgs s_SameMoment___init__) (defBody s_SameMoment___init__) (defScope s_SameMoment___init__) .none kV32 dc32 pm32 an32 cd32 ct32) := G32
  have F39 : Fun K "__init__" "SameMoment.__init__" s_SameMoment___init__ (He.fAd K ("SameMoment", some "__init__")) (PySem.W.fnOf "__init__" "SameMoment.__init__" (defArgs s_SameMoment___init__) (defBody s_SameMoment___init__) (defScope s_SameMoment___init__) .none kV32 dc32 pm32 an32 cd32 ct32) := fun_of H39
  have b39 := F39.binds (ps := ["self", "moment"]) fun _ _ _ _ _ _ us hl => match us, hl with | [_, _], _ => rfl
  have H40 : FunD K "__init__" "NoName.__init__" (defArgs s_NoName___init__) (defBody s_NoName___init__) (defScope s_NoName___init__) [] [] (He.fAd K ("NoName", some "__init__")) (PySem.W.fnOf "__init__" "NoName.__init__" (defArgs s_NoName___init__) (defBody s_NoName___init__) (defScope s_NoName___init__) .none kV33 dc33 pm33 an33 cd33 ct33) := G33
  have F40 : Fun K "__init__" "NoName.__init__" s_NoName___init__ (He.fAd K ("NoName", some "__init__")) (PySem.W.fnOf "__init__" "NoName.__init__" (defArgs s_NoName___init__) (defBody s_NoName___init__) (defScope s_NoName___init__) .none kV33 dc33 pm33 an33 cd33 ct33) := fun_of H40
  have b40 := F40.binds (ps := ["self", "moment"]) fun _ _ _ _ _ _ us hl => match us, hl with | [_, _], _ => rfl
  have H41 : FunD K "__init__" "NoSheet.__init__" (defArgs s_NoSheet___init__) (defBody s_NoSheet___init__) (defScope s_NoSheet___init__) [] [] (He.fAd K ("NoSheet", some "__init__")) (PySem.W.fnOf "__init__" "NoSheet.__init__" (defArgs s_NoSheet___init__) (defBody s_NoSheet___init__) (defScope s_NoSheet___init__) .none kV34 dc34 pm34 an34 cd34 ct34) := G34
  have F41 : Fun K "__init__" "NoSheet.__init__" s_NoSheet___init__ (He.fAd K ("NoSheet", some "__init__")) (PySem.W.fnOf "__init__" "NoSheet.__init__" (defArgs s_NoSheet___init__) (defBody s_NoSheet___init__) (defScope s_NoSheet___init__) .none kV34 dc34 pm34 an34 cd34 ct34) := fun_of H41
  have b41 := F41.binds (ps := ["self", "sheet"]) fun _ _ _ _ _ _ us hl => match us, hl with | [_, _], _ => rfl
  have H42 : FunD K "__init__" "Later.__init__" (defArgs s_Later___init__) (defBody s_Later___init__) (defScope s_Later___init__) [] [] (He.fAd K ("Later", some "__init__")) (PySem.W.fnOf "__init__" "Later.__init__" (defArgs s_Later___init__) (defBody s_Later___init__) (defScope s_Later___init__) .none kV35 dc35 pm35 an35 cd35 ct35) := G35
  have F42 : Fun K "__init__" "Later.__init__" s_Later___init__ (He.fAd K ("Later", some "__init__")) (PySem.W.fnOf "__init__" "Later.__init__" (defArgs s_Later___init__) (defBody s_Later___init__) (defScope s_Later___init__) .none kV35 dc35 pm35 an35 cd35 ct35) := fun_of H42
  have b42 := F42.binds (ps := ["self", "moment"]) fun _ _ _ _ _ _ us hl => match us, hl with | [_, _], _ => rfl
  have H43 : FunD K "__init__" "Unfit.__init__" (defArgs s_Unfit___init__) (defBody s_Unfit___init__) (defScope s_Unfit___init__) [] [] (He.fAd K ("Unfit", some "__init__")) (PySem.W.fnOf "__init__" "Unfit.__init__" (defArgs s_Unfit___init__) (defBody s_Unfit___init__) (defScope s_Unfit___init__) .none kV36 dc36 pm36 an36 cd36 ct36) := G36
  have F43 : Fun K "__init__" "Unfit.__init__" s_Unfit___init__ (He.fAd K ("Unfit", some "__init__")) (PySem.W.fnOf "__init__" "Unfit.__init__" (defArgs s_Unfit___init__) (defBody s_Unfit___init__) (defScope s_Unfit___init__) .none kV36 dc36 pm36 an36 cd36 ct36) := fun_of H43
  have b43 := F43.binds (ps := ["self", "moment"]) fun _ _ _ _ _ _ us hl => match us, hl with | [_, _], _ => rfl
  have H44 : FunD K "_law_tell" "_law_tell" (defArgs s__law_tell) (defBody s__law_tell) (defScope s__law_tell) [] [] (He.fAd K ("_law_tell", none)) (PySem.W.fnOf "_law_tell" "_law_tell" (defArgs s__law_tell) (defBody s__law_tell) (defScope s__law_tell) .none kV28 dc28 pm28 an28 cd28 ct28) := G28
  have F44 : Fun K "_law_tell" "_law_tell" s__law_tell (He.fAd K ("_law_tell", none)) (PySem.W.fnOf "_law_tell" "_law_tell" (defArgs s__law_tell) (defBody s__law_tell) (defScope s__law_tell) .none kV28 dc28 pm28 an28 cd28 ct28) := fun_of H44
  have b44 := F44.binds (ps := ["_law_book", "_law_row"]) fun _ _ _ _ _ _ us hl => match us, hl with | [_, _], _ => rfl
  have H45 : FunD K "_law_moment" "_law_moment" (defArgs s__law_moment) (defBody s__law_moment) (defScope s__law_moment) [] [] (He.fAd K ("_law_moment", none)) (PySem.W.fnOf "_law_moment" "_law_moment" (defArgs s__law_moment) (defBody s__law_moment) (defScope s__law_moment) .none kV37 dc37 pm37 an37 cd37 ct37) := G37
  have F45 : Fun K "_law_moment" "_law_moment" s__law_moment (He.fAd K ("_law_moment", none)) (PySem.W.fnOf "_law_moment" "_law_moment" (defArgs s__law_moment) (defBody s__law_moment) (defScope s__law_moment) .none kV37 dc37 pm37 an37 cd37 ct37) := fun_of H45
  have b45 := F45.binds (ps := ["_law_thing"]) fun _ _ _ _ _ _ us hl => match us, hl with | [_], _ => rfl
  have H46 : FunD K "_law_due" "_law_due" (defArgs s__law_due) (defBody s__law_due) (defScope s__law_due) [] [] (He.fAd K ("_law_due", none)) (PySem.W.fnOf "_law_due" "_law_due" (defArgs s__law_due) (defBody s__law_due) (defScope s__law_due) .none kV38 dc38 pm38 an38 cd38 ct38) := G38
  have F46 : Fun K "_law_due" "_law_due" s__law_due (He.fAd K ("_law_due", none)) (PySem.W.fnOf "_law_due" "_law_due" (defArgs s__law_due) (defBody s__law_due) (defScope s__law_due) .none kV38 dc38 pm38 an38 cd38 ct38) := fun_of H46
  have b46 := F46.binds (ps := ["_law_rows", "_law_row"]) fun _ _ _ _ _ _ us hl => match us, hl with | [_, _], _ => rfl
  have H47 : FunD K "_law_tried" "_law_tried" (defArgs s__law_tried) (defBody s__law_tried) (defScope s__law_tried) [] [] (He.fAd K ("_law_tried", none)) (PySem.W.fnOf "_law_tried" "_law_tried" (defArgs s__law_tried) (defBody s__law_tried) (defScope s__law_tried) .none kV39 dc39 pm39 an39 cd39 ct39) := G39
  have F47 : Fun K "_law_tried" "_law_tried" s__law_tried (He.fAd K ("_law_tried", none)) (PySem.W.fnOf "_law_tried" "_law_tried" (defArgs s__law_tried) (defBody s__law_tried) (defScope s__law_tried) .none kV39 dc39 pm39 an39 cd39 ct39) := fun_of H47
  have b47 := F47.binds (ps := ["_law_pen_here", "_law_rows", "_law_lot", "_law_moments_here"]) fun _ _ _ _ _ _ us hl => match us, hl with | [_, _, _, _], _ => rfl
  have H48 : FunD K "__len__" "Book.__len__" (defArgs s_Book___len__) (defBody s_Book___len__) (defScope s_Book___len__) [] [] (He.fAd K ("Book", some "__len__")) (PySem.W.fnOf "__len__" "Book.__len__" (defArgs s_Book___len__) (defBody s_Book___len__) (defScope s_Book___len__) .none kV40 dc40 pm40 an40 cd40 ct40) := G40
  have F48 : Fun K "__len__" "Book.__len__" s_Book___len__ (He.fAd K ("Book", some "__len__")) (PySem.W.fnOf "__len__" "Book.__len__" (defArgs s_Book___len__) (defBody s_Book___len__) (defScope s_Book___len__) .none kV40 dc40 pm40 an40 cd40 ct40) := fun_of H48
  have b48 := F48.binds (ps := ["self"]) fun _ _ _ _ _ _ us hl => match us, hl with | [_], _ => rfl
  have H49 : FunD K "law" "law" (defArgs s_law) (defBody s_law) (defScope s_law) [] [] (He.fAd K ("law", none)) (PySem.W.fnOf "law" "law" (defArgs s_law) (defBody s_law) (defScope s_law) .none kV41 dc41 pm41 an41 cd41 ct41) := G41
  have F49 : Fun K "law" "law" s_law (He.fAd K ("law", none)) (PySem.W.fnOf "law" "law" (defArgs s_law) (defBody s_law) (defScope s_law) .none kV41 dc41 pm41 an41 cd41 ct41) := fun_of H49
  have b49 := F49.binds (ps := ["_law_script"]) fun _ _ _ _ _ _ us hl => match us, hl with | [_], _ => rfl
  have H50 : FunD K "_law_refusal" "_law_refusal" (defArgs s__law_refusal) (defBody s__law_refusal) (defScope s__law_refusal) [] [] (He.fAd K ("_law_refusal", none)) (PySem.W.fnOf "_law_refusal" "_law_refusal" (defArgs s__law_refusal) (defBody s__law_refusal) (defScope s__law_refusal) .none kV42 dc42 pm42 an42 cd42 ct42) := G42
  have F50 : Fun K "_law_refusal" "_law_refusal" s__law_refusal (He.fAd K ("_law_refusal", none)) (PySem.W.fnOf "_law_refusal" "_law_refusal" (defArgs s__law_refusal) (defBody s__law_refusal) (defScope s__law_refusal) .none kV42 dc42 pm42 an42 cd42 ct42) := fun_of H50
  have b50 := F50.binds (ps := ["_law_asked"]) fun _ _ _ _ _ _ us hl => match us, hl with | [_], _ => rfl
  have hcL : (PySem.W.fnOf "law" "law" (defArgs s_law) (defBody s_law) (defScope s_law) .none kV41 dc41 pm41 an41 cd41 ct41).code = .ref (He.cT K ("law", none)).1 := by
    obtain ⟨oc, od, kV, doc, pm, an, cdv, ctv, osl, e, lk, hcd⟩ := F49.ex
    obtain ⟨c0, h0⟩ := He.codeIn_ref hcd
    have e2 : (PySem.W.fnOf "law" "law" (defArgs s_law) (defBody s_law) (defScope s_law) .none kV41 dc41 pm41 an41 cd41 ct41).code = .ref c0 := by rw [e]; exact h0
    have e3 := He.codeOf_eq (p := ("law", none)) lk e2
    rw [e2]; exact congrArg Value.ref e3.symm
  have room : Room 9 callerA := ⟨rfl, by decide, by decide⟩
  have hu2 : ∀ p ∈ tabT K, p.1 = (He.cT K ("law", none)).2 → p.2 = ("law" : Str) ++ ".<locals>." ++ "<lambda>" := fun p hp e => by
    cases List.mem_singleton.mp hp; rfl
  refine ⟨_, fun s v => H49.bindsA (ps := ["_law_script"]) (fun _ _ _ _ _ _ us hl => match us, hl with | [_], _ => rfl) s [v] rfl, fun s₁ base H a _ _ TBs e0 bd rv sp => ?_⟩
  show codeAny _ _ _ _ _
  have O0 := ok__law_pen (P := l.prog) (w := w) (base := base) (mg := mg)  F0 
  have O1 := ok__law_draw (P := l.prog) (w := w) (base := base) (mg := mg)  F1 m_len m_abs m_range
  have O4 := ok_is_number (P := l.prog) (w := w) (base := base) (mg := mg)  F4 m_isinstance m_int m_bool
  have O5 := ok_is_word (P := l.prog) (w := w) (base := base) (mg := mg)  F5 m_isinstance m_str m_len m_all gl_MOST_LETTERS gl_LETTERS
  have O7 := ok_is_list (P := l.prog) (w := w) (base := base) (mg := mg)  F7 m_isinstance m_tuple m_list
  have O9 := ok_is_there (P := l.prog) (w := w) (base := base) (mg := mg)  F9 
  have O12 := ok__may_be_like (P := l.prog) (w := w) (base := base) (mg := mg)  F12 
  have O13 := ok__named_in (P := l.prog) (w := w) (base := base) (mg := mg)  F13 
  have O14 := ok_Book_init (P := l.prog) (w := w) (base := base) (mg := mg) (C := (He.ga K "Book")) F14 K_Book
  have O38 := ok_BadMoment_init (P := l.prog) (w := w) (base := base) (mg := mg)  F38 
  have O39 := ok_SameMoment_init (P := l.prog) (w := w) (base := base) (mg := mg)  F39 
  have O40 := ok_NoName_init (P := l.prog) (w := w) (base := base) (mg := mg)  F40 
  have O41 := ok_NoSheet_init (P := l.prog) (w := w) (base := base) (mg := mg)  F41 
  have O42 := ok_Later_init (P := l.prog) (w := w) (base := base) (mg := mg)  F42 
  have O43 := ok_Unfit_init (P := l.prog) (w := w) (base := base) (mg := mg)  F43 
  have O45 := ok__law_moment (P := l.prog) (w := w) (base := base) (mg := mg)  F45 m_isinstance m_tuple m_len m_int m_bool
  have O48 := ok_Book_len (P := l.prog) (w := w) (base := base) (mg := mg) (C := (He.ga K "Book")) F48 K_Book m_len
  have q0_c__law_draw : C8.Cal l.prog w K mg base 1 "_law_draw" spDraw [] := ⟨_, _, _, _, O1, He.glo_ok X G (c.fact 25 rfl), H1.kp, b1, .nil⟩
  have O2 := ok__law_names (P := l.prog) (w := w) (base := base) (mg := mg)  F2 m_len m_range q0_c__law_draw
  have O3 := ok__law_moments (P := l.prog) (w := w) (base := base) (mg := mg)  F3 m_range q0_c__law_draw
  have q1_c_is_number : C8.Cal l.prog w K mg base 1 "is_number" (spNumber K) [] := ⟨_, _, _, _, O4, He.glo_ok X G (c.fact 26 rfl), H4.kp, b4, .nil⟩
  have O6 := ok_is_moment (P := l.prog) (w := w) (base := base) (mg := mg)  F6 m_isinstance m_tuple m_len gl_MOST q1_c_is_number
  have q2_c_is_list : C8.Cal l.prog w K mg base 1 "is_list" spList [] := ⟨_, _, _, _, O7, He.glo_ok X G (c.fact 27 rfl), H7.kp, b7, .nil⟩
  have q3_c_is_word : C8.Cal l.prog w K mg base 1 "is_word" (spWord K) [] := ⟨_, _, _, _, O5, He.glo_ok X G (c.fact 28 rfl), H5.kp, b5, .nil⟩
  have O8 := ok_are_sheets (P := l.prog) (w := w) (base := base) (mg := mg)  F8 m_len m_set m_all q2_c_is_list q3_c_is_word
  have q4_c__named_in : C8.Cal l.prog w K mg base 1 "_named_in" spNamedIn [] := ⟨_, _, _, _, O13, He.glo_ok X G (c.fact 29 rfl), H13.kp, b13, .nil⟩
  have O15 := ok_Book_keep (P := l.prog) (w := w) (base := base) (mg := mg) (C := (He.ga K "Book")) F15 K_Book q4_c__named_in
  have q5_c_is_there : C8.Cal l.prog w K mg base 1 "is_there" spThere [] := ⟨_, _, _, _, O9, He.glo_ok X G (c.fact 30 rfl), H9.kp, b9, .nil⟩
  have O21 := ok_Book_entries (P := l.prog) (w := w) (base := base) (mg := mg) (C := (He.ga K "Book")) F21 K_Book m_sorted q5_c_is_there
  have O24 := ok_Book_told_of (P := l.prog) (w := w) (base := base) (mg := mg) (C := (He.ga K "Book")) F24 K_Book m_sorted q5_c_is_there
  have O29 := ok__law_record (P := l.prog) (w := w) (base := base) (mg := mg)  F29 m_len m_tuple m_range m_min q0_c__law_draw
  have O31 := ok_b_is_moment (P := l.prog) (w := w) (base := base) (mg := mg)  F31 m_isinstance m_tuple m_len gl_MOST q1_c_is_number
  have q6_c__law_moment : C8.Cal l.prog w K mg base 1 "_law_moment" spMomL [] := ⟨_, _, _, _, O45, He.glo_ok X G (c.fact 31 rfl), H45.kp, b45, .nil⟩
  have O46 := ok__law_due (P := l.prog) (w := w) (base := base) (mg := mg)  F46 m_isinstance q6_c__law_moment
  have O47 := ok__law_tried (P := l.prog) (w := w) (base := base) (mg := mg)  F47 m_len q0_c__law_draw
  have q7_c_is_moment : C8.Cal l.prog w K mg base 2 "is_moment" spMoment [] := ⟨_, _, _, _, O6, He.glo_ok X G (c.fact 32 rfl), H6.kp, b6, .nil⟩
  have O10 := ok_refuse_new (P := l.prog) (w := w) (base := base) (mg := mg)  F10 q7_c_is_moment
  have q8_c_are_sheets : C8.Cal l.prog w K mg base 2 "are_sheets" spSheets [] := ⟨_, _, _, _, O8, He.glo_ok X G (c.fact 33 rfl), H8.kp, b8, .nil⟩
  have O11 := ok_bad_name (P := l.prog) (w := w) (base := base) (mg := mg)  F11 m_isinstance m_tuple m_len m_all gl_MOST_RANK q1_c_is_number q3_c_is_word q8_c_are_sheets q2_c_is_list q7_c_is_moment
  have O16 := ok_Book_name (P := l.prog) (w := w) (base := base) (mg := mg) (C := (He.ga K "Book")) F16 K_Book q7_c_is_moment q5_c_is_there
  have q9_c_Book_entries_upto : MetK l.prog w K mg base 2 (He.ga K "Book") "entries" (spEntries (He.ga K "Book")) 1 ["upto"] (fun vs zs => vs ++ zs) := ⟨_, _, _, fun us ws => us ++ ws, K_Book.cl, He.meth_ok (c.fact 34 rfl), O21, ⟨fun s us ws _ h1 h2 => match us, h1, ws, h2 with | [_], _, [_], _ => .of_eq rfl, fun r1 r2 => r1.append r2⟩⟩
  have O26 := ok_Book_names (P := l.prog) (w := w) (base := base) (mg := mg) (C := (He.ga K "Book")) F26 q9_c_Book_entries_upto
  have q10_c__law_names : C8.Cal l.prog w K mg base 2 "_law_names" spNames [] := ⟨_, _, _, _, O2, He.glo_ok X G (c.fact 35 rfl), H2.kp, b2, .nil⟩
  have q11_c__law_moments : C8.Cal l.prog w K mg base 2 "_law_moments" spMoments [] := ⟨_, _, _, _, O3, He.glo_ok X G (c.fact 36 rfl), H3.kp, b3, .nil⟩
  have q12_c__law_record : C8.Cal l.prog w K mg base 2 "_law_record" spRecord [] := ⟨_, _, _, _, O29, He.glo_ok X G (c.fact 37 rfl), H29.kp, b29, .nil⟩
  have O30 := ok__law_records (P := l.prog) (w := w) (base := base) (mg := mg)  F30 q10_c__law_names q11_c__law_moments q12_c__law_record
  have q13_c_is_moment : C8.Cal l.prog w K mg base 2 "is_moment" spMomB [] := ⟨_, _, _, _, O31, He.glo_ok X G (c.fact 32 rfl), H31.kp, b31, .nil⟩
  have q14_c_BadMoment : ExcOne l.prog w K mg base 1 "BadMoment" "moment" (He.ga K "BadMoment") := ⟨⟨X_BadMoment.cls, He.glo_ok X G (c.fact 38 rfl), _, _, _, _, X_BadMoment.init, X_BadMoment.fn, O38, b38, .nil⟩, X_BadMoment.plain⟩
  have q15_c_SameMoment : ExcOne l.prog w K mg base 1 "SameMoment" "moment" (He.ga K "SameMoment") := ⟨⟨X_SameMoment.cls, He.glo_ok X G (c.fact 39 rfl), _, _, _, _, X_SameMoment.init, X_SameMoment.fn, O39, b39, .nil⟩, X_SameMoment.plain⟩
  have O32 := ok_x_refuse_new (P := l.prog) (w := w) (base := base) (mg := mg) (CB := (He.ga K "BadMoment")) (CS := (He.ga K "SameMoment")) F32 q13_c_is_moment q14_c_BadMoment q15_c_SameMoment
  have q16_c_NoName : ExcOne l.prog w K mg base 1 "NoName" "moment" (He.ga K "NoName") := ⟨⟨X_NoName.cls, He.glo_ok X G (c.fact 40 rfl), _, _, _, _, X_NoName.init, X_NoName.fn, O40, b40, .nil⟩, X_NoName.plain⟩
  have O33 := ok_x_Book_name (P := l.prog) (w := w) (base := base) (mg := mg) (C := (He.ga K "Book")) (CN := (He.ga K "NoName")) F33 K_Book q13_c_is_moment q5_c_is_there q16_c_NoName
  have q17_c_Book__name : C8.Met l.prog w K mg base 3 (He.ga K "Book") "_name" (spName (He.ga K "Book")) [.non] := by
    obtain ⟨ds, r, b⟩ := FunD.binds0 (ps := ["self", "name", "upto"]) F16 2 (by simp) rfl fun D doc pm an cdv ct us ks h1 h2 => match us, h1, ks, h2 with | [_, _], _, [_], _ => ⟨_, _, _, _, _, _, rfl, rfl, rfl⟩
    exact ⟨_, _, _, ds, K_Book.cl, He.meth_ok (c.fact 41 rfl), O16, b, r⟩
  have O17 := ok_Book_refuse_named (P := l.prog) (w := w) (base := base) (mg := mg) (C := (He.ga K "Book")) F17 q17_c_Book__name
  have O18 := ok_Book_rank (P := l.prog) (w := w) (base := base) (mg := mg) (C := (He.ga K "Book")) F18 q17_c_Book__name
  have O22 := ok_Book_words (P := l.prog) (w := w) (base := base) (mg := mg) (C := (He.ga K "Book")) F22 q17_c_Book__name
  have q18_c_Book__name_upto : MetK l.prog w K mg base 3 (He.ga K "Book") "_name" (spName (He.ga K "Book")) 2 ["upto"] (fun vs zs => vs ++ zs) := ⟨_, _, _, fun us ws => us ++ ws, K_Book.cl, He.meth_ok (c.fact 41 rfl), O16, ⟨fun s us ws _ h1 h2 => match us, h1, ws, h2 with | [_, _], _, [_], _ => .of_eq rfl, fun r1 r2 => r1.append r2⟩⟩
  have q19_c_Book__told_of : C8.Met l.prog w K mg base 2 (He.ga K "Book") "_told_of" (spToldOf (He.ga K "Book")) [] := ⟨_, _, _, _, K_Book.cl, He.meth_ok (c.fact 42 rfl), O24, b24, .nil⟩
  have O25 := ok_Book_wholly (P := l.prog) (w := w) (base := base) (mg := mg) (C := (He.ga K "Book")) F25 q18_c_Book__name_upto q19_c_Book__told_of
  have q20_c_Book__name : MetX l.prog w K mg base 3 (He.ga K "Book") "_name" (spNameX (He.ga K "Book") (He.ga K "NoName")) [.non] := by
    obtain ⟨ds, r, b⟩ := FunD.binds0 (ps := ["self", "name", "upto"]) F33 2 (by simp) rfl fun D doc pm an cdv ct us ks h1 h2 => match us, h1, ks, h2 with | [_, _], _, [_], _ => ⟨_, _, _, _, _, _, rfl, rfl, rfl⟩
    exact ⟨_, _, _, ds, K_Book.cl, He.meth_ok (c.fact 41 rfl), O33, b, r⟩
  have q21_c_Later : ExcOne l.prog w K mg base 1 "Later" "moment" (He.ga K "Later") := ⟨⟨X_Later.cls, He.glo_ok X G (c.fact 43 rfl), _, _, _, _, X_Later.init, X_Later.fn, O42, b42, .nil⟩, X_Later.plain⟩
  have O34 := ok_x_Book_refuse_named (P := l.prog) (w := w) (base := base) (mg := mg) (C := (He.ga K "Book")) (CN := (He.ga K "NoName")) (CL := (He.ga K "Later")) F34 q20_c_Book__name q21_c_Later
  have q22_c_refuse_new : C8.Cal l.prog w K mg base 3 "refuse_new" spNew [] := ⟨_, _, _, _, O10, He.glo_ok X G (c.fact 44 rfl), H10.kp, b10, .nil⟩
  have q23_c_bad_name : C8.Cal l.prog w K mg base 3 "bad_name" spBad [] := ⟨_, _, _, _, O11, He.glo_ok X G (c.fact 45 rfl), H11.kp, b11, .nil⟩
  have q24_c__may_be_like : C8.Cal l.prog w K mg base 1 "_may_be_like" spMayLike [] := ⟨_, _, _, _, O12, He.glo_ok X G (c.fact 46 rfl), H12.kp, b12, .nil⟩
  have q25_c_Book__refuse_named : C8.Met l.prog w K mg base 4 (He.ga K "Book") "_refuse_named" (spRefuse (He.ga K "Book")) [] := ⟨_, _, _, _, K_Book.cl, He.meth_ok (c.fact 47 rfl), O17, b17, .nil⟩
  have q26_c_Book_rank : C8.Met l.prog w K mg base 4 (He.ga K "Book") "rank" (spRank (He.ga K "Book")) [] := ⟨_, _, _, _, K_Book.cl, He.meth_ok (c.fact 48 rfl), O18, b18, .nil⟩
  have q27_c_Book__keep : C8.Met l.prog w K mg base 2 (He.ga K "Book") "_keep" (spKeep (He.ga K "Book")) [] := ⟨_, _, _, _, K_Book.cl, He.meth_ok (c.fact 49 rfl), O15, b15, .nil⟩
  have O19 := ok_Book_publish (P := l.prog) (w := w) (base := base) (mg := mg) (C := (He.ga K "Book")) F19 K_Book m_tuple q22_c_refuse_new q23_c_bad_name q24_c__may_be_like q25_c_Book__refuse_named q26_c_Book_rank q27_c_Book__keep
  have O20 := ok_Book_ahead (P := l.prog) (w := w) (base := base) (mg := mg) (C := (He.ga K "Book")) F20 K_Book q22_c_refuse_new q25_c_Book__refuse_named q26_c_Book_rank q27_c_Book__keep
  have O23 := ok_Book_strike (P := l.prog) (w := w) (base := base) (mg := mg) (C := (He.ga K "Book")) F23 K_Book m_bool q22_c_refuse_new q25_c_Book__refuse_named q27_c_Book__keep
  have O27 := ok_Book_choose (P := l.prog) (w := w) (base := base) (mg := mg) (C := (He.ga K "Book")) F27 K_Book q22_c_refuse_new q25_c_Book__refuse_named q17_c_Book__name q27_c_Book__keep
  have q28_c_refuse_new : CalX l.prog w K mg base 3 "refuse_new" (spNewX (He.ga K "BadMoment") (He.ga K "SameMoment")) [] := ⟨_, _, _, _, O32, He.glo_ok X G (c.fact 44 rfl), H32.kp, b32, .nil⟩
  have q29_c_Book__refuse_named : MetX l.prog w K mg base 4 (He.ga K "Book") "_refuse_named" (spRefuseX (He.ga K "Book") (He.ga K "NoName") (He.ga K "Later")) [] := ⟨_, _, _, _, K_Book.cl, He.meth_ok (c.fact 47 rfl), O34, b34, .nil⟩
  have O35 := ok_x_Book_strike (P := l.prog) (w := w) (base := base) (mg := mg) (C := (He.ga K "Book")) (CB := (He.ga K "BadMoment")) (CS := (He.ga K "SameMoment")) (CN := (He.ga K "NoName")) (CL := (He.ga K "Later")) F35 K_Book m_bool q28_c_refuse_new q29_c_Book__refuse_named q27_c_Book__keep
  have q30_c_Unfit : ExcOne l.prog w K mg base 1 "Unfit" "moment" (He.ga K "Unfit") := ⟨⟨X_Unfit.cls, He.glo_ok X G (c.fact 50 rfl), _, _, _, _, X_Unfit.init, X_Unfit.fn, O43, b43, .nil⟩, X_Unfit.plain⟩
  have q31_c_NoSheet : ExcOne l.prog w K mg base 1 "NoSheet" "sheet" (He.ga K "NoSheet") := ⟨⟨X_NoSheet.cls, He.glo_ok X G (c.fact 51 rfl), _, _, _, _, X_NoSheet.init, X_NoSheet.fn, O41, b41, .nil⟩, X_NoSheet.plain⟩
  have O36 := ok_x_Book_choose (P := l.prog) (w := w) (base := base) (mg := mg) (C := (He.ga K "Book")) (CB := (He.ga K "BadMoment")) (CS := (He.ga K "SameMoment")) (CN := (He.ga K "NoName")) (CL := (He.ga K "Later")) (CU := (He.ga K "Unfit")) (CZ := (He.ga K "NoSheet")) F36 K_Book q28_c_refuse_new q29_c_Book__refuse_named q17_c_Book__name q27_c_Book__keep q30_c_Unfit q31_c_NoSheet
  have O37 := ok_x_Book_ahead (P := l.prog) (w := w) (base := base) (mg := mg) (C := (He.ga K "Book")) (CB := (He.ga K "BadMoment")) (CS := (He.ga K "SameMoment")) (CN := (He.ga K "NoName")) (CL := (He.ga K "Later")) (CU := (He.ga K "Unfit")) F37 K_Book q28_c_refuse_new q29_c_Book__refuse_named q26_c_Book_rank q27_c_Book__keep q30_c_Unfit
  have q32_c_Book_publish_rank_sheets_like : MetK l.prog w K mg base 5 (He.ga K "Book") "publish" (spPublish (He.ga K "Book")) 3 ["rank", "sheets", "like"] (fun vs zs => vs ++ zs) := ⟨_, _, _, fun us ws => us ++ ws, K_Book.cl, He.meth_ok (c.fact 52 rfl), O19, ⟨fun s us ws _ h1 h2 => match us, h1, ws, h2 with | [_, _, _], _, [_, _, _], _ => .of_eq rfl, fun r1 r2 => r1.append r2⟩⟩
  have q33_c_Book_choose : C8.Met l.prog w K mg base 5 (He.ga K "Book") "choose" (spChoose (He.ga K "Book")) [] := ⟨_, _, _, _, K_Book.cl, He.meth_ok (c.fact 53 rfl), O27, b27, .nil⟩
  have q34_c_Book_strike_whole : MetK l.prog w K mg base 5 (He.ga K "Book") "strike" (spStrike (He.ga K "Book")) 3 ["whole"] (fun vs zs => vs ++ zs) := ⟨_, _, _, fun us ws => us ++ ws, K_Book.cl, He.meth_ok (c.fact 54 rfl), O23, ⟨fun s us ws _ h1 h2 => match us, h1, ws, h2 with | [_, _, _], _, [_], _ => .of_eq rfl, fun r1 r2 => r1.append r2⟩⟩
  have q35_c_Book_ahead : C8.Met l.prog w K mg base 5 (He.ga K "Book") "ahead" (spAhead (He.ga K "Book")) [] := ⟨_, _, _, _, K_Book.cl, He.meth_ok (c.fact 55 rfl), O20, b20, .nil⟩
  have O28 := ok__law_tell (P := l.prog) (w := w) (base := base) (mg := mg) (C := (He.ga K "Book")) F28 q32_c_Book_publish_rank_sheets_like q33_c_Book_choose q34_c_Book_strike_whole q35_c_Book_ahead
  have q36_c_Book_choose : MetX l.prog w K mg base 5 (He.ga K "Book") "choose" (spChooseX (He.ga K "Book") (He.ga K "BadMoment") (He.ga K "SameMoment") (He.ga K "NoName") (He.ga K "Later") (He.ga K "Unfit") (He.ga K "NoSheet")) [] := ⟨_, _, _, _, K_Book.cl, He.meth_ok (c.fact 53 rfl), O36, b36, .nil⟩
  have q37_c_Book_strike_whole : MetKX l.prog w K mg base 5 (He.ga K "Book") "strike" (spStrikeX (He.ga K "Book") (He.ga K "BadMoment") (He.ga K "SameMoment") (He.ga K "NoName") (He.ga K "Later")) 3 ["whole"] (fun vs zs => vs ++ zs) := ⟨_, _, _, fun us ws => us ++ ws, K_Book.cl, He.meth_ok (c.fact 54 rfl), O35, ⟨fun s us ws _ h1 h2 => match us, h1, ws, h2 with | [_, _, _], _, [_], _ => .of_eq rfl, fun r1 r2 => r1.append r2⟩⟩
  have q38_c_Book_ahead : MetX l.prog w K mg base 5 (He.ga K "Book") "ahead" (spAheadX (He.ga K "Book") (He.ga K "BadMoment") (He.ga K "SameMoment") (He.ga K "NoName") (He.ga K "Later") (He.ga K "Unfit")) [] := ⟨_, _, _, _, K_Book.cl, He.meth_ok (c.fact 55 rfl), O37, b37, .nil⟩
  have O44 := ok_x__law_tell (P := l.prog) (w := w) (base := base) (mg := mg) (C := (He.ga K "Book")) (CB := (He.ga K "BadMoment")) (CS := (He.ga K "SameMoment")) (CN := (He.ga K "NoName")) (CL := (He.ga K "Later")) (CU := (He.ga K "Unfit")) (CZ := (He.ga K "NoSheet")) F44 q32_c_Book_publish_rank_sheets_like q36_c_Book_choose q37_c_Book_strike_whole q38_c_Book_ahead
  have q39_c__law_pen : C8.Cal l.prog w K mg base 1 "_law_pen" (spPen K) [] := ⟨_, _, _, _, O0, He.glo_ok X G (c.fact 56 rfl), H0.kp, b0, .nil⟩
  have q40_c__law_records : C8.Cal l.prog w K mg base 3 "_law_records" spRecords [] := ⟨_, _, _, _, O30, He.glo_ok X G (c.fact 57 rfl), H30.kp, b30, .nil⟩
  have q41_c_Book : C8.Mak l.prog w K mg base 1 "Book" (He.ga K "Book") (spInit (He.ga K "Book")) [] := ⟨_, _, _, _, He.mkr_ok (c.fact 58 rfl), O14, He.glo_ok X G (c.fact 59 rfl), b14, .nil⟩
  have q42_c__law_tell : C8.Cal l.prog w K mg base 6 "_law_tell" (spTell (He.ga K "Book")) [] := ⟨_, _, _, _, O28, He.glo_ok X G (c.fact 60 rfl), H28.kp, b28, .nil⟩
  have q43_cX__law_tell : CalX l.prog w K mg base 6 "_law_tell" (spTellX (He.ga K "Book") (He.ga K "BadMoment") (He.ga K "SameMoment") (He.ga K "NoName") (He.ga K "Later") (He.ga K "Unfit") (He.ga K "NoSheet")) [] := ⟨_, _, _, _, O44, He.glo_ok X G (c.fact 60 rfl), H44.kp, b44, .nil⟩
  have q44_c__law_tried : C8.Cal l.prog w K mg base 2 "_law_tried" spTried [] := ⟨_, _, _, _, O47, He.glo_ok X G (c.fact 61 rfl), H47.kp, b47, .nil⟩
  have q45_c__law_due : C8.Cal l.prog w K mg base 2 "_law_due" spDueP [] := ⟨_, _, _, _, O46, He.glo_ok X G (c.fact 62 rfl), H46.kp, b46, .nil⟩
  have q46_c_Book_entries : C8.Met l.prog w K mg base 2 (He.ga K "Book") "entries" (spEntries (He.ga K "Book")) [.non] := by
    obtain ⟨ds, r, b⟩ := FunD.binds0 (ps := ["self", "upto"]) F21 1 (by simp) rfl fun D doc pm an cdv ct us ks h1 h2 => match us, h1, ks, h2 with | [_], _, [_], _ => ⟨_, _, _, _, _, _, rfl, rfl, rfl⟩
    exact ⟨_, _, _, ds, K_Book.cl, He.meth_ok (c.fact 34 rfl), O21, b, r⟩
  have R_ref : RefAt K mg (He.ga K "BadMoment") (He.ga K "SameMoment") (He.ga K "NoName") (He.ga K "NoSheet") (He.ga K "Later") (He.ga K "Unfit") (He.ga K "BadName") := ⟨⟨_, _, F50, b50, (He.glo_ok X G (c.fact 63 rfl))⟩, ⟨(He.glo_ok X G (c.fact 38 rfl)), (He.glo_ok X G (c.fact 39 rfl)), (He.glo_ok X G (c.fact 40 rfl)), (He.glo_ok X G (c.fact 51 rfl)), (He.glo_ok X G (c.fact 43 rfl)), (He.glo_ok X G (c.fact 50 rfl)), (He.glo_ok X G (c.fact 64 rfl)), X_BadMoment.met, X_SameMoment.met, X_NoName.met, X_NoSheet.met, X_Later.met, X_Unfit.met, X_BadMoment.plain, X_SameMoment.plain, X_NoName.plain, X_NoSheet.plain, X_Later.plain, X_Unfit.plain, fun p hp => by
      obtain ⟨q, hq, rfl⟩ := List.mem_map.mp (show p ∈ ([("SameMoment", "BadMoment"), ("NoName", "BadMoment"), ("NoName", "SameMoment"), ("NoSheet", "BadMoment"), ("NoSheet", "SameMoment"), ("NoSheet", "NoName"), ("Later", "BadMoment"), ("Later", "SameMoment"), ("Later", "NoName"), ("Later", "NoSheet"), ("Unfit", "BadMoment"), ("Unfit", "SameMoment"), ("Unfit", "NoName"), ("Unfit", "NoSheet"), ("Unfit", "Later")] : List (Str × Str)).map (fun q => (He.ga K q.1, He.ga K q.2)) from hp)
      exact of_decide_eq_true (List.all_eq_true.mp z_no q hq), of_decide_eq_true z_kS, of_decide_eq_true z_kN⟩, m_isinstance, m_ValueError, m_KeyError, m_LookupError, m_RuntimeError⟩
  exact run_law (args := ⟨[.ref a], []⟩) (us := [.ref a]) (vs := [V.ref a]) (P := l.prog) (w := w) (base := base) (mg := mg) (C := He.ga K "Book") (CB := He.ga K "BadMoment") (CS := He.ga K "SameMoment") (CN := He.ga K "NoName") (CZ := He.ga K "NoSheet") (CL := He.ga K "Later") (CU := He.ga K "Unfit") (CW := He.ga K "BadName") F49 (T := tabT K) hcL (TBs _ (List.mem_cons_self ..)) (List.mem_cons_self ..) hu2 m_len m_range m_min m_sorted O48 OL b48 R_ref q39_c__law_pen q0_c__law_draw q10_c__law_names q40_c__law_records q11_c__law_moments q41_c_Book q42_c__law_tell q43_cX__law_tell q44_c__law_tried q45_c__law_due q46_c_Book_entries room e0 bd rv sp
end KN

open PySem PySem.W PyProof.Rows
open PySem PySem.W PySem.Calls PyProof.Rows
set_option maxRecDepth 100000 in
set_option maxHeartbeats 0 in
theorem PySem.Challenge.cw_kindnames_k02_chosen_struck_set_ahead_holds : PySem.Challenge.rw_kindnames_k02_chosen_struck_set_ahead.Holds := by
  w_on; o_law
  refine HandSHeadRun.head_any (r := KN.R) (q := KN.qv) (H := KN.hk) (ob := KN.ob) (M := 12000) (loose := KN.nam) (d := HandSHeadRun.topDef KN.R.prog 39) (kwd := []) KN.ob_eq
    (by kernel_rfl) (fun s => by kernel_rfl) KN.run (by kernel_rfl) (by kernel_rfl) (by kernel_rfl) (by rfl) (by first | assumption | decide +kernel) (by decide +kernel) ⟨rfl, rfl, rfl, rfl, rfl, by decide +kernel⟩ ?hw ?hc
  case hw => w_witness2
  case hc =>
    refine KN.walk_there (l := PySem.Challenge.rw_kindnames_k02_chosen_struck_set_ahead) (n := 63) (x := "_law_script") rfl (by decide) (by kernel_rfl) ?F
    intro w mg fa h Y G hmg0
    obtain ⟨K, KX, c⟩ := Y
    have hmg : mg ("law" : PySem.Str) = some (.ref fa) := by
      have e : (HandSHeadRun.topDef KN.R.prog 39).name = ("law" : PySem.Str) := by kernel_rfl
      rw [← e]
      exact hmg0
    obtain ⟨fd, hb, hF⟩ := KN.facts (l := PySem.Challenge.rw_kindnames_k02_chosen_struck_set_ahead) (w := w) KX G hmg c
    refine ⟨K, fd, [He.cT K ("law", none)], KN.spLawB (KN.tabT K) K, KX, fun p hp => ?_, fun p hp => ?_, fun p hp => ?_, hb, fun H a ns hl t hS => ⟨a, ns, rfl, hS, hl, ?_, fun _ => rfl⟩, hF⟩
    · cases List.mem_singleton.mp hp; exact c.empty _ (List.mem_cons_self ..)
    · cases List.mem_singleton.mp hp; exact c.out _ (List.mem_cons_self ..)
    · cases List.mem_singleton.mp hp; exact PySem.W.codeHd_of_K KX (c.hd _ (List.mem_cons_self ..))
    · intro q hq
      cases List.mem_singleton.mp hq; exact LamX.TabS.nil (t _ (List.mem_cons_self ..))
