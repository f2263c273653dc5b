import PyProof.Rows.All
import Wide.All
import OpenK.AllK
import Wide.FinOn
import HandS.ForMost
import HandS.Codes
import HandS.Deep
import HandS.Defaults
import HandS.TupSets
import HandS.TupLe
import HandS.IsInst
import HandS.TupAny
import HandS.Strs
import HandS.DictTup
import HandS.Conv
import PyProof.DictMoreH
import HandS.StrMore
import HandS.Walk
import PySem.Challenge.RW_kindnames_k05_whole_aheads_make_no_ring
set_option Elab.async false
set_option linter.all false
set_option maxRecDepth 100000
/-! Own base: data of tuples, what keeps them, equal data, dicts by text keys. -/
namespace KN
open PySem L2

/-- every tuple stays -/
def TK (H H' : Hp) : Prop := ∀ b xs, H b = some (.tup xs) → H' b = some (.tup xs)
theorem TK.refl (H : Hp) : TK H H := fun _ _ h => h
theorem TK.trans {H H1 H2 : Hp} (a : TK H H1) (b : TK H1 H2) : TK H H2 := fun c xs h => b c xs (a c xs h)
theorem TK.of {H H' : Hp} (s : Same H H') : TK H H' := fun b xs h => s b _ h
theorem TK.new {H : Hp} {p : Addr} {o : HO} (h : H p = none) : TK H (upd H p o) := fun b xs e => by
  rw [upd_ne (ne_of_none e h)]; exact e
theorem TK.put {H : Hp} {p : Addr} {o u : HO} (h : H p = some u) (nt : ∀ xs, u ≠ .tup xs) : TK H (upd H p o) := fun b xs e => by
  rw [upd_ne (fun z => by subst z; rw [h] at e; exact nt xs (Option.some.inj e))]; exact e
theorem Same.new {H : Hp} {p : Addr} {o : HO} (h : H p = none) : Same H (upd H p o) := fun b u e => by
  rw [upd_ne (ne_of_none e h)]; exact e

mutual
inductive Tp (H : Hp) : V → PyData → Prop
  | non : Tp H .non .none
  | bl (b : Bool) : Tp H (.bl b) (.bool b)
  | int (i : Int) : Tp H (.int i) (.int i)
  | str (x : Str) : Tp H (.str x) (.str x)
  | tup {a : Addr} {xs : List V} {ds : List PyData} : H a = some (.tup xs) → TpAll H xs ds → Tp H (.ref a) (.tuple ds)
inductive TpAll (H : Hp) : List V → List PyData → Prop
  | nil : TpAll H [] []
  | cons {v : V} {vs : List V} {d : PyData} {ds : List PyData} : Tp H v d → TpAll H vs ds → TpAll H (v :: vs) (d :: ds)
end

mutual
theorem Tp.mono {H H' : Hp} (k : TK H H') : ∀ (d : PyData) (v : V), Tp H v d → Tp H' v d
  | .none, _, h => by cases h; exact .non
  | .bool b, _, h => by cases h; exact .bl b
  | .int i, _, h => by cases h; exact .int i
  | .str x, _, h => by cases h; exact .str x
  | .tuple ds, _, h => by
    cases h with
    | tup e r => exact .tup (k _ _ e) (TpAll.mono k ds _ r)
  | .list ds, _, h => by cases h
  | .dict _, _, h => by cases h
theorem TpAll.mono {H H' : Hp} (k : TK H H') : ∀ (ds : List PyData) (vs : List V), TpAll H vs ds → TpAll H' vs ds
  | [], _, h => by cases h; exact .nil
  | d :: ds, _, h => by
    cases h with
    | cons a r => exact .cons (Tp.mono k d _ a) (TpAll.mono k ds _ r)
end
theorem Tp.to {H H' : Hp} {d : PyData} {v : V} (h : Tp H v d) (k : TK H H') : Tp H' v d := Tp.mono k d v h
theorem TpAll.to {H H' : Hp} {ds : List PyData} {vs : List V} (h : TpAll H vs ds) (k : TK H H') : TpAll H' vs ds := TpAll.mono k ds vs h

mutual
theorem Tp.dp {K : PySem.W.Frag} {H : Hp} : ∀ (d : PyData) (v : V), Tp H v d → Dp K H v d
  | .none, _, h => by cases h; exact .non
  | .bool b, _, h => by cases h; exact .bl b
  | .int i, _, h => by cases h; exact .int i
  | .str x, _, h => by cases h; exact .str x
  | .tuple ds, _, h => by
    cases h with
    | tup e r => exact .tup (SqT.of e) (TpAll.dp ds _ r)
  | .list ds, _, h => by cases h
  | .dict _, _, h => by cases h
theorem TpAll.dp {K : PySem.W.Frag} {H : Hp} : ∀ (ds : List PyData) (vs : List V), TpAll H vs ds → DpAll K H vs ds
  | [], _, h => by cases h; exact .nil
  | d :: ds, _, h => by
    cases h with
    | cons a r => exact .cons (Tp.dp d _ a) (TpAll.dp ds _ r)
end
theorem Tp.d {K : PySem.W.Frag} {H : Hp} {d : PyData} {v : V} (h : Tp H v d) : Dp K H v d := Tp.dp d v h

theorem TpAll.len {H : Hp} : ∀ {ds : List PyData} {vs : List V}, TpAll H vs ds → vs.length = ds.length
  | [], _, h => by cases h; rfl
  | d :: ds, _, h => by
    cases h with
    | cons a r => rw [List.length_cons, List.length_cons, TpAll.len r]
theorem TpAll.get {H : Hp} : ∀ {ds : List PyData} {vs : List V} {i : Nat} {d : PyData}, TpAll H vs ds → ds[i]? = some d → ∃ v, vs[i]? = some v ∧ Tp H v d
  | [], _, i, d, h, e => by simp at e
  | d0 :: ds, _, i, d, h, e => by
    cases h with
    | cons a r =>
      cases i with
      | zero => rw [List.getElem?_cons_zero] at e; cases e; exact ⟨_, rfl, a⟩
      | succ i =>
        rw [List.getElem?_cons_succ] at e
        obtain ⟨v, h1, h2⟩ := TpAll.get r e
        exact ⟨v, by rw [List.getElem?_cons_succ]; exact h1, h2⟩
theorem TpAll.getv {H : Hp} : ∀ {ds : List PyData} {vs : List V} {i : Nat} {v : V}, TpAll H vs ds → vs[i]? = some v → ∃ d, ds[i]? = some d ∧ Tp H v d
  | [], _, i, v, h, e => by cases h; simp at e
  | d0 :: ds, _, i, v, h, e => by
    cases h with
    | cons a r =>
      cases i with
      | zero => rw [List.getElem?_cons_zero] at e; cases e; exact ⟨_, rfl, a⟩
      | succ i =>
        rw [List.getElem?_cons_succ] at e
        obtain ⟨d, h1, h2⟩ := TpAll.getv r e
        exact ⟨d, by rw [List.getElem?_cons_succ]; exact h1, h2⟩
theorem TpAll.app {H : Hp} : ∀ {ds : List PyData} {vs : List V} {es : List PyData} {ws : List V}, TpAll H vs ds → TpAll H ws es → TpAll H (vs ++ ws) (ds ++ es)
  | [], _, _, _, h, k => by cases h; exact k
  | d :: ds, _, _, _, h, k => by
    cases h with
    | cons a r => exact .cons a (TpAll.app r k)
theorem TpAll.snoc {H : Hp} {ds : List PyData} {vs : List V} {d : PyData} {v : V} (h : TpAll H vs ds) (k : Tp H v d) : TpAll H (vs ++ [v]) (ds ++ [d]) := h.app (.cons k .nil)
theorem TpAll.drop {H : Hp} : ∀ (n : Nat) {ds : List PyData} {vs : List V}, TpAll H vs ds → TpAll H (vs.drop n) (ds.drop n)
  | 0, _, _, h => h
  | n + 1, [], _, h => by cases h; exact .nil
  | n + 1, d :: ds, _, h => by
    cases h with
    | cons a r => exact TpAll.drop n r
theorem TpAll.take {H : Hp} : ∀ (n : Nat) {ds : List PyData} {vs : List V}, TpAll H vs ds → TpAll H (vs.take n) (ds.take n)
  | 0, _, _, h => .nil
  | n + 1, [], _, h => by cases h; exact .nil
  | n + 1, d :: ds, _, h => by
    cases h with
    | cons a r => exact .cons a (TpAll.take n r)
theorem TpAll.erase {H : Hp} : ∀ (n : Nat) {ds : List PyData} {vs : List V}, TpAll H vs ds → TpAll H (vs.eraseIdx n) (ds.eraseIdx n)
  | _, [], _, h => by cases h; exact .nil
  | 0, d :: ds, _, h => by
    cases h with
    | cons a r => exact r
  | n + 1, d :: ds, _, h => by
    cases h with
    | cons a r => exact .cons a (TpAll.erase n r)
theorem TpAll.strs {H : Hp} : ∀ (ss : List Str), TpAll H (ss.map V.str) (ss.map PyData.str)
  | [] => .nil
  | s :: ss => .cons (.str s) (TpAll.strs ss)
theorem TpAll.ints {H : Hp} : ∀ (ss : List Int), TpAll H (ss.map V.int) (ss.map PyData.int)
  | [] => .nil
  | s :: ss => .cons (.int s) (TpAll.ints ss)
theorem TpAll.of_strs {H : Hp} : ∀ {ss : List Str} {vs : List V}, TpAll H vs (ss.map PyData.str) → vs = ss.map V.str
  | [], _, h => by cases h; rfl
  | s :: ss, _, h => by
    cases h with
    | cons a r => cases a; rw [TpAll.of_strs r]; rfl
theorem Tp.inv {H : Hp} {v : V} {ds : List PyData} (h : Tp H v (.tuple ds)) : ∃ a xs, v = .ref a ∧ H a = some (.tup xs) ∧ TpAll H xs ds := by
  cases h with
  | tup e r => exact ⟨_, _, rfl, e, r⟩

/-- a list of tuple data stands at a -/
def Ls (H : Hp) (a : Addr) (ds : List PyData) : Prop := ∃ xs, H a = some (.lst xs) ∧ TpAll H xs ds
theorem Ls.to {H H' : Hp} {a : Addr} {ds : List PyData} (h : Ls H a ds) (s : Same H H') : Ls H' a ds :=
  let ⟨xs, e, r⟩ := h
  ⟨xs, s _ _ e, r.to (TK.of s)⟩
theorem Ls.dp {K : PySem.W.Frag} {H : Hp} {a : Addr} {ds : List PyData} (h : Ls H a ds) : Dp K H (.ref a) (.list ds) :=
  let ⟨_, e, r⟩ := h
  .lst (SqL.of e) (TpAll.dp _ _ r)

/-! ### equal data -/
mutual
def okD : PyData → Bool
  | .none | .int _ => true
  | .str x => PySem.PyData.strOk x
  | .tuple ds | .list ds => okDs ds
  | .bool _ | .dict _ => false
def okDs : List PyData → Bool
  | [] => true
  | d :: ds => okD d && okDs ds
end
mutual
theorem okD_lay : ∀ d : PyData, okD d = true → d.canLay0 = true
  | .none, _ => rfl
  | .int _, _ => rfl
  | .str x, h => by simpa [okD, PyData.canLay0] using h
  | .tuple ds, h => by
    have := okDs_lay ds (by simpa [okD] using h)
    simpa [PyData.canLay0] using this
  | .list ds, h => by
    have := okDs_lay ds (by simpa [okD] using h)
    simpa [PyData.canLay0] using this
  | .bool _, h => by simp [okD] at h
  | .dict _, h => by simp [okD] at h
theorem okDs_lay : ∀ ds : List PyData, okDs ds = true → PyData.canLayAll0 ds = true
  | [], _ => by simp [PyData.canLayAll0]
  | d :: ds, h => by
    have h' : okD d = true ∧ okDs ds = true := by simpa [okDs] using h
    simp [PyData.canLayAll0, okD_lay d h'.1, okDs_lay ds h'.2]
end
mutual
theorem eqv_imp : ∀ d e : PyData, okD d = true → okD e = true → PyData.eqv d e = true → d = e
  | .none, e, h, k, q => by cases e <;> simp_all [PyData.eqv, okD]
  | .int i, e, h, k, q => by cases e <;> simp_all [PyData.eqv, okD]
  | .str x, e, h, k, q => by cases e <;> simp_all [PyData.eqv, okD]
  | .tuple ds, e, h, k, q => by
    cases e with
    | tuple es =>
      have h' : okDs ds = true := by simpa [okD] using h
      have k' : okDs es = true := by simpa [okD] using k
      have q' : PyData.eqvAll ds es = true := by simpa [PyData.eqv] using q
      rw [eqvs_imp ds es h' k' q']
    | _ => simp_all [PyData.eqv, okD]
  | .list ds, e, h, k, q => by
    cases e with
    | list es =>
      have h' : okDs ds = true := by simpa [okD] using h
      have k' : okDs es = true := by simpa [okD] using k
      have q' : PyData.eqvAll ds es = true := by simpa [PyData.eqv] using q
      rw [eqvs_imp ds es h' k' q']
    | _ => simp_all [PyData.eqv, okD]
  | .bool _, _, h, _, _ => by simp [okD] at h
  | .dict _, _, h, _, _ => by simp [okD] at h
theorem eqvs_imp : ∀ ds es : List PyData, okDs ds = true → okDs es = true → PyData.eqvAll ds es = true → ds = es
  | [], [], _, _, _ => rfl
  | [], _ :: _, _, _, q => by simp [PyData.eqvAll] at q
  | _ :: _, [], _, _, q => by simp [PyData.eqvAll] at q
  | d :: ds, e :: es, h, k, q => by
    have h' : okD d = true ∧ okDs ds = true := by simpa [okDs] using h
    have k' : okD e = true ∧ okDs es = true := by simpa [okDs] using k
    have q' : PyData.eqv d e = true ∧ PyData.eqvAll ds es = true := by simpa [PyData.eqvAll] using q
    rw [eqv_imp d e h'.1 k'.1 q'.1, eqvs_imp ds es h'.2 k'.2 q'.2]
end
theorem eqv_iff {d e : PyData} (h : okD d = true) (k : okD e = true) : PyData.eqv d e = true ↔ d = e :=
  ⟨eqv_imp d e h k, fun q => by subst q; exact SeqAt.eqv_refl _ (okD_lay _ h)⟩
theorem okDs_all {ds : List PyData} : okDs ds = true ↔ ∀ d ∈ ds, okD d = true := by
  induction ds with
  | nil => simp [okDs]
  | cons d ds ih => simp [okDs, ih]
theorem eqv_dec {d e : PyData} {p : Prop} [Decidable p] (h : okD d = true) (k : okD e = true) (hp : d = e ↔ p) : PyData.eqv d e = decide p := by
  by_cases q : p
  · rw [decide_eq_true q]; exact (eqv_iff h k).mpr (hp.mpr q)
  · rw [decide_eq_false q]
    cases z : PyData.eqv d e with
    | false => rfl
    | true => exact absurd (hp.mp ((eqv_iff h k).mp z)) q
theorem any_eqv {d : PyData} {ds : List PyData} (h : okD d = true) (k : okDs ds = true) : (ds.any fun z => PyData.eqv z d) = true ↔ d ∈ ds := by
  rw [List.any_eq_true]
  constructor
  · rintro ⟨z, hz, e⟩
    rw [(eqv_iff (okDs_all.mp k z hz) h).mp e] at hz
    exact hz
  · intro hz
    exact ⟨d, hz, (eqv_iff h h).mpr rfl⟩
/-- data is not deep -/
theorem shaped_of {d : PyData} (h : okD d = true) (k : d.depth ≤ 64) : SeqAt.shaped d = true := by
  unfold SeqAt.shaped
  rw [okD_lay d h, decide_eq_true k]; rfl

/-! ### a dict's pairs by written text keys -/
theorem mu_of {o : HO} {H : Hp} {a : Addr} (h : H a = some o) (k : Mut (some o)) : Mut (H a) := by rw [h]; exact k
theorem toNat_lt' {a b : Int} (h : a < b) (h0 : 0 ≤ a) : a.toNat < b.toNat := by omega
/-- a moment; its data; elder -/
abbrev Mo := Int × Int
def mD (m : Mo) : PyData := .tuple [.int m.1, .int m.2]
def mLt (a b : Mo) : Prop := a.1 < b.1 ∨ a.1 = b.1 ∧ a.2 < b.2
instance (a b : Mo) : Decidable (mLt a b) := by unfold mLt; infer_instance
theorem mLt.trans {a b c : Mo} (h : mLt a b) (k : mLt b c) : mLt a c := by unfold mLt at *; omega
theorem mLt.irr {a : Mo} : ¬ mLt a a := by unfold mLt; omega
def MoOk (m : Mo) : Prop := 0 ≤ m.1 ∧ m.1 ≤ 1000000 ∧ 1 ≤ m.2 ∧ m.2 ≤ 1000000
theorem mD_inj {a b : Mo} (h : mD a = mD b) : a = b := by
  unfold mD at h
  injection h with h
  injection h with h1 h2
  injection h2 with h2 _
  injection h1 with h1
  injection h2 with h2
  exact Prod.ext h1 h2
theorem okD_m (m : Mo) : okD (mD m) = true := rfl
def mV (m : Mo) : List V := [.int m.1, .int m.2]
theorem Tp.mo {H : Hp} {a : Addr} {m : Mo} (h : H a = some (.tup [.int m.1, .int m.2])) : Tp H (.ref a) (mD m) := .tup h (.cons (.int _) (.cons (.int _) .nil))
theorem Tp.mo_inv {H : Hp} {v : V} {m : Mo} (h : Tp H v (mD m)) : ∃ a, v = .ref a ∧ H a = some (.tup [.int m.1, .int m.2]) := by
  obtain ⟨a, xs, rfl, e, r⟩ := Tp.inv h
  cases r with
  | cons h1 r =>
    cases r with
    | cons h2 r =>
      cases r
      cases h1
      cases h2
      exact ⟨a, rfl, e⟩
/-- a moment as a key -/
def mK (m : Mo) : List Key := [.inl m.1, .inl m.2]
theorem mK_v (m : Mo) : (mK m).map kV = [.int m.1, .int m.2] := rfl
theorem mK_inj {a b : Mo} (h : mK a = mK b) : a = b := by
  unfold mK at h
  injection h with h1 h2
  injection h2 with h2 _
  exact Prod.ext (Sum.inl.inj h1) (Sum.inl.inj h2)
theorem DGet.m {H : Hp} {a b : Addr} {kvs : List (List Key × V)} {m : Mo} (e : H a = some (.dT kvs)) (eb : H b = some (.tup [.int m.1, .int m.2])) : DGet H a (.ref b) (valV kvs (mK m)) := DGet.t e eb
end KN
set_option Elab.async false
set_option linter.all false
set_option maxRecDepth 100000
set_option maxHeartbeats 4000000
/-! Own rules beside the layer's: a display with one tuple key, calls of methods with keywords, an instance made without arguments, del d[k] by a tuple, sorted(d) of moments. -/
namespace KN
open PySem PySem.Spec L2
def tDispT1 (tk tv : TE) : TE := fun σ H Q => ∀ p, H p = none → tk σ (upd H p (.dT [])) fun x H1 => tv σ H1 fun y H2 => ∃ (k : List Key) (b : Addr), x = .ref b ∧ H2 p = some (.dT []) ∧ H2 b = some (.tup (k.map kV)) ∧ Q (.ref p) (upd H2 p (.dT [(k, y)]))
theorem pe_dispT1 {X : Cx} {pos : Pos} {k v : Expr} {tk tv : TE} (hu : X.A.units + 1 < cLine) (hk : PE X k tk) (hv : PE X v tv) : PE X (.Dict [some k] [v] pos) (tDispT1 tk tv) := by
  refine ⟨fun pins s σ H Q I q => ?_⟩
  have hn := I.hok.fresh (Nat.le_refl s.heap.objs.size)
  have I1 := I.laid (a := s.heap.objs.size) (o := .dT []) (h' := s.heap.push { cls := .type "dict", data := .dict #[] }) (t' := s.toks) (fun _ _ q => Heap.get?_push_of_some _ q) (Nat.le_refl _) (dt_empty s.heap I.big)
  refine wpAny_Dict_any rfl rfl (by simp) (by simp) ?_
  refine pairTrees_cons_walk (thn (hk.run pins _ σ _ _ I1 (q _ hn)) fun u s1 ⟨x, H1, I1, rx, q1⟩ => thn (hv.run pins s1 σ H1 _ I1 q1) fun w2 s2 ⟨y, H2, I2, ry, kk, b, ex, e, eb, q2⟩ => pairTrees_nil_walk ?_)
  subst ex
  cases (show u = Value.ref b from rx)
  obtain ⟨z, hd, xs, rel, dd⟩ := dt_of I2.hok e
  cases rel
  unfold storeAll
  rw [List.forIn_cons]
  refine wpAny_bind (wpAny_bind (wpAny_dictSet_heap (hsz := by simp) (show X.A.units < cLine by omega) (key_of I2.hok eb) dd fun h' dd' hs => wpAny_pure ?_))
  show wpAny _ _ (forIn [] PUnit.unit _) _ _ _
  rw [List.forIn_nil]
  refine wpAny_pure ?_
  obtain ⟨o, es, ep, hq, h2, h3, h4, _, h5⟩ := dd'
  refine ⟨.ref s.heap.objs.size, _, d_write (ob := .dT [(kk, y)]) I2 (by rw [e]; exact True.intro) hs ⟨o, hq⟩ ⟨?_, hd, _, (KT.put (kvs := []) (xs := []) Paired.nil kk eb ry).keeps fun c ys ec => ?_, o, es, ep, hq, h2, h3, h4, h5⟩, rfl, q2⟩
  · show 1 ≤ sizeLine; decide
  · rw [upd_ne (ne_of ec e (fun z => nomatch z))]
    exact ec

/-! ### calls -/
section
variable {X : Cx} {k j : Nat} {C : Addr} {x m : Str} {sp : Sp} {dvs : List V} {p pos apos : Pos} {e o : Expr} {es : List Expr} {kws : List Keyword} {ta : TE} {t tk : TA}
/-- C() -/
theorem pe_mk0 (c : C8.Mak X.prog X.w X.K X.mg X.base k x C sp dvs) (hr : Room j X.A) (hk : k + 1 ≤ j) (hg : Gl X x) (hdb : (x == ("__debug__" : Str)) = false := by decide) : PE X (.Call (.Name x p) [] [] pos) (tMake C sp dvs E0 tNil) := by
  obtain ⟨f, fd, ps, ds, M, F, hm, b, d⟩ := c.ex
  exact pe_make0 M F (hr.mono hk) hg hm b d pass0 hdb
/-- a method called with keywords: n values by place (the object among them), the keywords' names ks -/
structure MetK (P : Program) (w : World) (K : PySem.W.Frag) (mg : Str → Option Value) (base : Heap) (k : Nat) (C : Addr) (m : Str) (sp : Sp) (n : Nat) (ks : List Str) (gV : List V → List V → List V) : Prop where
  ex : ∃ (f : Addr) (fd : FuncData) (ps : List Str) (g : List Value → List Value → List Value), Cls K C ∧ Meth K C m f ∧ FnOk P w K mg base CX0 k f fd ps sp ∧ KBn K fd ps n ks g gV
def tMethK (C : Addr) (m : Str) (n l : Nat) (sp : Sp) (gV : List V → List V → List V) (E : XK) (to : TE) (t tk : TA) : TE := fun σ H Q => to σ H fun x H1 => ∃ a dx fs, x = .ref a ∧ H1 a = some (.ins C dx fs) ∧ fs.lookup m = none ∧
  t σ H1 fun vs H2 => tk σ H2 fun zs H3 => (x :: vs).length = n ∧ zs.length = l ∧ sp (gV (x :: vs) zs) H3 Q E
theorem pe_mtK {pl : Sem Bool} {n : Nat} {ks : List Str} {gV : List V → List V → List V} (c : MetK X.prog X.w X.K X.mg X.base k C m sp n ks gV) (hr : Room j X.A) (hk : k ≤ j) (he : PE X o ta) (ha : PA X (e :: es) t) (hkw : PK X kws tk)
    (hall : (backToKw pos (keywordEach kws X.env)).all (·.1.isSome) = true := by rfl) (hks : (backToKw pos (keywordEach kws X.env)).filterMap (·.1) = ks := by rfl)
    (hst : starEach (e :: es) X.env = (false, eval e X.env) :: starEach es X.env := by rfl)
    (hpl : ((backTo pos (starEach (e :: es) X.env)).any (·.1) || (backToKw pos (keywordEach kws X.env)).any (·.1.isNone)) = false := by rfl)
    (ht : eval (.Call (.Attribute o m apos) (e :: es) kws pos) X.env = (do
      let ov ← eval o X.env
      standAt apos.atName
      let (f, first) ← holding [ov] (getMethod ov m pl)
      callWith pos f first (backTo pos (starEach (e :: es) X.env)) (backToKw pos (keywordEach kws X.env))) := by rfl) :
    PE X (.Call (.Attribute o m apos) (e :: es) kws pos) (tMethK C m n ks.length sp gV E0 ta t tk) := by
  obtain ⟨f, fd, ps, g, cl, hm, F, hb⟩ := c.ex
  refine ⟨fun pins s σ H Q I h => ?_⟩
  refine PySem.W.methodCall_KW (pl := pl) (thn (he.run pins s σ H _ I h) fun u s1 ⟨x, H1, I1, rx, a, dx, fs, ex, ea, l, q⟩ => ?_) ht
  subst ex
  obtain rfl : u = Value.ref a := rx
  refine getmeth_ok I1 ea cl hm l ?_
  refine PySem.W.callWith_KW (first := [.ref a]) (h₀ := X.base) I.ok.mod.kin hm.kp hall (thn (ha.run pos pins s1 σ H1 _ I1 q) fun us s2 ⟨vs, H2, I2, r, q2⟩ => ?_) hpl hst
  refine thn (hkw.run pos pins s2 σ H2 _ I2 q2) fun ws s3 ⟨zs, H3, I3, rz, l1, l2, q3⟩ => ⟨I3.kIn, ?_⟩
  rw [hks]
  exact run_fnN (us := .ref a :: us) (vs := .ref a :: vs) F (hr.mono hk) hb pass0 I3 (.cons rfl r) rz l1 l2 q3
theorem pe_mtK0 {pl : Sem Bool} {n : Nat} {ks : List Str} {gV : List V → List V → List V} (c : MetK X.prog X.w X.K X.mg X.base k C m sp n ks gV) (hr : Room j X.A) (hk : k ≤ j) (he : PE X o ta) (hkw : PK X kws tk)
    (hall : (backToKw pos (keywordEach kws X.env)).all (·.1.isSome) = true := by rfl) (hks : (backToKw pos (keywordEach kws X.env)).filterMap (·.1) = ks := by rfl)
    (hpl : ((backTo pos (starEach [] X.env)).any (·.1) || (backToKw pos (keywordEach kws X.env)).any (·.1.isNone)) = false := by rfl)
    (ht : eval (.Call (.Attribute o m apos) [] kws pos) X.env = (do
      let ov ← eval o X.env
      standAt apos.atName
      let (f, first) ← holding [ov] (getMethod ov m pl)
      callWith pos f first (backTo pos (starEach [] X.env)) (backToKw pos (keywordEach kws X.env))) := by rfl) :
    PE X (.Call (.Attribute o m apos) [] kws pos) (tMethK C m n ks.length sp gV E0 ta tNil tk) := by
  obtain ⟨f, fd, ps, g, cl, hm, F, hb⟩ := c.ex
  refine ⟨fun pins s σ H Q I h => ?_⟩
  refine PySem.W.methodCall_KW (pl := pl) (thn (he.run pins s σ H _ I h) fun u s1 ⟨x, H1, I1, rx, a, dx, fs, ex, ea, l, q⟩ => ?_) ht
  subst ex
  obtain rfl : u = Value.ref a := rx
  refine getmeth_ok I1 ea cl hm l ?_
  refine PySem.W.callWith_KW0 (first := [.ref a]) (h₀ := X.base) I.ok.mod.kin hm.kp hall (thn (hkw.run pos pins s1 σ H1 _ I1 q) fun ws s3 ⟨zs, H3, I3, rz, l1, l2, q3⟩ => ⟨I3.kIn, ?_⟩) hpl
  rw [hks]
  exact run_fnN (us := [.ref a]) (vs := [.ref a]) F (hr.mono hk) hb pass0 I3 (.cons rfl .nil) rz l1 l2 q3
end
end KN
set_option Elab.async false
set_option linter.all false
set_option maxRecDepth 100000
set_option maxHeartbeats 4000000
namespace KN
open PySem PySem.Spec PyProof.Rows L2
/-! ### del d[k] by a tuple -/
def sDDelT (td ty : TE) : TS := fun D σ H => td σ H fun x H1 => ty σ H1 fun y H2 => ∃ (a b : Addr) (kvs : List (List Key × V)) (k : List Key), x = .ref a ∧ H2 a = some (.dT kvs) ∧ y = .ref b ∧ H2 b = some (.tup (k.map kV)) ∧ (valV kvs k).isSome = true ∧ D.nx σ (upd H2 a (.dT (dropK kvs k)))
theorem ps_ddelT {X : Cx} {o i : Expr} {td ty : TE} {pos tpos : Pos} (hu : X.A.units + 1 < cLine) (ho : PE X o td) (hi : PE X i ty) : PS X (.Delete [.Subscript o i tpos] pos) (sDDelT td ty) := by
  refine ⟨fun pins s σ H D I h => ?_⟩
  refine wpAny_Delete (wpAny_deleteEach_cons (wpAny_delete_Subscript (thn (ho.run pins s σ H _ I h) fun u s1 ⟨x, H1, I1, rx, q1⟩ => thn (hi.run pins s1 σ H1 _ I1 q1) fun iv s2 ⟨y, H2, I2, ry, a, b, kvs, k, ex, e, ey, eb, l, q2⟩ => ?_)))
  subst ex ey
  obtain rfl : u = Value.ref a := rx
  obtain rfl : iv = Value.ref b := ry
  obtain ⟨z, hd, xs', rel, dd⟩ := dt_of I2.hok e
  have hz : xs'.length ≤ sizeLine := by rw [← Paired.length rel]; exact z
  have r := rel.val k
  cases hp : atKey xs' k with
  | none =>
    rw [hp] at r
    cases ev : valV kvs k with
    | none => rw [ev] at l; cases l
    | some v0 => rw [ev] at r; exact (show False from r).elim
  | some p =>
    refine wpAny_delItem_heap (hsz := hz) (tupleKind_room_in1 hu) (key_of I2.hok eb) hd dd hp fun h' dd' hs => ?_
    obtain ⟨o, es, ep, hq, h2, h3, h4, _, h5⟩ := dd'
    refine wpAny_deleteEach_nil ⟨σ, _, d_write (ob := .dT (dropK kvs k)) I2 (by rw [e]; exact True.intro) hs ⟨o, hq⟩ ⟨Nat.le_trans (dropK_le kvs k) z, hd, _, (DX.KT_drop k rel).keeps fun c ys ec => ?_, o, es, ep, hq, h2, h3, h4, h5⟩, q2⟩
    rw [upd_ne (ne_of ec e (fun z => nomatch z))]
    exact ec
/-! ### sorted(d) of a dict by moments -/
def adr : Value → Addr
  | .ref a => a
  | _ => 0
def moAt (H : Hp) (a : Addr) : Mo := match H a with
  | some (.tup [.int i, .int j]) => (i, j)
  | _ => (0, 0)
theorem moAt_of {H : Hp} {a : Addr} {m : Mo} (h : H a = some (.tup [.int m.1, .int m.2])) : moAt H a = m := by
  unfold moAt; rw [h]
def mCode (m : Mo) : Int := TS.code 10000000000000 [m.1, m.2]
theorem mCode_le {a b : Mo} (ha : MoOk a) (hb : MoOk b) : mCode a ≤ mCode b ↔ ¬ mLt b a := by
  unfold mCode MoOk mLt at *
  simp only [TS.code, List.length_cons, List.length_nil]
  have e : (10000000000000 : Int) ^ (0 + 1) = 10000000000000 := by decide
  rw [e]
  omega
theorem kt_keys {H : Hp} : ∀ {kvs : List (List Key × V)} {xs : List (List Key × Addr × Value)} {ms : List Mo}, KT H kvs xs → kvs.map (·.1) = ms.map mK →
    (xs.map fun x => moAt H x.2.1) = ms ∧ ∀ x ∈ xs, ∃ m ∈ ms, H x.2.1 = some (.tup [.int m.1, .int m.2])
  | _, _, ms, Paired.nil, e => by
    cases ms with
    | nil => exact ⟨rfl, fun x hx => by cases hx⟩
    | cons m ms => cases e
  | _, _, ms, Paired.cons (a := p) (b := q) h t, e => by
    cases ms with
    | nil => cases e
    | cons m ms =>
      rw [List.map_cons, List.map_cons] at e
      injection e with e1 e2
      obtain ⟨i1, i2⟩ := kt_keys t e2
      have hm : H q.2.1 = some (.tup [.int m.1, .int m.2]) := by rw [h.2.1, e1]; rfl
      refine ⟨by rw [List.map_cons, i1, moAt_of hm], fun x hx => ?_⟩
      rcases List.mem_cons.mp hx with rfl | hx
      · exact ⟨m, List.mem_cons_self, hm⟩
      · obtain ⟨m', h1, h2⟩ := i2 x hx
        exact ⟨m', List.mem_cons_of_mem _ h1, h2⟩
def rSortedDM : List V → Hp → VK → Prop := fun xs H Q => ∃ (a : Addr) (kvs : List (List Key × V)) (ms : List Mo), xs = [.ref a] ∧ Rd H a (.dT kvs) ∧ kvs.map (·.1) = ms.map mK ∧ ms.length < 64 ∧ (∀ m ∈ ms, MoOk m) ∧
  ∀ (ys : List Addr) (ns : List Mo) (p : Addr), ns.Perm ms → ns.Pairwise (fun x y => ¬ mLt y x) → ys.length = ns.length → (∀ (i : Nat) (b : Addr), ys[i]? = some b → ∃ m, ns[i]? = some m ∧ H b = some (.tup [.int m.1, .int m.2])) → H p = none → Q (.ref p) (upd H p (.lst (ys.map V.ref)))
theorem cr_sortedDM {X : Cx} (hcalm : X.calm = true) : CallR X (.builtin "sorted") rSortedDM := by
  intro pins s σ H xs us Q I r q
  obtain ⟨a, kvs, ms, rfl, hd, hks, h64, hok, q⟩ := q
  obtain ⟨u, eu, rx⟩ := vals1 r
  subst eu
  cases rx
  obtain ⟨z, hs, ks, pr, o, es, ep, ho, hx, hdt, he, hn⟩ := (show ObjOk X.prog X.w H s.heap a (.dT kvs) from hd.ok I.hok)
  have l1 : es.size = ks.length := size_of_entries he
  have l2 : kvs.length = ks.length := Paired.length pr
  have l3 : kvs.length = ms.length := by
    have e := congrArg List.length hks
    rw [List.length_map, List.length_map] at e
    exact e
  obtain ⟨km, kh⟩ := kt_keys pr hks
  refine Calls.call_function_entry PyProof.Rows.kind_sorted PyProof.Rows.plain_sorted PyProof.Rows.entry_sorted (PyProof.Rows.args_sorted1 _) ?_
  unfold Builtin.«sorted»
  refine wpAny_bind (m := checkCount "sorted" 1 1 _) (wpAny_pure ?_)
  refine wpAny_bind (PySem.W.kdu_collect (A := X.A.in1) (kdl_raw hs hx hdt) (I.ok.hd hcalm) ho (by omega) fun h' tk acc hk hacc => ?_)
  have ea : acc.toList = ks.map fun x => Value.ref x.2.1 := by
    have hl : acc.toList.length = ks.length := by rw [Array.length_toList, hacc.1]; exact l1
    apply List.ext_getElem?
    intro j
    rw [List.getElem?_map]
    cases hj : acc.toList[j]? with
    | none =>
      have h1 := List.getElem?_eq_none_iff.mp hj
      rw [List.getElem?_eq_none (by omega)]
      all_goals rfl
    | some v =>
      obtain ⟨en, hen, hv⟩ := hacc.2 j v (by rw [← Array.getElem?_toList]; exact hj)
      have qe := entry_at he j
      rw [hen] at qe
      cases hb : ks[j]? with
      | none => rw [hb] at qe; cases qe
      | some x =>
        rw [hb] at qe
        have : en = entryOfKey (tupleKind (mixKind X.prog X.w)) x := Option.some.inj qe
        rw [hv, this]; rfl
  have hal : acc.toList.length = ms.length := by rw [ea, List.length_map]; omega
  have I1 : Inv X pins σ H { s with heap := h', toks := tk } := I.kept hk
  refine wpAny_bind (wpAny_newList ?_ (by rw [hal, sizeLine_eq]; omega))
  have hoL : (h'.push (seqObj "list" acc.toList.toArray 0)).get? h'.objs.size = some (seqObj "list" acc.toList.toArray 0) := Heap.get?_push_size _ rfl
  have keepT : ∀ b o, h'.get? b = some o → o.cls = .type "tuple" → (h'.push (seqObj "list" acc.toList.toArray 0)).get? b = some o := fun b o e _ => Heap.get?_push_of_some _ e
  have rd : ∀ v ∈ acc.toList, ∃ m ∈ ms, TS.TupInts h' v [m.1, m.2] ∧ moAt H (adr v) = m ∧ H (adr v) = some (.tup [.int m.1, .int m.2]) ∧ v = .ref (adr v) := fun v hv => by
    rw [ea] at hv
    obtain ⟨x, hx, rfl⟩ := List.mem_map.mp hv
    obtain ⟨m, h1, h2⟩ := kh x hx
    exact ⟨m, h1, tupI_raw (ns := [m.1, m.2]) I1 (SqT.of h2), moAt_of h2, h2, rfl⟩
  have ok : TS.TupsOk h' 2 10000000000000 acc.toList := fun v hv => by
    obtain ⟨m, h1, h2, _⟩ := rd v hv
    have hm := hok m h1
    unfold MoOk at hm
    refine ⟨_, h2, rfl, fun k hk => ?_⟩
    rcases List.mem_cons.mp hk with rfl | hk
    · omega
    · rw [List.mem_singleton] at hk; subst hk; omega
  show wpAny _ _ _ _ _ { s with heap := h'.push (seqObj "list" acc.toList.toArray 0), toks := tk }
  refine wpAny_bind (wpAny_holding (wpAny_call_entry PyProof.Rows.slot_list_sort ⟨_, hoL, rfl⟩ PyProof.Rows.entry_list_sort
    (TS.sort_tups (s := { s with heap := h'.push (seqObj "list" acc.toList.toArray 0), toks := tk }) (d := 2) (B := 10000000000000) hoL (by rw [hal]; exact h64) (by decide) (ok.keeps keepT) (fun v => mCode (moAt H (adr v))) (fun v hv ns t => ?_) fun out a1 a2 => ⟨_, rfl, ?_⟩)
    (PyProof.Rows.args_list_sort _)))
  · obtain ⟨m, h1, h2, h3, _⟩ := rd v hv
    have e : ns = [m.1, m.2] := t.ints.symm.trans (h2.keeps keepT).ints
    show mCode (moAt H (adr v)) = TS.code 10000000000000 ns
    rw [h3, e]; rfl
  · obtain ⟨e', he'⟩ := PyProof.Rows.sortedHeap_at (vs := acc.toList) (out := out) hoL
    have ro : ∀ v ∈ out.toList, ∃ m ∈ ms, moAt H (adr v) = m ∧ H (adr v) = some (.tup [.int m.1, .int m.2]) ∧ v = .ref (adr v) := fun v hv => by
      obtain ⟨m, h1, _, h3⟩ := rd v (a1.mem_iff.mp hv)
      exact ⟨m, h1, h3⟩
    have pm : (out.toList.map fun v => moAt H (adr v)).Perm ms := by
      have := a1.map fun v => moAt H (adr v)
      rw [ea, List.map_map] at this
      rw [← km]; exact this
    have vv : Vals ((out.toList.map adr).map V.ref) out.toList := by
      have g : ∀ l : List Value, (∀ v ∈ l, v = .ref (adr v)) → Vals ((l.map adr).map V.ref) l := by
        intro l
        induction l with
        | nil => intro _; exact .nil
        | cons v l ih =>
          intro h
          exact .cons (h v List.mem_cons_self) (ih fun x hx => h x (List.mem_cons_of_mem _ hx))
      exact g _ fun v hv => by obtain ⟨_, _, _, _, h⟩ := ro v hv; exact h
    have hlen : ((out.toList.map adr).map V.ref).length ≤ sizeLine := by
      rw [List.length_map, List.length_map, a1.length_eq, hal, sizeLine_eq]; omega
    refine wpAny_pure ⟨_, rfl, .ref h'.objs.size, upd H h'.objs.size (.lst ((out.toList.map adr).map V.ref)), I1.laid (t' := tk) (fun b u e => ?_) (Nat.le_refl _)
      (show ObjOk X.prog X.w _ _ _ (.lst ((out.toList.map adr).map V.ref)) from ⟨hlen, out.toList, e', vv, by rw [Array.toArray_toList]; exact he'⟩), rfl, q _ (out.toList.map fun v => moAt H (adr v)) _ pm ?_ (by rw [List.length_map, List.length_map]) (fun i b hb => ?_) (I1.hok.fresh (Nat.le_refl _))⟩
    · have hb : b < h'.objs.size := Heap.lt_size e
      rw [PyProof.Rows.sortedHeap_old (Nat.ne_of_lt hb) (by rw [size_push']; exact Nat.lt_succ_of_lt hb)]
      exact Heap.get?_push_of_some _ e
    · rw [List.pairwise_map]
      refine List.Pairwise.imp_of_mem (fun {x y} hx hy h => ?_) a2
      obtain ⟨m1, h1, e1, _⟩ := ro x hx
      obtain ⟨m2, h2, e2, _⟩ := ro y hy
      rw [e1, e2] at h ⊢
      exact (mCode_le (hok _ h1) (hok _ h2)).mp h
    · rw [List.getElem?_map] at hb ⊢
      cases e : out.toList[i]? with
      | none => rw [e] at hb; cases hb
      | some v =>
        rw [e] at hb
        cases hb
        obtain ⟨m, _, e1, e2, _⟩ := ro v (List.mem_of_getElem? e)
        exact ⟨m, by show some (moAt H (adr v)) = some m; rw [e1], e2⟩
end KN
set_option Elab.async false
set_option linter.all false
set_option maxRecDepth 100000
set_option maxHeartbeats 4000000
namespace KN
open PySem PySem.Spec PyProof.Rows L2
/-! ### t > u of two moments -/
def rGtM (K : PySem.W.Frag) : R2 := fun x y H Q => ∃ (a b : Addr) (m u : Mo), x = .ref a ∧ y = .ref b ∧ SqT K H a [.int m.1, .int m.2] ∧ SqT K H b [.int u.1, .int u.2] ∧ Q (.bl (decide (mLt u m))) H
theorem gt2 (m u : Mo) : Ob.lexAt (fun j => decide (([m.1, m.2] : List Int).getD j 0 = ([u.1, u.2] : List Int).getD j 0)) (fun j => decide (([u.1, u.2] : List Int).getD j 0 < ([m.1, m.2] : List Int).getD j 0)) (decide (([m.1, m.2] : List Int).length > ([u.1, u.2] : List Int).length)) 0 (min ([m.1, m.2] : List Int).length ([u.1, u.2] : List Int).length) = decide (mLt u m) := by
  show Ob.lexAt _ _ _ 0 2 = _
  rw [Ob.lexAt_succ, Ob.lexAt_succ, Ob.lexAt_zero]
  simp only [List.getD_cons_zero, List.getD_cons_succ, List.length_cons, List.length_nil]
  unfold mLt
  by_cases h1 : m.1 = u.1
  · rw [decide_eq_true h1, if_pos rfl]
    by_cases h2 : m.2 = u.2
    · rw [decide_eq_true h2, if_pos rfl]
      rw [decide_eq_false (by omega : ¬ (0 + 1 + 1 > 0 + 1 + 1))]
      exact (decide_eq_false (by omega)).symm
    · rw [decide_eq_false h2, if_neg (by decide)]
      by_cases h3 : u.2 < m.2
      · rw [decide_eq_true h3]; exact (decide_eq_true (by omega)).symm
      · rw [decide_eq_false h3]; exact (decide_eq_false (by omega)).symm
  · rw [decide_eq_false h1, if_neg (by decide)]
    by_cases h3 : u.1 < m.1
    · rw [decide_eq_true h3]; exact (decide_eq_true (by omega)).symm
    · rw [decide_eq_false h3]; exact (decide_eq_false (by omega)).symm
theorem op_gtM {X : Cx} (hu : X.A.units < cLine) : OpR X (compareOp .Gt) (rGtM X.K) := by
  intro pins s σ H x y v u Q I rx ry h
  obtain ⟨a, b, m, um, rfl, rfl, ha', hb', q⟩ := h
  have ha : SqT X.K H a (([m.1, m.2] : List Int).map V.int) := ha'
  have hb : SqT X.K H b (([um.1, um.2] : List Int).map V.int) := hb'
  rw [← gt2] at q
  generalize ([m.1, m.2] : List Int) = ns at ha q
  generalize ([um.1, um.2] : List Int) = ms at hb q
  cases rx
  cases ry
  obtain ⟨its, r1, p1, _⟩ := I.tuple ha
  obtain ⟨its2, r2, p2, _⟩ := I.tuple hb
  have i1 : IntsAre its ns := Vals.ints r1
  have i2 : IntsAre its2 ms := Vals.ints r2
  have e1 : its.toArray.size = ns.length := by rw [List.size_toArray]; exact i1.length
  have e2 : its2.toArray.size = ms.length := by rw [List.size_toArray]; exact i2.length
  have at1 : ∀ j (h1 : j < its.toArray.size), ∃ t, its.toArray[j] = .int (ns.getD j 0) t := fun j h1 => PyProof.Rows.IntsAre.int_at i1 _ _ (by simp at h1; simp [h1])
  have at2 : ∀ j (h1 : j < its2.toArray.size), ∃ t, its2.toArray[j] = .int (ms.getD j 0) t := fun j h1 => PyProof.Rows.IntsAre.int_at i2 _ _ (by simp at h1; simp [h1])
  have R := Ob.RcOp.tuples_gt (A := X.A) (s := s) (e := fun j => decide (ns.getD j 0 = ms.getD j 0)) (r := fun j => decide (ms.getD j 0 < ns.getD j 0)) p1 p2 hu (fun j h1 h2 => by
    obtain ⟨t, et⟩ := at1 j h1
    obtain ⟨t', et'⟩ := at2 j h2
    rw [et, et']
    have z : (ns.getD j 0 == ms.getD j 0) = decide (ns.getD j 0 = ms.getD j 0) := by
      by_cases q : ns.getD j 0 = ms.getD j 0
      · rw [decide_eq_true q]; exact beq_iff_eq.mpr q
      · rw [decide_eq_false q]; exact beq_eq_false_iff_ne.mpr q
    rw [← z]
    exact SeqAt.EqAt.int_int _ _ _ _) (fun j h1 h2 _ => by
    obtain ⟨t, et⟩ := at1 j h1
    obtain ⟨t', et'⟩ := at2 j h2
    rw [et, et']
    exact Ob.RcOp.gt_int _ _ _ _)
  rw [e1, e2] at R
  have z : wpAny (model X.prog X.w) X.A (compareOp .Gt (.ref a) (.ref b)) (EP X pins σ Q) X.xe s := R X.prog X.w X.xe (EP X pins σ Q) ⟨.bl _, H, I, rfl, q⟩
  exact z
end KN
namespace KN
open PySem PySem.Spec PyProof.Rows L2
/-! ### the same rules with the written part by name: for a comprehension's block -/
section
variable {X : Cx}
theorem pe_fldK (K : PySem.W.Frag) {e : Expr} {f : Str} {pos : Pos} {ta : TE} (he : PE X e ta) (hb : attributeBase e f X.env (eval e X.env) = eval e X.env) (h : X.K = K := by rfl) : PE X (.Attribute e f pos) (tFld K ta f) := by
  subst h; exact pe_fld he hb
theorem ix_tupK (K : PySem.W.Frag) (h : X.K = K := by rfl) : IxR X (rIxT K) := by subst h; exact ix_tup
theorem ix_listK (K : PySem.W.Frag) (h : X.K = K := by rfl) : IxR X (rIxL K) := by subst h; exact ix_list
theorem sl_tupAK (K : PySem.W.Frag) (h : X.K = K := by rfl) : SlR X (rSlA K) := by subst h; exact sl_tupA
theorem op_eqDK (K : PySem.W.Frag) (hu : X.A.units + 64 < cLine) (h : X.K = K := by rfl) : OpR X (compareOp .Eq) (rEqD K) := by subst h; exact op_eqD hu
theorem op_inDK (K : PySem.W.Frag) (hu : X.A.units + 65 < cLine) (h : X.K = K := by rfl) : OpR X (compareOp .In) (rInD K) := by subst h; exact op_inD hu
theorem op_notInDK (K : PySem.W.Frag) (hu : X.A.units + 65 < cLine) (h : X.K = K := by rfl) : OpR X (compareOp .NotIn) (rNotInD K) := by subst h; exact op_notInD hu
theorem op_leTK (K : PySem.W.Frag) (hu : X.A.units < cLine) (h : X.K = K := by rfl) : OpR X (compareOp .LtE) (rLeT K) := by subst h; exact op_leT hu
theorem op_ltTK (K : PySem.W.Frag) (hu : X.A.units < cLine) (h : X.K = K := by rfl) : OpR X (compareOp .Lt) (rLtT K) := by subst h; exact op_ltT hu
end
theorem u65 {k : Nat} {A : Around} (r : Room k A) : A.units + 65 < cLine := by have := r.un; omega
end KN
set_option Elab.async false
set_option linter.all false
set_option maxRecDepth 100000
/-! Links and what they lead to: plain mathematics. -/
namespace KN
open PySem L2
/-- (mark, from, to) -/
abbrev Lnk := Mo × Mo × Mo
def lD (l : Lnk) : PyData := .tuple [mD l.1, mD l.2.1, mD l.2.2]
theorem okD_l (l : Lnk) : okD (lD l) = true := rfl
theorem lD_inj {a b : Lnk} (h : lD a = lD b) : a = b := by
  unfold lD at h
  injection h with h
  injection h with h1 h
  injection h with h2 h
  injection h with h3 _
  exact Prod.ext (mD_inj h1) (Prod.ext (mD_inj h2) (mD_inj h3))
inductive Rch (ls : List Lnk) (s : Mo) : Mo → Prop
  | refl : Rch ls s s
  | step {b : Mo} {l : Lnk} : Rch ls s b → l ∈ ls → l.2.1 = b → Rch ls s l.2.2
theorem Rch.mono {ls ls' : List Lnk} (h : ∀ l ∈ ls, l ∈ ls') {s a : Mo} (r : Rch ls s a) : Rch ls' s a := by
  induction r with
  | refl => exact .refl
  | step _ hl e ih => exact .step ih (h _ hl) e
theorem Rch.trans {ls : List Lnk} {a b c : Mo} (h : Rch ls a b) (k : Rch ls b c) : Rch ls a c := by
  induction k with
  | refl => exact h
  | step _ hl e ih => exact .step ih hl e
structure Bfs (ls : List Lnk) (s : Mo) (ns ws : List Mo) : Prop where
  start : s ∈ ns
  sub : ∀ n ∈ ns, Rch ls s n
  wsub : ∀ n ∈ ws, n ∈ ns
  clo : ∀ n ∈ ns, n ∉ ws → ∀ l ∈ ls, l.2.1 = n → l.2.2 ∈ ns
structure BfsI (ls : List Lnk) (s a : Mo) (i : Nat) (ns ws : List Mo) : Prop where
  start : s ∈ ns
  sub : ∀ n ∈ ns, Rch ls s n
  wsub : ∀ n ∈ ws, n ∈ ns
  here : a ∈ ns
  clo : ∀ n ∈ ns, n ∉ ws → n ≠ a → ∀ l ∈ ls, l.2.1 = n → l.2.2 ∈ ns
  own : ∀ l ∈ ls.take i, l.2.1 = a → l.2.2 ∈ ns
theorem Bfs.init (ls : List Lnk) (s : Mo) : Bfs ls s [s] [s] :=
  ⟨List.mem_singleton.mpr rfl, fun n h => by rw [List.mem_singleton] at h; subst h; exact .refl, fun _ h => h, fun n h k => absurd h k⟩
theorem Bfs.pop {ls : List Lnk} {s a : Mo} {ns ws : List Mo} (b : Bfs ls s ns (a :: ws)) : BfsI ls s a 0 ns ws :=
  ⟨b.start, b.sub, fun n h => b.wsub n (List.mem_cons_of_mem _ h), b.wsub a List.mem_cons_self, fun n h k e => b.clo n h fun z => (List.mem_cons.mp z).elim e k, fun l h => by rw [List.take_zero] at h; cases h⟩
theorem BfsI.done {ls : List Lnk} {s a : Mo} {ns ws : List Mo} (b : BfsI ls s a ls.length ns ws) : Bfs ls s ns ws :=
  ⟨b.start, b.sub, b.wsub, fun n h k l hl e => by
    by_cases q : n = a
    · exact b.own l (by rw [List.take_length]; exact hl) (e.trans q)
    · exact b.clo n h k q l hl e⟩
theorem BfsI.skip {ls : List Lnk} {s a : Mo} {i : Nat} {ns ws : List Mo} {l : Lnk} (b : BfsI ls s a i ns ws) (hl : ls[i]? = some l) (h : l.2.1 = a → l.2.2 ∈ ns) : BfsI ls s a (i + 1) ns ws :=
  ⟨b.start, b.sub, b.wsub, b.here, b.clo, fun l' h' e => by
    rw [List.take_add_one, hl] at h'
    rcases List.mem_append.mp h' with q | q
    · exact b.own l' q e
    · rw [Option.toList_some, List.mem_singleton] at q; subst q; exact h e⟩
theorem BfsI.add {ls : List Lnk} {s a : Mo} {i : Nat} {ns ws : List Mo} {l : Lnk} (b : BfsI ls s a i ns ws) (hl : ls[i]? = some l) (h : l.2.1 = a) : BfsI ls s a (i + 1) (ns ++ [l.2.2]) (ws ++ [l.2.2]) where
  start := List.mem_append_left _ b.start
  sub := fun n hn => by
    rcases List.mem_append.mp hn with q | q
    · exact b.sub n q
    · rw [List.mem_singleton] at q; subst q
      exact .step (b.sub a b.here) (List.mem_of_getElem? hl) h
  wsub := fun n hn => by
    rcases List.mem_append.mp hn with q | q
    · exact List.mem_append_left _ (b.wsub n q)
    · exact List.mem_append_right _ q
  here := List.mem_append_left _ b.here
  clo := fun n hn hw ha l' hl' e => by
    rcases List.mem_append.mp hn with q | q
    · exact List.mem_append_left _ (b.clo n q (fun z => hw (List.mem_append_left _ z)) ha l' hl' e)
    · exact absurd (List.mem_append_right _ q) hw
  own := fun l' h' e => by
    rw [List.take_add_one, hl] at h'
    rcases List.mem_append.mp h' with q | q
    · exact List.mem_append_left _ (b.own l' q e)
    · rw [Option.toList_some, List.mem_singleton] at q; subst q; exact List.mem_append_right _ (List.mem_singleton.mpr rfl)
theorem Bfs.all {ls : List Lnk} {s g : Mo} {ns : List Mo} (b : Bfs ls s ns []) : g ∈ ns ↔ Rch ls s g := by
  refine ⟨b.sub g, fun r => ?_⟩
  induction r with
  | refl => exact b.start
  | step _ hl e ih => exact b.clo _ ih (by simp) _ hl e
def Unv (ls : List Lnk) (ns : List Mo) : Nat := (ls.filter fun l => decide (l.2.2 ∉ ns)).length
theorem Unv.le (ls : List Lnk) (ns : List Mo) (c : Mo) : Unv ls (ns ++ [c]) ≤ Unv ls ns := by
  unfold Unv
  induction ls with
  | nil => exact Nat.le_refl _
  | cons l ls ih =>
    rw [List.filter_cons, List.filter_cons]
    by_cases h : l.2.2 ∈ ns
    · have h' : l.2.2 ∈ ns ++ [c] := List.mem_append_left _ h
      simp only [h, h', not_true, decide_false, if_neg (by decide : ¬ (false = true))]
      exact ih
    · by_cases h' : l.2.2 ∈ ns ++ [c]
      · simp only [h, h', not_true, not_false_iff, decide_false, decide_true, if_true, if_neg (by decide : ¬ (false = true)), List.length_cons]
        omega
      · simp only [h, h', not_false_iff, decide_true, if_true, List.length_cons]
        omega
theorem Unv.lt {ls : List Lnk} {ns : List Mo} {l : Lnk} (hl : l ∈ ls) (h : l.2.2 ∉ ns) : Unv ls (ns ++ [l.2.2]) + 1 ≤ Unv ls ns := by
  induction ls with
  | nil => cases hl
  | cons k ls ih =>
    have le := Unv.le ls ns l.2.2
    unfold Unv at ih le ⊢
    rw [List.filter_cons, List.filter_cons]
    rcases List.mem_cons.mp hl with rfl | hl
    · have h' : l.2.2 ∈ ns ++ [l.2.2] := List.mem_append_right _ (List.mem_singleton.mpr rfl)
      simp only [h, h', not_true, not_false_iff, decide_false, decide_true, if_true, if_neg (by decide : ¬ (false = true)), List.length_cons]
      omega
    · have ih := ih hl
      by_cases q : k.2.2 ∈ ns
      · have q' : k.2.2 ∈ ns ++ [l.2.2] := List.mem_append_left _ q
        simp only [q, q', not_true, decide_false, if_neg (by decide : ¬ (false = true))]
        exact ih
      · by_cases q' : k.2.2 ∈ ns ++ [l.2.2]
        · simp only [q, q', not_true, not_false_iff, decide_false, decide_true, if_true, if_neg (by decide : ¬ (false = true)), List.length_cons]
          omega
        · simp only [q, q', not_false_iff, decide_true, if_true, List.length_cons]
          omega
theorem Unv.len (ls : List Lnk) (ns : List Mo) : Unv ls ns ≤ ls.length := List.length_filter_le _ _

/-! dicts by moments -/
theorem valV_ks {kvs : List (List Key × V)} {ns : List Mo} (h : kvs.map (·.1) = ns.map mK) (m : Mo) : (valV kvs (mK m)).isSome = decide (m ∈ ns) := by
  induction kvs generalizing ns with
  | nil =>
    cases ns with
    | nil => rfl
    | cons n ns => cases h
  | cons q kvs ih =>
    cases ns with
    | nil => cases h
    | cons n ns =>
      rw [List.map_cons, List.map_cons] at h
      injection h with h1 h2
      by_cases e : n = m
      · subst e
        rw [valV_pos h1, decide_eq_true List.mem_cons_self]; rfl
      · rw [valV_neg (fun z => e (mK_inj (h1.symm.trans z))), ih h2]
        have : m ∈ n :: ns ↔ m ∈ ns := by
          rw [List.mem_cons]; exact ⟨fun z => z.elim (fun y => absurd y.symm e) id, .inr⟩
        by_cases q : m ∈ ns
        · rw [decide_eq_true q, decide_eq_true (this.mpr q)]
        · rw [decide_eq_false q, decide_eq_false (fun z => q (this.mp z))]
theorem valV_mem {κ : Type} [DecidableEq κ] {kvs : List (κ × V)} {k : κ} {v : V} (h : valV kvs k = some v) : (k, v) ∈ kvs := by
  induction kvs with
  | nil => cases h
  | cons q kvs ih =>
    by_cases e : q.1 = k
    · rw [valV_pos e] at h
      cases h
      subst e
      exact List.mem_cons_self
    · rw [valV_neg e] at h
      exact List.mem_cons_of_mem _ (ih h)
theorem Tp.ln_inv {H : Hp} {v : V} {l : Lnk} (h : Tp H v (lD l)) : ∃ t a b c, v = .ref t ∧ H t = some (.tup [.ref a, .ref b, .ref c]) ∧ H a = some (.tup [.int l.1.1, .int l.1.2]) ∧ H b = some (.tup [.int l.2.1.1, .int l.2.1.2]) ∧ H c = some (.tup [.int l.2.2.1, .int l.2.2.2]) := by
  obtain ⟨t, xs, rfl, e, r⟩ := Tp.inv h
  cases r with
  | cons h1 r =>
    cases r with
    | cons h2 r =>
      cases r with
      | cons h3 r =>
        cases r
        obtain ⟨a, rfl, ha⟩ := Tp.mo_inv h1
        obtain ⟨b, rfl, hb⟩ := Tp.mo_inv h2
        obtain ⟨c, rfl, hc⟩ := Tp.mo_inv h3
        exact ⟨t, a, b, c, rfl, e, ha, hb, hc⟩
theorem Tp.ln {H : Hp} {t a b c : Addr} {l : Lnk} (e : H t = some (.tup [.ref a, .ref b, .ref c])) (ha : H a = some (.tup [.int l.1.1, .int l.1.2])) (hb : H b = some (.tup [.int l.2.1.1, .int l.2.1.2])) (hc : H c = some (.tup [.int l.2.2.1, .int l.2.2.2])) : Tp H (.ref t) (lD l) :=
  .tup e (.cons (Tp.mo ha) (.cons (Tp.mo hb) (.cons (Tp.mo hc) .nil)))
theorem eqv_m (a b : Mo) : PyData.eqv (mD a) (mD b) = decide (a = b) := eqv_dec (okD_m a) (okD_m b) ⟨mD_inj, congrArg mD⟩
theorem shaped_m (m : Mo) : SeqAt.shaped (mD m) = true := shaped_of (okD_m m) (by simp [mD, PyData.depth, PyData.depthAll])
end KN
set_option Elab.async false
set_option linter.all false
set_option maxRecDepth 100000
set_option maxHeartbeats 4000000
/-! Rows of the book, and a book as it stands. -/
namespace KN
open PySem L2
inductive Row where
  | nm (m : Mo) (rank : Int) (ws ss : List Str) (like : Option Mo)
  | ch (m n : Mo) (s : Str)
  | st (m n : Mo) (w : Bool)
  | ah (m n o : Mo)
def oD : Option Mo → PyData
  | none => .none
  | some m => mD m
def Row.ds : Row → List PyData
  | .nm m r ws ss l => [.str "name", mD m, .int r, .tuple (ws.map PyData.str), .tuple (ss.map PyData.str), oD l]
  | .ch m n s => [.str "choice", mD m, mD n, .str s]
  | .st m n w => [.str "strike", mD m, mD n, .bool w]
  | .ah m n o => [.str "ahead", mD m, mD n, mD o]
def Row.d (r : Row) : PyData := .tuple r.ds
def Row.mo : Row → Mo
  | .nm m .. => m
  | .ch m .. => m
  | .st m .. => m
  | .ah m .. => m
def Row.names : Row → List Mo
  | .nm _ _ _ _ l => l.toList
  | .ch _ n _ => [n]
  | .st _ n _ => [n]
  | .ah _ n o => [n, o]
def Row.isNm : Row → Bool
  | .nm .. => true
  | _ => false
def Row.sort : Row → Str
  | .nm .. => "name"
  | .ch .. => "choice"
  | .st .. => "strike"
  | .ah .. => "ahead"
theorem Row.ds0 (r : Row) : r.ds[0]? = some (.str r.sort) := by cases r <;> rfl
theorem Row.ds1 (r : Row) : r.ds[1]? = some (mD r.mo) := by cases r <;> rfl
/-- a part of a tuple -/
theorem Tp.at {K : PySem.W.Frag} {H : Hp} {t : Addr} {xs : List V} {ds : List PyData} {i : Nat} {d : PyData} (h : H t = some (.tup xs)) (r : TpAll H xs ds) (e : ds[i]? = some d) : ∃ v, atI xs (i : Int) = some v ∧ Tp H v d :=
  let ⟨v, h1, h2⟩ := r.get e
  ⟨v, atI_nat h1, h2⟩
/-- the names of a book, in the order told -/
def nms (rs : List Row) : List Mo := (rs.filter Row.isNm).map Row.mo
/-- who names a name -/
def users (rs : List Row) (n : Mo) : List (List Key × V) := (rs.filter fun r => decide (n ∈ r.names)).map fun r => (mK r.mo, V.bl true)
theorem nms_app (rs : List Row) (r : Row) : nms (rs ++ [r]) = nms rs ++ (if r.isNm then [r.mo] else []) := by
  unfold nms
  rw [List.filter_append, List.map_append]
  congr 1
  by_cases h : r.isNm = true
  · rw [if_pos h, List.filter_cons_of_pos h]; rfl
  · rw [if_neg h, List.filter_cons_of_neg h]; rfl
theorem users_app (rs : List Row) (r : Row) (n : Mo) : users (rs ++ [r]) n = users rs n ++ (if n ∈ r.names then [(mK r.mo, V.bl true)] else []) := by
  unfold users
  rw [List.filter_append, List.map_append]
  congr 1
  by_cases h : n ∈ r.names
  · simp [h]
  · simp [h]
theorem users_le (rs : List Row) (n : Mo) : (users rs n).length ≤ rs.length := by
  unfold users
  rw [List.length_map]; exact List.length_filter_le _ _

theorem en_ : ¬ (("_entries" : Str) = "_named_by") := by decide +kernel
theorem ne_ : ¬ (("_named_by" : Str) = "_entries") := by decide +kernel
def bf (e n : Addr) : List (Str × V) := putF "_named_by" (.ref n) (putF "_entries" (.ref e) [])
theorem bf_eq (e n : Addr) : bf e n = ([("_entries", V.ref e), ("_named_by", V.ref n)] : List (Str × V)) := by
  show (if ("_entries" : Str) = "_named_by" then [(("_entries" : Str), V.ref n)] else (("_entries" : Str), V.ref e) :: putF "_named_by" (V.ref n) []) = _
  rw [if_neg en_]; rfl
theorem bf_e (e n : Addr) : (bf e n).lookup ("_entries" : Str) = some (.ref e) := by
  unfold bf; rw [lookup_putF, if_neg en_, lookup_putF, if_pos rfl]
theorem bf_n (e n : Addr) : (bf e n).lookup ("_named_by" : Str) = some (.ref n) := by
  unfold bf; rw [lookup_putF, if_pos rfl]
theorem bf_no (e n : Addr) {m : Str} (h1 : ¬ m = "_named_by") (h2 : ¬ m = "_entries") : (bf e n).lookup m = none := by
  unfold bf; rw [lookup_putF, if_neg h1, lookup_putF, if_neg h2]; rfl

/-- the entries -/
def EntR (H : Hp) : List (List Key × V) → List Row → Prop := Paired fun q r => q.1 = mK r.mo ∧ Tp H q.2 r.d
/-- the users of each name -/
def NamR (H : Hp) (e n : Addr) (f : Mo → List (List Key × V)) : List (List Key × V) → List Mo → Prop := Paired fun q m => q.1 = mK m ∧ ∃ u, q.2 = .ref u ∧ H u = some (.dT (f m)) ∧ u ≠ e ∧ u ≠ n
structure BookI (C : Addr) (H : Hp) (b dx e n : Addr) (kvs nkv : List (List Key × V)) (rs : List Row) : Prop where
  ob : H b = some (.ins C dx (bf e n))
  en : H e = some (.dT kvs)
  nb : H n = some (.dT nkv)
  ne : e ≠ n
  er : EntR H kvs rs
  nr : NamR H e n (users rs) nkv (nms rs)
  nd : (nkv.map (·.2)).Nodup
  md : (rs.map Row.mo).Nodup
  ok : ∀ r ∈ rs, MoOk r.mo
  cl : ∀ r ∈ rs, ∀ n ∈ r.names, n ∈ nms rs
def BookAt (C : Addr) (H : Hp) (b : Addr) (rs : List Row) : Prop := ∃ dx e n kvs nkv, BookI C H b dx e n kvs nkv rs

theorem Paired.imp {α β : Type} {F G : α → β → Prop} {l₁ : List α} {l₂ : List β} (h : Paired F l₁ l₂) (k : ∀ a b, F a b → G a b) : Paired G l₁ l₂ := L2.Paired.mapP h k
theorem Paired.len {α β : Type} {F : α → β → Prop} {l₁ : List α} {l₂ : List β} (h : Paired F l₁ l₂) : l₁.length = l₂.length := PySem.Paired.length h
theorem Paired.snoc {α β : Type} {F : α → β → Prop} {l₁ : List α} {l₂ : List β} {a : α} {b : β} (h : Paired F l₁ l₂) (k : F a b) : Paired F (l₁ ++ [a]) (l₂ ++ [b]) := by
  induction h with
  | nil => exact .cons k .nil
  | cons f _ ih => exact .cons f ih
theorem EntR.keys {H : Hp} {kvs : List (List Key × V)} {rs : List Row} (h : EntR H kvs rs) : kvs.map (·.1) = (rs.map Row.mo).map mK := by
  unfold EntR at h
  induction h with
  | nil => rfl
  | cons f _ ih => rw [List.map_cons, List.map_cons, List.map_cons, ih, f.1]
theorem NamR.keys {H : Hp} {e n : Addr} {g : Mo → List (List Key × V)} {nkv : List (List Key × V)} {ms : List Mo} (h : NamR H e n g nkv ms) : nkv.map (·.1) = ms.map mK := by
  unfold NamR at h
  induction h with
  | nil => rfl
  | cons f _ ih => rw [List.map_cons, List.map_cons, ih, f.1]
theorem EntR.to {H H' : Hp} {kvs : List (List Key × V)} {rs : List Row} (h : EntR H kvs rs) (k : TK H H') : EntR H' kvs rs := Paired.imp h fun _ _ f => ⟨f.1, f.2.to k⟩
/-- an entry found by its moment -/
theorem EntR.get {H : Hp} {kvs : List (List Key × V)} {rs : List Row} (h : EntR H kvs rs) (nd : (rs.map Row.mo).Nodup) {r : Row} (hr : r ∈ rs) : ∃ v, valV kvs (mK r.mo) = some v ∧ Tp H v r.d := by
  unfold EntR at h
  induction h with
  | nil => cases hr
  | @cons q r0 kvs rs f t ih =>
    rw [List.map_cons, List.nodup_cons] at nd
    rcases List.mem_cons.mp hr with rfl | hr
    · exact ⟨q.2, valV_pos f.1, f.2⟩
    · have ne : ¬ q.1 = mK r.mo := fun z => nd.1 (by
        have : r0.mo = r.mo := mK_inj (f.1.symm.trans z)
        rw [this]; exact List.mem_map.mpr ⟨r, hr, rfl⟩)
      rw [valV_neg ne]; exact ih nd.2 hr
theorem EntR.none {H : Hp} {kvs : List (List Key × V)} {rs : List Row} (h : EntR H kvs rs) {m : Mo} (hm : m ∉ rs.map Row.mo) : valV kvs (mK m) = none := by
  have := valV_ks h.keys m
  rw [decide_eq_false hm] at this
  cases e : valV kvs (mK m) with
  | none => rfl
  | some v => rw [e] at this; cases this
theorem EntR.drop {H : Hp} {kvs : List (List Key × V)} {rs : List Row} (h : EntR H kvs rs) (m : Mo) : EntR H (dropK kvs (mK m)) (rs.filter fun r => decide (r.mo ≠ m)) := by
  unfold EntR at h ⊢
  induction h with
  | nil => exact .nil
  | @cons q r kvs rs f t ih =>
    by_cases e : r.mo = m
    · rw [dropK_pos (f.1.trans (congrArg mK e)), List.filter_cons_of_neg (by simp [e])]; exact ih
    · rw [dropK_neg (fun z => e (mK_inj (f.1.symm.trans z))), List.filter_cons_of_pos (by simp [e])]
      exact .cons f ih
theorem NamR.get {H : Hp} {e n : Addr} {g : Mo → List (List Key × V)} {nkv : List (List Key × V)} {ms : List Mo} (h : NamR H e n g nkv ms) {m : Mo} (hm : m ∈ ms) : ∃ u, valV nkv (mK m) = some (.ref u) ∧ H u = some (.dT (g m)) ∧ u ≠ e ∧ u ≠ n := by
  unfold NamR at h
  induction h with
  | nil => cases hm
  | @cons q m0 nkv ms f t ih =>
    by_cases z : m0 = m
    · subst z
      obtain ⟨u, e1, e2, e3, e4⟩ := f.2
      exact ⟨u, by rw [valV_pos f.1, e1], e2, e3, e4⟩
    · rw [valV_neg (fun y => z (mK_inj (f.1.symm.trans y)))]
      exact ih ((List.mem_cons.mp hm).resolve_left fun y => z y.symm)
theorem NamR.none {H : Hp} {e n : Addr} {g : Mo → List (List Key × V)} {nkv : List (List Key × V)} {ms : List Mo} (h : NamR H e n g nkv ms) {m : Mo} (hm : m ∉ ms) : valV nkv (mK m) = none := by
  have := valV_ks h.keys m
  rw [decide_eq_false hm] at this
  cases e : valV nkv (mK m) with
  | none => rfl
  | some v => rw [e] at this; cases this
/-- all but lists and dicts by texts is kept -/
def KB (H H' : Hp) : Prop := ∀ a o, (∀ xs, o ≠ .lst xs) → (∀ kvs, o ≠ .dK kvs) → H a = some o → H' a = some o
theorem KB.of {H H' : Hp} (s : Same H H') : KB H H' := fun a o _ _ h => s a o h
theorem KB.tk {H H' : Hp} (k : KB H H') : TK H H' := fun a xs h => k a _ (by intro z; exact nofun) (by intro z; exact nofun) h
theorem KB.kp {H H' : Hp} {p : Addr} {kvs : List (Key × V)} (k : ∀ a o, a ≠ p → H a = some o → H' a = some o) (h : H p = some (.dK kvs)) : KB H H' := fun a o _ n e => k a o (fun z => by subst z; rw [h] at e; cases e; exact n _ rfl) e
theorem BookI.keep {C : Addr} {H H' : Hp} {b dx e n : Addr} {kvs nkv : List (List Key × V)} {rs : List Row} (B : BookI C H b dx e n kvs nkv rs) (k : KB H H') : BookI C H' b dx e n kvs nkv rs :=
  ⟨k _ _ (by intro z; exact nofun) (by intro z; exact nofun) B.ob, k _ _ (by intro z; exact nofun) (by intro z; exact nofun) B.en, k _ _ (by intro z; exact nofun) (by intro z; exact nofun) B.nb, B.ne, B.er.to k.tk,
    Paired.imp B.nr fun _ _ f => ⟨f.1, let ⟨u, h1, h2, h3⟩ := f.2; ⟨u, h1, k _ _ (by intro z; exact nofun) (by intro z; exact nofun) h2, h3⟩⟩, B.nd, B.md, B.ok, B.cl⟩
theorem BookAt.keep {C : Addr} {H H' : Hp} {b : Addr} {rs : List Row} (B : BookAt C H b rs) (k : KB H H') : BookAt C H' b rs :=
  let ⟨dx, e, n, kvs, nkv, I⟩ := B
  ⟨dx, e, n, kvs, nkv, I.keep k⟩
/-- all but dicts by tuples is kept -/
def KD (H H' : Hp) : Prop := ∀ a o, (∀ kvs, o ≠ .dT kvs) → H a = some o → H' a = some o
theorem KD.of {H H' : Hp} (s : Same H H') : KD H H' := fun a o _ h => s a o h
theorem KD.refl (H : Hp) : KD H H := fun _ _ _ h => h
theorem KD.trans {H H1 H2 : Hp} (a : KD H H1) (b : KD H1 H2) : KD H H2 := fun c o n h => b c o n (a c o n h)
theorem KD.tk {H H' : Hp} (k : KD H H') : TK H H' := fun a xs h => k a _ (by intro z; exact nofun) h
theorem KD.put {H : Hp} {a : Addr} {kvs : List (List Key × V)} {o : HO} (h : H a = some (.dT kvs)) : KD H (upd H a o) := fun x u n e => by
  rw [upd_ne (fun z => by subst z; rw [h] at e; cases e; exact n _ rfl)]; exact e
theorem nms_sub {rs : List Row} {m : Mo} (h : m ∈ nms rs) : m ∈ rs.map Row.mo := by
  obtain ⟨r, hr, e⟩ := List.mem_map.mp h
  exact List.mem_map.mpr ⟨r, (List.mem_filter.mp hr).1, e⟩
theorem nms_nd {rs : List Row} (h : (rs.map Row.mo).Nodup) : (nms rs).Nodup := List.Nodup.sublist (List.Sublist.map _ List.filter_sublist) h
theorem nms_row {rs : List Row} {m : Mo} (h : m ∈ nms rs) : ∃ rk ws ss l, Row.nm m rk ws ss l ∈ rs := by
  obtain ⟨r, hr, e⟩ := List.mem_map.mp h
  obtain ⟨h1, h2⟩ := List.mem_filter.mp hr
  cases r with
  | nm m' rk ws ss l => cases e; exact ⟨rk, ws, ss, l, h1⟩
  | _ => cases h2
theorem row_nms {rs : List Row} {m : Mo} {rk : Int} {ws ss : List Str} {l : Option Mo} (h : Row.nm m rk ws ss l ∈ rs) : m ∈ nms rs := List.mem_map.mpr ⟨_, List.mem_filter.mpr ⟨h, rfl⟩, rfl⟩
theorem users_key {rs : List Row} {n m : Mo} (h : m ∉ rs.map Row.mo) : valV (users rs n) (mK m) = none := by
  cases e : valV (users rs n) (mK m) with
  | none => rfl
  | some v =>
    obtain ⟨r, hr, er⟩ := List.mem_map.mp (valV_mem e)
    have : mK r.mo = mK m := congrArg Prod.fst er
    exact absurd (List.mem_map.mpr ⟨r, (List.mem_filter.mp hr).1, mK_inj this⟩) h
theorem users_has {rs : List Row} {n : Mo} {r : Row} (h : r ∈ rs) (k : n ∈ r.names) : (valV (users rs n) (mK r.mo)).isSome = true := by
  have hm : (mK r.mo, V.bl true) ∈ users rs n := List.mem_map.mpr ⟨r, List.mem_filter.mpr ⟨h, decide_eq_true k⟩, rfl⟩
  cases e : valV (users rs n) (mK r.mo) with
  | some v => rfl
  | none => exact absurd (List.mem_map.mpr ⟨_, hm, rfl⟩) (valV_not e)
theorem users_drop {rs : List Row} (n : Mo) (m : Mo) : dropK (users rs n) (mK m) = users (rs.filter fun r => decide (r.mo ≠ m)) n := by
  unfold users
  induction rs with
  | nil => rfl
  | cons r rs ih =>
    by_cases h : n ∈ r.names <;> by_cases e : r.mo = m
    · rw [List.filter_cons_of_pos (by simp [h]), List.filter_cons_of_neg (p := fun (r : Row) => decide (r.mo ≠ m)) (by simp [e]), List.map_cons, dropK_pos (congrArg mK e)]; exact ih
    · rw [List.filter_cons_of_pos (by simp [h]), List.filter_cons_of_pos (p := fun (r : Row) => decide (r.mo ≠ m)) (by simp [e]), List.map_cons, dropK_neg (fun z => e (mK_inj z)), List.filter_cons_of_pos (by simp [h]), List.map_cons, ih]
    · rw [List.filter_cons_of_neg (by simp [h]), List.filter_cons_of_neg (p := fun (r : Row) => decide (r.mo ≠ m)) (by simp [e])]; exact ih
    · rw [List.filter_cons_of_neg (by simp [h]), List.filter_cons_of_pos (p := fun (r : Row) => decide (r.mo ≠ m)) (by simp [e]), List.filter_cons_of_neg (by simp [h])]; exact ih
/-- a name's users changed -/
theorem NamR.put1 {H : Hp} {e n : Addr} {f : Mo → List (List Key × V)} {nkv : List (List Key × V)} {ms : List Mo} (h : NamR H e n f nkv ms) (nd : (nkv.map (·.2)).Nodup) (md : ms.Nodup) {m : Mo} {u : Addr} (hm : m ∈ ms) (hu : valV nkv (mK m) = some (.ref u)) (l : List (List Key × V)) :
    NamR (upd H u (.dT l)) e n (fun x => if x = m then l else f x) nkv ms := by
  unfold NamR at h ⊢
  induction h with
  | nil => cases hm
  | @cons q m0 nkv ms g t ih =>
    rw [List.map_cons, List.nodup_cons] at nd
    rw [List.nodup_cons] at md
    obtain ⟨u0, e1, e2, e3, e4⟩ := g.2
    have keep : ∀ {nkv : List (List Key × V)} {ms : List Mo}, Paired (fun q m => q.1 = mK m ∧ ∃ u, q.2 = .ref u ∧ H u = some (.dT (f m)) ∧ u ≠ e ∧ u ≠ n) nkv ms → V.ref u ∉ nkv.map (·.2) → m ∉ ms →
        Paired (fun q x => q.1 = mK x ∧ ∃ u', q.2 = .ref u' ∧ upd H u (.dT l) u' = some (.dT (if x = m then l else f x)) ∧ u' ≠ e ∧ u' ≠ n) nkv ms := by
      intro nkv ms t
      induction t with
      | nil => intro _ _; exact .nil
      | @cons q x nkv ms g t ih =>
        intro h1 h2
        obtain ⟨u1, a1, a2, a3, a4⟩ := g.2
        refine .cons ⟨g.1, u1, a1, ?_, a3, a4⟩ (ih (fun z => h1 (List.mem_cons_of_mem _ z)) fun z => h2 (List.mem_cons_of_mem _ z))
        rw [upd_ne (fun z => h1 (by rw [← z, ← a1]; exact List.mem_cons_self)), if_neg (fun z => h2 (by rw [z]; exact List.mem_cons_self))]
        exact a2
    by_cases z : m0 = m
    · subst z
      rw [valV_pos g.1, e1] at hu
      cases hu
      rw [e1] at nd
      exact .cons ⟨g.1, u, e1, (by show _ = some (HO.dT (if m0 = m0 then l else f m0)); rw [upd_same, if_pos rfl]), e3, e4⟩ (keep t nd.1 md.1)
    · rw [valV_neg (fun y => z (mK_inj (g.1.symm.trans y)))] at hu
      have hu0 : u0 ≠ u := fun y => by
        subst y
        exact nd.1 (by rw [e1]; exact List.mem_map.mpr ⟨_, valV_mem hu, rfl⟩)
      refine .cons ⟨g.1, u0, e1, (by show _ = some (HO.dT (if m0 = m then l else f m0)); rw [upd_ne hu0, if_neg z]; exact e2), e3, e4⟩ (ih nd.2 md.2 ((List.mem_cons.mp hm).resolve_left fun y => z y.symm) hu)
theorem NamR.fn {H : Hp} {e n : Addr} {f g : Mo → List (List Key × V)} {nkv : List (List Key × V)} {ms : List Mo} (h : NamR H e n f nkv ms) (k : ∀ m ∈ ms, f m = g m) : NamR H e n g nkv ms := by
  unfold NamR at h ⊢
  induction h with
  | nil => exact .nil
  | @cons q m nkv ms a t ih =>
    obtain ⟨u, h1, h2, h3⟩ := a.2
    exact .cons ⟨a.1, u, h1, by rw [← k _ List.mem_cons_self]; exact h2, h3⟩ (ih fun x hx => k x (List.mem_cons_of_mem _ hx))
theorem NamR.off {H H' : Hp} {e n : Addr} {f : Mo → List (List Key × V)} {nkv : List (List Key × V)} {ms : List Mo} (h : NamR H e n f nkv ms) (k : ∀ u kvs, u ≠ e → u ≠ n → H u = some (.dT kvs) → H' u = some (.dT kvs)) : NamR H' e n f nkv ms :=
  Paired.imp h fun _ _ a => ⟨a.1, let ⟨u, h1, h2, h3, h4⟩ := a.2; ⟨u, h1, k _ _ h3 h4 h2, h3, h4⟩⟩
theorem NamR.snd {H : Hp} {e n : Addr} {f : Mo → List (List Key × V)} {nkv : List (List Key × V)} {ms : List Mo} (h : NamR H e n f nkv ms) {v : V} (hv : v ∈ nkv.map (·.2)) : ∃ u, v = .ref u ∧ ∃ kvs, H u = some (.dT kvs) := by
  unfold NamR at h
  induction h with
  | nil => cases hv
  | @cons q m nkv ms a t ih =>
    obtain ⟨u, h1, h2, _⟩ := a.2
    rcases List.mem_cons.mp hv with z | z
    · exact ⟨u, z.trans h1, _, h2⟩
    · exact ih z
end KN
set_option Elab.async false
set_option linter.all false
set_option maxRecDepth 100000
/-! Rings of links: peeling, and what a new link closes. -/
namespace KN
open PySem L2
/-- some link comes back to its own start -/
def Ring (ls : List Lnk) : Prop := ∃ l ∈ ls, Rch ls l.2.2 l.2.1
def peel (ls : List Lnk) : List Lnk := ls.filter fun l => decide (l.2.1 ∈ ls.map (·.2.2))
def peels : Nat → List Lnk → List Lnk
  | 0, ls => ls
  | n + 1, ls => peel (peels n ls)
theorem peel_le (ls : List Lnk) : (peel ls).length ≤ ls.length := List.length_filter_le _ _
theorem peels_le (n : Nat) (ls : List Lnk) : (peels n ls).length ≤ ls.length := by
  induction n with
  | zero => exact Nat.le_refl _
  | succ n ih => exact Nat.le_trans (peel_le _) ih
theorem peel_sub {ls : List Lnk} {l : Lnk} (h : l ∈ peel ls) : l ∈ ls := (List.mem_filter.mp h).1
theorem peels_sub {n : Nat} {ls : List Lnk} {l : Lnk} (h : l ∈ peels n ls) : l ∈ ls := by
  induction n with
  | zero => exact h
  | succ n ih => exact ih (peel_sub h)
theorem peel_fix {ls : List Lnk} (h : (peel ls).length = ls.length) : peel ls = ls := List.filter_eq_self.mpr (List.length_filter_eq_length_iff.mp h)
/-- after as many turns as there are links nothing changes any more -/
theorem peels_fix (ls : List Lnk) : peel (peels ls.length ls) = peels ls.length ls := by
  have g : ∀ n, peel (peels n ls) = peels n ls ∨ (peels n ls).length + n ≤ ls.length := by
    intro n
    induction n with
    | zero => exact .inr (Nat.le_refl _)
    | succ n ih =>
      rcases ih with h | h
      · left; show peel (peel (peels n ls)) = peel (peels n ls); rw [h, h]
      · by_cases q : (peel (peels n ls)).length = (peels n ls).length
        · left; have := peel_fix q; show peel (peel (peels n ls)) = peel (peels n ls); rw [this, this]
        · right
          have := peel_le (peels n ls)
          show (peel (peels n ls)).length + (n + 1) ≤ ls.length
          omega
  rcases g ls.length with h | h
  · exact h
  · have h0 : peels ls.length ls = [] := List.length_eq_zero_iff.mp (by omega)
    rw [h0]; rfl
theorem filter_le {α : Type} {p q : α → Bool} : ∀ {xs : List α}, (∀ j ∈ xs, p j = true → q j = true) → (xs.filter p).length ≤ (xs.filter q).length
  | [], _ => Nat.le_refl _
  | x :: xs, h => by
    have r := filter_le (xs := xs) fun j hj => h j (List.mem_cons_of_mem _ hj)
    by_cases a : p x = true
    · rw [List.filter_cons_of_pos a, List.filter_cons_of_pos (h x List.mem_cons_self a), List.length_cons, List.length_cons]; omega
    · rw [List.filter_cons_of_neg a]
      by_cases b : q x = true
      · rw [List.filter_cons_of_pos b, List.length_cons]; omega
      · rw [List.filter_cons_of_neg b]; exact r
theorem filter_lt {α : Type} {p q : α → Bool} {k : α} : ∀ {xs : List α}, (∀ j ∈ xs, p j = true → q j = true) → k ∈ xs → q k = true → ¬ p k = true → (xs.filter p).length < (xs.filter q).length
  | [], _, hk, _, _ => by cases hk
  | x :: xs, h, hk, hq, hp => by
    have r := filter_le (xs := xs) fun j hj => h j (List.mem_cons_of_mem _ hj)
    rcases List.mem_cons.mp hk with e | hk
    · subst e
      rw [List.filter_cons_of_neg hp, List.filter_cons_of_pos hq, List.length_cons]; omega
    · have r := filter_lt (xs := xs) (fun j hj => h j (List.mem_cons_of_mem _ hj)) hk hq hp
      by_cases a : p x = true
      · rw [List.filter_cons_of_pos a, List.filter_cons_of_pos (h x List.mem_cons_self a), List.length_cons, List.length_cons]; omega
      · rw [List.filter_cons_of_neg a]
        by_cases b : q x = true
        · rw [List.filter_cons_of_pos b, List.length_cons]; omega
        · rw [List.filter_cons_of_neg b]; exact r
/-- a set of links each of which starts where one of them ends has a ring -/
theorem fix_ring {ls : List Lnk} (h : peel ls = ls) (h0 : ls ≠ []) : Ring ls := by
  have pre : ∀ l ∈ ls, ∃ k ∈ ls, k.2.2 = l.2.1 := fun l hl => by
    rw [← h] at hl
    obtain ⟨k, hk, e⟩ := List.mem_map.mp (of_decide_eq_true (List.mem_filter.mp hl).2)
    exact ⟨k, hk, e⟩
  apply Classical.byContradiction
  intro nr
  have noc : ∀ l ∈ ls, ¬ Rch ls l.2.2 l.2.1 := fun l hl r => nr ⟨l, hl, r⟩
  classical
  have go : ∀ (n : Nat) (l : Lnk), l ∈ ls → (ls.filter fun k => decide (Rch ls k.2.2 l.2.1)).length = n → False := by
    intro n
    induction n using Nat.strongRecOn with
    | ind n ih =>
      intro l hl hn
      obtain ⟨k, hk, ek⟩ := pre l hl
      refine ih (ls.filter fun j => decide (Rch ls j.2.2 k.2.1)).length ?_ k hk rfl
      rw [← hn]
      -- k itself is in the one, not in the other
      have sub : ∀ j ∈ ls, decide (Rch ls j.2.2 k.2.1) = true → decide (Rch ls j.2.2 l.2.1) = true := fun j _ hj => decide_eq_true (by
        have := Rch.step (of_decide_eq_true hj) hk rfl
        rw [ek] at this; exact this)
      have kin : decide (Rch ls k.2.2 l.2.1) = true := decide_eq_true (by rw [ek]; exact .refl)
      have kout : ¬ decide (Rch ls k.2.2 k.2.1) = true := fun z => noc k hk (of_decide_eq_true z)
      exact filter_lt (p := fun j : Lnk => decide (Rch ls j.2.2 k.2.1)) (q := fun j : Lnk => decide (Rch ls j.2.2 l.2.1)) sub hk kin kout
  obtain ⟨l, hl⟩ := List.exists_mem_of_ne_nil ls h0
  exact go _ l hl rfl
theorem Ring.mono {ls ls' : List Lnk} (h : ∀ l ∈ ls, l ∈ ls') (r : Ring ls) : Ring ls' :=
  let ⟨l, hl, q⟩ := r
  ⟨l, h l hl, q.mono h⟩
/-- the links of rings are never taken out -/
theorem ring_stays {ls : List Lnk} {l : Lnk} (hl : l ∈ ls) (hr : Rch ls l.2.2 l.2.1) : ∀ n, l ∈ peels n ls := by
  have all : ∀ n, ∀ l ∈ ls, Rch ls l.2.2 l.2.1 → l ∈ peels n ls := by
    intro n
    induction n with
    | zero => intro l hl _; exact hl
    | succ n ih =>
      intro l hl hr
      refine List.mem_filter.mpr ⟨ih l hl hr, decide_eq_true ?_⟩
      -- the last step of the way back
      have last : ∀ {a b : Mo}, Rch ls a b → a = b ∨ ∃ k ∈ ls, k.2.2 = b ∧ Rch ls a k.2.1 := fun r => by
        cases r with
        | refl => exact .inl rfl
        | step r hk e => exact .inr ⟨_, hk, rfl, by rw [e]; exact r⟩
      rcases last hr with e | ⟨k, hk, e, rk⟩
      · exact List.mem_map.mpr ⟨l, ih l hl hr, e⟩
      · have kr : Rch ls k.2.2 k.2.1 := by
          rw [e]
          exact (Rch.step .refl hl rfl).trans rk
        exact List.mem_map.mpr ⟨k, ih k hk kr, e⟩
  exact fun n => all n l hl hr
theorem ring_iff (ls : List Lnk) : peels ls.length ls ≠ [] ↔ Ring ls := by
  constructor
  · intro h
    exact (fix_ring (peels_fix ls) h).mono fun l hl => peels_sub hl
  · rintro ⟨l, hl, r⟩ z
    have := ring_stays hl r ls.length
    rw [z] at this; cases this
theorem rch_snoc {ls : List Lnk} {x : Lnk} {a b : Mo} (r : Rch (ls ++ [x]) a b) : Rch ls a b ∨ (Rch ls a x.2.1 ∧ Rch ls x.2.2 b) := by
  induction r with
  | refl => exact .inl .refl
  | step r hk e ih =>
    rcases List.mem_append.mp hk with h | h
    · rcases ih with q | ⟨q1, q2⟩
      · exact .inl (.step q h e)
      · exact .inr ⟨q1, .step q2 h e⟩
    · rw [List.mem_singleton] at h
      subst h
      rcases ih with q | ⟨q1, q2⟩
      · exact .inr ⟨by rw [e]; exact q, .refl⟩
      · exact .inr ⟨q1, .refl⟩
/-- a new link closes a ring just where its end leads to its start -/
theorem ring_snoc {ls : List Lnk} {x : Lnk} (h : ¬ Ring ls) : Ring (ls ++ [x]) ↔ Rch ls x.2.2 x.2.1 := by
  constructor
  · rintro ⟨l, hl, r⟩
    rcases List.mem_append.mp hl with q | q
    · rcases rch_snoc r with z | ⟨z1, z2⟩
      · exact absurd ⟨l, q, z⟩ h
      · exact (Rch.step z2 q rfl).trans z1
    · rw [List.mem_singleton] at q
      subst q
      rcases rch_snoc r with z | ⟨z1, _⟩
      · exact z
      · exact z1
  · intro r
    exact ⟨x, List.mem_append_right _ (List.mem_singleton.mpr rfl), r.mono fun l hl => List.mem_append_left _ hl⟩
end KN
set_option Elab.async false
set_option linter.all false
set_option maxRecDepth 100000
set_option maxHeartbeats 4000000
namespace KN
open PySem L2
def top (i : Nat) : Stmt := PySem.Challenge.pw_kindnames_k05_whole_aheads_make_no_ring.main.body.getD i (.Pass ⟨0, 0, 0, 0⟩)

/-- all but p is kept -/
def Kp (p : Addr) (H H' : Hp) : Prop := ∀ a o, a ≠ p → H a = some o → H' a = some o
theorem Kp.refl (p : Addr) (H : Hp) : Kp p H H := fun _ _ _ h => h
theorem Kp.trans {p : Addr} {H H1 H2 : Hp} (a : Kp p H H1) (b : Kp p H1 H2) : Kp p H H2 := fun c o n h => b c o n (a c o n h)
theorem Kp.of {p : Addr} {H H' : Hp} (s : Same H H') : Kp p H H' := fun a o _ h => s a o h
theorem Kp.new {p q : Addr} {H : Hp} {o : HO} (h : H q = none) : Kp p H (upd H q o) := Kp.of (Same.new h)
theorem Kp.put {p : Addr} {H : Hp} {o : HO} : Kp p H (upd H p o) := fun a u n h => by rw [upd_ne n]; exact h
theorem Kp.tk {p : Addr} {H H' : Hp} {kvs : List (Key × V)} (k : Kp p H H') (h : H p = some (.dK kvs)) : TK H H' := fun b xs e =>
  k b _ (fun z => by subst z; rw [h] at e; cases e) e
theorem Kp.free {p a : Addr} {H H' : Hp} (k : Kp p H H') (n : a ≠ p) (h : H' a = none) : H a = none := by
  cases q : H a with
  | none => rfl
  | some o => rw [k a o n q] at h; cases h

def penD (c : Addr) (n m : Int) : List (Key × V) := [(.inr "cells", .ref c), (.inr "at", .int n), (.inr "left", .int m)]
/-- the pen stands at p, its place at most b -/
def Pen (H : Hp) (p c : Addr) (b : Int) : Prop := ∃ (n m : Int) (ns : List Int), H p = some (.dK (penD c n m)) ∧ H c = some (.lst (ns.map V.int)) ∧ ns.length ≤ 63 ∧ 0 ≤ n ∧ n ≤ b
theorem pen_cells (c : Addr) (n m : Int) : valV (penD c n m) (.inr "cells") = some (.ref c) := by
  unfold penD; rw [valV_pos rfl]
theorem kne {x y : Str} (h : ¬ x = y) : ¬ ((Sum.inr x : Key) = Sum.inr y) := fun z => h (Sum.inr.inj z)
theorem ca0 : ¬ (("cells" : Str) = ("at" : Str)) := by decide +kernel
theorem cl0 : ¬ (("cells" : Str) = ("left" : Str)) := by decide +kernel
theorem al0 : ¬ (("at" : Str) = ("left" : Str)) := by decide +kernel
theorem la0 : ¬ (("left" : Str) = ("at" : Str)) := by decide +kernel
theorem ca_ : ¬ ((Sum.inr ("cells" : Str) : Key) = Sum.inr ("at" : Str)) := kne (by decide +kernel)
theorem cl_ : ¬ ((Sum.inr ("cells" : Str) : Key) = Sum.inr ("left" : Str)) := kne (by decide +kernel)
theorem al_ : ¬ ((Sum.inr ("at" : Str) : Key) = Sum.inr ("left" : Str)) := kne (by decide +kernel)
theorem la_ : ¬ ((Sum.inr ("left" : Str) : Key) = Sum.inr ("at" : Str)) := kne (by decide +kernel)
theorem pen_at (c : Addr) (n m : Int) : valV (penD c n m) (.inr "at") = some (.int n) := by
  unfold penD; rw [valV_neg ca_, valV_pos rfl]
theorem pen_left (c : Addr) (n m : Int) : valV (penD c n m) (.inr "left") = some (.int m) := by
  unfold penD; rw [valV_neg cl_, valV_neg al_, valV_pos rfl]
theorem pen_put_at (c : Addr) (n m k : Int) : putK (penD c n m) (.inr "at") (.int k) = penD c k m := by
  simp [putK, penD, ca0, la0]
theorem pen_put_left (c : Addr) (n m k : Int) : putK (penD c n m) (.inr "left") (.int k) = penD c n k := by
  simp [putK, penD, cl0, al0]
theorem Pen.to {H H' : Hp} {p c : Addr} {b : Int} (h : Pen H p c b) (s : Same H H') : Pen H' p c b :=
  let ⟨n, m, ns, e1, e2, r⟩ := h
  ⟨n, m, ns, s _ _ e1, s _ _ e2, r⟩
theorem Pen.up {H : Hp} {p c : Addr} {b b' : Int} (h : Pen H p c b) (l : b ≤ b') : Pen H p c b' :=
  let ⟨n, m, ns, e1, e2, e3, e4, e5⟩ := h
  ⟨n, m, ns, e1, e2, e3, e4, Int.le_trans e5 l⟩
theorem Pen.tk {H H' : Hp} {p c : Addr} {b : Int} (h : Pen H p c b) (k : Kp p H H') : TK H H' :=
  let ⟨_, _, _, e1, _⟩ := h
  k.tk e1
/-- what is neither the pen nor its cells may change -/
theorem Pen.keep {H H' : Hp} {p c : Addr} {b : Int} (h : Pen H p c b) (k : ∀ a o, a = p ∨ a = c → H a = some o → H' a = some o) : Pen H' p c b :=
  let ⟨n, m, ns, e1, e2, r⟩ := h
  ⟨n, m, ns, k _ _ (.inl rfl) e1, k _ _ (.inr rfl) e2, r⟩
theorem Pen.here {H : Hp} {p c : Addr} {b : Int} (h : Pen H p c b) : (∃ o, H p = some o) ∧ ∃ o, H c = some o :=
  let ⟨_, _, _, e1, e2, _⟩ := h
  ⟨⟨_, e1⟩, _, e2⟩
/-- a new thing is neither the pen nor its cells -/
theorem Pen.off {H : Hp} {p c a : Addr} {b : Int} (h : Pen H p c b) (e : H a = none) : a ≠ p ∧ a ≠ c :=
  let ⟨_, _, _, e1, e2, _⟩ := h
  ⟨(ne_of_none e1 e).symm, (ne_of_none e2 e).symm⟩
theorem Pen.put {H : Hp} {p c a : Addr} {b : Int} {o : HO} (h : Pen H p c b) (n : a ≠ p ∧ a ≠ c) : Pen (upd H a o) p c b :=
  h.keep fun x u hx e => by
    rw [upd_ne (fun z => by subst z; exact hx.elim n.1 n.2)]; exact e
theorem Pen.ne {H : Hp} {p c a : Addr} {b : Int} {xs : List V} (h : Pen H p c b) (e : H a = some (.lst xs)) : a ≠ p :=
  let ⟨_, _, _, e1, _⟩ := h
  fun z => by subst z; rw [e1] at e; cases e

def spPen (K : PySem.W.Frag) : Sp := fun vs H Q _ => ∃ (a : Addr) (ns : List Int), vs = [.ref a] ∧ SqL K H a (ns.map V.int) ∧ ns.length ≤ 63 ∧
  ∀ H' p c, Same H H' → H p = none → H c = none → Pen H' p c 0 → Q (.ref p) H'
def spDraw : Sp := fun vs H Q _ => ∃ (p c : Addr) (b many : Int), vs = [.ref p, .int many] ∧ Pen H p c b ∧ b ≤ 1000000000000 ∧ 1 ≤ many ∧ many < 1000000 ∧
  ∀ H' r, Kp p H H' → Pen H' p c (b + 1) → 0 ≤ r → r < many → Q (.int r) H'

section
variable {P : Program} {w : World} {K : PySem.W.Frag} {mg : Str → Option Value} {base : Heap}
abbrev s__law_pen : Stmt := top 34
theorem sc__law_pen : FnScope ["_law_script", "_law_cell"] ["_law_script"] (defScope s__law_pen) := ⟨rfl, rfl, rfl, by decide +kernel, rfl, by decide +kernel, by decide +kernel⟩
theorem ok__law_pen {f : Addr} {fd : FuncData} (F : Fun K "_law_pen" "_law_pen" s__law_pen f fd) : FnOk P w K mg base CX0 1 f fd ["_law_script"] (spPen K) := by
  refine F.ok sc__law_pen (fun vs H Q E h => ?_) (fun cdv A outer s H vs Q E hr h => ?_)
  · obtain ⟨a, ns, rfl, _⟩ := h; rfl
  · obtain ⟨a, ns, rfl, hS, hlen, k⟩ := h
    refine ⟨_, (pss_one (ps_ret (pe_disp (pps_cons pe_str (pe_lc (own := [("_law_cell", 1)]) (g := gName 1) (tt := tYes) rfl sc__law_pen.nd (pi_list (pe_slice sl_list (pv 0) po_none (po_some pe_int))) (blkOk_by (own := [("_law_cell", 1)]) (N := ["_law_script", "_law_cell"]) (sc := defScope s__law_pen) (by decide +kernel)) (fun _ _ _ _ _ => pg_name (i := 1) sc__law_pen.nd rfl (Or.inl rfl)) (fun _ _ _ _ _ => pts_nil) (fun _ _ _ _ _ => (pv 1))) (pps_cons pe_str pe_int (pps_cons pe_str pe_int pps_nil))) (by rfl) (by rfl) (fun z => by cases z) (by decide)))), ?_⟩
    intro p hp
    have e63 : cutV (ns.map V.int) none (some 63) = ns.map V.int := by
      unfold cutV
      rw [HT.sIx_none, List.drop_zero, List.take_of_length_le]
      rw [show (some (63 : Int)) = some ((63 : Nat) : Int) from rfl, HT.sIx_nat, List.length_map]; omega
    have s1 : Same H (upd H p (.dK [])) := Same.new hp
    refine ⟨_, rfl, _, rfl, a, _, rfl, s1.seq hS, fun l hl => ?_⟩
    rw [e63]
    have s2 : Same (upd H p (.dK [])) (upd (upd H p (.dK [])) l (.lst (ns.map V.int))) := Same.new hl
    refine ⟨l, rfl, ⟨_, SqL.of upd_same⟩, fun D hD => ?_⟩
    refine lc_list (K := K) (a := l) (xs := ns.map V.int) (fun i H' => Same (upd (upd H p (.dK [])) l (.lst (ns.map V.int))) H' ∧ H' D = some (.lst ((ns.map V.int).take i)))
      ⟨Same.new hD, upd_same⟩ (fun i H' _ q => SqL.of (q.1 _ _ upd_same)) ?_ ?_
    · rintro i x H' hi ⟨q1, q2⟩
      refine ⟨rfl, _, rfl, _, q2, ?_, fun b o e => ?_, ?_⟩
      · have := List.length_take_le' i (ns.map V.int)
        rw [List.length_map] at this
        exact small1000 (by omega)
      · rw [upd_ne (fun z => by subst z; rw [e] at hD; cases hD)]
        exact q1 _ _ e
      · rw [upd_same, List.take_add_one, hi]; rfl
    · rintro H' ⟨q1, q2⟩
      rw [List.take_of_length_le (Nat.le_refl _)] at q2
      refine ⟨q1 _ _ (s2 _ _ upd_same), [(.inr "cells", .ref D), (.inr "at", .int 0), (.inr "left", .int 0)], rfl, (by show 3 ≤ 15; decide), ?_⟩
      have e : mergeK [] [((Sum.inr "cells" : Key), V.ref D), (Sum.inr "at", .int 0), (Sum.inr "left", .int 0)] = penD D 0 0 := by
        simp [mergeK, putK, penD, ca0, cl0, al0]
      rw [e]
      have np : D ≠ p := fun z => by subst z; rw [s2 _ _ upd_same] at hD; cases hD
      have hD0 : H D = none := s1.free (s2.free hD)
      refine k _ _ D (fun b o e => ?_) hp hD0 ⟨0, 0, ns, upd_same, by rw [upd_ne np]; exact q2, hlen, Int.le_refl _, Int.le_refl _⟩
      rw [upd_ne (ne_of_none e hp)]
      exact q1 _ _ (s2 _ _ (s1 _ _ e))

theorem depth_ints : ∀ ns : List Int, PyData.depthAll (ns.map PyData.int) ≤ 1
  | [] => by simp [PyData.depthAll]
  | n :: ns => by have := depth_ints ns; simp [PyData.depthAll, PyData.depth]; omega
theorem shaped_ints (ns : List Int) : SeqAt.shaped (.list (ns.map PyData.int)) = true := by
  have h : okDs (ns.map PyData.int) = true := okDs_all.mpr fun d hd => by
    obtain ⟨i, _, rfl⟩ := List.mem_map.mp hd; rfl
  refine shaped_of (by simpa [okD] using h) ?_
  have := depth_ints ns
  simp [PyData.depth]; omega
theorem draw_ok {n : Int} (h : 0 ≤ n) (l : n ≤ 1000000000000) : -(2 ^ 64) < n ∧ n < 2 ^ 64 := by omega
theorem mod_lt {x m : Int} (h : 0 < m) : 0 ≤ x % m ∧ x % m < m := ⟨Int.emod_nonneg _ (by omega), Int.emod_lt_of_pos _ h⟩
abbrev s__law_draw : Stmt := top 35
theorem sc__law_draw : FnScope ["_law_pen_here", "_law_many", "_law_digit", "_law_at", "_law_cell", "_law_number", "_law_again"] ["_law_pen_here", "_law_many"] (defScope s__law_draw) := ⟨rfl, rfl, rfl, by decide +kernel, rfl, by decide +kernel, by decide +kernel⟩
theorem ok__law_draw {f : Addr} {fd : FuncData} (F : Fun K "_law_draw" "_law_draw" s__law_draw f fd) (m_len : mg "len" = none) (m_abs : mg "abs" = none) (m_range : mg "range" = none) : FnOk P w K mg base CX0 1 f fd ["_law_pen_here", "_law_many"] spDraw := by
  refine F.ok sc__law_draw (fun vs H Q E h => ?_) (fun cdv A outer s H vs Q E hr h => ?_)
  · obtain ⟨p, c, b, many, rfl, _⟩ := h; rfl
  · obtain ⟨p, c, b, many, rfl, ⟨n, m, ns, hp, hc, h63, hn0, hnb⟩, hb, h1, h2, k⟩ := h
    have hu := hu_of hr
    refine ⟨_, (pss_cons (ps_if (pt_cmpR op_gt (pe_dget hu (pv 0) pe_str (fun _ _ => rfl)) pe_int (nomark _)) (pss_cons (ps_set (i := 2) sc__law_draw.nd rfl (Or.inl rfl) (pe_op op_mod (pe_dget hu (pv 0) pe_str (fun _ _ => rfl)) (pv 1)))
      (pss_cons (ps_dput hu (pv 0) pe_str (pe_op op_fdiv (pe_dget hu (pv 0) pe_str (fun _ _ => rfl)) (pv 1)) rfl)
      (pss_one (ps_ret (pv 2))))) pss_nil)
      (pss_cons (ps_set (i := 3) sc__law_draw.nd rfl (Or.inl rfl) (pe_dget hu (pv 0) pe_str (fun _ _ => rfl)))
      (pss_cons (ps_dput hu (pv 0) pe_str (pe_op op_add (pv 3) pe_int) rfl)
      (pss_cons (ps_set (i := 4) sc__law_draw.nd rfl (Or.inl rfl) (pe_op op_add (pe_op op_mul (pv 3) (pv 3)) pe_int))
      (C8.pss_cut (ps_if (pt_cmpR (op_neD hr.units) (pe_dget hu (pv 0) pe_str (fun _ _ => rfl)) (pe_lst pa_nil) (nomark _)) (pss_one (ps_set (i := 4) sc__law_draw.nd rfl (Or.inl rfl) (pe_ix ix_list (pe_dget hu (pv 0) pe_str (fun _ _ => rfl)) (pe_op op_mod (pv 3) (pe_callB call_len_seq (by rfl) m_len (by decide +kernel) (pa_cons (pe_dget hu (pv 0) pe_str (fun _ _ => rfl)) pa_nil))) (fun _ _ => rfl)))) pss_nil)
      (C8.pss_cut (ps_if (PW.pt (pw_and (pt_cmpR op_lt (pv 3) (pe_callB call_len_seq (by rfl) m_len (by decide +kernel) (pa_cons (pe_dget hu (pv 0) pe_str (fun _ _ => rfl)) pa_nil)) (nomark _)) (pw_and1 (pt_cmpR op_ge (pe_callB call_abs (by rfl) m_abs (by decide +kernel) (pa_cons (pv 4) pa_nil)) (pe_op op_pow pe_int pe_int) (nomark _))))) (pss_cons (ps_dput hu (pv 0) pe_str (pe_op op_fdiv (pe_callB call_abs (by rfl) m_abs (by decide +kernel) (pa_cons (pv 4) pa_nil)) (pv 1)) rfl)
      (pss_one (ps_ret (pe_op op_mod (pe_callB call_abs (by rfl) m_abs (by decide +kernel) (pa_cons (pv 4) pa_nil)) (pv 1))))) pss_nil)
      (pss_cons (ps_set (i := 5) sc__law_draw.nd rfl (Or.inl rfl) (pe_op op_mod (pe_op op_mul (pe_op op_add (pe_op op_add (pe_op op_mod (pv 4) pe_int) (pe_op op_mul pe_int (pv 3))) pe_int) pe_int) pe_int))
      (pss_cons (ps_for PassesOwn.never rfl (pi_range1 rfl m_range (pa_cons pe_int pa_nil)) (pg_name (i := 6) sc__law_draw.nd rfl (Or.inl rfl))
      (pss_cons (ps_set (i := 5) sc__law_draw.nd rfl (Or.inl rfl) (pe_op op_add (pe_op op_add (pe_op op_add (pe_op op_mul (pv 5) (pv 5)) (pe_op op_mul pe_int (pv 5))) (pv 3)) (pv 6)))
      (pss_one (ps_set (i := 5) sc__law_draw.nd rfl (Or.inl rfl) (pe_op op_mod (pv 5) pe_int)))))
      (pss_one (ps_ret (pe_op op_mod (pe_op op_fdiv (pv 5) pe_int) (pv 1)))))))))))), ?_⟩
    have ncp : c ≠ p := ne_of hc hp (by intro z; cases z)
    have gl : DGet H p (.str "left") (some (.int m)) := by
      have := DGet.k (k := .inr "left") hp; rw [pen_left] at this; exact this
    have ga : DGet H p (.str "at") (some (.int n)) := by
      have := DGet.k (k := .inr "at") hp; rw [pen_at] at this; exact this
    refine ⟨_, rfl, p, _, rfl, gl, _, _, rfl, rfl, _, rfl, ite2 (fun hm => ?_) (fun hm => ?_)⟩
    · -- a digit of what is left
      refine ⟨_, rfl, p, _, rfl, gl, _, rfl, _, _, rfl, rfl, (by show (0 : Int) < many; omega), ?_⟩
      refine ⟨_, rfl, p, _, rfl, gl, _, rfl, _, _, rfl, rfl, (by constructor <;> omega), _, rfl, p, _, rfl, DPut.k (k := .inr "left") hp (by show 3 < sizeLine; decide), _, rfl, ?_⟩
      rw [pen_put_left]
      have q := mod_lt (x := m) (m := many) (by omega)
      exact k _ _ Kp.put ⟨n, _, ns, upd_same, by rw [upd_ne ncp]; exact hc, h63, hn0, by omega⟩ q.1 q.2
    · -- a mixed draw
      refine ⟨_, rfl, p, _, rfl, ga, ?_⟩
      refine ⟨_, rfl, _, _, rfl, rfl, _, rfl, p, _, rfl, DPut.k (k := .inr "at") hp (by show 3 < sizeLine; decide), ?_⟩
      rw [pen_put_at]
      have kb : -(2 ^ 64) < n ∧ n < 2 ^ 64 := draw_ok hn0 (by omega)
      refine ⟨_, rfl, _, rfl, _, _, rfl, rfl, .inl kb, _, _, rfl, rfl, ?_⟩
      refine ⟨fun σ' H' => ∃ z : Int, σ' = [some (.ref p), some (.int many), none, some (.int n), some (.int z), none, none] ∧ Kp p H H' ∧ H' p = some (.dK (penD c (n + 1) m)), ?_, ?_⟩
      · -- if pen["cells"] != []
        have gc : DGet (upd H p (.dK (penD c (n + 1) m))) p (.str "cells") (some (.ref c)) := by
          have := DGet.k (k := .inr "cells") (upd_same (H := H) (a := p) (o := .dK (penD c (n + 1) m))); rw [pen_cells] at this; exact this
        refine ⟨_, rfl, p, _, rfl, gc, Nat.zero_le _, fun l hl => ?_⟩
        have nlp : l ≠ p := fun z => by subst z; rw [upd_same] at hl; cases hl
        have hl0 : H l = none := by rw [upd_ne nlp] at hl; exact hl
        have ncl : c ≠ l := fun z => by subst z; rw [hc] at hl0; cases hl0
        have hc2 : upd (upd H p (.dK (penD c (n + 1) m))) l (.lst []) c = some (.lst (ns.map V.int)) := by rw [upd_ne ncl, upd_ne ncp]; exact hc
        have hp2 : upd (upd H p (.dK (penD c (n + 1) m))) l (.lst []) p = some (.dK (penD c (n + 1) m)) := by rw [upd_ne nlp.symm, upd_same]
        have kp2 : Kp p H (upd (upd H p (.dK (penD c (n + 1) m))) l (.lst [])) := Kp.put.trans (Kp.new hl)
        have ls : Ls (upd (upd H p (.dK (penD c (n + 1) m))) l (.lst [])) c (ns.map PyData.int) := ⟨_, hc2, TpAll.ints ns⟩
        have le : Ls (upd (upd H p (.dK (penD c (n + 1) m))) l (.lst [])) l [] := ⟨_, upd_same, .nil⟩
        refine ⟨_, _, ls.dp, le.dp, shaped_ints ns, rfl, _, rfl, ?_⟩
        cases ns with
        | nil =>
          refine iteF ?_
          exact ⟨n * n + 5, rfl, kp2, hp2⟩
        | cons n0 ns =>
          refine iteT ?_
          have gc2 : DGet (upd (upd H p (.dK (penD c (n + 1) m))) l (.lst [])) p (.str "cells") (some (.ref c)) := by
            have := DGet.k (k := .inr "cells") hp2; rw [pen_cells] at this; exact this
          refine ⟨_, rfl, p, _, rfl, gc2, _, rfl, _, rfl, p, _, rfl, gc2, c, _, rfl, .inl (SqL.of hc2), _, _, rfl, rfl, (by show (0 : Int) < ((List.map V.int (n0 :: ns)).length : Nat); rw [List.length_map, List.length_cons]; omega), ?_⟩
          have hl' : 0 < ((List.map V.int (n0 :: ns)).length : Int) := by rw [List.length_map, List.length_cons]; omega
          have q := mod_lt (x := n) hl'
          obtain ⟨y, hy⟩ : ∃ y, (n0 :: ns)[(n % ((List.map V.int (n0 :: ns)).length : Int)).toNat]? = some y := by
            have hlt : (n % ((List.map V.int (n0 :: ns)).length : Int)).toNat < (n0 :: ns).length := by
              have e := List.length_map (as := n0 :: ns) V.int
              omega
            exact ⟨_, List.getElem?_eq_getElem hlt⟩
          refine ⟨c, _, _, .int y, rfl, rfl, SqL.of hc2, at_of (j := (n % ((List.map V.int (n0 :: ns)).length : Int)).toNat) (by omega) (by rw [List.getElem?_map, hy]; rfl), ?_⟩
          exact ⟨y, rfl, kp2, hp2⟩
      · rintro σ1 H1 ⟨z, rfl, k1, hp1⟩
        have hc1 : H1 c = some (.lst (ns.map V.int)) := k1 _ _ ncp hc
        have gc1 : DGet H1 p (.str "cells") (some (.ref c)) := by
          have := DGet.k (k := .inr "cells") hp1; rw [pen_cells] at this; exact this
        have stay : Pen H1 p c (b + 1) := ⟨n + 1, m, ns, hp1, hc1, h63, by omega, by omega⟩
        refine ⟨fun σ' H' => σ' = [some (.ref p), some (.int many), none, some (.int n), some (.int z), none, none] ∧ H' = H1, ?_, ?_⟩
        refine ⟨_, rfl, _, rfl, p, _, rfl, gc1, c, _, rfl, .inl (SqL.of hc1), _, _, rfl, rfl, _, rfl, ite2 (fun hlt => ?_) (fun hlt => ?_)⟩
        · refine ⟨_, rfl, _, rfl, _, _, rfl, rfl, ⟨by decide, by decide, by decide⟩, _, _, rfl, rfl, _, rfl, ite2 (fun hg => ?_) (fun hg => ?_)⟩
          · refine ⟨_, rfl, _, rfl, _, rfl, _, _, rfl, rfl, (by constructor <;> omega), _, rfl, p, _, rfl, DPut.k (k := .inr "left") hp1 (by show 3 < sizeLine; decide), ?_⟩
            rw [pen_put_left]
            refine ⟨_, rfl, _, rfl, _, rfl, _, _, rfl, rfl, (by show (0 : Int) < many; omega), ?_⟩
            have q := mod_lt (x := if z < 0 then -z else z) (m := many) (by omega)
            exact k _ _ (k1.trans Kp.put) ⟨n + 1, _, ns, upd_same, by rw [upd_ne ncp]; exact hc1, h63, by omega, by omega⟩ q.1 q.2
          · exact ⟨rfl, rfl⟩
        · exact ⟨rfl, rfl⟩
        rintro σ2 H2 ⟨rfl, rfl⟩
        have kz := mod_lt (x := z) (m := 4294967311) (by decide)
        refine ⟨_, rfl, _, _, rfl, rfl, (by show (0 : Int) < 4294967311; decide), _, rfl, _, _, rfl, rfl, .inl (by constructor <;> decide), _, _, rfl, rfl, _, _, rfl, rfl, _, _, rfl, rfl, .inr (by constructor <;> decide), _, _, rfl, rfl, (by show (0 : Int) < 4294967311; decide), ?_⟩
        refine ⟨3, rfl, by decide, by decide, for_range (lo := 0) (n := 3) (fun i σ' H' => H' = H2 ∧ ∃ (y : Int) (v : Option V), σ' = [some (.ref p), some (.int many), none, some (.int n), some (.int z), some (.int y), v] ∧ 0 ≤ y ∧ y < 4294967311)
          ⟨rfl, _, none, rfl, mod_lt (by decide)⟩ ?_ ?_⟩
        · rintro i σ3 H3 hi ⟨rfl, y, v, rfl, y0, y1⟩
          refine ⟨_, rfl, _, rfl, _, _, rfl, rfl, .inl (by constructor <;> omega), _, rfl, _, _, rfl, rfl, .inl (by constructor <;> decide), _, _, rfl, rfl, _, rfl, _, _, rfl, rfl, _, rfl, _, _, rfl, rfl, ?_⟩
          refine ⟨_, rfl, _, _, rfl, rfl, (by show (0 : Int) < 4294967311; decide), ?_⟩
          exact ⟨rfl, _, _, rfl, mod_lt (by decide)⟩
        · rintro σ3 H3 ⟨rfl, y, v, rfl, y0, y1⟩
          refine ⟨_, rfl, _, _, rfl, rfl, (by constructor <;> decide), _, rfl, _, _, rfl, rfl, (by show (0 : Int) < many; omega), ?_⟩
          have q := mod_lt (x := y / 32) (m := many) (by omega)
          exact k _ _ k1 stay q.1 q.2
end
end KN
set_option Elab.async false
set_option linter.all false
set_option maxRecDepth 100000
set_option maxHeartbeats 4000000
namespace KN
open PySem L2
theorem takes_never {X : Cx} : Takes X (fun _ _ _ _ => False) := fun _ _ ⟨_, _, _, _, _, _, _, _, _, _, _, _, _, _, _, _, w⟩ => w.elim
abbrev tl (x : Str) : List Nat := x.cps.toList
/-- a word -/
def Lt (l : List Nat) : Prop := ∀ c ∈ l, 97 ≤ c ∧ c ≤ 122
def IsW (s : Str) : Prop := 1 ≤ (tl s).length ∧ (tl s).length ≤ 12 ∧ Lt (tl s)
theorem Lt.app {a b : List Nat} (h : Lt a) (k : Lt b) : Lt (a ++ b) := fun c hc => (List.mem_append.mp hc).elim (h c) (k c)
theorem Lt.drop {a : List Nat} (h : Lt a) (n : Nat) : Lt (a.drop n) := fun c hc => h c (List.mem_of_mem_drop hc)
theorem Lt.take {a : List Nat} (h : Lt a) (n : Nat) : Lt (a.take n) := fun c hc => h c (List.mem_of_mem_take hc)
theorem tl_cut (z : Str) (lo hi : Option Int) : tl (cutS z lo hi) = ((tl z).drop (HT.sIx z.length 0 lo)).take (HT.sIx z.length z.length hi - HT.sIx z.length 0 lo) := rfl
theorem Lt.cut {z : Str} (h : Lt (tl z)) (lo hi : Option Int) : Lt (tl (cutS z lo hi)) := by rw [tl_cut]; exact (h.drop _).take _
theorem len_cut (z : Str) (lo hi : Option Int) : (tl (cutS z lo hi)).length ≤ (tl z).length := by
  rw [tl_cut, List.length_take, List.length_drop]; omega
theorem slen (z : Str) : z.length = (tl z).length := TL.len_tl z
abbrev letters : Str := "abcdefghijklmnopqrstuvwxyz"
theorem tl_letters : tl letters = (List.range 26).map (· + 97) := by decide +kernel
theorem at_ofG {α : Type} {xs : List α} {i : Int} {v : α} (h : 0 ≤ i) (e : xs[i.toNat]? = some v) : atI xs i = some v := by
  have q := atI_nat (xs := xs) (j := i.toNat) e
  rwa [Int.toNat_of_nonneg h] at q
theorem letter_at {i : Int} (h : 0 ≤ i) (k : i < 26) : atI (tl letters) i = some (i.toNat + 97) := by
  refine at_ofG h ?_
  rw [tl_letters, List.getElem?_map, List.getElem?_range (by omega)]; rfl
theorem letter_ix : ∀ k, k < 26 → (Txt.index0 letters ⟨#[k + 97]⟩).isSome = true ∧ ∀ j, Txt.index0 letters ⟨#[k + 97]⟩ = some j → j = k := by decide +kernel
theorem index_letter {c : Nat} (h : 97 ≤ c ∧ c ≤ 122) : Txt.index0 letters ⟨#[c]⟩ = some (c - 97) := by
  have q := letter_ix (c - 97) (by omega)
  rw [show c - 97 + 97 = c by omega] at q
  cases e : Txt.index0 letters ⟨#[c]⟩ with
  | none => rw [e] at q; exact absurd q.1 (by decide)
  | some j => rw [q.2 j e]
theorem tl_join0 : ∀ ss : List Str, tl (Txt.join "" ss) = (ss.map tl).flatten := by
  intro ss
  have e : tl (Txt.join "" ss) = TL.joinL (tl "") (ss.map tl) := by rw [TL.join_eq]; exact TL.tl_join "" ss
  rw [e]
  have e0 : tl "" = [] := by decide +kernel
  rw [e0]
  generalize ss.map tl = ps
  induction ps with
  | nil => rfl
  | cons p r ih =>
    cases r with
    | nil => simp [TL.joinL]
    | cons q r => simp only [TL.joinL, List.nil_append] at ih ⊢; rw [ih]; rfl

/-- the texts of one letter each -/
def One (ss : List Str) : Prop := ∀ s ∈ ss, ∃ c, tl s = [c] ∧ 97 ≤ c ∧ c ≤ 122
theorem One.word {ss : List Str} (h : One ss) : (tl (Txt.join "" ss)).length = ss.length ∧ Lt (tl (Txt.join "" ss)) := by
  rw [tl_join0]
  induction ss with
  | nil => exact ⟨rfl, fun c hc => by cases hc⟩
  | cons s r ih =>
    obtain ⟨c, e, h1, h2⟩ := h s List.mem_cons_self
    obtain ⟨a, b⟩ := ih fun x hx => h x (List.mem_cons_of_mem _ hx)
    rw [List.map_cons, List.flatten_cons, e]
    refine ⟨by rw [List.length_append, a]; simp; omega, Lt.app (fun d hd => ?_) b⟩
    rw [List.mem_singleton] at hd; subst hd; exact ⟨h1, h2⟩
theorem One.sum {ss : List Str} (h : One ss) : (ss.map (·.length)).sum = ss.length := by
  induction ss with
  | nil => rfl
  | cons s r ih =>
    obtain ⟨c, e, _⟩ := h s List.mem_cons_self
    rw [List.map_cons, List.sum_cons, ih fun x hx => h x (List.mem_cons_of_mem _ hx), slen, e]
    simp; omega

theorem six_at {r : Int} (h : 0 ≤ r) (k : r < 6) : ∃ y, atI [V.int 3, .int 5, .int 7, .int 9, .int 11, .int 15] r = some (.int y) ∧ 3 ≤ y ∧ y ≤ 15 := by
  have : r = 0 ∨ r = 1 ∨ r = 2 ∨ r = 3 ∨ r = 4 ∨ r = 5 := by omega
  rcases this with rfl | rfl | rfl | rfl | rfl | rfl <;> exact ⟨_, rfl, by decide, by decide⟩
theorem two_at {r : Int} (x y : V) (h : 0 ≤ r) (k : r < 2) : ∃ v, atI [x, y] r = some v ∧ (v = x ∨ v = y) := by
  have : r = 0 ∨ r = 1 := by omega
  rcases this with rfl | rfl
  · exact ⟨_, rfl, .inl rfl⟩
  · exact ⟨_, rfl, .inr rfl⟩
theorem atI_in {α : Type} {xs : List α} {i : Int} (h : 0 ≤ i) (k : i < xs.length) : ∃ v, atI xs i = some v ∧ xs[i.toNat]? = some v := by
  have hl : i.toNat < xs.length := by omega
  exact ⟨xs[i.toNat], at_ofG h (List.getElem?_eq_getElem hl), List.getElem?_eq_getElem hl⟩
def spNames : Sp := fun vs H Q _ => ∃ (p c : Addr) (b many : Int), vs = [.ref p, .int many] ∧ Pen H p c b ∧ b ≤ 1000000000 ∧ 0 ≤ many ∧ many ≤ 100 ∧
  ∀ (H' : Hp) (l : Addr) (ss : List Str), Kp p H H' → Pen H' p c (b + 16) → H l = none → H' l = some (.lst (ss.map V.str)) → ss.length = many.toNat → (∀ s ∈ ss, IsW s) → Q (.ref l) H'

section
variable {P : Program} {w : World} {K : PySem.W.Frag} {mg : Str → Option Value} {base : Heap}
abbrev s__law_names : Stmt := top 36
theorem sc__law_names : FnScope ["_law_pen_here", "_law_many", "_law_letters", "_law_word", "_law_at", "_law_first", "_law_by", "_law_lot", "_law_found", "_law_k", "_law_tail"] ["_law_pen_here", "_law_many"] (defScope s__law_names) := ⟨rfl, rfl, rfl, by decide +kernel, rfl, by decide +kernel, by decide +kernel⟩
theorem ok__law_names {f : Addr} {fd : FuncData} (F : Fun K "_law_names" "_law_names" s__law_names f fd) (m_len : mg "len" = none) (m_range : mg "range" = none) (c__law_draw : C8.Cal P w K mg base 1 "_law_draw" spDraw []) : FnOk P w K mg base CX0 2 f fd ["_law_pen_here", "_law_many"] spNames := by
  refine F.ok sc__law_names (fun vs H Q E h => ?_) (fun cdv A outer s H vs Q E hr h => ?_)
  · obtain ⟨p, c, b, many, rfl, _⟩ := h; rfl
  · obtain ⟨p, c, b, many, rfl, pen, hb, m0, m1, k⟩ := h
    have hu := hu_of hr
    refine ⟨_, (pss_cons (ps_set (i := 2) sc__law_names.nd rfl (Or.inr rfl) pe_str)
      (pss_cons (ps_set (i := 3) sc__law_names.nd rfl (Or.inl rfl) (pe_join pe_str (pe_lc (own := [("_law_k", 9)]) (g := gName 9) (tt := tYes) rfl sc__law_names.nd (pi_range1 rfl m_range (pa_cons (pe_op op_add pe_int (C8.pe_c c__law_draw hr (by decide) rfl (pa_cons (pv 0) (pa_cons pe_int pa_nil)))) pa_nil)) (blkOk_by (own := [("_law_k", 9)]) (N := ["_law_pen_here", "_law_many", "_law_letters", "_law_word", "_law_at", "_law_first", "_law_by", "_law_lot", "_law_found", "_law_k", "_law_tail"]) (sc := defScope s__law_names) (by decide +kernel)) (fun _ _ _ _ _ => pg_name (i := 9) sc__law_names.nd rfl (Or.inl rfl)) (fun _ _ _ _ _ => pts_nil) (fun _ _ _ _ _ => (pe_ix ix_str (pv 2) (C8.pe_c c__law_draw hr (by decide) rfl (pa_cons (pv 0) (pa_cons pe_int pa_nil))) (fun _ _ => rfl))))))
      (pss_cons (ps_set (i := 4) sc__law_names.nd rfl (Or.inl rfl) (C8.pe_c c__law_draw hr (by decide) rfl (pa_cons (pv 0) (pa_cons (pe_callB call_len_str (by rfl) m_len (by decide +kernel) (pa_cons (pv 3) pa_nil)) pa_nil))))
      (pss_cons (ps_par (i := 5) (j := 6) rfl sc__law_names.nd rfl rfl (by decide) rfl rfl (pa_cons (C8.pe_c c__law_draw hr (by decide) rfl (pa_cons (pv 0) (pa_cons pe_int pa_nil))) (pa_cons (pe_ix ix_list (pe_lst (pa_cons pe_int (pa_cons pe_int (pa_cons pe_int (pa_cons pe_int (pa_cons pe_int (pa_cons pe_int pa_nil))))))) (C8.pe_c c__law_draw hr (by decide) rfl (pa_cons (pv 0) (pa_cons pe_int pa_nil))) (fun _ _ => rfl)) pa_nil)) (by rfl))
      (pss_cons (ps_par (i := 7) (j := 8) rfl sc__law_names.nd rfl rfl (by decide) rfl rfl (pa_cons (pe_bmS PySem.F.plainAttrs_str PySem.F.slot_str_index PySem.F.type_str_index (mt_indexX rfl takes_never) (pv 2) (pa_cons (pe_ix ix_str (pv 3) (pv 4) (fun _ _ => rfl)) pa_nil)) (pa_cons (pe_lst pa_nil) pa_nil)) (by rfl))
      (pss_cons (ps_for PassesOwn.never rfl (pi_range1 rfl m_range (pa_cons (pv 1) pa_nil)) (pg_name (i := 9) sc__law_names.nd rfl (Or.inl rfl))
      (pss_cons (ps_set (i := 10) sc__law_names.nd rfl (Or.inl rfl) (pe_slice sl_str (pe_slice sl_str (pv 3) (po_some (pe_op op_add (pv 4) pe_int)) po_none) po_none (po_some (pe_ix ix_list (pe_lst (pa_cons pe_int (pa_cons (pe_op op_mod (pv 9) pe_int) pa_nil))) (pe_op op_mod (pv 7) pe_int) (fun _ _ => rfl)))))
      (pss_one (ps_expr (pe_bm PySem.F.plainAttrs_list PySem.F.slot_list_append PySem.F.type_list_append mt_append (pv 8) (pa_cons (pe_op op_add_str (pe_op op_add_str (pe_slice sl_str (pv 3) po_none (po_some (pv 4))) (pe_ix ix_str (pv 2) (pe_op op_mod (pe_op op_add (pv 5) (pe_op op_mul (pv 6) (pv 9))) pe_int) (fun _ _ => rfl))) (pv 10)) pa_nil))))))
      (pss_cons (ps_if (PW.pt (pw_and (pt_cmpR op_gt (pv 4) pe_int (nomark _)) (pw_and (pt_cmpR op_gt (pv 1) pe_int (nomark _)) (pw_and1 (pt_cmpR op_eq (pe_op op_mod (pe_op op_fdiv (pv 7) pe_int) pe_int) pe_int (nomark _)))))) (pss_one (ps_asg (pe_slice sl_str (pv 3) po_none (po_some (pv 4))) (pg_sub (pv 8) (pe_op op_mod (pe_op op_fdiv (pv 7) pe_int) (pv 1)) set_list))) pss_nil)
      (pss_one (ps_ret (pv 8)))))))))), ?_⟩
    -- the word
    refine ⟨⟨_, rfl⟩, _, rfl, p, c, b, 12, rfl, pen, by omega, by decide, by decide, fun H1 r1 k1 pen1 r10 r11 => ?_⟩
    refine ⟨_, _, rfl, rfl, _, rfl, by omega, by omega, fun D hD => ?_⟩
    have nD := pen1.off hD
    refine lc_range (lo := 0) (n := (1 + r1).toNat) (fun i H' => Kp p H1 H' ∧ Pen H' p c (b + 1 + i) ∧ ∃ ss : List Str, H' D = some (.lst (ss.map V.str)) ∧ ss.length = i ∧ One ss)
      ⟨Kp.new hD, (pen1.put nD).up (by omega), [], upd_same, rfl, fun s hs => by cases hs⟩ ?_ ?_
    · rintro i H2 hi ⟨k2, pen2, ss, hs, hl, ho⟩
      refine ⟨rfl, _, rfl, _, rfl, p, c, _, 26, rfl, pen2, by omega, by decide, by decide, fun H3 r3 k3 pen3 r30 r31 => ?_⟩
      refine ⟨_, _, _, rfl, rfl, by decide, letter_at r30 r31, _, k3 _ _ nD.1 hs, by rw [List.length_map, hl]; exact small1000 (by omega), ?_⟩
      refine ⟨fun a o na e => ?_, (pen3.put nD).up (by omega), ss ++ [⟨#[r3.toNat + 97]⟩], by rw [upd_same, List.map_append]; rfl, by rw [List.length_append, hl]; rfl, fun s hs => ?_⟩
      · rw [upd_ne (ne_of_none e hD)]
        exact k3 _ _ na (k2 _ _ na e)
      · rcases List.mem_append.mp hs with h | h
        · exact ho s h
        · rw [List.mem_singleton] at h
          subst h
          exact ⟨_, rfl, by omega, by omega⟩
    · rintro H2 ⟨k2, pen2, ss, hs, hl, ho⟩
      obtain ⟨hwl, hwc⟩ := ho.word
      have hw12 : (tl (Txt.join "" ss)).length ≤ 12 := by rw [hwl]; omega
      have hw1 : 1 ≤ (tl (Txt.join "" ss)).length := by rw [hwl]; omega
      refine ⟨_, D, ss, rfl, rfl, .inl (SqL.of hs), ?_, ?_⟩
      · rw [ho.sum, show ("" : Str).length = 0 from rfl]; omega
      generalize Txt.join "" ss = W at hw12 hw1 hwc
      have k02 : Kp p H H2 := k1.trans k2
      -- _law_at
      refine ⟨_, rfl, _, rfl, _, rfl, Nat.le_trans (Nat.le_of_eq (slen W)) (Nat.le_trans hw12 (by decide)), p, c, _, _, rfl, pen2, by omega, by rw [slen]; omega, by rw [slen]; omega, fun H3 at_ k3 pen3 a0 a1 => ?_⟩
      rw [slen] at a1
      -- _law_first, _law_by
      refine ⟨_, rfl, p, c, _, 26, rfl, pen3, by omega, by decide, by decide, fun H4 first k4 pen4 f0 f1 => ?_⟩
      refine ⟨by show 6 ≤ sizeLine; decide, fun L hL => ?_⟩
      refine ⟨_, rfl, p, c, _, 6, rfl, pen4.put (pen4.off hL), by omega, by decide, by decide, fun H5 r5 k5 pen5 r50 r51 => ?_⟩
      obtain ⟨by_, eb, b0, b1⟩ := six_at r50 r51
      have nL := pen4.off hL
      refine ⟨L, _, _, _, rfl, rfl, SqL.of (k5 _ _ nL.1 upd_same), eb, _, _, rfl, ?_⟩
      have k05 : Kp p H H5 := k02.trans (k3.trans (k4.trans ((Kp.new hL).trans k5)))
      -- _law_lot, _law_found
      obtain ⟨ch, ec, ech⟩ := atI_in (xs := tl W) a0 (by omega)
      have hch := hwc ch (List.mem_of_getElem? ech)
      refine ⟨_, rfl, rfl, _, rfl, _, rfl, _, _, _, rfl, rfl, Nat.le_trans (Nat.le_of_eq (slen W)) (Nat.le_trans hw12 (by decide)), ec, _, _, rfl, rfl, fun lot elot => ?_, fun z => by rw [index_letter hch] at z; cases z⟩
      rw [index_letter hch] at elot
      cases elot
      refine ⟨Nat.zero_le _, fun F hF => ?_⟩
      refine ⟨_, _, rfl, ?_⟩
      have nF := pen5.off hF
      have hF0 : H F = none := k05.free nF.1 hF
      -- for _law_k in range(_law_many)
      have hlW : Lt (tl W) := hwc
      refine ⟨_, rfl, _, rfl, by omega, by omega, for_range (lo := 0) (n := many.toNat) (fun i σ' H' => ∃ (v9 v10 : Option V) (ss : List Str), σ' = [some (.ref p), some (.int many), some (.str letters), some (.str W), some (.int at_), some (.int first), some (.int by_), some (.int ((ch - 97 : Nat) : Int)), some (.ref F), v9, v10] ∧
          Kp p H5 H' ∧ Pen H' p c (b + 16) ∧ H' F = some (.lst (ss.map V.str)) ∧ ss.length = i ∧ ∀ s ∈ ss, IsW s)
        ⟨none, none, [], rfl, Kp.new hF, (pen5.put nF).up (by omega), upd_same, rfl, fun s hs => by cases hs⟩ ?_ ?_⟩
      · rintro i σ6 H6 hi ⟨v9, v10, ss, rfl, k6, pen6, hs, hl, hw⟩
        -- _law_tail
        refine ⟨_, rfl, _, rfl, _, _, rfl, rfl, _, rfl, _, rfl, Nat.le_trans (Nat.le_of_eq (slen W)) (Nat.le_trans hw12 (by decide)), ?_⟩
        refine ⟨_, rfl, _, _, rfl, rfl, (by show (0 : Int) < 4; decide), by show 2 ≤ sizeLine; decide, fun L2_ hL2 => ?_⟩
        have q2 := mod_lt (x := ((ch - 97 : Nat) : Int)) (m := 2) (by decide)
        obtain ⟨e, ee⟩ : ∃ e : Int, atI [V.int 12, V.int ((0 + (i : Int)) % 4)] (((ch - 97 : Nat) : Int) % 2) = some (.int e) := by
          obtain ⟨v, e, h | h⟩ := two_at (V.int 12) (V.int ((0 + (i : Int)) % 4)) q2.1 q2.2
          · exact ⟨_, by rw [e, h]⟩
          · exact ⟨_, by rw [e, h]⟩
        refine ⟨_, rfl, _, _, rfl, rfl, (by show (0 : Int) < 2; decide), L2_, _, _, _, rfl, rfl, SqL.of upd_same, ee, _, rfl, _, rfl, ?_, ?_⟩
        · have h1 := len_cut W (some (at_ + 1)) none
          rw [slen]; exact Nat.le_trans h1 (Nat.le_trans hw12 (by decide))
        have hc0 : ∀ q : Str, (tl q).length ≤ 12 → q.length ≤ sizeLine := fun q hq => by rw [slen]; exact Nat.le_trans hq (by decide)
        have nL2 := pen6.off hL2
        -- found.append(word[:at] + letter + tail)
        have qm := mod_lt (x := first + by_ * (0 + (i : Int))) (m := 26) (by decide)
        have ht1 : (tl (cutS W (some (at_ + 1)) none)).length ≤ (tl W).length - (at_.toNat + 1) := by
          rw [tl_cut, List.length_take, List.length_drop]
          have : HT.sIx W.length 0 (some (at_ + 1)) = min (at_.toNat + 1) W.length := by
            rw [show (some (at_ + 1)) = some (((at_.toNat + 1 : Nat)) : Int) by rw [Int.natCast_add, Int.toNat_of_nonneg a0]; rfl, HT.sIx_nat]
          rw [this, slen]; omega
        have ht2 := len_cut (cutS W (some (at_ + 1)) none) none (some e)
        have ht0 : (tl (cutS W none (some at_))).length = at_.toNat := by
          rw [tl_cut, List.length_take, List.length_drop]
          have : HT.sIx W.length W.length (some at_) = min at_.toNat W.length := by
            rw [show (some at_) = some (((at_.toNat : Nat)) : Int) by rw [Int.toNat_of_nonneg a0], HT.sIx_nat]
          rw [this, HT.sIx_none, slen]; omega
        have hF6 : upd H6 L2_ (HO.lst [V.int 12, V.int ((0 + (i : Int)) % 4)]) F = some (.lst (ss.map V.str)) := by
          rw [upd_ne (ne_of_none hs hL2)]; exact hs
        refine ⟨_, rfl, .inl ⟨rfl, _, SqL.of hF6⟩, _, rfl, _, rfl, _, rfl, _, rfl, hc0 _ hw12, _, rfl, _, rfl, _, rfl, _, rfl, _, _, rfl, rfl, .inr (by constructor <;> omega), _, _, rfl, rfl, _, _, rfl, rfl, (by show (0 : Int) < 26; decide), _, _, _, rfl, rfl, by decide, letter_at qm.1 qm.2, ?_⟩
        have l1 : (tl (⟨#[((first + by_ * (0 + (i : Int))) % 26).toNat + 97]⟩ : Str)).length = 1 := rfl
        refine ⟨_, _, rfl, rfl, by rw [slen, slen, ht0, l1]; exact Nat.le_trans (Nat.add_le_add_right (by omega : at_.toNat ≤ 12) 1) (by decide), ?_⟩
        have e2 : ∀ x y : Str, (tl (x ++ y)).length = (tl x).length + (tl y).length := fun x y => by rw [show tl (x ++ y) = tl x ++ tl y from TL.tl_append x y, List.length_append]
        have ltot : (tl (cutS W none (some at_) ++ (⟨#[((first + by_ * (0 + (i : Int))) % 26).toNat + 97]⟩ : Str) ++ cutS (cutS W (some (at_ + 1)) none) none (some e))).length ≤ 12 ∧ 1 ≤ (tl (cutS W none (some at_) ++ (⟨#[((first + by_ * (0 + (i : Int))) % 26).toNat + 97]⟩ : Str) ++ cutS (cutS W (some (at_ + 1)) none) none (some e))).length := by
          rw [e2, e2, ht0, l1]; omega
        refine ⟨_, rfl, _, _, rfl, rfl, by rw [e2, e2, ht0, l1] at ltot; rw [slen, slen, e2, ht0, l1]; exact Nat.le_trans (by omega : _ ≤ 12) (by decide), F, _, _, rfl, rfl, hF6, by rw [List.length_map, hl]; exact small1000 (by omega), ?_⟩
        refine ⟨_, _, ss ++ [cutS W none (some at_) ++ (⟨#[((first + by_ * (0 + (i : Int))) % 26).toNat + 97]⟩ : Str) ++ cutS (cutS W (some (at_ + 1)) none) none (some e)], rfl, fun a o na ea => ?_, ((pen6.put nL2).put nF), by rw [upd_same, List.map_append]; rfl, by rw [List.length_append, hl]; rfl, fun s hs' => ?_⟩
        · rw [upd_ne (ne_of_none ea hF), upd_ne (ne_of_none (k6 _ _ na ea) hL2)]
          exact k6 _ _ na ea
        · rcases List.mem_append.mp hs' with h | h
          · exact hw s h
          · rw [List.mem_singleton] at h
            subst h
            refine ⟨ltot.2, ltot.1, ?_⟩
            rw [show ∀ x y : Str, tl (x ++ y) = tl x ++ tl y from TL.tl_append, show ∀ x y : Str, tl (x ++ y) = tl x ++ tl y from TL.tl_append]
            refine Lt.app (Lt.app (hlW.cut _ _) (fun d hd => ?_)) ((hlW.cut _ _).cut _ _)
            have hd' : d ∈ [((first + by_ * (0 + (i : Int))) % 26).toNat + 97] := hd
            rw [List.mem_singleton] at hd'; subst hd'
            omega
      · rintro σ6 H6 ⟨v9, v10, ss, rfl, k6, pen6, hs, hl, hw⟩
        -- if _law_at > 0 and _law_many > 0 and ..
        have fin : ∀ (H7 : Hp) (ss' : List Str), Kp p H5 H7 → Pen H7 p c (b + 16) → H7 F = some (.lst (ss'.map V.str)) → ss'.length = many.toNat → (∀ s ∈ ss', IsW s) → Q (.ref F) H7 := fun H7 ss' k7 pen7 hs7 hl7 hw7 =>
          k H7 F ss' (k05.trans k7) pen7 hF0 hs7 hl7 hw7
        have keepF : Q (.ref F) H6 := fin H6 ss k6 pen6 hs hl hw
        refine ⟨_, rfl, _, _, rfl, rfl, _, rfl, ite2 (fun h1 => ?_) (fun h1 => ?_)⟩
        · refine ⟨_, rfl, _, _, rfl, rfl, _, rfl, ite2 (fun h2 => ?_) (fun h2 => ?_)⟩
          · refine ⟨_, rfl, _, _, rfl, rfl, (by constructor <;> decide), _, _, rfl, rfl, (by show (0 : Int) < 3; decide), rfl, _, rfl, ite2 (fun h3 => ?_) (fun h3 => ?_)⟩
            · have hp2 : 0 < many := of_decide_eq_true h2
              have hp1 : 0 < at_ := of_decide_eq_true h1
              have qx := mod_lt (x := ((ch - 97 : Nat) : Int) / 6) (m := many) hp2
              have hix : ixN (ss.map V.str).length (((ch - 97 : Nat) : Int) / 6 % many) = some (((ch - 97 : Nat) : Int) / 6 % many).toNat := by
                unfold ixN; rw [if_pos qx.1, if_pos (by rw [List.length_map, hl]; omega)]
              refine ⟨_, rfl, _, rfl, _, rfl, _, rfl, by rw [slen]; exact Nat.le_trans hw12 (by decide), _, rfl, _, rfl, _, _, rfl, rfl, (by constructor <;> decide), _, rfl, _, _, rfl, rfl, hp2, F, _, _, _, rfl, rfl, hs, hix, ?_⟩
              have ht0 : (tl (cutS W none (some at_))).length = at_.toNat := by
                rw [tl_cut, List.length_take, List.length_drop]
                have : HT.sIx W.length W.length (some at_) = min at_.toNat W.length := by
                  rw [show (some at_) = some (((at_.toNat : Nat)) : Int) by rw [Int.toNat_of_nonneg a0], HT.sIx_nat]
                rw [this, HT.sIx_none, slen]; omega
              refine ⟨_, rfl, fin _ (ss.set (((ch - 97 : Nat) : Int) / 6 % many).toNat (cutS W none (some at_))) (fun a o na ea => ?_) (pen6.put nF) (by rw [upd_same, List.map_set]) (by rw [List.length_set, hl]) (fun s hs' => ?_)⟩
              · rw [upd_ne (ne_of_none ea hF)]
                exact k6 _ _ na ea
              · rcases List.mem_or_eq_of_mem_set hs' with h | h
                · exact hw s h
                · subst h
                  exact ⟨by omega, by omega, hlW.cut _ _⟩
            · exact ⟨_, rfl, keepF⟩
          · exact ⟨_, rfl, keepF⟩
        · exact ⟨_, rfl, keepF⟩
end
end KN

set_option Elab.async false
set_option linter.all false
set_option maxRecDepth 100000
set_option maxHeartbeats 4000000
namespace KN
open PySem L2
theorem three_at {r : Int} (x y z : Int) (h : 0 ≤ r) (k : r < 3) : ∃ v, atI [V.int x, V.int y, V.int z] r = some (.int v) ∧ (v = x ∨ v = y ∨ v = z) := by
  have : r = 0 ∨ r = 1 ∨ r = 2 := by omega
  rcases this with rfl | rfl | rfl
  · exact ⟨_, rfl, .inl rfl⟩
  · exact ⟨_, rfl, .inr (.inl rfl)⟩
  · exact ⟨_, rfl, .inr (.inr rfl)⟩

def spMoments : Sp := fun vs H Q _ => ∃ (p c : Addr) (b many : Int), vs = [.ref p, .int many] ∧ Pen H p c b ∧ b ≤ 1000000000 ∧ 0 ≤ many ∧ many ≤ 100 ∧
  ∀ (H' : Hp) (l : Addr) (ms : List Mo), Kp p H H' → Pen H' p c (b + 2 + 3 * many) → H l = none → Ls H' l (ms.map mD) → ms.length = many.toNat → ms.Pairwise mLt → (∀ m ∈ ms, MoOk m) → Q (.ref l) H'

section
variable {P : Program} {w : World} {K : PySem.W.Frag} {mg : Str → Option Value} {base : Heap}
abbrev s__law_moments : Stmt := top 37
theorem sc__law_moments : FnScope ["_law_pen_here", "_law_many", "_law_found", "_law_date", "_law_leaf", "_law_k", "_law_step"] ["_law_pen_here", "_law_many"] (defScope s__law_moments) := ⟨rfl, rfl, rfl, by decide +kernel, rfl, by decide +kernel, by decide +kernel⟩
theorem ok__law_moments {f : Addr} {fd : FuncData} (F : Fun K "_law_moments" "_law_moments" s__law_moments f fd) (m_range : mg "range" = none) (c__law_draw : C8.Cal P w K mg base 1 "_law_draw" spDraw []) : FnOk P w K mg base CX0 2 f fd ["_law_pen_here", "_law_many"] spMoments := by
  refine F.ok sc__law_moments (fun vs H Q E h => ?_) (fun cdv A outer s H vs Q E hr h => ?_)
  · obtain ⟨p, c, b, many, rfl, _⟩ := h; rfl
  · obtain ⟨p, c, b, many, rfl, pen, hb, m0, m1, k⟩ := h
    have hu := hu_of hr
    refine ⟨_, (pss_cons (ps_set (i := 2) sc__law_moments.nd rfl (Or.inl rfl) (pe_lst pa_nil))
      (pss_cons (ps_par (i := 3) (j := 4) rfl sc__law_moments.nd rfl rfl (by decide) rfl rfl (pa_cons (C8.pe_c c__law_draw hr (by decide) rfl (pa_cons (pv 0) (pa_cons pe_int pa_nil))) (pa_cons (pe_op op_add pe_int (C8.pe_c c__law_draw hr (by decide) rfl (pa_cons (pv 0) (pa_cons pe_int pa_nil)))) pa_nil)) (by rfl))
      (pss_cons (ps_for PassesOwn.never rfl (pi_range1 rfl m_range (pa_cons (pv 1) pa_nil)) (pg_name (i := 5) sc__law_moments.nd rfl (Or.inl rfl))
      (pss_cons (ps_expr (pe_bm PySem.F.plainAttrs_list PySem.F.slot_list_append PySem.F.type_list_append mt_append (pv 2) (pa_cons (pe_tup (pa_cons (pv 3) (pa_cons (pv 4) pa_nil))) pa_nil)))
      (pss_cons (ps_set (i := 6) sc__law_moments.nd rfl (Or.inl rfl) (pe_ix ix_list (pe_lst (pa_cons pe_int (pa_cons pe_int (pa_cons (C8.pe_c c__law_draw hr (by decide) rfl (pa_cons (pv 0) (pa_cons pe_int pa_nil))) pa_nil)))) (C8.pe_c c__law_draw hr (by decide) rfl (pa_cons (pv 0) (pa_cons pe_int pa_nil))) (fun _ _ => rfl)))
      (pss_cons (ps_set (i := 4) sc__law_moments.nd rfl (Or.inl rfl) (pe_ifExp (pt_cmpR op_eq (pv 6) pe_int (nomark _)) (pe_op op_add (pe_op op_add (pv 4) pe_int) (C8.pe_c c__law_draw hr (by decide) rfl (pa_cons (pv 0) (pa_cons pe_int pa_nil)))) (pe_op op_add pe_int (C8.pe_c c__law_draw hr (by decide) rfl (pa_cons (pv 0) (pa_cons pe_int pa_nil))))))
      (pss_one (ps_set (i := 3) sc__law_moments.nd rfl (Or.inl rfl) (pe_op op_add (pv 3) (pv 6))))))))
      (pss_one (ps_ret (pv 2)))))), ?_⟩
    refine ⟨Nat.zero_le _, fun F hF => ?_⟩
    have nF := pen.off hF
    refine ⟨_, rfl, p, c, b, 12, rfl, pen.put nF, by omega, by decide, by decide, fun H1 d0 k1 pen1 d00 d01 => ?_⟩
    refine ⟨_, rfl, p, c, _, 12, rfl, pen1, by omega, by decide, by decide, fun H2 f0 k2 pen2 f00 f01 => ?_⟩
    refine ⟨_, _, rfl, rfl, _, _, rfl, ?_⟩
    have k02 : Kp p (upd H F (.lst [])) H2 := k1.trans k2
    have hF2 : H2 F = some (.lst []) := k02 _ _ nF.1 upd_same
    refine ⟨_, rfl, _, rfl, by omega, by omega, for_range (lo := 0) (n := many.toNat) (fun i σ' H' => ∃ (d l : Int) (v5 v6 : Option V) (ms : List Mo), σ' = [some (.ref p), some (.int many), some (.ref F), some (.int d), some (.int l), v5, v6] ∧
        (∀ a o, a ≠ p → a ≠ F → H2 a = some o → H' a = some o) ∧ Pen H' p c (b + 2 + 3 * i) ∧ Ls H' F (ms.map mD) ∧ ms.length = i ∧ ms.Pairwise mLt ∧ (∀ m ∈ ms, MoOk m) ∧ (∀ m ∈ ms, mLt m (d, l)) ∧
        0 ≤ d ∧ d ≤ 12 + 40 * i ∧ 1 ≤ l ∧ l ≤ 12 + 3 * i)
      ⟨d0, 1 + f0, none, none, [], rfl, fun a o _ _ e => e, pen2.up (by omega), ⟨_, hF2, .nil⟩, rfl, .nil, (fun m hm => by cases hm), (fun m hm => by cases hm), d00, by omega, by omega, by omega⟩ ?_ ?_⟩
    · rintro i σ3 H3 hi ⟨d, l, v5, v6, ms, rfl, k3, pen3, ⟨xs, hx, rx⟩, hl, hpw, hok, hlt, hd0, hd1, hl0, hl1⟩
      have hxl : xs.length = i := by rw [rx.len, List.length_map, hl]
      refine ⟨_, rfl, .inl ⟨rfl, _, SqL.of hx⟩, _, rfl, _, rfl, by show 2 ≤ sizeLine; decide, fun t ht => ?_⟩
      have nt := pen3.off ht
      have nFt : F ≠ t := ne_of_none hx ht
      refine ⟨F, _, _, rfl, rfl, by rw [upd_ne nFt]; exact hx, by rw [hxl]; exact small1000 (by omega), ?_⟩
      have pen4 : Pen (upd (upd H3 t (.tup [.int d, .int l])) F (.lst (xs ++ [.ref t]))) p c (b + 2 + 3 * i) := (pen3.put nt).put nF
      have tk4 : TK H3 (upd (upd H3 t (.tup [.int d, .int l])) F (.lst (xs ++ [.ref t]))) := (TK.new ht).trans (TK.put (u := .lst xs) (by rw [upd_ne nFt]; exact hx) (by intro z; exact nofun))
      -- _law_step
      refine ⟨_, rfl, p, c, _, 40, rfl, pen4, by omega, by decide, by decide, fun H5 r5 k5 pen5 r50 r51 => ?_⟩
      refine ⟨by show 3 ≤ sizeLine; decide, fun L hL => ?_⟩
      have nL := pen5.off hL
      refine ⟨_, rfl, p, c, _, 3, rfl, pen5.put nL, by omega, by decide, by decide, fun H6 r6 k6 pen6 r60 r61 => ?_⟩
      obtain ⟨st, est, hst⟩ := three_at 0 1 r5 r60 r61
      refine ⟨L, _, _, _, rfl, rfl, SqL.of (k6 _ _ nL.1 upd_same), est, ?_⟩
      have k46 : Kp p (upd (upd H3 t (.tup [.int d, .int l])) F (.lst (xs ++ [.ref t]))) H6 := k5.trans ((Kp.new hL).trans k6)
      have hF6 : H6 F = some (.lst (xs ++ [.ref t])) := k46 _ _ nF.1 upd_same
      have tk6 : TK H3 H6 := tk4.trans (pen4.tk k46)
      have ht6 : H6 t = some (.tup [.int d, .int l]) := k46 _ _ nt.1 (by rw [upd_ne nFt.symm, upd_same])
      have keep6 : ∀ a o, a ≠ p → a ≠ F → H2 a = some o → H6 a = some o := fun a o na nb e => by
        refine k46 _ _ na ?_
        have e3 := k3 a o na nb e
        rw [upd_ne nb, upd_ne (ne_of_none e3 ht)]; exact e3
      have ls6 : Ls H6 F ((ms ++ [(d, l)]).map mD) := ⟨_, hF6, by rw [List.map_append]; exact (rx.to tk6).snoc (Tp.mo (m := (d, l)) ht6)⟩
      have hst0 : 0 ≤ st ∧ st ≤ 40 := by omega
      have okm : ∀ m ∈ ms ++ [(d, l)], MoOk m := fun m hm => by
        rcases List.mem_append.mp hm with h | h
        · exact hok m h
        · rw [List.mem_singleton] at h; subst h
          unfold MoOk; simp only; omega
      have pwm : (ms ++ [(d, l)]).Pairwise mLt := List.pairwise_append.mpr ⟨hpw, List.pairwise_singleton _ _, fun a ha b hb => by
        rw [List.mem_singleton] at hb; subst hb; exact hlt a ha⟩
      have done : ∀ (H7 : Hp) (l' : Int), Kp p H6 H7 → Pen H7 p c (b + 2 + 3 * i + 3) → (mLt (d, l) (d + st, l')) → 1 ≤ l' → l' ≤ 12 + 3 * i + 3 →
          ∃ (d1 l1 : Int) (v5 v6 : Option V) (ms' : List Mo), ([some (.ref p), some (.int many), some (.ref F), some (.int (d + st)), some (.int l'), some (.int (0 + (i : Int))), some (.int st)] : List (Option V)) = [some (.ref p), some (.int many), some (.ref F), some (.int d1), some (.int l1), v5, v6] ∧
        (∀ a o, a ≠ p → a ≠ F → H2 a = some o → H7 a = some o) ∧ Pen H7 p c (b + 2 + 3 * ((i + 1 : Nat) : Int)) ∧ Ls H7 F (ms'.map mD) ∧ ms'.length = i + 1 ∧ ms'.Pairwise mLt ∧ (∀ m ∈ ms', MoOk m) ∧ (∀ m ∈ ms', mLt m (d1, l1)) ∧
        0 ≤ d1 ∧ d1 ≤ 12 + 40 * ((i + 1 : Nat) : Int) ∧ 1 ≤ l1 ∧ l1 ≤ 12 + 3 * ((i + 1 : Nat) : Int) := fun H7 l' k7 pen7 hm hl' hl'' => by
        refine ⟨_, _, _, _, ms ++ [(d, l)], rfl, fun a o na nb e => k7 _ _ na (keep6 a o na nb e), pen7.up (by omega), ?_, by rw [List.length_append, hl]; rfl, pwm, okm, fun m hm' => ?_, by omega, by omega, by omega, by omega⟩
        · obtain ⟨ys, e1, e2⟩ := ls6
          exact ⟨ys, k7 _ _ nF.1 e1, e2.to (pen6.tk k7)⟩
        · rcases List.mem_append.mp hm' with h | h
          · exact (hlt m h).trans hm
          · rw [List.mem_singleton] at h; subst h; exact hm
      refine ⟨_, rfl, rfl, _, rfl, ite2 (fun h0 => ?_) (fun h0 => ?_)⟩
      · have e0 : st = 0 := by have := of_decide_eq_true h0; injection this
        refine ⟨_, rfl, _, _, rfl, rfl, _, rfl, p, c, _, 3, rfl, pen6, by omega, by decide, by decide, fun H7 r7 k7 pen7 r70 r71 => ?_⟩
        refine ⟨_, _, rfl, rfl, _, rfl, _, rfl, _, _, rfl, rfl, ?_⟩
        exact done H7 _ k7 (pen7.up (by omega)) (by unfold mLt; simp only; omega) (by omega) (by omega)
      · have e0 : ¬ st = 0 := fun z => h0 (by rw [z]; rfl)
        refine ⟨_, rfl, p, c, _, 12, rfl, pen6, by omega, by decide, by decide, fun H7 r7 k7 pen7 r70 r71 => ?_⟩
        refine ⟨_, _, rfl, rfl, _, rfl, _, rfl, _, _, rfl, rfl, ?_⟩
        exact done H7 _ k7 (pen7.up (by omega)) (by unfold mLt; simp only; omega) (by omega) (by omega)
    · rintro σ3 H3 ⟨d, l, v5, v6, ms, rfl, k3, pen3, ls, hl, hpw, hok, hlt, hd0, hd1, hl0, hl1⟩
      refine ⟨_, rfl, k H3 F ms (fun a o na e => ?_) (pen3.up (by omega)) hF ls hl hpw hok⟩
      have e1 : upd H F (.lst []) a = some o := by rw [upd_ne (ne_of_none e hF)]; exact e
      exact k3 a o na (ne_of_none e hF) (k02 _ _ na e1)
end
end KN

set_option Elab.async false
set_option linter.all false
set_option maxRecDepth 100000
set_option maxHeartbeats 4000000
namespace KN
open PySem L2
def isWB (s : Str) : Bool := decide (1 ≤ s.length) && decide (s.length ≤ 12) && (tl s).all fun c => decide (c ∈ tl letters)
theorem mem_letters (c : Nat) : c ∈ tl letters ↔ 97 ≤ c ∧ c ≤ 122 := by
  rw [tl_letters, List.mem_map]
  constructor
  · rintro ⟨k, hk, rfl⟩
    rw [List.mem_range] at hk; omega
  · intro h
    exact ⟨c - 97, List.mem_range.mpr (by omega), by omega⟩
theorem isWB_iff {s : Str} : isWB s = true ↔ IsW s := by
  unfold isWB IsW Lt
  rw [Bool.and_eq_true, Bool.and_eq_true, decide_eq_true_iff, decide_eq_true_iff, List.all_eq_true, slen]
  constructor
  · rintro ⟨⟨h1, h2⟩, h3⟩
    exact ⟨h1, h2, fun c hc => (mem_letters c).mp (of_decide_eq_true (h3 c hc))⟩
  · rintro ⟨h1, h2, h3⟩
    exact ⟨⟨h1, h2⟩, fun c hc => decide_eq_true ((mem_letters c).mpr (h3 c hc))⟩

def spNumber (K : PySem.W.Frag) : Sp := fun vs H Q _ => ∃ (v : V) (lo hi : Int), vs = [v, .int lo, .int hi] ∧
  ((∃ i, v = .int i ∧ Q (.bl (decide (lo ≤ i) && decide (i ≤ hi))) H) ∨ (∃ b, v = .bl b ∧ Q (.bl false) H) ∨ ∃ t, TyX K H v t ∧ PySem.W.kitOne K t (.type "int") = some false ∧ Q (.bl false) H)
def spWord (K : PySem.W.Frag) : Sp := fun vs H Q _ => ∃ v : V, vs = [v] ∧
  ((∃ s, v = .str s ∧ s.length ≤ sizeLine ∧ ∀ H', Same H H' → Q (.bl (isWB s)) H') ∨ ∃ t, TyX K H v t ∧ PySem.W.kitOne K t (.type "str") = some false ∧ Q (.bl false) H)
def spMoment : Sp := fun vs H Q _ => ∃ (a : Addr) (m : Mo), vs = [.ref a] ∧ H a = some (.tup [.int m.1, .int m.2]) ∧ MoOk m ∧ Q (.bl true) H
def spList : Sp := fun vs H Q _ => ∃ a, vs = [.ref a] ∧ ((∃ xs, H a = some (.tup xs)) ∨ ∃ xs, H a = some (.lst xs)) ∧ ∀ H', Same H H' → Q (.bl true) H'
/-- one sheet in a tuple -/
def spSheets1 : Sp := fun vs H Q _ => ∃ (a : Addr) (s : Str), vs = [.ref a] ∧ H a = some (.tup [.str s]) ∧ IsW s ∧ ∀ H', Same H H' → Q (.bl true) H'
/-- up to a pair -/
def upB (m : Mo) : Option Mo → Bool
  | none => true
  | some u => decide (m.1 < u.1 ∨ m.1 = u.1 ∧ m.2 ≤ u.2)
def UpV (H : Hp) (v : V) : Option Mo → Prop
  | none => v = .non
  | some u => ∃ a, v = .ref a ∧ H a = some (.tup [.int u.1, .int u.2])
theorem UpV.to {H H' : Hp} {v : V} {u : Option Mo} (h : UpV H v u) (k : TK H H') : UpV H' v u := by
  cases u with
  | none => exact h
  | some u => obtain ⟨a, e, h⟩ := h; exact ⟨a, e, k _ _ h⟩
def spThere : Sp := fun vs H Q _ => ∃ (a : Addr) (m : Mo) (v : V) (u : Option Mo), vs = [.ref a, v] ∧ H a = some (.tup [.int m.1, .int m.2]) ∧ UpV H v u ∧ Q (.bl (upB m u)) H
/-- a new moment beside a dict by moments: nothing is raised -/
def spNew : Sp := fun vs H Q _ => ∃ (a d : Addr) (m : Mo) (kvs : List (List Key × V)), vs = [.ref a, .ref d] ∧ H a = some (.tup [.int m.1, .int m.2]) ∧ MoOk m ∧ H d = some (.dT kvs) ∧ valV kvs (mK m) = none ∧ Q .non H
def spMissing : Sp := fun vs H Q _ => ∃ (a d : Addr) (m : Mo) (kvs : List (List Key × V)), vs = [.ref a, .ref d] ∧ H a = some (.tup [.int m.1, .int m.2]) ∧ MoOk m ∧ H d = some (.dT kvs) ∧ (valV kvs (mK m)).isSome = true ∧ Q .non H
theorem lex2 (m u : Mo) : Ob.lexAt (fun j => decide (([m.1, m.2] : List Int).getD j 0 = ([u.1, u.2] : List Int).getD j 0)) (fun j => decide (([m.1, m.2] : List Int).getD j 0 ≤ ([u.1, u.2] : List Int).getD j 0)) (decide (([m.1, m.2] : List Int).length ≤ ([u.1, u.2] : List Int).length)) 0 (min ([m.1, m.2] : List Int).length ([u.1, u.2] : List Int).length) = decide (m.1 < u.1 ∨ m.1 = u.1 ∧ m.2 ≤ u.2) := by
  show Ob.lexAt _ _ _ 0 2 = _
  rw [Ob.lexAt_succ, Ob.lexAt_succ, Ob.lexAt_zero]
  simp only [List.getD_cons_zero, List.getD_cons_succ, List.length_cons, List.length_nil]
  by_cases h1 : m.1 = u.1
  · rw [decide_eq_true h1, if_pos rfl]
    by_cases h2 : m.2 = u.2
    · rw [decide_eq_true h2, if_pos rfl]
      rw [decide_eq_true (by omega : (0 + 1 + 1 ≤ 0 + 1 + 1))]
      exact (decide_eq_true (by omega)).symm
    · rw [decide_eq_false h2, if_neg (by decide)]
      by_cases h3 : m.2 ≤ u.2
      · rw [decide_eq_true h3]; exact (decide_eq_true (by omega)).symm
      · rw [decide_eq_false h3]; exact (decide_eq_false (by omega)).symm
  · rw [decide_eq_false h1, if_neg (by decide)]
    by_cases h3 : m.1 ≤ u.1
    · rw [decide_eq_true h3]; exact (decide_eq_true (by omega)).symm
    · rw [decide_eq_false h3]; exact (decide_eq_false (by omega)).symm

section
variable {P : Program} {w : World} {K : PySem.W.Frag} {mg : Str → Option Value} {base : Heap}
abbrev s_is_number : Stmt := top 19
theorem sc_is_number : FnScope ["thing", "low", "high"] ["thing", "low", "high"] (defScope s_is_number) := ⟨rfl, rfl, rfl, by decide +kernel, rfl, by decide +kernel, by decide +kernel⟩
theorem ok_is_number {f : Addr} {fd : FuncData} (F : Fun K "is_number" "is_number" s_is_number f fd) (m_isinstance : mg "isinstance" = none) (m_int : mg "int" = none) (m_bool : mg "bool" = none) : FnOk P w K mg base CX0 1 f fd ["thing", "low", "high"] (spNumber K) := by
  refine F.ok sc_is_number (fun vs H Q E h => ?_) (fun cdv A outer s H vs Q E hr h => ?_)
  · obtain ⟨v, lo, hi, rfl, _⟩ := h; rfl
  · obtain ⟨v, lo, hi, rfl, h⟩ := h
    refine ⟨_, (pss_one (ps_ret (pe_and (pe_callB call_isi (by rfl) m_isinstance (by decide +kernel) (pa_cons (pv 0) (pa_cons (pe_bltn (v := .ty "int") (u := .type "int") rfl m_int (by decide +kernel) rfl) pa_nil))) (pe_and (pe_not (pe_callB call_isi (by rfl) m_isinstance (by decide +kernel) (pa_cons (pv 0) (pa_cons (pe_bltn (v := .ty "bool") (u := .type "bool") rfl m_bool (by decide +kernel) rfl) pa_nil)))) (pe_one (pe_chain op_le op_le (pv 1) (pv 0) (pv 2))))))), ?_⟩
    rcases h with ⟨i, rfl, k⟩ | ⟨b, rfl, k⟩ | ⟨t, ht, hk, k⟩
    · refine ⟨_, rfl, _, _, _, _, true, rfl, .ty _, .base (.int _), kit_ty (by decide +kernel), _, rfl, iteT ?_⟩
      refine ⟨_, rfl, _, _, _, _, false, rfl, .ty _, .base (.int _), kit_ty (by decide +kernel), _, rfl, _, rfl, iteT ?_⟩
      refine ⟨_, rfl, _, rfl, _, _, rfl, rfl, _, rfl, ite2 (fun h1 => ?_) (fun h1 => ?_)⟩
      · refine ⟨_, rfl, _, _, rfl, rfl, ?_⟩
        rw [h1] at k; exact k
      · rw [Bool.eq_false_iff.mpr h1] at k; exact k
    · refine ⟨_, rfl, _, _, _, _, true, rfl, .ty _, .base (.bl _), kit_ty (by decide +kernel), _, rfl, iteT ?_⟩
      refine ⟨_, rfl, _, _, _, _, true, rfl, .ty _, .base (.bl _), kit_ty (by decide +kernel), _, rfl, _, rfl, iteF ?_⟩
      exact k
    · refine ⟨_, rfl, _, _, _, _, false, rfl, .ty _, ht, hk, _, rfl, iteF ?_⟩
      exact k
abbrev s_is_word : Stmt := top 20
theorem sc_is_word : FnScope ["thing", "sign"] ["thing"] (defScope s_is_word) := ⟨rfl, rfl, rfl, by decide +kernel, rfl, by decide +kernel, by decide +kernel⟩
theorem ok_is_word {f : Addr} {fd : FuncData} (F : Fun K "is_word" "is_word" s_is_word f fd) (m_isinstance : mg "isinstance" = none) (m_str : mg "str" = none) (m_len : mg "len" = none) (m_all : mg "all" = none)
    (g_MOST_LETTERS : ∃ u, mg "MOST_LETTERS" = some u ∧ RelV (.int 12) u) (g_LETTERS : ∃ u, mg "LETTERS" = some u ∧ RelV (.str letters) u) : FnOk P w K mg base CX0 1 f fd ["thing"] (spWord K) := by
  refine F.ok sc_is_word (fun vs H Q E h => ?_) (fun cdv A outer s H vs Q E hr h => ?_)
  · obtain ⟨v, rfl, _⟩ := h; rfl
  · obtain ⟨v, rfl, h⟩ := h
    refine ⟨_, (pss_cons (ps_if (PW.pt (pw_or (pt_not (pt_val (pe_callB call_isi (by rfl) m_isinstance (by decide +kernel) (pa_cons (pv 0) (pa_cons (pe_bltn (v := .ty "str") (u := .type "str") rfl m_str (by decide +kernel) rfl) pa_nil))))) (pw_or1 (pt_not (pt_chain op_le op_le pe_int (pe_callB call_len_str (by rfl) m_len (by decide +kernel) (pa_cons (pv 0) pa_nil)) (C8.pe_gc rfl g_MOST_LETTERS)))))) (pss_one (ps_ret pe_bl)) pss_nil)
      (pss_one (ps_ret (pe_callB (cr_all rfl) (by rfl) m_all (by decide +kernel) (pa_cons (pe_lc (own := [("sign", 1)]) (g := gName 1) (tt := tYes) rfl sc_is_word.nd (pi_str (pv 0)) (blkOk_by (own := [("sign", 1)]) (N := ["thing", "sign"]) (sc := defScope s_is_word) (by decide +kernel)) (fun _ _ _ _ _ => pg_name (i := 1) sc_is_word.nd rfl (Or.inl rfl)) (fun _ _ _ _ _ => pts_nil) (fun _ _ _ _ _ => (pe_cmpR op_in_sign (pv 1) (C8.pe_gc rfl g_LETTERS) rfl))) pa_nil))))), ?_⟩
    rcases h with ⟨z, rfl, hz, k⟩ | ⟨t, ht, hk, k⟩
    · refine ⟨_, rfl, _, _, _, _, true, rfl, .ty _, .base (.str _), kit_ty (by decide +kernel), _, rfl, iteF ?_⟩
      refine ⟨_, rfl, _, rfl, hz, _, _, rfl, rfl, _, rfl, ?_⟩
      have go : 1 ≤ z.length ∧ z.length ≤ 12 ∨ ¬ (1 ≤ z.length ∧ z.length ≤ 12) := Decidable.em _
      rcases go with h1 | h1
      · rw [decide_eq_true (by have := h1.1; omega : (1 : Int) ≤ (z.length : Int))]
        refine iteT ⟨_, _, rfl, rfl, _, rfl, ?_⟩
        rw [decide_eq_true (by have := h1.2; omega : (z.length : Int) ≤ 12)]
        refine iteF ?_
        -- all([..])
        refine ⟨_, rfl, _, rfl, fun D hD => ?_⟩
        refine lc_it walk_str (fun i H' => Same H H' ∧ ∃ bs : List Bool, H' D = some (.lst (bs.map V.bl)) ∧ bs = ((tl z).take i).map fun c => decide (c ∈ tl letters))
          ⟨Same.new hD, [], upd_same, by rw [List.take_zero]; rfl⟩ (fun _ _ _ _ => trivial) ?_ ?_
        · rintro i x H1 H2 hi ⟨s1, bs, e1, e2⟩ ⟨rfl, c, hc, rfl⟩
          have hc' : (tl z)[i]? = some c := by show z.cps.toList[i]? = _; rw [Array.getElem?_toList]; exact hc
          have hlen : bs.length ≤ 12 := by rw [e2, List.length_map]; exact Nat.le_trans (List.length_take_le' _ _) (by rw [← slen]; exact h1.2)
          refine ⟨rfl, _, rfl, c, _, rfl, rfl, _, e1, by rw [List.length_map]; exact small1000 (by omega), fun b o e => ?_, bs ++ [decide (c ∈ tl letters)], by rw [upd_same, List.map_append]; rfl, ?_⟩
          · rw [upd_ne (ne_of_none e hD)]; exact s1 _ _ e
          · rw [List.take_add_one, hc', e2, Option.toList_some, List.map_append]; rfl
        · rintro H1 ⟨s1, bs, e1, e2⟩
          refine ⟨D, bs, rfl, SqL.of e1, ?_⟩
          have e3 : bs.all id = isWB z := by
            rw [e2, show z.cps.size = (tl z).length from (Array.length_toList).symm, List.take_of_length_le (Nat.le_refl _), List.all_map]
            unfold isWB
            rw [decide_eq_true h1.1, decide_eq_true h1.2]; rfl
          rw [e3]; exact k _ s1
      · have e0 : isWB z = false := by
          unfold isWB
          rcases Nat.lt_or_ge z.length 1 with h | h
          · rw [decide_eq_false (by omega : ¬ 1 ≤ z.length)]; rfl
          · rw [decide_eq_false (fun q => h1 ⟨h, q⟩ : ¬ z.length ≤ 12), Bool.and_false]; rfl
        refine ite2 (fun h => ?_) (fun h => ?_)
        · have h' := of_decide_eq_true h
          refine ⟨_, _, rfl, rfl, _, rfl, ?_⟩
          rw [decide_eq_false (fun q => h1 ⟨by omega, by omega⟩ : ¬ (z.length : Int) ≤ 12)]
          refine iteT ?_
          have := k H (Same.refl H)
          rw [e0] at this; exact this
        · refine ⟨_, rfl, ?_⟩
          refine iteT ?_
          have := k H (Same.refl H)
          rw [e0] at this; exact this
    · refine ⟨_, rfl, _, _, _, _, false, rfl, .ty _, ht, hk, _, rfl, iteT ?_⟩
      exact iteT k
end
end KN

set_option Elab.async false
set_option linter.all false
set_option maxRecDepth 100000
set_option maxHeartbeats 4000000
namespace KN
open PySem L2
section
variable {P : Program} {w : World} {K : PySem.W.Frag} {mg : Str → Option Value} {base : Heap}
abbrev s_is_moment : Stmt := top 21
theorem sc_is_moment : FnScope ["thing"] ["thing"] (defScope s_is_moment) := ⟨rfl, rfl, rfl, by decide +kernel, rfl, by decide +kernel, by decide +kernel⟩
theorem ok_is_moment {f : Addr} {fd : FuncData} (F : Fun K "is_moment" "is_moment" s_is_moment f fd) (m_isinstance : mg "isinstance" = none) (m_tuple : mg "tuple" = none) (m_len : mg "len" = none)
    (g_MOST : ∃ u, mg "MOST" = some u ∧ RelV (.int 1000000000000) u) (c_is_number : C8.Cal P w K mg base 1 "is_number" (spNumber K) []) : FnOk P w K mg base CX0 2 f fd ["thing"] spMoment := by
  refine F.ok sc_is_moment (fun vs H Q E h => ?_) (fun cdv A outer s H vs Q E hr h => ?_)
  · obtain ⟨a, m, rfl, _⟩ := h; rfl
  · obtain ⟨a, m, rfl, ha, hm, k⟩ := h
    refine ⟨_, (pss_cons (ps_if (PW.pt (pw_or (pt_not (pt_val (pe_callB call_isi (by rfl) m_isinstance (by decide +kernel) (pa_cons (pv 0) (pa_cons (pe_bltn (v := .ty "tuple") (u := .type "tuple") rfl m_tuple (by decide +kernel) rfl) pa_nil))))) (pw_or1 (pt_cmpR op_ne (pe_callB call_len_seq (by rfl) m_len (by decide +kernel) (pa_cons (pv 0) pa_nil)) pe_int (nomark _))))) (pss_one (ps_ret pe_bl)) pss_nil)
      (pss_one (ps_ret (pe_and (C8.pe_c c_is_number hr (by decide) rfl (pa_cons (pe_ix ix_tup (pv 0) pe_int (fun _ _ => rfl)) (pa_cons pe_int (pa_cons (C8.pe_gc rfl g_MOST) pa_nil)))) (pe_one (C8.pe_c c_is_number hr (by decide) rfl (pa_cons (pe_ix ix_tup (pv 0) pe_int (fun _ _ => rfl)) (pa_cons pe_int (pa_cons (C8.pe_gc rfl g_MOST) pa_nil))))))))), ?_⟩
    unfold MoOk at hm
    refine ⟨_, rfl, _, _, _, _, true, rfl, .ty _, .base (.tup ha), kit_ty (by decide +kernel), _, rfl, iteF ?_⟩
    refine ⟨_, rfl, _, _, rfl, .inr (SqT.of ha), rfl, _, rfl, ?_⟩
    refine iteF ?_
    have go : ∀ i : Int, 0 ≤ i → i ≤ 1000000000000 → (decide ((0 : Int) ≤ i) && decide (i ≤ 1000000000000)) = true := fun i h1 h2 => by rw [decide_eq_true h1, decide_eq_true h2]; rfl
    have go1 : ∀ i : Int, 1 ≤ i → i ≤ 1000000000000 → (decide ((1 : Int) ≤ i) && decide (i ≤ 1000000000000)) = true := fun i h1 h2 => by rw [decide_eq_true h1, decide_eq_true h2]; rfl
    refine ⟨_, rfl, _, _, _, _, rfl, rfl, SqT.of ha, (by exact at_of (j := 0) rfl rfl), _, _, _, rfl, .inl ⟨_, rfl, ?_⟩⟩
    rw [go _ hm.1 (by omega)]
    refine ⟨_, rfl, iteT ?_⟩
    refine ⟨_, rfl, _, _, _, _, rfl, rfl, SqT.of ha, (by exact at_of (j := 1) rfl rfl), _, _, _, rfl, .inl ⟨_, rfl, ?_⟩⟩
    rw [go1 _ hm.2.2.1 (by omega)]
    exact k
abbrev s_is_list : Stmt := top 22
theorem sc_is_list : FnScope ["thing"] ["thing"] (defScope s_is_list) := ⟨rfl, rfl, rfl, by decide +kernel, rfl, by decide +kernel, by decide +kernel⟩
theorem ok_is_list {f : Addr} {fd : FuncData} (F : Fun K "is_list" "is_list" s_is_list f fd) (m_isinstance : mg "isinstance" = none) (m_tuple : mg "tuple" = none) (m_list : mg "list" = none) : FnOk P w K mg base CX0 1 f fd ["thing"] spList := by
  refine F.ok sc_is_list (fun vs H Q E h => ?_) (fun cdv A outer s H vs Q E hr h => ?_)
  · obtain ⟨a, rfl, _⟩ := h; rfl
  · obtain ⟨a, rfl, ha, k⟩ := h
    refine ⟨_, (pss_one (ps_ret (pe_callB call_isiT (by rfl) m_isinstance (by decide +kernel) (pa_cons (pv 0) (pa_cons (pe_tup (pa_cons (pe_bltn (v := .ty "list") (u := .type "list") rfl m_list (by decide +kernel) rfl) (pa_cons (pe_bltn (v := .ty "tuple") (u := .type "tuple") rfl m_tuple (by decide +kernel) rfl) pa_nil))) pa_nil))))), ?_⟩
    refine ⟨_, rfl, by show 2 ≤ sizeLine; decide, fun T hT => ?_⟩
    rcases ha with ⟨xs, ha⟩ | ⟨xs, ha⟩
    · refine ⟨_, T, _, _, _, true, rfl, upd_same, .cons (.ty _) (.cons (.ty _) .nil), .base (.tup (by rw [upd_ne (ne_of_none ha hT)]; exact ha)), kitAny_cons (kit_ty (b := "list") (r := false) (by decide +kernel)) (fun _ => kitAny_cons (kit_ty (b := "tuple") (r := true) (by decide +kernel)) (fun z => by cases z) fun _ => rfl) (fun z => by cases z), k _ (Same.new hT)⟩
    · refine ⟨_, T, _, _, _, true, rfl, upd_same, .cons (.ty _) (.cons (.ty _) .nil), .base (.lst (by rw [upd_ne (ne_of_none ha hT)]; exact ha)), kitAny_cons (kit_ty (b := "list") (r := true) (by decide +kernel)) (fun z => by cases z) (fun _ => rfl), k _ (Same.new hT)⟩
abbrev s_are_sheets : Stmt := top 23
theorem sc_are_sheets : FnScope ["thing", "sheet"] ["thing"] (defScope s_are_sheets) := ⟨rfl, rfl, rfl, by decide +kernel, rfl, by decide +kernel, by decide +kernel⟩
theorem ok_are_sheets {f : Addr} {fd : FuncData} (F : Fun K "are_sheets" "are_sheets" s_are_sheets f fd) (m_len : mg "len" = none) (m_set : mg "set" = none) (m_all : mg "all" = none)
    (c_is_list : C8.Cal P w K mg base 1 "is_list" spList []) (c_is_word : C8.Cal P w K mg base 1 "is_word" (spWord K) []) : FnOk P w K mg base CX0 2 f fd ["thing"] spSheets1 := by
  refine F.ok sc_are_sheets (fun vs H Q E h => ?_) (fun cdv A outer s H vs Q E hr h => ?_)
  · obtain ⟨a, z, rfl, _⟩ := h; rfl
  · obtain ⟨a, z, rfl, ha, hz, k⟩ := h
    refine ⟨_, (pss_cons (ps_if (PW.pt (pw_or (pt_not (pt_val (C8.pe_c c_is_list hr (by decide) rfl (pa_cons (pv 0) pa_nil)))) (pw_or (pt_cmpR op_eq (pe_callB call_len_seq (by rfl) m_len (by decide +kernel) (pa_cons (pv 0) pa_nil)) pe_int (nomark _)) (pw_or1 (pt_not (pt_val (pe_callB (cr_all rfl) (by rfl) m_all (by decide +kernel) (pa_cons (pe_lc (own := [("sheet", 1)]) (g := gName 1) (tt := tYes) rfl sc_are_sheets.nd (pi_tup (pv 0)) (blkOk_by (own := [("sheet", 1)]) (N := ["thing", "sheet"]) (sc := defScope s_are_sheets) (by decide +kernel)) (fun _ _ _ _ _ => pg_name (i := 1) sc_are_sheets.nd rfl (Or.inl rfl)) (fun _ _ _ _ _ => pts_nil) (fun _ _ _ _ _ => (C8.pe_c c_is_word hr (by decide) rfl (pa_cons (pv 1) pa_nil)))) pa_nil)))))))) (pss_one (ps_ret pe_bl)) pss_nil)
      (pss_one (ps_ret (pe_cmpR op_eq (pe_lenSet rfl rfl m_len rfl m_set (pv 0)) (pe_callB call_len_seq (by rfl) m_len (by decide +kernel) (pa_cons (pv 0) pa_nil)) (nomark _))))), ?_⟩
    refine ⟨_, rfl, a, rfl, .inl ⟨_, ha⟩, fun H1 s1 => ?_⟩
    refine ⟨_, rfl, iteF ?_⟩
    refine ⟨_, rfl, _, _, rfl, .inr (SqT.of (s1 _ _ ha)), rfl, _, rfl, iteF ?_⟩
    refine ⟨_, rfl, a, rfl, ⟨_, SqT.of (s1 _ _ ha)⟩, fun D hD => ?_⟩
    refine lc_tup (K := K) (a := a) (xs := [V.str z]) (fun i H' => Same H1 H' ∧ H' D = some (.lst (([true].take i).map V.bl)))
      ⟨Same.new hD, upd_same⟩ (fun i H' _ q => SqT.of (q.1 _ _ (s1 _ _ ha))) ?_ ?_
    · rintro i x H2 hi ⟨s2, e2⟩
      have e0 : i = 0 ∧ x = .str z := by
        cases i with
        | zero => exact ⟨rfl, (Option.some.inj hi).symm⟩
        | succ i => simp at hi
      obtain ⟨rfl, rfl⟩ := e0
      refine ⟨rfl, _, rfl, _, rfl, .inl ⟨z, rfl, by rw [slen]; exact Nat.le_trans hz.2.1 (by decide), fun H3 s3 => ?_⟩⟩
      rw [isWB_iff.mpr hz]
      refine ⟨_, s3 _ _ e2, by decide, fun b o e => ?_, upd_same⟩
      rw [upd_ne (ne_of_none e hD)]; exact s3 _ _ (s2 _ _ e)
    · rintro H2 ⟨s2, e2⟩
      refine ⟨D, [true], rfl, SqL.of e2, _, rfl, ?_⟩
      refine iteF ?_
      refine ⟨_, rfl, a, [z], rfl, .inr (SqT.of (s2 _ _ (s1 _ _ ha))), Nat.le_refl _, ?_⟩
      refine ⟨_, rfl, _, _, rfl, .inr (SqT.of (s2 _ _ (s1 _ _ ha))), rfl, ?_⟩
      exact k _ (s1.trans s2)
abbrev s_is_there : Stmt := top 25
theorem sc_is_there : FnScope ["moment", "upto"] ["moment", "upto"] (defScope s_is_there) := ⟨rfl, rfl, rfl, by decide +kernel, rfl, by decide +kernel, by decide +kernel⟩
theorem ok_is_there {f : Addr} {fd : FuncData} (F : Fun K "is_there" "is_there" s_is_there f fd) : FnOk P w K mg base CX0 1 f fd ["moment", "upto"] spThere := by
  refine F.ok sc_is_there (fun vs H Q E h => ?_) (fun cdv A outer s H vs Q E hr h => ?_)
  · obtain ⟨a, m, v, u, rfl, _⟩ := h; rfl
  · obtain ⟨a, m, v, u, rfl, ha, hu, k⟩ := h
    refine ⟨_, (pss_one (ps_ret (pe_or (pe_cmpR op_isN (pv 1) pe_non (nomark _)) (pe_one (pe_cmpR (op_leT hr.units0) (pv 0) (pv 1) (nomark _)))))), ?_⟩
    cases u with
    | none =>
      cases (show v = .non from hu)
      exact ⟨_, rfl, rfl, _, rfl, iteT k⟩
    | some u =>
      obtain ⟨b, rfl, hb⟩ := hu
      refine ⟨_, rfl, rfl, _, rfl, iteF ?_⟩
      refine ⟨_, rfl, _, rfl, a, b, [m.1, m.2], [u.1, u.2], rfl, rfl, SqT.of ha, SqT.of hb, ?_⟩
      rw [lex2]; exact k
abbrev s_refuse_new : Stmt := top 26
theorem sc_refuse_new : FnScope ["moment", "entries"] ["moment", "entries"] (defScope s_refuse_new) := ⟨rfl, rfl, rfl, by decide +kernel, rfl, by decide +kernel, by decide +kernel⟩
theorem ok_refuse_new {f : Addr} {fd : FuncData} (F : Fun K "refuse_new" "refuse_new" s_refuse_new f fd) (c_is_moment : C8.Cal P w K mg base 2 "is_moment" spMoment []) : FnOk P w K mg base CX0 3 f fd ["moment", "entries"] spNew := by
  refine F.ok sc_refuse_new (fun vs H Q E h => ?_) (fun cdv A outer s H vs Q E hr h => ?_)
  · obtain ⟨a, d, m, kvs, rfl, _⟩ := h; rfl
  · obtain ⟨a, d, m, kvs, rfl, ha, hm, hd, hn, k⟩ := h
    have hu := hu_of hr
    refine ⟨_, (pss_cons (ps_if (pt_not (pt_val (C8.pe_c c_is_moment hr (by decide) rfl (pa_cons (pv 0) pa_nil)))) (pss_one ps_never) pss_nil)
      (pss_one (ps_if (pt_cmp (pc_din hu (pv 0) (pv 1))) (pss_one ps_never) pss_nil))), ?_⟩
    refine ⟨_, rfl, a, m, rfl, ha, hm, _, rfl, iteF ?_⟩
    refine ⟨_, rfl, _, rfl, d, _, rfl, DGet.m hd ha, _, rfl, ?_⟩
    rw [hn]
    exact iteF k
abbrev s_refuse_missing : Stmt := top 27
theorem sc_refuse_missing : FnScope ["moment", "entries"] ["moment", "entries"] (defScope s_refuse_missing) := ⟨rfl, rfl, rfl, by decide +kernel, rfl, by decide +kernel, by decide +kernel⟩
theorem ok_refuse_missing {f : Addr} {fd : FuncData} (F : Fun K "refuse_missing" "refuse_missing" s_refuse_missing f fd) (c_is_moment : C8.Cal P w K mg base 2 "is_moment" spMoment []) : FnOk P w K mg base CX0 3 f fd ["moment", "entries"] spMissing := by
  refine F.ok sc_refuse_missing (fun vs H Q E h => ?_) (fun cdv A outer s H vs Q E hr h => ?_)
  · obtain ⟨a, d, m, kvs, rfl, _⟩ := h; rfl
  · obtain ⟨a, d, m, kvs, rfl, ha, hm, hd, hn, k⟩ := h
    have hu := hu_of hr
    refine ⟨_, (pss_one (ps_if (PW.pt (pw_or (pt_not (pt_val (C8.pe_c c_is_moment hr (by decide) rfl (pa_cons (pv 0) pa_nil)))) (pw_or1 (pt_cmp (pc_dnotin hu (pv 0) (pv 1)))))) (pss_one ps_never) pss_nil)), ?_⟩
    refine ⟨_, rfl, a, m, rfl, ha, hm, _, rfl, iteF ?_⟩
    refine ⟨_, rfl, _, rfl, d, _, rfl, DGet.m hd ha, _, rfl, ?_⟩
    rw [hn]
    exact iteF k
end
end KN

set_option Elab.async false
set_option linter.all false
set_option maxRecDepth 100000
set_option maxHeartbeats 4000000
namespace KN
open PySem PySem.Spec PyProof.Rows L2
/-! ### d.setdefault(t, x) by a tuple -/
def tSetdT (td ty tx : TE) : TE := fun σ H Q => td σ H fun x H1 => ∃ (a : Addr) (kvs0 : List (List Key × V)), x = .ref a ∧ H1 a = some (.dT kvs0) ∧ ty σ H1 fun y H2 => tx σ H2 fun z H3 => ∃ (kvs : List (List Key × V)) (k : List Key) (b : Addr), H3 a = some (.dT kvs) ∧ y = .ref b ∧ H3 b = some (.tup (k.map kV)) ∧ kvs.length < sizeLine ∧
  (∀ v, valV kvs k = some v → Q v H3) ∧ (valV kvs k = none → Q z (upd H3 a (.dT (putK kvs k z))))
theorem pe_setdT {X : Cx} {o e f : Expr} {td ty tx : TE} {apos cpos : Pos} (hu : X.A.units + 1 < cLine) (ho : PE X o td) (he : PE X e ty) (hf : PE X f tx) (m : M2 X o "setdefault" apos e f cpos) : PE X (.Call (.Attribute o "setdefault" apos) [e, f] [] cpos) (tSetdT td ty tx) := by
  refine ⟨fun pins s σ H Q I h => ?_⟩
  refine wpAny_Call_method m.base m.few m.line PySem.F.plainAttrs_dict PySem.F.slot_dict_setdefault PySem.F.type_dict_setdefault (thn (ho.run pins s σ H _ I h) fun u s1 ⟨x, H1, I1, rx, a, kvs0, ex, d, q1⟩ => ?_)
  subst ex
  obtain rfl : u = Value.ref a := rx
  obtain ⟨z0, lo0, xs0, rel0, dd0⟩ := dt_of I1.hok d
  refine ⟨dd0.typeIs, ?_, ?_⟩
  · obtain ⟨ob, es, ep, h1, h2, h3⟩ := dd0
    exact fun c e => by cases e; exact ⟨ob, h1, h2.2.1⟩
  rw [m.trees]
  refine Calls.callWith_builtin rfl (Calls.evalArgs_plain (Calls.spliced_cons (thn (he.run pins s1 σ H1 _ I1 q1) fun iv s2 ⟨y, H2, I2, ry, q2⟩ =>
    Calls.spliced_cons (thn (hf.run pins s2 σ H2 _ I2 q2) fun fv s3 ⟨z, H3, I3, rz, kvs, k, b, ea, ey, eb, hl, q3, q4⟩ => Calls.spliced_nil ?_))))
  subst ey
  obtain rfl : iv = Value.ref b := ry
  obtain ⟨zz, lo, xs, rel, dd⟩ := dt_of I3.hok ea
  have hxl : xs.length = kvs.length := (Paired.length rel).symm
  have r := rel.val k
  refine call_setdefault_heap (tupleKind_room_in1 hu) (key_of I3.hok eb) lo dd (fun p hp => ?_) (fun hno g dd' hs => ?_) (by omega)
  · rw [hp] at r
    cases ev : valV kvs k with
    | none => rw [ev] at r; exact (show False from r).elim
    | some v0 =>
      rw [ev] at r
      exact ⟨v0, H3, I3.tok _, r, q3 v0 ev⟩
  · have ev : valV kvs k = none := by
      cases ev : valV kvs k with
      | none => rfl
      | some v0 => rw [ev, hno] at r; exact (show False from r).elim
    obtain ⟨ob, es, ep, hq, h2, h3, h4, _, h5⟩ := dd'
    refine ⟨z, upd H3 a (.dT (putK kvs k z)), d_write (ob := .dT (putK kvs k z)) I3 (by rw [ea]; exact True.intro) hs ⟨ob, hq⟩ ⟨?_, lo, _, (KT.put rel k eb rz).keeps fun c ys ec => ?_, ob, es, ep, hq, h2, h3, h4, h5⟩, rz, q4 ev⟩
    · have := length_putK kvs k z; omega
    · rw [upd_ne (ne_of ec ea (fun z => nomatch z))]; exact ec
end KN
set_option Elab.async false
set_option linter.all false
set_option maxRecDepth 100000
set_option maxHeartbeats 4000000
namespace KN
open PySem L2
structure ChI (H0 H : Hp) (d wl : Addr) (ns ws : List Mo) (kvs : List (List Key × V)) : Prop where
  same : Same H0 H
  d0 : H0 d = none
  w0 : H0 wl = none
  dd : H d = some (.dT kvs)
  ks : kvs.map (·.1) = ns.map mK
  rows : ∀ q ∈ kvs, ∃ l xs, q.2 = .ref l ∧ H l = some (.lst xs) ∧ xs.length ≤ kvs.length ∧ l ≠ wl
  wt : Ls H wl (ws.map mD)
theorem ChI.to {H0 H H' : Hp} {d wl : Addr} {ns ws : List Mo} {kvs : List (List Key × V)} (I : ChI H0 H d wl ns ws kvs) (s : Same H H') : ChI H0 H' d wl ns ws kvs :=
  ⟨I.same.trans s, I.d0, I.w0, s _ _ I.dd, I.ks, fun q hq => let ⟨l, xs, h1, h2, h3, h4⟩ := I.rows q hq; ⟨l, xs, h1, s _ _ h2, h3, h4⟩, I.wt.to s⟩
/-- the ways on from each start, as far as the links are read -/
structure OnI (H0 H : Hp) (o : Addr) (ls : List Lnk) (okvs : List (List Key × V)) : Prop where
  same : Same H0 H
  o0 : H0 o = none
  od : H o = some (.dT okvs)
  rows : ∀ q ∈ okvs, ∃ (m : Mo) (l : Addr), q.1 = mK m ∧ q.2 = .ref l ∧ l ≠ o ∧ H0 l = none ∧ Ls H l ((ls.filter fun k => decide (k.2.1 = m)).map lD)
  nd : (okvs.map (·.2)).Nodup
  kd : (okvs.map (·.1)).Nodup
  all : ∀ m, valV okvs (mK m) = none → ∀ k ∈ ls, k.2.1 ≠ m
  len : okvs.length ≤ ls.length
/-- a link more among those of one start -/
theorem filt_app {ls : List Lnk} {l : Lnk} {m : Mo} : ((ls ++ [l]).filter fun k => decide (k.2.1 = m)) = (ls.filter fun k => decide (k.2.1 = m)) ++ (if l.2.1 = m then [l] else []) := by
  rw [List.filter_append]
  congr 1
  by_cases h : l.2.1 = m <;> simp [h]
structure BfsJ (ls : List Lnk) (s a : Mo) (La : List Lnk) (i : Nat) (ns ws : List Mo) : Prop where
  start : s ∈ ns
  sub : ∀ n ∈ ns, Rch ls s n
  wsub : ∀ n ∈ ws, n ∈ ns
  here : a ∈ ns
  clo : ∀ n ∈ ns, n ∉ ws → n ≠ a → ∀ l ∈ ls, l.2.1 = n → l.2.2 ∈ ns
  own : ∀ l ∈ La.take i, l.2.2 ∈ ns
theorem BfsJ.of {ls : List Lnk} {s a : Mo} {La : List Lnk} {ns ws : List Mo} (b : BfsI ls s a 0 ns ws) : BfsJ ls s a La 0 ns ws :=
  ⟨b.start, b.sub, b.wsub, b.here, b.clo, fun l h => by rw [List.take_zero] at h; cases h⟩
theorem BfsJ.done {ls : List Lnk} {s a : Mo} {La : List Lnk} {ns ws : List Mo} (b : BfsJ ls s a La La.length ns ws) (h : ∀ l ∈ ls, l.2.1 = a → l ∈ La) : Bfs ls s ns ws :=
  ⟨b.start, b.sub, b.wsub, fun n hn k l hl e => by
    by_cases q : n = a
    · exact b.own l (by rw [List.take_length]; exact h l hl (e.trans q))
    · exact b.clo n hn k q l hl e⟩
theorem BfsJ.skip {ls : List Lnk} {s a : Mo} {La : List Lnk} {i : Nat} {ns ws : List Mo} {l : Lnk} (b : BfsJ ls s a La i ns ws) (hl : La[i]? = some l) (h : l.2.2 ∈ ns) : BfsJ ls s a La (i + 1) ns ws :=
  ⟨b.start, b.sub, b.wsub, b.here, b.clo, fun k hk => by
    rw [List.take_add_one, hl] at hk
    rcases List.mem_append.mp hk with q | q
    · exact b.own k q
    · rw [Option.toList_some, List.mem_singleton] at q; subst q; exact h⟩
theorem BfsJ.add {ls : List Lnk} {s a : Mo} {La : List Lnk} {i : Nat} {ns ws : List Mo} {l : Lnk} (b : BfsJ ls s a La i ns ws) (hl : La[i]? = some l) (hin : l ∈ ls) (h : l.2.1 = a) : BfsJ ls s a La (i + 1) (ns ++ [l.2.2]) (ws ++ [l.2.2]) where
  start := List.mem_append_left _ b.start
  sub := fun n hn => by
    rcases List.mem_append.mp hn with q | q
    · exact b.sub n q
    · rw [List.mem_singleton] at q; subst q
      exact .step (b.sub a b.here) hin h
  wsub := fun n hn => by
    rcases List.mem_append.mp hn with q | q
    · exact List.mem_append_left _ (b.wsub n q)
    · exact List.mem_append_right _ q
  here := List.mem_append_left _ b.here
  clo := fun n hn hw ha k hk e => by
    rcases List.mem_append.mp hn with q | q
    · exact List.mem_append_left _ (b.clo n q (fun z => hw (List.mem_append_left _ z)) ha k hk e)
    · exact absurd (List.mem_append_right _ q) hw
  own := fun k hk => by
    rw [List.take_add_one, hl] at hk
    rcases List.mem_append.mp hk with q | q
    · exact List.mem_append_left _ (b.own k q)
    · rw [Option.toList_some, List.mem_singleton] at q; subst q; exact List.mem_append_right _ (List.mem_singleton.mpr rfl)
theorem val_row {kvs : List (List Key × V)} {k : List Key} {v : V} (h : valV kvs k = some v) : (k, v) ∈ kvs := valV_mem h
theorem OnI.add {H0 H : Hp} {o lx : Addr} {ls : List Lnk} {okvs : List (List Key × V)} (I : OnI H0 H o ls okvs) {l : Lnk} {xs : List V} {v : V} (hv : valV okvs (mK l.2.1) = some (.ref lx)) (hl : H lx = some (.lst xs)) (tv : Tp H v (lD l)) :
    OnI H0 (upd H lx (.lst (xs ++ [v]))) o (ls ++ [l]) okvs := by
  obtain ⟨m0, l0, e1, e2, n1, n0, ys, hys, ry⟩ := I.rows _ (val_row hv)
  cases e2
  have em : m0 = l.2.1 := (mK_inj e1).symm
  subst em
  rw [hl] at hys
  cases hys
  have tk : TK H (upd H lx (.lst (xs ++ [v]))) := TK.put hl (by intro z; exact nofun)
  refine ⟨fun b u e => by rw [upd_ne (ne_of_none e n0)]; exact I.same _ _ e, I.o0, by rw [upd_ne n1.symm]; exact I.od, fun q hq => ?_, I.nd, I.kd, fun m hm k hk => ?_, by rw [List.length_append]; have := I.len; omega⟩
  · obtain ⟨m, l', f1, f2, f3, f4, zs, hz, rz⟩ := I.rows q hq
    refine ⟨m, l', f1, f2, f3, f4, ?_⟩
    rw [filt_app]
    by_cases h : l.2.1 = m
    · subst h
      have : l' = lx := by
        have h1 : (mK l.2.1, V.ref l') ∈ okvs := by rw [← f1, ← f2]; exact hq
        have h2 := val_row hv
        obtain ⟨i, hi, ei⟩ := List.getElem_of_mem h1
        obtain ⟨j, hj, ej⟩ := List.getElem_of_mem h2
        have : i = j := by
          refine (List.getElem_inj (h₀ := by rw [List.length_map]; exact hi) (h₁ := by rw [List.length_map]; exact hj) I.kd).mp ?_
          rw [List.getElem_map, List.getElem_map, ei, ej]
        subst this
        rw [ei] at ej
        injection ej with _ e
        injection e
      subst this
      rw [hl] at hz
      cases hz
      rw [if_pos rfl, List.map_append]
      exact ⟨_, upd_same, (rz.to tk).snoc (tv.to tk)⟩
    · rw [if_neg h, List.append_nil]
      have : l' ≠ lx := fun z => by
        subst z
        have h1 : q ∈ okvs := hq
        have h2 := val_row hv
        obtain ⟨i, hi, ei⟩ := List.getElem_of_mem h1
        obtain ⟨j, hj, ej⟩ := List.getElem_of_mem h2
        have : i = j := by
          refine (List.getElem_inj (h₀ := by rw [List.length_map]; exact hi) (h₁ := by rw [List.length_map]; exact hj) I.nd).mp ?_
          rw [List.getElem_map, List.getElem_map, ei, ej, f2]
        subst this
        rw [ei] at ej
        rw [ej] at f1
        exact h (mK_inj f1)
      exact ⟨zs, by rw [upd_ne this]; exact hz, rz.to tk⟩
  · rcases List.mem_append.mp hk with h | h
    · exact I.all m hm k h
    · rw [List.mem_singleton] at h; subst h
      intro z; subst z; rw [hv] at hm; cases hm
theorem OnI.new {H0 H : Hp} {o lx : Addr} {ls : List Lnk} {okvs : List (List Key × V)} (I : OnI H0 H o ls okvs) {l : Lnk} {v : V} (hv : valV okvs (mK l.2.1) = none) (hl : H lx = none) (tv : Tp H v (lD l)) :
    OnI H0 (upd (upd (upd H lx (.lst [])) o (.dT (okvs ++ [(mK l.2.1, .ref lx)]))) lx (.lst ([] ++ [v]))) o (ls ++ [l]) (okvs ++ [(mK l.2.1, .ref lx)]) := by
  have nlo : lx ≠ o := fun z => by subst z; rw [I.od] at hl; cases hl
  have hl0 : H0 lx = none := I.same.free hl
  have tk : TK H (upd (upd (upd H lx (.lst [])) o (.dT (okvs ++ [(mK l.2.1, .ref lx)]))) lx (.lst ([] ++ [v]))) := fun b xs e => by
    rw [upd_ne (ne_of_none e hl), upd_ne (ne_of e I.od (by intro z; cases z)), upd_ne (ne_of_none e hl)]; exact e
  have nk : mK l.2.1 ∉ okvs.map (·.1) := fun z => by
    obtain ⟨q, hq, e⟩ := List.mem_map.mp z
    exact valV_not hv (List.mem_map.mpr ⟨q, hq, e⟩)
  have nv : V.ref lx ∉ okvs.map (·.2) := fun z => by
    obtain ⟨q, hq, e⟩ := List.mem_map.mp z
    obtain ⟨m, l', f1, f2, f3, f4, zs, hz, rz⟩ := I.rows q hq
    rw [f2] at e
    injection e with e
    subst e
    rw [hl] at hz; cases hz
  refine ⟨fun b u e => by rw [upd_ne (ne_of_none e hl0), upd_ne (ne_of_none e I.o0), upd_ne (ne_of_none e hl0)]; exact I.same _ _ e, I.o0, by rw [upd_ne nlo.symm, upd_same], fun q hq => ?_, ?_, ?_, fun m hm k hk => ?_, by rw [List.length_append, List.length_append, List.length_singleton, List.length_singleton]; have := I.len; omega⟩
  · rcases List.mem_append.mp hq with hq | hq
    · obtain ⟨m, l', f1, f2, f3, f4, zs, hz, rz⟩ := I.rows q hq
      refine ⟨m, l', f1, f2, f3, f4, zs, ?_, ?_⟩
      · rw [upd_ne (ne_of_none hz hl), upd_ne f3, upd_ne (ne_of_none hz hl)]; exact hz
      · have : l.2.1 ≠ m := fun z => by
          subst z
          exact nk (List.mem_map.mpr ⟨q, hq, f1⟩)
        rw [filt_app, if_neg this, List.append_nil]
        exact rz.to tk
    · rw [List.mem_singleton] at hq; subst hq
      refine ⟨l.2.1, lx, rfl, rfl, nlo, hl0, _, upd_same, ?_⟩
      have e : (ls.filter fun k => decide (k.2.1 = l.2.1)) = [] := List.filter_eq_nil_iff.mpr fun k hk z => I.all _ hv k hk (of_decide_eq_true z)
      rw [filt_app, if_pos rfl, e]
      exact .cons (tv.to tk) .nil
  · rw [List.map_append]
    exact List.nodup_append.mpr ⟨I.nd, by simp, fun x hx y hy => by rw [List.map_singleton, List.mem_singleton] at hy; subst hy; intro z; rw [z] at hx; exact nv hx⟩
  · rw [List.map_append]
    exact List.nodup_append.mpr ⟨I.kd, by simp, fun x hx y hy => by rw [List.map_singleton, List.mem_singleton] at hy; subst hy; intro z; rw [z] at hx; exact nk hx⟩
  · have hm' : mK m ∉ (okvs ++ [(mK l.2.1, V.ref lx)]).map (·.1) := valV_not hm
    rw [List.map_append] at hm'
    have h1 : mK m ∉ okvs.map (·.1) := fun z => hm' (List.mem_append_left _ z)
    have h2 : m ≠ l.2.1 := fun z => hm' (List.mem_append_right _ (by rw [z]; exact List.mem_singleton.mpr rfl))
    rcases List.mem_append.mp hk with h | h
    · exact I.all m (by
        cases e : valV okvs (mK m) with
        | none => rfl
        | some v => exact absurd (List.mem_map.mpr ⟨_, val_row e, rfl⟩) h1) k h
    · rw [List.mem_singleton] at h; subst h; exact fun z => h2 z.symm
def spChains : Sp := fun vs H Q _ => ∃ (a st : Addr) (s : Mo) (ls : List Lnk), vs = [.ref a, .ref st] ∧ Ls H a (ls.map lD) ∧ ls.length ≤ 500 ∧ H st = some (.tup [.int s.1, .int s.2]) ∧
  ∀ (H' : Hp) (d : Addr) (kvs : List (List Key × V)) (ns : List Mo), Same H H' → H d = none → H' d = some (.dT kvs) → kvs.map (·.1) = ns.map mK → (∀ g, g ∈ ns ↔ Rch ls s g) → (∀ q ∈ kvs, q.2 ≠ .non) → Q (.ref d) H'
def spChain : Sp := fun vs H Q _ => ∃ (a st g : Addr) (s e : Mo) (ls : List Lnk), vs = [.ref a, .ref st, .ref g] ∧ Ls H a (ls.map lD) ∧ ls.length ≤ 500 ∧ H st = some (.tup [.int s.1, .int s.2]) ∧ H g = some (.tup [.int e.1, .int e.2]) ∧
  ∀ (H' : Hp) (v : V), Same H H' → (v = .non ↔ ¬ Rch ls s e) → Q v H'
section
variable {P : Program} {w : World} {K : PySem.W.Frag} {mg : Str → Option Value} {base : Heap}
abbrev s_chains : Stmt := top 12
theorem sc_chains : FnScope ["links", "start", "onward", "link", "rows", "waiting", "at"] ["links", "start"] (defScope s_chains) := ⟨rfl, rfl, rfl, by decide +kernel, rfl, by decide +kernel, by decide +kernel⟩
theorem ok_chains {f : Addr} {fd : FuncData} (F : Fun K "chains" "chains" s_chains f fd) : FnOk P w K mg base CX0 1 f fd ["links", "start"] spChains := by
  refine F.ok sc_chains (fun vs H Q E h => ?_) (fun cdv A outer s H vs Q E hr h => ?_)
  · obtain ⟨a, st, z, ls, rfl, _⟩ := h; rfl
  · obtain ⟨a, st, z, ls, rfl, hls, h500, hst, k⟩ := h
    have hu := hu_of hr
    refine ⟨_, (pss_cons (ps_set (i := 2) sc_chains.nd rfl (Or.inl rfl) pe_dnewT)
      (pss_cons (ps_for PassesOwn.never rfl (pi_list (pv 0)) (pg_name (i := 3) sc_chains.nd rfl (Or.inl rfl))
      (pss_one (ps_expr (pe_bm PySem.F.plainAttrs_list PySem.F.slot_list_append PySem.F.type_list_append mt_append (pe_setdT hu (pv 2) (pe_ix ix_tup (pv 3) pe_int (fun _ _ => rfl)) (pe_lst pa_nil) ⟨rfl, rfl, rfl, rfl⟩) (pa_cons (pv 3) pa_nil)))))
      (pss_cons (ps_set (i := 4) sc_chains.nd rfl (Or.inl rfl) (pe_dispT1 hu (pv 1) (pe_lst pa_nil)))
      (pss_cons (ps_set (i := 5) sc_chains.nd rfl (Or.inl rfl) (pe_lst (pa_cons (pv 1) pa_nil)))
      (pss_cons (ps_while PassesOwn.never (pt_truth (pv 5) (by intro _; rfl))
      (pss_cons (ps_set (i := 6) sc_chains.nd rfl (Or.inl rfl) (pe_bm PySem.F.plainAttrs_list PySem.F.slot_list_pop PySem.F.type_list_pop mt_popAt (pv 5) (pa_cons pe_int pa_nil)))
      (pss_one (ps_for PassesOwn.never rfl (pi_list (pe_dget2 hu (pv 2) (pv 6) (pe_lst pa_nil) ⟨rfl, rfl, rfl, rfl⟩)) (pg_name (i := 3) sc_chains.nd rfl (Or.inl rfl))
      (pss_one (ps_if (pt_cmp (pc_dnotin hu (pe_ix ix_tup (pv 3) pe_int (fun _ _ => rfl)) (pv 4))) (pss_cons (ps_dput hu (pv 4) (pe_ix ix_tup (pv 3) pe_int (fun _ _ => rfl)) (pe_op op_cat (pe_dget hu (pv 4) (pv 6) (fun _ _ => rfl)) (pe_lst (pa_cons (pv 3) pa_nil))) rfl)
      (pss_one (ps_expr (pe_bm PySem.F.plainAttrs_list PySem.F.slot_list_append PySem.F.type_list_append mt_append (pv 5) (pa_cons (pe_ix ix_tup (pv 3) pe_int (fun _ _ => rfl)) pa_nil))))) pss_nil))))))
      (pss_one (ps_ret (pv 4)))))))), ?_⟩
    -- onward
    refine fun o ho => ?_
    have IO : OnI H (upd H o (.dT [])) o [] [] := ⟨Same.new ho, ho, upd_same, (fun q hq => by cases hq), List.nodup_nil, List.nodup_nil, (fun m _ k hk => by cases hk), Nat.le_refl _⟩
    obtain ⟨lx, hlx, rlx⟩ := id hls
    have hlen : lx.length = ls.length := by rw [rlx.len, List.length_map]
    refine ⟨_, rfl, a, rfl, ⟨_, SqL.of (IO.same _ _ hlx)⟩, for_list (K := K) (a := a) (xs := lx) (fun i σ' H' => ∃ (v3 : Option V) (okvs : List (List Key × V)), σ' = [some (.ref a), some (.ref st), some (.ref o), v3, none, none, none] ∧ OnI H H' o (ls.take i) okvs)
      ⟨none, [], rfl, by rw [List.take_zero]; exact IO⟩ (fun i σ' H' _ ⟨_, _, _, I'⟩ => SqL.of (I'.same _ _ hlx)) ?_ ?_⟩
    · rintro i x σ1 H1 hi ⟨v3, okvs, rfl, I1⟩
      obtain ⟨dl, hdl, htl⟩ := rlx.getv hi
      rw [List.getElem?_map] at hdl
      obtain ⟨l, hl, rfl⟩ : ∃ l, ls[i]? = some l ∧ dl = lD l := by
        cases e : ls[i]? with
        | none => rw [e] at hdl; cases hdl
        | some l => rw [e] at hdl; exact ⟨l, rfl, (Option.some.inj hdl).symm⟩
      have tl := htl.to (TK.of I1.same)
      obtain ⟨t, am, af, ao, rfl, h3t, h3m, h3f, h3o⟩ := Tp.ln_inv (id tl)
      have hil : i < ls.length := (List.getElem?_eq_some_iff.mp hl).1
      have hok : okvs.length ≤ 500 := by have := I1.len; rw [List.length_take] at this; omega
      have step : ls.take (i + 1) = ls.take i ++ [l] := by rw [List.take_add_one, hl]; rfl
      refine ⟨_, rfl, o, okvs, rfl, I1.od, _, rfl, _, _, _, _, rfl, rfl, SqT.of h3t, at_of (j := 1) rfl rfl, Nat.zero_le _, fun L hL => ?_⟩
      have sL : Same H1 (upd H1 L (.lst [])) := Same.new hL
      refine ⟨okvs, mK l.2.1, af, sL _ _ I1.od, rfl, sL _ _ h3f, Nat.lt_of_le_of_lt hok (by decide), fun v hv => ?_, fun hv => ?_⟩
      · obtain ⟨m0, l0, f1, f2, f3, f4, zs, hz, rz⟩ := I1.rows _ (val_row hv)
        cases (show v = .ref l0 from f2)
        have hzl : zs.length ≤ 500 := by
          rw [rz.len, List.length_map]
          have h1 := List.length_filter_le (fun k : Lnk => decide (k.2.1 = m0)) (ls.take i)
          have h2 := List.length_take_le' i ls
          omega
        have IL : OnI H (upd H1 L (.lst [])) o (ls.take i) okvs := ⟨I1.same.trans sL, I1.o0, sL _ _ I1.od, fun q hq => by
          obtain ⟨m, l', g1, g2, g3, g4, g5⟩ := I1.rows q hq
          exact ⟨m, l', g1, g2, g3, g4, g5.to sL⟩, I1.nd, I1.kd, I1.all, I1.len⟩
        refine ⟨.inl ⟨rfl, _, SqL.of (sL _ _ hz)⟩, _, rfl, l0, zs, .ref t, rfl, rfl, sL _ _ hz, small1000 (by omega), ?_⟩
        refine ⟨_, okvs, rfl, ?_⟩
        rw [step]
        exact IL.add hv (sL _ _ hz) (tl.to (TK.of sL))
      · rw [putK_new _ hv]
        have nLo : L ≠ o := fun z => by subst z; rw [I1.od] at hL; cases hL
        refine ⟨.inl ⟨rfl, [], SqL.of (by rw [upd_ne nLo, upd_same])⟩, _, rfl, L, [], .ref t, rfl, rfl, by rw [upd_ne nLo, upd_same], by decide, ?_⟩
        refine ⟨_, okvs ++ [(mK l.2.1, .ref L)], rfl, ?_⟩
        rw [step]
        exact I1.new hv hL tl
    rintro σ0 H0 ⟨v3, okvs, rfl, IO1⟩
    rw [hlen, List.take_length] at IO1
    -- rows = {start: []}; waiting = [start]
    have hst := IO1.same _ _ hst
    have hls := hls.to IO1.same
    refine fun d hd => ⟨_, rfl, Nat.zero_le _, fun l0 hl0 => ?_⟩
    have nd0 : l0 ≠ d := fun z => by subst z; rw [upd_same] at hl0; cases hl0
    have ndst : st ≠ d := ne_of_none hst hd
    have nlst : st ≠ l0 := fun z => by subst z; rw [upd_ne ndst, hst] at hl0; cases hl0
    have hl00 : H0 l0 = none := by rw [upd_ne nd0] at hl0; exact hl0
    refine ⟨mK z, st, rfl, by rw [upd_ne nd0.symm, upd_same], by rw [upd_ne nlst, upd_ne ndst]; exact hst, ?_⟩
    refine ⟨_, rfl, by show 1 ≤ sizeLine; decide, fun wl hwl => ?_⟩
    have nwd : wl ≠ d := fun z => by subst z; rw [upd_same] at hwl; cases hwl
    have nwl : wl ≠ l0 := fun z => by subst z; rw [upd_ne nd0, upd_same] at hwl; cases hwl
    have hwl0 : H0 wl = none := by rw [upd_ne nwd, upd_ne nwl, upd_ne nwd] at hwl; exact hwl
    have nwst : st ≠ wl := ne_of_none hst hwl0
    have I0 : ChI H0 (upd (upd (upd (upd H0 d (.dT [])) l0 (.lst [])) d (.dT [(mK z, .ref l0)])) wl (.lst [.ref st])) d wl [z] [z] [(mK z, .ref l0)] := by
      refine ⟨fun b o e => ?_, hd, hwl0, by rw [upd_ne nwd.symm, upd_same], rfl, fun q hq => ?_, ⟨_, upd_same, .cons (Tp.mo (m := z) ?_) .nil⟩⟩
      · rw [upd_ne (ne_of_none e hwl0), upd_ne (ne_of_none e hd), upd_ne (ne_of_none e hl00), upd_ne (ne_of_none e hd)]; exact e
      · rw [List.mem_singleton] at hq; subst hq
        exact ⟨l0, [], rfl, by rw [upd_ne nwl.symm, upd_ne nd0, upd_same], Nat.zero_le _, nwl.symm⟩
      · rw [upd_ne nwst, upd_ne ndst, upd_ne nlst, upd_ne ndst]; exact hst
    -- while waiting
    refine ⟨fun m σ H1 => ∃ (v4 v5 : Option V) (ns ws : List Mo) (kvs : List (List Key × V)), σ = [some (.ref a), some (.ref st), some (.ref o), v4, some (.ref d), some (.ref wl), v5] ∧ ChI H0 H1 d wl ns ws kvs ∧ Bfs ls z ns ws ∧ kvs.length + Unv ls ns ≤ 1 + ls.length ∧ m = ws.length + Unv ls ns ∧ m ≤ 1 + ls.length,
      ⟨_, v3, none, [z], [z], _, rfl, I0, Bfs.init ls z, by have := Unv.len ls [z]; simp only [List.length_singleton]; omega, rfl, by have := Unv.len ls [z]; simp only [List.length_singleton]; omega⟩, ?_⟩
    rintro m σ1 H1 ⟨v4, v5, ns, ws, kvs, rfl, I1, B1, hk1, rfl, hm1⟩
    obtain ⟨xs, hw, rx⟩ := I1.wt
    refine ⟨_, rfl, _, .inl ⟨xs, SqL.of hw, rfl⟩, ?_⟩
    cases ws with
    | nil =>
      cases rx
      refine iteF ?_
      refine ⟨_, rfl, k H1 d kvs ns (IO1.same.trans I1.same) (IO1.same.free hd) I1.dd I1.ks (fun g => B1.all) fun q hq z => ?_⟩
      obtain ⟨l, xs, e, _⟩ := I1.rows q hq
      rw [e] at z; cases z
    | cons at_ ws =>
      cases rx with
      | @cons va vs _ _ ha hr' =>
      refine iteT ?_
      refine ⟨fun σ' H0' => ∃ (v4 v5 : Option V) (ns' ws' : List Mo) (kvs' : List (List Key × V)), σ' = [some (.ref a), some (.ref st), some (.ref o), v4, some (.ref d), some (.ref wl), v5] ∧ ChI H0 H0' d wl ns' ws' kvs' ∧ Bfs ls z ns' ws' ∧ kvs'.length + Unv ls ns' ≤ 1 + ls.length ∧ ws'.length + Unv ls ns' < (at_ :: ws).length + Unv ls ns,
        fun σ' H0' ⟨v4, v5, ns', ws', kvs', e, I', B', hk', hm⟩ => ⟨_, hm, v4, v5, ns', ws', kvs', e, I', B', hk', rfl, by omega⟩, ?_⟩
      -- at = waiting.pop(0)
      refine ⟨_, rfl, .inl ⟨rfl, _, SqL.of hw⟩, wl, _, _, 0, va, rfl, rfl, hw, by decide, by decide, by simp [seqIndex?], rfl, ?_⟩
      obtain ⟨aa, rfl, hat⟩ := Tp.mo_inv ha
      have tk2 : TK H1 (upd H1 wl (.lst ((V.ref aa :: vs).eraseIdx 0))) := TK.put hw (by intro z; exact nofun)
      have I2 : ChI H0 (upd H1 wl (.lst vs)) d wl ns ws kvs := by
        refine ⟨fun b o e => ?_, hd, I1.w0, ?_, I1.ks, fun q hq => ?_, ⟨vs, upd_same, hr'.to tk2⟩⟩
        · rw [upd_ne (ne_of_none e I1.w0)]; exact I1.same _ _ e
        · rw [upd_ne (ne_of I1.dd hw (by intro z; cases z))]; exact I1.dd
        · obtain ⟨l, ys, h1, h2, h3, h4⟩ := I1.rows q hq
          exact ⟨l, ys, h1, by rw [upd_ne h4]; exact h2, h3, h4⟩
      -- for link in onward.get(at, [])
      refine ⟨_, rfl, o, rfl, .inr ⟨okvs, Rd.of (I2.same _ _ IO1.od)⟩, _, rfl, Nat.zero_le _, fun U hU => ?_⟩
      have sU : Same (upd H1 wl (.lst vs)) (upd (upd H1 wl (.lst vs)) U (.lst [])) := Same.new hU
      refine ⟨_, DGet.m (sU _ _ (I2.same _ _ IO1.od)) (sU _ _ (tk2 _ _ hat)), ?_⟩
      obtain ⟨la, La, ex, hla, in1, in2⟩ : ∃ (la : Addr) (La : List Lnk), (valV okvs (mK at_)).getD (.ref U) = .ref la ∧ Ls (upd (upd H1 wl (.lst vs)) U (.lst [])) la (La.map lD) ∧ (∀ l ∈ La, l ∈ ls ∧ l.2.1 = at_) ∧ (∀ l ∈ ls, l.2.1 = at_ → l ∈ La) ∧ la ≠ wl ∧ la ≠ d := by
        cases hv : valV okvs (mK at_) with
        | none =>
          have nUw : U ≠ wl := fun z => by
            have h : upd H1 wl (.lst vs) U = none := hU
            rw [z, upd_same] at h; cases h
          have nUd : U ≠ d := fun z => by
            have h : upd H1 wl (.lst vs) U = none := hU
            rw [z, I2.dd] at h; cases h
          exact ⟨U, [], rfl, ⟨[], upd_same, .nil⟩, (fun l h => by cases h), (fun l h e => absurd e (IO1.all _ hv l h)), nUw, nUd⟩
        | some v =>
          obtain ⟨m, l', f1, f2, f3, f4, f5⟩ := IO1.rows _ (val_row hv)
          have em : m = at_ := (mK_inj f1).symm
          subst em
          obtain ⟨xs5, h5, r5⟩ := f5
          refine ⟨l', ls.filter fun k => decide (k.2.1 = m), f2, ⟨xs5, sU _ _ (I2.same _ _ h5), r5.to ((TK.of I2.same).trans (TK.of sU))⟩, fun l h => ?_, fun l h e => List.mem_filter.mpr ⟨h, decide_eq_true e⟩, ne_of_none h5 I2.w0, ne_of_none h5 I2.d0⟩
          obtain ⟨h1, h2⟩ := List.mem_filter.mp h
          exact ⟨h1, of_decide_eq_true h2⟩
      have in3 := in2.2
      have in2 := in2.1
      obtain ⟨lx, hlx, rlx⟩ := hla
      have hlen2 : lx.length = La.length := by rw [rlx.len, List.length_map]
      refine ⟨la, ex, ⟨_, SqL.of hlx⟩, for_list (K := K) (a := la) (xs := lx) (fun i σ' H' => ∃ (v5 : Option V) (ns' ws' : List Mo) (kvs' : List (List Key × V)), σ' = [some (.ref a), some (.ref st), some (.ref o), v5, some (.ref d), some (.ref wl), some (.ref aa)] ∧ ChI H0 H' d wl ns' ws' kvs' ∧ BfsJ ls z at_ La i ns' ws' ∧ kvs'.length + Unv ls ns' ≤ 1 + ls.length ∧ ws'.length + Unv ls ns' ≤ ws.length + Unv ls ns ∧ H' aa = some (.tup [.int at_.1, .int at_.2]) ∧ TK (upd (upd H1 wl (.lst vs)) U (.lst [])) H' ∧ H' la = some (.lst lx))
        ⟨_, ns, ws, kvs, rfl, I2.to sU, .of B1.pop, hk1, Nat.le_refl _, sU _ _ (tk2 _ _ hat), TK.refl _, hlx⟩ (fun i σ' H' _ ⟨_, _, _, _, _, _, _, _, _, _, _, h⟩ => SqL.of h) ?_ ?_⟩
      · rintro i x σ3 H3 hi ⟨v5, ns3, ws3, kvs3, rfl, I3, B3, hk3, hm3, hat3, tk3, hla3⟩
        obtain ⟨dl, hdl, htl⟩ := rlx.getv hi
        rw [List.getElem?_map] at hdl
        obtain ⟨l, hl, rfl⟩ : ∃ l, La[i]? = some l ∧ dl = lD l := by
          cases e : La[i]? with
          | none => rw [e] at hdl; cases hdl
          | some l => rw [e] at hdl; exact ⟨l, rfl, (Option.some.inj hdl).symm⟩
        obtain ⟨t, am, af, ao, rfl, h3t, h3m, h3f, h3o⟩ := Tp.ln_inv (htl.to tk3)
        have hin : l ∈ ls ∧ l.2.1 = at_ := in1 l (List.mem_of_getElem? hl)
        have he' := hin.2
        · skip
          refine ⟨_, rfl, _, _, _, _, rfl, rfl, SqT.of h3t, at_of (j := 2) rfl rfl, _, rfl, d, _, rfl, DGet.m I3.dd h3o, _, rfl, ?_⟩
          rw [valV_ks I3.ks]
          refine ite2 (fun hn => ?_) (fun hn => ?_)
          · have hn' : l.2.2 ∉ ns3 := by
              intro z; rw [decide_eq_true z] at hn; cases hn
            -- rows[link[2]] = rows[at] + [link]
            obtain ⟨v, hv⟩ : ∃ v, valV kvs3 (mK at_) = some v := by
              have := valV_ks I3.ks at_
              rw [decide_eq_true B3.here] at this
              exact Option.isSome_iff_exists.mp this
            obtain ⟨rl, rxs, erl, hrl, hrn, hrw⟩ := I3.rows _ (valV_mem hv)
            cases (show v = .ref rl from erl)
            have g3 : DGet H3 d (.ref aa) (some (.ref rl)) := by have := DGet.m I3.dd hat3; rw [hv] at this; exact this
            refine ⟨_, rfl, _, rfl, d, _, rfl, g3, _, rfl, by show 1 ≤ sizeLine; decide, fun L hL => ?_⟩
            have hlen3 : kvs3.length ≤ 501 := by omega
            refine ⟨rl, L, _, _, rfl, rfl, by rw [upd_ne (ne_of_none hrl hL)]; exact hrl, upd_same, by rw [List.length_singleton]; exact Nat.le_trans (by omega : _ ≤ 502) (by decide), fun R hR => ?_⟩
            have nLd : d ≠ L := ne_of_none I3.dd hL
            have nRd : d ≠ R := fun z => by subst z; rw [upd_ne nLd, I3.dd] at hR; cases hR
            have nRL : L ≠ R := fun z => by subst z; rw [upd_same] at hR; cases hR
            have hR3 : H3 R = none := by rw [upd_ne nRL.symm] at hR; exact hR
            have s4 : Same H3 (upd (upd H3 L (.lst [.ref t])) R (.lst (rxs ++ [.ref t]))) := fun b o e => by
              rw [upd_ne (ne_of_none e hR3), upd_ne (ne_of_none e hL)]; exact e
            refine ⟨_, rfl, _, rfl, _, _, _, _, rfl, rfl, SqT.of (s4 _ _ h3t), at_of (j := 2) rfl rfl, d, _, rfl, DPut.t (k := mK l.2.2) (s4 _ _ I3.dd) (s4 _ _ h3o) (Nat.lt_of_le_of_lt hlen3 (by decide)), ?_⟩
            rw [putK_new _ (by
              have := valV_ks I3.ks l.2.2
              rw [decide_eq_false hn'] at this
              cases e : valV kvs3 (mK l.2.2) with
              | none => rfl
              | some v => rw [e] at this; cases this)]
            obtain ⟨wx, hwx, rwx⟩ := I3.wt
            have nwd : wl ≠ d := (ne_of hwx I3.dd (by intro z; cases z))
            -- waiting.append(link[2])
            have ht5 : ∀ b xs, H3 b = some (.tup xs) → (upd (upd (upd H3 L (.lst [.ref t])) R (.lst (rxs ++ [.ref t]))) d (.dT (kvs3 ++ [(mK l.2.2, .ref R)]))) b = some (.tup xs) := fun b xs e => by
              rw [upd_ne (ne_of e I3.dd (by intro z; cases z))]; exact s4 _ _ e
            have hw5 : (upd (upd (upd H3 L (.lst [.ref t])) R (.lst (rxs ++ [.ref t]))) d (.dT (kvs3 ++ [(mK l.2.2, .ref R)]))) wl = some (.lst wx) := by rw [upd_ne nwd]; exact s4 _ _ hwx
            have hwxl : wx.length ≤ 1000 := by rw [rwx.len, List.length_map]; have := Unv.len ls ns; have := Unv.len ls ns3; rw [List.length_cons] at hm1; omega
            refine ⟨_, rfl, .inl ⟨rfl, _, SqL.of hw5⟩, _, rfl, _, _, _, _, rfl, rfl, SqT.of (ht5 _ _ h3t), at_of (j := 2) rfl rfl, wl, _, _, rfl, rfl, hw5, small1000 hwxl, ?_⟩
            have ht6 : ∀ b xs, H3 b = some (.tup xs) → (upd (upd (upd (upd H3 L (.lst [.ref t])) R (.lst (rxs ++ [.ref t]))) d (.dT (kvs3 ++ [(mK l.2.2, .ref R)]))) wl (.lst (wx ++ [.ref ao]))) b = some (.tup xs) := fun b xs e => by
              rw [upd_ne (ne_of e hwx (by intro z; cases z))]; exact ht5 _ _ e
            refine ⟨_, ns3 ++ [l.2.2], ws3 ++ [l.2.2], kvs3 ++ [(mK l.2.2, .ref R)], rfl, ⟨fun b o e => ?_, hd, I3.w0, by rw [upd_ne nwd.symm, upd_same], by rw [List.map_append, List.map_append, I3.ks]; rfl, fun q hq => ?_, ⟨_, upd_same, by rw [List.map_append]; exact (rwx.to ht6).snoc (Tp.mo (ht6 _ _ h3o))⟩⟩, B3.add hl hin.1 he', ?_, ?_, ht6 _ _ hat3, fun b xs e => ht6 _ _ (tk3 _ _ e), by rw [upd_ne in3.1, upd_ne in3.2]; exact s4 _ _ hla3⟩
            · rw [upd_ne (ne_of_none e I3.w0), upd_ne (ne_of_none e hd)]
              exact s4 _ _ (I3.same _ _ e)
            · rw [List.length_append, List.length_singleton]
              rcases List.mem_append.mp hq with h | h
              · obtain ⟨l', ys, h1, h2, h3, h4⟩ := I3.rows q h
                exact ⟨l', ys, h1, by rw [upd_ne h4, upd_ne (ne_of h2 I3.dd (by intro z; cases z))]; exact s4 _ _ h2, by omega, h4⟩
              · rw [List.mem_singleton] at h; subst h
                have nRw : R ≠ wl := (ne_of_none hwx hR3).symm
                exact ⟨R, _, rfl, by rw [upd_ne nRw, upd_ne nRd.symm, upd_same], by rw [List.length_append, List.length_singleton]; omega, nRw⟩
            · have := Unv.lt hin.1 hn'
              rw [List.length_append, List.length_singleton]; omega
            · have := Unv.lt hin.1 hn'
              rw [List.length_append, List.length_singleton]; omega
          · have hn' : l.2.2 ∈ ns3 := by
              apply Decidable.byContradiction
              intro z; rw [decide_eq_false z] at hn; exact hn rfl
            exact ⟨_, ns3, ws3, kvs3, rfl, I3, B3.skip hl hn', hk3, hm3, hat3, tk3, hla3⟩
      · rintro σ3 H3 ⟨v5, ns3, ws3, kvs3, rfl, I3, B3, hk3, hm3, hat3, tk3, hla3⟩
        rw [hlen2] at B3
        exact ⟨_, _, ns3, ws3, kvs3, rfl, I3, B3.done in2, hk3, by rw [List.length_cons]; omega⟩
abbrev s_chain : Stmt := top 13
theorem sc_chain : FnScope ["links", "start", "goal"] ["links", "start", "goal"] (defScope s_chain) := ⟨rfl, rfl, rfl, by decide +kernel, rfl, by decide +kernel, by decide +kernel⟩
theorem ok_chain {f : Addr} {fd : FuncData} (F : Fun K "chain" "chain" s_chain f fd) (c_chains : C8.Cal P w K mg base 1 "chains" spChains []) : FnOk P w K mg base CX0 2 f fd ["links", "start", "goal"] spChain := by
  refine F.ok sc_chain (fun vs H Q E h => ?_) (fun cdv A outer s H vs Q E hr h => ?_)
  · obtain ⟨a, st, g, z, e, ls, rfl, _⟩ := h; rfl
  · obtain ⟨a, st, g, z, e, ls, rfl, hls, h500, hst, hg, k⟩ := h
    have hu := hu_of hr
    refine ⟨_, (pss_one (ps_ret (pe_dget1 hu (C8.pe_c c_chains hr (by decide) rfl (pa_cons (pv 0) (pa_cons (pv 1) pa_nil))) (pv 2) ⟨rfl, rfl, rfl, rfl⟩))), ?_⟩
    refine ⟨_, rfl, _, rfl, a, st, z, ls, rfl, hls, h500, hst, fun H1 d kvs ns s1 d0 hd ks hns hne => ?_⟩
    refine ⟨d, rfl, .inr ⟨kvs, Rd.of hd⟩, _, rfl, _, DGet.m hd (s1 _ _ hg), k H1 _ s1 ?_⟩
    have q := valV_ks ks e
    cases hv : valV kvs (mK e) with
    | none =>
      rw [hv] at q
      have : e ∉ ns := fun z => by rw [decide_eq_true z] at q; cases q
      exact ⟨fun _ r => this ((hns e).mpr r), fun _ => rfl⟩
    | some v =>
      rw [hv] at q
      have : e ∈ ns := by
        apply Decidable.byContradiction
        intro z; rw [decide_eq_false z] at q; cases q
      exact ⟨fun z => absurd z (hne _ (valV_mem hv)), fun z => absurd ((hns e).mp this) z⟩
end
end KN
set_option Elab.async false
set_option linter.all false
set_option maxRecDepth 100000
set_option maxHeartbeats 4000000
namespace KN
open PySem L2
def NmOk (rank : Int) (ws ss : List Str) (like : Option Mo) : Prop := 0 ≤ rank ∧ rank ≤ 5 ∧ ws.length = (if rank = 0 then 2 else 1) ∧ (∀ w ∈ ws, IsW w) ∧
  ((rank = 0 ∧ like = none ∧ ∃ s, ss = [s] ∧ IsW s) ∨ (ss = [] ∧ ∃ m, like = some m ∧ MoOk m))
def spBad : Sp := fun vs H Q _ => ∃ (rank : Int) (wa sa : Addr) (lv : V) (ws ss : List Str) (like : Option Mo), vs = [.int rank, .ref wa, .ref sa, lv] ∧ H wa = some (.tup (ws.map V.str)) ∧ H sa = some (.tup (ss.map V.str)) ∧ UpV H lv like ∧ NmOk rank ws ss like ∧
  ∀ H', Same H H' → Q .non H'
def spMayLike : Sp := fun vs H Q _ => ∃ r o : Int, vs = [.int r, .int o] ∧ Q (.bl (if r = 0 then decide (o = 0) else decide (o < r))) H
def spNamedIn : Sp := fun vs H Q _ => ∃ (v : V) (r : Row), vs = [v] ∧ Tp H v r.d ∧ ∀ (H' : Hp) (l : Addr), Same H H' → H l = none → Ls H' l (r.names.map mD) → Q (.ref l) H'
/-- what the walk asks of the class Book as the top has made it -/
structure BkT (K : PySem.W.Frag) (C : Addr) : Prop where
  cl : Cls K C
  nE : NoAttr K C "_entries"
  nN : NoAttr K C "_named_by"
def spInit (C : Addr) : Sp := fun vs H Q _ => ∃ (b dx : Addr), vs = [.ref b] ∧ H b = some (.ins C dx []) ∧ ∀ H', (∀ a o, a ≠ b → H a = some o → H' a = some o) → BookAt C H' b [] → Q .non H'
def spKeep (C : Addr) : Sp := fun vs H Q _ => ∃ (b : Addr) (v : V) (r : Row) (rs : List Row), vs = [.ref b, v] ∧ BookAt C H b rs ∧ Tp H v r.d ∧ r.mo ∉ rs.map Row.mo ∧ MoOk r.mo ∧ (∀ n ∈ r.names, n ∈ nms rs) ∧ r.names.Nodup ∧ rs.length ≤ 60 ∧
  ∀ H', KD H H' → BookAt C H' b (rs ++ [r]) → Q .non H'
theorem sort_nm (r : Row) : decide (V.str r.sort = V.str "name") = r.isNm := by
  have h1 : ¬ ("choice" : Str) = "name" := by decide +kernel
  have h2 : ¬ ("strike" : Str) = "name" := by decide +kernel
  have h3 : ¬ ("ahead" : Str) = "name" := by decide +kernel
  cases r with
  | nm => exact decide_eq_true rfl
  | ch => exact decide_eq_false fun z => h1 (by injection z)
  | st => exact decide_eq_false fun z => h2 (by injection z)
  | ah => exact decide_eq_false fun z => h3 (by injection z)
def Row.isAh : Row → Bool
  | .ah .. => true
  | _ => false
theorem sort_ah (r : Row) : decide (V.str r.sort = V.str "ahead") = r.isAh := by
  have h1 : ¬ ("choice" : Str) = "ahead" := by decide +kernel
  have h2 : ¬ ("strike" : Str) = "ahead" := by decide +kernel
  have h3 : ¬ ("name" : Str) = "ahead" := by decide +kernel
  cases r with
  | ah => exact decide_eq_true rfl
  | ch => exact decide_eq_false fun z => h1 (by injection z)
  | st => exact decide_eq_false fun z => h2 (by injection z)
  | nm => exact decide_eq_false fun z => h3 (by injection z)
theorem Tp.str_inv {H : Hp} {v : V} {s : Str} (h : Tp H v (.str s)) : v = .str s := by cases h; rfl
theorem Tp.int_inv {H : Hp} {v : V} {s : Int} (h : Tp H v (.int s)) : v = .int s := by cases h; rfl
section
variable {P : Program} {w : World} {K : PySem.W.Frag} {mg : Str → Option Value} {base : Heap} {C : Addr}
abbrev s_bad_name : Stmt := top 29
theorem sc_bad_name : FnScope ["rank", "words", "sheets", "like", "many", "word"] ["rank", "words", "sheets", "like"] (defScope s_bad_name) := ⟨rfl, rfl, rfl, by decide +kernel, rfl, by decide +kernel, by decide +kernel⟩
theorem ok_bad_name {f : Addr} {fd : FuncData} (F : Fun K "bad_name" "bad_name" s_bad_name f fd) (m_isinstance : mg "isinstance" = none) (m_tuple : mg "tuple" = none) (m_len : mg "len" = none) (m_all : mg "all" = none)
    (g_MOST_RANK : ∃ u, mg "MOST_RANK" = some u ∧ RelV (.int 5) u) (c_is_number : C8.Cal P w K mg base 1 "is_number" (spNumber K) []) (c_is_word : C8.Cal P w K mg base 1 "is_word" (spWord K) []) (c_are_sheets : C8.Cal P w K mg base 2 "are_sheets" spSheets1 [])
    (c_is_list : C8.Cal P w K mg base 1 "is_list" spList []) (c_is_moment : C8.Cal P w K mg base 2 "is_moment" spMoment []) : FnOk P w K mg base CX0 3 f fd ["rank", "words", "sheets", "like"] spBad := by
  refine F.ok sc_bad_name (fun vs H Q E h => ?_) (fun cdv A outer s H vs Q E hr h => ?_)
  · obtain ⟨rank, wa, sa, lv, ws, ss, like, rfl, _⟩ := h; rfl
  · obtain ⟨rank, wa, sa, lv, ws, ss, like, rfl, hwa, hsa, hl, ⟨r0, r5, hwl, hws, hss⟩, k⟩ := h
    refine ⟨_, (pss_cons (ps_if (pt_not (pt_val (C8.pe_c c_is_number hr (by decide) rfl (pa_cons (pv 0) (pa_cons pe_int (pa_cons (C8.pe_gc rfl g_MOST_RANK) pa_nil)))))) (pss_one (ps_ret pe_str)) pss_nil)
      (C8.pss_cut (ps_set (i := 4) sc_bad_name.nd rfl (Or.inl rfl) (pe_ifExp (pt_cmpR op_eq (pv 0) pe_int (nomark _)) pe_int pe_int))
      (pss_cons (ps_if (PW.pt (pw_or (pt_not (pt_val (pe_callB call_isi (by rfl) m_isinstance (by decide +kernel) (pa_cons (pv 1) (pa_cons (pe_bltn (v := .ty "tuple") (u := .type "tuple") rfl m_tuple (by decide +kernel) rfl) pa_nil))))) (pw_or (pt_cmpR op_ne (pe_callB call_len_seq (by rfl) m_len (by decide +kernel) (pa_cons (pv 1) pa_nil)) (pv 4) (nomark _)) (pw_or1 (pt_not (pt_val (pe_callB (cr_all rfl) (by rfl) m_all (by decide +kernel) (pa_cons (pe_lc (own := [("word", 5)]) (g := gName 5) (tt := tYes) rfl sc_bad_name.nd (pi_tup (pv 1)) (blkOk_by (own := [("word", 5)]) (N := ["rank", "words", "sheets", "like", "many", "word"]) (sc := defScope s_bad_name) (by decide +kernel)) (fun _ _ _ _ _ => pg_name (i := 5) sc_bad_name.nd rfl (Or.inl rfl)) (fun _ _ _ _ _ => pts_nil) (fun _ _ _ _ _ => (C8.pe_c c_is_word hr (by decide) rfl (pa_cons (pv 5) pa_nil)))) pa_nil)))))))) (pss_one (ps_ret pe_str)) pss_nil)
      (C8.pss_cut (ps_if (PW.pt (pw_and (pt_cmpR op_eq (pv 0) pe_int (nomark _)) (pw_and1 (pt_cmpR op_isN (pv 3) pe_non (nomark _))))) (pss_one (ps_ret (pe_ifExp (pt_val (C8.pe_c c_are_sheets hr (by decide) rfl (pa_cons (pv 2) pa_nil))) pe_non pe_str))) pss_nil)
      (pss_cons (ps_if (PW.pt (pw_or (pt_not (pt_val (C8.pe_c c_is_list hr (by decide) rfl (pa_cons (pv 2) pa_nil)))) (pw_or1 (pt_cmpR op_gt (pe_callB call_len_seq (by rfl) m_len (by decide +kernel) (pa_cons (pv 2) pa_nil)) pe_int (nomark _))))) (pss_one (ps_ret pe_str)) pss_nil)
      (pss_one (ps_ret (pe_ifExp (pt_val (C8.pe_c c_is_moment hr (by decide) rfl (pa_cons (pv 3) pa_nil))) pe_non pe_str)))))))), ?_⟩
    have er : (decide ((0 : Int) ≤ rank) && decide (rank ≤ 5)) = true := by rw [decide_eq_true r0, decide_eq_true r5]; rfl
    refine ⟨_, rfl, _, _, _, rfl, .inl ⟨_, rfl, ?_⟩⟩
    rw [er]
    refine ⟨_, rfl, iteF ?_⟩
    refine ⟨fun σ' H' => σ' = [some (.int rank), some (.ref wa), some (.ref sa), some lv, some (.int (ws.length : Int)), none] ∧ H' = H, ?_, ?_⟩
    · refine ⟨_, rfl, rfl, _, rfl, ite2 (fun h => ?_) (fun h => ?_)⟩
      · have h' : rank = 0 := by have := of_decide_eq_true h; injection this
        rw [if_pos h'] at hwl
        exact ⟨by rw [hwl]; rfl, rfl⟩
      · have h' : ¬ rank = 0 := fun z => h (by rw [z]; rfl)
        rw [if_neg h'] at hwl
        exact ⟨by rw [hwl]; rfl, rfl⟩
    rintro σ1 H1 ⟨rfl, rfl⟩
    refine ⟨_, rfl, _, _, _, _, true, rfl, .ty _, .base (.tup hwa), kit_ty (by decide +kernel), _, rfl, iteF ?_⟩
    refine ⟨_, rfl, _, _, rfl, .inr (SqT.of hwa), _, rfl, rfl, _, rfl, ?_⟩
    rw [List.length_map, decide_eq_true rfl]
    refine iteF ?_
    -- all(words)
    have hwn : ws.length ≤ 2 := by rw [hwl]; split <;> omega
    refine ⟨_, rfl, wa, rfl, ⟨_, SqT.of hwa⟩, fun D hD => ?_⟩
    refine lc_tup (K := K) (a := wa) (xs := ws.map V.str) (fun i H' => Same H1 H' ∧ ∃ bs : List Bool, H' D = some (.lst (bs.map V.bl)) ∧ bs.length = i ∧ bs.all id = true)
      ⟨Same.new hD, [], upd_same, rfl, rfl⟩ (fun i H' _ q => SqT.of (q.1 _ _ hwa)) ?_ ?_
    · rintro i x H2 hi ⟨s2, bs, e2, l2, a2⟩
      rw [List.getElem?_map] at hi
      obtain ⟨z, hz, rfl⟩ : ∃ z, ws[i]? = some z ∧ x = .str z := by
        cases e : ws[i]? with
        | none => rw [e] at hi; cases hi
        | some z => rw [e] at hi; exact ⟨z, rfl, (Option.some.inj hi).symm⟩
      have hw := hws z (List.mem_of_getElem? hz)
      refine ⟨rfl, _, rfl, _, rfl, .inl ⟨z, rfl, by rw [slen]; exact Nat.le_trans hw.2.1 (by decide), fun H3 s3 => ?_⟩⟩
      rw [isWB_iff.mpr hw]
      have hlt : i < ws.length := (List.getElem?_eq_some_iff.mp hz).1
      refine ⟨_, s3 _ _ e2, by rw [List.length_map, l2]; exact small1000 (by omega), fun b o e => ?_, bs ++ [true], by rw [upd_same, List.map_append]; rfl, by rw [List.length_append, l2]; rfl, by rw [List.all_append, a2]; rfl⟩
      rw [upd_ne (ne_of_none e hD)]; exact s3 _ _ (s2 _ _ e)
    rintro H2 ⟨s2, bs, e2, l2, a2⟩
    refine ⟨D, bs, rfl, SqL.of e2, _, rfl, ?_⟩
    rw [a2]
    refine iteF ?_
    have hsa2 := s2 _ _ hsa
    have hl2 := hl.to (TK.of s2)
    refine ⟨fun σ' H' => σ' = [some (.int rank), some (.ref wa), some (.ref sa), some lv, some (.int (ws.length : Int)), none] ∧ H' = H2 ∧ ss = [] ∧ ∃ m, like = some m ∧ MoOk m, ?_, ?_⟩
    · rcases hss with ⟨e0, rfl, z, rfl, hz⟩ | ⟨rfl, m, rfl, hm⟩
      · subst e0
        cases (show lv = .non from hl)
        refine ⟨_, rfl, rfl, _, rfl, iteT ?_⟩
        refine ⟨_, rfl, rfl, _, rfl, iteT ?_⟩
        refine ⟨_, rfl, sa, z, rfl, hsa2, hz, fun H3 s3 => ⟨_, rfl, iteT ?_⟩⟩
        exact k _ (s2.trans s3)
      · obtain ⟨la, rfl, hla⟩ := hl2
        refine ⟨_, rfl, rfl, _, rfl, ite2 (fun h => ?_) (fun h => ?_)⟩
        · refine ⟨_, rfl, rfl, _, rfl, iteF ?_⟩
          exact ⟨rfl, rfl, rfl, m, rfl, hm⟩
        · exact ⟨rfl, rfl, rfl, m, rfl, hm⟩
    rintro σ3 H3 ⟨rfl, rfl, rfl, m, rfl, hm⟩
    obtain ⟨la, rfl, hla⟩ := hl2
    refine ⟨_, rfl, sa, rfl, .inl ⟨_, hsa2⟩, fun H4 s4 => ?_⟩
    refine ⟨_, rfl, iteF ?_⟩
    refine ⟨_, rfl, _, _, rfl, .inr (SqT.of (s4 _ _ hsa2)), _, _, rfl, rfl, _, rfl, iteF ?_⟩
    refine ⟨_, rfl, la, m, rfl, s4 _ _ hla, hm, _, rfl, iteT ?_⟩
    exact k _ (s2.trans s4)
abbrev s__may_be_like : Stmt := top 30
theorem sc__may_be_like : FnScope ["rank", "other"] ["rank", "other"] (defScope s__may_be_like) := ⟨rfl, rfl, rfl, by decide +kernel, rfl, by decide +kernel, by decide +kernel⟩
theorem ok__may_be_like {f : Addr} {fd : FuncData} (F : Fun K "_may_be_like" "_may_be_like" s__may_be_like f fd) : FnOk P w K mg base CX0 1 f fd ["rank", "other"] spMayLike := by
  refine F.ok sc__may_be_like (fun vs H Q E h => ?_) (fun cdv A outer s H vs Q E hr h => ?_)
  · obtain ⟨r, o, rfl, _⟩ := h; rfl
  · obtain ⟨r, o, rfl, k⟩ := h
    refine ⟨_, (pss_one (ps_ret (pe_ifExp (pt_cmpR op_eq (pv 0) pe_int (nomark _)) (pe_cmpR op_eq (pv 1) pe_int (nomark _)) (pe_cmpR op_lt (pv 1) (pv 0) (nomark _))))), ?_⟩
    refine ⟨_, rfl, rfl, _, rfl, ite2 (fun h => ?_) (fun h => ?_)⟩
    · have h' : r = 0 := by have := of_decide_eq_true h; injection this
      rw [if_pos h'] at k
      refine ⟨_, rfl, rfl, ?_⟩
      have e : decide (V.int o = V.int 0) = decide (o = 0) := by
        by_cases q : o = 0
        · rw [decide_eq_true q, q]; rfl
        · rw [decide_eq_false q]; exact decide_eq_false fun z => q (by injection z)
      rw [e]; exact k
    · have h' : ¬ r = 0 := fun z => h (by rw [z]; rfl)
      rw [if_neg h'] at k
      exact ⟨_, rfl, _, rfl, _, _, rfl, rfl, k⟩
abbrev s__named_in : Stmt := top 31
theorem sc__named_in : FnScope ["record"] ["record"] (defScope s__named_in) := ⟨rfl, rfl, rfl, by decide +kernel, rfl, by decide +kernel, by decide +kernel⟩
theorem ok__named_in {f : Addr} {fd : FuncData} (F : Fun K "_named_in" "_named_in" s__named_in f fd) : FnOk P w K mg base CX0 1 f fd ["record"] spNamedIn := by
  refine F.ok sc__named_in (fun vs H Q E h => ?_) (fun cdv A outer s H vs Q E hr h => ?_)
  · obtain ⟨v, r, rfl, _⟩ := h; rfl
  · obtain ⟨v, r, rfl, hv, k⟩ := h
    refine ⟨_, (pss_cons (ps_if (pt_cmpR op_eq (pe_ix ix_tup (pv 0) pe_int (fun _ _ => rfl)) pe_str (nomark _)) (pss_one (ps_ret (pe_ifExp (pt_cmpR op_isN (pe_ix ix_tup (pv 0) pe_int (fun _ _ => rfl)) pe_non (nomark _)) (pe_lst pa_nil) (pe_lst (pa_cons (pe_ix ix_tup (pv 0) pe_int (fun _ _ => rfl)) pa_nil))))) pss_nil)
      (pss_cons (ps_if (pt_cmpR op_eq (pe_ix ix_tup (pv 0) pe_int (fun _ _ => rfl)) pe_str (nomark _)) (pss_one (ps_ret (pe_lst (pa_cons (pe_ix ix_tup (pv 0) pe_int (fun _ _ => rfl)) (pa_cons (pe_ix ix_tup (pv 0) pe_int (fun _ _ => rfl)) pa_nil))))) pss_nil)
      (pss_one (ps_ret (pe_lst (pa_cons (pe_ix ix_tup (pv 0) pe_int (fun _ _ => rfl)) pa_nil)))))), ?_⟩
    obtain ⟨t, xs, rfl, ht, rx⟩ := Tp.inv hv
    obtain ⟨v0, a0, t0⟩ := Tp.at (K := K) ht rx r.ds0
    cases Tp.str_inv t0
    refine ⟨_, rfl, _, _, _, _, rfl, rfl, SqT.of ht, a0, rfl, _, rfl, ?_⟩
    rw [sort_nm]
    cases r with
    | nm m rk ws ss l =>
      refine iteT ?_
      obtain ⟨v5, a5, t5⟩ := Tp.at (K := K) (i := 5) (d := oD l) ht rx rfl
      refine ⟨_, rfl, _, _, _, _, rfl, rfl, SqT.of ht, a5, rfl, _, rfl, ?_⟩
      cases l with
      | none =>
        cases t5
        exact iteT ⟨Nat.zero_le _, fun l hl => k _ l (Same.new hl) hl ⟨_, upd_same, .nil⟩⟩
      | some m5 =>
        obtain ⟨b, rfl, hb⟩ := Tp.mo_inv t5
        refine iteF ⟨_, rfl, _, _, _, _, rfl, rfl, SqT.of ht, a5, by show 1 ≤ sizeLine; decide, fun l hl => k _ l (Same.new hl) hl ⟨_, upd_same, .cons (t5.to (TK.new hl)) .nil⟩⟩
    | ch m n z =>
      refine iteF ?_
      obtain ⟨v2, a2, t2⟩ := Tp.at (K := K) (i := 2) (d := mD n) ht rx rfl
      refine ⟨_, rfl, _, _, _, _, rfl, rfl, SqT.of ht, a0, rfl, _, rfl, ?_⟩
      rw [sort_ah]
      exact iteF ⟨_, rfl, _, _, _, _, rfl, rfl, SqT.of ht, a2, by show 1 ≤ sizeLine; decide, fun l hl => k _ l (Same.new hl) hl ⟨_, upd_same, .cons (t2.to (TK.new hl)) .nil⟩⟩
    | st m n z =>
      refine iteF ?_
      obtain ⟨v2, a2, t2⟩ := Tp.at (K := K) (i := 2) (d := mD n) ht rx rfl
      refine ⟨_, rfl, _, _, _, _, rfl, rfl, SqT.of ht, a0, rfl, _, rfl, ?_⟩
      rw [sort_ah]
      exact iteF ⟨_, rfl, _, _, _, _, rfl, rfl, SqT.of ht, a2, by show 1 ≤ sizeLine; decide, fun l hl => k _ l (Same.new hl) hl ⟨_, upd_same, .cons (t2.to (TK.new hl)) .nil⟩⟩
    | ah m n o =>
      refine iteF ?_
      obtain ⟨v2, a2, t2⟩ := Tp.at (K := K) (i := 2) (d := mD n) ht rx rfl
      obtain ⟨v3, a3, t3⟩ := Tp.at (K := K) (i := 3) (d := mD o) ht rx rfl
      refine ⟨_, rfl, _, _, _, _, rfl, rfl, SqT.of ht, a0, rfl, _, rfl, ?_⟩
      rw [sort_ah]
      exact iteT ⟨_, rfl, _, _, _, _, rfl, rfl, SqT.of ht, a2, _, rfl, _, _, _, _, rfl, rfl, SqT.of ht, a3, by show 2 ≤ sizeLine; decide, fun l hl => k _ l (Same.new hl) hl ⟨_, upd_same, .cons (t2.to (TK.new hl)) (.cons (t3.to (TK.new hl)) .nil)⟩⟩
abbrev s_Book___init__ : Stmt := inClass (top 32) 0
theorem sc_Book___init__ : FnScope ["self"] ["self"] (defScope s_Book___init__) := ⟨rfl, rfl, rfl, by decide +kernel, rfl, by decide +kernel, by decide +kernel⟩
theorem ok_Book_init {f : Addr} {fd : FuncData} (F : Fun K "__init__" "Book.__init__" s_Book___init__ f fd) (T : BkT K C) : FnOk P w K mg base CX0 1 f fd ["self"] (spInit C) := by
  refine F.ok sc_Book___init__ (fun vs H Q E h => ?_) (fun cdv A outer s H vs Q E hr h => ?_)
  · obtain ⟨b, dx, rfl, _⟩ := h; rfl
  · obtain ⟨b, dx, rfl, hb, k⟩ := h
    refine ⟨_, (pss_cons (ps_fld (pv 0) pe_dnewT rfl)
      (pss_one (ps_fld (pv 0) pe_dnewT rfl))), ?_⟩
    intro e he
    have nbe : b ≠ e := ne_of_none hb he
    refine ⟨_, rfl, b, C, dx, [], rfl, (by rw [upd_ne nbe]; exact hb), T.cl, T.nE, (by show 0 < 1000; decide), ?_⟩
    intro n hn
    have nbn : b ≠ n := fun z => by subst z; rw [upd_same] at hn; cases hn
    have nen : e ≠ n := fun z => by subst z; rw [upd_ne nbe.symm, upd_same] at hn; cases hn
    have hn0 : H n = none := by rw [upd_ne nbn.symm, upd_ne nen.symm] at hn; exact hn
    refine ⟨_, rfl, b, C, dx, _, rfl, (by rw [upd_ne nbn, upd_same]), T.cl, T.nN, (by show 1 < 1000; decide), ?_⟩
    refine k _ (fun a o na ea => ?_) ⟨dx, e, n, [], [], upd_same, by rw [upd_ne nbe.symm, upd_ne nen, upd_ne nbe.symm, upd_same], by rw [upd_ne nbn.symm, upd_same], nen, .nil, .nil, List.nodup_nil, List.nodup_nil, (fun r hr => by cases hr), (fun r hr => by cases hr)⟩
    rw [upd_ne na, upd_ne (ne_of_none ea hn0), upd_ne na, upd_ne (ne_of_none ea he)]
    exact ea
end
end KN

set_option Elab.async false
set_option linter.all false
set_option maxRecDepth 100000
set_option maxHeartbeats 4000000
namespace KN
open PySem L2
theorem cut_nox {X : Cx} {st : List Stmt} {D : Ends} {σ : St} {H : Hp} (h : ∃ t, PSs X.nox st t ∧ t D σ H) : ∃ t, PSs X st t ∧ t D σ H := let ⟨t, a, b⟩ := h; ⟨t, a.nox, b⟩
def spName (C : Addr) : Sp := fun vs H Q _ => ∃ (b a : Addr) (v : V) (u : Option Mo) (rs : List Row) (r : Row), vs = [.ref b, .ref a, v] ∧ BookAt C H b rs ∧ H a = some (.tup [.int r.mo.1, .int r.mo.2]) ∧ UpV H v u ∧ r ∈ rs ∧ r.isNm = true ∧ upB r.mo u = true ∧
  ∀ x, Tp H x r.d → Q x H
def spRefuse (C : Addr) : Sp := fun vs H Q _ => ∃ (b am an : Addr) (m n : Mo) (rs : List Row), vs = [.ref b, .ref am, .ref an] ∧ BookAt C H b rs ∧ H am = some (.tup [.int m.1, .int m.2]) ∧ H an = some (.tup [.int n.1, .int n.2]) ∧ n ∈ nms rs ∧ ¬ mLt m n ∧ Q .non H
def spRank (C : Addr) : Sp := fun vs H Q _ => ∃ (b a : Addr) (m : Mo) (rk : Int) (ws ss : List Str) (l : Option Mo) (rs : List Row), vs = [.ref b, .ref a] ∧ BookAt C H b rs ∧ H a = some (.tup [.int m.1, .int m.2]) ∧ Row.nm m rk ws ss l ∈ rs ∧ Q (.int rk) H
def spPublish (C : Addr) : Sp := fun vs H Q _ => ∃ (b am wa sa : Addr) (lv : V) (m : Mo) (rank : Int) (ws ss : List Str) (like : Option Mo) (rs : List Row), vs = [.ref b, .ref am, .ref wa, .int rank, .ref sa, lv] ∧ BookAt C H b rs ∧
  H am = some (.tup [.int m.1, .int m.2]) ∧ H wa = some (.tup (ws.map V.str)) ∧ H sa = some (.tup (ss.map V.str)) ∧ UpV H lv like ∧ NmOk rank ws ss like ∧ MoOk m ∧ m ∉ rs.map Row.mo ∧ rs.length ≤ 60 ∧
  (∀ l, like = some l → ¬ mLt m l ∧ ∃ rk ws' ss' l', Row.nm l rk ws' ss' l' ∈ rs ∧ (if rank = 0 then decide (rk = 0) else decide (rk < rank)) = true) ∧
  ∀ H', KD H H' → BookAt C H' b (rs ++ [.nm m rank ws ss like]) → Q .non H'
def spAhead (C : Addr) : Sp := fun vs H Q _ => ∃ (b am an ao : Addr) (m n o : Mo) (rk : Int) (rs : List Row), vs = [.ref b, .ref am, .ref an, .ref ao] ∧ BookAt C H b rs ∧
  H am = some (.tup [.int m.1, .int m.2]) ∧ H an = some (.tup [.int n.1, .int n.2]) ∧ H ao = some (.tup [.int o.1, .int o.2]) ∧ MoOk m ∧ m ∉ rs.map Row.mo ∧ rs.length ≤ 60 ∧ ¬ mLt m n ∧ ¬ mLt m o ∧ n ≠ o ∧
  (∃ ws ss l, Row.nm n rk ws ss l ∈ rs) ∧ (∃ ws ss l, Row.nm o rk ws ss l ∈ rs) ∧ ∀ H', KD H H' → BookAt C H' b (rs ++ [.ah m n o]) → Q .non H'
section
variable {P : Program} {w : World} {K : PySem.W.Frag} {mg : Str → Option Value} {base : Heap} {C : Addr}
abbrev s_Book__keep : Stmt := inClass (top 32) 18
theorem sc_Book__keep : FnScope ["self", "record", "name"] ["self", "record"] (defScope s_Book__keep) := ⟨rfl, rfl, rfl, by decide +kernel, rfl, by decide +kernel, by decide +kernel⟩
theorem ok_Book_keep {f : Addr} {fd : FuncData} (F : Fun K "_keep" "Book._keep" s_Book__keep f fd) (T : BkT K C) (c__named_in : C8.Cal P w K mg base 1 "_named_in" spNamedIn []) : FnOk P w K mg base CX0 2 f fd ["self", "record"] (spKeep C) := by
  refine F.ok sc_Book__keep (fun vs H Q E h => ?_) (fun cdv A outer s H vs Q E hr h => ?_)
  · obtain ⟨b, v, r, rs, rfl, _⟩ := h; rfl
  · obtain ⟨b, v, r, rs, rfl, ⟨dx, e, n, kvs, nkv, B⟩, hv, hm, hok, hn, hnd, h60, k⟩ := h
    have hu := hu_of hr
    refine ⟨_, (pss_cons (ps_dput hu (pe_fld (pv 0) rfl) (pe_ix ix_tup (pv 1) pe_int (fun _ _ => rfl)) (pv 1) rfl)
      (C8.pss_cut (ps_if (pt_cmpR op_eq (pe_ix ix_tup (pv 1) pe_int (fun _ _ => rfl)) pe_str (nomark _)) (pss_one (ps_dput hu (pe_fld (pv 0) rfl) (pe_ix ix_tup (pv 1) pe_int (fun _ _ => rfl)) pe_dnewT rfl)) pss_nil)
      (pss_one (ps_for PassesOwn.never rfl (pi_list (C8.pe_c c__named_in hr (by decide) rfl (pa_cons (pv 1) pa_nil))) (pg_name (i := 2) sc_Book__keep.nd rfl (Or.inl rfl))
      (pss_one (ps_dput hu (pe_dget hu (pe_fld (pv 0) rfl) (pv 2) (fun _ _ => rfl)) (pe_ix ix_tup (pv 1) pe_int (fun _ _ => rfl)) pe_bl rfl)))))), ?_⟩
    obtain ⟨t, xs, rfl, ht, rx⟩ := Tp.inv hv
    obtain ⟨v0, a0, t0⟩ := Tp.at (K := K) ht rx r.ds0
    cases Tp.str_inv t0
    obtain ⟨v1, a1, t1⟩ := Tp.at (K := K) ht rx r.ds1
    obtain ⟨am, rfl, ham⟩ := Tp.mo_inv t1
    have hkl : kvs.length = rs.length := Paired.len B.er
    have hbe : b ≠ e := ne_of B.ob B.en (by intro z; cases z)
    have hbn : b ≠ n := ne_of B.ob B.nb (by intro z; cases z)
    -- self._entries[record[1]] = record
    refine ⟨_, rfl, _, rfl, b, C, dx, _, _, rfl, B.ob, T.cl, T.nE, bf_e _ _, _, rfl, _, _, _, _, rfl, rfl, SqT.of ht, a1, e, _, rfl, DPut.t (k := mK r.mo) B.en ham (by rw [hkl]; exact small1000 (by omega)), ?_⟩
    rw [putK_new _ (B.er.none hm)]
    have kd1 : KD H (upd H e (.dT (kvs ++ [(mK r.mo, V.ref t)]))) := KD.put B.en
    have I1 : (∃ nkv1 : List (List Key × V), True) := ⟨nkv, trivial⟩
    -- a name gets a dict of users
    refine ⟨fun σ' H' => σ' = [some (.ref b), some (.ref t), none] ∧ KD H H' ∧ H' b = some (.ins C dx (bf e n)) ∧ H' e = some (.dT (kvs ++ [(mK r.mo, V.ref t)])) ∧ ∃ nkv1, H' n = some (.dT nkv1) ∧ NamR H' e n (users rs) nkv1 (nms (rs ++ [r])) ∧ (nkv1.map (·.2)).Nodup, ?_, ?_⟩
    · refine ⟨_, rfl, _, _, _, _, rfl, rfl, SqT.of (kd1.tk _ _ ht), a0, rfl, _, rfl, ?_⟩
      rw [sort_nm]
      have n1 : NamR (upd H e (.dT (kvs ++ [(mK r.mo, V.ref t)]))) e n (users rs) nkv (nms rs) := B.nr.off fun u kvs h1 _ h => by rw [upd_ne h1]; exact h
      by_cases hnm : r.isNm = true
      · rw [hnm]
        refine iteT ?_
        intro u0 hu0
        have nu0e : u0 ≠ e := fun z => by subst z; rw [upd_same] at hu0; cases hu0
        have hu00 : H u0 = none := by rw [upd_ne nu0e] at hu0; exact hu0
        have nu0n : u0 ≠ n := (ne_of_none B.nb hu00).symm
        have nu0b : b ≠ u0 := ne_of_none B.ob hu00
        have kd2 : KD H (upd (upd H e (.dT (kvs ++ [(mK r.mo, V.ref t)]))) u0 (.dT [])) := kd1.trans (KD.of (Same.new hu0))
        refine ⟨_, rfl, b, C, dx, _, _, rfl, kd2 _ _ (by intro z; exact nofun) B.ob, T.cl, T.nN, bf_n _ _, _, rfl, _, _, _, _, rfl, rfl, SqT.of (kd2.tk _ _ ht), a1, n, _, rfl, DPut.t (k := mK r.mo) (by rw [upd_ne nu0n.symm, upd_ne B.ne.symm]; exact B.nb) (kd2.tk _ _ ham) (by
          have := Paired.len B.nr; rw [this]; unfold nms; rw [List.length_map]; exact small1000 (Nat.le_trans (List.length_filter_le _ _) (by omega))), ?_⟩
        have hmn : r.mo ∉ nms rs := fun z => hm (nms_sub z)
        rw [putK_new _ (B.nr.none hmn)]
        refine ⟨rfl, fun a o no ea => ?_, by rw [upd_ne hbn, upd_ne nu0b, upd_ne hbe]; exact B.ob, by rw [upd_ne B.ne, upd_ne nu0e.symm, upd_same], _, upd_same, ?_, ?_⟩
        · rw [upd_ne (fun z => by subst z; rw [B.nb] at ea; cases ea; exact no _ rfl)]
          exact kd2 a o no ea
        · rw [nms_app, if_pos hnm]
          refine Paired.snoc (NamR.off n1 fun u kvs h1 h2 h => ?_) ⟨rfl, u0, rfl, ?_, nu0e, nu0n⟩
          · rw [upd_ne h2, upd_ne (ne_of_none h hu0)]; exact h
          · rw [upd_ne nu0n, upd_same]
            have : users rs r.mo = [] := by
              unfold users
              have : (rs.filter fun r' => decide (r.mo ∈ r'.names)) = [] := List.filter_eq_nil_iff.mpr fun r' hr' z => hmn (B.cl r' hr' _ (of_decide_eq_true z))
              rw [this]; rfl
            rw [this]
        · rw [List.map_append]
          refine List.nodup_append.mpr ⟨B.nd, (by simp), fun x hx y hy => ?_⟩
          rw [List.map_singleton, List.mem_singleton] at hy
          subst hy
          intro z
          obtain ⟨u1, e1, _, h1⟩ := n1.snd hx
          rw [z] at e1; cases e1
          rw [h1] at hu0; cases hu0
      · rw [Bool.eq_false_iff.mpr hnm]
        refine iteF ?_
        refine ⟨rfl, kd1, by rw [upd_ne hbe]; exact B.ob, upd_same, nkv, by rw [upd_ne B.ne.symm]; exact B.nb, ?_, B.nd⟩
        rw [nms_app, if_neg hnm, List.append_nil]; exact n1
    rintro σ1 H1 ⟨rfl, kdA, hb1, he1, nkv1, hn1, nr1, nd1⟩
    -- for name in _named_in(record)
    refine ⟨_, rfl, _, r, rfl, hv.to kdA.tk, fun H2 l s2 l0 ⟨lx, hl, rl⟩ => ?_⟩
    have hll : lx.length = r.names.length := by rw [rl.len, List.length_map]
    have md' : ((rs ++ [r]).map Row.mo).Nodup := by
      rw [List.map_append]
      exact List.nodup_append.mpr ⟨B.md, (by simp), fun x hx y hy => by rw [List.map_singleton, List.mem_singleton] at hy; subst hy; exact fun z => hm (z ▸ hx)⟩
    refine ⟨l, rfl, ⟨_, SqL.of hl⟩, for_list (K := K) (a := l) (xs := lx) (fun i σ' H' => ∃ v2 : Option V, σ' = [some (.ref b), some (.ref t), v2] ∧ KD H2 H' ∧ H' b = some (.ins C dx (bf e n)) ∧ H' e = some (.dT (kvs ++ [(mK r.mo, V.ref t)])) ∧ H' n = some (.dT nkv1) ∧
        NamR H' e n (fun m => users rs m ++ (if m ∈ r.names.take i then [(mK r.mo, V.bl true)] else [])) nkv1 (nms (rs ++ [r])))
      ⟨none, rfl, KD.refl _, s2 _ _ hb1, s2 _ _ he1, s2 _ _ hn1, (nr1.off fun u kvs _ _ h => s2 _ _ h).fn fun m _ => by rw [List.take_zero, if_neg (by simp), List.append_nil]⟩
      (fun i σ' H' _ ⟨_, _, kd, _⟩ => SqL.of (kd _ _ (by intro z; exact nofun) hl)) ?_ ?_⟩
    · rintro i x σ3 H3 hi ⟨v2, rfl, kd3, hb3, he3, hn3, nr3⟩
      obtain ⟨d, hd, tx⟩ := rl.getv hi
      rw [List.getElem?_map] at hd
      obtain ⟨nm, hnm, rfl⟩ : ∃ nm, r.names[i]? = some nm ∧ d = mD nm := by
        cases q : r.names[i]? with
        | none => rw [q] at hd; cases hd
        | some nm => rw [q] at hd; exact ⟨nm, rfl, (Option.some.inj hd).symm⟩
      obtain ⟨ax, rfl, hax⟩ := Tp.mo_inv tx
      have tk3 : TK H H3 := kdA.tk.trans ((TK.of s2).trans kd3.tk)
      have hin : nm ∈ nms (rs ++ [r]) := by
        rw [nms_app]; exact List.mem_append_left _ (hn nm (List.mem_of_getElem? hnm))
      obtain ⟨u, hu1, hu2, hu3, hu4⟩ := nr3.get hin
      have hnt : nm ∉ r.names.take i := fun z => by
        obtain ⟨j, hj, ej⟩ := List.getElem_of_mem z
        rw [List.getElem_take] at ej
        rw [List.length_take] at hj
        obtain ⟨h1, h2⟩ := List.getElem?_eq_some_iff.mp hnm
        have := (List.getElem_inj hnd).mp (ej.trans h2.symm)
        omega
      rw [if_neg hnt, List.append_nil] at hu2
      have g3 : DGet H3 n (.ref ax) (some (.ref u)) := by have := DGet.m hn3 (kd3.tk _ _ hax); rw [hu1] at this; exact this
      refine ⟨_, rfl, b, C, dx, _, _, rfl, hb3, T.cl, T.nN, bf_n _ _, _, rfl, n, _, rfl, g3, _, rfl, _, _, _, _, rfl, rfl, SqT.of (tk3 _ _ ht), a1, u, _, rfl, DPut.t (k := mK r.mo) hu2 (tk3 _ _ ham) (Nat.lt_of_le_of_lt (users_le rs nm) (small1000 (by omega))), ?_⟩
      rw [putK_new _ (users_key hm)]
      refine ⟨_, rfl, kd3.trans (KD.put hu2), by rw [upd_ne (ne_of hb3 hu2 (by intro z; cases z))]; exact hb3, by rw [upd_ne hu3.symm]; exact he3, by rw [upd_ne hu4.symm]; exact hn3, ?_⟩
      refine (nr3.put1 nd1 (nms_nd md') hin hu1 _).fn fun m _ => ?_
      by_cases z : m = nm
      · subst z
        rw [if_pos rfl, if_pos (by rw [List.take_add_one, hnm]; exact List.mem_append_right _ (List.mem_singleton.mpr rfl))]
      · rw [if_neg z]
        have : m ∈ r.names.take (i + 1) ↔ m ∈ r.names.take i := by
          rw [List.take_add_one, hnm, List.mem_append, Option.toList_some, List.mem_singleton]
          exact ⟨fun y => y.elim id fun y => absurd y z, .inl⟩
        by_cases y : m ∈ r.names.take i
        · rw [if_pos y, if_pos (this.mpr y)]
        · rw [if_neg y, if_neg (fun q => y (this.mp q))]
    · rintro σ3 H3 ⟨v2, rfl, kd3, hb3, he3, hn3, nr3⟩
      have tk3 : TK H H3 := kdA.tk.trans ((TK.of s2).trans kd3.tk)
      refine k H3 (fun a o no ea => kd3 _ _ no (s2 _ _ (kdA a o no ea))) ⟨dx, e, n, _, nkv1, hb3, he3, hn3, B.ne, Paired.snoc (B.er.to tk3) ⟨rfl, hv.to tk3⟩, nr3.fn fun m _ => ?_, nd1, md', fun x hx => ?_, fun x hx y hy => ?_⟩
      · rw [hll, List.take_length, users_app]
      · rcases List.mem_append.mp hx with h | h
        · exact B.ok x h
        · rw [List.mem_singleton] at h; subst h; exact hok
      · rw [nms_app]
        rcases List.mem_append.mp hx with h | h
        · exact List.mem_append_left _ (B.cl x h y hy)
        · rw [List.mem_singleton] at h; subst h; exact List.mem_append_left _ (hn y hy)
abbrev s_Book__name : Stmt := inClass (top 32) 19
theorem sc_Book__name : FnScope ["self", "name", "upto"] ["self", "name", "upto"] (defScope s_Book__name) := ⟨rfl, rfl, rfl, by decide +kernel, rfl, by decide +kernel, by decide +kernel⟩
theorem ok_Book_name {f : Addr} {fd : FuncData} (F : FunD K "_name" "Book._name" (defArgs s_Book__name) (defBody s_Book__name) (defScope s_Book__name) [] [("upto", V.non)] f fd) (T : BkT K C) (c_is_moment : C8.Cal P w K mg base 2 "is_moment" spMoment []) (c_is_there : C8.Cal P w K mg base 1 "is_there" spThere []) : FnOk P w K mg base CX0 3 f fd ["self", "name", "upto"] (spName C) := by
  refine F.ok sc_Book__name (fun vs H Q E h => ?_) (fun cdv A outer s H vs Q E hr h => ?_)
  · obtain ⟨b, a, v, u, rs, r, rfl, _⟩ := h; rfl
  · obtain ⟨b, a, v, u, rs, r, rfl, ⟨dx, e, n, kvs, nkv, B⟩, ha, hv, hr', hnm, hup, k⟩ := h
    have hu := hu_of hr
    refine cut_nox ⟨_, (pss_cons (ps_if (PW.pt (pw_or (pt_not (pt_val (C8.pe_c c_is_moment hr (by decide) rfl (pa_cons (pv 1) pa_nil)))) (pw_or (pt_cmp (pc_dnotin hu (pv 1) (pe_fld (pv 0) rfl))) (pw_or1 (pt_not (pt_val (C8.pe_c c_is_there hr (by decide) rfl (pa_cons (pv 1) (pa_cons (pv 2) pa_nil))))))))) (pss_one ps_never) pss_nil)
      (pss_one (ps_ret (pe_dget hu (pe_fld (pv 0) rfl) (pv 1) (fun _ _ => rfl))))), ?_⟩
    refine ⟨_, rfl, a, r.mo, rfl, ha, B.ok r hr', _, rfl, iteF ?_⟩
    have hin : r.mo ∈ nms rs := List.mem_map.mpr ⟨r, List.mem_filter.mpr ⟨hr', hnm⟩, rfl⟩
    obtain ⟨u0, h1, _⟩ := B.nr.get hin
    refine ⟨_, rfl, _, rfl, b, C, dx, _, _, rfl, B.ob, T.cl, T.nN, bf_n _ _, n, _, rfl, DGet.m B.nb ha, _, rfl, ?_⟩
    rw [h1]
    refine iteF ?_
    refine ⟨_, rfl, _, rfl, a, r.mo, v, u, rfl, ha, hv, ?_⟩
    rw [hup]
    refine ⟨_, rfl, iteF ?_⟩
    obtain ⟨x, hx, tx⟩ := B.er.get B.md hr'
    have g : DGet H e (.ref a) (some x) := by have := DGet.m B.en ha; rw [hx] at this; exact this
    exact ⟨_, rfl, b, C, dx, _, _, rfl, B.ob, T.cl, T.nE, bf_e _ _, _, rfl, e, x, rfl, g, k x tx⟩
abbrev s_Book__refuse_named : Stmt := inClass (top 32) 20
theorem sc_Book__refuse_named : FnScope ["self", "moment", "name"] ["self", "moment", "name"] (defScope s_Book__refuse_named) := ⟨rfl, rfl, rfl, by decide +kernel, rfl, by decide +kernel, by decide +kernel⟩
theorem ok_Book_refuse_named {f : Addr} {fd : FuncData} (F : Fun K "_refuse_named" "Book._refuse_named" s_Book__refuse_named f fd) (c_Book__name : C8.Met P w K mg base 3 C "_name" (spName C) [.non]) : FnOk P w K mg base CX0 4 f fd ["self", "moment", "name"] (spRefuse C) := by
  refine F.ok sc_Book__refuse_named (fun vs H Q E h => ?_) (fun cdv A outer s H vs Q E hr h => ?_)
  · obtain ⟨b, am, an, m, n, rs, rfl, _⟩ := h; rfl
  · obtain ⟨b, am, an, m, n, rs, rfl, BA, ham, han, hn, hl, k⟩ := h
    refine ⟨_, (pss_cons (ps_expr (C8.pe_mt c_Book__name hr (by decide) (pv 0) (pa_cons (pv 2) pa_nil)))
      (pss_one (ps_if (pt_cmpR (op_gtM hr.units0) (pv 2) (pv 1) (nomark _)) (pss_one ps_never) pss_nil))), ?_⟩
    obtain ⟨dx, e, nn, kvs, nkv, B⟩ := id BA
    obtain ⟨rk, ws, ss, l, hrow⟩ := nms_row hn
    refine ⟨_, rfl, b, dx, _, rfl, B.ob, bf_no _ _ (by decide +kernel) (by decide +kernel), _, rfl, b, an, .non, none, rs, Row.nm n rk ws ss l, rfl, BA, han, rfl, hrow, rfl, rfl, fun x tx => ?_⟩
    refine ⟨_, rfl, _, rfl, an, am, n, m, rfl, rfl, SqT.of han, SqT.of ham, _, rfl, ?_⟩
    rw [decide_eq_false hl]
    exact iteF k
abbrev s_Book_rank : Stmt := inClass (top 32) 9
theorem sc_Book_rank : FnScope ["self", "name"] ["self", "name"] (defScope s_Book_rank) := ⟨rfl, rfl, rfl, by decide +kernel, rfl, by decide +kernel, by decide +kernel⟩
theorem ok_Book_rank {f : Addr} {fd : FuncData} (F : Fun K "rank" "Book.rank" s_Book_rank f fd) (c_Book__name : C8.Met P w K mg base 3 C "_name" (spName C) [.non]) : FnOk P w K mg base CX0 4 f fd ["self", "name"] (spRank C) := by
  refine F.ok sc_Book_rank (fun vs H Q E h => ?_) (fun cdv A outer s H vs Q E hr h => ?_)
  · obtain ⟨b, a, m, rk, ws, ss, l, rs, rfl, _⟩ := h; rfl
  · obtain ⟨b, a, m, rk, ws, ss, l, rs, rfl, BA, ha, hrow, k⟩ := h
    refine ⟨_, (pss_one (ps_ret (pe_ix ix_tup (C8.pe_mt c_Book__name hr (by decide) (pv 0) (pa_cons (pv 1) pa_nil)) pe_int (fun _ _ => rfl)))), ?_⟩
    obtain ⟨dx, e, nn, kvs, nkv, B⟩ := id BA
    refine ⟨_, rfl, b, dx, _, rfl, B.ob, bf_no _ _ (by decide +kernel) (by decide +kernel), _, rfl, b, a, .non, none, rs, Row.nm m rk ws ss l, rfl, BA, ha, rfl, hrow, rfl, rfl, fun x tx => ?_⟩
    obtain ⟨t, xs, rfl, ht, rx⟩ := Tp.inv tx
    obtain ⟨v2, a2, t2⟩ := Tp.at (K := K) (i := 2) (d := .int rk) ht rx rfl
    cases Tp.int_inv t2
    exact ⟨t, _, _, _, rfl, rfl, SqT.of ht, a2, k⟩
abbrev s_Book_publish : Stmt := inClass (top 32) 1
theorem sc_Book_publish : FnScope ["self", "moment", "words", "rank", "sheets", "like", "part"] ["self", "moment", "words", "rank", "sheets", "like"] (defScope s_Book_publish) := ⟨rfl, rfl, rfl, by decide +kernel, rfl, by decide +kernel, by decide +kernel⟩
theorem ok_Book_publish {f : Addr} {fd : FuncData} {kws : List (Str × V)} (F : FunD K "publish" "Book.publish" (defArgs s_Book_publish) (defBody s_Book_publish) (defScope s_Book_publish) [] kws f fd) (T : BkT K C) (m_tuple : mg "tuple" = none)
    (c_refuse_new : C8.Cal P w K mg base 3 "refuse_new" spNew []) (c_bad_name : C8.Cal P w K mg base 3 "bad_name" spBad []) (c__may_be_like : C8.Cal P w K mg base 1 "_may_be_like" spMayLike [])
    (c_Book__refuse_named : C8.Met P w K mg base 4 C "_refuse_named" (spRefuse C) []) (c_Book_rank : C8.Met P w K mg base 4 C "rank" (spRank C) []) (c_Book__keep : C8.Met P w K mg base 2 C "_keep" (spKeep C) []) : FnOk P w K mg base CX0 5 f fd ["self", "moment", "words", "rank", "sheets", "like"] (spPublish C) := by
  refine F.ok sc_Book_publish (fun vs H Q E h => ?_) (fun cdv A outer s H vs Q E hr h => ?_)
  · obtain ⟨b, am, wa, sa, lv, m, rank, ws, ss, like, rs, rfl, _⟩ := h; rfl
  · obtain ⟨b, am, wa, sa, lv, m, rank, ws, ss, like, rs, rfl, BA, ham, hwa, hsa, hlv, hok, hmo, hm, h60, hlk, k⟩ := h
    refine cut_nox ⟨_, (pss_cons (ps_expr (C8.pe_c c_refuse_new hr (by decide) rfl (pa_cons (pv 1) (pa_cons (pe_fld (pv 0) rfl) pa_nil))))
      (pss_cons (ps_set (i := 6) sc_Book_publish.nd rfl (Or.inl rfl) (C8.pe_c c_bad_name hr (by decide) rfl (pa_cons (pv 3) (pa_cons (pv 2) (pa_cons (pv 4) (pa_cons (pv 5) pa_nil))))))
      (pss_cons (ps_if (pt_cmpR op_notN (pv 6) pe_non (nomark _)) (pss_one ps_never) pss_nil)
      (C8.pss_cut (ps_if (pt_cmpR op_notN (pv 5) pe_non (nomark _)) (pss_cons (ps_expr (C8.pe_mt c_Book__refuse_named hr (by decide) (pv 0) (pa_cons (pv 1) (pa_cons (pv 5) pa_nil))))
      (pss_one (ps_if (pt_not (pt_val (C8.pe_c c__may_be_like hr (by decide) rfl (pa_cons (pv 3) (pa_cons (C8.pe_mt c_Book_rank hr (by decide) (pv 0) (pa_cons (pv 5) pa_nil)) pa_nil))))) (pss_one ps_never) pss_nil))) pss_nil)
      (pss_one (ps_expr (C8.pe_mt c_Book__keep hr (by decide) (pv 0) (pa_cons (pe_tup (pa_cons pe_str (pa_cons (pv 1) (pa_cons (pv 3) (pa_cons (pv 2) (pa_cons (pe_callTy call_tuple_of (by rfl) m_tuple (by decide +kernel) (pa_cons (pv 4) pa_nil)) (pa_cons (pv 5) pa_nil))))))) pa_nil)))))))), ?_⟩
    obtain ⟨dx, e, nn, kvs, nkv, B⟩ := id BA
    refine ⟨_, rfl, _, rfl, b, C, dx, _, _, rfl, B.ob, T.cl, T.nE, bf_e _ _, am, e, m, kvs, rfl, ham, hmo, B.en, B.er.none hm, ?_⟩
    refine ⟨_, rfl, _, rfl, _, rfl, _, rfl, rank, wa, sa, lv, ws, ss, like, rfl, hwa, hsa, hlv, hok, fun H1 s1 => ?_⟩
    refine ⟨_, rfl, rfl, _, rfl, iteF ?_⟩
    have BA1 := BA.keep (KB.of s1)
    have B1 := B.keep (KB.of s1)
    refine ⟨fun σ' H' => σ' = [some (.ref b), some (.ref am), some (.ref wa), some (.int rank), some (.ref sa), some lv, some .non] ∧ H' = H1, ?_, ?_⟩
    · cases like with
      | none =>
        cases (show lv = .non from hlv)
        exact ⟨_, rfl, rfl, _, rfl, iteF ⟨rfl, rfl⟩⟩
      | some l =>
        obtain ⟨la, rfl, hla⟩ := hlv
        obtain ⟨hlm, rk, ws', ss', l', hrow, hrk⟩ := hlk l rfl
        refine ⟨_, rfl, rfl, _, rfl, iteT ?_⟩
        refine ⟨_, rfl, b, dx, _, rfl, B1.ob, bf_no _ _ (by decide +kernel) (by decide +kernel), _, rfl, _, rfl, b, am, la, m, l, rs, rfl, BA1, s1 _ _ ham, s1 _ _ hla, row_nms hrow, hlm, ?_⟩
        refine ⟨_, rfl, _, rfl, b, dx, _, rfl, B1.ob, bf_no _ _ (by decide +kernel) (by decide +kernel), _, rfl, b, la, l, rk, ws', ss', l', rs, rfl, BA1, s1 _ _ hla, hrow, ?_⟩
        refine ⟨_, _, rfl, ?_⟩
        rw [hrk]
        exact ⟨_, rfl, iteF ⟨rfl, rfl⟩⟩
    rintro σ2 H2 ⟨rfl, rfl⟩
    refine ⟨_, rfl, b, dx, _, rfl, B1.ob, bf_no _ _ (by decide +kernel) (by decide +kernel), _, rfl, _, rfl, _, rfl, _, rfl, sa, _, rfl, .inr ⟨SqT.of (s1 _ _ hsa), ?_⟩⟩
    refine ⟨_, rfl, by show 6 ≤ sizeLine; decide, fun t ht => ?_⟩
    have s3 : Same H2 (upd H2 t (.tup [.str "name", .ref am, .int rank, .ref wa, .ref sa, lv])) := Same.new ht
    have s13 := s1.trans s3
    have tl : Tp (upd H2 t (.tup [.str "name", .ref am, .int rank, .ref wa, .ref sa, lv])) lv (oD like) := by
      cases like with
      | none => cases (show lv = .non from hlv); exact .non
      | some l => obtain ⟨la, rfl, hla⟩ := hlv; exact Tp.mo (s13 _ _ hla)
    refine ⟨b, .ref t, .nm m rank ws ss like, rs, rfl, BA1.keep (KB.of s3), .tup upd_same (.cons (.str _) (.cons (Tp.mo (s13 _ _ ham)) (.cons (.int _) (.cons (.tup (s13 _ _ hwa) (TpAll.strs ws)) (.cons (.tup (s13 _ _ hsa) (TpAll.strs ss)) (.cons tl .nil)))))), hm, hmo, fun n hn => ?_, ?_, h60, fun H4 k4 B4 => ?_⟩
    · cases like with
      | none => cases hn
      | some l =>
        have : n = l := by simpa [Row.names] using hn
        subst this
        obtain ⟨_, rk, ws', ss', l', hrow, _⟩ := hlk _ rfl
        exact row_nms hrow
    · cases like <;> simp [Row.names]
    · exact k H4 (fun a o no ea => k4 a o no (s13 a o ea)) B4
abbrev s_Book_ahead : Stmt := inClass (top 32) 4
theorem sc_Book_ahead : FnScope ["self", "moment", "name", "other"] ["self", "moment", "name", "other"] (defScope s_Book_ahead) := ⟨rfl, rfl, rfl, by decide +kernel, rfl, by decide +kernel, by decide +kernel⟩
theorem ok_Book_ahead {f : Addr} {fd : FuncData} (F : Fun K "ahead" "Book.ahead" s_Book_ahead f fd) (T : BkT K C)
    (c_refuse_new : C8.Cal P w K mg base 3 "refuse_new" spNew []) (c_Book__refuse_named : C8.Met P w K mg base 4 C "_refuse_named" (spRefuse C) []) (c_Book_rank : C8.Met P w K mg base 4 C "rank" (spRank C) []) (c_Book__keep : C8.Met P w K mg base 2 C "_keep" (spKeep C) []) : FnOk P w K mg base CX0 5 f fd ["self", "moment", "name", "other"] (spAhead C) := by
  refine F.ok sc_Book_ahead (fun vs H Q E h => ?_) (fun cdv A outer s H vs Q E hr h => ?_)
  · obtain ⟨b, am, an, ao, m, n, o, rk, rs, rfl, _⟩ := h; rfl
  · obtain ⟨b, am, an, ao, m, n, o, rk, rs, rfl, BA, ham, han, hao, hmo, hm, h60, hln, hlo, hno, ⟨ws, ss, l, hn⟩, ⟨ws', ss', l', ho⟩, k⟩ := h
    refine ⟨_, (pss_cons (ps_expr (C8.pe_c c_refuse_new hr (by decide) rfl (pa_cons (pv 1) (pa_cons (pe_fld (pv 0) rfl) pa_nil))))
      (pss_cons (ps_expr (C8.pe_mt c_Book__refuse_named hr (by decide) (pv 0) (pa_cons (pv 1) (pa_cons (pv 2) pa_nil))))
      (pss_cons (ps_expr (C8.pe_mt c_Book__refuse_named hr (by decide) (pv 0) (pa_cons (pv 1) (pa_cons (pv 3) pa_nil))))
      (pss_cons (ps_if (PW.pt (pw_or (pt_cmpR (op_eqD hr.units) (pv 2) (pv 3) (nomark _)) (pw_or1 (pt_cmpR op_ne (C8.pe_mt c_Book_rank hr (by decide) (pv 0) (pa_cons (pv 2) pa_nil)) (C8.pe_mt c_Book_rank hr (by decide) (pv 0) (pa_cons (pv 3) pa_nil)) (nomark _))))) (pss_one ps_never) pss_nil)
      (pss_one (ps_expr (C8.pe_mt c_Book__keep hr (by decide) (pv 0) (pa_cons (pe_tup (pa_cons pe_str (pa_cons (pv 1) (pa_cons (pv 2) (pa_cons (pv 3) pa_nil))))) pa_nil)))))))), ?_⟩
    obtain ⟨dx, e, nn, kvs, nkv, B⟩ := id BA
    have x1 := bf_no e nn (m := "_refuse_named") (by decide +kernel) (by decide +kernel)
    have x2 := bf_no e nn (m := "rank") (by decide +kernel) (by decide +kernel)
    have x3 := bf_no e nn (m := "_keep") (by decide +kernel) (by decide +kernel)
    refine ⟨_, rfl, _, rfl, b, C, dx, _, _, rfl, B.ob, T.cl, T.nE, bf_e _ _, am, e, m, kvs, rfl, ham, hmo, B.en, B.er.none hm, ?_⟩
    refine ⟨_, rfl, b, dx, _, rfl, B.ob, x1, _, rfl, _, rfl, b, am, an, m, n, rs, rfl, BA, ham, han, row_nms hn, hln, ?_⟩
    refine ⟨_, rfl, b, dx, _, rfl, B.ob, x1, _, rfl, _, rfl, b, am, ao, m, o, rs, rfl, BA, ham, hao, row_nms ho, hlo, ?_⟩
    refine ⟨_, rfl, _, rfl, _, _, (Tp.mo han).d, (Tp.mo hao).d, shaped_m _, shaped_m _, _, rfl, ?_⟩
    rw [eqv_m, decide_eq_false hno]
    refine iteF ?_
    refine ⟨_, rfl, b, dx, _, rfl, B.ob, x2, _, rfl, b, an, n, rk, ws, ss, l, rs, rfl, BA, han, hn, ?_⟩
    refine ⟨_, rfl, b, dx, _, rfl, B.ob, x2, _, rfl, b, ao, o, rk, ws', ss', l', rs, rfl, BA, hao, ho, ?_⟩
    refine ⟨rfl, _, rfl, ?_⟩
    rw [decide_eq_true rfl]
    refine iteF ?_
    refine ⟨_, rfl, b, dx, _, rfl, B.ob, x3, _, rfl, _, rfl, _, rfl, by show 4 ≤ sizeLine; decide, fun t ht => ?_⟩
    have s3 : Same H (upd H t (.tup [.str "ahead", .ref am, .ref an, .ref ao])) := Same.new ht
    refine ⟨b, .ref t, .ah m n o, rs, rfl, BA.keep (KB.of s3), .tup upd_same (.cons (.str _) (.cons (Tp.mo (s3 _ _ ham)) (.cons (Tp.mo (s3 _ _ han)) (.cons (Tp.mo (s3 _ _ hao)) .nil)))), hm, hmo, fun x hx => ?_, ?_, h60, fun H4 k4 B4 => ?_⟩
    · rcases List.mem_cons.mp hx with rfl | hx
      · exact row_nms hn
      · rw [List.mem_singleton] at hx; subst hx; exact row_nms ho
    · show ([n, o] : List Mo).Nodup
      simp [hno]
    · exact k H4 (fun a o no ea => k4 a o no (s3 a o ea)) B4
end
end KN

set_option Elab.async false
set_option linter.all false
set_option maxRecDepth 100000
set_option maxHeartbeats 4000000
namespace KN
open PySem L2
theorem perm_map {α β : Type} {f : α → β} {l₁ l₂ : List β} (p : l₁.Perm l₂) : ∀ k : List α, l₂ = k.map f → ∃ l : List α, l.Perm k ∧ l.map f = l₁ := by
  induction p with
  | nil => intro k e; exact ⟨k, .refl _, e.symm⟩
  | cons x _ ih =>
    intro k e
    cases k with
    | nil => cases e
    | cons a k =>
      rw [List.map_cons] at e
      injection e with e1 e2
      obtain ⟨l, h1, h2⟩ := ih k e2
      exact ⟨a :: l, h1.cons a, by rw [List.map_cons, h2, e1]⟩
  | swap x y l =>
    intro k e
    match k, e with
    | a :: b :: k, e =>
      rw [List.map_cons, List.map_cons] at e
      injection e with e1 e2
      injection e2 with e2 e3
      exact ⟨b :: a :: k, .swap a b k, by rw [List.map_cons, List.map_cons, e1, e2, e3]⟩
  | trans _ _ ih1 ih2 =>
    intro k e
    obtain ⟨l, h1, h2⟩ := ih2 k e
    obtain ⟨l', h3, h4⟩ := ih1 l h2.symm
    exact ⟨l', h3.trans h1, h4⟩
theorem mLt_tot {a b : Mo} (h : ¬ mLt b a) (n : a ≠ b) : mLt a b := by
  unfold mLt at *
  have : ¬ (a.1 = b.1 ∧ a.2 = b.2) := fun z => n (Prod.ext z.1 z.2)
  omega
/-- rows rising by their moments -/
def Rise (rs : List Row) : Prop := rs.Pairwise fun x y => mLt x.mo y.mo
def spEntries (C : Addr) : Sp := fun vs H Q _ => ∃ (b : Addr) (v : V) (u : Option Mo) (rs : List Row), vs = [.ref b, v] ∧ BookAt C H b rs ∧ UpV H v u ∧ rs.length < 64 ∧
  ∀ (H' : Hp) (l : Addr) (srt : List Row), Same H H' → H l = none → srt.Perm rs → Rise srt → Ls H' l ((srt.filter fun r => upB r.mo u).map Row.d) → Q (.ref l) H'
open Classical in
noncomputable def ahStep (told : List Lnk) (r : Row) : List Lnk := match r with
  | .ah m n o => if Rch told o n then told else told ++ [(m, n, o)]
  | _ => told
theorem ahStep_yes {told : List Lnk} {m n o : Mo} (h : Rch told o n) : ahStep told (.ah m n o) = told := by
  unfold ahStep; exact if_pos h
theorem ahStep_no {told : List Lnk} {m n o : Mo} (h : ¬ Rch told o n) : ahStep told (.ah m n o) = told ++ [(m, n, o)] := by
  unfold ahStep; exact if_neg h
/-- the aheads that do something, of rising rows -/
noncomputable def ahF (rs : List Row) : List Lnk := rs.foldl ahStep []
theorem ahF_snoc (rs : List Row) (r : Row) : ahF (rs ++ [r]) = ahStep (ahF rs) r := by
  unfold ahF; rw [List.foldl_append]; rfl
theorem ahF_len (rs : List Row) : (ahF rs).length ≤ rs.length := by
  unfold ahF
  have g : ∀ (rs : List Row) (t : List Lnk), (rs.foldl ahStep t).length ≤ t.length + rs.length := by
    intro rs
    induction rs with
    | nil => intro t; exact Nat.le_refl _
    | cons r rs ih =>
      intro t
      have h := ih (ahStep t r)
      have : (ahStep t r).length ≤ t.length + 1 := by
        unfold ahStep
        split
        · split
          · omega
          · rw [List.length_append]; exact Nat.le_refl _
        · omega
      rw [List.foldl_cons, List.length_cons]; omega
  have := g rs []
  rw [List.length_nil] at this; omega
def spAheads (C : Addr) : Sp := fun vs H Q _ => ∃ (b : Addr) (v : V) (u : Option Mo) (rs : List Row), vs = [.ref b, v] ∧ BookAt C H b rs ∧ UpV H v u ∧ rs.length < 64 ∧
  ∀ (H' : Hp) (l : Addr) (srt : List Row), Same H H' → H l = none → srt.Perm rs → Rise srt → Ls H' l ((ahF (srt.filter fun r => upB r.mo u)).map lD) → Q (.ref l) H'
/-- an entry that is no name is dropped -/
def spDrop (C : Addr) : Sp := fun vs H Q _ => ∃ (b a : Addr) (r : Row) (rs : List Row), vs = [.ref b, .ref a] ∧ BookAt C H b rs ∧ H a = some (.tup [.int r.mo.1, .int r.mo.2]) ∧ r ∈ rs ∧ r.isNm = false ∧ r.names.Nodup ∧
  ∀ H', KD H H' → BookAt C H' b (rs.filter fun x => decide (x.mo ≠ r.mo)) → Q .non H'
section
variable {P : Program} {w : World} {K : PySem.W.Frag} {mg : Str → Option Value} {base : Heap} {C : Addr}
abbrev s_Book_entries : Stmt := inClass (top 32) 6
theorem sc_Book_entries : FnScope ["self", "upto", "moment"] ["self", "upto"] (defScope s_Book_entries) := ⟨rfl, rfl, rfl, by decide +kernel, rfl, by decide +kernel, by decide +kernel⟩
theorem ok_Book_entries {f : Addr} {fd : FuncData} {kws : List (Str × V)} (F : FunD K "entries" "Book.entries" (defArgs s_Book_entries) (defBody s_Book_entries) (defScope s_Book_entries) [] kws f fd) (T : BkT K C) (m_sorted : mg "sorted" = none) (c_is_there : C8.Cal P w K mg base 1 "is_there" spThere []) : FnOk P w K mg base CX0 2 f fd ["self", "upto"] (spEntries C) := by
  refine F.ok sc_Book_entries (fun vs H Q E h => ?_) (fun cdv A outer s H vs Q E hr h => ?_)
  · obtain ⟨b, v, u, rs, rfl, _⟩ := h; rfl
  · obtain ⟨b, v, u, rs, rfl, ⟨dx, e, n, kvs, nkv, B⟩, hv, h64, k⟩ := h
    have hu := hu_of hr
    refine cut_nox ⟨_, (pss_one (ps_ret (pe_lc (own := [("moment", 2)]) (g := gName 2) rfl sc_Book_entries.nd (pi_list (pe_callB (cr_sortedDM rfl) (by rfl) m_sorted (by decide +kernel) (pa_cons (pe_fld (pv 0) rfl) pa_nil))) (blkOk_by (own := [("moment", 2)]) (N := ["self", "upto", "moment"]) (sc := defScope s_Book_entries) (by decide +kernel)) (fun _ _ _ _ _ => pg_name (i := 2) sc_Book_entries.nd rfl (Or.inl rfl)) (fun _ _ _ _ _ => (pts_one (pt_val (C8.pe_c c_is_there hr (by decide) rfl (pa_cons (pv 2) (pa_cons (pv 1) pa_nil)))))) (fun _ _ _ _ _ => (pe_dget (by exact hu) (pe_fldK K (pv 0) rfl) (pv 2) (fun _ _ => rfl)))))), ?_⟩
    refine ⟨_, rfl, b, C, dx, _, _, rfl, B.ob, T.cl, T.nE, bf_e _ _, e, kvs, rs.map Row.mo, rfl, Rd.of B.en, B.er.keys, by rw [List.length_map]; exact h64, fun m hm => ?_, fun ys ns p hp hpw hl hys hp0 => ?_⟩
    · obtain ⟨r, hr', rfl⟩ := List.mem_map.mp hm; exact B.ok r hr'
    obtain ⟨srt, sp, sm⟩ := perm_map hp rs rfl
    have rise : Rise srt := by
      have nd : (srt.map Row.mo).Nodup := (sp.map Row.mo).nodup_iff.mpr B.md
      rw [← sm] at hpw
      have h1 := List.pairwise_map.mp hpw
      have h2 := List.pairwise_map.mp nd
      exact List.Pairwise.imp₂ (fun a b h k => mLt_tot h k) h1 h2
    have s1 : Same H (upd H p (.lst (ys.map V.ref))) := Same.new hp0
    have hyl : ys.length = srt.length := by rw [hl, ← sm, List.length_map]
    refine ⟨p, rfl, ⟨_, SqL.of upd_same⟩, fun D hD => ?_⟩
    refine lc_list (K := K) (a := p) (xs := ys.map V.ref) (fun i H' => Same (upd H p (.lst (ys.map V.ref))) H' ∧ Ls H' D (((srt.take i).filter fun r => upB r.mo u).map Row.d))
      ⟨Same.new hD, [], upd_same, by rw [List.take_zero]; exact .nil⟩ (fun i H' _ q => SqL.of (q.1 _ _ upd_same)) ?_ ?_
    · rintro i x H2 hi ⟨s2, xs, hx, rx⟩
      rw [List.getElem?_map] at hi
      obtain ⟨a, ha, rfl⟩ : ∃ a, ys[i]? = some a ∧ x = .ref a := by
        cases q : ys[i]? with
        | none => rw [q] at hi; cases hi
        | some a => rw [q] at hi; exact ⟨a, rfl, (Option.some.inj hi).symm⟩
      obtain ⟨m, hm, ham⟩ := hys i a ha
      rw [← sm, List.getElem?_map] at hm
      obtain ⟨r, hr1, rfl⟩ : ∃ r, srt[i]? = some r ∧ m = r.mo := by
        cases q : srt[i]? with
        | none => rw [q] at hm; cases hm
        | some r => rw [q] at hm; exact ⟨r, rfl, (Option.some.inj hm).symm⟩
      have hrs : r ∈ rs := sp.mem_iff.mp (List.mem_of_getElem? hr1)
      have ham2 := s2 _ _ (s1 _ _ ham)
      have sH2 := s1.trans s2
      refine ⟨rfl, _, rfl, _, rfl, a, r.mo, v, u, rfl, ham2, hv.to (TK.of sH2), ?_⟩
      have step : ((srt.take (i + 1)).filter fun r => upB r.mo u) = ((srt.take i).filter fun r => upB r.mo u) ++ (if upB r.mo u = true then [r] else []) := by
        rw [List.take_add_one, hr1, List.filter_append]
        congr 1
        by_cases q : upB r.mo u = true
        · simp [q]
        · simp [q]
      by_cases q : upB r.mo u = true
      · rw [q]
        refine ⟨_, rfl, iteT ?_⟩
        obtain ⟨z, hz, tz⟩ := B.er.get B.md hrs
        have g : DGet H2 e (.ref a) (some z) := by have := DGet.m (sH2 _ _ B.en) ham2; rw [hz] at this; exact this
        have hxl : xs.length ≤ 64 := by rw [rx.len, List.length_map]; have := List.length_filter_le (fun r => upB (Row.mo r) u) (srt.take i); have := List.length_take_le' i srt; have := sp.length_eq; omega
        refine ⟨_, rfl, b, C, dx, _, _, rfl, sH2 _ _ B.ob, T.cl, T.nE, bf_e _ _, _, rfl, e, z, rfl, g, xs, hx, small1000 (by omega), fun c o ec => ?_, _, upd_same, ?_⟩
        · rw [upd_ne (ne_of_none ec hD)]; exact s2 _ _ ec
        · rw [step, if_pos q, List.map_append]
          exact (rx.to (TK.put hx (by intro z; exact nofun))).snoc ((tz.to (TK.of sH2)).to (TK.put hx (by intro z; exact nofun)))
      · rw [Bool.eq_false_iff.mpr q]
        refine ⟨_, rfl, iteF ?_⟩
        refine ⟨s2, xs, hx, ?_⟩
        rw [step, if_neg q, List.append_nil]; exact rx
    · rintro H2 ⟨s2, ls⟩
      rw [List.length_map, hyl, List.take_length] at ls
      exact k H2 D srt (s1.trans s2) (s1.free hD) sp rise ls
abbrev s_Book_aheads : Stmt := inClass (top 32) 16
theorem sc_Book_aheads : FnScope ["self", "upto", "told", "record"] ["self", "upto"] (defScope s_Book_aheads) := ⟨rfl, rfl, rfl, by decide +kernel, rfl, by decide +kernel, by decide +kernel⟩
theorem ok_Book_aheads {f : Addr} {fd : FuncData} {kws : List (Str × V)} (F : FunD K "aheads" "Book.aheads" (defArgs s_Book_aheads) (defBody s_Book_aheads) (defScope s_Book_aheads) [] kws f fd) (T : BkT K C)
    (c_Book_entries_upto : MetK P w K mg base 2 C "entries" (spEntries C) 1 ["upto"] (fun vs zs => vs ++ zs)) (c_chain : C8.Cal P w K mg base 2 "chain" spChain []) : FnOk P w K mg base CX0 3 f fd ["self", "upto"] (spAheads C) := by
  refine F.ok sc_Book_aheads (fun vs H Q E h => ?_) (fun cdv A outer s H vs Q E hr h => ?_)
  · obtain ⟨b, v, u, rs, rfl, _⟩ := h; rfl
  · obtain ⟨b, v, u, rs, rfl, BA, hv, h64, k⟩ := h
    have hu := hu_of hr
    refine cut_nox ⟨_, (pss_cons (ps_set (i := 2) sc_Book_aheads.nd rfl (Or.inl rfl) (pe_lst pa_nil))
      (pss_cons (ps_for PassesOwn.never rfl (pi_list (pe_mtK0 c_Book_entries_upto hr (by decide) (pv 0) (pk_cons (pv 1) pk_nil))) (pg_name (i := 3) sc_Book_aheads.nd rfl (Or.inl rfl))
      (pss_one (ps_if (PW.pt (pw_and (pt_cmpR op_eq (pe_ix ix_tup (pv 3) pe_int (fun _ _ => rfl)) pe_str (nomark _)) (pw_and1 (pt_cmpR op_isN (C8.pe_c c_chain hr (by decide) rfl (pa_cons (pv 2) (pa_cons (pe_ix ix_tup (pv 3) pe_int (fun _ _ => rfl)) (pa_cons (pe_ix ix_tup (pv 3) pe_int (fun _ _ => rfl)) pa_nil)))) pe_non (nomark _))))) (pss_one (ps_expr (pe_bm PySem.F.plainAttrs_list PySem.F.slot_list_append PySem.F.type_list_append mt_append (pv 2) (pa_cons (pe_slice sl_tupA (pv 3) (po_some pe_int) po_none) pa_nil)))) pss_nil)))
      (pss_one (ps_ret (pv 2))))), ?_⟩
    refine ⟨Nat.zero_le _, fun F0 hF => ?_⟩
    have s1 : Same H (upd H F0 (.lst [])) := Same.new hF
    obtain ⟨dx, e, n, kvs, nkv, B⟩ := BA.keep (KB.of s1)
    refine ⟨_, rfl, b, dx, _, rfl, B.ob, bf_no _ _ (by decide +kernel) (by decide +kernel), _, rfl, rfl, rfl, b, v, u, rs, rfl, ⟨dx, e, n, kvs, nkv, B⟩, hv.to (TK.of s1), h64, fun H2 l srt s2 l0 sp rise ⟨lx, hl, rl⟩ => ?_⟩
    have nlF : l ≠ F0 := fun z => by subst z; rw [upd_same] at l0; cases l0
    have hF2 : H2 F0 = some (.lst []) := s2 _ _ upd_same
    have s12 : Same H H2 := s1.trans s2
    have hll : lx.length = (srt.filter fun r => upB r.mo u).length := by rw [rl.len, List.length_map]
    have hL64 : (srt.filter fun r => upB r.mo u).length < 64 := Nat.lt_of_le_of_lt (List.length_filter_le _ _) (by rw [sp.length_eq]; exact h64)
    generalize hLdef : (srt.filter fun r => upB r.mo u) = L at rl hll hL64
    refine ⟨l, rfl, ⟨_, SqL.of hl⟩, for_list (K := K) (a := l) (xs := lx) (fun i σ' H' => ∃ v3 : Option V, σ' = [some (.ref b), some v, some (.ref F0), v3] ∧ (∀ a o, a ≠ F0 → H2 a = some o → H' a = some o) ∧ Ls H' F0 ((ahF (L.take i)).map lD))
      ⟨none, rfl, fun a o _ h => h, _, hF2, by rw [List.take_zero]; exact .nil⟩ (fun i σ' H' _ ⟨_, _, q, _⟩ => SqL.of (q _ _ nlF hl)) ?_ ?_⟩
    · rintro i x σ3 H3 hi ⟨v3, rfl, k3, tx, ht3, rt3⟩
      obtain ⟨d, hd, tx3⟩ := rl.getv hi
      rw [List.getElem?_map] at hd
      obtain ⟨r, hr1, rfl⟩ : ∃ r, L[i]? = some r ∧ d = r.d := by
        cases q : L[i]? with
        | none => rw [q] at hd; cases hd
        | some r => rw [q] at hd; exact ⟨r, rfl, (Option.some.inj hd).symm⟩
      have hiL : i < L.length := (List.getElem?_eq_some_iff.mp hr1).1
      have tk3 : TK H2 H3 := fun a ys ea => k3 a _ (fun z => by subst z; rw [hF2] at ea; cases ea) ea
      obtain ⟨t, xs, rfl, ht, rx⟩ := Tp.inv (tx3.to tk3)
      obtain ⟨v0, a0, t0⟩ := Tp.at (K := K) ht rx r.ds0
      cases Tp.str_inv t0
      have step : L.take (i + 1) = L.take i ++ [r] := by rw [List.take_add_one, hr1]; rfl
      refine ⟨_, rfl, _, _, _, _, rfl, rfl, SqT.of ht, a0, rfl, _, rfl, ?_⟩
      rw [sort_ah]
      cases r with
      | ah m nn o =>
        refine iteT ?_
        obtain ⟨v1, a1, t1⟩ := Tp.at (K := K) (i := 1) (d := mD m) ht rx rfl
        obtain ⟨v2, a2, t2⟩ := Tp.at (K := K) (i := 2) (d := mD nn) ht rx rfl
        obtain ⟨v4, a4, t4⟩ := Tp.at (K := K) (i := 3) (d := mD o) ht rx rfl
        obtain ⟨a_n, rfl, han⟩ := Tp.mo_inv t2
        obtain ⟨a_o, rfl, hao⟩ := Tp.mo_inv t4
        have hlen3 : (ahF (L.take i)).length ≤ 64 := Nat.le_trans (ahF_len _) (by rw [List.length_take]; omega)
        refine ⟨_, rfl, _, rfl, _, _, _, _, rfl, rfl, SqT.of ht, a4, _, rfl, _, _, _, _, rfl, rfl, SqT.of ht, a2, F0, a_o, a_n, o, nn, ahF (L.take i), rfl, ⟨tx, ht3, rt3⟩, by omega, hao, han, fun H4 v5 s4 hv5 => ?_⟩
        refine ⟨rfl, _, rfl, ?_⟩
        by_cases q : Rch (ahF (L.take i)) o nn
        · have : v5 ≠ .non := fun z => hv5.mp z q
          rw [decide_eq_false this]
          refine iteF ⟨_, rfl, fun a oo na ea => s4 _ _ (k3 a oo na ea), ?_⟩
          rw [step, ahF_snoc]
          rw [ahStep_yes q]
          exact Ls.to ⟨tx, ht3, rt3⟩ s4
        · rw [decide_eq_true (hv5.mpr q)]
          refine iteT ?_
          have htx : xs.length = 4 := by rw [rx.len]; rfl
          refine ⟨_, rfl, .inl ⟨rfl, _, SqL.of (s4 _ _ ht3)⟩, _, rfl, _, rfl, t, xs, rfl, SqT.of (s4 _ _ ht), fun z => ?_, fun _ t' ht' => ?_⟩
          · exfalso
            have h1 := z.1
            rw [show (some (1 : Int)) = some ((1 : Nat) : Int) from rfl, HT.sIx_nat, htx] at h1
            omega
          have cut : cutV xs (some 1) none = xs.drop 1 := by
            unfold cutV
            rw [show (some (1 : Int)) = some ((1 : Nat) : Int) from rfl, HT.sIx_nat, HT.sIx_none, htx, show min 1 4 = 1 from rfl]
            exact List.take_of_length_le (by rw [List.length_drop]; omega)
          rw [cut]
          have nFt : F0 ≠ t' := ne_of_none (s4 _ _ ht3) ht'
          refine ⟨F0, _, _, rfl, rfl, by rw [upd_ne nFt]; exact s4 _ _ ht3, by rw [rt3.len, List.length_map]; exact small1000 (by omega), ?_⟩
          refine ⟨_, rfl, fun a oo na ea => ?_, _, upd_same, ?_⟩
          · rw [upd_ne na, upd_ne (ne_of_none (s4 _ _ (k3 a oo na ea)) ht')]
            exact s4 _ _ (k3 a oo na ea)
          · rw [step, ahF_snoc]
            rw [ahStep_no q, List.map_append]
            have tkf : TK H3 (upd (upd H4 t' (.tup (xs.drop 1))) F0 (.lst (tx ++ [.ref t']))) := (TK.of s4).trans ((TK.new ht').trans (TK.put (u := .lst tx) (by rw [upd_ne nFt]; exact s4 _ _ ht3) (by intro z; exact nofun)))
            refine (rt3.to tkf).snoc (.tup (by rw [upd_ne nFt.symm, upd_same]) ?_)
            exact (TpAll.drop 1 rx).to tkf
      | nm m rk ws ss lk =>
        refine iteF ⟨_, rfl, k3, ?_⟩
        rw [step, ahF_snoc]; exact ⟨tx, ht3, rt3⟩
      | ch m nn z =>
        refine iteF ⟨_, rfl, k3, ?_⟩
        rw [step, ahF_snoc]; exact ⟨tx, ht3, rt3⟩
      | st m nn z =>
        refine iteF ⟨_, rfl, k3, ?_⟩
        rw [step, ahF_snoc]; exact ⟨tx, ht3, rt3⟩
    · rintro σ3 H3 ⟨v3, rfl, k3, ls3⟩
      rw [hll, List.take_length, ← hLdef] at ls3
      exact ⟨_, rfl, k H3 F0 srt (fun a o ea => k3 a o (ne_of_none ea hF) (s12 a o ea)) hF sp rise ls3⟩
abbrev s_Book_drop : Stmt := inClass (top 32) 5
theorem sc_Book_drop : FnScope ["self", "moment", "users", "name"] ["self", "moment"] (defScope s_Book_drop) := ⟨rfl, rfl, rfl, by decide +kernel, rfl, by decide +kernel, by decide +kernel⟩
theorem ok_Book_drop {f : Addr} {fd : FuncData} (F : Fun K "drop" "Book.drop" s_Book_drop f fd) (T : BkT K C) (c_refuse_missing : C8.Cal P w K mg base 3 "refuse_missing" spMissing []) (c__named_in : C8.Cal P w K mg base 1 "_named_in" spNamedIn []) : FnOk P w K mg base CX0 4 f fd ["self", "moment"] (spDrop C) := by
  refine F.ok sc_Book_drop (fun vs H Q E h => ?_) (fun cdv A outer s H vs Q E hr h => ?_)
  · obtain ⟨b, a, r, rs, rfl, _⟩ := h; rfl
  · obtain ⟨b, a, r, rs, rfl, ⟨dx, e, n, kvs, nkv, B⟩, ha, hrs, hnm, hnd, k⟩ := h
    have hu := hu_of hr
    refine ⟨_, (pss_cons (ps_expr (C8.pe_c c_refuse_missing hr (by decide) rfl (pa_cons (pv 1) (pa_cons (pe_fld (pv 0) rfl) pa_nil))))
      (pss_cons (ps_set (i := 2) sc_Book_drop.nd rfl (Or.inl rfl) (pe_dget2 hu (pe_fld (pv 0) rfl) (pv 1) pe_dnewK ⟨rfl, rfl, rfl, rfl⟩))
      (pss_cons (ps_if (pt_truth (pv 2) (by intro _; rfl)) (pss_one ps_never) pss_nil)
      (pss_cons (ps_for PassesOwn.never rfl (pi_list (C8.pe_c c__named_in hr (by decide) rfl (pa_cons (pe_dget hu (pe_fld (pv 0) rfl) (pv 1) (fun _ _ => rfl)) pa_nil))) (pg_name (i := 3) sc_Book_drop.nd rfl (Or.inl rfl))
      (pss_one (ps_ddelT hu (pe_dget hu (pe_fld (pv 0) rfl) (pv 3) (fun _ _ => rfl)) (pv 1))))
      (pss_cons (ps_if (pt_cmp (pc_din hu (pv 1) (pe_fld (pv 0) rfl))) (pss_one (ps_ddelT hu (pe_fld (pv 0) rfl) (pv 1))) pss_nil)
      (pss_one (ps_ddelT hu (pe_fld (pv 0) rfl) (pv 1)))))))), ?_⟩
    obtain ⟨z, hz, tz⟩ := B.er.get B.md hrs
    have g : DGet H e (.ref a) (some z) := by have := DGet.m B.en ha; rw [hz] at this; exact this
    have hmn : r.mo ∉ nms rs := fun y => by
      obtain ⟨r', h1, h2⟩ := List.mem_map.mp y
      obtain ⟨h3, h4⟩ := List.mem_filter.mp h1
      obtain ⟨i, hi, ei⟩ := List.getElem_of_mem h3
      obtain ⟨j, hj, ej⟩ := List.getElem_of_mem hrs
      have : i = j := by
        refine (List.getElem_inj (h₀ := by rw [List.length_map]; exact hi) (h₁ := by rw [List.length_map]; exact hj) B.md).mp ?_
        rw [List.getElem_map, List.getElem_map, ei, ej]; exact h2
      subst this
      rw [ei] at ej; subst ej; rw [hnm] at h4; cases h4
    have none_n : valV nkv (mK r.mo) = none := B.nr.none hmn
    refine ⟨_, rfl, _, rfl, b, C, dx, _, _, rfl, B.ob, T.cl, T.nE, bf_e _ _, a, e, r.mo, kvs, rfl, ha, B.ok r hrs, B.en, by rw [hz]; rfl, ?_⟩
    -- users = self._named_by.get(moment, {})
    refine ⟨_, rfl, b, C, dx, _, _, rfl, B.ob, T.cl, T.nN, bf_n _ _, n, rfl, .inr ⟨nkv, Rd.of B.nb⟩, _, rfl, fun U hU => ?_⟩
    have sU : Same H (upd H U (.dK [])) := Same.new hU
    refine ⟨_, DGet.m (sU _ _ B.nb) (sU _ _ ha), ?_⟩
    rw [none_n]
    refine ⟨_, rfl, _, .inr (.inr ⟨[], upd_same, rfl⟩), iteF ?_⟩
    -- for name in _named_in(..)
    have gU : DGet (upd H U (.dK [])) e (.ref a) (some z) := by have := DGet.m (sU _ _ B.en) (sU _ _ ha); rw [hz] at this; exact this
    refine ⟨_, rfl, b, C, dx, _, _, rfl, sU _ _ B.ob, T.cl, T.nE, bf_e _ _, _, rfl, e, z, rfl, gU, z, r, rfl, tz.to (TK.of sU), fun H2 l s2 l0 ⟨lx, hl, rl⟩ => ?_⟩
    have s02 := sU.trans s2
    have hll : lx.length = r.names.length := by rw [rl.len, List.length_map]
    have hel : (nkv.map (·.2)).Nodup := B.nd
    refine ⟨l, rfl, ⟨_, SqL.of hl⟩, for_list (K := K) (a := l) (xs := lx) (fun i σ' H' => ∃ v3 : Option V, σ' = [some (.ref b), some (.ref a), some (.ref U), v3] ∧ KD H2 H' ∧ H' b = some (.ins C dx (bf e n)) ∧ H' e = some (.dT kvs) ∧ H' n = some (.dT nkv) ∧
        NamR H' e n (fun m => if m ∈ r.names.take i then dropK (users rs m) (mK r.mo) else users rs m) nkv (nms rs))
      ⟨none, rfl, KD.refl _, s02 _ _ B.ob, s02 _ _ B.en, s02 _ _ B.nb, (B.nr.off fun u kvs _ _ h => s02 _ _ h).fn fun m _ => by rw [List.take_zero, if_neg (by simp)]⟩
      (fun i σ' H' _ ⟨_, _, kd, _⟩ => SqL.of (kd _ _ (by intro z; exact nofun) hl)) ?_ ?_⟩
    · rintro i x σ3 H3 hi ⟨v3, rfl, kd3, hb3, he3, hn3, nr3⟩
      obtain ⟨d, hd, tx⟩ := rl.getv hi
      rw [List.getElem?_map] at hd
      obtain ⟨nm, hnm', rfl⟩ : ∃ nm, r.names[i]? = some nm ∧ d = mD nm := by
        cases q : r.names[i]? with
        | none => rw [q] at hd; cases hd
        | some nm => rw [q] at hd; exact ⟨nm, rfl, (Option.some.inj hd).symm⟩
      obtain ⟨ax, rfl, hax⟩ := Tp.mo_inv tx
      have hin := B.cl r hrs nm (List.mem_of_getElem? hnm')
      obtain ⟨u, hu1, hu2, hu3, hu4⟩ := nr3.get hin
      have hnt : nm ∉ r.names.take i := fun z => by
        obtain ⟨j, hj, ej⟩ := List.getElem_of_mem z
        rw [List.getElem_take] at ej
        rw [List.length_take] at hj
        obtain ⟨h1, h2⟩ := List.getElem?_eq_some_iff.mp hnm'
        have := (List.getElem_inj hnd).mp (ej.trans h2.symm)
        omega
      rw [if_neg hnt] at hu2
      have g3 : DGet H3 n (.ref ax) (some (.ref u)) := by have := DGet.m hn3 (kd3.tk _ _ hax); rw [hu1] at this; exact this
      refine ⟨_, rfl, b, C, dx, _, _, rfl, hb3, T.cl, T.nN, bf_n _ _, _, rfl, n, _, rfl, g3, _, rfl, u, a, _, mK r.mo, rfl, hu2, rfl, kd3.tk _ _ (s02 _ _ ha), users_has hrs (List.mem_of_getElem? hnm'), ?_⟩
      refine ⟨_, rfl, kd3.trans (KD.put hu2), by rw [upd_ne (ne_of hb3 hu2 (by intro z; cases z))]; exact hb3, by rw [upd_ne hu3.symm]; exact he3, by rw [upd_ne hu4.symm]; exact hn3, ?_⟩
      refine (nr3.put1 hel (nms_nd B.md) hin hu1 _).fn fun m _ => ?_
      by_cases z : m = nm
      · subst z
        rw [if_pos rfl, if_pos (by rw [List.take_add_one, hnm']; exact List.mem_append_right _ (List.mem_singleton.mpr rfl))]
      · rw [if_neg z]
        have : m ∈ r.names.take (i + 1) ↔ m ∈ r.names.take i := by
          rw [List.take_add_one, hnm', List.mem_append, Option.toList_some, List.mem_singleton]
          exact ⟨fun y => y.elim id fun y => absurd y z, .inl⟩
        by_cases y : m ∈ r.names.take i
        · rw [if_pos y, if_pos (this.mpr y)]
        · rw [if_neg y, if_neg (fun q => y (this.mp q))]
    · rintro σ3 H3 ⟨v3, rfl, kd3, hb3, he3, hn3, nr3⟩
      have tk3 : TK H H3 := (TK.of s02).trans kd3.tk
      have ha3 := tk3 _ _ ha
      refine ⟨_, rfl, _, rfl, b, C, dx, _, _, rfl, hb3, T.cl, T.nN, bf_n _ _, n, _, rfl, DGet.m hn3 ha3, _, rfl, ?_⟩
      rw [none_n]
      refine iteF ?_
      refine ⟨_, rfl, b, C, dx, _, _, rfl, hb3, T.cl, T.nE, bf_e _ _, _, rfl, e, a, kvs, mK r.mo, rfl, he3, rfl, ha3, by rw [hz]; rfl, ?_⟩
      have hbe : b ≠ e := ne_of hb3 he3 (by intro z; cases z)
      have nmsf : nms (rs.filter fun x => decide (x.mo ≠ r.mo)) = nms rs := by
        unfold nms
        rw [List.filter_filter]
        congr 1
        refine List.filter_congr fun x hx => ?_
        by_cases q : x.isNm = true
        · have : x.mo ≠ r.mo := fun y => hmn (y ▸ List.mem_map.mpr ⟨x, List.mem_filter.mpr ⟨hx, q⟩, rfl⟩)
          simp [q, this]
        · simp [q]
      have fin := nr3.fn (g := users (rs.filter fun x => decide (x.mo ≠ r.mo))) fun m hm => by
        rw [hll, List.take_length]
        by_cases q : m ∈ r.names
        · rw [if_pos q]; exact users_drop m r.mo
        · rw [if_neg q, ← users_drop]
          exact (dropK_no fun y => by
            obtain ⟨p, hp, ep⟩ := List.mem_map.mp y
            obtain ⟨x, hx, rfl⟩ := List.mem_map.mp hp
            obtain ⟨h1, h2⟩ := List.mem_filter.mp hx
            obtain ⟨i, hi, ei⟩ := List.getElem_of_mem h1
            obtain ⟨j, hj, ej⟩ := List.getElem_of_mem hrs
            have : i = j := by
              refine (List.getElem_inj (h₀ := by rw [List.length_map]; exact hi) (h₁ := by rw [List.length_map]; exact hj) B.md).mp ?_
              rw [List.getElem_map, List.getElem_map, ei, ej]; exact mK_inj ep
            subst this
            rw [ei] at ej; subst ej
            exact q (of_decide_eq_true h2)).symm
      refine k _ (fun x o no ex => KD.put he3 _ _ no (kd3 _ _ no (s02 _ _ ex))) ⟨dx, e, n, _, nkv, by rw [upd_ne hbe]; exact hb3, upd_same, by rw [upd_ne B.ne.symm]; exact hn3, B.ne, ?_, ?_, B.nd, ?_, fun x hx => B.ok x (List.mem_filter.mp hx).1, fun x hx y hy => ?_⟩
      · exact (B.er.drop r.mo).to (tk3.trans (KD.put he3).tk)
      · rw [nmsf]
        exact fin.off fun u kvs h1 _ h => by rw [upd_ne h1]; exact h
      · exact List.Nodup.sublist (List.Sublist.map _ List.filter_sublist) B.md
      · rw [nmsf]; exact B.cl x (List.mem_filter.mp hx).1 y hy
end
end KN

set_option Elab.async false
set_option linter.all false
set_option maxRecDepth 100000
set_option maxHeartbeats 4000000
namespace KN
open PySem L2
/-! ### lists of data -/
theorem depthAll_le {k : Nat} : ∀ {ds : List PyData}, (∀ d ∈ ds, d.depth ≤ k) → PyData.depthAll ds ≤ k
  | [], _ => by simp [PyData.depthAll]
  | d :: ds, h => by
    have h1 := h d List.mem_cons_self
    have h2 := depthAll_le (ds := ds) fun x hx => h x (List.mem_cons_of_mem _ hx)
    simp only [PyData.depthAll]; omega
theorem shaped_list {ds : List PyData} (h : ∀ d ∈ ds, okD d = true ∧ d.depth ≤ 60) : SeqAt.shaped (.list ds) = true := by
  refine shaped_of (by simpa [okD] using okDs_all.mpr fun d hd => (h d hd).1) ?_
  have := depthAll_le fun d hd => (h d hd).2
  simp only [PyData.depth]; omega
theorem depth_m (m : Mo) : (mD m).depth ≤ 60 := by simp [mD, PyData.depth, PyData.depthAll]
theorem depth_l (l : Lnk) : (lD l).depth ≤ 60 := by simp [lD, mD, PyData.depth, PyData.depthAll]
theorem shaped_ms (ns : List Mo) : SeqAt.shaped (.list (ns.map mD)) = true := shaped_list fun d hd => by
  obtain ⟨m, _, rfl⟩ := List.mem_map.mp hd; exact ⟨rfl, depth_m m⟩
theorem shaped_ls (ls : List Lnk) : SeqAt.shaped (.list (ls.map lD)) = true := shaped_list fun d hd => by
  obtain ⟨m, _, rfl⟩ := List.mem_map.mp hd; exact ⟨rfl, depth_l m⟩
theorem shaped_l (l : Lnk) : SeqAt.shaped (lD l) = true := shaped_of rfl (by have := depth_l l; omega)
theorem any_m (m : Mo) (ns : List Mo) : ((ns.map mD).any fun z => PyData.eqv z (mD m)) = decide (m ∈ ns) := by
  have h : ((ns.map mD).any fun z => PyData.eqv z (mD m)) = true ↔ m ∈ ns := by
    rw [any_eqv rfl (okDs_all.mpr fun d hd => by obtain ⟨x, _, rfl⟩ := List.mem_map.mp hd; rfl), List.mem_map]
    exact ⟨fun ⟨x, hx, e⟩ => by rw [mD_inj e] at hx; exact hx, fun h => ⟨m, h, rfl⟩⟩
  by_cases q : m ∈ ns
  · rw [decide_eq_true q]; exact h.mpr q
  · rw [decide_eq_false q]; exact Bool.eq_false_iff.mpr fun z => q (h.mp z)
theorem any_l (l : Lnk) (ls : List Lnk) : ((ls.map lD).any fun z => PyData.eqv z (lD l)) = decide (l ∈ ls) := by
  have h : ((ls.map lD).any fun z => PyData.eqv z (lD l)) = true ↔ l ∈ ls := by
    rw [any_eqv rfl (okDs_all.mpr fun d hd => by obtain ⟨x, _, rfl⟩ := List.mem_map.mp hd; rfl), List.mem_map]
    exact ⟨fun ⟨x, hx, e⟩ => by rw [lD_inj e] at hx; exact hx, fun h => ⟨l, h, rfl⟩⟩
  by_cases q : l ∈ ls
  · rw [decide_eq_true q]; exact h.mpr q
  · rw [decide_eq_false q]; exact Bool.eq_false_iff.mpr fun z => q (h.mp z)
/-- a part of a list read with its data -/
theorem Ls.get {K : PySem.W.Frag} {H : Hp} {a : Addr} {ds : List PyData} {xs : List V} {i : Nat} {x : V} (hx : xs[i]? = some x) (r : TpAll H xs ds) : ∃ d, ds[i]? = some d ∧ Tp H x d := r.getv hx

/-! ### what may be told to a book -/
def CanTell (rs : List Row) (r : Row) : Prop := MoOk r.mo ∧ r.mo ∉ rs.map Row.mo ∧ rs.length ≤ 60 ∧ match r with
  | .nm m rank ws ss like => NmOk rank ws ss like ∧ ∀ l, like = some l → ¬ mLt m l ∧ ∃ rk ws' ss' l', Row.nm l rk ws' ss' l' ∈ rs ∧ (if rank = 0 then decide (rk = 0) else decide (rk < rank)) = true
  | .ah m n o => ¬ mLt m n ∧ ¬ mLt m o ∧ n ≠ o ∧ ∃ rk, (∃ ws ss l, Row.nm n rk ws ss l ∈ rs) ∧ ∃ ws ss l, Row.nm o rk ws ss l ∈ rs
  | _ => False
def spTell (C : Addr) : Sp := fun vs H Q _ => ∃ (b : Addr) (v : V) (r : Row) (rs : List Row), vs = [.ref b, v] ∧ BookAt C H b rs ∧ Tp H v r.d ∧ CanTell rs r ∧ ∀ H', KD H H' → BookAt C H' b (rs ++ [r]) → Q .non H'
def spBookOf (C : Addr) : Sp := fun vs H Q _ => ∃ (a : Addr) (rs : List Row), vs = [.ref a] ∧ Ls H a (rs.map Row.d) ∧ (∀ i r, rs[i]? = some r → CanTell (rs.take i) r) ∧ ∀ H' b, KD H H' → H b = none → BookAt C H' b rs → Q (.ref b) H'
def spThereR : Sp := fun vs H Q _ => ∃ (a : Addr) (v : V) (u : Option Mo) (rs : List Row), vs = [.ref a, v] ∧ Ls H a (rs.map Row.d) ∧ UpV H v u ∧ rs.length ≤ 500 ∧ ∀ (H' : Hp) (l : Addr), Same H H' → H l = none → Ls H' l ((rs.filter fun r => upB r.mo u).map Row.d) → Q (.ref l) H'
def spReached : Sp := fun vs H Q _ => ∃ (a st : Addr) (s : Mo) (ls : List Lnk), vs = [.ref a, .ref st] ∧ Ls H a (ls.map lD) ∧ ls.length ≤ 500 ∧ H st = some (.tup [.int s.1, .int s.2]) ∧
  ∀ (H' : Hp) (l : Addr) (ns : List Mo), Same H H' → Ls H' l (ns.map mD) → (∀ g, g ∈ ns ↔ Rch ls s g) → Q (.ref l) H'
def spAheadsR : Sp := fun vs H Q _ => ∃ (a : Addr) (v : V) (u : Option Mo) (rs : List Row), vs = [.ref a, v] ∧ Ls H a (rs.map Row.d) ∧ UpV H v u ∧ rs.length ≤ 64 ∧ ∀ (H' : Hp) (l : Addr), Same H H' → H l = none → Ls H' l ((ahF (rs.filter fun r => upB r.mo u)).map lD) → Q (.ref l) H'
def spRing : Sp := fun vs H Q _ => ∃ (a : Addr) (ls : List Lnk), vs = [.ref a] ∧ Ls H a (ls.map lD) ∧ ls.length ≤ 500 ∧ ∀ (H' : Hp) (k : Bool), Same H H' → (k = true ↔ Ring ls) → Q (.bl k) H'
/-- rows of a book as parts of a tuple -/
theorem Tp.tstr {H : Hp} {v : V} {ss : List Str} (h : Tp H v (.tuple (ss.map PyData.str))) : ∃ a, v = .ref a ∧ H a = some (.tup (ss.map V.str)) := by
  obtain ⟨a, xs, rfl, e, r⟩ := Tp.inv h
  rw [TpAll.of_strs r] at e
  exact ⟨a, rfl, e⟩
theorem Tp.up {H : Hp} {v : V} {u : Option Mo} (h : Tp H v (oD u)) : UpV H v u := by
  cases u with
  | none => cases h; rfl
  | some m => exact Tp.mo_inv h
section
variable {P : Program} {w : World} {K : PySem.W.Frag} {mg : Str → Option Value} {base : Heap} {C : Addr}
abbrev s__law_tell : Stmt := top 38
theorem sc__law_tell : FnScope ["_law_book_here", "_law_row"] ["_law_book_here", "_law_row"] (defScope s__law_tell) := ⟨rfl, rfl, rfl, by decide +kernel, rfl, by decide +kernel, by decide +kernel⟩
theorem ok__law_tell {f : Addr} {fd : FuncData} (F : Fun K "_law_tell" "_law_tell" s__law_tell f fd) (c_Book_publish_rank_sheets_like : MetK P w K mg base 5 C "publish" (spPublish C) 3 ["rank", "sheets", "like"] (fun vs zs => vs ++ zs)) (c_Book_ahead : C8.Met P w K mg base 5 C "ahead" (spAhead C) []) : FnOk P w K mg base CX0 6 f fd ["_law_book_here", "_law_row"] (spTell C) := by
  refine F.ok sc__law_tell (fun vs H Q E h => ?_) (fun cdv A outer s H vs Q E hr h => ?_)
  · obtain ⟨b, v, r, rs, rfl, _⟩ := h; rfl
  · obtain ⟨b, v, r, rs, rfl, BA, hv, ⟨hmo, hm, h60, hc⟩, k⟩ := h
    refine ⟨_, (pss_one (ps_if (pt_cmpR op_eq (pe_ix ix_tup (pv 1) pe_int (fun _ _ => rfl)) pe_str (nomark _)) (pss_one (ps_expr (pe_mtK c_Book_publish_rank_sheets_like hr (by decide) (pv 0) (pa_cons (pe_ix ix_tup (pv 1) pe_int (fun _ _ => rfl)) (pa_cons (pe_ix ix_tup (pv 1) pe_int (fun _ _ => rfl)) pa_nil)) (pk_cons (pe_ix ix_tup (pv 1) pe_int (fun _ _ => rfl)) (pk_cons (pe_ix ix_tup (pv 1) pe_int (fun _ _ => rfl)) (pk_cons (pe_ix ix_tup (pv 1) pe_int (fun _ _ => rfl)) pk_nil)))))) (pss_one (ps_if (pt_cmpR op_eq (pe_ix ix_tup (pv 1) pe_int (fun _ _ => rfl)) pe_str (nomark _)) (pss_one ps_never) (pss_one (ps_if (pt_cmpR op_eq (pe_ix ix_tup (pv 1) pe_int (fun _ _ => rfl)) pe_str (nomark _)) (pss_one ps_never) (pss_one (ps_expr (C8.pe_mt c_Book_ahead hr (by decide) (pv 0) (pa_cons (pe_ix ix_tup (pv 1) pe_int (fun _ _ => rfl)) (pa_cons (pe_ix ix_tup (pv 1) pe_int (fun _ _ => rfl)) (pa_cons (pe_ix ix_tup (pv 1) pe_int (fun _ _ => rfl)) pa_nil)))))))))))), ?_⟩
    obtain ⟨dx, e, nn, kvs, nkv, B⟩ := id BA
    obtain ⟨t, xs, rfl, ht, rx⟩ := Tp.inv hv
    obtain ⟨v0, a0, t0⟩ := Tp.at (K := K) ht rx r.ds0
    cases Tp.str_inv t0
    refine ⟨_, rfl, _, _, _, _, rfl, rfl, SqT.of ht, a0, rfl, _, rfl, ?_⟩
    rw [sort_nm]
    cases r with
    | nm m rank ws ss like =>
      refine iteT ?_
      obtain ⟨v1, a1, t1⟩ := Tp.at (K := K) (i := 1) (d := mD m) ht rx rfl
      obtain ⟨v2, a2, t2⟩ := Tp.at (K := K) (i := 2) (d := .int rank) ht rx rfl
      obtain ⟨v3, a3, t3⟩ := Tp.at (K := K) (i := 3) (d := .tuple (ws.map PyData.str)) ht rx rfl
      obtain ⟨v4, a4, t4⟩ := Tp.at (K := K) (i := 4) (d := .tuple (ss.map PyData.str)) ht rx rfl
      obtain ⟨v5, a5, t5⟩ := Tp.at (K := K) (i := 5) (d := oD like) ht rx rfl
      obtain ⟨am, rfl, ham⟩ := Tp.mo_inv t1
      cases Tp.int_inv t2
      obtain ⟨wa, rfl, hwa⟩ := Tp.tstr t3
      obtain ⟨sa, rfl, hsa⟩ := Tp.tstr t4
      refine ⟨_, rfl, b, dx, _, rfl, B.ob, bf_no _ _ (by decide +kernel) (by decide +kernel), _, rfl, _, _, _, _, rfl, rfl, SqT.of ht, a1, _, rfl, _, _, _, _, rfl, rfl, SqT.of ht, a3, _, rfl, _, _, _, _, rfl, rfl, SqT.of ht, a2, _, rfl, _, _, _, _, rfl, rfl, SqT.of ht, a4, _, rfl, _, _, _, _, rfl, rfl, SqT.of ht, a5, rfl, rfl, ?_⟩
      exact ⟨b, am, wa, sa, v5, m, rank, ws, ss, like, rs, rfl, BA, ham, hwa, hsa, t5.up, hc.1, hmo, hm, h60, hc.2, k⟩
    | ah m n o =>
      refine iteF ?_
      have nch : decide (V.str (Row.ah m n o).sort = V.str "choice") = false := decide_eq_false fun z => by
        have h1 : ¬ ("ahead" : Str) = "choice" := by decide +kernel
        exact h1 (by injection z)
      have nst : decide (V.str (Row.ah m n o).sort = V.str "strike") = false := decide_eq_false fun z => by
        have h1 : ¬ ("ahead" : Str) = "strike" := by decide +kernel
        exact h1 (by injection z)
      refine ⟨_, rfl, _, _, _, _, rfl, rfl, SqT.of ht, a0, rfl, _, rfl, ?_⟩
      rw [nch]
      refine iteF ?_
      refine ⟨_, rfl, _, _, _, _, rfl, rfl, SqT.of ht, a0, rfl, _, rfl, ?_⟩
      rw [nst]
      refine iteF ?_
      obtain ⟨v1, a1, t1⟩ := Tp.at (K := K) (i := 1) (d := mD m) ht rx rfl
      obtain ⟨v2, a2, t2⟩ := Tp.at (K := K) (i := 2) (d := mD n) ht rx rfl
      obtain ⟨v3, a3, t3⟩ := Tp.at (K := K) (i := 3) (d := mD o) ht rx rfl
      obtain ⟨am, rfl, ham⟩ := Tp.mo_inv t1
      obtain ⟨an, rfl, han⟩ := Tp.mo_inv t2
      obtain ⟨ao, rfl, hao⟩ := Tp.mo_inv t3
      obtain ⟨h1, h2, h3, rk, h4, h5⟩ := hc
      refine ⟨_, rfl, b, dx, _, rfl, B.ob, bf_no _ _ (by decide +kernel) (by decide +kernel), _, rfl, _, _, _, _, rfl, rfl, SqT.of ht, a1, _, rfl, _, _, _, _, rfl, rfl, SqT.of ht, a2, _, rfl, _, _, _, _, rfl, rfl, SqT.of ht, a3, ?_⟩
      exact ⟨b, am, an, ao, m, n, o, rk, rs, rfl, BA, ham, han, hao, hmo, hm, h60, h1, h2, h3, h4, h5, k⟩
    | ch m n z => exact hc.elim
    | st m n z => exact hc.elim
abbrev s__law_book : Stmt := top 39
theorem sc__law_book : FnScope ["_law_rows", "_law_book_here", "_law_row"] ["_law_rows"] (defScope s__law_book) := ⟨rfl, rfl, rfl, by decide +kernel, rfl, by decide +kernel, by decide +kernel⟩
theorem ok__law_book {f : Addr} {fd : FuncData} (F : Fun K "_law_book" "_law_book" s__law_book f fd) (c_Book : C8.Mak P w K mg base 1 "Book" C (spInit C) []) (c__law_tell : C8.Cal P w K mg base 6 "_law_tell" (spTell C) []) : FnOk P w K mg base CX0 7 f fd ["_law_rows"] (spBookOf C) := by
  refine F.ok sc__law_book (fun vs H Q E h => ?_) (fun cdv A outer s H vs Q E hr h => ?_)
  · obtain ⟨a, rs, rfl, _⟩ := h; rfl
  · obtain ⟨a, rs, rfl, ⟨xs, hx, rx⟩, hc, k⟩ := h
    refine ⟨_, (pss_cons (ps_set (i := 1) sc__law_book.nd rfl (Or.inl rfl) (pe_mk0 c_Book hr (by decide) rfl))
      (pss_cons (ps_for PassesOwn.never rfl (pi_list (pv 0)) (pg_name (i := 2) sc__law_book.nd rfl (Or.inl rfl))
      (pss_one (ps_expr (C8.pe_c c__law_tell hr (by decide) rfl (pa_cons (pv 1) (pa_cons (pv 2) pa_nil))))))
      (pss_one (ps_ret (pv 1))))), ?_⟩
    intro b dx nb ndx nex
    have s0 : Same H (upd (upd H dx (.own b)) b (.ins C dx [])) := fun x o e => by
      rw [upd_ne (ne_of_none e nb), upd_ne (ne_of_none e ndx)]; exact e
    refine ⟨b, dx, rfl, upd_same, fun H1 kp B1 => ⟨rfl, ?_⟩⟩
    have s1 : Same H H1 := fun x o e => kp x o (ne_of_none e nb) (s0 x o e)
    refine ⟨_, rfl, a, rfl, ⟨_, SqL.of (s1 _ _ hx)⟩, for_list (K := K) (a := a) (xs := xs) (fun i σ' H' => ∃ v2 : Option V, σ' = [some (.ref a), some (.ref b), v2] ∧ KD H H' ∧ BookAt C H' b (rs.take i))
      ⟨none, rfl, KD.of s1, B1⟩ (fun i σ' H' _ ⟨_, _, kd, _⟩ => SqL.of (kd _ _ (by intro z; exact nofun) hx)) ?_ ?_⟩
    · rintro i x σ2 H2 hi ⟨v2, rfl, kd2, B2⟩
      obtain ⟨d, hd, tx⟩ := rx.getv hi
      rw [List.getElem?_map] at hd
      obtain ⟨r, hr1, rfl⟩ : ∃ r, rs[i]? = some r ∧ d = r.d := by
        cases q : rs[i]? with
        | none => rw [q] at hd; cases hd
        | some r => rw [q] at hd; exact ⟨r, rfl, (Option.some.inj hd).symm⟩
      refine ⟨_, rfl, _, rfl, b, x, r, _, rfl, B2, tx.to kd2.tk, hc i r hr1, fun H3 kd3 B3 => ⟨_, rfl, kd2.trans kd3, ?_⟩⟩
      rw [List.take_add_one, hr1]; exact B3
    · rintro σ2 H2 ⟨v2, rfl, kd2, B2⟩
      rw [rx.len, List.length_map, List.take_length] at B2
      exact ⟨_, rfl, k H2 b kd2 nb B2⟩
abbrev s__law_there : Stmt := top 40
theorem sc__law_there : FnScope ["_law_rows", "_law_until_here", "_law_row"] ["_law_rows", "_law_until_here"] (defScope s__law_there) := ⟨rfl, rfl, rfl, by decide +kernel, rfl, by decide +kernel, by decide +kernel⟩
theorem ok__law_there {f : Addr} {fd : FuncData} (F : Fun K "_law_there" "_law_there" s__law_there f fd) : FnOk P w K mg base CX0 1 f fd ["_law_rows", "_law_until_here"] spThereR := by
  refine F.ok sc__law_there (fun vs H Q E h => ?_) (fun cdv A outer s H vs Q E hr h => ?_)
  · obtain ⟨a, v, u, rs, rfl, _⟩ := h; rfl
  · obtain ⟨a, v, u, rs, rfl, ⟨xs, hx, rx⟩, hv, h500, k⟩ := h
    refine ⟨_, (pss_one (ps_ret (pe_lc (own := [("_law_row", 2)]) (g := gName 2) rfl sc__law_there.nd (pi_list (pv 0)) (blkOk_by (own := [("_law_row", 2)]) (N := ["_law_rows", "_law_until_here", "_law_row"]) (sc := defScope s__law_there) (by decide +kernel)) (fun _ _ _ _ _ => pg_name (i := 2) sc__law_there.nd rfl (Or.inl rfl)) (fun _ _ _ _ _ => (pts_one (PW.pt (pw_or (pt_cmpR op_isN (pv 1) pe_non (nomark _)) (pw_or1 (pt_cmpR (op_leTK K hr.units0) (pe_ix (ix_tupK K) (pv 2) pe_int (fun _ _ => rfl)) (pv 1) (nomark _))))))) (fun _ _ _ _ _ => (pv 2))))), ?_⟩
    refine ⟨_, rfl, a, rfl, ⟨_, SqL.of hx⟩, fun D hD => ?_⟩
    refine lc_list (K := K) (a := a) (xs := xs) (fun i H' => Same H H' ∧ Ls H' D (((rs.take i).filter fun r => upB r.mo u).map Row.d))
      ⟨Same.new hD, [], upd_same, by rw [List.take_zero]; exact .nil⟩ (fun i H' _ q => SqL.of (q.1 _ _ hx)) ?_ ?_
    · rintro i x H1 hi ⟨s1, ys, hy, ry⟩
      obtain ⟨d, hd, tx⟩ := rx.getv hi
      rw [List.getElem?_map] at hd
      obtain ⟨r, hr1, rfl⟩ : ∃ r, rs[i]? = some r ∧ d = r.d := by
        cases q : rs[i]? with
        | none => rw [q] at hd; cases hd
        | some r => rw [q] at hd; exact ⟨r, rfl, (Option.some.inj hd).symm⟩
      have hir : i < rs.length := (List.getElem?_eq_some_iff.mp hr1).1
      obtain ⟨t, zs, rfl, ht, rz⟩ := Tp.inv (tx.to (TK.of s1))
      obtain ⟨v1, a1, t1⟩ := Tp.at (K := K) ht rz r.ds1
      obtain ⟨am, rfl, ham⟩ := Tp.mo_inv t1
      have hyl : ys.length ≤ 500 := by rw [ry.len, List.length_map]; have := List.length_filter_le (fun r => upB (Row.mo r) u) (rs.take i); rw [List.length_take] at this; omega
      have step : ((rs.take (i + 1)).filter fun r => upB r.mo u) = ((rs.take i).filter fun r => upB r.mo u) ++ (if upB r.mo u = true then [r] else []) := by
        rw [List.take_add_one, hr1, List.filter_append]
        congr 1
        by_cases q : upB r.mo u = true
        · simp [q]
        · simp [q]
      have yes : upB r.mo u = true → ∃ acc, H1 D = some (.lst acc) ∧ acc.length < sizeLine ∧ Same H (upd H1 D (.lst (acc ++ [.ref t]))) ∧ Ls (upd H1 D (.lst (acc ++ [.ref t]))) D (((rs.take (i + 1)).filter fun r => upB r.mo u).map Row.d) := fun q =>
        ⟨ys, hy, small1000 (by omega), fun b o e => by rw [upd_ne (ne_of_none e hD)]; exact s1 _ _ e, _, upd_same, by
          rw [step, if_pos q, List.map_append]
          have tk : TK H1 (upd H1 D (.lst (ys ++ [.ref t]))) := TK.put hy (by intro z; exact nofun)
          exact (ry.to tk).snoc ((tx.to (TK.of s1)).to tk)⟩
      have no : ¬ upB r.mo u = true → Same H H1 ∧ Ls H1 D (((rs.take (i + 1)).filter fun r => upB r.mo u).map Row.d) := fun q =>
        ⟨s1, ys, hy, by rw [step, if_neg q, List.append_nil]; exact ry⟩
      cases u with
      | none =>
        cases (show v = .non from hv)
        exact ⟨rfl, _, rfl, rfl, _, rfl, iteT (iteT ⟨_, rfl, yes rfl⟩)⟩
      | some u =>
        obtain ⟨b, rfl, hb⟩ := hv
        refine ⟨rfl, _, rfl, rfl, _, rfl, iteF ?_⟩
        refine ⟨_, rfl, _, _, _, _, rfl, rfl, SqT.of ht, a1, _, rfl, am, b, [r.mo.1, r.mo.2], [u.1, u.2], rfl, rfl, SqT.of ham, SqT.of (s1 _ _ hb), _, rfl, ?_⟩
        rw [lex2]
        show if upB r.mo (some u) = true then _ else _
        refine ite2 (fun q => ?_) (fun q => ?_)
        · exact ⟨_, rfl, yes q⟩
        · exact no q
    · rintro H1 ⟨s1, ls⟩
      rw [rx.len, List.length_map, List.take_length] at ls
      exact k H1 D s1 hD ls
end
end KN

set_option Elab.async false
set_option linter.all false
set_option maxRecDepth 100000
set_option maxHeartbeats 4000000
namespace KN
open PySem L2
theorem cut_to {xs : List V} (k : Nat) : cutV xs none (some (k : Int)) = xs.take k := by
  unfold cutV
  rw [HT.sIx_none, HT.sIx_nat, List.drop_zero, Nat.sub_zero]
  rcases Nat.le_total k xs.length with h | h
  · rw [Nat.min_eq_left h]
  · rw [Nat.min_eq_right h, List.take_length, List.take_of_length_le h]
theorem cut_from {xs : List V} (k : Nat) : cutV xs (some (k : Int)) none = xs.drop k := by
  unfold cutV
  rw [HT.sIx_none, HT.sIx_nat]
  rcases Nat.le_total k xs.length with h | h
  · rw [Nat.min_eq_left h]; exact List.take_of_length_le (by rw [List.length_drop]; omega)
  · rw [Nat.min_eq_right h, Nat.sub_self, List.take_zero, List.drop_eq_nil_of_le h]
def Closed (ls : List Lnk) (ns : List Mo) : Prop := ∀ l ∈ ls, l.2.1 ∈ ns → l.2.2 ∈ ns
theorem closed_all {ls : List Lnk} {s g : Mo} {ns : List Mo} (c : Closed ls ns) (h0 : s ∈ ns) (hs : ∀ n ∈ ns, Rch ls s n) : g ∈ ns ↔ Rch ls s g := by
  refine ⟨hs g, fun r => ?_⟩
  induction r with
  | refl => exact h0
  | step _ hl e ih => exact c _ hl (by rw [e]; exact ih)
def spUntil : Sp := fun vs H Q _ => ∃ (p c : Addr) (b : Int) (a : Addr) (rs : List Row), vs = [.ref p, .ref a] ∧ Pen H p c b ∧ b ≤ 1000000000 ∧ Ls H a (rs.map Row.d) ∧ rs ≠ [] ∧ rs.length ≤ 500 ∧ ∀ H' v u, Kp p H H' → Pen H' p c (b + 2) → UpV H' v u → Q v H'
section
variable {P : Program} {w : World} {K : PySem.W.Frag} {mg : Str → Option Value} {base : Heap} {C : Addr}
abbrev s__law_reached : Stmt := top 41
theorem sc__law_reached : FnScope ["_law_links", "_law_start", "_law_met", "_law_again", "_law_row"] ["_law_links", "_law_start"] (defScope s__law_reached) := ⟨rfl, rfl, rfl, by decide +kernel, rfl, by decide +kernel, by decide +kernel⟩
theorem ok__law_reached {f : Addr} {fd : FuncData} (F : Fun K "_law_reached" "_law_reached" s__law_reached f fd) (m_len : mg "len" = none) (m_range : mg "range" = none) : FnOk P w K mg base CX0 1 f fd ["_law_links", "_law_start"] spReached := by
  refine F.ok sc__law_reached (fun vs H Q E h => ?_) (fun cdv A outer s H vs Q E hr h => ?_)
  · obtain ⟨a, st, z, ls, rfl, _⟩ := h; rfl
  · obtain ⟨a, st, z, ls, rfl, ⟨lx, hlx, rlx⟩, h500, hst, k⟩ := h
    refine ⟨_, (pss_cons (ps_set (i := 2) sc__law_reached.nd rfl (Or.inr rfl) (pe_lst (pa_cons (pv 1) pa_nil)))
      (pss_cons (ps_for PassesOwn.never rfl (pi_range1 rfl m_range (pa_cons (pe_callB call_len_seq (by rfl) m_len (by decide +kernel) (pa_cons (pv 0) pa_nil)) pa_nil)) (pg_name (i := 3) sc__law_reached.nd rfl (Or.inl rfl))
      (pss_one (ps_set (i := 2) sc__law_reached.nd rfl (Or.inr rfl) (pe_op op_cat (pv 2) (pe_slice sl_list (pe_lc (own := [("_law_row", 4)]) (g := gName 4) rfl sc__law_reached.nd (pi_list (pv 0)) (blkOk_by (own := [("_law_row", 4)]) (N := ["_law_links", "_law_start", "_law_met", "_law_again", "_law_row"]) (sc := defScope s__law_reached) (by decide +kernel)) (fun _ _ _ _ _ => pg_name (i := 4) sc__law_reached.nd rfl (Or.inl rfl)) (fun _ _ _ _ _ => (pts_one (PW.pt (pw_and (pt_cmpR (op_inDK K (u65 hr)) (pe_ix (ix_tupK K) (pv 4) pe_int (fun _ _ => rfl)) (pv 2) rfl) (pw_and1 (pt_cmpR (op_notInDK K (u65 hr)) (pe_ix (ix_tupK K) (pv 4) pe_int (fun _ _ => rfl)) (pv 2) rfl)))))) (fun _ _ _ _ _ => (pe_ix (ix_tupK K) (pv 4) pe_int (fun _ _ => rfl)))) po_none (po_some pe_int))))))
      (pss_one (ps_ret (pv 2))))), ?_⟩
    have hlen : lx.length = ls.length := by rw [rlx.len, List.length_map]
    refine ⟨_, rfl, by show 1 ≤ sizeLine; decide, fun M hM => ?_⟩
    have s1 : Same H (upd H M (.lst [.ref st])) := Same.new hM
    refine ⟨_, rfl, _, _, rfl, .inl (SqL.of (s1 _ _ hlx)), ?_⟩
    refine ⟨_, rfl, by omega, by omega, ?_⟩
    rw [show (((lx.length : Nat) : Int)).toNat = lx.length from Int.toNat_natCast _, hlen]
    refine for_range (lo := 0) (n := ls.length) (fun i σ' H' => ∃ (M' : Addr) (v3 v4 : Option V) (ns : List Mo), σ' = [some (.ref a), some (.ref st), some (.ref M'), v3, v4] ∧ Same H H' ∧ Ls H' M' (ns.map mD) ∧ z ∈ ns ∧ (∀ n ∈ ns, Rch ls z n) ∧ ns.length ≤ i + 1 ∧ (Closed ls ns ∨ Unv ls ns + i ≤ ls.length))
      ⟨M, none, none, [z], rfl, s1, ⟨_, upd_same, .cons (Tp.mo (m := z) (s1 _ _ hst)) .nil⟩, List.mem_singleton.mpr rfl, fun n hn => by rw [List.mem_singleton] at hn; subst hn; exact .refl, Nat.le_refl _, .inr (Unv.len ls [z])⟩ ?_ ?_
    · rintro i σ2 H2 hi ⟨M', v3, v4, ns, rfl, s2, ⟨ms, hms, rms⟩, hz, hsub, hnl, hcu⟩
      refine ⟨_, rfl, _, rfl, a, rfl, ⟨_, SqL.of (s2 _ _ hlx)⟩, fun D hD => ?_⟩
      have hmsl : ms.length = ns.length := by rw [rms.len, List.length_map]
      refine lc_list (K := K) (a := a) (xs := lx) (fun j H' => Same H2 H' ∧ Ls H' D (((ls.take j).filter fun l => decide (l.2.1 ∈ ns) && !decide (l.2.2 ∈ ns)).map fun l => mD l.2.2))
        ⟨Same.new hD, [], upd_same, by rw [List.take_zero]; exact .nil⟩ (fun j H' _ q => SqL.of (q.1 _ _ (s2 _ _ hlx))) ?_ ?_
      · rintro j x H3 hj ⟨s3, ys, hy, ry⟩
        obtain ⟨d, hd, tx⟩ := rlx.getv hj
        rw [List.getElem?_map] at hd
        obtain ⟨l, hl, rfl⟩ : ∃ l, ls[j]? = some l ∧ d = lD l := by
          cases q : ls[j]? with
          | none => rw [q] at hd; cases hd
          | some l => rw [q] at hd; exact ⟨l, rfl, (Option.some.inj hd).symm⟩
        have hjl : j < ls.length := (List.getElem?_eq_some_iff.mp hl).1
        have s23 := s2.trans s3
        obtain ⟨t, am, af, ao, rfl, h3t, h3m, h3f, h3o⟩ := Tp.ln_inv (tx.to (TK.of s23))
        have lm : Ls H3 M' (ns.map mD) := Ls.to ⟨ms, hms, rms⟩ s3
        have hyl : ys.length ≤ 500 := by
          rw [ry.len, List.length_map]
          have := List.length_filter_le (fun l : Lnk => decide (l.2.1 ∈ ns) && !decide (l.2.2 ∈ ns)) (ls.take j)
          rw [List.length_take] at this; omega
        have step : ((ls.take (j + 1)).filter fun l => decide (l.2.1 ∈ ns) && !decide (l.2.2 ∈ ns)) = ((ls.take j).filter fun l => decide (l.2.1 ∈ ns) && !decide (l.2.2 ∈ ns)) ++ (if (decide (l.2.1 ∈ ns) && !decide (l.2.2 ∈ ns)) = true then [l] else []) := by
          rw [List.take_add_one, hl, List.filter_append]
          congr 1
          by_cases q : (decide (l.2.1 ∈ ns) && !decide (l.2.2 ∈ ns)) = true
          · rw [if_pos q, Option.toList_some, List.filter_cons_of_pos (by exact q)]; rfl
          · rw [if_neg q, Option.toList_some, List.filter_cons_of_neg (by exact q)]; rfl
        refine ⟨rfl, _, rfl, _, _, _, _, rfl, rfl, SqT.of h3t, at_of (j := 1) rfl rfl, _, rfl, _, _, (Tp.mo h3f).d, lm.dp, shaped_m _, shaped_ms _, _, rfl, ?_⟩
        rw [any_m]
        by_cases q1 : l.2.1 ∈ ns
        · rw [decide_eq_true q1]
          refine iteT ?_
          refine ⟨_, rfl, _, _, _, _, rfl, rfl, SqT.of h3t, at_of (j := 2) rfl rfl, _, rfl, _, _, (Tp.mo h3o).d, lm.dp, shaped_m _, shaped_ms _, _, rfl, ?_⟩
          rw [any_m]
          by_cases q2 : l.2.2 ∈ ns
          · rw [decide_eq_true q2]
            refine iteF ⟨s3, ys, hy, ?_⟩
            rw [step, if_neg (by rw [decide_eq_true q2]; simp), List.append_nil]; exact ry
          · rw [decide_eq_false q2]
            refine iteT ?_
            refine ⟨_, rfl, _, _, _, _, rfl, rfl, SqT.of h3t, at_of (j := 2) rfl rfl, ys, hy, small1000 (by omega), fun c o ec => by rw [upd_ne (ne_of_none ec hD)]; exact s3 _ _ ec, _, upd_same, ?_⟩
            have tk : TK H3 (upd H3 D (.lst (ys ++ [.ref ao]))) := TK.put hy (by intro z; exact nofun)
            rw [step, if_pos (by rw [decide_eq_true q1, decide_eq_false q2]; rfl), List.map_append]
            exact (ry.to tk).snoc ((Tp.mo h3o).to tk)
        · rw [decide_eq_false q1]
          refine iteF ?_
          refine iteF ⟨s3, ys, hy, ?_⟩
          rw [step, if_neg (by rw [decide_eq_false q1]; simp), List.append_nil]; exact ry
      · rintro H3 ⟨s3, ys, hy, ry⟩
        rw [hlen, List.take_length] at ry
        refine ⟨_, rfl, D, ys, rfl, SqL.of hy, fun p hp => ?_⟩
        rw [show (some (1 : Int)) = some ((1 : Nat) : Int) from rfl, cut_to]
        have s4 : Same H3 (upd H3 p (.lst (ys.take 1))) := Same.new hp
        have hms4 := s4 _ _ (s3 _ _ hms)
        have hyt : (ys.take 1).length ≤ 1 := List.length_take_le 1 ys
        refine ⟨M', p, _, _, rfl, rfl, hms4, upd_same, by rw [hmsl]; exact Nat.le_trans (by omega : _ ≤ 502) (by decide), fun N hN => ?_⟩
        have s5 : Same H3 (upd (upd H3 p (.lst (ys.take 1))) N (.lst (ms ++ ys.take 1))) := s4.trans (Same.new hN)
        have s25 : Same H2 _ := s3.trans s5
        generalize hF : (ls.filter fun l => decide (l.2.1 ∈ ns) && !decide (l.2.2 ∈ ns)) = Fl at ry
        have inF : ∀ l, l ∈ Fl ↔ l ∈ ls ∧ l.2.1 ∈ ns ∧ l.2.2 ∉ ns := fun l => by
          rw [← hF, List.mem_filter, Bool.and_eq_true, decide_eq_true_iff, Bool.not_eq_true', decide_eq_false_iff_not]
        have data : TpAll (upd (upd H3 p (.lst (ys.take 1))) N (.lst (ms ++ ys.take 1))) (ms ++ ys.take 1) ((ns ++ (Fl.take 1).map fun l => l.2.2).map mD) := by
          rw [List.map_append]
          refine (rms.to (TK.of s25)).app ?_
          have := (ry.take 1).to (TK.of s5)
          rw [← List.map_take] at this
          rw [List.map_map]; exact this
        refine ⟨N, _, _, ns ++ (Fl.take 1).map (fun l => l.2.2), rfl, s2.trans s25, ⟨_, upd_same, data⟩, List.mem_append_left _ hz, fun n hn => ?_, ?_, ?_⟩
        · rcases List.mem_append.mp hn with h | h
          · exact hsub n h
          · obtain ⟨l, hl, rfl⟩ := List.mem_map.mp h
            obtain ⟨h1, h2, _⟩ := (inF l).mp (List.mem_of_mem_take hl)
            exact .step (hsub _ h2) h1 rfl
        · rw [List.length_append, List.length_map]; have := List.length_take_le 1 Fl; omega
        · cases Fl with
          | nil =>
            left
            rw [List.take_nil, List.map_nil, List.append_nil]
            intro l hl h1
            apply Decidable.byContradiction
            intro h2
            have := (inF l).mpr ⟨hl, h1, h2⟩
            cases this
          | cons f Fl =>
            obtain ⟨h1, h2, h3⟩ := (inF f).mp List.mem_cons_self
            rcases hcu with c | u
            · exact absurd (c f h1 h2) h3
            · right
              have := Unv.lt h1 h3
              show Unv ls (ns ++ [f.2.2]) + (i + 1) ≤ ls.length
              omega
    · rintro σ2 H2 ⟨M', v3, v4, ns, rfl, s2, lm, hz, hsub, hnl, hcu⟩
      refine ⟨_, rfl, k H2 M' ns s2 lm fun g => closed_all ?_ hz hsub⟩
      rcases hcu with c | u
      · exact c
      · intro l hl _
        apply Decidable.byContradiction
        intro h
        have h0 : Unv ls ns = 0 := by omega
        unfold Unv at h0
        have : l ∈ ls.filter fun l => decide (l.2.2 ∉ ns) := List.mem_filter.mpr ⟨hl, decide_eq_true h⟩
        rw [List.length_eq_zero_iff.mp h0] at this; cases this
abbrev s__law_aheads : Stmt := top 42
theorem sc__law_aheads : FnScope ["_law_rows", "_law_until_here", "_law_found", "_law_row"] ["_law_rows", "_law_until_here"] (defScope s__law_aheads) := ⟨rfl, rfl, rfl, by decide +kernel, rfl, by decide +kernel, by decide +kernel⟩
theorem ok__law_aheads {f : Addr} {fd : FuncData} (F : Fun K "_law_aheads" "_law_aheads" s__law_aheads f fd) (c__law_there : C8.Cal P w K mg base 1 "_law_there" spThereR []) (c__law_reached : C8.Cal P w K mg base 1 "_law_reached" spReached []) : FnOk P w K mg base CX0 2 f fd ["_law_rows", "_law_until_here"] spAheadsR := by
  refine F.ok sc__law_aheads (fun vs H Q E h => ?_) (fun cdv A outer s H vs Q E hr h => ?_)
  · obtain ⟨a, v, u, rs, rfl, _⟩ := h; rfl
  · obtain ⟨a, v, u, rs, rfl, hls, hv, h64, k⟩ := h
    refine ⟨_, (pss_cons (ps_set (i := 2) sc__law_aheads.nd rfl (Or.inl rfl) (pe_lst pa_nil))
      (pss_cons (ps_for PassesOwn.never rfl (pi_list (C8.pe_c c__law_there hr (by decide) rfl (pa_cons (pv 0) (pa_cons (pv 1) pa_nil)))) (pg_name (i := 3) sc__law_aheads.nd rfl (Or.inl rfl))
      (pss_one (ps_if (PW.pt (pw_and (pt_cmpR op_eq (pe_ix ix_tup (pv 3) pe_int (fun _ _ => rfl)) pe_str (nomark _)) (pw_and1 (pt_cmpR (op_notInD (u65 hr)) (pe_ix ix_tup (pv 3) pe_int (fun _ _ => rfl)) (C8.pe_c c__law_reached hr (by decide) rfl (pa_cons (pv 2) (pa_cons (pe_ix ix_tup (pv 3) pe_int (fun _ _ => rfl)) pa_nil))) rfl)))) (pss_one (ps_expr (pe_bm PySem.F.plainAttrs_list PySem.F.slot_list_append PySem.F.type_list_append mt_append (pv 2) (pa_cons (pe_slice sl_tupA (pv 3) (po_some pe_int) po_none) pa_nil)))) pss_nil)))
      (pss_one (ps_ret (pv 2))))), ?_⟩
    refine ⟨Nat.zero_le _, fun F0 hF => ?_⟩
    have s1 : Same H (upd H F0 (.lst [])) := Same.new hF
    refine ⟨_, rfl, _, rfl, a, v, u, rs, rfl, hls.to s1, hv.to (TK.of s1), by omega, fun H2 l s2 l0 ⟨lx, hl, rl⟩ => ?_⟩
    have nlF : l ≠ F0 := fun z => by subst z; rw [upd_same] at l0; cases l0
    have hF2 : H2 F0 = some (.lst []) := s2 _ _ upd_same
    have s12 : Same H H2 := s1.trans s2
    have hll : lx.length = (rs.filter fun r => upB r.mo u).length := by rw [rl.len, List.length_map]
    have hL64 : (rs.filter fun r => upB r.mo u).length ≤ 64 := Nat.le_trans (List.length_filter_le _ _) h64
    generalize hLdef : (rs.filter fun r => upB r.mo u) = L at rl hll hL64
    refine ⟨l, rfl, ⟨_, SqL.of hl⟩, for_list (K := K) (a := l) (xs := lx) (fun i σ' H' => ∃ v3 : Option V, σ' = [some (.ref a), some v, some (.ref F0), v3] ∧ (∀ a o, a ≠ F0 → H2 a = some o → H' a = some o) ∧ Ls H' F0 ((ahF (L.take i)).map lD))
      ⟨none, rfl, fun a o _ h => h, _, hF2, by rw [List.take_zero]; exact .nil⟩ (fun i σ' H' _ ⟨_, _, q, _⟩ => SqL.of (q _ _ nlF hl)) ?_ ?_⟩
    · rintro i x σ3 H3 hi ⟨v3, rfl, k3, tx, ht3, rt3⟩
      obtain ⟨d, hd, tx3⟩ := rl.getv hi
      rw [List.getElem?_map] at hd
      obtain ⟨r, hr1, rfl⟩ : ∃ r, L[i]? = some r ∧ d = r.d := by
        cases q : L[i]? with
        | none => rw [q] at hd; cases hd
        | some r => rw [q] at hd; exact ⟨r, rfl, (Option.some.inj hd).symm⟩
      have hiL : i < L.length := (List.getElem?_eq_some_iff.mp hr1).1
      have tk3 : TK H2 H3 := fun a ys ea => k3 a _ (fun z => by subst z; rw [hF2] at ea; cases ea) ea
      obtain ⟨t, xs, rfl, ht, rx⟩ := Tp.inv (tx3.to tk3)
      obtain ⟨v0, a0, t0⟩ := Tp.at (K := K) ht rx r.ds0
      cases Tp.str_inv t0
      have step : L.take (i + 1) = L.take i ++ [r] := by rw [List.take_add_one, hr1]; rfl
      refine ⟨_, rfl, _, _, _, _, rfl, rfl, SqT.of ht, a0, rfl, _, rfl, ?_⟩
      rw [sort_ah]
      cases r with
      | ah m nn o =>
        refine iteT ?_
        obtain ⟨v2, a2, t2⟩ := Tp.at (K := K) (i := 2) (d := mD nn) ht rx rfl
        obtain ⟨v4, a4, t4⟩ := Tp.at (K := K) (i := 3) (d := mD o) ht rx rfl
        obtain ⟨a_n, rfl, han⟩ := Tp.mo_inv t2
        obtain ⟨a_o, rfl, hao⟩ := Tp.mo_inv t4
        have hlen3 : (ahF (L.take i)).length ≤ 64 := Nat.le_trans (ahF_len _) (by rw [List.length_take]; omega)
        refine ⟨_, rfl, _, _, _, _, rfl, rfl, SqT.of ht, a2, _, rfl, _, rfl, _, _, _, _, rfl, rfl, SqT.of ht, a4, F0, a_o, o, ahF (L.take i), rfl, ⟨tx, ht3, rt3⟩, by omega, hao, fun H4 lm ns s4 hlm hns => ?_⟩
        refine ⟨_, _, (Tp.mo (s4 _ _ han)).d, hlm.dp, shaped_m _, shaped_ms _, _, rfl, ?_⟩
        rw [any_m]
        by_cases q : Rch (ahF (L.take i)) o nn
        · rw [decide_eq_true ((hns nn).mpr q)]
          refine iteF ⟨_, rfl, fun a oo na ea => s4 _ _ (k3 a oo na ea), ?_⟩
          rw [step, ahF_snoc, ahStep_yes q]
          exact Ls.to ⟨tx, ht3, rt3⟩ s4
        · rw [decide_eq_false (fun z => q ((hns nn).mp z))]
          refine iteT ?_
          have htx : xs.length = 4 := by rw [rx.len]; rfl
          refine ⟨_, rfl, .inl ⟨rfl, _, SqL.of (s4 _ _ ht3)⟩, _, rfl, _, rfl, t, xs, rfl, SqT.of (s4 _ _ ht), fun z => ?_, fun _ t' ht' => ?_⟩
          · exfalso
            have h1 := z.1
            rw [show (some (1 : Int)) = some ((1 : Nat) : Int) from rfl, HT.sIx_nat, htx] at h1
            omega
          rw [show (some (1 : Int)) = some ((1 : Nat) : Int) from rfl, cut_from]
          have nFt : F0 ≠ t' := ne_of_none (s4 _ _ ht3) ht'
          refine ⟨F0, _, _, rfl, rfl, by rw [upd_ne nFt]; exact s4 _ _ ht3, by rw [rt3.len, List.length_map]; exact small1000 (by omega), ?_⟩
          refine ⟨_, rfl, fun a oo na ea => ?_, _, upd_same, ?_⟩
          · rw [upd_ne na, upd_ne (ne_of_none (s4 _ _ (k3 a oo na ea)) ht')]
            exact s4 _ _ (k3 a oo na ea)
          · rw [step, ahF_snoc, ahStep_no q, List.map_append]
            have tkf : TK H3 (upd (upd H4 t' (.tup (xs.drop 1))) F0 (.lst (tx ++ [.ref t']))) := (TK.of s4).trans ((TK.new ht').trans (TK.put (u := .lst tx) (by rw [upd_ne nFt]; exact s4 _ _ ht3) (by intro z; exact nofun)))
            refine (rt3.to tkf).snoc (.tup (by rw [upd_ne nFt.symm, upd_same]) ?_)
            exact (TpAll.drop 1 rx).to tkf
      | nm m rk ws ss lk =>
        refine iteF ?_
        refine iteF ⟨_, rfl, k3, ?_⟩
        rw [step, ahF_snoc]; exact ⟨tx, ht3, rt3⟩
      | ch m nn z =>
        refine iteF ?_
        refine iteF ⟨_, rfl, k3, ?_⟩
        rw [step, ahF_snoc]; exact ⟨tx, ht3, rt3⟩
      | st m nn z =>
        refine iteF ?_
        refine iteF ⟨_, rfl, k3, ?_⟩
        rw [step, ahF_snoc]; exact ⟨tx, ht3, rt3⟩
    · rintro σ3 H3 ⟨v3, rfl, k3, ls3⟩
      rw [hll, List.take_length, ← hLdef] at ls3
      exact ⟨_, rfl, k H3 F0 (fun a o ea => k3 a o (ne_of_none ea hF) (s12 a o ea)) hF ls3⟩
abbrev s__law_until : Stmt := top 43
theorem sc__law_until : FnScope ["_law_pen_here", "_law_rows", "_law_moment"] ["_law_pen_here", "_law_rows"] (defScope s__law_until) := ⟨rfl, rfl, rfl, by decide +kernel, rfl, by decide +kernel, by decide +kernel⟩
theorem ok__law_until {f : Addr} {fd : FuncData} (F : Fun K "_law_until" "_law_until" s__law_until f fd) (m_len : mg "len" = none) (c__law_draw : C8.Cal P w K mg base 1 "_law_draw" spDraw []) : FnOk P w K mg base CX0 2 f fd ["_law_pen_here", "_law_rows"] spUntil := by
  refine F.ok sc__law_until (fun vs H Q E h => ?_) (fun cdv A outer s H vs Q E hr h => ?_)
  · obtain ⟨p, c, b, a, rs, rfl, _⟩ := h; rfl
  · obtain ⟨p, c, b, a, rs, rfl, pen, hb, ⟨xs, hx, rx⟩, hne, h500, k⟩ := h
    refine ⟨_, (pss_cons (ps_set (i := 2) sc__law_until.nd rfl (Or.inl rfl) (pe_ix ix_tup (pe_ix ix_list (pv 1) (C8.pe_c c__law_draw hr (by decide) rfl (pa_cons (pv 0) (pa_cons (pe_callB call_len_seq (by rfl) m_len (by decide +kernel) (pa_cons (pv 1) pa_nil)) pa_nil))) (fun _ _ => rfl)) pe_int (fun _ _ => rfl)))
      (pss_one (ps_ret (pe_ix ix_list (pe_lst (pa_cons pe_non (pa_cons (pv 2) (pa_cons (pe_tup (pa_cons (pe_ix ix_tup (pv 2) pe_int (fun _ _ => rfl)) (pa_cons (pe_op op_sub (pe_ix ix_tup (pv 2) pe_int (fun _ _ => rfl)) pe_int) pa_nil))) (pa_cons (pe_tup (pa_cons (pe_op op_add (pe_ix ix_tup (pv 2) pe_int (fun _ _ => rfl)) pe_int) (pa_cons pe_int pa_nil))) pa_nil))))) (C8.pe_c c__law_draw hr (by decide) rfl (pa_cons (pv 0) (pa_cons pe_int pa_nil))) (fun _ _ => rfl))))), ?_⟩
    have hxl : xs.length = rs.length := by rw [rx.len, List.length_map]
    have hpos : 0 < rs.length := List.length_pos_iff.mpr hne
    have nap := pen.ne hx
    refine ⟨_, rfl, _, rfl, _, rfl, _, _, rfl, .inl (SqL.of hx), p, c, b, _, rfl, pen, by omega, by omega, by omega, fun H1 r1 k1 pen1 r10 r11 => ?_⟩
    have hx1 := k1 _ _ nap hx
    obtain ⟨x, ex, ex'⟩ := atI_in (xs := xs) r10 (by omega)
    refine ⟨a, _, _, _, rfl, rfl, SqL.of hx1, ex, ?_⟩
    obtain ⟨d, hd, tx⟩ := rx.getv ex'
    rw [List.getElem?_map] at hd
    obtain ⟨r, hr1, rfl⟩ : ∃ r, rs[r1.toNat]? = some r ∧ d = r.d := by
      cases q : rs[r1.toNat]? with
      | none => rw [q] at hd; cases hd
      | some r => rw [q] at hd; exact ⟨r, rfl, (Option.some.inj hd).symm⟩
    obtain ⟨t, ys, rfl, ht, ry⟩ := Tp.inv (tx.to (pen.tk k1))
    obtain ⟨v1, a1, t1⟩ := Tp.at (K := K) ht ry r.ds1
    obtain ⟨am, rfl, ham⟩ := Tp.mo_inv t1
    refine ⟨t, _, _, _, rfl, rfl, SqT.of ht, a1, ?_⟩
    -- the four pairs
    refine ⟨_, rfl, _, rfl, _, _, _, _, rfl, rfl, SqT.of ham, at_of (j := 0) rfl rfl, _, rfl, _, _, _, _, rfl, rfl, SqT.of ham, at_of (j := 1) rfl rfl, _, _, rfl, rfl, by show 2 ≤ sizeLine; decide, fun t1 ht1 => ?_⟩
    have s2 : Same H1 (upd H1 t1 (.tup [.int r.mo.1, .int (r.mo.2 - 1)])) := Same.new ht1
    refine ⟨_, rfl, _, _, _, _, rfl, rfl, SqT.of (s2 _ _ ham), at_of (j := 0) rfl rfl, _, _, rfl, rfl, by show 2 ≤ sizeLine; decide, fun t2 ht2 => ?_⟩
    have s3 : Same H1 (upd (upd H1 t1 (.tup [.int r.mo.1, .int (r.mo.2 - 1)])) t2 (.tup [.int (r.mo.1 + 1), .int 0])) := s2.trans (Same.new ht2)
    refine ⟨by show 4 ≤ sizeLine; decide, fun L hL => ?_⟩
    have s4 : Same H1 (upd (upd (upd H1 t1 (.tup [.int r.mo.1, .int (r.mo.2 - 1)])) t2 (.tup [.int (r.mo.1 + 1), .int 0])) L (.lst [.non, .ref am, .ref t1, .ref t2])) := s3.trans (Same.new hL)
    have n12 : t1 ≠ t2 := fun z => by subst z; rw [upd_same] at ht2; cases ht2
    have nL1 : t1 ≠ L := fun z => by subst z; rw [upd_ne n12, upd_same] at hL; cases hL
    have nL2 : t2 ≠ L := fun z => by subst z; rw [upd_same] at hL; cases hL
    have penL := pen1.to s4
    refine ⟨_, rfl, p, c, _, 4, rfl, penL, by omega, by decide, by decide, fun H5 r5 k5 pen5 r50 r51 => ?_⟩
    have nLp : L ≠ p := penL.ne upd_same
    have k15 : Kp p H1 H5 := (Kp.of s4).trans k5
    have h1 : H5 t1 = some (.tup [.int r.mo.1, .int (r.mo.2 - 1)]) := penL.tk k5 _ _ (by rw [upd_ne nL1, upd_ne n12, upd_same])
    have h2 : H5 t2 = some (.tup [.int (r.mo.1 + 1), .int 0]) := penL.tk k5 _ _ (by rw [upd_ne nL2, upd_same])
    have h3 : H5 am = some (.tup [.int r.mo.1, .int r.mo.2]) := penL.tk k5 _ _ (s4 _ _ ham)
    have fin : ∀ v u, UpV H5 v u → Q v H5 := fun v u hu => k H5 v u (k1.trans k15) (pen5.up (by omega)) hu
    have : r5 = 0 ∨ r5 = 1 ∨ r5 = 2 ∨ r5 = 3 := by omega
    rcases this with rfl | rfl | rfl | rfl
    · exact ⟨L, _, _, _, rfl, rfl, SqL.of (k5 _ _ nLp upd_same), at_of (j := 0) rfl rfl, fin _ none rfl⟩
    · exact ⟨L, _, _, _, rfl, rfl, SqL.of (k5 _ _ nLp upd_same), at_of (j := 1) rfl rfl, fin _ (some r.mo) ⟨_, rfl, h3⟩⟩
    · exact ⟨L, _, _, _, rfl, rfl, SqL.of (k5 _ _ nLp upd_same), at_of (j := 2) rfl rfl, fin _ (some (r.mo.1, r.mo.2 - 1)) ⟨_, rfl, h1⟩⟩
    · exact ⟨L, _, _, _, rfl, rfl, SqL.of (k5 _ _ nLp upd_same), at_of (j := 3) rfl rfl, fin _ (some (r.mo.1 + 1, 0)) ⟨_, rfl, h2⟩⟩
abbrev s__law_has_ring : Stmt := top 45
theorem sc__law_has_ring : FnScope ["_law_links", "_law_left", "_law_again", "_law_ends", "_law_row"] ["_law_links"] (defScope s__law_has_ring) := ⟨rfl, rfl, rfl, by decide +kernel, rfl, by decide +kernel, by decide +kernel⟩
theorem ok__law_has_ring {f : Addr} {fd : FuncData} (F : Fun K "_law_has_ring" "_law_has_ring" s__law_has_ring f fd) (m_len : mg "len" = none) (m_range : mg "range" = none) (m_list : mg "list" = none) : FnOk P w K mg base CX0 1 f fd ["_law_links"] spRing := by
  refine F.ok sc__law_has_ring (fun vs H Q E h => ?_) (fun cdv A outer s H vs Q E hr h => ?_)
  · obtain ⟨a, ls, rfl, _⟩ := h; rfl
  · obtain ⟨a, ls, rfl, ⟨lx, hlx, rlx⟩, h500, k⟩ := h
    refine ⟨_, (pss_cons (ps_set (i := 1) sc__law_has_ring.nd rfl (Or.inl rfl) (pe_callTy call_list_of (by rfl) m_list (by decide +kernel) (pa_cons (pv 0) pa_nil)))
      (pss_cons (ps_for PassesOwn.never rfl (pi_range1 rfl m_range (pa_cons (pe_callB call_len_seq (by rfl) m_len (by decide +kernel) (pa_cons (pv 0) pa_nil)) pa_nil)) (pg_name (i := 2) sc__law_has_ring.nd rfl (Or.inl rfl))
      (pss_cons (ps_set (i := 3) sc__law_has_ring.nd rfl (Or.inr rfl) (pe_lc (own := [("_law_row", 4)]) (g := gName 4) (tt := tYes) rfl sc__law_has_ring.nd (pi_list (pv 1)) (blkOk_by (own := [("_law_row", 4)]) (N := ["_law_links", "_law_left", "_law_again", "_law_ends", "_law_row"]) (sc := defScope s__law_has_ring) (by decide +kernel)) (fun _ _ _ _ _ => pg_name (i := 4) sc__law_has_ring.nd rfl (Or.inl rfl)) (fun _ _ _ _ _ => pts_nil) (fun _ _ _ _ _ => (pe_ix (ix_tupK K) (pv 4) pe_int (fun _ _ => rfl)))))
      (pss_one (ps_setLc (i := 1) (own := [("_law_row", 4)]) (g := gName 4) rfl sc__law_has_ring.nd rfl rfl (sw_true rfl rfl rfl (by decide +kernel)) (pi_list (pv 1)) (blkOk_by (own := [("_law_row", 4)]) (N := ["_law_links", "_law_left", "_law_again", "_law_ends", "_law_row"]) (sc := defScope s__law_has_ring) (by decide +kernel)) (fun _ _ _ _ _ => pg_name (i := 4) sc__law_has_ring.nd rfl (Or.inl rfl)) (fun _ _ _ _ _ => (pts_one (pt_cmpR (op_inDK K (u65 hr)) (pe_ix (ix_tupK K) (pv 4) pe_int (fun _ _ => rfl)) (pv 3) rfl))) (fun _ _ _ _ _ => (pv 4))))))
      (pss_one (ps_ret (pe_cmpR (op_neD hr.units) (pv 1) (pe_lst pa_nil) (nomark _)))))), ?_⟩
    have hlen : lx.length = ls.length := by rw [rlx.len, List.length_map]
    refine ⟨_, rfl, a, lx, rfl, .inl (SqL.of hlx), fun M hM => ?_⟩
    have s1 : Same H (upd H M (.lst lx)) := Same.new hM
    refine ⟨_, rfl, _, _, rfl, .inl (SqL.of (s1 _ _ hlx)), ?_⟩
    refine ⟨_, rfl, by omega, by omega, ?_⟩
    rw [show (((lx.length : Nat) : Int)).toNat = lx.length from Int.toNat_natCast _, hlen]
    refine for_range (lo := 0) (n := ls.length) (fun i σ' H' => ∃ (M' : Addr) (v2 v3 v4 : Option V), σ' = [some (.ref a), some (.ref M'), v2, v3, v4] ∧ Same H H' ∧ Ls H' M' ((peels i ls).map lD))
      ⟨M, none, none, none, rfl, s1, _, upd_same, rlx.to (TK.of s1)⟩ ?_ ?_
    · rintro i σ2 H2 hi ⟨M', v2, v3, v4, rfl, s2, ms, hms, rms⟩
      have hpl : (peels i ls).length ≤ 500 := Nat.le_trans (peels_le i ls) h500
      have hmsl : ms.length = (peels i ls).length := by rw [rms.len, List.length_map]
      generalize hX : peels i ls = X at rms hpl hmsl
      -- _law_ends
      refine ⟨_, rfl, M', rfl, ⟨_, SqL.of hms⟩, fun D hD => ?_⟩
      refine lc_list (K := K) (a := M') (xs := ms) (fun j H' => Same H2 H' ∧ Ls H' D ((X.take j).map fun l => mD l.2.2))
        ⟨Same.new hD, [], upd_same, by rw [List.take_zero]; exact .nil⟩ (fun j H' _ q => SqL.of (q.1 _ _ hms)) ?_ ?_
      · rintro j x H3 hj ⟨s3, ys, hy, ry⟩
        obtain ⟨d, hd, tx⟩ := rms.getv hj
        rw [List.getElem?_map] at hd
        obtain ⟨l, hl, rfl⟩ : ∃ l, X[j]? = some l ∧ d = lD l := by
          cases q : X[j]? with
          | none => rw [q] at hd; cases hd
          | some l => rw [q] at hd; exact ⟨l, rfl, (Option.some.inj hd).symm⟩
        obtain ⟨t, am, af, ao, rfl, h3t, h3m, h3f, h3o⟩ := Tp.ln_inv (tx.to (TK.of s3))
        refine ⟨rfl, _, rfl, _, _, _, _, rfl, rfl, SqT.of h3t, at_of (j := 2) rfl rfl, ys, hy, by rw [ry.len, List.length_map]; exact small1000 (by rw [List.length_take]; omega), fun c o ec => by rw [upd_ne (ne_of_none ec hD)]; exact s3 _ _ ec, _, upd_same, ?_⟩
        have tk : TK H3 (upd H3 D (.lst (ys ++ [.ref ao]))) := TK.put hy (by intro z; exact nofun)
        rw [List.take_add_one, hl, List.map_append]
        exact (ry.to tk).snoc ((Tp.mo h3o).to tk)
      rintro H3 ⟨s3, ys, hy, ry⟩
      rw [hmsl, List.take_length] at ry
      have lsE : Ls H3 D ((X.map fun l => l.2.2).map mD) := ⟨ys, hy, by rw [List.map_map]; exact ry⟩
      -- _law_left
      refine ⟨_, rfl, M', rfl, ⟨_, SqL.of (s3 _ _ hms)⟩, fun D2 hD2 => ?_⟩
      refine lc_list (K := K) (a := M') (xs := ms) (fun j H' => Same H3 H' ∧ Ls H' D2 (((X.take j).filter fun l => decide (l.2.1 ∈ X.map (·.2.2))).map lD))
        ⟨Same.new hD2, [], upd_same, by rw [List.take_zero]; exact .nil⟩ (fun j H' _ q => SqL.of (q.1 _ _ (s3 _ _ hms))) ?_ ?_
      · rintro j x H4 hj ⟨s4, zs, hz, rz⟩
        obtain ⟨d, hd, tx⟩ := rms.getv hj
        rw [List.getElem?_map] at hd
        obtain ⟨l, hl, rfl⟩ : ∃ l, X[j]? = some l ∧ d = lD l := by
          cases q : X[j]? with
          | none => rw [q] at hd; cases hd
          | some l => rw [q] at hd; exact ⟨l, rfl, (Option.some.inj hd).symm⟩
        have s34 := s3.trans s4
        have tx4 := tx.to (TK.of s34)
        obtain ⟨t, am, af, ao, rfl, h3t, h3m, h3f, h3o⟩ := Tp.ln_inv tx4
        have step : ((X.take (j + 1)).filter fun l => decide (l.2.1 ∈ X.map (·.2.2))) = ((X.take j).filter fun l => decide (l.2.1 ∈ X.map (·.2.2))) ++ (if decide (l.2.1 ∈ X.map (·.2.2)) = true then [l] else []) := by
          rw [List.take_add_one, hl, List.filter_append]
          congr 1
          by_cases q : decide (l.2.1 ∈ X.map (·.2.2)) = true
          · rw [if_pos q, Option.toList_some, List.filter_cons_of_pos (by exact q)]; rfl
          · rw [if_neg q, Option.toList_some, List.filter_cons_of_neg (by exact q)]; rfl
        refine ⟨rfl, _, rfl, _, _, _, _, rfl, rfl, SqT.of h3t, at_of (j := 1) rfl rfl, _, rfl, _, _, (Tp.mo h3f).d, (lsE.to s4).dp, shaped_m _, shaped_ms _, _, rfl, ?_⟩
        rw [any_m]
        refine ite2 (fun q => ?_) (fun q => ?_)
        · refine ⟨_, rfl, zs, hz, by rw [rz.len, List.length_map]; exact small1000 (by have := List.length_filter_le (fun l : Lnk => decide (l.2.1 ∈ X.map (·.2.2))) (X.take j); rw [List.length_take] at this; omega), fun c o ec => by rw [upd_ne (ne_of_none ec hD2)]; exact s4 _ _ ec, _, upd_same, ?_⟩
          have tk : TK H4 (upd H4 D2 (.lst (zs ++ [.ref t]))) := TK.put hz (by intro z; exact nofun)
          rw [step, if_pos q, List.map_append]
          exact (rz.to tk).snoc (tx4.to tk)
        · refine ⟨s4, zs, hz, ?_⟩
          rw [step, if_neg q, List.append_nil]; exact rz
      · rintro H4 ⟨s4, lz⟩
        rw [hmsl, List.take_length] at lz
        refine ⟨D2, _, _, _, rfl, s2.trans (s3.trans s4), ?_⟩
        show Ls H4 D2 ((peel (peels i ls)).map lD)
        rw [hX]; exact lz
    · rintro σ2 H2 ⟨M', v2, v3, v4, rfl, s2, lm⟩
      refine ⟨_, rfl, Nat.zero_le _, fun L hL => ?_⟩
      have le : Ls (upd H2 L (.lst [])) L [] := ⟨_, upd_same, .nil⟩
      refine ⟨_, _, (lm.to (Same.new hL)).dp, le.dp, shaped_ls _, rfl, k _ _ (s2.trans (Same.new hL)) ?_⟩
      rw [← ring_iff]
      cases peels ls.length ls with
      | nil => simp [PyData.eqv, PyData.eqvAll]
      | cons x xs => simp [PyData.eqv, PyData.eqvAll]
end
end KN

set_option Elab.async false
set_option linter.all false
set_option maxRecDepth 100000
set_option maxHeartbeats 4000000
namespace KN
open PySem L2
theorem snocInd {α : Type} {p : List α → Prop} (h0 : p []) (h1 : ∀ xs x, p xs → p (xs ++ [x])) (xs : List α) : p xs := by
  have g : ∀ n, ∀ xs : List α, xs.length = n → p xs := by
    intro n
    induction n with
    | zero => intro xs h; rw [List.length_eq_zero_iff.mp h]; exact h0
    | succ n ih =>
      intro xs h
      have ne : xs ≠ [] := fun z => by subst z; cases h
      rw [← List.dropLast_concat_getLast ne]
      exact h1 _ _ (ih _ (by rw [List.length_dropLast, h]; rfl))
  exact g _ xs rfl
theorem ahStep_cases (t : List Lnk) (r : Row) : ahStep t r = t ∨ ∃ m n o, r = .ah m n o ∧ ¬ Rch t o n ∧ ahStep t r = t ++ [(m, n, o)] := by
  cases r with
  | ah m n o =>
    by_cases q : Rch t o n
    · exact .inl (ahStep_yes q)
    · exact .inr ⟨m, n, o, rfl, q, ahStep_no q⟩
  | _ => exact .inl rfl
theorem ahF_from {rs : List Row} : ∀ l ∈ ahF rs, Row.ah l.1 l.2.1 l.2.2 ∈ rs := by
  induction rs using snocInd with
  | h0 => intro l hl; cases hl
  | h1 rs r ih =>
    intro l hl
    rw [ahF_snoc] at hl
    rcases ahStep_cases (ahF rs) r with e | ⟨m, n, o, rfl, _, e⟩
    · rw [e] at hl; exact List.mem_append_left _ (ih l hl)
    · rw [e] at hl
      rcases List.mem_append.mp hl with h | h
      · exact List.mem_append_left _ (ih l h)
      · rw [List.mem_singleton] at h; subst h; exact List.mem_append_right _ (List.mem_singleton.mpr rfl)
theorem ahF_noring (rs : List Row) : ¬ Ring (ahF rs) := by
  induction rs using snocInd with
  | h0 => rintro ⟨l, hl, _⟩; cases hl
  | h1 rs r ih =>
    rw [ahF_snoc]
    rcases ahStep_cases (ahF rs) r with e | ⟨m, n, o, rfl, q, e⟩
    · rw [e]; exact ih
    · rw [e, ring_snoc ih]; exact q
instance decMLt (a b : Mo) : Decidable (mLt a b) := inferInstanceAs (Decidable (_ ∨ _ ∧ _))
/-- rising rows cut at one of them -/
theorem ahF_cut {A B : List Row} {r : Row} (h : Rise (A ++ r :: B)) : (ahF (A ++ r :: B)).filter (fun l => decide (mLt l.1 r.mo)) = ahF A := by
  induction B using snocInd with
  | h0 =>
    rw [ahF_snoc]
    have base : (ahF A).filter (fun l => decide (mLt l.1 r.mo)) = ahF A := List.filter_eq_self.mpr fun l hl => decide_eq_true ((List.pairwise_append.mp h).2.2 _ (ahF_from l hl) r List.mem_cons_self)
    rcases ahStep_cases (ahF A) r with e | ⟨m, n, o, rfl, _, e⟩
    · rw [e]; exact base
    · rw [e, List.filter_append, base, List.filter_cons_of_neg (by simp [Row.mo, mLt.irr])]; exact List.append_nil _
  | h1 B x ih =>
    have e0 : A ++ r :: (B ++ [x]) = (A ++ r :: B) ++ [x] := by simp
    rw [e0] at h ⊢
    have h1 := (List.pairwise_append.mp h).1
    have hx : mLt r.mo x.mo := (List.pairwise_append.mp h).2.2 r (List.mem_append_right _ List.mem_cons_self) x List.mem_cons_self
    rw [ahF_snoc]
    rcases ahStep_cases (ahF (A ++ r :: B)) x with e | ⟨m, n, o, rfl, _, e⟩
    · rw [e]; exact ih h1
    · rw [e, List.filter_append, ih h1, List.filter_cons_of_neg]
      · exact List.append_nil _
      · rw [decide_eq_true_eq]; intro z; exact mLt.irr (z.trans hx)
theorem ahF_in {A B : List Row} {m n o : Mo} (h : Rise (A ++ Row.ah m n o :: B)) : (m, n, o) ∈ ahF (A ++ Row.ah m n o :: B) ↔ ¬ Rch (ahF A) o n := by
  induction B using snocInd with
  | h0 =>
    rw [ahF_snoc]
    have no : (m, n, o) ∉ ahF A := fun z => mLt.irr ((List.pairwise_append.mp h).2.2 _ (ahF_from _ z) _ List.mem_cons_self)
    by_cases q : Rch (ahF A) o n
    · rw [ahStep_yes q]; exact ⟨fun z => absurd z no, fun z => absurd q z⟩
    · rw [ahStep_no q]; exact ⟨fun _ => q, fun _ => List.mem_append_right _ List.mem_cons_self⟩
  | h1 B x ih =>
    have e0 : A ++ Row.ah m n o :: (B ++ [x]) = (A ++ Row.ah m n o :: B) ++ [x] := by simp
    rw [e0] at h ⊢
    have h1 := (List.pairwise_append.mp h).1
    have hx : mLt m x.mo := (List.pairwise_append.mp h).2.2 _ (List.mem_append_right _ List.mem_cons_self) x List.mem_cons_self
    rw [← ih h1, ahF_snoc]
    rcases ahStep_cases (ahF (A ++ Row.ah m n o :: B)) x with e | ⟨m', n', o', rfl, _, e⟩
    · rw [e]
    · rw [e, List.mem_append]
      refine ⟨fun z => z.elim id fun z => ?_, .inl⟩
      rw [List.mem_singleton] at z
      cases z
      exact absurd hx mLt.irr
/-- whether the told links have a new one -/
theorem ahF_told {A B : List Row} {m n o : Mo} (h : Rise (A ++ Row.ah m n o :: B)) : (m, n, o) ∈ ahF (A ++ Row.ah m n o :: B) ↔ ¬ Ring ((ahF (A ++ Row.ah m n o :: B)).filter (fun l => decide (mLt l.1 m)) ++ [(m, n, o)]) := by
  rw [ahF_in h, show (fun l : Lnk => decide (mLt l.1 m)) = (fun l => decide (mLt l.1 (Row.ah m n o).mo)) from rfl, ahF_cut h, ring_snoc (ahF_noring A)]
theorem rise_perm : ∀ {a b : List Row}, a.Perm b → Rise a → Rise b → a = b
  | [], b, p, _, _ => (List.nil_perm.mp p).symm
  | x :: a, [], p, _, _ => absurd p.length_eq (by simp)
  | x :: a, y :: b, p, ha, hb => by
    have hx : x ∈ y :: b := p.mem_iff.mp List.mem_cons_self
    have hy : y ∈ x :: a := p.mem_iff.mpr List.mem_cons_self
    have e : x = y := by
      rcases List.mem_cons.mp hx with e | hx
      · exact e
      rcases List.mem_cons.mp hy with e | hy
      · exact e.symm
      exact absurd (((List.pairwise_cons.mp ha).1 y hy).trans ((List.pairwise_cons.mp hb).1 x hx)) mLt.irr
    subst e
    rw [rise_perm (List.Perm.cons_inv p) (List.pairwise_cons.mp ha).2 (List.pairwise_cons.mp hb).2]
theorem rise_nd {rs : List Row} (h : Rise rs) : (rs.map Row.mo).Nodup := List.pairwise_map.mpr (h.imp fun k e => by rw [e] at k; exact mLt.irr k)
/-- the rows of the statement -/
structure Rows (rs : List Row) (many : Nat) : Prop where
  len : rs.length = 10 + many
  rise : Rise rs
  ok : ∀ r ∈ rs, MoOk r.mo
  nm : ∀ i r, i < 10 → rs[i]? = some r → CanTell (rs.take i) r
  ah : ∀ i r, 10 ≤ i → rs[i]? = some r → ∃ m n o, r = .ah m n o ∧ ¬ mLt m n ∧ ¬ mLt m o ∧ n ≠ o ∧ ∃ rk, (∃ ws ss l, Row.nm n rk ws ss l ∈ rs.take 10) ∧ ∃ ws ss l, Row.nm o rk ws ss l ∈ rs.take 10
/-- told in any order behind the names -/
theorem Rows.tell {rs : List Row} {many : Nat} (R : Rows rs many) (h25 : many ≤ 25) {L : List Row} (p : L.Perm (rs.drop 10)) : ∀ i r, (rs.take 10 ++ L)[i]? = some r → CanTell ((rs.take 10 ++ L).take i) r := by
  intro i r hr
  have h10 : (rs.take 10).length = 10 := by rw [List.length_take, R.len]; omega
  by_cases hi : i < 10
  · rw [List.getElem?_append_left (by omega), List.getElem?_take_of_lt hi] at hr
    rw [List.take_append_of_le_length (by omega), List.take_take, Nat.min_eq_left (by omega)]
    exact R.nm i r hi hr
  · rw [List.getElem?_append_right (by omega), h10] at hr
    have hm : r ∈ rs.drop 10 := p.mem_iff.mp (List.mem_of_getElem? hr)
    obtain ⟨j, hj⟩ := List.getElem?_of_mem hm
    rw [List.getElem?_drop] at hj
    obtain ⟨m, n, o, rfl, h1, h2, h3, rk, ⟨ws, ss, l, h4⟩, ⟨ws', ss', l', h5⟩⟩ := R.ah _ _ (by omega) hj
    have hll : (rs.take 10 ++ L).length = 10 + many := by rw [List.length_append, h10, p.length_eq, List.length_drop, R.len]; omega
    have full : (rs.take 10 ++ L).Perm rs := by
      have := (List.Perm.append_left (rs.take 10) p)
      rwa [List.take_append_drop] at this
    have nd : ((rs.take 10 ++ L).map Row.mo).Nodup := (full.map Row.mo).nodup_iff.mpr (rise_nd R.rise)
    have sub : ∀ x ∈ rs.take 10, x ∈ (rs.take 10 ++ L).take i := fun x hx => by
      rw [List.take_append, List.take_of_length_le (by omega)]
      exact List.mem_append_left _ hx
    refine ⟨R.ok _ (List.mem_of_getElem? hj), ?_, by rw [List.length_take, hll]; omega, h1, h2, h3, rk, ⟨ws, ss, l, sub _ h4⟩, ws', ss', l', sub _ h5⟩
    have hi2 : i < (rs.take 10 ++ L).length := by
      have := (List.getElem?_eq_some_iff.mp hr).1
      rw [List.length_append, h10]; omega
    have e2 : (rs.take 10 ++ L)[i]? = some (Row.ah m n o) := by rw [List.getElem?_append_right (by omega), h10]; exact hr
    intro z
    obtain ⟨x, hx, ex⟩ := List.mem_map.mp z
    obtain ⟨k, hk, ek⟩ := List.getElem_of_mem hx
    rw [List.length_take] at hk
    rw [List.getElem_take] at ek
    have := (List.getElem_inj (h₀ := by rw [List.length_map]; omega) (h₁ := by rw [List.length_map]; exact hi2) nd (i := k) (j := i)).mp (by
      rw [List.getElem_map, List.getElem_map, ek, (List.getElem?_eq_some_iff.mp e2).2]; exact ex)
    omega
theorem upB_filter_rise {rs : List Row} (h : Rise rs) (u : Option Mo) : Rise (rs.filter fun r => upB r.mo u) := List.Pairwise.sublist List.filter_sublist h
end KN
set_option Elab.async false
set_option linter.all false
set_option maxRecDepth 100000
set_option maxHeartbeats 4000000
namespace KN
open PySem L2
abbrev m0 : Mo := (0, 0)
def NmAt (ms : List Mo) (i : Nat) (r : Row) : Prop :=
  (i < 7 ∧ ∃ a b c, IsW a ∧ IsW b ∧ IsW c ∧ r = .nm (ms.getD i m0) 0 [a, b] [c] none) ∨ (7 ≤ i ∧ ∃ a, IsW a ∧ r = .nm (ms.getD i m0) 1 [a] [] (some (ms.getD (i - 7) m0)))
def AhAt (ms : List Mo) (i : Nat) (r : Row) : Prop := ∃ x y, r = .ah (ms.getD i m0) (ms.getD x m0) (ms.getD y m0) ∧ x ≠ y ∧ (x < 7 ∧ y < 7 ∨ (7 ≤ x ∧ x < 10 ∧ 7 ≤ y ∧ y < 10))
structure Up (ms : List Mo) (rs : List Row) : Prop where
  mo : rs.map Row.mo = ms.take rs.length
  nm : ∀ i r, i < 10 → rs[i]? = some r → NmAt ms i r
  ah : ∀ i r, 10 ≤ i → rs[i]? = some r → AhAt ms i r
theorem Up.nil (ms : List Mo) : Up ms [] := ⟨rfl, fun _ _ _ h => by simp at h, fun _ _ _ h => by simp at h⟩
theorem getD_some {α : Type} {xs : List α} {i : Nat} (d : α) (h : i < xs.length) : xs[i]? = some (xs.getD i d) := by
  rw [List.getD_eq_getElem?_getD, List.getElem?_eq_getElem h]; rfl
theorem Up.snoc {ms : List Mo} {rs : List Row} {r : Row} (u : Up ms rs) (h : rs.length < ms.length) (hm : r.mo = ms.getD rs.length m0) (h1 : rs.length < 10 → NmAt ms rs.length r) (h2 : 10 ≤ rs.length → AhAt ms rs.length r) : Up ms (rs ++ [r]) := by
  have at' : ∀ i x, (rs ++ [r])[i]? = some x → rs[i]? = some x ∨ (i = rs.length ∧ x = r) := fun i x hx => by
    by_cases q : i < rs.length
    · rw [List.getElem?_append_left q] at hx; exact .inl hx
    · rw [List.getElem?_append_right (by omega)] at hx
      have hl := (List.getElem?_eq_some_iff.mp hx).1
      rw [List.length_singleton] at hl
      have e : i - rs.length = 0 := by omega
      rw [e] at hx
      exact .inr ⟨by omega, (Option.some.inj hx).symm⟩
  refine ⟨?_, fun i x hi hx => ?_, fun i x hi hx => ?_⟩
  · rw [List.map_append, u.mo, List.length_append, List.length_singleton, List.take_add_one, getD_some m0 h, ← hm]; rfl
  · rcases at' i x hx with q | ⟨rfl, rfl⟩
    · exact u.nm i x hi q
    · exact h1 hi
  · rcases at' i x hx with q | ⟨rfl, rfl⟩
    · exact u.ah i x hi q
    · exact h2 hi
theorem pw_get {ms : List Mo} (h : ms.Pairwise mLt) {i j : Nat} (hij : i < j) (hj : j < ms.length) : mLt (ms.getD i m0) (ms.getD j m0) := by
  have := List.pairwise_iff_getElem.mp h i j (by omega) hj hij
  rw [List.getD_eq_getElem?_getD, List.getD_eq_getElem?_getD, List.getElem?_eq_getElem hj, List.getElem?_eq_getElem (by omega)]; exact this
theorem Up.rows {ms : List Mo} {rs : List Row} {many : Nat} (u : Up ms rs) (pw : ms.Pairwise mLt) (ok : ∀ m ∈ ms, MoOk m) (hl : rs.length = ms.length) (hm : ms.length = 10 + many) (h24 : many ≤ 25) : Rows rs many := by
  have mo : rs.map Row.mo = ms := by rw [u.mo, hl, List.take_length]
  have rise : Rise rs := List.pairwise_map.mp (by rw [mo]; exact pw)
  have okr : ∀ r ∈ rs, MoOk r.mo := fun r hr => ok _ (by rw [← mo]; exact List.mem_map.mpr ⟨r, hr, rfl⟩)
  have name : ∀ x, x < 10 → ∃ ws ss l, Row.nm (ms.getD x m0) (if x < 7 then 0 else 1) ws ss l ∈ rs.take 10 ∧ ∀ i, x < i → Row.nm (ms.getD x m0) (if x < 7 then 0 else 1) ws ss l ∈ rs.take i := fun x hx => by
    obtain ⟨r, hr⟩ : ∃ r, rs[x]? = some r := ⟨_, List.getElem?_eq_getElem (by omega)⟩
    have inn : ∀ i, x < i → r ∈ rs.take i := fun i hi => List.mem_of_getElem? (i := x) (by rw [List.getElem?_take_of_lt hi]; exact hr)
    rcases u.nm x r hx hr with ⟨h7, a, b, c, _, _, _, rfl⟩ | ⟨h7, a, _, rfl⟩
    · rw [if_pos h7]; exact ⟨_, _, _, inn 10 hx, inn⟩
    · rw [if_neg (by omega)]; exact ⟨_, _, _, inn 10 hx, inn⟩
  refine ⟨by omega, rise, okr, fun i r hi hr => ?_, fun i r hi hr => ?_⟩
  · have hil : i < rs.length := (List.getElem?_eq_some_iff.mp hr).1
    have fresh : r.mo ∉ (rs.take i).map Row.mo := fun z => by
      obtain ⟨x, hx, ex⟩ := List.mem_map.mp z
      obtain ⟨k, hk⟩ := List.getElem?_of_mem hx
      have hki : k < i := by have := (List.getElem?_eq_some_iff.mp hk).1; rw [List.length_take] at this; omega
      rw [List.getElem?_take_of_lt hki] at hk
      have := List.pairwise_iff_getElem.mp rise k i (by omega) hil hki
      rw [(List.getElem?_eq_some_iff.mp hk).2, (List.getElem?_eq_some_iff.mp hr).2, ex] at this
      exact mLt.irr this
    refine ⟨okr r (List.mem_of_getElem? hr), fresh, by rw [List.length_take]; omega, ?_⟩
    rcases u.nm i r hi hr with ⟨h7, a, b, c, ha, hb, hc, rfl⟩ | ⟨h7, a, ha, rfl⟩
    · refine ⟨⟨by decide, by decide, rfl, fun w hw => ?_, .inl ⟨rfl, rfl, c, rfl, hc⟩⟩, fun l e => by cases e⟩
      rcases List.mem_cons.mp hw with rfl | hw
      · exact ha
      · rw [List.mem_singleton] at hw; subst hw; exact hb
    · refine ⟨⟨by decide, by decide, rfl, fun w hw => ?_, .inr ⟨rfl, _, rfl, ok _ ?_⟩⟩, fun l e => ?_⟩
      · rw [List.mem_singleton] at hw; subst hw; exact ha
      · exact List.mem_of_getElem? (getD_some m0 (by omega))
      · cases e
        refine ⟨fun z => mLt.irr (z.trans (pw_get pw (i := i - 7) (j := i) (by omega) (by omega))), 0, ?_⟩
        obtain ⟨ws, ss, l', _, h⟩ := name (i - 7) (by omega)
        rw [if_pos (by omega)] at h
        exact ⟨ws, ss, l', h i (by omega), rfl⟩
  · have hil : i < rs.length := (List.getElem?_eq_some_iff.mp hr).1
    obtain ⟨x, y, rfl, hxy, hc⟩ := u.ah i r hi hr
    have lt : ∀ a b, a < b → b < ms.length → ms.getD a m0 ≠ ms.getD b m0 := fun a b h k z => mLt.irr (by have := pw_get pw h k; rw [z] at this; exact this)
    refine ⟨_, _, _, rfl, fun z => mLt.irr (z.trans (pw_get pw (i := x) (j := i) (by omega) (by omega))), fun z => mLt.irr (z.trans (pw_get pw (i := y) (j := i) (by omega) (by omega))), ?_, (if x < 7 then 0 else 1), ?_, ?_⟩
    · rcases Nat.lt_or_gt_of_ne hxy with q | q
      · exact lt x y q (by omega)
      · exact (lt y x q (by omega)).symm
    · obtain ⟨ws, ss, l, h, _⟩ := name x (by omega)
      exact ⟨ws, ss, l, h⟩
    · obtain ⟨ws, ss, l, h, _⟩ := name y (by omega)
      rw [show (if x < 7 then (0 : Int) else 1) = if y < 7 then 0 else 1 by
        rcases hc with q | q
        · rw [if_pos q.1, if_pos q.2]
        · rw [if_neg (by omega), if_neg (by omega)]]
      exact ⟨ws, ss, l, h⟩
theorem str_at {ss : List Str} {r : Int} (h0 : 0 ≤ r) (h1 : r < ss.length) : atI (ss.map V.str) r = some (.str (ss.getD r.toNat "")) := by
  refine at_ofG h0 ?_
  rw [List.getElem?_map, getD_some ("" : Str) (by omega)]; rfl
theorem mo_at {H : Hp} {xs : List V} {ms : List Mo} {r : Int} (h : TpAll H xs (ms.map mD)) (h0 : 0 ≤ r) (h1 : r < ms.length) : ∃ a, atI xs r = some (.ref a) ∧ H a = some (.tup [.int (ms.getD r.toNat m0).1, .int (ms.getD r.toNat m0).2]) := by
  have e : (ms.map mD)[r.toNat]? = some (mD (ms.getD r.toNat m0)) := by rw [List.getElem?_map, getD_some m0 (by omega)]; rfl
  obtain ⟨v, h2, h3⟩ := h.get e
  obtain ⟨a, rfl, ha⟩ := Tp.mo_inv h3
  exact ⟨a, at_ofG h0 h2, ha⟩
theorem isW_at {ss : List Str} (h : ∀ s ∈ ss, IsW s) {r : Nat} (k : r < ss.length) : IsW (ss.getD r "") := h _ (List.mem_of_getElem? (getD_some ("" : Str) k))
/-- a row put behind -/
theorem app_row {H Hn : Hp} {t F : Addr} {xs vs : List V} {ds : List PyData} {r : Row} (s : Same H Hn) (ht : Hn t = none) (hF : H F = some (.lst xs)) (rx : TpAll H xs ds) (rv : TpAll Hn vs r.ds) :
    Ls (upd (upd Hn t (.tup vs)) F (.lst (xs ++ [.ref t]))) F (ds ++ [r.d]) ∧ ∀ a o, a ≠ F → H a = some o → upd (upd Hn t (.tup vs)) F (.lst (xs ++ [.ref t])) a = some o := by
  have nF : F ≠ t := ne_of_none (s _ _ hF) ht
  have tk : TK Hn (upd (upd Hn t (.tup vs)) F (.lst (xs ++ [.ref t]))) := (TK.new ht).trans (TK.put (u := .lst xs) (by rw [upd_ne nF]; exact s _ _ hF) (by intro z; exact nofun))
  refine ⟨⟨_, upd_same, (rx.to ((TK.of s).trans tk)).snoc (.tup (by rw [upd_ne nF.symm, upd_same]) (rv.to tk))⟩, fun a o na ea => ?_⟩
  rw [upd_ne na, upd_ne (ne_of_none (s _ _ ea) ht)]; exact s _ _ ea
theorem four_at {r : Int} (h : 0 ≤ r) (k : r < 4) : ∃ f : Int, atI [V.int 0, V.int 0, V.int 0, V.int 7] r = some (.int f) ∧ (f = 0 ∨ f = 7) := by
  have : r = 0 ∨ r = 1 ∨ r = 2 ∨ r = 3 := by omega
  rcases this with rfl | rfl | rfl | rfl
  · exact ⟨_, rfl, .inl rfl⟩
  · exact ⟨_, rfl, .inl rfl⟩
  · exact ⟨_, rfl, .inl rfl⟩
  · exact ⟨_, rfl, .inr rfl⟩
def spRows : Sp := fun vs H Q _ => ∃ (p c : Addr) (b many : Int), vs = [.ref p, .int many] ∧ Pen H p c b ∧ b ≤ 100000000 ∧ 0 ≤ many ∧ many ≤ 25 ∧
  ∀ (H' : Hp) (l : Addr) (rs : List Row), Kp p H H' → Pen H' p c (b + 250) → H l = none → Ls H' l (rs.map Row.d) → Rows rs many.toNat → Q (.ref l) H'
section
variable {P : Program} {w : World} {K : PySem.W.Frag} {mg : Str → Option Value} {base : Heap}
abbrev s__law_ahead_rows : Stmt := top 44
theorem sc__law_ahead_rows : FnScope ["_law_pen_here", "_law_many", "_law_words", "_law_moments_here", "_law_rows", "_law_k", "_law_width", "_law_first", "_law_size", "_law_one", "_law_other"] ["_law_pen_here", "_law_many"] (defScope s__law_ahead_rows) := ⟨rfl, rfl, rfl, by decide +kernel, rfl, by decide +kernel, by decide +kernel⟩
theorem ok__law_ahead_rows {f : Addr} {fd : FuncData} (F : Fun K "_law_ahead_rows" "_law_ahead_rows" s__law_ahead_rows f fd) (m_range : mg "range" = none) (c__law_draw : C8.Cal P w K mg base 1 "_law_draw" spDraw []) (c__law_names : C8.Cal P w K mg base 2 "_law_names" spNames []) (c__law_moments : C8.Cal P w K mg base 2 "_law_moments" spMoments []) : FnOk P w K mg base CX0 3 f fd ["_law_pen_here", "_law_many"] spRows := by
  refine F.ok sc__law_ahead_rows (fun vs H Q E h => ?_) (fun cdv A outer s H vs Q E hr h => ?_)
  · obtain ⟨p, c, b, many, rfl, _⟩ := h; rfl
  · obtain ⟨p, c, b, many, rfl, pen, hb, mm0, mm1, k⟩ := h
    have hu := hu_of hr
    refine ⟨_, (pss_cons (ps_set (i := 2) sc__law_ahead_rows.nd rfl (Or.inl rfl) (C8.pe_c c__law_names hr (by decide) rfl (pa_cons (pv 0) (pa_cons pe_int pa_nil))))
      (pss_cons (ps_set (i := 3) sc__law_ahead_rows.nd rfl (Or.inl rfl) (C8.pe_c c__law_moments hr (by decide) rfl (pa_cons (pv 0) (pa_cons (pe_op op_add pe_int (pv 1)) pa_nil))))
      (pss_cons (ps_set (i := 4) sc__law_ahead_rows.nd rfl (Or.inl rfl) (pe_lst pa_nil))
      (pss_cons (ps_for PassesOwn.never rfl (pi_range1 rfl m_range (pa_cons pe_int pa_nil)) (pg_name (i := 5) sc__law_ahead_rows.nd rfl (Or.inl rfl))
      (pss_one (ps_if (pt_cmpR op_lt (pv 5) pe_int (nomark _)) (pss_one (ps_expr (pe_bm PySem.F.plainAttrs_list PySem.F.slot_list_append PySem.F.type_list_append mt_append (pv 4) (pa_cons (pe_tup (pa_cons pe_str (pa_cons (pe_ix ix_list (pv 3) (pv 5) (fun _ _ => rfl)) (pa_cons pe_int (pa_cons (pe_tup (pa_cons (pe_ix ix_list (pv 2) (pe_op op_mod (pv 5) pe_int) (fun _ _ => rfl)) (pa_cons (pe_ix ix_list (pv 2) (pe_op op_add pe_int (pe_op op_mod (pv 5) pe_int)) (fun _ _ => rfl)) pa_nil))) (pa_cons (pe_tup (pa_cons (pe_ix ix_list (pv 2) (pe_op op_add pe_int (pe_op op_mod (pv 5) pe_int)) (fun _ _ => rfl)) pa_nil)) (pa_cons pe_non pa_nil))))))) pa_nil)))) (pss_one (ps_expr (pe_bm PySem.F.plainAttrs_list PySem.F.slot_list_append PySem.F.type_list_append mt_append (pv 4) (pa_cons (pe_tup (pa_cons pe_str (pa_cons (pe_ix ix_list (pv 3) (pv 5) (fun _ _ => rfl)) (pa_cons pe_int (pa_cons (pe_tup (pa_cons (pe_ix ix_list (pv 2) (pe_op op_mod (pv 5) pe_int) (fun _ _ => rfl)) pa_nil)) (pa_cons (pe_tup pa_nil) (pa_cons (pe_ix ix_list (pv 3) (pe_op op_sub (pv 5) pe_int) (fun _ _ => rfl)) pa_nil))))))) pa_nil)))))))
      (pss_cons (ps_set (i := 6) sc__law_ahead_rows.nd rfl (Or.inl rfl) (pe_op op_add pe_int (C8.pe_c c__law_draw hr (by decide) rfl (pa_cons (pv 0) (pa_cons pe_int pa_nil)))))
      (pss_cons (ps_for PassesOwn.never rfl (pi_range1 rfl m_range (pa_cons (pv 1) pa_nil)) (pg_name (i := 5) sc__law_ahead_rows.nd rfl (Or.inl rfl))
      (pss_cons (ps_set (i := 7) sc__law_ahead_rows.nd rfl (Or.inl rfl) (pe_ix ix_list (pe_lst (pa_cons pe_int (pa_cons pe_int (pa_cons pe_int (pa_cons pe_int pa_nil))))) (C8.pe_c c__law_draw hr (by decide) rfl (pa_cons (pv 0) (pa_cons pe_int pa_nil))) (fun _ _ => rfl)))
      (pss_cons (ps_set (i := 8) sc__law_ahead_rows.nd rfl (Or.inl rfl) (pe_ifExp (pt_cmpR op_eq (pv 7) pe_int (nomark _)) (pv 6) pe_int))
      (pss_cons (ps_set (i := 9) sc__law_ahead_rows.nd rfl (Or.inl rfl) (C8.pe_c c__law_draw hr (by decide) rfl (pa_cons (pv 0) (pa_cons (pv 8) pa_nil))))
      (pss_cons (ps_set (i := 10) sc__law_ahead_rows.nd rfl (Or.inl rfl) (pe_op op_mod (pe_op op_add (pe_op op_add (pv 9) pe_int) (C8.pe_c c__law_draw hr (by decide) rfl (pa_cons (pv 0) (pa_cons (pe_op op_sub (pv 8) pe_int) pa_nil)))) (pv 8)))
      (pss_one (ps_expr (pe_bm PySem.F.plainAttrs_list PySem.F.slot_list_append PySem.F.type_list_append mt_append (pv 4) (pa_cons (pe_tup (pa_cons pe_str (pa_cons (pe_ix ix_list (pv 3) (pe_op op_add pe_int (pv 5)) (fun _ _ => rfl)) (pa_cons (pe_ix ix_list (pv 3) (pe_op op_add (pv 7) (pv 9)) (fun _ _ => rfl)) (pa_cons (pe_ix ix_list (pv 3) (pe_op op_add (pv 7) (pv 10)) (fun _ _ => rfl)) pa_nil))))) pa_nil)))))))))
      (pss_one (ps_ret (pv 4))))))))), ?_⟩
    refine ⟨_, rfl, p, c, b, 8, rfl, pen, by omega, by decide, by decide, fun H1 la ss k1 pen1 la0 hla hsl hsw => ?_⟩
    refine ⟨_, rfl, _, rfl, _, _, rfl, rfl, p, c, _, _, rfl, pen1, by omega, by omega, by omega, fun H2 ma ms k2 pen2 ma0 ⟨mx, hma, rma⟩ hml hpw hok => ?_⟩
    have hsl8 : ss.length = 8 := hsl
    have hml' : ms.length = 10 + many.toNat := by rw [hml]; omega
    refine ⟨Nat.zero_le _, fun F hF => ?_⟩
    have k02 : Kp p H H2 := k1.trans k2
    have nF := pen2.off hF
    have nlap : la ≠ p := pen1.ne hla
    have hla2 := k2 _ _ nlap hla
    have nFla : F ≠ la := fun z => by subst z; rw [hla2] at hF; cases hF
    have nFma : F ≠ ma := fun z => by subst z; rw [hma] at hF; cases hF
    have nmap : ma ≠ p := pen2.ne hma
    have hF0 : H F = none := k02.free nF.1 hF
    refine ⟨_, rfl, by decide, by decide, for_range (lo := 0) (n := 10) (fun i σ' H' => ∃ (v5 : Option V) (rs : List Row), σ' = [some (.ref p), some (.int many), some (.ref la), some (.ref ma), some (.ref F), v5, none, none, none, none, none] ∧
        (∀ a o, a ≠ F → H2 a = some o → H' a = some o) ∧ Ls H' F (rs.map Row.d) ∧ rs.length = i ∧ Up ms rs)
      ⟨none, [], rfl, fun a o na e => by rw [upd_ne na]; exact e, ⟨_, upd_same, .nil⟩, rfl, Up.nil ms⟩ ?_ ?_⟩
    · rintro i σ3 H3 hi ⟨v5, rs, rfl, k3, ⟨xs, hx, rx⟩, hl, up⟩
      have hxl : xs.length = i := by rw [rx.len, List.length_map, hl]
      have tk3 : TK H2 H3 := fun a o e => k3 a _ (fun z => by subst z; rw [hF] at e; cases e) e
      have hma3 := k3 _ _ nFma.symm hma
      have hla3 := k3 _ _ nFla.symm hla2
      have rma3 := rma.to tk3
      obtain ⟨a1, ea1, ha1⟩ := mo_at (r := 0 + (i : Int)) rma3 (by omega) (by omega)
      have ti : (0 + (i : Int)).toNat = i := by omega
      rw [ti] at ha1
      have q2 := mod_lt (x := 0 + (i : Int)) (m := 2) (by decide)
      have q3 := mod_lt (x := 0 + (i : Int)) (m := 3) (by decide)
      refine ⟨_, rfl, _, _, rfl, rfl, _, rfl, ite2 (fun h1 => ?_) (fun h1 => ?_)⟩
      · have h7 : 0 + (i : Int) < 7 := of_decide_eq_true h1
        refine ⟨_, rfl, .inl ⟨rfl, _, SqL.of hx⟩, _, rfl, _, rfl, ma, _, _, _, rfl, rfl, SqL.of hma3, ea1, ?_⟩
        refine ⟨_, rfl, _, rfl, _, _, rfl, rfl, (by show (0 : Int) < 2; decide), la, _, _, _, rfl, rfl, SqL.of hla3, str_at q2.1 (by omega), ?_⟩
        refine ⟨_, rfl, _, rfl, _, _, rfl, rfl, (by show (0 : Int) < 3; decide), _, _, rfl, rfl, la, _, _, _, rfl, rfl, SqL.of hla3, str_at (r := 2 + (0 + (i : Int)) % 3) (by omega) (by omega), ?_⟩
        refine ⟨by show 2 ≤ sizeLine; decide, fun t1 ht1 => ?_⟩
        have s1 : Same H3 (upd H3 t1 (.tup [.str (ss.getD ((0 + (i : Int)) % 2).toNat ""), .str (ss.getD (2 + (0 + (i : Int)) % 3).toNat "")])) := Same.new ht1
        refine ⟨_, rfl, _, rfl, _, _, rfl, rfl, (by show (0 : Int) < 3; decide), _, _, rfl, rfl, la, _, _, _, rfl, rfl, SqL.of (s1 _ _ hla3), str_at (r := 5 + (0 + (i : Int)) % 3) (by omega) (by omega), ?_⟩
        refine ⟨by show 1 ≤ sizeLine; decide, fun t2 ht2 => ?_⟩
        have s2 := s1.trans (Same.new (o := .tup [.str (ss.getD (5 + (0 + (i : Int)) % 3).toNat "")]) ht2)
        refine ⟨by show 6 ≤ sizeLine; decide, fun t ht => ?_⟩
        have n12 : t1 ≠ t2 := fun z => by subst z; rw [upd_same] at ht2; cases ht2
        have hw2 : IsW (ss.getD ((0 + (i : Int)) % 2).toNat "") := isW_at hsw (by omega)
        have hw3 : IsW (ss.getD (2 + (0 + (i : Int)) % 3).toNat "") := isW_at hsw (by omega)
        have hw5 : IsW (ss.getD (5 + (0 + (i : Int)) % 3).toNat "") := isW_at hsw (by omega)
        generalize ss.getD ((0 + (i : Int)) % 2).toNat "" = w1 at *
        generalize ss.getD (2 + (0 + (i : Int)) % 3).toNat "" = w2 at *
        generalize ss.getD (5 + (0 + (i : Int)) % 3).toNat "" = w3 at *
        obtain ⟨ls, kp⟩ := app_row (r := .nm (ms.getD i m0) 0 [w1, w2] [w3] none) (vs := [.str "name", .ref a1, .int 0, .ref t1, .ref t2, .non]) s2 ht hx rx
          (.cons (.str _) (.cons (Tp.mo (m := ms.getD i m0) (s2 _ _ ha1)) (.cons (.int _) (.cons (.tup (by rw [upd_ne n12, upd_same]) (.cons (.str _) (.cons (.str _) .nil))) (.cons (.tup upd_same (.cons (.str _) .nil)) (.cons .non .nil))))))
        refine ⟨F, _, _, rfl, rfl, by rw [upd_ne (ne_of_none (s2 _ _ hx) ht)]; exact s2 _ _ hx, by rw [hxl]; exact small1000 (by omega), ?_⟩
        refine ⟨_, rs ++ [.nm (ms.getD i m0) 0 [w1, w2] [w3] none], rfl, fun a o na e => kp _ _ na (k3 a o na e), by rw [List.map_append]; exact ls, by rw [List.length_append, hl]; rfl, up.snoc (by omega) (by rw [hl]; rfl) (fun _ => .inl ⟨by omega, w1, w2, w3, hw2, hw3, hw5, by rw [hl]⟩) (fun z => by omega)⟩
      · have h7 : ¬ (0 + (i : Int)) < 7 := fun z => h1 (decide_eq_true z)
        obtain ⟨a7, ea7, ha7⟩ := mo_at (r := 0 + (i : Int) - 7) rma3 (by omega) (by omega)
        have ti7 : (0 + (i : Int) - 7).toNat = i - 7 := by omega
        rw [ti7] at ha7
        refine ⟨_, rfl, .inl ⟨rfl, _, SqL.of hx⟩, _, rfl, _, rfl, ma, _, _, _, rfl, rfl, SqL.of hma3, ea1, ?_⟩
        refine ⟨_, rfl, _, rfl, _, _, rfl, rfl, (by show (0 : Int) < 2; decide), la, _, _, _, rfl, rfl, SqL.of hla3, str_at q2.1 (by omega), ?_⟩
        refine ⟨by show 1 ≤ sizeLine; decide, fun t1 ht1 => ?_⟩
        have s1 : Same H3 (upd H3 t1 (.tup [.str (ss.getD ((0 + (i : Int)) % 2).toNat "")])) := Same.new ht1
        refine ⟨Nat.zero_le _, fun t2 ht2 => ?_⟩
        have s2 := s1.trans (Same.new (o := .tup []) ht2)
        refine ⟨_, rfl, _, rfl, _, _, rfl, rfl, ma, _, _, _, rfl, rfl, SqL.of (s2 _ _ hma3), ea7, ?_⟩
        refine ⟨by show 6 ≤ sizeLine; decide, fun t ht => ?_⟩
        have n12 : t1 ≠ t2 := fun z => by subst z; rw [upd_same] at ht2; cases ht2
        have hw2 : IsW (ss.getD ((0 + (i : Int)) % 2).toNat "") := isW_at hsw (by omega)
        generalize ss.getD ((0 + (i : Int)) % 2).toNat "" = w1 at *
        obtain ⟨ls, kp⟩ := app_row (r := .nm (ms.getD i m0) 1 [w1] [] (some (ms.getD (i - 7) m0))) (vs := [.str "name", .ref a1, .int 1, .ref t1, .ref t2, .ref a7]) s2 ht hx rx
          (.cons (.str _) (.cons (Tp.mo (m := ms.getD i m0) (s2 _ _ ha1)) (.cons (.int _) (.cons (.tup (by rw [upd_ne n12, upd_same]) (.cons (.str _) .nil)) (.cons (.tup upd_same .nil) (.cons (Tp.mo (m := ms.getD (i - 7) m0) (s2 _ _ ha7)) .nil))))))
        refine ⟨F, _, _, rfl, rfl, by rw [upd_ne (ne_of_none (s2 _ _ hx) ht)]; exact s2 _ _ hx, by rw [hxl]; exact small1000 (by omega), ?_⟩
        refine ⟨_, rs ++ [.nm (ms.getD i m0) 1 [w1] [] (some (ms.getD (i - 7) m0))], rfl, fun a o na e => kp _ _ na (k3 a o na e), by rw [List.map_append]; exact ls, by rw [List.length_append, hl]; rfl, up.snoc (by omega) (by rw [hl]; rfl) (fun _ => .inr ⟨by omega, w1, hw2, by rw [hl]⟩) (fun z => by omega)⟩
    · rintro σ3 H3 ⟨v5, rs, rfl, k3, ls3, hl3, up3⟩
      have pen3 : Pen H3 p c (b + 16 + 2 + 3 * (10 + many)) := pen2.keep fun a o ha e => k3 a o (fun z => by subst z; exact ha.elim nF.1 nF.2) e
      -- the width
      refine ⟨_, rfl, p, c, _, 6, rfl, pen3, by omega, by decide, by decide, fun H4 wd k4 pen4 w0 w1 => ?_⟩
      refine ⟨_, _, rfl, rfl, ?_⟩
      refine ⟨_, rfl, _, rfl, by omega, by omega, for_range (lo := 0) (n := many.toNat) (fun i σ' H' => ∃ (v5 v7 v8 v9 v10 : Option V) (rs : List Row), σ' = [some (.ref p), some (.int many), some (.ref la), some (.ref ma), some (.ref F), v5, some (.int (2 + wd)), v7, v8, v9, v10] ∧
          (∀ a o, a ≠ p → a ≠ F → H2 a = some o → H' a = some o) ∧ Pen H' p c (b + 16 + 2 + 3 * (10 + many) + 1 + 3 * i) ∧ Ls H' F (rs.map Row.d) ∧ rs.length = 10 + i ∧ Up ms rs)
        ⟨v5, none, none, none, none, rs, rfl, fun a o na nb e => k4 _ _ na (k3 a o nb e), pen4.up (by omega), (let ⟨ys, e1, e2⟩ := ls3; ⟨ys, k4 _ _ nF.1 e1, e2.to (pen3.tk k4)⟩), by omega, up3⟩ ?_ ?_⟩
      · rintro i σ5 H5 hi ⟨v5, v7, v8, v9, v10, rs, rfl, k5, pen5, ls5, hl, up⟩
        -- first
        refine ⟨by show 4 ≤ sizeLine; decide, fun L hL => ?_⟩
        have nL := pen5.off hL
        refine ⟨_, rfl, p, c, _, 4, rfl, pen5.put nL, by omega, by decide, by decide, fun H6 r6 k6 pen6 r60 r61 => ?_⟩
        obtain ⟨first, ef, hf⟩ := four_at r60 r61
        refine ⟨L, _, _, _, rfl, rfl, SqL.of (k6 _ _ nL.1 upd_same), ef, ?_⟩
        have k56 : Kp p H5 H6 := (Kp.new hL).trans k6
        have tk3 : TK H2 H6 := (show TK H2 H5 from fun a o e => k5 a _ (fun z => by subst z; obtain ⟨_, _, _, h, _⟩ := pen2; rw [h] at e; cases e) (fun z => by subst z; rw [hF] at e; cases e) e).trans (pen5.tk k56)
        have rma6 := rma.to tk3
        have hma6 : H6 ma = some (.lst mx) := k56 _ _ nmap (k5 _ _ nmap nFma.symm hma)
        obtain ⟨xs, hx5, rx5⟩ := ls5
        have hx6 : H6 F = some (.lst xs) := k56 _ _ nF.1 hx5
        have rx6 := rx5.to (pen5.tk k56)
        have hxl : xs.length = 10 + i := by rw [rx5.len, List.length_map, hl]
        have rest : ∀ (sz : Int), (first = 0 ∧ 2 ≤ sz ∧ sz ≤ 7 ∨ first = 7 ∧ sz = 3) → ∀ (one : Int) (H7 : Hp), Kp p H6 H7 → Pen H7 p c (b + 16 + 2 + 3 * (10 + many) + 1 + 3 * i + 3) → 0 ≤ one → one < sz → ∀ (ot : Int), 0 ≤ ot → ot < sz → one ≠ ot →
            ∃ a1 a2 a3, atI mx (10 + (0 + (i : Int))) = some (.ref a1) ∧ atI mx (first + one) = some (.ref a2) ∧ atI mx (first + ot) = some (.ref a3) ∧ H7 ma = some (.lst mx) ∧ H7 F = some (.lst xs) ∧
              ∀ t, H7 t = none → (∀ a o, a ≠ p → a ≠ F → H2 a = some o → upd (upd H7 t (.tup [.str "ahead", .ref a1, .ref a2, .ref a3])) F (.lst (xs ++ [.ref t])) a = some o) ∧
                Pen (upd (upd H7 t (.tup [.str "ahead", .ref a1, .ref a2, .ref a3])) F (.lst (xs ++ [.ref t]))) p c (b + 16 + 2 + 3 * (10 + many) + 1 + 3 * ((i + 1 : Nat) : Int)) ∧
                ∃ rs' : List Row, Ls (upd (upd H7 t (.tup [.str "ahead", .ref a1, .ref a2, .ref a3])) F (.lst (xs ++ [.ref t]))) F (rs'.map Row.d) ∧ rs'.length = 10 + (i + 1) ∧ Up ms rs' := by
          intro sz hsz one H7 k7 pen7 o0 o1 ot t0 t1 hne
          have hlt1 : first + one < 10 ∧ 0 ≤ first + one := by omega
          have hlt2 : first + ot < 10 ∧ 0 ≤ first + ot := by omega
          have rma7 := rma6.to (pen6.tk k7)
          obtain ⟨a1, e1, h1⟩ := mo_at (r := 10 + (0 + (i : Int))) rma7 (by omega) (by omega)
          obtain ⟨a2, e2, h2⟩ := mo_at (r := first + one) rma7 (by omega) (by omega)
          obtain ⟨a3, e3, h3⟩ := mo_at (r := first + ot) rma7 (by omega) (by omega)
          rw [show (10 + (0 + (i : Int))).toNat = 10 + i by omega] at h1
          have hx7 := k7 _ _ nF.1 hx6
          refine ⟨a1, a2, a3, e1, e2, e3, k7 _ _ nmap hma6, hx7, fun t ht => ?_⟩
          obtain ⟨ls, kp⟩ := app_row (r := .ah (ms.getD (10 + i) m0) (ms.getD (first + one).toNat m0) (ms.getD (first + ot).toNat m0)) (vs := [.str "ahead", .ref a1, .ref a2, .ref a3]) (fun _ _ e => e) ht hx7 (rx6.to (pen6.tk k7))
            (.cons (.str _) (.cons (Tp.mo h1) (.cons (Tp.mo h2) (.cons (Tp.mo h3) .nil))))
          refine ⟨fun a o na nb e => kp _ _ nb (k7 _ _ na (k56 _ _ na (k5 _ _ na nb e))), ?_, rs ++ [.ah (ms.getD (10 + i) m0) (ms.getD (first + one).toNat m0) (ms.getD (first + ot).toNat m0)], by rw [List.map_append]; exact ls, by rw [List.length_append, hl]; rfl, ?_⟩
          · exact (pen7.keep fun a o ha e => kp a o (fun z => by subst z; exact ha.elim nF.1 nF.2) e).up (by omega)
          · refine up.snoc (by omega) (by rw [hl]; rfl) (fun z => by omega) (fun _ => ⟨(first + one).toNat, (first + ot).toNat, by rw [hl], by omega, by omega⟩)
        have tail : ∀ (sz : Int), (first = 0 ∧ 2 ≤ sz ∧ sz ≤ 7 ∨ first = 7 ∧ sz = 3) → ∀ (one : Int), 0 ≤ one → one < sz → ∀ r : Int, 0 ≤ r → r < sz - 1 →
            0 ≤ (one + 1 + r) % sz ∧ (one + 1 + r) % sz < sz ∧ one ≠ (one + 1 + r) % sz := by
          intro sz hsz one o0 o1 r r0 r1
          have hs0 : 0 < sz := by omega
          refine ⟨Int.emod_nonneg _ (by omega), Int.emod_lt_of_pos _ hs0, fun z => ?_⟩
          by_cases q : one + 1 + r < sz
          · rw [Int.emod_eq_of_lt (by omega) q] at z; omega
          · have : (one + 1 + r) % sz = one + 1 + r - sz := by
              rw [show one + 1 + r = (one + 1 + r - sz) + sz by omega, Int.add_emod_right, Int.emod_eq_of_lt (by omega) (by omega)]; omega
            omega
        rcases hf with rfl | rfl
        · refine ⟨_, rfl, rfl, _, rfl, ite2 (fun _ => ?_) (fun h => absurd rfl (fun z => h (decide_eq_true z)))⟩
          refine ⟨_, rfl, ?_⟩
          refine ⟨_, rfl, _, rfl, p, c, _, _, rfl, pen6, by omega, by omega, by omega, fun H7 one k7 pen7 o0 o1 => ?_⟩
          refine ⟨_, rfl, _, _, rfl, rfl, _, rfl, _, rfl, _, _, rfl, rfl, p, c, _, _, rfl, pen7, by omega, by omega, by omega, fun H8 r8 k8 pen8 r80 r81 => ?_⟩
          refine ⟨_, _, rfl, rfl, _, rfl, _, _, rfl, rfl, (by show (0 : Int) < 2 + wd; omega), ?_⟩
          obtain ⟨q0, q1, q2⟩ := tail (2 + wd) (.inl ⟨rfl, by omega, by omega⟩) one o0 o1 r8 r80 r81
          obtain ⟨a1, a2, a3, e1, e2, e3, hma8, hx8, fin⟩ := rest (2 + wd) (.inl ⟨rfl, by omega, by omega⟩) one H8 (k7.trans k8) (pen8.up (by omega)) o0 o1 ((one + 1 + r8) % (2 + wd)) q0 q1 q2
          refine ⟨_, rfl, .inl ⟨rfl, _, SqL.of hx8⟩, _, rfl, _, rfl, _, _, rfl, rfl, ma, _, _, _, rfl, rfl, SqL.of hma8, e1, _, rfl, _, rfl, _, rfl, _, _, rfl, rfl, ma, _, _, _, rfl, rfl, SqL.of hma8, e2, _, rfl, _, rfl, _, rfl, _, _, rfl, rfl, ma, _, _, _, rfl, rfl, SqL.of hma8, e3, by show 4 ≤ sizeLine; decide, fun t ht => ?_⟩
          obtain ⟨g1, g2, rs', g3, g4, g5⟩ := fin t ht
          exact ⟨F, _, _, rfl, rfl, by rw [upd_ne (ne_of_none hx8 ht)]; exact hx8, by rw [hxl]; exact small1000 (by omega), _, _, _, _, _, rs', rfl, g1, g2, g3, g4, g5⟩
        · refine ⟨_, rfl, rfl, _, rfl, ite2 (fun h => ?_) (fun _ => ?_)⟩
          · have := of_decide_eq_true h
            injection this with z
            exact absurd z (by decide)
          refine ?_
          refine ⟨_, rfl, _, rfl, p, c, _, _, rfl, pen6, by omega, by omega, by omega, fun H7 one k7 pen7 o0 o1 => ?_⟩
          refine ⟨_, rfl, _, _, rfl, rfl, _, rfl, _, rfl, _, _, rfl, rfl, p, c, _, _, rfl, pen7, by omega, by omega, by omega, fun H8 r8 k8 pen8 r80 r81 => ?_⟩
          refine ⟨_, _, rfl, rfl, _, rfl, _, _, rfl, rfl, (by show (0 : Int) < 3; omega), ?_⟩
          obtain ⟨q0, q1, q2⟩ := tail 3 (.inr ⟨rfl, rfl⟩) one o0 o1 r8 r80 r81
          obtain ⟨a1, a2, a3, e1, e2, e3, hma8, hx8, fin⟩ := rest 3 (.inr ⟨rfl, rfl⟩) one H8 (k7.trans k8) (pen8.up (by omega)) o0 o1 ((one + 1 + r8) % 3) q0 q1 q2
          refine ⟨_, rfl, .inl ⟨rfl, _, SqL.of hx8⟩, _, rfl, _, rfl, _, _, rfl, rfl, ma, _, _, _, rfl, rfl, SqL.of hma8, e1, _, rfl, _, rfl, _, rfl, _, _, rfl, rfl, ma, _, _, _, rfl, rfl, SqL.of hma8, e2, _, rfl, _, rfl, _, rfl, _, _, rfl, rfl, ma, _, _, _, rfl, rfl, SqL.of hma8, e3, by show 4 ≤ sizeLine; decide, fun t ht => ?_⟩
          obtain ⟨g1, g2, rs', g3, g4, g5⟩ := fin t ht
          exact ⟨F, _, _, rfl, rfl, by rw [upd_ne (ne_of_none hx8 ht)]; exact hx8, by rw [hxl]; exact small1000 (by omega), _, _, _, _, _, rs', rfl, g1, g2, g3, g4, g5⟩
      · rintro σ5 H5 ⟨v5, v7, v8, v9, v10, rs', rfl, k5, pen5, ls5, hl, up⟩
        refine ⟨_, rfl, k H5 F rs' (fun a o na e => ?_) (pen5.up (by omega)) hF0 ls5 (up.rows hpw hok (by omega) hml' (by omega))⟩
        exact k5 a o na (ne_of_none e hF0) (k02 _ _ na e)
end
end KN

set_option Elab.async false
set_option linter.all false
set_option maxRecDepth 100000
set_option maxHeartbeats 4000000
namespace KN
open PySem L2
theorem lt2 (m u : Mo) : HT.lexLt [m.1, m.2] [u.1, u.2] = decide (mLt m u) := by
  unfold mLt
  simp only [HT.lexLt]
  by_cases h1 : m.1 < u.1
  · have h3 : ¬ m.1 = u.1 := by omega
    simp [h1, h3]
  · by_cases h2 : m.1 = u.1
    · by_cases h4 : m.2 = u.2
      · simp [h2, h4]
      · simp [h2, h4]
    · simp [h1, h2]
theorem both {R S : V → Hp → Prop} {p : Prop} (h : (∀ v H, S v H → R v H) → p) (g : ∀ v H, S v H → R v H) : p := h g
/-- the aheads among rows, as links -/
def ahs (rs : List Row) : List Lnk := rs.filterMap fun
  | .ah m n o => some (m, n, o)
  | _ => none
theorem ahs_snoc (rs : List Row) (r : Row) : ahs (rs ++ [r]) = ahs rs ++ (match r with | .ah m n o => [(m, n, o)] | _ => []) := by
  unfold ahs
  rw [List.filterMap_append]
  cases r <;> rfl
theorem ahs_mem {rs : List Row} {l : Lnk} (h : l ∈ ahs rs) : Row.ah l.1 l.2.1 l.2.2 ∈ rs := by
  obtain ⟨r, hr, e⟩ := List.mem_filterMap.mp h
  cases r <;> cases e
  exact hr
theorem ahs_len (rs : List Row) : (ahs rs).length ≤ rs.length := List.length_filterMap_le _ _
/-- what is told of a link of the rows -/
theorem told_or {rs : List Row} (h : Rise rs) {l : Lnk} (hl : l ∈ ahs rs) : l ∈ ahF rs ↔ ¬ Ring ((ahF rs).filter (fun k => decide (mLt k.1 l.1)) ++ [l]) := by
  obtain ⟨A, B, rfl⟩ := List.append_of_mem (ahs_mem hl)
  exact ahF_told h
theorem ah_ok (m n o : Mo) : okD (Row.ah m n o).d = true ∧ (Row.ah m n o).d.depth ≤ 60 := by
  refine ⟨?_, by simp [Row.d, Row.ds, PyData.depth, PyData.depthAll, mD]⟩
  have h : PyData.strOk (Str.ofString "ahead") = true := by decide +kernel
  simp only [Row.d, Row.ds, okD, okDs, okD_m, h, mD, Bool.and_true]
theorem shaped_rows {rs : List Row} (h : ∀ r ∈ rs, ∃ m n o, r = Row.ah m n o) : SeqAt.shaped (.list (rs.map Row.d)) = true := shaped_list fun d hd => by
  obtain ⟨r, hr, rfl⟩ := List.mem_map.mp hd
  obtain ⟨m, n, o, rfl⟩ := h r hr
  exact ah_ok m n o
theorem Rows.ah' {rs : List Row} {many : Nat} (R : Rows rs many) : ∀ r ∈ rs.drop 10, ∃ m n o, r = Row.ah m n o := fun r hr => by
  obtain ⟨j, hj⟩ := List.getElem?_of_mem hr
  rw [List.getElem?_drop] at hj
  obtain ⟨m, n, o, e, _⟩ := R.ah _ _ (by omega) hj
  exact ⟨m, n, o, e⟩
theorem ne_of_none' {H : Hp} {a b : Addr} {o : HO} (h : H b = some o) (k : H a = none) : a ≠ b := (ne_of_none h k).symm
theorem erase_map {α β : Type} (f : α → β) : ∀ (xs : List α) (i : Nat), (xs.eraseIdx i).map f = (xs.map f).eraseIdx i
  | [], _ => rfl
  | _ :: _, 0 => rfl
  | x :: xs, i + 1 => congrArg (f x :: ·) (erase_map f xs i)
theorem erase_perm {α : Type} {x : α} : ∀ {xs : List α} {i : Nat}, xs[i]? = some x → (x :: xs.eraseIdx i).Perm xs
  | [], i, h => by simp at h
  | y :: ys, 0, h => by cases h; exact .refl _
  | y :: ys, i + 1, h => ((List.Perm.swap y x _).trans ((erase_perm (xs := ys) (i := i) h).cons y))
theorem eqv_ls (ls : List Lnk) : PyData.eqv (.list (ls.map lD)) (.list (ls.map lD)) = true := by
  have h : okD (.list (ls.map lD)) = true := by
    simp only [okD]
    exact okDs_all.mpr fun d hd => by obtain ⟨x, _, rfl⟩ := List.mem_map.mp hd; rfl
  exact (eqv_iff h h).mpr rfl
theorem Pen.kd {H H' : Hp} {p c : Addr} {b : Int} (h : Pen H p c b) (k : KD H H') : Pen H' p c b :=
  let ⟨n, m, ns, e1, e2, r⟩ := h
  ⟨n, m, ns, k _ _ (by intro z; exact nofun) e1, k _ _ (by intro z; exact nofun) e2, r⟩
theorem Ls.kd {H H' : Hp} {a : Addr} {ds : List PyData} (h : Ls H a ds) (k : KD H H') : Ls H' a ds :=
  let ⟨xs, e, r⟩ := h
  ⟨xs, k _ _ (by intro z; exact nofun) e, r.to k.tk⟩
theorem Pen.kb {H H' : Hp} {p c : Addr} {b : Int} (h : Pen H p c b) (k : Kp p H H') : KB H H' :=
  let ⟨_, _, _, e1, _⟩ := h
  KB.kp k e1
theorem Ls.kp {H H' : Hp} {p c a : Addr} {b : Int} {ds : List PyData} (h : Ls H a ds) (pen : Pen H p c b) (k : Kp p H H') : Ls H' a ds :=
  let ⟨xs, e, r⟩ := h
  ⟨xs, k _ _ (pen.ne e) e, r.to (pen.tk k)⟩
theorem KB.lput {H : Hp} {l : Addr} {xs : List V} {o : HO} (h : H l = some (.lst xs)) : KB H (upd H l o) := fun a u n _ e => by
  rw [upd_ne (fun z => by subst z; rw [h] at e; cases e; exact n _ rfl)]; exact e
def spLaw (K : PySem.W.Frag) : Sp := fun vs H Q _ => ∃ (a : Addr) (ns : List Int), vs = [.ref a] ∧ SqL K H a (ns.map V.int) ∧ ns.length ≤ 63 ∧ ∀ H', Q (.bl true) H'
/-- while names are told -/
structure Told (C : Addr) (H : Hp) (p c r : Addr) (n : Int) (rs : List Row) : Prop where
  pen : Pen H p c n
  ls : Ls H r (rs.map Row.d)
def Loop (p c r L T : Addr) (n : Int) (rs : List Row) (m : Nat) (H : Hp) : Prop := ∃ Lr Ld : List Row, Lr.length = m ∧ Ls H L (Lr.map Row.d) ∧ Ls H T ((rs.take 10 ++ Ld).map Row.d) ∧ (Ld ++ Lr).Perm (rs.drop 10) ∧ Ls H r (rs.map Row.d) ∧ Pen H p c (n + Ld.length)
section
variable {P : Program} {w : World} {K : PySem.W.Frag} {mg : Str → Option Value} {base : Heap} {C : Addr}
abbrev s_law : Stmt := top 46
theorem sc_law : FnScope ["_law_script", "_law_pen_here", "_law_turn", "_law_rows", "_law_left", "_law_told", "_law_book_here", "_law_again", "_law_until_here", "_law_links", "_law_row", "_law_elder", "_law_moment", "_law_one"] ["_law_script"] (defScope s_law) := ⟨rfl, rfl, rfl, by decide +kernel, rfl, by decide +kernel, by decide +kernel⟩
theorem ok_law {f : Addr} {fd : FuncData} (F : Fun K "law" "law" s_law f fd) (T : BkT K C) (m_len : mg "len" = none) (m_range : mg "range" = none) (m_min : mg "min" = none) (c__law_pen : C8.Cal P w K mg base 1 "_law_pen" (spPen K) []) (c__law_draw : C8.Cal P w K mg base 1 "_law_draw" spDraw []) (c__law_ahead_rows : C8.Cal P w K mg base 3 "_law_ahead_rows" spRows [])
    (c__law_book : C8.Cal P w K mg base 7 "_law_book" (spBookOf C) []) (c__law_until : C8.Cal P w K mg base 2 "_law_until" spUntil []) (c_Book_aheads_upto : MetK P w K mg base 3 C "aheads" (spAheads C) 1 ["upto"] (fun vs zs => vs ++ zs))
    (c__law_aheads : C8.Cal P w K mg base 2 "_law_aheads" spAheadsR []) (c__law_has_ring : C8.Cal P w K mg base 1 "_law_has_ring" spRing []) (c__law_there : C8.Cal P w K mg base 1 "_law_there" spThereR [])
    (c_Book_drop : C8.Met P w K mg base 4 C "drop" (spDrop C) []) (c_Book_aheads : C8.Met P w K mg base 3 C "aheads" (spAheads C) [.non]) : FnOk P w K mg base CX0 8 f fd ["_law_script"] (spLaw K) := by
  refine F.ok sc_law (fun vs H Q E h => ?_) (fun cdv A outer s H vs Q E hr h => ?_)
  · obtain ⟨a, ns, rfl, _⟩ := h; rfl
  · obtain ⟨a, ns, rfl, hS, hl, k⟩ := h
    have hu := hu_of hr
    refine ⟨_, (pss_cons (ps_set (i := 1) sc_law.nd rfl (Or.inl rfl) (C8.pe_c c__law_pen hr (by decide) rfl (pa_cons (pv 0) pa_nil)))
      (pss_cons (ps_for PassesOwn.never rfl (pi_range1 rfl m_range (pa_cons (pe_op op_add pe_int (pe_callB (call_min2 rfl) (by rfl) m_min (by decide +kernel) (pa_cons pe_int (pa_cons (pe_op op_fdiv (pe_callB call_len_seq (by rfl) m_len (by decide +kernel) (pa_cons (pv 0) pa_nil)) pe_int) pa_nil)))) pa_nil)) (pg_name (i := 2) sc_law.nd rfl (Or.inl rfl))
      (pss_cons (ps_set (i := 3) sc_law.nd rfl (Or.inl rfl) (C8.pe_c c__law_ahead_rows hr (by decide) rfl (pa_cons (pv 1) (pa_cons (C8.pe_c c__law_draw hr (by decide) rfl (pa_cons (pv 1) (pa_cons pe_int pa_nil))) pa_nil))))
      (pss_cons (ps_par (i := 4) (j := 5) rfl sc_law.nd rfl rfl (by decide) rfl rfl (pa_cons (pe_slice sl_list (pv 3) (po_some pe_int) po_none) (pa_cons (pe_slice sl_list (pv 3) po_none (po_some pe_int)) pa_nil)) (by rfl))
      (pss_cons (ps_while PassesOwn.never (pt_cmpR (op_neD hr.units) (pv 4) (pe_lst pa_nil) (nomark _))
      (pss_one (ps_expr (pe_bm PySem.F.plainAttrs_list PySem.F.slot_list_append PySem.F.type_list_append mt_append (pv 5) (pa_cons (pe_bm PySem.F.plainAttrs_list PySem.F.slot_list_pop PySem.F.type_list_pop mt_popAt (pv 4) (pa_cons (C8.pe_c c__law_draw hr (by decide) rfl (pa_cons (pv 1) (pa_cons (pe_callB call_len_seq (by rfl) m_len (by decide +kernel) (pa_cons (pv 4) pa_nil)) pa_nil))) pa_nil)) pa_nil)))))
      (pss_cons (ps_set (i := 6) sc_law.nd rfl (Or.inl rfl) (C8.pe_c c__law_book hr (by decide) rfl (pa_cons (pv 5) pa_nil)))
      (pss_cons (ps_for PassesOwn.never rfl (pi_range1 rfl m_range (pa_cons pe_int pa_nil)) (pg_name (i := 7) sc_law.nd rfl (Or.inl rfl))
      (pss_cons (ps_set (i := 8) sc_law.nd rfl (Or.inl rfl) (pe_ifExp (pt_cmpR op_gt (pv 7) pe_int (nomark _)) (C8.pe_c c__law_until hr (by decide) rfl (pa_cons (pv 1) (pa_cons (pv 3) pa_nil))) pe_non))
      (pss_cons (ps_set (i := 9) sc_law.nd rfl (Or.inl rfl) (pe_mtK0 c_Book_aheads_upto hr (by decide) (pv 6) (pk_cons (pv 8) pk_nil)))
      (pss_cons (ps_if (PW.pt (pw_or (pt_cmpR (op_neD hr.units) (pv 9) (C8.pe_c c__law_aheads hr (by decide) rfl (pa_cons (pv 3) (pa_cons (pv 8) pa_nil))) (nomark _)) (pw_or1 (pt_val (C8.pe_c c__law_has_ring hr (by decide) rfl (pa_cons (pv 9) pa_nil)))))) (pss_one (ps_ret pe_bl)) pss_nil)
      (pss_cons (ps_for PassesOwn.never rfl (pi_list (pe_lc (own := [("_law_one", 13)]) (g := gName 13) rfl sc_law.nd (pi_list (C8.pe_c c__law_there hr (by decide) rfl (pa_cons (pv 3) (pa_cons (pv 8) pa_nil)))) (blkOk_by (own := [("_law_one", 13)]) (N := ["_law_script", "_law_pen_here", "_law_turn", "_law_rows", "_law_left", "_law_told", "_law_book_here", "_law_again", "_law_until_here", "_law_links", "_law_row", "_law_elder", "_law_moment", "_law_one"]) (sc := defScope s_law) (by decide +kernel)) (fun _ _ _ _ _ => pg_name (i := 13) sc_law.nd rfl (Or.inl rfl)) (fun _ _ _ _ _ => (pts_one (pt_cmpR op_eq (pe_ix (ix_tupK K) (pv 13) pe_int (fun _ _ => rfl)) pe_str (nomark _)))) (fun _ _ _ _ _ => (pe_slice (sl_tupAK K) (pv 13) (po_some pe_int) po_none)))) (pg_name (i := 10) sc_law.nd rfl (Or.inr rfl))
      (pss_cons (ps_setLc (i := 11) (own := [("_law_one", 13)]) (g := gName 13) rfl sc_law.nd rfl rfl (sw_true rfl rfl rfl (by decide +kernel)) (pi_list (pv 9)) (blkOk_by (own := [("_law_one", 13)]) (N := ["_law_script", "_law_pen_here", "_law_turn", "_law_rows", "_law_left", "_law_told", "_law_book_here", "_law_again", "_law_until_here", "_law_links", "_law_row", "_law_elder", "_law_moment", "_law_one"]) (sc := defScope s_law) (by decide +kernel)) (fun _ _ _ _ _ => pg_name (i := 13) sc_law.nd rfl (Or.inl rfl)) (fun _ _ _ _ _ => (pts_one (pt_cmpR (op_ltTK K hr.units0) (pe_ix (ix_tupK K) (pv 13) pe_int (fun _ _ => rfl)) (pe_ix (ix_tupK K) (pv 10) pe_int (fun _ _ => rfl)) (nomark _)))) (fun _ _ _ _ _ => (pv 13)))
      (pss_one (ps_if (pt_cmpR op_eq (pe_cmpR (op_inD (u65 hr)) (pv 10) (pv 9) rfl) (C8.pe_c c__law_has_ring hr (by decide) rfl (pa_cons (pe_op op_cat (pv 11) (pe_lst (pa_cons (pv 10) pa_nil))) pa_nil)) (nomark _)) (pss_one (ps_ret pe_bl)) pss_nil))))
      (pss_one (ps_expr (pe_bm PySem.F.plainAttrs_list PySem.F.slot_list_append PySem.F.type_list_append mt_append (pv 9) (pa_cons pe_str pa_nil)))))))))
      (pss_cons (ps_set (i := 12) sc_law.nd rfl (Or.inl rfl) (pe_ix ix_tup (pe_ix ix_list (pv 3) (pe_un un_neg pe_int) (fun _ _ => rfl)) pe_int (fun _ _ => rfl)))
      (pss_one (ps_if (pt_cmpR op_eq (pe_ix ix_tup (pe_ix ix_list (pv 3) (pe_un un_neg pe_int) (fun _ _ => rfl)) pe_int (fun _ _ => rfl)) pe_str (nomark _)) (pss_cons (ps_expr (C8.pe_mt c_Book_drop hr (by decide) (pv 6) (pa_cons (pv 12) pa_nil)))
      (pss_one (ps_if (pt_cmpR (op_neD hr.units) (C8.pe_mt0 c_Book_aheads hr (by decide) (pv 6)) (C8.pe_c c__law_aheads hr (by decide) rfl (pa_cons (pe_slice sl_list (pv 3) po_none (po_some (pe_un un_neg pe_int))) (pa_cons pe_non pa_nil))) (nomark _)) (pss_one (ps_ret pe_bl)) pss_nil))) pss_nil)))))))))
      (pss_one (ps_ret pe_bl)))), ?_⟩
    refine ⟨_, rfl, a, ns, rfl, hS, hl, fun H1 p c s1 p0 c0 pen1 => ?_⟩
    have hS1 := s1.seq hS
    refine ⟨_, rfl, _, _, rfl, .inl hS1, _, _, rfl, rfl, ⟨by decide, by decide⟩, _, _, rfl, _, _, rfl, rfl, _, rfl, ?_⟩
    generalize hN : (1 + if ((ns.map V.int).length : Int) / 4 < 3 then ((ns.map V.int).length : Int) / 4 else 3) = N
    have hN0 : 0 ≤ N ∧ N ≤ 4 := by
      rw [← hN]
      have : 0 ≤ ((ns.map V.int).length : Int) / 4 := Int.ediv_nonneg (by omega) (by decide)
      split <;> omega
    refine ⟨by omega, by omega, for_range (lo := 0) (n := N.toNat) (fun i σ' H' => ∃ (v2 v3 v4 v5 v6 v7 v8 v9 v10 v11 v12 : Option V), σ' = [some (.ref a), some (.ref p), v2, v3, v4, v5, v6, v7, v8, v9, v10, v11, v12, none] ∧ Pen H' p c (1000 * i))
      ⟨none, none, none, none, none, none, none, none, none, none, none, rfl, pen1.up (by omega)⟩ ?_ ?_⟩
    · rintro i σ2 H2 hi ⟨v2, v3, v4, v5, v6, v7, v8, v9, v10, v11, v12, rfl, pen2⟩
      refine ⟨_, rfl, _, rfl, p, c, _, 25, rfl, pen2, by omega, by decide, by decide, fun H3 many k3 pen3 m0 m1 => ?_⟩
      refine ⟨p, c, _, many, rfl, pen3, by omega, by omega, by omega, fun H4 rl rs k4 pen4 rl0 lsr R => ?_⟩
      -- left, told
      obtain ⟨xs, hxs, rxs⟩ := id lsr
      have hm25 : many.toNat ≤ 25 := by omega
      have hrl : rs.length = 10 + many.toNat := R.len
      refine ⟨_, rfl, _, rfl, rl, xs, rfl, SqL.of hxs, fun L hL => ?_⟩
      rw [show (some (10 : Int)) = some ((10 : Nat) : Int) from rfl, cut_from]
      have s5 : Same H4 (upd H4 L (.lst (xs.drop 10))) := Same.new hL
      refine ⟨_, rfl, _, rfl, rl, xs, rfl, SqL.of (s5 _ _ hxs), fun Tt hT => ?_⟩
      rw [show (some (10 : Int)) = some ((10 : Nat) : Int) from rfl, cut_to]
      have s6 : Same H4 (upd (upd H4 L (.lst (xs.drop 10))) Tt (.lst (xs.take 10))) := s5.trans (Same.new hT)
      have nLT : L ≠ Tt := fun z => by subst z; rw [upd_same] at hT; cases hT
      refine ⟨_, _, rfl, ?_⟩
      have nLr : L ≠ rl := ne_of_none' hxs hL
      have nTr : Tt ≠ rl := ne_of_none' (s5 _ _ hxs) hT
      refine ⟨fun m σ' H' => σ' = [some (.ref a), some (.ref p), some (.int (0 + (i : Int))), some (.ref rl), some (.ref L), some (.ref Tt), v6, v7, v8, v9, v10, v11, v12, none] ∧ Loop p c rl L Tt (1000 * i + 1 + 250) rs m H', ⟨(rs.drop 10).length, rfl, rs.drop 10, [], rfl, ?_, ?_, ?_, lsr.to s6, (pen4.to s6).up (by rw [List.length_nil]; omega)⟩, ?_⟩
      · exact ⟨_, by rw [upd_ne nLT, upd_same], by rw [List.map_drop]; exact (rxs.drop 10).to (TK.of s6)⟩
      · exact ⟨_, upd_same, by rw [List.append_nil, List.map_take]; exact (rxs.take 10).to (TK.of s6)⟩
      · exact .refl _
      rintro m σ6 H6 ⟨rfl, Lr, Ld, hm, lsL, lsT, perm, lsR, pen6⟩
      have hLl : Lr.length + Ld.length = many.toNat := by
        have := perm.length_eq
        rw [List.length_append, List.length_drop] at this; omega
      refine ⟨_, rfl, Nat.zero_le _, fun Z hZ => ?_⟩
      have sZ : Same H6 (upd H6 Z (.lst [])) := Same.new hZ
      have lsZ : Ls (upd H6 Z (.lst [])) Z [] := ⟨_, upd_same, .nil⟩
      refine ⟨_, _, (lsL.to sZ).dp, lsZ.dp, ?_, rfl, _, rfl, ?_⟩
      · exact shaped_rows fun r hr => R.ah' r (perm.mem_iff.mp (List.mem_append_right _ hr))
      cases Lr with
      | cons r0 Lr0 =>
        refine iteT ⟨_, fun _ _ h => h, ?_⟩
        obtain ⟨lx, hlx, rlx⟩ := lsL
        obtain ⟨tx, htx, rtx⟩ := lsT
        have hlxl : lx.length = (r0 :: Lr0).length := by rw [rlx.len, List.length_map]
        have htxl : tx.length = 10 + Ld.length := by rw [rtx.len, List.length_map, List.length_append, List.length_take, hrl]; omega
        have hlen0 : (r0 :: Lr0).length = Lr0.length + 1 := rfl
        refine ⟨_, rfl, .inl ⟨rfl, _, SqL.of (sZ _ _ htx)⟩, _, rfl, .inl ⟨rfl, _, SqL.of (sZ _ _ hlx)⟩, _, rfl, _, rfl, _, _, rfl, .inl (SqL.of (sZ _ _ hlx)), p, c, _, _, rfl, pen6.to sZ, by omega, by omega, by omega, fun H7 r k7 pen7 r70 r71 => ?_⟩
        have kk : Kp p H6 H7 := (Kp.of sZ).trans k7
        have tk7 : TK H6 H7 := pen6.tk kk
        have hl7 := kk _ _ (pen6.ne hlx) hlx
        have ht7 := kk _ _ (pen6.ne htx) htx
        obtain ⟨y, _, ey⟩ := atI_in (xs := lx) r70 (by omega)
        obtain ⟨d, hd, ty⟩ := rlx.getv ey
        rw [List.getElem?_map] at hd
        obtain ⟨x, hx, rfl⟩ : ∃ x, (r0 :: Lr0)[r.toNat]? = some x ∧ d = x.d := by
          cases q : (r0 :: Lr0)[r.toNat]? with
          | none => rw [q] at hd; cases hd
          | some x => rw [q] at hd; exact ⟨x, rfl, (Option.some.inj hd).symm⟩
        have hrt : r.toNat < (r0 :: Lr0).length := (List.getElem?_eq_some_iff.mp hx).1
        refine ⟨L, lx, r, r.toNat, y, rfl, rfl, hl7, by omega, by omega, PySem.StrLaws.seqIndex_nonneg r70 (by omega), ey, ?_⟩
        refine ⟨Tt, _, _, rfl, rfl, by rw [upd_ne nLT.symm]; exact ht7, by rw [htxl]; exact small1000 (by omega), Lr0.length, by omega, rfl, ?_⟩
        have tkf : TK H6 (upd (upd H7 L (.lst (lx.eraseIdx r.toNat))) Tt (.lst (tx ++ [y]))) := tk7.trans ((TK.put hl7 (by intro z; exact nofun)).trans (TK.put (u := .lst tx) (by rw [upd_ne nLT.symm]; exact ht7) (by intro z; exact nofun)))
        refine ⟨(r0 :: Lr0).eraseIdx r.toNat, Ld ++ [x], ?_, ⟨lx.eraseIdx r.toNat, ?_, ?_⟩, ⟨tx ++ [y], upd_same, ?_⟩, ?_, ?_, ?_⟩
        · rw [List.length_eraseIdx, if_pos hrt]; rfl
        · rw [upd_ne nLT, upd_same]
        · rw [show ((r0 :: Lr0).eraseIdx r.toNat).map Row.d = ((r0 :: Lr0).map Row.d).eraseIdx r.toNat from erase_map _ _ _]
          exact (rlx.erase r.toNat).to tkf
        · rw [← List.append_assoc, List.map_append]
          exact (rtx.to tkf).snoc (ty.to tkf)
        · refine List.Perm.trans ?_ perm
          rw [List.append_assoc]
          refine List.Perm.append_left Ld ?_
          exact erase_perm hx
        · obtain ⟨ys, e1, e2⟩ := lsR
          exact ⟨ys, by rw [upd_ne nTr.symm, upd_ne nLr.symm]; exact kk _ _ (pen6.ne e1) e1, e2.to tkf⟩
        · have h1 : L ≠ p ∧ L ≠ c := pen4.off hL
          have h2 : Tt ≠ p ∧ Tt ≠ c := (pen4.to s5).off hT
          exact ((pen7.put h1).put h2).up (by rw [List.length_append, List.length_singleton]; omega)
      | nil =>
        refine iteF ?_
        rw [List.append_nil] at perm
        have full : (rs.take 10 ++ Ld).Perm rs := by
          have := List.Perm.append_left (rs.take 10) perm
          rwa [List.take_append_drop] at this
        have hfl : (rs.take 10 ++ Ld).length = 10 + many.toNat := by rw [full.length_eq]; exact hrl
        refine ⟨_, rfl, Tt, _, rfl, lsT.to sZ, R.tell hm25 perm, fun H7 b kd7 b0 BA7 => ?_⟩
        have pen7 := (pen6.to sZ).kd kd7
        have ls7 := (lsR.to sZ).kd kd7
        refine ⟨_, rfl, by decide, by decide, for_range (lo := 0) (n := 4) (fun j σ' H' => ∃ (v7 v8 v9 v10 v11 : Option V), σ' = [some (.ref a), some (.ref p), some (.int (0 + (i : Int))), some (.ref rl), some (.ref L), some (.ref Tt), some (.ref b), v7, v8, v9, v10, v11, v12, none] ∧
            Pen H' p c (1000 * i + 300 + 2 * j) ∧ Ls H' rl (rs.map Row.d) ∧ BookAt C H' b (rs.take 10 ++ Ld))
          ⟨v7, v8, v9, v10, v11, rfl, pen7.up (by omega), ls7, BA7⟩ ?_ ?_⟩
        · rintro j σ8 H8 hj ⟨v7, v8, v9, v10, v11, rfl, pen8, ls8, BA8⟩
          refine ⟨_, rfl, _, _, rfl, rfl, _, rfl, ?_⟩
          have hrne : rs ≠ [] := fun z => by rw [z] at hrl; simp at hrl; omega
          refine both (S := fun v H9 => ∃ u, Kp p H8 H9 ∧ Pen H9 p c (1000 * i + 300 + 2 * j + 2) ∧ UpV H9 v u) (fun go => ite2 (fun _ => ⟨_, rfl, _, rfl, p, c, _, rl, rs, rfl, pen8, by omega, ls8, hrne, by omega, fun H9 v u k9 pen9 hv => go v H9 ⟨u, k9, pen9, hv⟩⟩) (fun _ => go .non H8 ⟨none, Kp.refl _ _, pen8.up (by omega), rfl⟩)) ?_
          rintro v H9 ⟨u, k9, pen9, hv⟩
          have ls9 := ls8.kp pen8 k9
          have BA9 := BA8.keep (pen8.kb k9)
          obtain ⟨dx, e, nn, kvs, nkv, B⟩ := id BA9
          refine ⟨_, rfl, b, dx, _, rfl, B.ob, bf_no _ _ (by decide +kernel) (by decide +kernel), _, rfl, rfl, rfl, b, v, u, _, rfl, BA9, hv, by omega, fun H10 l srt s10 l0 sp rise lsl => ?_⟩
          have esr : srt = rs := rise_perm (sp.trans full) rise R.rise
          rw [esr] at lsl
          have ls10 := ls9.to s10
          have hv10 := hv.to (TK.of s10)
          have pen10 := pen9.to s10
          have BA10 := BA9.keep (KB.of s10)
          have hFl : (rs.filter fun r => upB r.mo u).length ≤ 10 + many.toNat := by rw [← hrl]; exact List.length_filter_le _ _
          have riseF := upB_filter_rise R.rise u
          refine ⟨_, rfl, _, rfl, _, rfl, rl, v, u, rs, rfl, ls10, hv10, by omega, fun H11 l' s11 l0' ls' => ?_⟩
          generalize hFr : (rs.filter fun r => upB r.mo u) = Fr at *
          have hLk : (ahF Fr).length ≤ 64 := Nat.le_trans (ahF_len _) (by omega)
          refine ⟨_, _, (lsl.to s11).dp, ls'.dp, shaped_ls _, shaped_ls _, _, rfl, ?_⟩
          rw [eqv_ls]
          refine iteF ?_
          refine ⟨_, rfl, l, ahF Fr, rfl, lsl.to s11, by omega, fun H12 k12 s12 hk12 => ?_⟩
          have ek : k12 = false := by
            cases k12 with
            | false => rfl
            | true => exact absurd (hk12.mp rfl) (ahF_noring Fr)
          subst ek
          refine ⟨_, rfl, iteF ?_⟩
          have s1012 := s11.trans s12
          refine ⟨_, rfl, _, rfl, rl, v, u, rs, rfl, ls10.to s1012, hv10.to (TK.of s1012), by omega, fun H13 lt s13 lt0 lst => ?_⟩
          rw [hFr] at lst
          obtain ⟨fx, hfx, rfx⟩ := lst
          have hfxl : fx.length = Fr.length := by rw [rfx.len, List.length_map]
          refine ⟨lt, rfl, ⟨_, SqL.of hfx⟩, fun D hD => ?_⟩
          refine lc_list (K := K) (a := lt) (xs := fx) (fun q H' => Same H13 H' ∧ Ls H' D ((ahs (Fr.take q)).map lD))
            ⟨Same.new hD, [], upd_same, by rw [List.take_zero]; exact .nil⟩ (fun q H' _ z => SqL.of (z.1 _ _ hfx)) ?_ ?_
          · rintro q x H14 hq ⟨s14, ys, hy, ry⟩
            obtain ⟨d, hd, tx⟩ := rfx.getv hq
            rw [List.getElem?_map] at hd
            obtain ⟨r, hr1, rfl⟩ : ∃ r, Fr[q]? = some r ∧ d = r.d := by
              cases z : Fr[q]? with
              | none => rw [z] at hd; cases hd
              | some r => rw [z] at hd; exact ⟨r, rfl, (Option.some.inj hd).symm⟩
            obtain ⟨t, xt, rfl, ht, rx⟩ := Tp.inv (tx.to (TK.of s14))
            obtain ⟨v0, a0, t0⟩ := Tp.at (K := K) ht rx r.ds0
            cases Tp.str_inv t0
            have hyl : ys.length ≤ 64 := by
              rw [ry.len, List.length_map]
              have h1 := ahs_len (Fr.take q)
              rw [List.length_take] at h1; omega
            have step : ahs (Fr.take (q + 1)) = ahs (Fr.take q ++ [r]) := by rw [List.take_add_one, hr1]; rfl
            rw [ahs_snoc] at step
            refine ⟨rfl, _, rfl, _, _, _, _, rfl, rfl, SqT.of ht, a0, rfl, _, rfl, ?_⟩
            rw [sort_ah]
            cases r with
            | ah m nn o =>
              refine iteT ?_
              have hxt : xt.length = 4 := by rw [rx.len]; rfl
              refine ⟨_, rfl, _, rfl, t, xt, rfl, SqT.of ht, fun z => ?_, fun _ t' ht' => ?_⟩
              · exfalso
                have h1 := z.1
                rw [show (some (1 : Int)) = some ((1 : Nat) : Int) from rfl, HT.sIx_nat, hxt] at h1
                omega
              rw [show (some (1 : Int)) = some ((1 : Nat) : Int) from rfl, cut_from]
              have nDt : D ≠ t' := ne_of_none hy ht'
              refine ⟨ys, by rw [upd_ne nDt]; exact hy, small1000 (by omega), fun z oz ez => ?_, _, upd_same, ?_⟩
              · rw [upd_ne (ne_of_none ez hD), upd_ne (ne_of_none (s14 _ _ ez) ht')]; exact s14 _ _ ez
              · rw [step, List.map_append]
                have tk : TK H14 (upd (upd H14 t' (.tup (xt.drop 1))) D (.lst (ys ++ [.ref t']))) := (TK.new ht').trans (TK.put (u := .lst ys) (by rw [upd_ne nDt]; exact hy) (by intro z; exact nofun))
                refine (ry.to tk).snoc (.tup (by rw [upd_ne nDt.symm, upd_same]) ?_)
                exact (TpAll.drop 1 rx).to tk
            | nm m rk ws ss lk => exact iteF ⟨s14, ys, hy, by rw [step, List.append_nil]; exact ry⟩
            | ch m nn z => exact iteF ⟨s14, ys, hy, by rw [step, List.append_nil]; exact ry⟩
            | st m nn z => exact iteF ⟨s14, ys, hy, by rw [step, List.append_nil]; exact ry⟩
          rintro H14 ⟨s14, dx', hdx, rdx⟩
          rw [hfxl, List.take_length] at rdx
          have s1014 := s1012.trans (s13.trans s14)
          have hdl : dx'.length = (ahs Fr).length := by rw [rdx.len, List.length_map]
          have hahs : (ahs Fr).length ≤ 64 := Nat.le_trans (ahs_len Fr) (by omega)
          have lsl14 := lsl.to s1014
          obtain ⟨lx14, hlx14, rlx14⟩ := id lsl14
          have hlxl : lx14.length = (ahF Fr).length := by rw [rlx14.len, List.length_map]
          refine ⟨D, rfl, ⟨_, SqL.of hdx⟩, for_list (K := K) (a := D) (xs := dx') (fun q σ' H' => ∃ (v10 v11 : Option V), σ' = [some (.ref a), some (.ref p), some (.int (0 + (i : Int))), some (.ref rl), some (.ref L), some (.ref Tt), some (.ref b), some (.int (0 + (j : Int))), some v, some (.ref l), v10, v11, v12, none] ∧ Same H14 H')
            ⟨v10, v11, rfl, fun _ _ e => e⟩ (fun q σ' H' _ ⟨_, _, _, z⟩ => SqL.of (z _ _ hdx)) ?_ ?_⟩
          · rintro q x σ15 H15 hq ⟨v10, v11, rfl, s15⟩
            obtain ⟨d, hd, tx⟩ := rdx.getv hq
            rw [List.getElem?_map] at hd
            obtain ⟨lk, hlk, rfl⟩ : ∃ lk, (ahs Fr)[q]? = some lk ∧ d = lD lk := by
              cases z : (ahs Fr)[q]? with
              | none => rw [z] at hd; cases hd
              | some lk => rw [z] at hd; exact ⟨lk, rfl, (Option.some.inj hd).symm⟩
            have tx15 := tx.to (TK.of s15)
            obtain ⟨t, am, af, ao, rfl, h3t, h3m, h3f, h3o⟩ := Tp.ln_inv tx15
            -- the elder ones
            refine ⟨_, rfl, l, rfl, ⟨_, SqL.of (s15 _ _ hlx14)⟩, fun E2 hE => ?_⟩
            refine lc_list (K := K) (a := l) (xs := lx14) (fun z H' => Same H15 H' ∧ Ls H' E2 ((((ahF Fr).take z).filter fun k => decide (mLt k.1 lk.1)).map lD))
              ⟨Same.new hE, [], upd_same, by rw [List.take_zero]; exact .nil⟩ (fun z H' _ y => SqL.of (y.1 _ _ (s15 _ _ hlx14))) ?_ ?_
            · rintro z x H16 hz ⟨s16, zs, hzs, rz⟩
              obtain ⟨d, hd2, ty⟩ := rlx14.getv hz
              rw [List.getElem?_map] at hd2
              obtain ⟨l2, hl2, rfl⟩ : ∃ l2, (ahF Fr)[z]? = some l2 ∧ d = lD l2 := by
                cases y : (ahF Fr)[z]? with
                | none => rw [y] at hd2; cases hd2
                | some l2 => rw [y] at hd2; exact ⟨l2, rfl, (Option.some.inj hd2).symm⟩
              have s1516 := s15.trans s16
              have ty16 := ty.to (TK.of s1516)
              obtain ⟨t2, am2, af2, ao2, rfl, g3t, g3m, g3f, g3o⟩ := Tp.ln_inv ty16
              have step : (((ahF Fr).take (z + 1)).filter fun k => decide (mLt k.1 lk.1)) = (((ahF Fr).take z).filter fun k => decide (mLt k.1 lk.1)) ++ (if decide (mLt l2.1 lk.1) = true then [l2] else []) := by
                rw [List.take_add_one, hl2, List.filter_append]
                congr 1
                by_cases y : decide (mLt l2.1 lk.1) = true
                · rw [if_pos y, Option.toList_some, List.filter_cons_of_pos (by exact y)]; rfl
                · rw [if_neg y, Option.toList_some, List.filter_cons_of_neg (by exact y)]; rfl
              refine ⟨rfl, _, rfl, _, _, _, _, rfl, rfl, SqT.of g3t, at_of (j := 0) rfl rfl, _, rfl, _, _, _, _, rfl, rfl, SqT.of (s16 _ _ h3t), at_of (j := 0) rfl rfl, am2, am, [l2.1.1, l2.1.2], [lk.1.1, lk.1.2], rfl, rfl, SqT.of g3m, SqT.of (s16 _ _ h3m), _, rfl, ?_⟩
              rw [lt2]
              refine ite2 (fun y => ?_) (fun y => ?_)
              · refine ⟨_, rfl, zs, hzs, by rw [rz.len, List.length_map]; exact small1000 (by have := List.length_filter_le (fun k : Lnk => decide (mLt k.1 lk.1)) ((ahF Fr).take z); rw [List.length_take] at this; omega), fun o1 o2 ec => by rw [upd_ne (ne_of_none ec hE)]; exact s16 _ _ ec, _, upd_same, ?_⟩
                have tk : TK H16 (upd H16 E2 (.lst (zs ++ [.ref t2]))) := TK.put hzs (by intro z; exact nofun)
                rw [step, if_pos y, List.map_append]
                exact (rz.to tk).snoc (ty16.to tk)
              · refine ⟨s16, zs, hzs, ?_⟩
                rw [step, if_neg y, List.append_nil]; exact rz
            rintro H16 ⟨s16, lsE⟩
            rw [hlxl, List.take_length] at lsE
            have s1416 := s15.trans s16
            have lsl16 := lsl14.to s1416
            have tx16 := tx15.to (TK.of s16)
            refine ⟨_, rfl, _, rfl, _, _, tx16.d, lsl16.dp, shaped_l lk, shaped_ls _, ?_⟩
            rw [any_l]
            obtain ⟨ex, hex, rex⟩ := lsE
            have hexl : ex.length ≤ 64 := by
              rw [rex.len, List.length_map]
              exact Nat.le_trans (List.length_filter_le _ _) hLk
            refine ⟨_, rfl, _, rfl, by show 1 ≤ sizeLine; decide, fun M hM => ?_⟩
            have sM : Same H16 (upd H16 M (.lst [.ref t])) := Same.new hM
            refine ⟨E2, M, ex, _, rfl, rfl, sM _ _ hex, upd_same, by rw [List.length_singleton]; exact Nat.le_trans (by omega : ex.length + 1 ≤ 65) (by decide), fun N2 hN2 => ?_⟩
            have sN := sM.trans (Same.new (o := .lst (ex ++ [.ref t])) hN2)
            refine ⟨N2, ((ahF Fr).filter fun k => decide (mLt k.1 lk.1)) ++ [lk], rfl, ⟨ex ++ [.ref t], upd_same, by rw [List.map_append]; exact (rex.to (TK.of sN)).snoc (tx16.to (TK.of sN))⟩, ?_, fun H17 k17 s17 hk17 => ?_⟩
            · rw [List.length_append, List.length_singleton]
              have := List.length_filter_le (fun k : Lnk => decide (mLt k.1 lk.1)) (ahF Fr)
              omega
            have told := told_or riseF (List.mem_of_getElem? hlk)
            rw [← hk17] at told
            have ne : decide (V.bl (decide (lk ∈ ahF Fr)) = V.bl k17) = false := decide_eq_false fun z => by
              injection z with z
              by_cases y : lk ∈ ahF Fr
              · rw [decide_eq_true y] at z; exact told.mp y z.symm
              · rw [decide_eq_false y] at z
                exact y (told.mpr (by rw [← z]; decide))
            refine ⟨rfl, _, rfl, ?_⟩
            rw [ne]
            refine iteF ⟨_, _, rfl, s1416.trans (sN.trans s17)⟩
          · rintro σ15 H15 ⟨v10, v11, rfl, s15⟩
            have s1015 := s1014.trans s15
            have hl15 := s15 _ _ hlx14
            have offl := pen9.off l0
            have nlr : rl ≠ l := by
              obtain ⟨_, e9, _⟩ := ls9
              exact ne_of_none e9 l0
            refine ⟨_, rfl, .inl ⟨rfl, _, SqL.of hl15⟩, l, lx14, _, rfl, rfl, hl15, by rw [hlxl]; exact small1000 (by omega), ?_⟩
            refine ⟨_, _, _, _, _, rfl, ((pen10.to s1015).put offl).up (by omega), ?_, (BA10.keep (KB.of s1015)).keep (KB.lput hl15)⟩
            obtain ⟨ys, e1, e2⟩ := ls10.to s1015
            exact ⟨ys, by rw [upd_ne nlr]; exact e1, e2.to (TK.put hl15 (by intro z; exact nofun))⟩
        · rintro σ8 H8 ⟨v7, v8, v9, v10, v11, rfl, pen8, ls8, BA8⟩
          obtain ⟨rx8, hrx8, rrx8⟩ := id ls8
          have hrx8l : rx8.length = 10 + many.toNat := by rw [rrx8.len, List.length_map, hrl]
          have hne : rs ≠ [] := fun z => by rw [z] at hrl; simp at hrl; omega
          obtain ⟨rl0', last, hlast⟩ : ∃ A r, rs = A ++ [r] := ⟨_, _, (List.dropLast_concat_getLast hne).symm⟩
          have hAl : rl0'.length = 9 + many.toNat := by
            have := hrl
            rw [hlast, List.length_append, List.length_singleton] at this; omega
          have hlst : rs[9 + many.toNat]? = some last := by
            rw [hlast, List.getElem?_append_right (by omega), hAl, Nat.sub_self]; rfl
          obtain ⟨x, hx, tx⟩ : ∃ x, rx8[9 + many.toNat]? = some x ∧ Tp H8 x last.d := rrx8.get (by rw [List.getElem?_map, hlst]; rfl)
          have atl : atI rx8 (-1) = some x := by
            unfold atI ixN
            rw [if_neg (by decide), if_pos (by omega)]
            show rx8[(-1 + (rx8.length : Int)).toNat]? = some x
            rw [show (-1 + (rx8.length : Int)).toNat = 9 + many.toNat by omega]; exact hx
          obtain ⟨t, xt, rfl, ht, rxt⟩ := Tp.inv tx
          obtain ⟨v1, a1, t1⟩ := Tp.at (K := K) ht rxt last.ds1
          obtain ⟨am, rfl, ham⟩ := Tp.mo_inv t1
          obtain ⟨v0, a0, t0⟩ := Tp.at (K := K) ht rxt last.ds0
          cases Tp.str_inv t0
          refine ⟨_, rfl, _, rfl, rl, _, _, _, rfl, rfl, SqL.of hrx8, atl, _, _, _, _, rfl, rfl, SqT.of ht, a1, ?_⟩
          refine ⟨_, rfl, _, rfl, rl, _, _, _, rfl, rfl, SqL.of hrx8, atl, _, _, _, _, rfl, rfl, SqT.of ht, a0, rfl, _, rfl, ?_⟩
          rw [sort_ah]
          cases last with
          | nm m rk ws ss lk => exact iteF ⟨_, _, _, _, _, _, _, _, _, _, _, rfl, pen8.up (by omega)⟩
          | ch m nn z => exact iteF ⟨_, _, _, _, _, _, _, _, _, _, _, rfl, pen8.up (by omega)⟩
          | st m nn z => exact iteF ⟨_, _, _, _, _, _, _, _, _, _, _, rfl, pen8.up (by omega)⟩
          | ah m nn o =>
            refine iteT ?_
            obtain ⟨dx, e, nb, kvs, nkv, B⟩ := id BA8
            have hmem : Row.ah m nn o ∈ rs := List.mem_of_getElem? hlst
            have hno : nn ≠ o := by
              by_cases q : many.toNat = 0
              · obtain ⟨_, _, _, _, _, z, _⟩ := R.nm _ _ (by omega) hlst
                exact z
              · obtain ⟨m', n', o', z, _, _, y, _⟩ := R.ah _ _ (by omega) hlst
                cases z; exact y
            refine ⟨_, rfl, b, dx, _, rfl, B.ob, bf_no _ _ (by decide +kernel) (by decide +kernel), _, rfl, b, am, Row.ah m nn o, _, rfl, BA8, ham, full.mem_iff.mpr hmem, rfl, by simp [Row.names, hno], fun H9 kd9 BA9 => ?_⟩
            have pen9 := pen8.kd kd9
            obtain ⟨ry, hry, rry⟩ := ls8.kd kd9
            have hryl : ry.length = 10 + many.toNat := by rw [rry.len, List.length_map, hrl]
            obtain ⟨dx2, e2, nb2, kvs2, nkv2, B2⟩ := id BA9
            refine ⟨_, rfl, b, dx2, _, rfl, B2.ob, bf_no _ _ (by decide +kernel) (by decide +kernel), b, .non, none, _, rfl, BA9, rfl, by have := List.length_filter_le (fun x : Row => decide (x.mo ≠ (Row.ah m nn o).mo)) (rs.take 10 ++ Ld); omega, fun H10 l srt s10 l0 sp rise lsl => ?_⟩
            have esr : srt = rl0' := by
              refine rise_perm (sp.trans ?_) rise ?_
              · have h1 := full.filter (fun x : Row => decide (x.mo ≠ (Row.ah m nn o).mo))
                refine h1.trans (.of_eq ?_)
                rw [hlast, List.filter_append, List.filter_cons_of_neg (by simp), List.filter_nil, List.append_nil]
                refine List.filter_eq_self.mpr fun y hy => decide_eq_true fun z => ?_
                have := R.rise
                rw [hlast] at this
                have := (List.pairwise_append.mp this).2.2 y hy _ List.mem_cons_self
                rw [z] at this; exact mLt.irr this
              · have := R.rise
                rw [hlast] at this
                exact (List.pairwise_append.mp this).1
            have up1 : ∀ xs : List Row, (xs.filter fun r => upB r.mo none) = xs := fun xs => List.filter_eq_self.mpr fun _ _ => rfl
            rw [up1, esr] at lsl
            have hry10 := s10 _ _ hry
            refine ⟨_, rfl, _, rfl, _, rfl, rl, ry, rfl, SqL.of hry10, fun M hM => ?_⟩
            have cutm : cutV ry none (some (-1)) = ry.take (9 + many.toNat) := by
              unfold cutV
              rw [HT.sIx_none, List.drop_zero, Nat.sub_zero]
              show ry.take (if (-1 : Int) < 0 then (-1 + (ry.length : Int)).toNat else min (-1 : Int).toNat ry.length) = _
              rw [if_pos (by decide), show (-1 + (ry.length : Int)).toNat = 9 + many.toNat by omega]
            rw [cutm]
            have sM : Same H10 (upd H10 M (.lst (ry.take (9 + many.toNat)))) := Same.new hM
            have lsM : Ls (upd H10 M (.lst (ry.take (9 + many.toNat)))) M (rl0'.map Row.d) := by
              refine ⟨_, upd_same, ?_⟩
              have h1 := (rry.take (9 + many.toNat)).to ((TK.of s10).trans (TK.of sM))
              have h2 : (rs.map Row.d).take (9 + many.toNat) = rl0'.map Row.d := by
                rw [← List.map_take, hlast, List.take_append_of_le_length (by omega), List.take_of_length_le (by omega)]
              rw [h2] at h1
              exact h1
            refine ⟨M, .non, none, rl0', rfl, lsM, rfl, by omega, fun H11 l' s11 l0' ls' => ?_⟩
            rw [up1] at ls'
            refine ⟨_, _, (lsl.to (sM.trans s11)).dp, ls'.dp, shaped_ls _, shaped_ls _, _, rfl, ?_⟩
            rw [eqv_ls]
            exact iteF ⟨_, _, _, _, _, _, _, _, _, _, _, rfl, (((pen9.to s10).to sM).to s11).up (by omega)⟩
    · rintro σ2 H2 ⟨v2, v3, v4, v5, v6, v7, v8, v9, v10, v11, v12, rfl, pen2⟩
      exact k H2
end
end KN

set_option Elab.async false
set_option linter.all false
set_option maxRecDepth 100000
set_option maxHeartbeats 4000000
namespace KN
open PySem L2
section
variable {K : PySem.W.Frag} {x qual : Str} {st : Stmt} {f : Addr} {oc : Value} {od an : Option Addr} {osl : Array (Option Value)} {kV doc pm cdv ct : Value}
theorem fund_mk (l : K.lookup f = some ⟨oc, od, .func (PySem.W.fnOf x qual (defArgs st) (defBody st) (defScope st) .none kV doc pm an cdv ct), osl⟩) (c : PySem.W.codeIn K cdv qual = true) (k : PySem.W.keepIn K (.ref f) = true) {kws : List (Str × V)} (h : KwdV K kV kws) : FunD K x qual (defArgs st) (defBody st) (defScope st) [] kws f (PySem.W.fnOf x qual (defArgs st) (defBody st) (defScope st) .none kV doc pm an cdv ct) :=
  ⟨⟨oc, od, .none, kV, doc, pm, an, cdv, ct, osl, rfl, l, c, .inl ⟨rfl, rfl⟩, h⟩, k⟩
end
set_option maxHeartbeats 0 in
theorem all_mk {l : PySem.W.OpenLaw} {w : World} {K : PySem.W.Frag} {h : Heap} {mg : Str → Option Value} {fa C : Addr} (X : K.In h) (G : h.Ns mainGlobals mg) (hfa : mg "law" = some (.ref fa))
    {f0 : Addr} {od0 an0 : Option Addr} {sl0 : Array (Option Value)} {oc0 kV0 dc0 pm0 cd0 ct0 : Value}
    {f1 : Addr} {od1 an1 : Option Addr} {sl1 : Array (Option Value)} {oc1 kV1 dc1 pm1 cd1 ct1 : Value}
    {f2 : Addr} {od2 an2 : Option Addr} {sl2 : Array (Option Value)} {oc2 kV2 dc2 pm2 cd2 ct2 : Value}
    {f3 : Addr} {od3 an3 : Option Addr} {sl3 : Array (Option Value)} {oc3 kV3 dc3 pm3 cd3 ct3 : Value}
    {f4 : Addr} {od4 an4 : Option Addr} {sl4 : Array (Option Value)} {oc4 kV4 dc4 pm4 cd4 ct4 : Value}
    {f5 : Addr} {od5 an5 : Option Addr} {sl5 : Array (Option Value)} {oc5 kV5 dc5 pm5 cd5 ct5 : Value}
    {f6 : Addr} {od6 an6 : Option Addr} {sl6 : Array (Option Value)} {oc6 kV6 dc6 pm6 cd6 ct6 : Value}
    {f7 : Addr} {od7 an7 : Option Addr} {sl7 : Array (Option Value)} {oc7 kV7 dc7 pm7 cd7 ct7 : Value}
    {f8 : Addr} {od8 an8 : Option Addr} {sl8 : Array (Option Value)} {oc8 kV8 dc8 pm8 cd8 ct8 : Value}
    {f9 : Addr} {od9 an9 : Option Addr} {sl9 : Array (Option Value)} {oc9 kV9 dc9 pm9 cd9 ct9 : Value}
    {f10 : Addr} {od10 an10 : Option Addr} {sl10 : Array (Option Value)} {oc10 kV10 dc10 pm10 cd10 ct10 : Value}
    {f11 : Addr} {od11 an11 : Option Addr} {sl11 : Array (Option Value)} {oc11 kV11 dc11 pm11 cd11 ct11 : Value}
    {f12 : Addr} {od12 an12 : Option Addr} {sl12 : Array (Option Value)} {oc12 kV12 dc12 pm12 cd12 ct12 : Value}
    {f13 : Addr} {od13 an13 : Option Addr} {sl13 : Array (Option Value)} {oc13 kV13 dc13 pm13 cd13 ct13 : Value}
    {f14 : Addr} {od14 an14 : Option Addr} {sl14 : Array (Option Value)} {oc14 kV14 dc14 pm14 cd14 ct14 : Value}
    {f15 : Addr} {od15 an15 : Option Addr} {sl15 : Array (Option Value)} {oc15 kV15 dc15 pm15 cd15 ct15 : Value}
    {f16 : Addr} {od16 an16 : Option Addr} {sl16 : Array (Option Value)} {oc16 kV16 dc16 pm16 cd16 ct16 : Value}
    {f17 : Addr} {od17 an17 : Option Addr} {sl17 : Array (Option Value)} {oc17 kV17 dc17 pm17 cd17 ct17 : Value}
    {f18 : Addr} {od18 an18 : Option Addr} {sl18 : Array (Option Value)} {oc18 kV18 dc18 pm18 cd18 ct18 : Value}
    {f19 : Addr} {od19 an19 : Option Addr} {sl19 : Array (Option Value)} {oc19  dc19 pm19 cd19 ct19 : Value} {D19 : Addr}
    {f20 : Addr} {od20 an20 : Option Addr} {sl20 : Array (Option Value)} {oc20 kV20 dc20 pm20 cd20 ct20 : Value}
    {f21 : Addr} {od21 an21 : Option Addr} {sl21 : Array (Option Value)} {oc21 kV21 dc21 pm21 cd21 ct21 : Value}
    {f22 : Addr} {od22 an22 : Option Addr} {sl22 : Array (Option Value)} {oc22 kV22 dc22 pm22 cd22 ct22 : Value}
    {f23 : Addr} {od23 an23 : Option Addr} {sl23 : Array (Option Value)} {oc23 kV23 dc23 pm23 cd23 ct23 : Value}
    {f24 : Addr} {od24 an24 : Option Addr} {sl24 : Array (Option Value)} {oc24 kV24 dc24 pm24 cd24 ct24 : Value}
    {f25 : Addr} {od25 an25 : Option Addr} {sl25 : Array (Option Value)} {oc25  dc25 pm25 cd25 ct25 : Value} {D25 : Addr}
    {f26 : Addr} {od26 an26 : Option Addr} {sl26 : Array (Option Value)} {oc26 kV26 dc26 pm26 cd26 ct26 : Value}
    {f27 : Addr} {od27 an27 : Option Addr} {sl27 : Array (Option Value)} {oc27 kV27 dc27 pm27 cd27 ct27 : Value}
    {f28 : Addr} {od28 an28 : Option Addr} {sl28 : Array (Option Value)} {oc28 kV28 dc28 pm28 cd28 ct28 : Value}
    {f29 : Addr} {od29 an29 : Option Addr} {sl29 : Array (Option Value)} {oc29 kV29 dc29 pm29 cd29 ct29 : Value}
    {f30 : Addr} {od30 an30 : Option Addr} {sl30 : Array (Option Value)} {oc30 kV30 dc30 pm30 cd30 ct30 : Value}
    {f31 : Addr} {od31 an31 : Option Addr} {sl31 : Array (Option Value)} {oc31 kV31 dc31 pm31 cd31 ct31 : Value}
    {f32 : Addr} {od32 an32 : Option Addr} {sl32 : Array (Option Value)} {oc32 kV32 dc32 pm32 cd32 ct32 : Value}
    {f33 : Addr} {od33 an33 : Option Addr} {sl33 : Array (Option Value)} {oc33 kV33 dc33 pm33 cd33 ct33 : Value}
    {f34 : Addr} {od34 an34 : Option Addr} {sl34 : Array (Option Value)} {oc34 kV34 dc34 pm34 cd34 ct34 : Value}
    {f35 : Addr} {od35 an35 : Option Addr} {sl35 : Array (Option Value)} {oc35 kV35 dc35 pm35 cd35 ct35 : Value}
    (aC : PySem.W.nsIn K mainGlobals "Book" = some (some (.ref C)))
    (a0 : PySem.W.nsIn K mainGlobals "_law_pen" = some (some (.ref f0)))
    (l0 : K.lookup f0 = some ⟨oc0, od0, .func (PySem.W.fnOf "_law_pen" "_law_pen" (defArgs s__law_pen) (defBody s__law_pen) (defScope s__law_pen) .none kV0 dc0 pm0 an0 cd0 ct0), sl0⟩) (c0 : PySem.W.codeIn K cd0 "_law_pen" = true) (k0 : PySem.W.keepIn K (.ref f0) = true)
    (a1 : PySem.W.nsIn K mainGlobals "_law_draw" = some (some (.ref f1)))
    (l1 : K.lookup f1 = some ⟨oc1, od1, .func (PySem.W.fnOf "_law_draw" "_law_draw" (defArgs s__law_draw) (defBody s__law_draw) (defScope s__law_draw) .none kV1 dc1 pm1 an1 cd1 ct1), sl1⟩) (c1 : PySem.W.codeIn K cd1 "_law_draw" = true) (k1 : PySem.W.keepIn K (.ref f1) = true)
    (a2 : PySem.W.nsIn K mainGlobals "_law_names" = some (some (.ref f2)))
    (l2 : K.lookup f2 = some ⟨oc2, od2, .func (PySem.W.fnOf "_law_names" "_law_names" (defArgs s__law_names) (defBody s__law_names) (defScope s__law_names) .none kV2 dc2 pm2 an2 cd2 ct2), sl2⟩) (c2 : PySem.W.codeIn K cd2 "_law_names" = true) (k2 : PySem.W.keepIn K (.ref f2) = true)
    (a3 : PySem.W.nsIn K mainGlobals "_law_moments" = some (some (.ref f3)))
    (l3 : K.lookup f3 = some ⟨oc3, od3, .func (PySem.W.fnOf "_law_moments" "_law_moments" (defArgs s__law_moments) (defBody s__law_moments) (defScope s__law_moments) .none kV3 dc3 pm3 an3 cd3 ct3), sl3⟩) (c3 : PySem.W.codeIn K cd3 "_law_moments" = true) (k3 : PySem.W.keepIn K (.ref f3) = true)
    (a4 : PySem.W.nsIn K mainGlobals "is_number" = some (some (.ref f4)))
    (l4 : K.lookup f4 = some ⟨oc4, od4, .func (PySem.W.fnOf "is_number" "is_number" (defArgs s_is_number) (defBody s_is_number) (defScope s_is_number) .none kV4 dc4 pm4 an4 cd4 ct4), sl4⟩) (c4 : PySem.W.codeIn K cd4 "is_number" = true) (k4 : PySem.W.keepIn K (.ref f4) = true)
    (a5 : PySem.W.nsIn K mainGlobals "is_word" = some (some (.ref f5)))
    (l5 : K.lookup f5 = some ⟨oc5, od5, .func (PySem.W.fnOf "is_word" "is_word" (defArgs s_is_word) (defBody s_is_word) (defScope s_is_word) .none kV5 dc5 pm5 an5 cd5 ct5), sl5⟩) (c5 : PySem.W.codeIn K cd5 "is_word" = true) (k5 : PySem.W.keepIn K (.ref f5) = true)
    (a6 : PySem.W.nsIn K mainGlobals "is_moment" = some (some (.ref f6)))
    (l6 : K.lookup f6 = some ⟨oc6, od6, .func (PySem.W.fnOf "is_moment" "is_moment" (defArgs s_is_moment) (defBody s_is_moment) (defScope s_is_moment) .none kV6 dc6 pm6 an6 cd6 ct6), sl6⟩) (c6 : PySem.W.codeIn K cd6 "is_moment" = true) (k6 : PySem.W.keepIn K (.ref f6) = true)
    (a7 : PySem.W.nsIn K mainGlobals "is_list" = some (some (.ref f7)))
    (l7 : K.lookup f7 = some ⟨oc7, od7, .func (PySem.W.fnOf "is_list" "is_list" (defArgs s_is_list) (defBody s_is_list) (defScope s_is_list) .none kV7 dc7 pm7 an7 cd7 ct7), sl7⟩) (c7 : PySem.W.codeIn K cd7 "is_list" = true) (k7 : PySem.W.keepIn K (.ref f7) = true)
    (a8 : PySem.W.nsIn K mainGlobals "are_sheets" = some (some (.ref f8)))
    (l8 : K.lookup f8 = some ⟨oc8, od8, .func (PySem.W.fnOf "are_sheets" "are_sheets" (defArgs s_are_sheets) (defBody s_are_sheets) (defScope s_are_sheets) .none kV8 dc8 pm8 an8 cd8 ct8), sl8⟩) (c8 : PySem.W.codeIn K cd8 "are_sheets" = true) (k8 : PySem.W.keepIn K (.ref f8) = true)
    (a9 : PySem.W.nsIn K mainGlobals "is_there" = some (some (.ref f9)))
    (l9 : K.lookup f9 = some ⟨oc9, od9, .func (PySem.W.fnOf "is_there" "is_there" (defArgs s_is_there) (defBody s_is_there) (defScope s_is_there) .none kV9 dc9 pm9 an9 cd9 ct9), sl9⟩) (c9 : PySem.W.codeIn K cd9 "is_there" = true) (k9 : PySem.W.keepIn K (.ref f9) = true)
    (a10 : PySem.W.nsIn K mainGlobals "refuse_new" = some (some (.ref f10)))
    (l10 : K.lookup f10 = some ⟨oc10, od10, .func (PySem.W.fnOf "refuse_new" "refuse_new" (defArgs s_refuse_new) (defBody s_refuse_new) (defScope s_refuse_new) .none kV10 dc10 pm10 an10 cd10 ct10), sl10⟩) (c10 : PySem.W.codeIn K cd10 "refuse_new" = true) (k10 : PySem.W.keepIn K (.ref f10) = true)
    (a11 : PySem.W.nsIn K mainGlobals "refuse_missing" = some (some (.ref f11)))
    (l11 : K.lookup f11 = some ⟨oc11, od11, .func (PySem.W.fnOf "refuse_missing" "refuse_missing" (defArgs s_refuse_missing) (defBody s_refuse_missing) (defScope s_refuse_missing) .none kV11 dc11 pm11 an11 cd11 ct11), sl11⟩) (c11 : PySem.W.codeIn K cd11 "refuse_missing" = true) (k11 : PySem.W.keepIn K (.ref f11) = true)
    (a12 : PySem.W.nsIn K mainGlobals "chains" = some (some (.ref f12)))
    (l12 : K.lookup f12 = some ⟨oc12, od12, .func (PySem.W.fnOf "chains" "chains" (defArgs s_chains) (defBody s_chains) (defScope s_chains) .none kV12 dc12 pm12 an12 cd12 ct12), sl12⟩) (c12 : PySem.W.codeIn K cd12 "chains" = true) (k12 : PySem.W.keepIn K (.ref f12) = true)
    (a13 : PySem.W.nsIn K mainGlobals "chain" = some (some (.ref f13)))
    (l13 : K.lookup f13 = some ⟨oc13, od13, .func (PySem.W.fnOf "chain" "chain" (defArgs s_chain) (defBody s_chain) (defScope s_chain) .none kV13 dc13 pm13 an13 cd13 ct13), sl13⟩) (c13 : PySem.W.codeIn K cd13 "chain" = true) (k13 : PySem.W.keepIn K (.ref f13) = true)
    (a14 : PySem.W.nsIn K mainGlobals "bad_name" = some (some (.ref f14)))
    (l14 : K.lookup f14 = some ⟨oc14, od14, .func (PySem.W.fnOf "bad_name" "bad_name" (defArgs s_bad_name) (defBody s_bad_name) (defScope s_bad_name) .none kV14 dc14 pm14 an14 cd14 ct14), sl14⟩) (c14 : PySem.W.codeIn K cd14 "bad_name" = true) (k14 : PySem.W.keepIn K (.ref f14) = true)
    (a15 : PySem.W.nsIn K mainGlobals "_may_be_like" = some (some (.ref f15)))
    (l15 : K.lookup f15 = some ⟨oc15, od15, .func (PySem.W.fnOf "_may_be_like" "_may_be_like" (defArgs s__may_be_like) (defBody s__may_be_like) (defScope s__may_be_like) .none kV15 dc15 pm15 an15 cd15 ct15), sl15⟩) (c15 : PySem.W.codeIn K cd15 "_may_be_like" = true) (k15 : PySem.W.keepIn K (.ref f15) = true)
    (a16 : PySem.W.nsIn K mainGlobals "_named_in" = some (some (.ref f16)))
    (l16 : K.lookup f16 = some ⟨oc16, od16, .func (PySem.W.fnOf "_named_in" "_named_in" (defArgs s__named_in) (defBody s__named_in) (defScope s__named_in) .none kV16 dc16 pm16 an16 cd16 ct16), sl16⟩) (c16 : PySem.W.codeIn K cd16 "_named_in" = true) (k16 : PySem.W.keepIn K (.ref f16) = true)
    (a17 : PySem.W.findIn K (.ref C) "__init__" = some (some (.ref f17))) (i17 : PySem.W.isFn K (.ref f17) = true)
    (l17 : K.lookup f17 = some ⟨oc17, od17, .func (PySem.W.fnOf "__init__" "Book.__init__" (defArgs s_Book___init__) (defBody s_Book___init__) (defScope s_Book___init__) .none kV17 dc17 pm17 an17 cd17 ct17), sl17⟩) (c17 : PySem.W.codeIn K cd17 "Book.__init__" = true) (k17 : PySem.W.keepIn K (.ref f17) = true)
    (a18 : PySem.W.findIn K (.ref C) "_keep" = some (some (.ref f18))) (i18 : PySem.W.isFn K (.ref f18) = true)
    (l18 : K.lookup f18 = some ⟨oc18, od18, .func (PySem.W.fnOf "_keep" "Book._keep" (defArgs s_Book__keep) (defBody s_Book__keep) (defScope s_Book__keep) .none kV18 dc18 pm18 an18 cd18 ct18), sl18⟩) (c18 : PySem.W.codeIn K cd18 "Book._keep" = true) (k18 : PySem.W.keepIn K (.ref f18) = true)
    (a19 : PySem.W.findIn K (.ref C) "_name" = some (some (.ref f19))) (i19 : PySem.W.isFn K (.ref f19) = true)
    (l19 : K.lookup f19 = some ⟨oc19, od19, .func (PySem.W.fnOf "_name" "Book._name" (defArgs s_Book__name) (defBody s_Book__name) (defScope s_Book__name) .none (.ref D19) dc19 pm19 an19 cd19 ct19), sl19⟩) (c19 : PySem.W.codeIn K cd19 "Book._name" = true) (k19 : PySem.W.keepIn K (.ref f19) = true)
    (d19 : PySem.W.nsIn K D19 "upto" = some (some .none))
    (a20 : PySem.W.findIn K (.ref C) "_refuse_named" = some (some (.ref f20))) (i20 : PySem.W.isFn K (.ref f20) = true)
    (l20 : K.lookup f20 = some ⟨oc20, od20, .func (PySem.W.fnOf "_refuse_named" "Book._refuse_named" (defArgs s_Book__refuse_named) (defBody s_Book__refuse_named) (defScope s_Book__refuse_named) .none kV20 dc20 pm20 an20 cd20 ct20), sl20⟩) (c20 : PySem.W.codeIn K cd20 "Book._refuse_named" = true) (k20 : PySem.W.keepIn K (.ref f20) = true)
    (a21 : PySem.W.findIn K (.ref C) "rank" = some (some (.ref f21))) (i21 : PySem.W.isFn K (.ref f21) = true)
    (l21 : K.lookup f21 = some ⟨oc21, od21, .func (PySem.W.fnOf "rank" "Book.rank" (defArgs s_Book_rank) (defBody s_Book_rank) (defScope s_Book_rank) .none kV21 dc21 pm21 an21 cd21 ct21), sl21⟩) (c21 : PySem.W.codeIn K cd21 "Book.rank" = true) (k21 : PySem.W.keepIn K (.ref f21) = true)
    (a22 : PySem.W.findIn K (.ref C) "publish" = some (some (.ref f22))) (i22 : PySem.W.isFn K (.ref f22) = true)
    (l22 : K.lookup f22 = some ⟨oc22, od22, .func (PySem.W.fnOf "publish" "Book.publish" (defArgs s_Book_publish) (defBody s_Book_publish) (defScope s_Book_publish) .none kV22 dc22 pm22 an22 cd22 ct22), sl22⟩) (c22 : PySem.W.codeIn K cd22 "Book.publish" = true) (k22 : PySem.W.keepIn K (.ref f22) = true)
    (a23 : PySem.W.findIn K (.ref C) "ahead" = some (some (.ref f23))) (i23 : PySem.W.isFn K (.ref f23) = true)
    (l23 : K.lookup f23 = some ⟨oc23, od23, .func (PySem.W.fnOf "ahead" "Book.ahead" (defArgs s_Book_ahead) (defBody s_Book_ahead) (defScope s_Book_ahead) .none kV23 dc23 pm23 an23 cd23 ct23), sl23⟩) (c23 : PySem.W.codeIn K cd23 "Book.ahead" = true) (k23 : PySem.W.keepIn K (.ref f23) = true)
    (a24 : PySem.W.findIn K (.ref C) "entries" = some (some (.ref f24))) (i24 : PySem.W.isFn K (.ref f24) = true)
    (l24 : K.lookup f24 = some ⟨oc24, od24, .func (PySem.W.fnOf "entries" "Book.entries" (defArgs s_Book_entries) (defBody s_Book_entries) (defScope s_Book_entries) .none kV24 dc24 pm24 an24 cd24 ct24), sl24⟩) (c24 : PySem.W.codeIn K cd24 "Book.entries" = true) (k24 : PySem.W.keepIn K (.ref f24) = true)
    (a25 : PySem.W.findIn K (.ref C) "aheads" = some (some (.ref f25))) (i25 : PySem.W.isFn K (.ref f25) = true)
    (l25 : K.lookup f25 = some ⟨oc25, od25, .func (PySem.W.fnOf "aheads" "Book.aheads" (defArgs s_Book_aheads) (defBody s_Book_aheads) (defScope s_Book_aheads) .none (.ref D25) dc25 pm25 an25 cd25 ct25), sl25⟩) (c25 : PySem.W.codeIn K cd25 "Book.aheads" = true) (k25 : PySem.W.keepIn K (.ref f25) = true)
    (d25 : PySem.W.nsIn K D25 "upto" = some (some .none))
    (a26 : PySem.W.findIn K (.ref C) "drop" = some (some (.ref f26))) (i26 : PySem.W.isFn K (.ref f26) = true)
    (l26 : K.lookup f26 = some ⟨oc26, od26, .func (PySem.W.fnOf "drop" "Book.drop" (defArgs s_Book_drop) (defBody s_Book_drop) (defScope s_Book_drop) .none kV26 dc26 pm26 an26 cd26 ct26), sl26⟩) (c26 : PySem.W.codeIn K cd26 "Book.drop" = true) (k26 : PySem.W.keepIn K (.ref f26) = true)
    (a27 : PySem.W.nsIn K mainGlobals "_law_tell" = some (some (.ref f27)))
    (l27 : K.lookup f27 = some ⟨oc27, od27, .func (PySem.W.fnOf "_law_tell" "_law_tell" (defArgs s__law_tell) (defBody s__law_tell) (defScope s__law_tell) .none kV27 dc27 pm27 an27 cd27 ct27), sl27⟩) (c27 : PySem.W.codeIn K cd27 "_law_tell" = true) (k27 : PySem.W.keepIn K (.ref f27) = true)
    (a28 : PySem.W.nsIn K mainGlobals "_law_book" = some (some (.ref f28)))
    (l28 : K.lookup f28 = some ⟨oc28, od28, .func (PySem.W.fnOf "_law_book" "_law_book" (defArgs s__law_book) (defBody s__law_book) (defScope s__law_book) .none kV28 dc28 pm28 an28 cd28 ct28), sl28⟩) (c28 : PySem.W.codeIn K cd28 "_law_book" = true) (k28 : PySem.W.keepIn K (.ref f28) = true)
    (a29 : PySem.W.nsIn K mainGlobals "_law_there" = some (some (.ref f29)))
    (l29 : K.lookup f29 = some ⟨oc29, od29, .func (PySem.W.fnOf "_law_there" "_law_there" (defArgs s__law_there) (defBody s__law_there) (defScope s__law_there) .none kV29 dc29 pm29 an29 cd29 ct29), sl29⟩) (c29 : PySem.W.codeIn K cd29 "_law_there" = true) (k29 : PySem.W.keepIn K (.ref f29) = true)
    (a30 : PySem.W.nsIn K mainGlobals "_law_reached" = some (some (.ref f30)))
    (l30 : K.lookup f30 = some ⟨oc30, od30, .func (PySem.W.fnOf "_law_reached" "_law_reached" (defArgs s__law_reached) (defBody s__law_reached) (defScope s__law_reached) .none kV30 dc30 pm30 an30 cd30 ct30), sl30⟩) (c30 : PySem.W.codeIn K cd30 "_law_reached" = true) (k30 : PySem.W.keepIn K (.ref f30) = true)
    (a31 : PySem.W.nsIn K mainGlobals "_law_aheads" = some (some (.ref f31)))
    (l31 : K.lookup f31 = some ⟨oc31, od31, .func (PySem.W.fnOf "_law_aheads" "_law_aheads" (defArgs s__law_aheads) (defBody s__law_aheads) (defScope s__law_aheads) .none kV31 dc31 pm31 an31 cd31 ct31), sl31⟩) (c31 : PySem.W.codeIn K cd31 "_law_aheads" = true) (k31 : PySem.W.keepIn K (.ref f31) = true)
    (a32 : PySem.W.nsIn K mainGlobals "_law_until" = some (some (.ref f32)))
    (l32 : K.lookup f32 = some ⟨oc32, od32, .func (PySem.W.fnOf "_law_until" "_law_until" (defArgs s__law_until) (defBody s__law_until) (defScope s__law_until) .none kV32 dc32 pm32 an32 cd32 ct32), sl32⟩) (c32 : PySem.W.codeIn K cd32 "_law_until" = true) (k32 : PySem.W.keepIn K (.ref f32) = true)
    (a33 : PySem.W.nsIn K mainGlobals "_law_has_ring" = some (some (.ref f33)))
    (l33 : K.lookup f33 = some ⟨oc33, od33, .func (PySem.W.fnOf "_law_has_ring" "_law_has_ring" (defArgs s__law_has_ring) (defBody s__law_has_ring) (defScope s__law_has_ring) .none kV33 dc33 pm33 an33 cd33 ct33), sl33⟩) (c33 : PySem.W.codeIn K cd33 "_law_has_ring" = true) (k33 : PySem.W.keepIn K (.ref f33) = true)
    (a34 : PySem.W.nsIn K mainGlobals "_law_ahead_rows" = some (some (.ref f34)))
    (l34 : K.lookup f34 = some ⟨oc34, od34, .func (PySem.W.fnOf "_law_ahead_rows" "_law_ahead_rows" (defArgs s__law_ahead_rows) (defBody s__law_ahead_rows) (defScope s__law_ahead_rows) .none kV34 dc34 pm34 an34 cd34 ct34), sl34⟩) (c34 : PySem.W.codeIn K cd34 "_law_ahead_rows" = true) (k34 : PySem.W.keepIn K (.ref f34) = true)
    (a35 : PySem.W.nsIn K mainGlobals "law" = some (some (.ref f35)))
    (l35 : K.lookup f35 = some ⟨oc35, od35, .func (PySem.W.fnOf "law" "law" (defArgs s_law) (defBody s_law) (defScope s_law) .none kV35 dc35 pm35 an35 cd35 ct35), sl35⟩) (c35 : PySem.W.codeIn K cd35 "law" = true) (k35 : PySem.W.keepIn K (.ref f35) = true)
    (pg : PySem.W.plainGet K C Str.empty = true) (hd : PySem.W.hasDictIn K C = true) (po : PySem.W.plainOver K C = true) (sa : PySem.W.findIn K (.ref C) "__setattr__" = some (some (.builtin "object.__setattr__"))) (mk : PySem.W.makesIn K C = true) (kc : PySem.W.keepIn K (.ref C) = true)
    (nE : PySem.W.findIn K (.ref C) "_entries" = some none) (nN : PySem.W.findIn K (.ref C) "_named_by" = some none)
    (z_len : PySem.W.nsIn K mainGlobals "len" = some none)
    (z_abs : PySem.W.nsIn K mainGlobals "abs" = some none)
    (z_range : PySem.W.nsIn K mainGlobals "range" = some none)
    (z_isinstance : PySem.W.nsIn K mainGlobals "isinstance" = some none)
    (z_int : PySem.W.nsIn K mainGlobals "int" = some none)
    (z_bool : PySem.W.nsIn K mainGlobals "bool" = some none)
    (z_str : PySem.W.nsIn K mainGlobals "str" = some none)
    (z_all : PySem.W.nsIn K mainGlobals "all" = some none)
    (z_tuple : PySem.W.nsIn K mainGlobals "tuple" = some none)
    (z_list : PySem.W.nsIn K mainGlobals "list" = some none)
    (z_set : PySem.W.nsIn K mainGlobals "set" = some none)
    (z_sorted : PySem.W.nsIn K mainGlobals "sorted" = some none)
    (z_min : PySem.W.nsIn K mainGlobals "min" = some none)
    {t_MOST_LETTERS : PySem.Tok} (g_MOST_LETTERS : PySem.W.nsIn K mainGlobals "MOST_LETTERS" = some (some (Value.int 12 t_MOST_LETTERS)))
    {t_LETTERS : PySem.Tok} (g_LETTERS : PySem.W.nsIn K mainGlobals "LETTERS" = some (some (Value.str letters t_LETTERS)))
    {t_MOST : PySem.Tok} (g_MOST : PySem.W.nsIn K mainGlobals "MOST" = some (some (Value.int 1000000000000 t_MOST)))
    {t_MOST_RANK : PySem.Tok} (g_MOST_RANK : PySem.W.nsIn K mainGlobals "MOST_RANK" = some (some (Value.int 5 t_MOST_RANK)))
    : ∃ fd : FuncData, (∀ (s : Shared) (v : Value), BindsTo s fd ⟨[v], []⟩ [("_law_script", v)]) ∧ ∀ base : Heap, K.In base → base.Ns mainGlobals mg → FnOk l.prog w K mg base CX0 8 fa fd ["_law_script"] (spLaw K) := by
  have e := hfa.symm.trans (PySem.W.mg_of X G a35)
  cases e
  have TB : BkT K C := ⟨⟨pg, hd, po, sa⟩, nE, nN⟩
  have m_len := PySem.W.mg_none_of X G z_len
  have m_abs := PySem.W.mg_none_of X G z_abs
  have m_range := PySem.W.mg_none_of X G z_range
  have m_isinstance := PySem.W.mg_none_of X G z_isinstance
  have m_int := PySem.W.mg_none_of X G z_int
  have m_bool := PySem.W.mg_none_of X G z_bool
  have m_str := PySem.W.mg_none_of X G z_str
  have m_all := PySem.W.mg_none_of X G z_all
  have m_tuple := PySem.W.mg_none_of X G z_tuple
  have m_list := PySem.W.mg_none_of X G z_list
  have m_set := PySem.W.mg_none_of X G z_set
  have m_sorted := PySem.W.mg_none_of X G z_sorted
  have m_min := PySem.W.mg_none_of X G z_min
  have gl_MOST_LETTERS : ∃ u, mg "MOST_LETTERS" = some u ∧ RelV (.int 12) u := ⟨_, PySem.W.mg_of X G g_MOST_LETTERS, _, rfl⟩
  have gl_LETTERS : ∃ u, mg "LETTERS" = some u ∧ RelV (.str letters) u := ⟨_, PySem.W.mg_of X G g_LETTERS, _, rfl⟩
  have gl_MOST : ∃ u, mg "MOST" = some u ∧ RelV (.int 1000000000000) u := ⟨_, PySem.W.mg_of X G g_MOST, _, rfl⟩
  have gl_MOST_RANK : ∃ u, mg "MOST_RANK" = some u ∧ RelV (.int 5) u := ⟨_, PySem.W.mg_of X G g_MOST_RANK, _, rfl⟩
  have F0 := fun_mk (st := s__law_pen) l0 c0 k0
  have b0 := F0.binds (ps := ["_law_script"]) fun _ _ _ _ _ _ us hl => match us, hl with | [_], _ => rfl
  have F1 := fun_mk (st := s__law_draw) l1 c1 k1
  have b1 := F1.binds (ps := ["_law_pen_here", "_law_many"]) fun _ _ _ _ _ _ us hl => match us, hl with | [_, _], _ => rfl
  have F2 := fun_mk (st := s__law_names) l2 c2 k2
  have b2 := F2.binds (ps := ["_law_pen_here", "_law_many"]) fun _ _ _ _ _ _ us hl => match us, hl with | [_, _], _ => rfl
  have F3 := fun_mk (st := s__law_moments) l3 c3 k3
  have b3 := F3.binds (ps := ["_law_pen_here", "_law_many"]) fun _ _ _ _ _ _ us hl => match us, hl with | [_, _], _ => rfl
  have F4 := fun_mk (st := s_is_number) l4 c4 k4
  have b4 := F4.binds (ps := ["thing", "low", "high"]) fun _ _ _ _ _ _ us hl => match us, hl with | [_, _, _], _ => rfl
  have F5 := fun_mk (st := s_is_word) l5 c5 k5
  have b5 := F5.binds (ps := ["thing"]) fun _ _ _ _ _ _ us hl => match us, hl with | [_], _ => rfl
  have F6 := fun_mk (st := s_is_moment) l6 c6 k6
  have b6 := F6.binds (ps := ["thing"]) fun _ _ _ _ _ _ us hl => match us, hl with | [_], _ => rfl
  have F7 := fun_mk (st := s_is_list) l7 c7 k7
  have b7 := F7.binds (ps := ["thing"]) fun _ _ _ _ _ _ us hl => match us, hl with | [_], _ => rfl
  have F8 := fun_mk (st := s_are_sheets) l8 c8 k8
  have b8 := F8.binds (ps := ["thing"]) fun _ _ _ _ _ _ us hl => match us, hl with | [_], _ => rfl
  have F9 := fun_mk (st := s_is_there) l9 c9 k9
  have b9 := F9.binds (ps := ["moment", "upto"]) fun _ _ _ _ _ _ us hl => match us, hl with | [_, _], _ => rfl
  have F10 := fun_mk (st := s_refuse_new) l10 c10 k10
  have b10 := F10.binds (ps := ["moment", "entries"]) fun _ _ _ _ _ _ us hl => match us, hl with | [_, _], _ => rfl
  have F11 := fun_mk (st := s_refuse_missing) l11 c11 k11
  have b11 := F11.binds (ps := ["moment", "entries"]) fun _ _ _ _ _ _ us hl => match us, hl with | [_, _], _ => rfl
  have F12 := fun_mk (st := s_chains) l12 c12 k12
  have b12 := F12.binds (ps := ["links", "start"]) fun _ _ _ _ _ _ us hl => match us, hl with | [_, _], _ => rfl
  have F13 := fun_mk (st := s_chain) l13 c13 k13
  have b13 := F13.binds (ps := ["links", "start", "goal"]) fun _ _ _ _ _ _ us hl => match us, hl with | [_, _, _], _ => rfl
  have F14 := fun_mk (st := s_bad_name) l14 c14 k14
  have b14 := F14.binds (ps := ["rank", "words", "sheets", "like"]) fun _ _ _ _ _ _ us hl => match us, hl with | [_, _, _, _], _ => rfl
  have F15 := fun_mk (st := s__may_be_like) l15 c15 k15
  have b15 := F15.binds (ps := ["rank", "other"]) fun _ _ _ _ _ _ us hl => match us, hl with | [_, _], _ => rfl
  have F16 := fun_mk (st := s__named_in) l16 c16 k16
  have b16 := F16.binds (ps := ["record"]) fun _ _ _ _ _ _ us hl => match us, hl with | [_], _ => rfl
  have F17 := fun_mk (st := s_Book___init__) l17 c17 k17
  have b17 := F17.binds (ps := ["self"]) fun _ _ _ _ _ _ us hl => match us, hl with | [_], _ => rfl
  have F18 := fun_mk (st := s_Book__keep) l18 c18 k18
  have b18 := F18.binds (ps := ["self", "record"]) fun _ _ _ _ _ _ us hl => match us, hl with | [_, _], _ => rfl
  have F19 := fund_mk (st := s_Book__name) l19 c19 k19 (kws := [("upto", V.non)]) (.inr ⟨_, rfl, fun q hq => by rw [List.mem_singleton] at hq; subst hq; exact ⟨_, d19, rfl⟩⟩)
  have F20 := fun_mk (st := s_Book__refuse_named) l20 c20 k20
  have b20 := F20.binds (ps := ["self", "moment", "name"]) fun _ _ _ _ _ _ us hl => match us, hl with | [_, _, _], _ => rfl
  have F21 := fun_mk (st := s_Book_rank) l21 c21 k21
  have b21 := F21.binds (ps := ["self", "name"]) fun _ _ _ _ _ _ us hl => match us, hl with | [_, _], _ => rfl
  have F22 := fund_mk (st := s_Book_publish) l22 c22 k22 (kws := []) (.inl rfl)
  have F23 := fun_mk (st := s_Book_ahead) l23 c23 k23
  have b23 := F23.binds (ps := ["self", "moment", "name", "other"]) fun _ _ _ _ _ _ us hl => match us, hl with | [_, _, _, _], _ => rfl
  have F24 := fund_mk (st := s_Book_entries) l24 c24 k24 (kws := []) (.inl rfl)
  have F25 := fund_mk (st := s_Book_aheads) l25 c25 k25 (kws := [("upto", V.non)]) (.inr ⟨_, rfl, fun q hq => by rw [List.mem_singleton] at hq; subst hq; exact ⟨_, d25, rfl⟩⟩)
  have F26 := fun_mk (st := s_Book_drop) l26 c26 k26
  have b26 := F26.binds (ps := ["self", "moment"]) fun _ _ _ _ _ _ us hl => match us, hl with | [_, _], _ => rfl
  have F27 := fun_mk (st := s__law_tell) l27 c27 k27
  have b27 := F27.binds (ps := ["_law_book_here", "_law_row"]) fun _ _ _ _ _ _ us hl => match us, hl with | [_, _], _ => rfl
  have F28 := fun_mk (st := s__law_book) l28 c28 k28
  have b28 := F28.binds (ps := ["_law_rows"]) fun _ _ _ _ _ _ us hl => match us, hl with | [_], _ => rfl
  have F29 := fun_mk (st := s__law_there) l29 c29 k29
  have b29 := F29.binds (ps := ["_law_rows", "_law_until_here"]) fun _ _ _ _ _ _ us hl => match us, hl with | [_, _], _ => rfl
  have F30 := fun_mk (st := s__law_reached) l30 c30 k30
  have b30 := F30.binds (ps := ["_law_links", "_law_start"]) fun _ _ _ _ _ _ us hl => match us, hl with | [_, _], _ => rfl
  have F31 := fun_mk (st := s__law_aheads) l31 c31 k31
  have b31 := F31.binds (ps := ["_law_rows", "_law_until_here"]) fun _ _ _ _ _ _ us hl => match us, hl with | [_, _], _ => rfl
  have F32 := fun_mk (st := s__law_until) l32 c32 k32
  have b32 := F32.binds (ps := ["_law_pen_here", "_law_rows"]) fun _ _ _ _ _ _ us hl => match us, hl with | [_, _], _ => rfl
  have F33 := fun_mk (st := s__law_has_ring) l33 c33 k33
  have b33 := F33.binds (ps := ["_law_links"]) fun _ _ _ _ _ _ us hl => match us, hl with | [_], _ => rfl
  have F34 := fun_mk (st := s__law_ahead_rows) l34 c34 k34
  have b34 := F34.binds (ps := ["_law_pen_here", "_law_many"]) fun _ _ _ _ _ _ us hl => match us, hl with | [_, _], _ => rfl
  have F35 := fun_mk (st := s_law) l35 c35 k35
  have b35 := F35.binds (ps := ["_law_script"]) fun _ _ _ _ _ _ us hl => match us, hl with | [_], _ => rfl
  refine ⟨PySem.W.fnOf "law" "law" (defArgs s_law) (defBody s_law) (defScope s_law) .none kV35 dc35 pm35 an35 cd35 ct35, fun s v => .of_eq rfl, fun base _ _ => ?_⟩
  have O0 := ok__law_pen (P := l.prog) (w := w) (base := base) (mg := mg) F0 
  have O1 := ok__law_draw (P := l.prog) (w := w) (base := base) (mg := mg) F1 m_len m_abs m_range
  have O4 := ok_is_number (P := l.prog) (w := w) (base := base) (mg := mg) F4 m_isinstance m_int m_bool
  have O5 := ok_is_word (P := l.prog) (w := w) (base := base) (mg := mg) F5 m_isinstance m_str m_len m_all gl_MOST_LETTERS gl_LETTERS
  have O7 := ok_is_list (P := l.prog) (w := w) (base := base) (mg := mg) F7 m_isinstance m_tuple m_list
  have O9 := ok_is_there (P := l.prog) (w := w) (base := base) (mg := mg) F9 
  have O12 := ok_chains (P := l.prog) (w := w) (base := base) (mg := mg) F12 
  have O15 := ok__may_be_like (P := l.prog) (w := w) (base := base) (mg := mg) F15 
  have O16 := ok__named_in (P := l.prog) (w := w) (base := base) (mg := mg) F16 
  have O17 := ok_Book_init (P := l.prog) (w := w) (base := base) (mg := mg) F17 TB
  have O29 := ok__law_there (P := l.prog) (w := w) (base := base) (mg := mg) F29 
  have O30 := ok__law_reached (P := l.prog) (w := w) (base := base) (mg := mg) F30 m_len m_range
  have O33 := ok__law_has_ring (P := l.prog) (w := w) (base := base) (mg := mg) F33 m_len m_range m_list
  have c__law_draw : C8.Cal l.prog w K mg base 1 "_law_draw" spDraw [] := ⟨_, _, _, _, O1, PySem.W.mg_of X G a1, k1, b1, .nil⟩
  have O2 := ok__law_names (P := l.prog) (w := w) (base := base) (mg := mg) F2 m_len m_range c__law_draw
  have O3 := ok__law_moments (P := l.prog) (w := w) (base := base) (mg := mg) F3 m_range c__law_draw
  have c_is_number : C8.Cal l.prog w K mg base 1 "is_number" (spNumber K) [] := ⟨_, _, _, _, O4, PySem.W.mg_of X G a4, k4, b4, .nil⟩
  have O6 := ok_is_moment (P := l.prog) (w := w) (base := base) (mg := mg) F6 m_isinstance m_tuple m_len gl_MOST c_is_number
  have c_is_list : C8.Cal l.prog w K mg base 1 "is_list" spList [] := ⟨_, _, _, _, O7, PySem.W.mg_of X G a7, k7, b7, .nil⟩
  have c_is_word : C8.Cal l.prog w K mg base 1 "is_word" (spWord K) [] := ⟨_, _, _, _, O5, PySem.W.mg_of X G a5, k5, b5, .nil⟩
  have O8 := ok_are_sheets (P := l.prog) (w := w) (base := base) (mg := mg) F8 m_len m_set m_all c_is_list c_is_word
  have c_chains : C8.Cal l.prog w K mg base 1 "chains" spChains [] := ⟨_, _, _, _, O12, PySem.W.mg_of X G a12, k12, b12, .nil⟩
  have O13 := ok_chain (P := l.prog) (w := w) (base := base) (mg := mg) F13 c_chains
  have c__named_in : C8.Cal l.prog w K mg base 1 "_named_in" spNamedIn [] := ⟨_, _, _, _, O16, PySem.W.mg_of X G a16, k16, b16, .nil⟩
  have O18 := ok_Book_keep (P := l.prog) (w := w) (base := base) (mg := mg) F18 TB c__named_in
  have c_is_there : C8.Cal l.prog w K mg base 1 "is_there" spThere [] := ⟨_, _, _, _, O9, PySem.W.mg_of X G a9, k9, b9, .nil⟩
  have O24 := ok_Book_entries (P := l.prog) (w := w) (base := base) (mg := mg) F24 TB m_sorted c_is_there
  have c__law_there : C8.Cal l.prog w K mg base 1 "_law_there" spThereR [] := ⟨_, _, _, _, O29, PySem.W.mg_of X G a29, k29, b29, .nil⟩
  have c__law_reached : C8.Cal l.prog w K mg base 1 "_law_reached" spReached [] := ⟨_, _, _, _, O30, PySem.W.mg_of X G a30, k30, b30, .nil⟩
  have O31 := ok__law_aheads (P := l.prog) (w := w) (base := base) (mg := mg) F31 c__law_there c__law_reached
  have O32 := ok__law_until (P := l.prog) (w := w) (base := base) (mg := mg) F32 m_len c__law_draw
  have c_is_moment : C8.Cal l.prog w K mg base 2 "is_moment" spMoment [] := ⟨_, _, _, _, O6, PySem.W.mg_of X G a6, k6, b6, .nil⟩
  have O10 := ok_refuse_new (P := l.prog) (w := w) (base := base) (mg := mg) F10 c_is_moment
  have O11 := ok_refuse_missing (P := l.prog) (w := w) (base := base) (mg := mg) F11 c_is_moment
  have c_are_sheets : C8.Cal l.prog w K mg base 2 "are_sheets" spSheets1 [] := ⟨_, _, _, _, O8, PySem.W.mg_of X G a8, k8, b8, .nil⟩
  have O14 := ok_bad_name (P := l.prog) (w := w) (base := base) (mg := mg) F14 m_isinstance m_tuple m_len m_all gl_MOST_RANK c_is_number c_is_word c_are_sheets c_is_list c_is_moment
  have O19 := ok_Book_name (P := l.prog) (w := w) (base := base) (mg := mg) F19 TB c_is_moment c_is_there
  have c_Book_entries_upto : MetK l.prog w K mg base 2 C "entries" (spEntries C) 1 ["upto"] (fun vs zs => vs ++ zs) := ⟨_, _, _, fun us ws => us ++ ws, TB.cl, ⟨a24, i24, k24⟩, O24, ⟨fun s us ws _ h1 h2 => match us, h1, ws, h2 with | [_], _, [_], _ => .of_eq rfl, fun r1 r2 => r1.append r2⟩⟩
  have c_chain : C8.Cal l.prog w K mg base 2 "chain" spChain [] := ⟨_, _, _, _, O13, PySem.W.mg_of X G a13, k13, b13, .nil⟩
  have O25 := ok_Book_aheads (P := l.prog) (w := w) (base := base) (mg := mg) F25 TB c_Book_entries_upto c_chain
  have c__law_names : C8.Cal l.prog w K mg base 2 "_law_names" spNames [] := ⟨_, _, _, _, O2, PySem.W.mg_of X G a2, k2, b2, .nil⟩
  have c__law_moments : C8.Cal l.prog w K mg base 2 "_law_moments" spMoments [] := ⟨_, _, _, _, O3, PySem.W.mg_of X G a3, k3, b3, .nil⟩
  have O34 := ok__law_ahead_rows (P := l.prog) (w := w) (base := base) (mg := mg) F34 m_range c__law_draw c__law_names c__law_moments
  have c_Book__name : C8.Met l.prog w K mg base 3 C "_name" (spName C) [.non] := by
    obtain ⟨ds, r, b⟩ := FunD.binds0 (ps := ["self", "name", "upto"]) F19 2 (by simp) rfl fun D doc pm an cdv ct us ks h1 h2 => match us, h1, ks, h2 with | [_, _], _, [_], _ => ⟨_, _, _, _, _, _, rfl, rfl, rfl⟩
    exact ⟨_, _, _, ds, TB.cl, ⟨a19, i19, k19⟩, O19, b, r⟩
  have O20 := ok_Book_refuse_named (P := l.prog) (w := w) (base := base) (mg := mg) F20 c_Book__name
  have O21 := ok_Book_rank (P := l.prog) (w := w) (base := base) (mg := mg) F21 c_Book__name
  have c_refuse_missing : C8.Cal l.prog w K mg base 3 "refuse_missing" spMissing [] := ⟨_, _, _, _, O11, PySem.W.mg_of X G a11, k11, b11, .nil⟩
  have O26 := ok_Book_drop (P := l.prog) (w := w) (base := base) (mg := mg) F26 TB c_refuse_missing c__named_in
  have c_refuse_new : C8.Cal l.prog w K mg base 3 "refuse_new" spNew [] := ⟨_, _, _, _, O10, PySem.W.mg_of X G a10, k10, b10, .nil⟩
  have c_bad_name : C8.Cal l.prog w K mg base 3 "bad_name" spBad [] := ⟨_, _, _, _, O14, PySem.W.mg_of X G a14, k14, b14, .nil⟩
  have c__may_be_like : C8.Cal l.prog w K mg base 1 "_may_be_like" spMayLike [] := ⟨_, _, _, _, O15, PySem.W.mg_of X G a15, k15, b15, .nil⟩
  have c_Book__refuse_named : C8.Met l.prog w K mg base 4 C "_refuse_named" (spRefuse C) [] := ⟨_, _, _, _, TB.cl, ⟨a20, i20, k20⟩, O20, b20, .nil⟩
  have c_Book_rank : C8.Met l.prog w K mg base 4 C "rank" (spRank C) [] := ⟨_, _, _, _, TB.cl, ⟨a21, i21, k21⟩, O21, b21, .nil⟩
  have c_Book__keep : C8.Met l.prog w K mg base 2 C "_keep" (spKeep C) [] := ⟨_, _, _, _, TB.cl, ⟨a18, i18, k18⟩, O18, b18, .nil⟩
  have O22 := ok_Book_publish (P := l.prog) (w := w) (base := base) (mg := mg) F22 TB m_tuple c_refuse_new c_bad_name c__may_be_like c_Book__refuse_named c_Book_rank c_Book__keep
  have O23 := ok_Book_ahead (P := l.prog) (w := w) (base := base) (mg := mg) F23 TB c_refuse_new c_Book__refuse_named c_Book_rank c_Book__keep
  have c_Book_publish_rank_sheets_like : MetK l.prog w K mg base 5 C "publish" (spPublish C) 3 ["rank", "sheets", "like"] (fun vs zs => vs ++ zs) := ⟨_, _, _, fun us ws => us ++ ws, TB.cl, ⟨a22, i22, k22⟩, O22, ⟨fun s us ws _ h1 h2 => match us, h1, ws, h2 with | [_, _, _], _, [_, _, _], _ => .of_eq rfl, fun r1 r2 => r1.append r2⟩⟩
  have c_Book_ahead : C8.Met l.prog w K mg base 5 C "ahead" (spAhead C) [] := ⟨_, _, _, _, TB.cl, ⟨a23, i23, k23⟩, O23, b23, .nil⟩
  have O27 := ok__law_tell (P := l.prog) (w := w) (base := base) (mg := mg) F27 c_Book_publish_rank_sheets_like c_Book_ahead
  have c_Book : C8.Mak l.prog w K mg base 1 "Book" C (spInit C) [] := ⟨_, _, _, _, ⟨mk, a17, i17, kc⟩, O17, PySem.W.mg_of X G aC, b17, .nil⟩
  have c__law_tell : C8.Cal l.prog w K mg base 6 "_law_tell" (spTell C) [] := ⟨_, _, _, _, O27, PySem.W.mg_of X G a27, k27, b27, .nil⟩
  have O28 := ok__law_book (P := l.prog) (w := w) (base := base) (mg := mg) F28 c_Book c__law_tell
  have c__law_pen : C8.Cal l.prog w K mg base 1 "_law_pen" (spPen K) [] := ⟨_, _, _, _, O0, PySem.W.mg_of X G a0, k0, b0, .nil⟩
  have c__law_ahead_rows : C8.Cal l.prog w K mg base 3 "_law_ahead_rows" spRows [] := ⟨_, _, _, _, O34, PySem.W.mg_of X G a34, k34, b34, .nil⟩
  have c__law_book : C8.Cal l.prog w K mg base 7 "_law_book" (spBookOf C) [] := ⟨_, _, _, _, O28, PySem.W.mg_of X G a28, k28, b28, .nil⟩
  have c__law_until : C8.Cal l.prog w K mg base 2 "_law_until" spUntil [] := ⟨_, _, _, _, O32, PySem.W.mg_of X G a32, k32, b32, .nil⟩
  have c_Book_aheads_upto : MetK l.prog w K mg base 3 C "aheads" (spAheads C) 1 ["upto"] (fun vs zs => vs ++ zs) := ⟨_, _, _, fun us ws => us ++ ws, TB.cl, ⟨a25, i25, k25⟩, O25, ⟨fun s us ws _ h1 h2 => match us, h1, ws, h2 with | [_], _, [_], _ => .of_eq rfl, fun r1 r2 => r1.append r2⟩⟩
  have c__law_aheads : C8.Cal l.prog w K mg base 2 "_law_aheads" spAheadsR [] := ⟨_, _, _, _, O31, PySem.W.mg_of X G a31, k31, b31, .nil⟩
  have c__law_has_ring : C8.Cal l.prog w K mg base 1 "_law_has_ring" spRing [] := ⟨_, _, _, _, O33, PySem.W.mg_of X G a33, k33, b33, .nil⟩
  have c_Book_drop : C8.Met l.prog w K mg base 4 C "drop" (spDrop C) [] := ⟨_, _, _, _, TB.cl, ⟨a26, i26, k26⟩, O26, b26, .nil⟩
  have c_Book_aheads : C8.Met l.prog w K mg base 3 C "aheads" (spAheads C) [.non] := by
    obtain ⟨ds, r, b⟩ := FunD.binds0 (ps := ["self", "upto"]) F25 1 (by simp) rfl fun D doc pm an cdv ct us ks h1 h2 => match us, h1, ks, h2 with | [_], _, [_], _ => ⟨_, _, _, _, _, _, rfl, rfl, rfl⟩
    exact ⟨_, _, _, ds, TB.cl, ⟨a25, i25, k25⟩, O25, b, r⟩
  have O35 := ok_law (P := l.prog) (w := w) (base := base) (mg := mg) F35 TB m_len m_range m_min c__law_pen c__law_draw c__law_ahead_rows c__law_book c__law_until c_Book_aheads_upto c__law_aheads c__law_has_ring c__law_there c_Book_drop c_Book_aheads
  exact O35
theorem walk {l : PySem.W.OpenLaw} {q : Program} {loose : List Str} {XP : (Str → Option Value) → Heap → Prop} {YP : World → Heap → Prop} {d : DefRec} {K : Params → PySem.W.Frag} (hn : l.most = some 63) (hdf : d.params.defaults = [])
    (hY : ∀ (w : World) (h : Heap), YP w h → (K w.params).In h)
    (F : ∀ (w : World) (mg : Str → Option Value) (fa : Addr) (h : Heap), (K w.params).In h → h.Ns mainGlobals mg → mg d.name = some (.ref fa) →
      ∃ fd : FuncData, (∀ (s : Shared) (u : Value), BindsTo s fd ⟨[u], []⟩ [("_law_script", u)]) ∧ ∀ base : Heap, (K w.params).In base → base.Ns mainGlobals mg → FnOk l.prog w (K w.params) mg base CX0 8 fa fd ["_law_script"] (spLaw (K w.params))) :
    PySem.W.WalkO q loose XP YP l.row.toRowW d [] (fun f vs => PySem.call f vs) :=
  L2.walk_of (n := 63) (k := 8) (x := "_law_script") (CX := fun _ => CX0) (sp := fun w => spLaw (K w.params)) hn (by decide) hdf ⟨rfl, by decide, by decide⟩ hY F (fun _ _ a ns hl _ hS => ⟨a, ns, rfl, hS, hl, fun _ => rfl⟩) fun _ _ _ _ _ z => z
end KN
open PySem PySem.W PyProof.Rows
open PySem PySem.W PyProof.Rows in
set_option maxRecDepth 100000 in
set_option maxHeartbeats 0 in
theorem PySem.Challenge.cw_kindnames_k05_whole_aheads_make_no_ring_holds : PySem.Challenge.rw_kindnames_k05_whole_aheads_make_no_ring.Holds := by
  w_on; o_law; k_head; (case hw => w_witness2)
  k_fill
  refine KN.walk (l := PySem.Challenge.rw_kindnames_k05_whole_aheads_make_no_ring) rfl rfl (fun w h Y => PySem.W.kIn_of Y) ?F
  case F =>
    intro w mg fa h KX G hmg
    refine' KN.all_mk KX G hmg ?aC ?a0 ?l0 ?c0 ?k0 ?a1 ?l1 ?c1 ?k1 ?a2 ?l2 ?c2 ?k2 ?a3 ?l3 ?c3 ?k3 ?a4 ?l4 ?c4 ?k4 ?a5 ?l5 ?c5 ?k5 ?a6 ?l6 ?c6 ?k6 ?a7 ?l7 ?c7 ?k7 ?a8 ?l8 ?c8 ?k8 ?a9 ?l9 ?c9 ?k9 ?a10 ?l10 ?c10 ?k10 ?a11 ?l11 ?c11 ?k11 ?a12 ?l12 ?c12 ?k12 ?a13 ?l13 ?c13 ?k13 ?a14 ?l14 ?c14 ?k14 ?a15 ?l15 ?c15 ?k15 ?a16 ?l16 ?c16 ?k16 ?a17 ?i17 ?l17 ?c17 ?k17 ?a18 ?i18 ?l18 ?c18 ?k18 ?a19 ?i19 ?l19 ?c19 ?k19 ?d19 ?a20 ?i20 ?l20 ?c20 ?k20 ?a21 ?i21 ?l21 ?c21 ?k21 ?a22 ?i22 ?l22 ?c22 ?k22 ?a23 ?i23 ?l23 ?c23 ?k23 ?a24 ?i24 ?l24 ?c24 ?k24 ?a25 ?i25 ?l25 ?c25 ?k25 ?d25 ?a26 ?i26 ?l26 ?c26 ?k26 ?a27 ?l27 ?c27 ?k27 ?a28 ?l28 ?c28 ?k28 ?a29 ?l29 ?c29 ?k29 ?a30 ?l30 ?c30 ?k30 ?a31 ?l31 ?c31 ?k31 ?a32 ?l32 ?c32 ?k32 ?a33 ?l33 ?c33 ?k33 ?a34 ?l34 ?c34 ?k34 ?a35 ?l35 ?c35 ?k35 ?pg ?hd ?po ?sa ?mk ?kc ?nE ?nN ?z_len ?z_abs ?z_range ?z_isinstance ?z_int ?z_bool ?z_str ?z_all ?z_tuple ?z_list ?z_set ?z_sorted ?z_min ?g_MOST_LETTERS ?g_LETTERS ?g_MOST ?g_MOST_RANK
    (case aC => k_is)
    (case a0 => k_is)
    (case l0 => k_is)
    (case c0 => k_is)
    (case k0 => k_is)
    (case a1 => k_is)
    (case l1 => k_is)
    (case c1 => k_is)
    (case k1 => k_is)
    (case a2 => k_is)
    (case l2 => k_is)
    (case c2 => k_is)
    (case k2 => k_is)
    (case a3 => k_is)
    (case l3 => k_is)
    (case c3 => k_is)
    (case k3 => k_is)
    (case a4 => k_is)
    (case l4 => k_is)
    (case c4 => k_is)
    (case k4 => k_is)
    (case a5 => k_is)
    (case l5 => k_is)
    (case c5 => k_is)
    (case k5 => k_is)
    (case a6 => k_is)
    (case l6 => k_is)
    (case c6 => k_is)
    (case k6 => k_is)
    (case a7 => k_is)
    (case l7 => k_is)
    (case c7 => k_is)
    (case k7 => k_is)
    (case a8 => k_is)
    (case l8 => k_is)
    (case c8 => k_is)
    (case k8 => k_is)
    (case a9 => k_is)
    (case l9 => k_is)
    (case c9 => k_is)
    (case k9 => k_is)
    (case a10 => k_is)
    (case l10 => k_is)
    (case c10 => k_is)
    (case k10 => k_is)
    (case a11 => k_is)
    (case l11 => k_is)
    (case c11 => k_is)
    (case k11 => k_is)
    (case a12 => k_is)
    (case l12 => k_is)
    (case c12 => k_is)
    (case k12 => k_is)
    (case a13 => k_is)
    (case l13 => k_is)
    (case c13 => k_is)
    (case k13 => k_is)
    (case a14 => k_is)
    (case l14 => k_is)
    (case c14 => k_is)
    (case k14 => k_is)
    (case a15 => k_is)
    (case l15 => k_is)
    (case c15 => k_is)
    (case k15 => k_is)
    (case a16 => k_is)
    (case l16 => k_is)
    (case c16 => k_is)
    (case k16 => k_is)
    (case a17 => k_is)
    (case i17 => k_is)
    (case l17 => k_is)
    (case c17 => k_is)
    (case k17 => k_is)
    (case a18 => k_is)
    (case i18 => k_is)
    (case l18 => k_is)
    (case c18 => k_is)
    (case k18 => k_is)
    (case a19 => k_is)
    (case i19 => k_is)
    (case l19 => k_is)
    (case c19 => k_is)
    (case k19 => k_is)
    (case d19 => k_is)
    (case a20 => k_is)
    (case i20 => k_is)
    (case l20 => k_is)
    (case c20 => k_is)
    (case k20 => k_is)
    (case a21 => k_is)
    (case i21 => k_is)
    (case l21 => k_is)
    (case c21 => k_is)
    (case k21 => k_is)
    (case a22 => k_is)
    (case i22 => k_is)
    (case l22 => k_is)
    (case c22 => k_is)
    (case k22 => k_is)
    (case a23 => k_is)
    (case i23 => k_is)
    (case l23 => k_is)
    (case c23 => k_is)
    (case k23 => k_is)
    (case a24 => k_is)
    (case i24 => k_is)
    (case l24 => k_is)
    (case c24 => k_is)
    (case k24 => k_is)
    (case a25 => k_is)
    (case i25 => k_is)
    (case l25 => k_is)
    (case c25 => k_is)
    (case k25 => k_is)
    (case d25 => k_is)
    (case a26 => k_is)
    (case i26 => k_is)
    (case l26 => k_is)
    (case c26 => k_is)
    (case k26 => k_is)
    (case a27 => k_is)
    (case l27 => k_is)
    (case c27 => k_is)
    (case k27 => k_is)
    (case a28 => k_is)
    (case l28 => k_is)
    (case c28 => k_is)
    (case k28 => k_is)
    (case a29 => k_is)
    (case l29 => k_is)
    (case c29 => k_is)
    (case k29 => k_is)
    (case a30 => k_is)
    (case l30 => k_is)
    (case c30 => k_is)
    (case k30 => k_is)
    (case a31 => k_is)
    (case l31 => k_is)
    (case c31 => k_is)
    (case k31 => k_is)
    (case a32 => k_is)
    (case l32 => k_is)
    (case c32 => k_is)
    (case k32 => k_is)
    (case a33 => k_is)
    (case l33 => k_is)
    (case c33 => k_is)
    (case k33 => k_is)
    (case a34 => k_is)
    (case l34 => k_is)
    (case c34 => k_is)
    (case k34 => k_is)
    (case a35 => k_is)
    (case l35 => k_is)
    (case c35 => k_is)
    (case k35 => k_is)
    (case pg => k_is)
    (case hd => k_is)
    (case po => k_is)
    (case sa => k_is)
    (case mk => k_is)
    (case kc => k_is)
    (case nE => k_is)
    (case nN => k_is)
    (case z_len => k_is)
    (case z_abs => k_is)
    (case z_range => k_is)
    (case z_isinstance => k_is)
    (case z_int => k_is)
    (case z_bool => k_is)
    (case z_str => k_is)
    (case z_all => k_is)
    (case z_tuple => k_is)
    (case z_list => k_is)
    (case z_set => k_is)
    (case z_sorted => k_is)
    (case z_min => k_is)
    (case g_MOST_LETTERS => k_is)
    (case g_LETTERS => k_is)
    (case g_MOST => k_is)
    (case g_MOST_RANK => k_is)
