import PyProof.Rows.All
import Wide.All
import OpenK.AllK
import Wide.FinOn
import HandS.ForMost
import HandS.Codes
import HandS.Deep
import HandS.Defaults
import HandS.TupSets
import HandS.TupLe
import HandS.IsInst
import HandS.TupAny
import HandS.Strs
import HandS.DictTup
import HandS.Conv
import PyProof.DictMoreH
import HandS.StrMore
import HandS.Walk
import PySem.Challenge.RW_kindnames_k04_takers_and_strikes
set_option Elab.async false
set_option linter.all false
set_option maxRecDepth 100000
/-! Own base: data of tuples, what keeps them, equal data, dicts by text keys. -/
namespace KN
open PySem L2

/-- every tuple stays -/
def TK (H H' : Hp) : Prop := ∀ b xs, H b = some (.tup xs) → H' b = some (.tup xs)
theorem TK.refl (H : Hp) : TK H H := fun _ _ h => h
theorem TK.trans {H H1 H2 : Hp} (a : TK H H1) (b : TK H1 H2) : TK H H2 := fun c xs h => b c xs (a c xs h)
theorem TK.of {H H' : Hp} (s : Same H H') : TK H H' := fun b xs h => s b _ h
theorem TK.new {H : Hp} {p : Addr} {o : HO} (h : H p = none) : TK H (upd H p o) := fun b xs e => by
  rw [upd_ne (ne_of_none e h)]; exact e
theorem TK.put {H : Hp} {p : Addr} {o u : HO} (h : H p = some u) (nt : ∀ xs, u ≠ .tup xs) : TK H (upd H p o) := fun b xs e => by
  rw [upd_ne (fun z => by subst z; rw [h] at e; exact nt xs (Option.some.inj e))]; exact e
theorem Same.new {H : Hp} {p : Addr} {o : HO} (h : H p = none) : Same H (upd H p o) := fun b u e => by
  rw [upd_ne (ne_of_none e h)]; exact e

mutual
inductive Tp (H : Hp) : V → PyData → Prop
  | non : Tp H .non .none
  | bl (b : Bool) : Tp H (.bl b) (.bool b)
  | int (i : Int) : Tp H (.int i) (.int i)
  | str (x : Str) : Tp H (.str x) (.str x)
  | tup {a : Addr} {xs : List V} {ds : List PyData} : H a = some (.tup xs) → TpAll H xs ds → Tp H (.ref a) (.tuple ds)
inductive TpAll (H : Hp) : List V → List PyData → Prop
  | nil : TpAll H [] []
  | cons {v : V} {vs : List V} {d : PyData} {ds : List PyData} : Tp H v d → TpAll H vs ds → TpAll H (v :: vs) (d :: ds)
end

mutual
theorem Tp.mono {H H' : Hp} (k : TK H H') : ∀ (d : PyData) (v : V), Tp H v d → Tp H' v d
  | .none, _, h => by cases h; exact .non
  | .bool b, _, h => by cases h; exact .bl b
  | .int i, _, h => by cases h; exact .int i
  | .str x, _, h => by cases h; exact .str x
  | .tuple ds, _, h => by
    cases h with
    | tup e r => exact .tup (k _ _ e) (TpAll.mono k ds _ r)
  | .list ds, _, h => by cases h
  | .dict _, _, h => by cases h
theorem TpAll.mono {H H' : Hp} (k : TK H H') : ∀ (ds : List PyData) (vs : List V), TpAll H vs ds → TpAll H' vs ds
  | [], _, h => by cases h; exact .nil
  | d :: ds, _, h => by
    cases h with
    | cons a r => exact .cons (Tp.mono k d _ a) (TpAll.mono k ds _ r)
end
theorem Tp.to {H H' : Hp} {d : PyData} {v : V} (h : Tp H v d) (k : TK H H') : Tp H' v d := Tp.mono k d v h
theorem TpAll.to {H H' : Hp} {ds : List PyData} {vs : List V} (h : TpAll H vs ds) (k : TK H H') : TpAll H' vs ds := TpAll.mono k ds vs h

mutual
theorem Tp.dp {K : PySem.W.Frag} {H : Hp} : ∀ (d : PyData) (v : V), Tp H v d → Dp K H v d
  | .none, _, h => by cases h; exact .non
  | .bool b, _, h => by cases h; exact .bl b
  | .int i, _, h => by cases h; exact .int i
  | .str x, _, h => by cases h; exact .str x
  | .tuple ds, _, h => by
    cases h with
    | tup e r => exact .tup (SqT.of e) (TpAll.dp ds _ r)
  | .list ds, _, h => by cases h
  | .dict _, _, h => by cases h
theorem TpAll.dp {K : PySem.W.Frag} {H : Hp} : ∀ (ds : List PyData) (vs : List V), TpAll H vs ds → DpAll K H vs ds
  | [], _, h => by cases h; exact .nil
  | d :: ds, _, h => by
    cases h with
    | cons a r => exact .cons (Tp.dp d _ a) (TpAll.dp ds _ r)
end
theorem Tp.d {K : PySem.W.Frag} {H : Hp} {d : PyData} {v : V} (h : Tp H v d) : Dp K H v d := Tp.dp d v h

theorem TpAll.len {H : Hp} : ∀ {ds : List PyData} {vs : List V}, TpAll H vs ds → vs.length = ds.length
  | [], _, h => by cases h; rfl
  | d :: ds, _, h => by
    cases h with
    | cons a r => rw [List.length_cons, List.length_cons, TpAll.len r]
theorem TpAll.get {H : Hp} : ∀ {ds : List PyData} {vs : List V} {i : Nat} {d : PyData}, TpAll H vs ds → ds[i]? = some d → ∃ v, vs[i]? = some v ∧ Tp H v d
  | [], _, i, d, h, e => by simp at e
  | d0 :: ds, _, i, d, h, e => by
    cases h with
    | cons a r =>
      cases i with
      | zero => rw [List.getElem?_cons_zero] at e; cases e; exact ⟨_, rfl, a⟩
      | succ i =>
        rw [List.getElem?_cons_succ] at e
        obtain ⟨v, h1, h2⟩ := TpAll.get r e
        exact ⟨v, by rw [List.getElem?_cons_succ]; exact h1, h2⟩
theorem TpAll.getv {H : Hp} : ∀ {ds : List PyData} {vs : List V} {i : Nat} {v : V}, TpAll H vs ds → vs[i]? = some v → ∃ d, ds[i]? = some d ∧ Tp H v d
  | [], _, i, v, h, e => by cases h; simp at e
  | d0 :: ds, _, i, v, h, e => by
    cases h with
    | cons a r =>
      cases i with
      | zero => rw [List.getElem?_cons_zero] at e; cases e; exact ⟨_, rfl, a⟩
      | succ i =>
        rw [List.getElem?_cons_succ] at e
        obtain ⟨d, h1, h2⟩ := TpAll.getv r e
        exact ⟨d, by rw [List.getElem?_cons_succ]; exact h1, h2⟩
theorem TpAll.app {H : Hp} : ∀ {ds : List PyData} {vs : List V} {es : List PyData} {ws : List V}, TpAll H vs ds → TpAll H ws es → TpAll H (vs ++ ws) (ds ++ es)
  | [], _, _, _, h, k => by cases h; exact k
  | d :: ds, _, _, _, h, k => by
    cases h with
    | cons a r => exact .cons a (TpAll.app r k)
theorem TpAll.snoc {H : Hp} {ds : List PyData} {vs : List V} {d : PyData} {v : V} (h : TpAll H vs ds) (k : Tp H v d) : TpAll H (vs ++ [v]) (ds ++ [d]) := h.app (.cons k .nil)
theorem TpAll.drop {H : Hp} : ∀ (n : Nat) {ds : List PyData} {vs : List V}, TpAll H vs ds → TpAll H (vs.drop n) (ds.drop n)
  | 0, _, _, h => h
  | n + 1, [], _, h => by cases h; exact .nil
  | n + 1, d :: ds, _, h => by
    cases h with
    | cons a r => exact TpAll.drop n r
theorem TpAll.take {H : Hp} : ∀ (n : Nat) {ds : List PyData} {vs : List V}, TpAll H vs ds → TpAll H (vs.take n) (ds.take n)
  | 0, _, _, h => .nil
  | n + 1, [], _, h => by cases h; exact .nil
  | n + 1, d :: ds, _, h => by
    cases h with
    | cons a r => exact .cons a (TpAll.take n r)
theorem TpAll.erase {H : Hp} : ∀ (n : Nat) {ds : List PyData} {vs : List V}, TpAll H vs ds → TpAll H (vs.eraseIdx n) (ds.eraseIdx n)
  | _, [], _, h => by cases h; exact .nil
  | 0, d :: ds, _, h => by
    cases h with
    | cons a r => exact r
  | n + 1, d :: ds, _, h => by
    cases h with
    | cons a r => exact .cons a (TpAll.erase n r)
theorem TpAll.strs {H : Hp} : ∀ (ss : List Str), TpAll H (ss.map V.str) (ss.map PyData.str)
  | [] => .nil
  | s :: ss => .cons (.str s) (TpAll.strs ss)
theorem TpAll.ints {H : Hp} : ∀ (ss : List Int), TpAll H (ss.map V.int) (ss.map PyData.int)
  | [] => .nil
  | s :: ss => .cons (.int s) (TpAll.ints ss)
theorem TpAll.of_strs {H : Hp} : ∀ {ss : List Str} {vs : List V}, TpAll H vs (ss.map PyData.str) → vs = ss.map V.str
  | [], _, h => by cases h; rfl
  | s :: ss, _, h => by
    cases h with
    | cons a r => cases a; rw [TpAll.of_strs r]; rfl
theorem Tp.inv {H : Hp} {v : V} {ds : List PyData} (h : Tp H v (.tuple ds)) : ∃ a xs, v = .ref a ∧ H a = some (.tup xs) ∧ TpAll H xs ds := by
  cases h with
  | tup e r => exact ⟨_, _, rfl, e, r⟩

/-- a list of tuple data stands at a -/
def Ls (H : Hp) (a : Addr) (ds : List PyData) : Prop := ∃ xs, H a = some (.lst xs) ∧ TpAll H xs ds
theorem Ls.to {H H' : Hp} {a : Addr} {ds : List PyData} (h : Ls H a ds) (s : Same H H') : Ls H' a ds :=
  let ⟨xs, e, r⟩ := h
  ⟨xs, s _ _ e, r.to (TK.of s)⟩
theorem Ls.dp {K : PySem.W.Frag} {H : Hp} {a : Addr} {ds : List PyData} (h : Ls H a ds) : Dp K H (.ref a) (.list ds) :=
  let ⟨_, e, r⟩ := h
  .lst (SqL.of e) (TpAll.dp _ _ r)

/-! ### equal data -/
mutual
def okD : PyData → Bool
  | .none | .int _ => true
  | .str x => PySem.PyData.strOk x
  | .tuple ds | .list ds => okDs ds
  | .bool _ | .dict _ => false
def okDs : List PyData → Bool
  | [] => true
  | d :: ds => okD d && okDs ds
end
mutual
theorem okD_lay : ∀ d : PyData, okD d = true → d.canLay0 = true
  | .none, _ => rfl
  | .int _, _ => rfl
  | .str x, h => by simpa [okD, PyData.canLay0] using h
  | .tuple ds, h => by
    have := okDs_lay ds (by simpa [okD] using h)
    simpa [PyData.canLay0] using this
  | .list ds, h => by
    have := okDs_lay ds (by simpa [okD] using h)
    simpa [PyData.canLay0] using this
  | .bool _, h => by simp [okD] at h
  | .dict _, h => by simp [okD] at h
theorem okDs_lay : ∀ ds : List PyData, okDs ds = true → PyData.canLayAll0 ds = true
  | [], _ => by simp [PyData.canLayAll0]
  | d :: ds, h => by
    have h' : okD d = true ∧ okDs ds = true := by simpa [okDs] using h
    simp [PyData.canLayAll0, okD_lay d h'.1, okDs_lay ds h'.2]
end
mutual
theorem eqv_imp : ∀ d e : PyData, okD d = true → okD e = true → PyData.eqv d e = true → d = e
  | .none, e, h, k, q => by cases e <;> simp_all [PyData.eqv, okD]
  | .int i, e, h, k, q => by cases e <;> simp_all [PyData.eqv, okD]
  | .str x, e, h, k, q => by cases e <;> simp_all [PyData.eqv, okD]
  | .tuple ds, e, h, k, q => by
    cases e with
    | tuple es =>
      have h' : okDs ds = true := by simpa [okD] using h
      have k' : okDs es = true := by simpa [okD] using k
      have q' : PyData.eqvAll ds es = true := by simpa [PyData.eqv] using q
      rw [eqvs_imp ds es h' k' q']
    | _ => simp_all [PyData.eqv, okD]
  | .list ds, e, h, k, q => by
    cases e with
    | list es =>
      have h' : okDs ds = true := by simpa [okD] using h
      have k' : okDs es = true := by simpa [okD] using k
      have q' : PyData.eqvAll ds es = true := by simpa [PyData.eqv] using q
      rw [eqvs_imp ds es h' k' q']
    | _ => simp_all [PyData.eqv, okD]
  | .bool _, _, h, _, _ => by simp [okD] at h
  | .dict _, _, h, _, _ => by simp [okD] at h
theorem eqvs_imp : ∀ ds es : List PyData, okDs ds = true → okDs es = true → PyData.eqvAll ds es = true → ds = es
  | [], [], _, _, _ => rfl
  | [], _ :: _, _, _, q => by simp [PyData.eqvAll] at q
  | _ :: _, [], _, _, q => by simp [PyData.eqvAll] at q
  | d :: ds, e :: es, h, k, q => by
    have h' : okD d = true ∧ okDs ds = true := by simpa [okDs] using h
    have k' : okD e = true ∧ okDs es = true := by simpa [okDs] using k
    have q' : PyData.eqv d e = true ∧ PyData.eqvAll ds es = true := by simpa [PyData.eqvAll] using q
    rw [eqv_imp d e h'.1 k'.1 q'.1, eqvs_imp ds es h'.2 k'.2 q'.2]
end
theorem eqv_iff {d e : PyData} (h : okD d = true) (k : okD e = true) : PyData.eqv d e = true ↔ d = e :=
  ⟨eqv_imp d e h k, fun q => by subst q; exact SeqAt.eqv_refl _ (okD_lay _ h)⟩
theorem okDs_all {ds : List PyData} : okDs ds = true ↔ ∀ d ∈ ds, okD d = true := by
  induction ds with
  | nil => simp [okDs]
  | cons d ds ih => simp [okDs, ih]
theorem eqv_dec {d e : PyData} {p : Prop} [Decidable p] (h : okD d = true) (k : okD e = true) (hp : d = e ↔ p) : PyData.eqv d e = decide p := by
  by_cases q : p
  · rw [decide_eq_true q]; exact (eqv_iff h k).mpr (hp.mpr q)
  · rw [decide_eq_false q]
    cases z : PyData.eqv d e with
    | false => rfl
    | true => exact absurd (hp.mp ((eqv_iff h k).mp z)) q
theorem any_eqv {d : PyData} {ds : List PyData} (h : okD d = true) (k : okDs ds = true) : (ds.any fun z => PyData.eqv z d) = true ↔ d ∈ ds := by
  rw [List.any_eq_true]
  constructor
  · rintro ⟨z, hz, e⟩
    rw [(eqv_iff (okDs_all.mp k z hz) h).mp e] at hz
    exact hz
  · intro hz
    exact ⟨d, hz, (eqv_iff h h).mpr rfl⟩
/-- data is not deep -/
theorem shaped_of {d : PyData} (h : okD d = true) (k : d.depth ≤ 64) : SeqAt.shaped d = true := by
  unfold SeqAt.shaped
  rw [okD_lay d h, decide_eq_true k]; rfl

/-! ### a dict's pairs by written text keys -/
theorem mu_of {o : HO} {H : Hp} {a : Addr} (h : H a = some o) (k : Mut (some o)) : Mut (H a) := by rw [h]; exact k
theorem toNat_lt' {a b : Int} (h : a < b) (h0 : 0 ≤ a) : a.toNat < b.toNat := by omega
/-- a moment; its data; elder -/
abbrev Mo := Int × Int
def mD (m : Mo) : PyData := .tuple [.int m.1, .int m.2]
def mLt (a b : Mo) : Prop := a.1 < b.1 ∨ a.1 = b.1 ∧ a.2 < b.2
instance (a b : Mo) : Decidable (mLt a b) := by unfold mLt; infer_instance
theorem mLt.trans {a b c : Mo} (h : mLt a b) (k : mLt b c) : mLt a c := by unfold mLt at *; omega
theorem mLt.irr {a : Mo} : ¬ mLt a a := by unfold mLt; omega
def MoOk (m : Mo) : Prop := 0 ≤ m.1 ∧ m.1 ≤ 1000000 ∧ 1 ≤ m.2 ∧ m.2 ≤ 1000000
theorem mD_inj {a b : Mo} (h : mD a = mD b) : a = b := by
  unfold mD at h
  injection h with h
  injection h with h1 h2
  injection h2 with h2 _
  injection h1 with h1
  injection h2 with h2
  exact Prod.ext h1 h2
theorem okD_m (m : Mo) : okD (mD m) = true := rfl
def mV (m : Mo) : List V := [.int m.1, .int m.2]
theorem Tp.mo {H : Hp} {a : Addr} {m : Mo} (h : H a = some (.tup [.int m.1, .int m.2])) : Tp H (.ref a) (mD m) := .tup h (.cons (.int _) (.cons (.int _) .nil))
theorem Tp.mo_inv {H : Hp} {v : V} {m : Mo} (h : Tp H v (mD m)) : ∃ a, v = .ref a ∧ H a = some (.tup [.int m.1, .int m.2]) := by
  obtain ⟨a, xs, rfl, e, r⟩ := Tp.inv h
  cases r with
  | cons h1 r =>
    cases r with
    | cons h2 r =>
      cases r
      cases h1
      cases h2
      exact ⟨a, rfl, e⟩
/-- a moment as a key -/
def mK (m : Mo) : List Key := [.inl m.1, .inl m.2]
theorem mK_v (m : Mo) : (mK m).map kV = [.int m.1, .int m.2] := rfl
theorem mK_inj {a b : Mo} (h : mK a = mK b) : a = b := by
  unfold mK at h
  injection h with h1 h2
  injection h2 with h2 _
  exact Prod.ext (Sum.inl.inj h1) (Sum.inl.inj h2)
theorem DGet.m {H : Hp} {a b : Addr} {kvs : List (List Key × V)} {m : Mo} (e : H a = some (.dT kvs)) (eb : H b = some (.tup [.int m.1, .int m.2])) : DGet H a (.ref b) (valV kvs (mK m)) := DGet.t e eb
end KN
set_option Elab.async false
set_option linter.all false
set_option maxRecDepth 100000
set_option maxHeartbeats 4000000
/-! Own rules beside the layer's: a display with one tuple key, calls of methods with keywords, an instance made without arguments, del d[k] by a tuple, sorted(d) of moments. -/
namespace KN
open PySem PySem.Spec L2
def tDispT1 (tk tv : TE) : TE := fun σ H Q => ∀ p, H p = none → tk σ (upd H p (.dT [])) fun x H1 => tv σ H1 fun y H2 => ∃ (k : List Key) (b : Addr), x = .ref b ∧ H2 p = some (.dT []) ∧ H2 b = some (.tup (k.map kV)) ∧ Q (.ref p) (upd H2 p (.dT [(k, y)]))
theorem pe_dispT1 {X : Cx} {pos : Pos} {k v : Expr} {tk tv : TE} (hu : X.A.units + 1 < cLine) (hk : PE X k tk) (hv : PE X v tv) : PE X (.Dict [some k] [v] pos) (tDispT1 tk tv) := by
  refine ⟨fun pins s σ H Q I q => ?_⟩
  have hn := I.hok.fresh (Nat.le_refl s.heap.objs.size)
  have I1 := I.laid (a := s.heap.objs.size) (o := .dT []) (h' := s.heap.push { cls := .type "dict", data := .dict #[] }) (t' := s.toks) (fun _ _ q => Heap.get?_push_of_some _ q) (Nat.le_refl _) (dt_empty s.heap I.big)
  refine wpAny_Dict_any rfl rfl (by simp) (by simp) ?_
  refine pairTrees_cons_walk (thn (hk.run pins _ σ _ _ I1 (q _ hn)) fun u s1 ⟨x, H1, I1, rx, q1⟩ => thn (hv.run pins s1 σ H1 _ I1 q1) fun w2 s2 ⟨y, H2, I2, ry, kk, b, ex, e, eb, q2⟩ => pairTrees_nil_walk ?_)
  subst ex
  cases (show u = Value.ref b from rx)
  obtain ⟨z, hd, xs, rel, dd⟩ := dt_of I2.hok e
  cases rel
  unfold storeAll
  rw [List.forIn_cons]
  refine wpAny_bind (wpAny_bind (wpAny_dictSet_heap (hsz := by simp) (show X.A.units < cLine by omega) (key_of I2.hok eb) dd fun h' dd' hs => wpAny_pure ?_))
  show wpAny _ _ (forIn [] PUnit.unit _) _ _ _
  rw [List.forIn_nil]
  refine wpAny_pure ?_
  obtain ⟨o, es, ep, hq, h2, h3, h4, _, h5⟩ := dd'
  refine ⟨.ref s.heap.objs.size, _, d_write (ob := .dT [(kk, y)]) I2 (by rw [e]; exact True.intro) hs ⟨o, hq⟩ ⟨?_, hd, _, (KT.put (kvs := []) (xs := []) Paired.nil kk eb ry).keeps fun c ys ec => ?_, o, es, ep, hq, h2, h3, h4, h5⟩, rfl, q2⟩
  · show 1 ≤ sizeLine; decide
  · rw [upd_ne (ne_of ec e (fun z => nomatch z))]
    exact ec

/-! ### calls -/
section
variable {X : Cx} {k j : Nat} {C : Addr} {x m : Str} {sp : Sp} {dvs : List V} {p pos apos : Pos} {e o : Expr} {es : List Expr} {kws : List Keyword} {ta : TE} {t tk : TA}
/-- C() -/
theorem pe_mk0 (c : C8.Mak X.prog X.w X.K X.mg X.base k x C sp dvs) (hr : Room j X.A) (hk : k + 1 ≤ j) (hg : Gl X x) (hdb : (x == ("__debug__" : Str)) = false := by decide) : PE X (.Call (.Name x p) [] [] pos) (tMake C sp dvs E0 tNil) := by
  obtain ⟨f, fd, ps, ds, M, F, hm, b, d⟩ := c.ex
  exact pe_make0 M F (hr.mono hk) hg hm b d pass0 hdb
/-- a method called with keywords: n values by place (the object among them), the keywords' names ks -/
structure MetK (P : Program) (w : World) (K : PySem.W.Frag) (mg : Str → Option Value) (base : Heap) (k : Nat) (C : Addr) (m : Str) (sp : Sp) (n : Nat) (ks : List Str) (gV : List V → List V → List V) : Prop where
  ex : ∃ (f : Addr) (fd : FuncData) (ps : List Str) (g : List Value → List Value → List Value), Cls K C ∧ Meth K C m f ∧ FnOk P w K mg base CX0 k f fd ps sp ∧ KBn K fd ps n ks g gV
def tMethK (C : Addr) (m : Str) (n l : Nat) (sp : Sp) (gV : List V → List V → List V) (E : XK) (to : TE) (t tk : TA) : TE := fun σ H Q => to σ H fun x H1 => ∃ a dx fs, x = .ref a ∧ H1 a = some (.ins C dx fs) ∧ fs.lookup m = none ∧
  t σ H1 fun vs H2 => tk σ H2 fun zs H3 => (x :: vs).length = n ∧ zs.length = l ∧ sp (gV (x :: vs) zs) H3 Q E
theorem pe_mtK {pl : Sem Bool} {n : Nat} {ks : List Str} {gV : List V → List V → List V} (c : MetK X.prog X.w X.K X.mg X.base k C m sp n ks gV) (hr : Room j X.A) (hk : k ≤ j) (he : PE X o ta) (ha : PA X (e :: es) t) (hkw : PK X kws tk)
    (hall : (backToKw pos (keywordEach kws X.env)).all (·.1.isSome) = true := by rfl) (hks : (backToKw pos (keywordEach kws X.env)).filterMap (·.1) = ks := by rfl)
    (hst : starEach (e :: es) X.env = (false, eval e X.env) :: starEach es X.env := by rfl)
    (hpl : ((backTo pos (starEach (e :: es) X.env)).any (·.1) || (backToKw pos (keywordEach kws X.env)).any (·.1.isNone)) = false := by rfl)
    (ht : eval (.Call (.Attribute o m apos) (e :: es) kws pos) X.env = (do
      let ov ← eval o X.env
      standAt apos.atName
      let (f, first) ← holding [ov] (getMethod ov m pl)
      callWith pos f first (backTo pos (starEach (e :: es) X.env)) (backToKw pos (keywordEach kws X.env))) := by rfl) :
    PE X (.Call (.Attribute o m apos) (e :: es) kws pos) (tMethK C m n ks.length sp gV E0 ta t tk) := by
  obtain ⟨f, fd, ps, g, cl, hm, F, hb⟩ := c.ex
  refine ⟨fun pins s σ H Q I h => ?_⟩
  refine PySem.W.methodCall_KW (pl := pl) (thn (he.run pins s σ H _ I h) fun u s1 ⟨x, H1, I1, rx, a, dx, fs, ex, ea, l, q⟩ => ?_) ht
  subst ex
  obtain rfl : u = Value.ref a := rx
  refine getmeth_ok I1 ea cl hm l ?_
  refine PySem.W.callWith_KW (first := [.ref a]) (h₀ := X.base) I.ok.mod.kin hm.kp hall (thn (ha.run pos pins s1 σ H1 _ I1 q) fun us s2 ⟨vs, H2, I2, r, q2⟩ => ?_) hpl hst
  refine thn (hkw.run pos pins s2 σ H2 _ I2 q2) fun ws s3 ⟨zs, H3, I3, rz, l1, l2, q3⟩ => ⟨I3.kIn, ?_⟩
  rw [hks]
  exact run_fnN (us := .ref a :: us) (vs := .ref a :: vs) F (hr.mono hk) hb pass0 I3 (.cons rfl r) rz l1 l2 q3
theorem pe_mtK0 {pl : Sem Bool} {n : Nat} {ks : List Str} {gV : List V → List V → List V} (c : MetK X.prog X.w X.K X.mg X.base k C m sp n ks gV) (hr : Room j X.A) (hk : k ≤ j) (he : PE X o ta) (hkw : PK X kws tk)
    (hall : (backToKw pos (keywordEach kws X.env)).all (·.1.isSome) = true := by rfl) (hks : (backToKw pos (keywordEach kws X.env)).filterMap (·.1) = ks := by rfl)
    (hpl : ((backTo pos (starEach [] X.env)).any (·.1) || (backToKw pos (keywordEach kws X.env)).any (·.1.isNone)) = false := by rfl)
    (ht : eval (.Call (.Attribute o m apos) [] kws pos) X.env = (do
      let ov ← eval o X.env
      standAt apos.atName
      let (f, first) ← holding [ov] (getMethod ov m pl)
      callWith pos f first (backTo pos (starEach [] X.env)) (backToKw pos (keywordEach kws X.env))) := by rfl) :
    PE X (.Call (.Attribute o m apos) [] kws pos) (tMethK C m n ks.length sp gV E0 ta tNil tk) := by
  obtain ⟨f, fd, ps, g, cl, hm, F, hb⟩ := c.ex
  refine ⟨fun pins s σ H Q I h => ?_⟩
  refine PySem.W.methodCall_KW (pl := pl) (thn (he.run pins s σ H _ I h) fun u s1 ⟨x, H1, I1, rx, a, dx, fs, ex, ea, l, q⟩ => ?_) ht
  subst ex
  obtain rfl : u = Value.ref a := rx
  refine getmeth_ok I1 ea cl hm l ?_
  refine PySem.W.callWith_KW0 (first := [.ref a]) (h₀ := X.base) I.ok.mod.kin hm.kp hall (thn (hkw.run pos pins s1 σ H1 _ I1 q) fun ws s3 ⟨zs, H3, I3, rz, l1, l2, q3⟩ => ⟨I3.kIn, ?_⟩) hpl
  rw [hks]
  exact run_fnN (us := [.ref a]) (vs := [.ref a]) F (hr.mono hk) hb pass0 I3 (.cons rfl .nil) rz l1 l2 q3
end
end KN
set_option Elab.async false
set_option linter.all false
set_option maxRecDepth 100000
set_option maxHeartbeats 4000000
namespace KN
open PySem PySem.Spec PyProof.Rows L2
/-! ### del d[k] by a tuple -/
def sDDelT (td ty : TE) : TS := fun D σ H => td σ H fun x H1 => ty σ H1 fun y H2 => ∃ (a b : Addr) (kvs : List (List Key × V)) (k : List Key), x = .ref a ∧ H2 a = some (.dT kvs) ∧ y = .ref b ∧ H2 b = some (.tup (k.map kV)) ∧ (valV kvs k).isSome = true ∧ D.nx σ (upd H2 a (.dT (dropK kvs k)))
theorem ps_ddelT {X : Cx} {o i : Expr} {td ty : TE} {pos tpos : Pos} (hu : X.A.units + 1 < cLine) (ho : PE X o td) (hi : PE X i ty) : PS X (.Delete [.Subscript o i tpos] pos) (sDDelT td ty) := by
  refine ⟨fun pins s σ H D I h => ?_⟩
  refine wpAny_Delete (wpAny_deleteEach_cons (wpAny_delete_Subscript (thn (ho.run pins s σ H _ I h) fun u s1 ⟨x, H1, I1, rx, q1⟩ => thn (hi.run pins s1 σ H1 _ I1 q1) fun iv s2 ⟨y, H2, I2, ry, a, b, kvs, k, ex, e, ey, eb, l, q2⟩ => ?_)))
  subst ex ey
  obtain rfl : u = Value.ref a := rx
  obtain rfl : iv = Value.ref b := ry
  obtain ⟨z, hd, xs', rel, dd⟩ := dt_of I2.hok e
  have hz : xs'.length ≤ sizeLine := by rw [← Paired.length rel]; exact z
  have r := rel.val k
  cases hp : atKey xs' k with
  | none =>
    rw [hp] at r
    cases ev : valV kvs k with
    | none => rw [ev] at l; cases l
    | some v0 => rw [ev] at r; exact (show False from r).elim
  | some p =>
    refine wpAny_delItem_heap (hsz := hz) (tupleKind_room_in1 hu) (key_of I2.hok eb) hd dd hp fun h' dd' hs => ?_
    obtain ⟨o, es, ep, hq, h2, h3, h4, _, h5⟩ := dd'
    refine wpAny_deleteEach_nil ⟨σ, _, d_write (ob := .dT (dropK kvs k)) I2 (by rw [e]; exact True.intro) hs ⟨o, hq⟩ ⟨Nat.le_trans (dropK_le kvs k) z, hd, _, (DX.KT_drop k rel).keeps fun c ys ec => ?_, o, es, ep, hq, h2, h3, h4, h5⟩, q2⟩
    rw [upd_ne (ne_of ec e (fun z => nomatch z))]
    exact ec
/-! ### sorted(d) of a dict by moments -/
def adr : Value → Addr
  | .ref a => a
  | _ => 0
def moAt (H : Hp) (a : Addr) : Mo := match H a with
  | some (.tup [.int i, .int j]) => (i, j)
  | _ => (0, 0)
theorem moAt_of {H : Hp} {a : Addr} {m : Mo} (h : H a = some (.tup [.int m.1, .int m.2])) : moAt H a = m := by
  unfold moAt; rw [h]
def mCode (m : Mo) : Int := TS.code 10000000000000 [m.1, m.2]
theorem mCode_le {a b : Mo} (ha : MoOk a) (hb : MoOk b) : mCode a ≤ mCode b ↔ ¬ mLt b a := by
  unfold mCode MoOk mLt at *
  simp only [TS.code, List.length_cons, List.length_nil]
  have e : (10000000000000 : Int) ^ (0 + 1) = 10000000000000 := by decide
  rw [e]
  omega
theorem kt_keys {H : Hp} : ∀ {kvs : List (List Key × V)} {xs : List (List Key × Addr × Value)} {ms : List Mo}, KT H kvs xs → kvs.map (·.1) = ms.map mK →
    (xs.map fun x => moAt H x.2.1) = ms ∧ ∀ x ∈ xs, ∃ m ∈ ms, H x.2.1 = some (.tup [.int m.1, .int m.2])
  | _, _, ms, Paired.nil, e => by
    cases ms with
    | nil => exact ⟨rfl, fun x hx => by cases hx⟩
    | cons m ms => cases e
  | _, _, ms, Paired.cons (a := p) (b := q) h t, e => by
    cases ms with
    | nil => cases e
    | cons m ms =>
      rw [List.map_cons, List.map_cons] at e
      injection e with e1 e2
      obtain ⟨i1, i2⟩ := kt_keys t e2
      have hm : H q.2.1 = some (.tup [.int m.1, .int m.2]) := by rw [h.2.1, e1]; rfl
      refine ⟨by rw [List.map_cons, i1, moAt_of hm], fun x hx => ?_⟩
      rcases List.mem_cons.mp hx with rfl | hx
      · exact ⟨m, List.mem_cons_self, hm⟩
      · obtain ⟨m', h1, h2⟩ := i2 x hx
        exact ⟨m', List.mem_cons_of_mem _ h1, h2⟩
def rSortedDM : List V → Hp → VK → Prop := fun xs H Q => ∃ (a : Addr) (kvs : List (List Key × V)) (ms : List Mo), xs = [.ref a] ∧ Rd H a (.dT kvs) ∧ kvs.map (·.1) = ms.map mK ∧ ms.length < 64 ∧ (∀ m ∈ ms, MoOk m) ∧
  ∀ (ys : List Addr) (ns : List Mo) (p : Addr), ns.Perm ms → ns.Pairwise (fun x y => ¬ mLt y x) → ys.length = ns.length → (∀ (i : Nat) (b : Addr), ys[i]? = some b → ∃ m, ns[i]? = some m ∧ H b = some (.tup [.int m.1, .int m.2])) → H p = none → Q (.ref p) (upd H p (.lst (ys.map V.ref)))
theorem cr_sortedDM {X : Cx} (hcalm : X.calm = true) : CallR X (.builtin "sorted") rSortedDM := by
  intro pins s σ H xs us Q I r q
  obtain ⟨a, kvs, ms, rfl, hd, hks, h64, hok, q⟩ := q
  obtain ⟨u, eu, rx⟩ := vals1 r
  subst eu
  cases rx
  obtain ⟨z, hs, ks, pr, o, es, ep, ho, hx, hdt, he, hn⟩ := (show ObjOk X.prog X.w H s.heap a (.dT kvs) from hd.ok I.hok)
  have l1 : es.size = ks.length := size_of_entries he
  have l2 : kvs.length = ks.length := Paired.length pr
  have l3 : kvs.length = ms.length := by
    have e := congrArg List.length hks
    rw [List.length_map, List.length_map] at e
    exact e
  obtain ⟨km, kh⟩ := kt_keys pr hks
  refine Calls.call_function_entry PyProof.Rows.kind_sorted PyProof.Rows.plain_sorted PyProof.Rows.entry_sorted (PyProof.Rows.args_sorted1 _) ?_
  unfold Builtin.«sorted»
  refine wpAny_bind (m := checkCount "sorted" 1 1 _) (wpAny_pure ?_)
  refine wpAny_bind (PySem.W.kdu_collect (A := X.A.in1) (kdl_raw hs hx hdt) (I.ok.hd hcalm) ho (by omega) fun h' tk acc hk hacc => ?_)
  have ea : acc.toList = ks.map fun x => Value.ref x.2.1 := by
    have hl : acc.toList.length = ks.length := by rw [Array.length_toList, hacc.1]; exact l1
    apply List.ext_getElem?
    intro j
    rw [List.getElem?_map]
    cases hj : acc.toList[j]? with
    | none =>
      have h1 := List.getElem?_eq_none_iff.mp hj
      rw [List.getElem?_eq_none (by omega)]
      all_goals rfl
    | some v =>
      obtain ⟨en, hen, hv⟩ := hacc.2 j v (by rw [← Array.getElem?_toList]; exact hj)
      have qe := entry_at he j
      rw [hen] at qe
      cases hb : ks[j]? with
      | none => rw [hb] at qe; cases qe
      | some x =>
        rw [hb] at qe
        have : en = entryOfKey (tupleKind (mixKind X.prog X.w)) x := Option.some.inj qe
        rw [hv, this]; rfl
  have hal : acc.toList.length = ms.length := by rw [ea, List.length_map]; omega
  have I1 : Inv X pins σ H { s with heap := h', toks := tk } := I.kept hk
  refine wpAny_bind (wpAny_newList ?_ (by rw [hal, sizeLine_eq]; omega))
  have hoL : (h'.push (seqObj "list" acc.toList.toArray 0)).get? h'.objs.size = some (seqObj "list" acc.toList.toArray 0) := Heap.get?_push_size _ rfl
  have keepT : ∀ b o, h'.get? b = some o → o.cls = .type "tuple" → (h'.push (seqObj "list" acc.toList.toArray 0)).get? b = some o := fun b o e _ => Heap.get?_push_of_some _ e
  have rd : ∀ v ∈ acc.toList, ∃ m ∈ ms, TS.TupInts h' v [m.1, m.2] ∧ moAt H (adr v) = m ∧ H (adr v) = some (.tup [.int m.1, .int m.2]) ∧ v = .ref (adr v) := fun v hv => by
    rw [ea] at hv
    obtain ⟨x, hx, rfl⟩ := List.mem_map.mp hv
    obtain ⟨m, h1, h2⟩ := kh x hx
    exact ⟨m, h1, tupI_raw (ns := [m.1, m.2]) I1 (SqT.of h2), moAt_of h2, h2, rfl⟩
  have ok : TS.TupsOk h' 2 10000000000000 acc.toList := fun v hv => by
    obtain ⟨m, h1, h2, _⟩ := rd v hv
    have hm := hok m h1
    unfold MoOk at hm
    refine ⟨_, h2, rfl, fun k hk => ?_⟩
    rcases List.mem_cons.mp hk with rfl | hk
    · omega
    · rw [List.mem_singleton] at hk; subst hk; omega
  show wpAny _ _ _ _ _ { s with heap := h'.push (seqObj "list" acc.toList.toArray 0), toks := tk }
  refine wpAny_bind (wpAny_holding (wpAny_call_entry PyProof.Rows.slot_list_sort ⟨_, hoL, rfl⟩ PyProof.Rows.entry_list_sort
    (TS.sort_tups (s := { s with heap := h'.push (seqObj "list" acc.toList.toArray 0), toks := tk }) (d := 2) (B := 10000000000000) hoL (by rw [hal]; exact h64) (by decide) (ok.keeps keepT) (fun v => mCode (moAt H (adr v))) (fun v hv ns t => ?_) fun out a1 a2 => ⟨_, rfl, ?_⟩)
    (PyProof.Rows.args_list_sort _)))
  · obtain ⟨m, h1, h2, h3, _⟩ := rd v hv
    have e : ns = [m.1, m.2] := t.ints.symm.trans (h2.keeps keepT).ints
    show mCode (moAt H (adr v)) = TS.code 10000000000000 ns
    rw [h3, e]; rfl
  · obtain ⟨e', he'⟩ := PyProof.Rows.sortedHeap_at (vs := acc.toList) (out := out) hoL
    have ro : ∀ v ∈ out.toList, ∃ m ∈ ms, moAt H (adr v) = m ∧ H (adr v) = some (.tup [.int m.1, .int m.2]) ∧ v = .ref (adr v) := fun v hv => by
      obtain ⟨m, h1, _, h3⟩ := rd v (a1.mem_iff.mp hv)
      exact ⟨m, h1, h3⟩
    have pm : (out.toList.map fun v => moAt H (adr v)).Perm ms := by
      have := a1.map fun v => moAt H (adr v)
      rw [ea, List.map_map] at this
      rw [← km]; exact this
    have vv : Vals ((out.toList.map adr).map V.ref) out.toList := by
      have g : ∀ l : List Value, (∀ v ∈ l, v = .ref (adr v)) → Vals ((l.map adr).map V.ref) l := by
        intro l
        induction l with
        | nil => intro _; exact .nil
        | cons v l ih =>
          intro h
          exact .cons (h v List.mem_cons_self) (ih fun x hx => h x (List.mem_cons_of_mem _ hx))
      exact g _ fun v hv => by obtain ⟨_, _, _, _, h⟩ := ro v hv; exact h
    have hlen : ((out.toList.map adr).map V.ref).length ≤ sizeLine := by
      rw [List.length_map, List.length_map, a1.length_eq, hal, sizeLine_eq]; omega
    refine wpAny_pure ⟨_, rfl, .ref h'.objs.size, upd H h'.objs.size (.lst ((out.toList.map adr).map V.ref)), I1.laid (t' := tk) (fun b u e => ?_) (Nat.le_refl _)
      (show ObjOk X.prog X.w _ _ _ (.lst ((out.toList.map adr).map V.ref)) from ⟨hlen, out.toList, e', vv, by rw [Array.toArray_toList]; exact he'⟩), rfl, q _ (out.toList.map fun v => moAt H (adr v)) _ pm ?_ (by rw [List.length_map, List.length_map]) (fun i b hb => ?_) (I1.hok.fresh (Nat.le_refl _))⟩
    · have hb : b < h'.objs.size := Heap.lt_size e
      rw [PyProof.Rows.sortedHeap_old (Nat.ne_of_lt hb) (by rw [size_push']; exact Nat.lt_succ_of_lt hb)]
      exact Heap.get?_push_of_some _ e
    · rw [List.pairwise_map]
      refine List.Pairwise.imp_of_mem (fun {x y} hx hy h => ?_) a2
      obtain ⟨m1, h1, e1, _⟩ := ro x hx
      obtain ⟨m2, h2, e2, _⟩ := ro y hy
      rw [e1, e2] at h ⊢
      exact (mCode_le (hok _ h1) (hok _ h2)).mp h
    · rw [List.getElem?_map] at hb ⊢
      cases e : out.toList[i]? with
      | none => rw [e] at hb; cases hb
      | some v =>
        rw [e] at hb
        cases hb
        obtain ⟨m, _, e1, e2, _⟩ := ro v (List.mem_of_getElem? e)
        exact ⟨m, by show some (moAt H (adr v)) = some m; rw [e1], e2⟩
end KN
set_option Elab.async false
set_option linter.all false
set_option maxRecDepth 100000
set_option maxHeartbeats 4000000
namespace KN
open PySem PySem.Spec PyProof.Rows L2
/-! ### t > u of two moments -/
def rGtM (K : PySem.W.Frag) : R2 := fun x y H Q => ∃ (a b : Addr) (m u : Mo), x = .ref a ∧ y = .ref b ∧ SqT K H a [.int m.1, .int m.2] ∧ SqT K H b [.int u.1, .int u.2] ∧ Q (.bl (decide (mLt u m))) H
theorem gt2 (m u : Mo) : Ob.lexAt (fun j => decide (([m.1, m.2] : List Int).getD j 0 = ([u.1, u.2] : List Int).getD j 0)) (fun j => decide (([u.1, u.2] : List Int).getD j 0 < ([m.1, m.2] : List Int).getD j 0)) (decide (([m.1, m.2] : List Int).length > ([u.1, u.2] : List Int).length)) 0 (min ([m.1, m.2] : List Int).length ([u.1, u.2] : List Int).length) = decide (mLt u m) := by
  show Ob.lexAt _ _ _ 0 2 = _
  rw [Ob.lexAt_succ, Ob.lexAt_succ, Ob.lexAt_zero]
  simp only [List.getD_cons_zero, List.getD_cons_succ, List.length_cons, List.length_nil]
  unfold mLt
  by_cases h1 : m.1 = u.1
  · rw [decide_eq_true h1, if_pos rfl]
    by_cases h2 : m.2 = u.2
    · rw [decide_eq_true h2, if_pos rfl]
      rw [decide_eq_false (by omega : ¬ (0 + 1 + 1 > 0 + 1 + 1))]
      exact (decide_eq_false (by omega)).symm
    · rw [decide_eq_false h2, if_neg (by decide)]
      by_cases h3 : u.2 < m.2
      · rw [decide_eq_true h3]; exact (decide_eq_true (by omega)).symm
      · rw [decide_eq_false h3]; exact (decide_eq_false (by omega)).symm
  · rw [decide_eq_false h1, if_neg (by decide)]
    by_cases h3 : u.1 < m.1
    · rw [decide_eq_true h3]; exact (decide_eq_true (by omega)).symm
    · rw [decide_eq_false h3]; exact (decide_eq_false (by omega)).symm
theorem op_gtM {X : Cx} (hu : X.A.units < cLine) : OpR X (compareOp .Gt) (rGtM X.K) := by
  intro pins s σ H x y v u Q I rx ry h
  obtain ⟨a, b, m, um, rfl, rfl, ha', hb', q⟩ := h
  have ha : SqT X.K H a (([m.1, m.2] : List Int).map V.int) := ha'
  have hb : SqT X.K H b (([um.1, um.2] : List Int).map V.int) := hb'
  rw [← gt2] at q
  generalize ([m.1, m.2] : List Int) = ns at ha q
  generalize ([um.1, um.2] : List Int) = ms at hb q
  cases rx
  cases ry
  obtain ⟨its, r1, p1, _⟩ := I.tuple ha
  obtain ⟨its2, r2, p2, _⟩ := I.tuple hb
  have i1 : IntsAre its ns := Vals.ints r1
  have i2 : IntsAre its2 ms := Vals.ints r2
  have e1 : its.toArray.size = ns.length := by rw [List.size_toArray]; exact i1.length
  have e2 : its2.toArray.size = ms.length := by rw [List.size_toArray]; exact i2.length
  have at1 : ∀ j (h1 : j < its.toArray.size), ∃ t, its.toArray[j] = .int (ns.getD j 0) t := fun j h1 => PyProof.Rows.IntsAre.int_at i1 _ _ (by simp at h1; simp [h1])
  have at2 : ∀ j (h1 : j < its2.toArray.size), ∃ t, its2.toArray[j] = .int (ms.getD j 0) t := fun j h1 => PyProof.Rows.IntsAre.int_at i2 _ _ (by simp at h1; simp [h1])
  have R := Ob.RcOp.tuples_gt (A := X.A) (s := s) (e := fun j => decide (ns.getD j 0 = ms.getD j 0)) (r := fun j => decide (ms.getD j 0 < ns.getD j 0)) p1 p2 hu (fun j h1 h2 => by
    obtain ⟨t, et⟩ := at1 j h1
    obtain ⟨t', et'⟩ := at2 j h2
    rw [et, et']
    have z : (ns.getD j 0 == ms.getD j 0) = decide (ns.getD j 0 = ms.getD j 0) := by
      by_cases q : ns.getD j 0 = ms.getD j 0
      · rw [decide_eq_true q]; exact beq_iff_eq.mpr q
      · rw [decide_eq_false q]; exact beq_eq_false_iff_ne.mpr q
    rw [← z]
    exact SeqAt.EqAt.int_int _ _ _ _) (fun j h1 h2 _ => by
    obtain ⟨t, et⟩ := at1 j h1
    obtain ⟨t', et'⟩ := at2 j h2
    rw [et, et']
    exact Ob.RcOp.gt_int _ _ _ _)
  rw [e1, e2] at R
  have z : wpAny (model X.prog X.w) X.A (compareOp .Gt (.ref a) (.ref b)) (EP X pins σ Q) X.xe s := R X.prog X.w X.xe (EP X pins σ Q) ⟨.bl _, H, I, rfl, q⟩
  exact z
end KN
namespace KN
open PySem PySem.Spec PyProof.Rows L2
/-! ### the same rules with the written part by name: for a comprehension's block -/
section
variable {X : Cx}
theorem pe_fldK (K : PySem.W.Frag) {e : Expr} {f : Str} {pos : Pos} {ta : TE} (he : PE X e ta) (hb : attributeBase e f X.env (eval e X.env) = eval e X.env) (h : X.K = K := by rfl) : PE X (.Attribute e f pos) (tFld K ta f) := by
  subst h; exact pe_fld he hb
theorem ix_tupK (K : PySem.W.Frag) (h : X.K = K := by rfl) : IxR X (rIxT K) := by subst h; exact ix_tup
theorem ix_listK (K : PySem.W.Frag) (h : X.K = K := by rfl) : IxR X (rIxL K) := by subst h; exact ix_list
theorem sl_tupAK (K : PySem.W.Frag) (h : X.K = K := by rfl) : SlR X (rSlA K) := by subst h; exact sl_tupA
theorem op_eqDK (K : PySem.W.Frag) (hu : X.A.units + 64 < cLine) (h : X.K = K := by rfl) : OpR X (compareOp .Eq) (rEqD K) := by subst h; exact op_eqD hu
theorem op_inDK (K : PySem.W.Frag) (hu : X.A.units + 65 < cLine) (h : X.K = K := by rfl) : OpR X (compareOp .In) (rInD K) := by subst h; exact op_inD hu
theorem op_notInDK (K : PySem.W.Frag) (hu : X.A.units + 65 < cLine) (h : X.K = K := by rfl) : OpR X (compareOp .NotIn) (rNotInD K) := by subst h; exact op_notInD hu
theorem op_leTK (K : PySem.W.Frag) (hu : X.A.units < cLine) (h : X.K = K := by rfl) : OpR X (compareOp .LtE) (rLeT K) := by subst h; exact op_leT hu
theorem op_ltTK (K : PySem.W.Frag) (hu : X.A.units < cLine) (h : X.K = K := by rfl) : OpR X (compareOp .Lt) (rLtT K) := by subst h; exact op_ltT hu
end
theorem u65 {k : Nat} {A : Around} (r : Room k A) : A.units + 65 < cLine := by have := r.un; omega
end KN
set_option Elab.async false
set_option linter.all false
set_option maxRecDepth 100000
/-! Links and what they lead to: plain mathematics. -/
namespace KN
open PySem L2
/-- (mark, from, to) -/
abbrev Lnk := Mo × Mo × Mo
def lD (l : Lnk) : PyData := .tuple [mD l.1, mD l.2.1, mD l.2.2]
theorem okD_l (l : Lnk) : okD (lD l) = true := rfl
theorem lD_inj {a b : Lnk} (h : lD a = lD b) : a = b := by
  unfold lD at h
  injection h with h
  injection h with h1 h
  injection h with h2 h
  injection h with h3 _
  exact Prod.ext (mD_inj h1) (Prod.ext (mD_inj h2) (mD_inj h3))
inductive Rch (ls : List Lnk) (s : Mo) : Mo → Prop
  | refl : Rch ls s s
  | step {b : Mo} {l : Lnk} : Rch ls s b → l ∈ ls → l.2.1 = b → Rch ls s l.2.2
theorem Rch.mono {ls ls' : List Lnk} (h : ∀ l ∈ ls, l ∈ ls') {s a : Mo} (r : Rch ls s a) : Rch ls' s a := by
  induction r with
  | refl => exact .refl
  | step _ hl e ih => exact .step ih (h _ hl) e
theorem Rch.trans {ls : List Lnk} {a b c : Mo} (h : Rch ls a b) (k : Rch ls b c) : Rch ls a c := by
  induction k with
  | refl => exact h
  | step _ hl e ih => exact .step ih hl e
structure Bfs (ls : List Lnk) (s : Mo) (ns ws : List Mo) : Prop where
  start : s ∈ ns
  sub : ∀ n ∈ ns, Rch ls s n
  wsub : ∀ n ∈ ws, n ∈ ns
  clo : ∀ n ∈ ns, n ∉ ws → ∀ l ∈ ls, l.2.1 = n → l.2.2 ∈ ns
structure BfsI (ls : List Lnk) (s a : Mo) (i : Nat) (ns ws : List Mo) : Prop where
  start : s ∈ ns
  sub : ∀ n ∈ ns, Rch ls s n
  wsub : ∀ n ∈ ws, n ∈ ns
  here : a ∈ ns
  clo : ∀ n ∈ ns, n ∉ ws → n ≠ a → ∀ l ∈ ls, l.2.1 = n → l.2.2 ∈ ns
  own : ∀ l ∈ ls.take i, l.2.1 = a → l.2.2 ∈ ns
theorem Bfs.init (ls : List Lnk) (s : Mo) : Bfs ls s [s] [s] :=
  ⟨List.mem_singleton.mpr rfl, fun n h => by rw [List.mem_singleton] at h; subst h; exact .refl, fun _ h => h, fun n h k => absurd h k⟩
theorem Bfs.pop {ls : List Lnk} {s a : Mo} {ns ws : List Mo} (b : Bfs ls s ns (a :: ws)) : BfsI ls s a 0 ns ws :=
  ⟨b.start, b.sub, fun n h => b.wsub n (List.mem_cons_of_mem _ h), b.wsub a List.mem_cons_self, fun n h k e => b.clo n h fun z => (List.mem_cons.mp z).elim e k, fun l h => by rw [List.take_zero] at h; cases h⟩
theorem BfsI.done {ls : List Lnk} {s a : Mo} {ns ws : List Mo} (b : BfsI ls s a ls.length ns ws) : Bfs ls s ns ws :=
  ⟨b.start, b.sub, b.wsub, fun n h k l hl e => by
    by_cases q : n = a
    · exact b.own l (by rw [List.take_length]; exact hl) (e.trans q)
    · exact b.clo n h k q l hl e⟩
theorem BfsI.skip {ls : List Lnk} {s a : Mo} {i : Nat} {ns ws : List Mo} {l : Lnk} (b : BfsI ls s a i ns ws) (hl : ls[i]? = some l) (h : l.2.1 = a → l.2.2 ∈ ns) : BfsI ls s a (i + 1) ns ws :=
  ⟨b.start, b.sub, b.wsub, b.here, b.clo, fun l' h' e => by
    rw [List.take_add_one, hl] at h'
    rcases List.mem_append.mp h' with q | q
    · exact b.own l' q e
    · rw [Option.toList_some, List.mem_singleton] at q; subst q; exact h e⟩
theorem BfsI.add {ls : List Lnk} {s a : Mo} {i : Nat} {ns ws : List Mo} {l : Lnk} (b : BfsI ls s a i ns ws) (hl : ls[i]? = some l) (h : l.2.1 = a) : BfsI ls s a (i + 1) (ns ++ [l.2.2]) (ws ++ [l.2.2]) where
  start := List.mem_append_left _ b.start
  sub := fun n hn => by
    rcases List.mem_append.mp hn with q | q
    · exact b.sub n q
    · rw [List.mem_singleton] at q; subst q
      exact .step (b.sub a b.here) (List.mem_of_getElem? hl) h
  wsub := fun n hn => by
    rcases List.mem_append.mp hn with q | q
    · exact List.mem_append_left _ (b.wsub n q)
    · exact List.mem_append_right _ q
  here := List.mem_append_left _ b.here
  clo := fun n hn hw ha l' hl' e => by
    rcases List.mem_append.mp hn with q | q
    · exact List.mem_append_left _ (b.clo n q (fun z => hw (List.mem_append_left _ z)) ha l' hl' e)
    · exact absurd (List.mem_append_right _ q) hw
  own := fun l' h' e => by
    rw [List.take_add_one, hl] at h'
    rcases List.mem_append.mp h' with q | q
    · exact List.mem_append_left _ (b.own l' q e)
    · rw [Option.toList_some, List.mem_singleton] at q; subst q; exact List.mem_append_right _ (List.mem_singleton.mpr rfl)
theorem Bfs.all {ls : List Lnk} {s g : Mo} {ns : List Mo} (b : Bfs ls s ns []) : g ∈ ns ↔ Rch ls s g := by
  refine ⟨b.sub g, fun r => ?_⟩
  induction r with
  | refl => exact b.start
  | step _ hl e ih => exact b.clo _ ih (by simp) _ hl e
def Unv (ls : List Lnk) (ns : List Mo) : Nat := (ls.filter fun l => decide (l.2.2 ∉ ns)).length
theorem Unv.le (ls : List Lnk) (ns : List Mo) (c : Mo) : Unv ls (ns ++ [c]) ≤ Unv ls ns := by
  unfold Unv
  induction ls with
  | nil => exact Nat.le_refl _
  | cons l ls ih =>
    rw [List.filter_cons, List.filter_cons]
    by_cases h : l.2.2 ∈ ns
    · have h' : l.2.2 ∈ ns ++ [c] := List.mem_append_left _ h
      simp only [h, h', not_true, decide_false, if_neg (by decide : ¬ (false = true))]
      exact ih
    · by_cases h' : l.2.2 ∈ ns ++ [c]
      · simp only [h, h', not_true, not_false_iff, decide_false, decide_true, if_true, if_neg (by decide : ¬ (false = true)), List.length_cons]
        omega
      · simp only [h, h', not_false_iff, decide_true, if_true, List.length_cons]
        omega
theorem Unv.lt {ls : List Lnk} {ns : List Mo} {l : Lnk} (hl : l ∈ ls) (h : l.2.2 ∉ ns) : Unv ls (ns ++ [l.2.2]) + 1 ≤ Unv ls ns := by
  induction ls with
  | nil => cases hl
  | cons k ls ih =>
    have le := Unv.le ls ns l.2.2
    unfold Unv at ih le ⊢
    rw [List.filter_cons, List.filter_cons]
    rcases List.mem_cons.mp hl with rfl | hl
    · have h' : l.2.2 ∈ ns ++ [l.2.2] := List.mem_append_right _ (List.mem_singleton.mpr rfl)
      simp only [h, h', not_true, not_false_iff, decide_false, decide_true, if_true, if_neg (by decide : ¬ (false = true)), List.length_cons]
      omega
    · have ih := ih hl
      by_cases q : k.2.2 ∈ ns
      · have q' : k.2.2 ∈ ns ++ [l.2.2] := List.mem_append_left _ q
        simp only [q, q', not_true, decide_false, if_neg (by decide : ¬ (false = true))]
        exact ih
      · by_cases q' : k.2.2 ∈ ns ++ [l.2.2]
        · simp only [q, q', not_true, not_false_iff, decide_false, decide_true, if_true, if_neg (by decide : ¬ (false = true)), List.length_cons]
          omega
        · simp only [q, q', not_false_iff, decide_true, if_true, List.length_cons]
          omega
theorem Unv.len (ls : List Lnk) (ns : List Mo) : Unv ls ns ≤ ls.length := List.length_filter_le _ _

/-! dicts by moments -/
theorem valV_ks {kvs : List (List Key × V)} {ns : List Mo} (h : kvs.map (·.1) = ns.map mK) (m : Mo) : (valV kvs (mK m)).isSome = decide (m ∈ ns) := by
  induction kvs generalizing ns with
  | nil =>
    cases ns with
    | nil => rfl
    | cons n ns => cases h
  | cons q kvs ih =>
    cases ns with
    | nil => cases h
    | cons n ns =>
      rw [List.map_cons, List.map_cons] at h
      injection h with h1 h2
      by_cases e : n = m
      · subst e
        rw [valV_pos h1, decide_eq_true List.mem_cons_self]; rfl
      · rw [valV_neg (fun z => e (mK_inj (h1.symm.trans z))), ih h2]
        have : m ∈ n :: ns ↔ m ∈ ns := by
          rw [List.mem_cons]; exact ⟨fun z => z.elim (fun y => absurd y.symm e) id, .inr⟩
        by_cases q : m ∈ ns
        · rw [decide_eq_true q, decide_eq_true (this.mpr q)]
        · rw [decide_eq_false q, decide_eq_false (fun z => q (this.mp z))]
theorem valV_mem {κ : Type} [DecidableEq κ] {kvs : List (κ × V)} {k : κ} {v : V} (h : valV kvs k = some v) : (k, v) ∈ kvs := by
  induction kvs with
  | nil => cases h
  | cons q kvs ih =>
    by_cases e : q.1 = k
    · rw [valV_pos e] at h
      cases h
      subst e
      exact List.mem_cons_self
    · rw [valV_neg e] at h
      exact List.mem_cons_of_mem _ (ih h)
theorem Tp.ln_inv {H : Hp} {v : V} {l : Lnk} (h : Tp H v (lD l)) : ∃ t a b c, v = .ref t ∧ H t = some (.tup [.ref a, .ref b, .ref c]) ∧ H a = some (.tup [.int l.1.1, .int l.1.2]) ∧ H b = some (.tup [.int l.2.1.1, .int l.2.1.2]) ∧ H c = some (.tup [.int l.2.2.1, .int l.2.2.2]) := by
  obtain ⟨t, xs, rfl, e, r⟩ := Tp.inv h
  cases r with
  | cons h1 r =>
    cases r with
    | cons h2 r =>
      cases r with
      | cons h3 r =>
        cases r
        obtain ⟨a, rfl, ha⟩ := Tp.mo_inv h1
        obtain ⟨b, rfl, hb⟩ := Tp.mo_inv h2
        obtain ⟨c, rfl, hc⟩ := Tp.mo_inv h3
        exact ⟨t, a, b, c, rfl, e, ha, hb, hc⟩
theorem Tp.ln {H : Hp} {t a b c : Addr} {l : Lnk} (e : H t = some (.tup [.ref a, .ref b, .ref c])) (ha : H a = some (.tup [.int l.1.1, .int l.1.2])) (hb : H b = some (.tup [.int l.2.1.1, .int l.2.1.2])) (hc : H c = some (.tup [.int l.2.2.1, .int l.2.2.2])) : Tp H (.ref t) (lD l) :=
  .tup e (.cons (Tp.mo ha) (.cons (Tp.mo hb) (.cons (Tp.mo hc) .nil)))
theorem eqv_m (a b : Mo) : PyData.eqv (mD a) (mD b) = decide (a = b) := eqv_dec (okD_m a) (okD_m b) ⟨mD_inj, congrArg mD⟩
theorem shaped_m (m : Mo) : SeqAt.shaped (mD m) = true := shaped_of (okD_m m) (by simp [mD, PyData.depth, PyData.depthAll])
end KN
set_option Elab.async false
set_option linter.all false
set_option maxRecDepth 100000
set_option maxHeartbeats 4000000
/-! Rows of the book, and a book as it stands. -/
namespace KN
open PySem L2
inductive Row where
  | nm (m : Mo) (rank : Int) (ws ss : List Str) (like : Option Mo)
  | ch (m n : Mo) (s : Str)
  | st (m n : Mo) (w : Bool)
  | ah (m n o : Mo)
def oD : Option Mo → PyData
  | none => .none
  | some m => mD m
def Row.ds : Row → List PyData
  | .nm m r ws ss l => [.str "name", mD m, .int r, .tuple (ws.map PyData.str), .tuple (ss.map PyData.str), oD l]
  | .ch m n s => [.str "choice", mD m, mD n, .str s]
  | .st m n w => [.str "strike", mD m, mD n, .bool w]
  | .ah m n o => [.str "ahead", mD m, mD n, mD o]
def Row.d (r : Row) : PyData := .tuple r.ds
def Row.mo : Row → Mo
  | .nm m .. => m
  | .ch m .. => m
  | .st m .. => m
  | .ah m .. => m
def Row.names : Row → List Mo
  | .nm _ _ _ _ l => l.toList
  | .ch _ n _ => [n]
  | .st _ n _ => [n]
  | .ah _ n o => [n, o]
def Row.isNm : Row → Bool
  | .nm .. => true
  | _ => false
def Row.sort : Row → Str
  | .nm .. => "name"
  | .ch .. => "choice"
  | .st .. => "strike"
  | .ah .. => "ahead"
theorem Row.ds0 (r : Row) : r.ds[0]? = some (.str r.sort) := by cases r <;> rfl
theorem Row.ds1 (r : Row) : r.ds[1]? = some (mD r.mo) := by cases r <;> rfl
/-- a part of a tuple -/
theorem Tp.at {K : PySem.W.Frag} {H : Hp} {t : Addr} {xs : List V} {ds : List PyData} {i : Nat} {d : PyData} (h : H t = some (.tup xs)) (r : TpAll H xs ds) (e : ds[i]? = some d) : ∃ v, atI xs (i : Int) = some v ∧ Tp H v d :=
  let ⟨v, h1, h2⟩ := r.get e
  ⟨v, atI_nat h1, h2⟩
/-- the names of a book, in the order told -/
def nms (rs : List Row) : List Mo := (rs.filter Row.isNm).map Row.mo
/-- who names a name -/
def users (rs : List Row) (n : Mo) : List (List Key × V) := (rs.filter fun r => decide (n ∈ r.names)).map fun r => (mK r.mo, V.bl true)
theorem nms_app (rs : List Row) (r : Row) : nms (rs ++ [r]) = nms rs ++ (if r.isNm then [r.mo] else []) := by
  unfold nms
  rw [List.filter_append, List.map_append]
  congr 1
  by_cases h : r.isNm = true
  · rw [if_pos h, List.filter_cons_of_pos h]; rfl
  · rw [if_neg h, List.filter_cons_of_neg h]; rfl
theorem users_app (rs : List Row) (r : Row) (n : Mo) : users (rs ++ [r]) n = users rs n ++ (if n ∈ r.names then [(mK r.mo, V.bl true)] else []) := by
  unfold users
  rw [List.filter_append, List.map_append]
  congr 1
  by_cases h : n ∈ r.names
  · simp [h]
  · simp [h]
theorem users_le (rs : List Row) (n : Mo) : (users rs n).length ≤ rs.length := by
  unfold users
  rw [List.length_map]; exact List.length_filter_le _ _

theorem en_ : ¬ (("_entries" : Str) = "_named_by") := by decide +kernel
theorem ne_ : ¬ (("_named_by" : Str) = "_entries") := by decide +kernel
def bf (e n : Addr) : List (Str × V) := putF "_named_by" (.ref n) (putF "_entries" (.ref e) [])
theorem bf_eq (e n : Addr) : bf e n = ([("_entries", V.ref e), ("_named_by", V.ref n)] : List (Str × V)) := by
  show (if ("_entries" : Str) = "_named_by" then [(("_entries" : Str), V.ref n)] else (("_entries" : Str), V.ref e) :: putF "_named_by" (V.ref n) []) = _
  rw [if_neg en_]; rfl
theorem bf_e (e n : Addr) : (bf e n).lookup ("_entries" : Str) = some (.ref e) := by
  unfold bf; rw [lookup_putF, if_neg en_, lookup_putF, if_pos rfl]
theorem bf_n (e n : Addr) : (bf e n).lookup ("_named_by" : Str) = some (.ref n) := by
  unfold bf; rw [lookup_putF, if_pos rfl]
theorem bf_no (e n : Addr) {m : Str} (h1 : ¬ m = "_named_by") (h2 : ¬ m = "_entries") : (bf e n).lookup m = none := by
  unfold bf; rw [lookup_putF, if_neg h1, lookup_putF, if_neg h2]; rfl

/-- the entries -/
def EntR (H : Hp) : List (List Key × V) → List Row → Prop := Paired fun q r => q.1 = mK r.mo ∧ Tp H q.2 r.d
/-- the users of each name -/
def NamR (H : Hp) (e n : Addr) (f : Mo → List (List Key × V)) : List (List Key × V) → List Mo → Prop := Paired fun q m => q.1 = mK m ∧ ∃ u, q.2 = .ref u ∧ H u = some (.dT (f m)) ∧ u ≠ e ∧ u ≠ n
structure BookI (C : Addr) (H : Hp) (b dx e n : Addr) (kvs nkv : List (List Key × V)) (rs : List Row) : Prop where
  ob : H b = some (.ins C dx (bf e n))
  en : H e = some (.dT kvs)
  nb : H n = some (.dT nkv)
  ne : e ≠ n
  er : EntR H kvs rs
  nr : NamR H e n (users rs) nkv (nms rs)
  nd : (nkv.map (·.2)).Nodup
  md : (rs.map Row.mo).Nodup
  ok : ∀ r ∈ rs, MoOk r.mo
  cl : ∀ r ∈ rs, ∀ n ∈ r.names, n ∈ nms rs
def BookAt (C : Addr) (H : Hp) (b : Addr) (rs : List Row) : Prop := ∃ dx e n kvs nkv, BookI C H b dx e n kvs nkv rs

theorem Paired.imp {α β : Type} {F G : α → β → Prop} {l₁ : List α} {l₂ : List β} (h : Paired F l₁ l₂) (k : ∀ a b, F a b → G a b) : Paired G l₁ l₂ := L2.Paired.mapP h k
theorem Paired.len {α β : Type} {F : α → β → Prop} {l₁ : List α} {l₂ : List β} (h : Paired F l₁ l₂) : l₁.length = l₂.length := PySem.Paired.length h
theorem Paired.snoc {α β : Type} {F : α → β → Prop} {l₁ : List α} {l₂ : List β} {a : α} {b : β} (h : Paired F l₁ l₂) (k : F a b) : Paired F (l₁ ++ [a]) (l₂ ++ [b]) := by
  induction h with
  | nil => exact .cons k .nil
  | cons f _ ih => exact .cons f ih
theorem EntR.keys {H : Hp} {kvs : List (List Key × V)} {rs : List Row} (h : EntR H kvs rs) : kvs.map (·.1) = (rs.map Row.mo).map mK := by
  unfold EntR at h
  induction h with
  | nil => rfl
  | cons f _ ih => rw [List.map_cons, List.map_cons, List.map_cons, ih, f.1]
theorem NamR.keys {H : Hp} {e n : Addr} {g : Mo → List (List Key × V)} {nkv : List (List Key × V)} {ms : List Mo} (h : NamR H e n g nkv ms) : nkv.map (·.1) = ms.map mK := by
  unfold NamR at h
  induction h with
  | nil => rfl
  | cons f _ ih => rw [List.map_cons, List.map_cons, ih, f.1]
theorem EntR.to {H H' : Hp} {kvs : List (List Key × V)} {rs : List Row} (h : EntR H kvs rs) (k : TK H H') : EntR H' kvs rs := Paired.imp h fun _ _ f => ⟨f.1, f.2.to k⟩
/-- an entry found by its moment -/
theorem EntR.get {H : Hp} {kvs : List (List Key × V)} {rs : List Row} (h : EntR H kvs rs) (nd : (rs.map Row.mo).Nodup) {r : Row} (hr : r ∈ rs) : ∃ v, valV kvs (mK r.mo) = some v ∧ Tp H v r.d := by
  unfold EntR at h
  induction h with
  | nil => cases hr
  | @cons q r0 kvs rs f t ih =>
    rw [List.map_cons, List.nodup_cons] at nd
    rcases List.mem_cons.mp hr with rfl | hr
    · exact ⟨q.2, valV_pos f.1, f.2⟩
    · have ne : ¬ q.1 = mK r.mo := fun z => nd.1 (by
        have : r0.mo = r.mo := mK_inj (f.1.symm.trans z)
        rw [this]; exact List.mem_map.mpr ⟨r, hr, rfl⟩)
      rw [valV_neg ne]; exact ih nd.2 hr
theorem EntR.none {H : Hp} {kvs : List (List Key × V)} {rs : List Row} (h : EntR H kvs rs) {m : Mo} (hm : m ∉ rs.map Row.mo) : valV kvs (mK m) = none := by
  have := valV_ks h.keys m
  rw [decide_eq_false hm] at this
  cases e : valV kvs (mK m) with
  | none => rfl
  | some v => rw [e] at this; cases this
theorem EntR.drop {H : Hp} {kvs : List (List Key × V)} {rs : List Row} (h : EntR H kvs rs) (m : Mo) : EntR H (dropK kvs (mK m)) (rs.filter fun r => decide (r.mo ≠ m)) := by
  unfold EntR at h ⊢
  induction h with
  | nil => exact .nil
  | @cons q r kvs rs f t ih =>
    by_cases e : r.mo = m
    · rw [dropK_pos (f.1.trans (congrArg mK e)), List.filter_cons_of_neg (by simp [e])]; exact ih
    · rw [dropK_neg (fun z => e (mK_inj (f.1.symm.trans z))), List.filter_cons_of_pos (by simp [e])]
      exact .cons f ih
theorem NamR.get {H : Hp} {e n : Addr} {g : Mo → List (List Key × V)} {nkv : List (List Key × V)} {ms : List Mo} (h : NamR H e n g nkv ms) {m : Mo} (hm : m ∈ ms) : ∃ u, valV nkv (mK m) = some (.ref u) ∧ H u = some (.dT (g m)) ∧ u ≠ e ∧ u ≠ n := by
  unfold NamR at h
  induction h with
  | nil => cases hm
  | @cons q m0 nkv ms f t ih =>
    by_cases z : m0 = m
    · subst z
      obtain ⟨u, e1, e2, e3, e4⟩ := f.2
      exact ⟨u, by rw [valV_pos f.1, e1], e2, e3, e4⟩
    · rw [valV_neg (fun y => z (mK_inj (f.1.symm.trans y)))]
      exact ih ((List.mem_cons.mp hm).resolve_left fun y => z y.symm)
theorem NamR.none {H : Hp} {e n : Addr} {g : Mo → List (List Key × V)} {nkv : List (List Key × V)} {ms : List Mo} (h : NamR H e n g nkv ms) {m : Mo} (hm : m ∉ ms) : valV nkv (mK m) = none := by
  have := valV_ks h.keys m
  rw [decide_eq_false hm] at this
  cases e : valV nkv (mK m) with
  | none => rfl
  | some v => rw [e] at this; cases this
/-- all but lists and dicts by texts is kept -/
def KB (H H' : Hp) : Prop := ∀ a o, (∀ xs, o ≠ .lst xs) → (∀ kvs, o ≠ .dK kvs) → H a = some o → H' a = some o
theorem KB.of {H H' : Hp} (s : Same H H') : KB H H' := fun a o _ _ h => s a o h
theorem KB.tk {H H' : Hp} (k : KB H H') : TK H H' := fun a xs h => k a _ (by intro z; exact nofun) (by intro z; exact nofun) h
theorem KB.kp {H H' : Hp} {p : Addr} {kvs : List (Key × V)} (k : ∀ a o, a ≠ p → H a = some o → H' a = some o) (h : H p = some (.dK kvs)) : KB H H' := fun a o _ n e => k a o (fun z => by subst z; rw [h] at e; cases e; exact n _ rfl) e
theorem BookI.keep {C : Addr} {H H' : Hp} {b dx e n : Addr} {kvs nkv : List (List Key × V)} {rs : List Row} (B : BookI C H b dx e n kvs nkv rs) (k : KB H H') : BookI C H' b dx e n kvs nkv rs :=
  ⟨k _ _ (by intro z; exact nofun) (by intro z; exact nofun) B.ob, k _ _ (by intro z; exact nofun) (by intro z; exact nofun) B.en, k _ _ (by intro z; exact nofun) (by intro z; exact nofun) B.nb, B.ne, B.er.to k.tk,
    Paired.imp B.nr fun _ _ f => ⟨f.1, let ⟨u, h1, h2, h3⟩ := f.2; ⟨u, h1, k _ _ (by intro z; exact nofun) (by intro z; exact nofun) h2, h3⟩⟩, B.nd, B.md, B.ok, B.cl⟩
theorem BookAt.keep {C : Addr} {H H' : Hp} {b : Addr} {rs : List Row} (B : BookAt C H b rs) (k : KB H H') : BookAt C H' b rs :=
  let ⟨dx, e, n, kvs, nkv, I⟩ := B
  ⟨dx, e, n, kvs, nkv, I.keep k⟩
/-- all but dicts by tuples is kept -/
def KD (H H' : Hp) : Prop := ∀ a o, (∀ kvs, o ≠ .dT kvs) → H a = some o → H' a = some o
theorem KD.of {H H' : Hp} (s : Same H H') : KD H H' := fun a o _ h => s a o h
theorem KD.refl (H : Hp) : KD H H := fun _ _ _ h => h
theorem KD.trans {H H1 H2 : Hp} (a : KD H H1) (b : KD H1 H2) : KD H H2 := fun c o n h => b c o n (a c o n h)
theorem KD.tk {H H' : Hp} (k : KD H H') : TK H H' := fun a xs h => k a _ (by intro z; exact nofun) h
theorem KD.put {H : Hp} {a : Addr} {kvs : List (List Key × V)} {o : HO} (h : H a = some (.dT kvs)) : KD H (upd H a o) := fun x u n e => by
  rw [upd_ne (fun z => by subst z; rw [h] at e; cases e; exact n _ rfl)]; exact e
theorem nms_sub {rs : List Row} {m : Mo} (h : m ∈ nms rs) : m ∈ rs.map Row.mo := by
  obtain ⟨r, hr, e⟩ := List.mem_map.mp h
  exact List.mem_map.mpr ⟨r, (List.mem_filter.mp hr).1, e⟩
theorem nms_nd {rs : List Row} (h : (rs.map Row.mo).Nodup) : (nms rs).Nodup := List.Nodup.sublist (List.Sublist.map _ List.filter_sublist) h
theorem nms_row {rs : List Row} {m : Mo} (h : m ∈ nms rs) : ∃ rk ws ss l, Row.nm m rk ws ss l ∈ rs := by
  obtain ⟨r, hr, e⟩ := List.mem_map.mp h
  obtain ⟨h1, h2⟩ := List.mem_filter.mp hr
  cases r with
  | nm m' rk ws ss l => cases e; exact ⟨rk, ws, ss, l, h1⟩
  | _ => cases h2
theorem row_nms {rs : List Row} {m : Mo} {rk : Int} {ws ss : List Str} {l : Option Mo} (h : Row.nm m rk ws ss l ∈ rs) : m ∈ nms rs := List.mem_map.mpr ⟨_, List.mem_filter.mpr ⟨h, rfl⟩, rfl⟩
theorem users_key {rs : List Row} {n m : Mo} (h : m ∉ rs.map Row.mo) : valV (users rs n) (mK m) = none := by
  cases e : valV (users rs n) (mK m) with
  | none => rfl
  | some v =>
    obtain ⟨r, hr, er⟩ := List.mem_map.mp (valV_mem e)
    have : mK r.mo = mK m := congrArg Prod.fst er
    exact absurd (List.mem_map.mpr ⟨r, (List.mem_filter.mp hr).1, mK_inj this⟩) h
theorem users_has {rs : List Row} {n : Mo} {r : Row} (h : r ∈ rs) (k : n ∈ r.names) : (valV (users rs n) (mK r.mo)).isSome = true := by
  have hm : (mK r.mo, V.bl true) ∈ users rs n := List.mem_map.mpr ⟨r, List.mem_filter.mpr ⟨h, decide_eq_true k⟩, rfl⟩
  cases e : valV (users rs n) (mK r.mo) with
  | some v => rfl
  | none => exact absurd (List.mem_map.mpr ⟨_, hm, rfl⟩) (valV_not e)
theorem users_drop {rs : List Row} (n : Mo) (m : Mo) : dropK (users rs n) (mK m) = users (rs.filter fun r => decide (r.mo ≠ m)) n := by
  unfold users
  induction rs with
  | nil => rfl
  | cons r rs ih =>
    by_cases h : n ∈ r.names <;> by_cases e : r.mo = m
    · rw [List.filter_cons_of_pos (by simp [h]), List.filter_cons_of_neg (p := fun (r : Row) => decide (r.mo ≠ m)) (by simp [e]), List.map_cons, dropK_pos (congrArg mK e)]; exact ih
    · rw [List.filter_cons_of_pos (by simp [h]), List.filter_cons_of_pos (p := fun (r : Row) => decide (r.mo ≠ m)) (by simp [e]), List.map_cons, dropK_neg (fun z => e (mK_inj z)), List.filter_cons_of_pos (by simp [h]), List.map_cons, ih]
    · rw [List.filter_cons_of_neg (by simp [h]), List.filter_cons_of_neg (p := fun (r : Row) => decide (r.mo ≠ m)) (by simp [e])]; exact ih
    · rw [List.filter_cons_of_neg (by simp [h]), List.filter_cons_of_pos (p := fun (r : Row) => decide (r.mo ≠ m)) (by simp [e]), List.filter_cons_of_neg (by simp [h])]; exact ih
/-- a name's users changed -/
theorem NamR.put1 {H : Hp} {e n : Addr} {f : Mo → List (List Key × V)} {nkv : List (List Key × V)} {ms : List Mo} (h : NamR H e n f nkv ms) (nd : (nkv.map (·.2)).Nodup) (md : ms.Nodup) {m : Mo} {u : Addr} (hm : m ∈ ms) (hu : valV nkv (mK m) = some (.ref u)) (l : List (List Key × V)) :
    NamR (upd H u (.dT l)) e n (fun x => if x = m then l else f x) nkv ms := by
  unfold NamR at h ⊢
  induction h with
  | nil => cases hm
  | @cons q m0 nkv ms g t ih =>
    rw [List.map_cons, List.nodup_cons] at nd
    rw [List.nodup_cons] at md
    obtain ⟨u0, e1, e2, e3, e4⟩ := g.2
    have keep : ∀ {nkv : List (List Key × V)} {ms : List Mo}, Paired (fun q m => q.1 = mK m ∧ ∃ u, q.2 = .ref u ∧ H u = some (.dT (f m)) ∧ u ≠ e ∧ u ≠ n) nkv ms → V.ref u ∉ nkv.map (·.2) → m ∉ ms →
        Paired (fun q x => q.1 = mK x ∧ ∃ u', q.2 = .ref u' ∧ upd H u (.dT l) u' = some (.dT (if x = m then l else f x)) ∧ u' ≠ e ∧ u' ≠ n) nkv ms := by
      intro nkv ms t
      induction t with
      | nil => intro _ _; exact .nil
      | @cons q x nkv ms g t ih =>
        intro h1 h2
        obtain ⟨u1, a1, a2, a3, a4⟩ := g.2
        refine .cons ⟨g.1, u1, a1, ?_, a3, a4⟩ (ih (fun z => h1 (List.mem_cons_of_mem _ z)) fun z => h2 (List.mem_cons_of_mem _ z))
        rw [upd_ne (fun z => h1 (by rw [← z, ← a1]; exact List.mem_cons_self)), if_neg (fun z => h2 (by rw [z]; exact List.mem_cons_self))]
        exact a2
    by_cases z : m0 = m
    · subst z
      rw [valV_pos g.1, e1] at hu
      cases hu
      rw [e1] at nd
      exact .cons ⟨g.1, u, e1, (by show _ = some (HO.dT (if m0 = m0 then l else f m0)); rw [upd_same, if_pos rfl]), e3, e4⟩ (keep t nd.1 md.1)
    · rw [valV_neg (fun y => z (mK_inj (g.1.symm.trans y)))] at hu
      have hu0 : u0 ≠ u := fun y => by
        subst y
        exact nd.1 (by rw [e1]; exact List.mem_map.mpr ⟨_, valV_mem hu, rfl⟩)
      refine .cons ⟨g.1, u0, e1, (by show _ = some (HO.dT (if m0 = m then l else f m0)); rw [upd_ne hu0, if_neg z]; exact e2), e3, e4⟩ (ih nd.2 md.2 ((List.mem_cons.mp hm).resolve_left fun y => z y.symm) hu)
theorem NamR.fn {H : Hp} {e n : Addr} {f g : Mo → List (List Key × V)} {nkv : List (List Key × V)} {ms : List Mo} (h : NamR H e n f nkv ms) (k : ∀ m ∈ ms, f m = g m) : NamR H e n g nkv ms := by
  unfold NamR at h ⊢
  induction h with
  | nil => exact .nil
  | @cons q m nkv ms a t ih =>
    obtain ⟨u, h1, h2, h3⟩ := a.2
    exact .cons ⟨a.1, u, h1, by rw [← k _ List.mem_cons_self]; exact h2, h3⟩ (ih fun x hx => k x (List.mem_cons_of_mem _ hx))
theorem NamR.off {H H' : Hp} {e n : Addr} {f : Mo → List (List Key × V)} {nkv : List (List Key × V)} {ms : List Mo} (h : NamR H e n f nkv ms) (k : ∀ u kvs, u ≠ e → u ≠ n → H u = some (.dT kvs) → H' u = some (.dT kvs)) : NamR H' e n f nkv ms :=
  Paired.imp h fun _ _ a => ⟨a.1, let ⟨u, h1, h2, h3, h4⟩ := a.2; ⟨u, h1, k _ _ h3 h4 h2, h3, h4⟩⟩
theorem NamR.snd {H : Hp} {e n : Addr} {f : Mo → List (List Key × V)} {nkv : List (List Key × V)} {ms : List Mo} (h : NamR H e n f nkv ms) {v : V} (hv : v ∈ nkv.map (·.2)) : ∃ u, v = .ref u ∧ ∃ kvs, H u = some (.dT kvs) := by
  unfold NamR at h
  induction h with
  | nil => cases hv
  | @cons q m nkv ms a t ih =>
    obtain ⟨u, h1, h2, _⟩ := a.2
    rcases List.mem_cons.mp hv with z | z
    · exact ⟨u, z.trans h1, _, h2⟩
    · exact ih z
end KN
set_option Elab.async false
set_option linter.all false
set_option maxRecDepth 100000
/-! Rings of links: peeling, and what a new link closes. -/
namespace KN
open PySem L2
/-- some link comes back to its own start -/
def Ring (ls : List Lnk) : Prop := ∃ l ∈ ls, Rch ls l.2.2 l.2.1
def peel (ls : List Lnk) : List Lnk := ls.filter fun l => decide (l.2.1 ∈ ls.map (·.2.2))
def peels : Nat → List Lnk → List Lnk
  | 0, ls => ls
  | n + 1, ls => peel (peels n ls)
theorem peel_le (ls : List Lnk) : (peel ls).length ≤ ls.length := List.length_filter_le _ _
theorem peels_le (n : Nat) (ls : List Lnk) : (peels n ls).length ≤ ls.length := by
  induction n with
  | zero => exact Nat.le_refl _
  | succ n ih => exact Nat.le_trans (peel_le _) ih
theorem peel_sub {ls : List Lnk} {l : Lnk} (h : l ∈ peel ls) : l ∈ ls := (List.mem_filter.mp h).1
theorem peels_sub {n : Nat} {ls : List Lnk} {l : Lnk} (h : l ∈ peels n ls) : l ∈ ls := by
  induction n with
  | zero => exact h
  | succ n ih => exact ih (peel_sub h)
theorem peel_fix {ls : List Lnk} (h : (peel ls).length = ls.length) : peel ls = ls := List.filter_eq_self.mpr (List.length_filter_eq_length_iff.mp h)
/-- after as many turns as there are links nothing changes any more -/
theorem peels_fix (ls : List Lnk) : peel (peels ls.length ls) = peels ls.length ls := by
  have g : ∀ n, peel (peels n ls) = peels n ls ∨ (peels n ls).length + n ≤ ls.length := by
    intro n
    induction n with
    | zero => exact .inr (Nat.le_refl _)
    | succ n ih =>
      rcases ih with h | h
      · left; show peel (peel (peels n ls)) = peel (peels n ls); rw [h, h]
      · by_cases q : (peel (peels n ls)).length = (peels n ls).length
        · left; have := peel_fix q; show peel (peel (peels n ls)) = peel (peels n ls); rw [this, this]
        · right
          have := peel_le (peels n ls)
          show (peel (peels n ls)).length + (n + 1) ≤ ls.length
          omega
  rcases g ls.length with h | h
  · exact h
  · have h0 : peels ls.length ls = [] := List.length_eq_zero_iff.mp (by omega)
    rw [h0]; rfl
theorem filter_le {α : Type} {p q : α → Bool} : ∀ {xs : List α}, (∀ j ∈ xs, p j = true → q j = true) → (xs.filter p).length ≤ (xs.filter q).length
  | [], _ => Nat.le_refl _
  | x :: xs, h => by
    have r := filter_le (xs := xs) fun j hj => h j (List.mem_cons_of_mem _ hj)
    by_cases a : p x = true
    · rw [List.filter_cons_of_pos a, List.filter_cons_of_pos (h x List.mem_cons_self a), List.length_cons, List.length_cons]; omega
    · rw [List.filter_cons_of_neg a]
      by_cases b : q x = true
      · rw [List.filter_cons_of_pos b, List.length_cons]; omega
      · rw [List.filter_cons_of_neg b]; exact r
theorem filter_lt {α : Type} {p q : α → Bool} {k : α} : ∀ {xs : List α}, (∀ j ∈ xs, p j = true → q j = true) → k ∈ xs → q k = true → ¬ p k = true → (xs.filter p).length < (xs.filter q).length
  | [], _, hk, _, _ => by cases hk
  | x :: xs, h, hk, hq, hp => by
    have r := filter_le (xs := xs) fun j hj => h j (List.mem_cons_of_mem _ hj)
    rcases List.mem_cons.mp hk with e | hk
    · subst e
      rw [List.filter_cons_of_neg hp, List.filter_cons_of_pos hq, List.length_cons]; omega
    · have r := filter_lt (xs := xs) (fun j hj => h j (List.mem_cons_of_mem _ hj)) hk hq hp
      by_cases a : p x = true
      · rw [List.filter_cons_of_pos a, List.filter_cons_of_pos (h x List.mem_cons_self a), List.length_cons, List.length_cons]; omega
      · rw [List.filter_cons_of_neg a]
        by_cases b : q x = true
        · rw [List.filter_cons_of_pos b, List.length_cons]; omega
        · rw [List.filter_cons_of_neg b]; exact r
/-- a set of links each of which starts where one of them ends has a ring -/
theorem fix_ring {ls : List Lnk} (h : peel ls = ls) (h0 : ls ≠ []) : Ring ls := by
  have pre : ∀ l ∈ ls, ∃ k ∈ ls, k.2.2 = l.2.1 := fun l hl => by
    rw [← h] at hl
    obtain ⟨k, hk, e⟩ := List.mem_map.mp (of_decide_eq_true (List.mem_filter.mp hl).2)
    exact ⟨k, hk, e⟩
  apply Classical.byContradiction
  intro nr
  have noc : ∀ l ∈ ls, ¬ Rch ls l.2.2 l.2.1 := fun l hl r => nr ⟨l, hl, r⟩
  classical
  have go : ∀ (n : Nat) (l : Lnk), l ∈ ls → (ls.filter fun k => decide (Rch ls k.2.2 l.2.1)).length = n → False := by
    intro n
    induction n using Nat.strongRecOn with
    | ind n ih =>
      intro l hl hn
      obtain ⟨k, hk, ek⟩ := pre l hl
      refine ih (ls.filter fun j => decide (Rch ls j.2.2 k.2.1)).length ?_ k hk rfl
      rw [← hn]
      -- k itself is in the one, not in the other
      have sub : ∀ j ∈ ls, decide (Rch ls j.2.2 k.2.1) = true → decide (Rch ls j.2.2 l.2.1) = true := fun j _ hj => decide_eq_true (by
        have := Rch.step (of_decide_eq_true hj) hk rfl
        rw [ek] at this; exact this)
      have kin : decide (Rch ls k.2.2 l.2.1) = true := decide_eq_true (by rw [ek]; exact .refl)
      have kout : ¬ decide (Rch ls k.2.2 k.2.1) = true := fun z => noc k hk (of_decide_eq_true z)
      exact filter_lt (p := fun j : Lnk => decide (Rch ls j.2.2 k.2.1)) (q := fun j : Lnk => decide (Rch ls j.2.2 l.2.1)) sub hk kin kout
  obtain ⟨l, hl⟩ := List.exists_mem_of_ne_nil ls h0
  exact go _ l hl rfl
theorem Ring.mono {ls ls' : List Lnk} (h : ∀ l ∈ ls, l ∈ ls') (r : Ring ls) : Ring ls' :=
  let ⟨l, hl, q⟩ := r
  ⟨l, h l hl, q.mono h⟩
/-- the links of rings are never taken out -/
theorem ring_stays {ls : List Lnk} {l : Lnk} (hl : l ∈ ls) (hr : Rch ls l.2.2 l.2.1) : ∀ n, l ∈ peels n ls := by
  have all : ∀ n, ∀ l ∈ ls, Rch ls l.2.2 l.2.1 → l ∈ peels n ls := by
    intro n
    induction n with
    | zero => intro l hl _; exact hl
    | succ n ih =>
      intro l hl hr
      refine List.mem_filter.mpr ⟨ih l hl hr, decide_eq_true ?_⟩
      -- the last step of the way back
      have last : ∀ {a b : Mo}, Rch ls a b → a = b ∨ ∃ k ∈ ls, k.2.2 = b ∧ Rch ls a k.2.1 := fun r => by
        cases r with
        | refl => exact .inl rfl
        | step r hk e => exact .inr ⟨_, hk, rfl, by rw [e]; exact r⟩
      rcases last hr with e | ⟨k, hk, e, rk⟩
      · exact List.mem_map.mpr ⟨l, ih l hl hr, e⟩
      · have kr : Rch ls k.2.2 k.2.1 := by
          rw [e]
          exact (Rch.step .refl hl rfl).trans rk
        exact List.mem_map.mpr ⟨k, ih k hk kr, e⟩
  exact fun n => all n l hl hr
theorem ring_iff (ls : List Lnk) : peels ls.length ls ≠ [] ↔ Ring ls := by
  constructor
  · intro h
    exact (fix_ring (peels_fix ls) h).mono fun l hl => peels_sub hl
  · rintro ⟨l, hl, r⟩ z
    have := ring_stays hl r ls.length
    rw [z] at this; cases this
theorem rch_snoc {ls : List Lnk} {x : Lnk} {a b : Mo} (r : Rch (ls ++ [x]) a b) : Rch ls a b ∨ (Rch ls a x.2.1 ∧ Rch ls x.2.2 b) := by
  induction r with
  | refl => exact .inl .refl
  | step r hk e ih =>
    rcases List.mem_append.mp hk with h | h
    · rcases ih with q | ⟨q1, q2⟩
      · exact .inl (.step q h e)
      · exact .inr ⟨q1, .step q2 h e⟩
    · rw [List.mem_singleton] at h
      subst h
      rcases ih with q | ⟨q1, q2⟩
      · exact .inr ⟨by rw [e]; exact q, .refl⟩
      · exact .inr ⟨q1, .refl⟩
/-- a new link closes a ring just where its end leads to its start -/
theorem ring_snoc {ls : List Lnk} {x : Lnk} (h : ¬ Ring ls) : Ring (ls ++ [x]) ↔ Rch ls x.2.2 x.2.1 := by
  constructor
  · rintro ⟨l, hl, r⟩
    rcases List.mem_append.mp hl with q | q
    · rcases rch_snoc r with z | ⟨z1, z2⟩
      · exact absurd ⟨l, q, z⟩ h
      · exact (Rch.step z2 q rfl).trans z1
    · rw [List.mem_singleton] at q
      subst q
      rcases rch_snoc r with z | ⟨z1, _⟩
      · exact z
      · exact z1
  · intro r
    exact ⟨x, List.mem_append_right _ (List.mem_singleton.mpr rfl), r.mono fun l hl => List.mem_append_left _ hl⟩
end KN
set_option Elab.async false
set_option linter.all false
set_option maxRecDepth 100000
/-! set(t) of a tuple of unlike texts, and how many it has: any number of texts (the layer's own rule takes one at most). -/
namespace KS
open PySem PySem.Spec PyProof.Rows
/-- what the set holds behind the first i texts -/
def Has (xs : List Str) (i : Nat) : Str → Bool := fun y => (xs.take i).any (· == y)
theorem has_zero (xs : List Str) (y : Str) : Has xs 0 y = false := rfl
theorem has_next {xs : List Str} {i : Nat} (h : i < xs.length) (y : Str) : Has xs (i + 1) y = (Has xs i y || decide (y = xs.getD i Str.empty)) := by
  unfold Has
  rw [List.take_add_one, List.getElem?_eq_getElem h, List.any_append, List.getD_eq_getElem?_getD, List.getElem?_eq_getElem h]
  show (_ || [xs[i]].any (· == y)) = (_ || decide (y = xs[i]))
  congr 1
  by_cases e : y = xs[i]
  · rw [e]; simp
  · rw [decide_eq_false e]
    have e2 : ¬ xs[i] = y := fun z => e z.symm
    simp [e2]
theorem has_new {xs : List Str} (nd : xs.Nodup) {i : Nat} (h : i < xs.length) : Has xs i (xs.getD i Str.empty) = false := by
  cases q : Has xs i (xs.getD i Str.empty) with
  | false => rfl
  | true =>
    obtain ⟨y, hy, e⟩ := List.any_eq_true.mp q
    have e := eq_of_beq e
    obtain ⟨j, hj, ej⟩ := List.getElem_of_mem hy
    rw [List.length_take] at hj
    rw [List.getElem_take] at ej
    rw [List.getD_eq_getElem?_getD, List.getElem?_eq_getElem h] at e
    exact absurd (ej.trans e) (List.pairwise_iff_getElem.mp nd j i (by omega) h (by omega))
section
variable {p : Program} {w : World} {B : Around} {Z : Result → Shared → Prop} {it : Addr} {seen wrote : List Addr} {J : Array GenState → Array GenState → Prop} {m : Nat} {Is : Nat → Value → Prop} {At : Nat → Shared → Prop}
/-- the loop that puts the texts in -/
theorem puts_in (walk : WalksS p w B.in1 it seen wrote J m Is At) (a : Addr) (ha : a ∉ seen) (xs : List Str) (hl : xs.length = m) (few : m ≤ 60) (nd : xs.Nodup) (txt : ∀ i v, Is i v → ∃ t, v = .str (xs.getD i Str.empty) t) :
    ∀ (left i : Nat) (s : Shared), m - i = left → i ≤ m → At i s → s.heap.SetOf (strKind p w) a (Has xs i) i →
      (∀ z, Moved (a :: wrote) J s z → z.heap.SetOf (strKind p w) a (Has xs m) m → Z (.ok (.ret .none)) z) → codeAny (model p w) B (.builtin "set.update.loop" ⟨[.ref a, .ref it], []⟩) Z s := by
  have aw : a ∉ wrote := fun h => ha (walk.sub _ h)
  have inn : ∀ b ∈ wrote, b ∈ a :: wrote := fun b => List.mem_cons_of_mem a
  have stays : ∀ {x z : Shared} {S : Str → Bool} {c : Nat}, Moved wrote J x z → x.heap.SetOf (strKind p w) a S c → z.heap.SetOf (strKind p w) a S c := fun mv q => by
    obtain ⟨o, es, ep, t, ho, r⟩ := q
    exact ⟨o, es, ep, t, mv.heap a _ aw ho, r⟩
  intro left
  induction left with
  | zero =>
    intro i s e hi st hs fin
    obtain rfl : i = m := by omega
    refine codeAny_builtin F.entry_set_update_loop ?_
    rw [Around.under_plainId F.plain_set_update_loop _]
    show wpAny _ B.in1 (pyNext (.ref it) >>= _) _ _ s
    exact wpAny_bind (walk.done s _ _ st fun z mv => wpAny_pure (fin z (mv.mono inn) (stays mv hs)))
  | succ left ih =>
    intro i s e hi st hs fin
    have lt : i < m := by omega
    refine codeAny_builtin F.entry_set_update_loop ?_
    rw [Around.under_plainId F.plain_set_update_loop _]
    show wpAny _ B.in1 (pyNext (.ref it) >>= _) _ _ s
    refine wpAny_bind (walk.item i s _ _ lt st fun v z pv st2 mv => ?_)
    obtain ⟨t, rfl⟩ := txt i v pv
    show wpAny _ B.in1 (holding [Value.str (xs.getD i Str.empty) t] (setAdd a (.str (xs.getD i Str.empty) t)) >>= _) _ _ z
    refine wpAny_bind (wpAny_holding ?_)
    unfold setAdd
    refine wpAny_holding (wpAny_bind ((strKind p w).pyHash (k := xs.getD i Str.empty) (strKind_is _ _ _ _) ?_))
    refine wpAny_setAddHashed_of (knd := strKind p w) (s := { z with toks := z.toks + 1 }) (strKind_is _ _ _ _) rfl (show z.heap.SetOf (strKind p w) a (Has xs i) i from stays mv hs) (by unfold scanBound; omega) fun h2 sb hs2 => ?_
    have hs3 : h2.SetOf (strKind p w) a (Has xs (i + 1)) (i + 1) := by
      refine SetOf_congr hs2 (fun y => (has_next (by omega) y).symm) ?_
      rw [has_new nd (by omega)]; rfl
    refine wpAny_pure ⟨plainId_quiet F.plain_set_update_loop _, ih (i + 1) _ (by omega) lt (walk.frame _ z _ _ st2 (Nat.le_succ _) fun b hb o eo => ?_) hs3 fun z2 mv2 hz2 => ?_⟩
    · rw [sb.2 b fun h => ha (h ▸ hb)]; exact eo
    · refine fin z2 (Moved.trans walk.gtrans ((mv.mono inn).then_heap (Nat.le_succ _) fun b o hb eo => ?_) mv2) hz2
      rw [sb.2 b fun h => hb (h ▸ List.mem_cons_self)]; exact eo
end
section
variable {p : Program} {w : World} {B : Around} {E : Value → Shared → Prop} {s : Shared}
set_option maxHeartbeats 3200000 in
/-- set(t), t a tuple of unlike texts -/
theorem set_tup {l : Addr} {its : Array Value} {xs : List Str} {Q : Value → Shared → Prop} (calm : B.handled = none) (tl : s.heap.IsTuple l its) (ts : StrsAre its.toList xs) (few : xs.length ≤ 60) (nd : xs.Nodup)
    (fin : ∀ (g : Heap) (tk : Nat), g.SetOf (strKind p w) s.heap.objs.size (Has xs xs.length) xs.length → (∀ b o, b < s.heap.objs.size → s.heap.get? b = some o → g.get? b = some o) → Q (.ref s.heap.objs.size) { s with heap := g, toks := tk }) :
    wpAny (model p w) B (call (.type "set") [.ref l]) Q E s := by
  have hlen : xs.length = its.size := by rw [← StrsAre.len_eq ts, Array.length_toList]
  obtain ⟨c0, t0, q0⟩ := PySem.F.called_set.mro
  have q1 := PySem.F.called_set.made
  have q2 := PySem.F.called_set.sub
  refine wpAny_call (codeAny_of_tree ?_)
  show wpAny _ _ (callAny (.type "set") _) _ _ _
  refine wpAny_pure ⟨Code.quiet_builtin _ (by decide +kernel), codeAny_builtin PySem.F.entry_type_call ?_⟩
  rw [Around.under_plain (weight_type_call_type "set" [.ref l] []) rfl]
  have q3 := PySem.F.called_set.notType
  have q4 := PySem.F.called_set.canCreate
  have q5 := PySem.F.typeCall_set_1 (.ref l)
  repeat (any_goals (first | assumption | wp_step))
  refine codeAny_mono (code_set_new_1 (.ref l) (E := E) (Q₁ := fun v z => ∃ led : Bool, v = .ref s.heap.objs.size ∧ z = { s with heap := s.heap.push { cls := .type "set", dict := none, data := .set #[] 0 (.fresh 0 0 led) } }) fun led => ⟨led, rfl, rfl⟩) fun r z hz => ?_
  rcases r with e | fl
  · exact hz
  cases fl
  case ret v =>
    obtain ⟨led, rfl, rfl⟩ := hz
    -- the new set at a, the tuple as it was
    have fresh : (s.heap.push { cls := .type "set", dict := none, data := .set #[] 0 (.fresh 0 0 led) }).get? s.heap.objs.size = some { cls := .type "set", dict := none, data := .set #[] 0 (.fresh 0 0 led) } := Heap.get?_push_size _ rfl
    have isSet : Shared.TypeIs { s with heap := s.heap.push { cls := .type "set", dict := none, data := .set #[] 0 (.fresh 0 0 led) } } (.ref s.heap.objs.size) "set" := ⟨_, fresh, rfl⟩
    have q6 := PySem.F.called_set.init.lookup
    have q7 := PySem.F.called_set.init.bind (.ref s.heap.objs.size)
    have tl2 : (s.heap.push { cls := .type "set", dict := none, data := .set #[] 0 (.fresh 0 0 led) }).IsTuple l its := tl.push _
    have below : l < s.heap.objs.size := let ⟨_, h, _⟩ := tl; Heap.lt_size h
    repeat (any_goals (first | assumption | wp_step))
    refine codeAny_mono (codeAny_call_builtin (R := wants (fun v z => v = .none ∧ ∃ g tk, z = { s with heap := g, toks := tk } ∧ g.SetOf (strKind p w) s.heap.objs.size (Has xs xs.length) xs.length ∧
      ∀ b o, b < s.heap.objs.size → s.heap.get? b = some o → g.get? b = some o) E) PySem.F.called_set.init.plain PySem.F.entry_set_init (check_set_init_1 isSet ?_)) fun r z hz => ?_
    · obtain ⟨⟨c, dd, dt, sl⟩, hol, hc, nl, hd⟩ := tl
      simp only at hc hd
      subst hc
      subst hd
      have q8 := PySem.F.sub_tuple_set
      have q9 := PySem.F.sub_tuple_frozenset
      have qa : (Value.type "tuple" == Value.type "dict") = false := by decide
      have seenL : (s.heap.push { cls := .type "set", dict := none, data := .set #[] 0 (.fresh 0 0 led) }).get? l = some { cls := .type "tuple", dict := dd, data := .seq its nl, slots := sl } := Heap.get?_push_of_some _ hol
      unfold Builtin.«set.__init__» noKeywords Builtin.Frozenset.updateFrom
      generalize hIt : pyIter = It
      wp_walk
      subst hIt
      refine wpAny_pyIter_tuple tl2 (wpAny_bind (wpAny_runValue ?_))
      have szP : (s.heap.push { cls := .type "set", dict := none, data := .set #[] 0 (.fresh 0 0 led) }).objs.size = s.heap.objs.size + 1 := Heap.size_push ..
      have lI : l ≠ (s.heap.push { cls := .type "set", dict := none, data := .set #[] 0 (.fresh 0 0 led) }).objs.size := by rw [szP]; exact Nat.ne_of_lt (Nat.lt_succ_of_lt below)
      have aOut : s.heap.objs.size ∉ [(s.heap.push { cls := .type "set", dict := none, data := .set #[] 0 (.fresh 0 0 led) }).objs.size, l] := by
        rw [szP]
        intro h
        rcases List.mem_cons.mp h with e | h
        · exact absurd e (Nat.ne_of_lt (Nat.lt_succ_self _))
        · exact absurd (List.mem_singleton.mp h).symm (Nat.ne_of_lt below)
      have txt : ∀ (i : Nat) (v : Value), its[i]? = some v → ∃ t, v = .str (xs.getD i Str.empty) t := fun i v hv => SS.strs_at ts i v (by rw [Array.getElem?_toList]; exact hv)
      have quiet3 : B.in1.in1.in1.handled = none := by simp [calm]
      refine puts_in ((Walks.tuple quiet3 _ l lI its).toS) s.heap.objs.size aOut xs hlen (by omega) nd txt (its.size - 0) 0 _ rfl (Nat.zero_le _) ⟨⟨_, Heap.get?_push_size _ rfl, rfl, rfl⟩, tl2.push _⟩ ?_ ?_
      · have kept : ((s.heap.push { cls := .type "set", dict := none, data := .set #[] 0 (.fresh 0 0 led) }).push { cls := .type "tuple_iterator", data := .fields #[.ref l, .int 0 0] }).get? s.heap.objs.size = some { cls := .type "set", dict := none, data := .set #[] 0 (.fresh 0 0 led) } := Heap.get?_push_of_some _ fresh
        exact SetOf_congr ((setObjOf_fresh (knd := strKind p w) led).setOf kept (by unfold scanBound; omega)) (fun _ => rfl) rfl
      · rintro ⟨g, gn, dr, tk, os⟩ mv hg
        obtain rfl : gn = s.gens := mv.gens
        obtain rfl : dr = s.drawn := mv.drawn
        obtain rfl : os = s.os := mv.os
        show wpAny _ _ _ _ _ _
        refine wpAny_pure ?_
        show wpAny _ _ (ret Value.none) _ _ _
        refine wpAny_pure ⟨rfl, g, tk, rfl, by rw [hlen]; exact hg, fun b o hb e => ?_⟩
        refine mv.heap b o (fun h => ?_) (Heap.get?_push_of_some _ (Heap.get?_push_of_some _ e))
        rcases List.mem_cons.mp h with e2 | h
        · exact absurd e2 (Nat.ne_of_lt hb)
        · have e3 := List.mem_singleton.mp h
          rw [szP] at e3
          exact absurd e3 (Nat.ne_of_lt (Nat.lt_succ_of_lt hb))
    · rcases r with e | fl
      · exact hz
      cases fl
      case ret v =>
        obtain ⟨rfl, g, tk, rfl, hg, hk⟩ := hz
        repeat (any_goals (first | assumption | wp_step))
        exact fin _ _ hg hk
      all_goals exact hz.elim
  all_goals exact hz.elim
end
end KS
namespace KN
open PySem PySem.Spec PyProof.Rows L2
/-- len(set(t)), t a tuple of unlike texts -/
def tLenSetT (K : PySem.W.Frag) (ta : TE) : TE := fun σ H Q => ta σ H fun x H1 => ∃ l, ∃ ss : List Str, x = .ref l ∧ SqT K H1 l (ss.map V.str) ∧ ss.length ≤ 60 ∧ ss.Nodup ∧ Q (.int ss.length) H1
theorem pe_lenSetT {X : Cx} {a : Expr} {ta : TE} {p p2 q pos : Pos} (calm : X.calm = true) (g1 : Gl X "len") (m1 : X.mg "len" = none) (g2 : Gl X "set") (m2 : X.mg "set" = none) (ha : PE X a ta)
    (one : starEach [a] X.env = (false, eval a X.env) :: starEach [] X.env := by rfl) : PE X (.Call (.Name "len" p) [.Call (.Name "set" p2) [a] [] q] [] pos) (tLenSetT X.K ta) := ⟨fun pins s σ H Q I h => by
  refine Call_ (ld_blt I g1 m1 boot_len (callWith_builtin1 (args_cons ?_ rfl) rfl rfl))
  refine Call_ (ld_blt I g2 m2 boot_set (callWith_type1 (args_cons (thn (ha.run pins s σ H _ I h) fun v z ⟨x, H1, J, rx, k⟩ => args_nil ?_) one) one rfl))
  obtain ⟨l, ss, rfl, sq, few, nd, k⟩ := k
  obtain rfl : v = Value.ref l := rx
  obtain ⟨its, r, pl, _⟩ := J.tuple sq
  refine KS.set_tup (J.ok.hd calm) pl (by simpa using strsAre_of r) few nd fun g tk hs keep => args_nil ?_
  obtain ⟨o, es, ep, t, ho, hex, hd, _, _, _, hf, hn⟩ := hs
  have J2 : Inv X pins σ H1 { z with heap := g, toks := tk } := J.kept fun b o e => keep b o (Heap.lt_size e) e
  exact call_len_set ho hex hd hf (by rw [hn] <;> omega) ⟨.int ss.length, H1, J2.tok _, ⟨_, by rw [hn]⟩, k⟩⟩
end KN
set_option Elab.async false
set_option linter.all false
set_option maxRecDepth 100000
set_option maxHeartbeats 4000000
namespace KN
open PySem L2
def top (i : Nat) : Stmt := PySem.Challenge.pw_kindnames_k04_takers_and_strikes.main.body.getD i (.Pass ⟨0, 0, 0, 0⟩)

/-- all but p is kept -/
def Kp (p : Addr) (H H' : Hp) : Prop := ∀ a o, a ≠ p → H a = some o → H' a = some o
theorem Kp.refl (p : Addr) (H : Hp) : Kp p H H := fun _ _ _ h => h
theorem Kp.trans {p : Addr} {H H1 H2 : Hp} (a : Kp p H H1) (b : Kp p H1 H2) : Kp p H H2 := fun c o n h => b c o n (a c o n h)
theorem Kp.of {p : Addr} {H H' : Hp} (s : Same H H') : Kp p H H' := fun a o _ h => s a o h
theorem Kp.new {p q : Addr} {H : Hp} {o : HO} (h : H q = none) : Kp p H (upd H q o) := Kp.of (Same.new h)
theorem Kp.put {p : Addr} {H : Hp} {o : HO} : Kp p H (upd H p o) := fun a u n h => by rw [upd_ne n]; exact h
theorem Kp.tk {p : Addr} {H H' : Hp} {kvs : List (Key × V)} (k : Kp p H H') (h : H p = some (.dK kvs)) : TK H H' := fun b xs e =>
  k b _ (fun z => by subst z; rw [h] at e; cases e) e
theorem Kp.free {p a : Addr} {H H' : Hp} (k : Kp p H H') (n : a ≠ p) (h : H' a = none) : H a = none := by
  cases q : H a with
  | none => rfl
  | some o => rw [k a o n q] at h; cases h

def penD (c : Addr) (n m : Int) : List (Key × V) := [(.inr "cells", .ref c), (.inr "at", .int n), (.inr "left", .int m)]
/-- the pen stands at p, its place at most b -/
def Pen (H : Hp) (p c : Addr) (b : Int) : Prop := ∃ (n m : Int) (ns : List Int), H p = some (.dK (penD c n m)) ∧ H c = some (.lst (ns.map V.int)) ∧ ns.length ≤ 63 ∧ 0 ≤ n ∧ n ≤ b
theorem pen_cells (c : Addr) (n m : Int) : valV (penD c n m) (.inr "cells") = some (.ref c) := by
  unfold penD; rw [valV_pos rfl]
theorem kne {x y : Str} (h : ¬ x = y) : ¬ ((Sum.inr x : Key) = Sum.inr y) := fun z => h (Sum.inr.inj z)
theorem ca0 : ¬ (("cells" : Str) = ("at" : Str)) := by decide +kernel
theorem cl0 : ¬ (("cells" : Str) = ("left" : Str)) := by decide +kernel
theorem al0 : ¬ (("at" : Str) = ("left" : Str)) := by decide +kernel
theorem la0 : ¬ (("left" : Str) = ("at" : Str)) := by decide +kernel
theorem ca_ : ¬ ((Sum.inr ("cells" : Str) : Key) = Sum.inr ("at" : Str)) := kne (by decide +kernel)
theorem cl_ : ¬ ((Sum.inr ("cells" : Str) : Key) = Sum.inr ("left" : Str)) := kne (by decide +kernel)
theorem al_ : ¬ ((Sum.inr ("at" : Str) : Key) = Sum.inr ("left" : Str)) := kne (by decide +kernel)
theorem la_ : ¬ ((Sum.inr ("left" : Str) : Key) = Sum.inr ("at" : Str)) := kne (by decide +kernel)
theorem pen_at (c : Addr) (n m : Int) : valV (penD c n m) (.inr "at") = some (.int n) := by
  unfold penD; rw [valV_neg ca_, valV_pos rfl]
theorem pen_left (c : Addr) (n m : Int) : valV (penD c n m) (.inr "left") = some (.int m) := by
  unfold penD; rw [valV_neg cl_, valV_neg al_, valV_pos rfl]
theorem pen_put_at (c : Addr) (n m k : Int) : putK (penD c n m) (.inr "at") (.int k) = penD c k m := by
  simp [putK, penD, ca0, la0]
theorem pen_put_left (c : Addr) (n m k : Int) : putK (penD c n m) (.inr "left") (.int k) = penD c n k := by
  simp [putK, penD, cl0, al0]
theorem Pen.to {H H' : Hp} {p c : Addr} {b : Int} (h : Pen H p c b) (s : Same H H') : Pen H' p c b :=
  let ⟨n, m, ns, e1, e2, r⟩ := h
  ⟨n, m, ns, s _ _ e1, s _ _ e2, r⟩
theorem Pen.up {H : Hp} {p c : Addr} {b b' : Int} (h : Pen H p c b) (l : b ≤ b') : Pen H p c b' :=
  let ⟨n, m, ns, e1, e2, e3, e4, e5⟩ := h
  ⟨n, m, ns, e1, e2, e3, e4, Int.le_trans e5 l⟩
theorem Pen.tk {H H' : Hp} {p c : Addr} {b : Int} (h : Pen H p c b) (k : Kp p H H') : TK H H' :=
  let ⟨_, _, _, e1, _⟩ := h
  k.tk e1
/-- what is neither the pen nor its cells may change -/
theorem Pen.keep {H H' : Hp} {p c : Addr} {b : Int} (h : Pen H p c b) (k : ∀ a o, a = p ∨ a = c → H a = some o → H' a = some o) : Pen H' p c b :=
  let ⟨n, m, ns, e1, e2, r⟩ := h
  ⟨n, m, ns, k _ _ (.inl rfl) e1, k _ _ (.inr rfl) e2, r⟩
theorem Pen.here {H : Hp} {p c : Addr} {b : Int} (h : Pen H p c b) : (∃ o, H p = some o) ∧ ∃ o, H c = some o :=
  let ⟨_, _, _, e1, e2, _⟩ := h
  ⟨⟨_, e1⟩, _, e2⟩
/-- a new thing is neither the pen nor its cells -/
theorem Pen.off {H : Hp} {p c a : Addr} {b : Int} (h : Pen H p c b) (e : H a = none) : a ≠ p ∧ a ≠ c :=
  let ⟨_, _, _, e1, e2, _⟩ := h
  ⟨(ne_of_none e1 e).symm, (ne_of_none e2 e).symm⟩
theorem Pen.put {H : Hp} {p c a : Addr} {b : Int} {o : HO} (h : Pen H p c b) (n : a ≠ p ∧ a ≠ c) : Pen (upd H a o) p c b :=
  h.keep fun x u hx e => by
    rw [upd_ne (fun z => by subst z; exact hx.elim n.1 n.2)]; exact e
theorem Pen.ne {H : Hp} {p c a : Addr} {b : Int} {xs : List V} (h : Pen H p c b) (e : H a = some (.lst xs)) : a ≠ p :=
  let ⟨_, _, _, e1, _⟩ := h
  fun z => by subst z; rw [e1] at e; cases e

def spPen (K : PySem.W.Frag) : Sp := fun vs H Q _ => ∃ (a : Addr) (ns : List Int), vs = [.ref a] ∧ SqL K H a (ns.map V.int) ∧ ns.length ≤ 63 ∧
  ∀ H' p c, Same H H' → H p = none → H c = none → Pen H' p c 0 → Q (.ref p) H'
def spDraw : Sp := fun vs H Q _ => ∃ (p c : Addr) (b many : Int), vs = [.ref p, .int many] ∧ Pen H p c b ∧ b ≤ 1000000000000 ∧ 1 ≤ many ∧ many < 1000000 ∧
  ∀ H' r, Kp p H H' → Pen H' p c (b + 1) → 0 ≤ r → r < many → Q (.int r) H'

section
variable {P : Program} {w : World} {K : PySem.W.Frag} {mg : Str → Option Value} {base : Heap}
abbrev s__law_pen : Stmt := top 28
theorem sc__law_pen : FnScope ["_law_script", "_law_cell"] ["_law_script"] (defScope s__law_pen) := ⟨rfl, rfl, rfl, by decide +kernel, rfl, by decide +kernel, by decide +kernel⟩
theorem ok__law_pen {f : Addr} {fd : FuncData} (F : Fun K "_law_pen" "_law_pen" s__law_pen f fd) : FnOk P w K mg base CX0 1 f fd ["_law_script"] (spPen K) := by
  refine F.ok sc__law_pen (fun vs H Q E h => ?_) (fun cdv A outer s H vs Q E hr h => ?_)
  · obtain ⟨a, ns, rfl, _⟩ := h; rfl
  · obtain ⟨a, ns, rfl, hS, hlen, k⟩ := h
    refine ⟨_, (pss_one (ps_ret (pe_disp (pps_cons pe_str (pe_lc (own := [("_law_cell", 1)]) (g := gName 1) (tt := tYes) rfl sc__law_pen.nd (pi_list (pe_slice sl_list (pv 0) po_none (po_some pe_int))) (blkOk_by (own := [("_law_cell", 1)]) (N := ["_law_script", "_law_cell"]) (sc := defScope s__law_pen) (by decide +kernel)) (fun _ _ _ _ _ => pg_name (i := 1) sc__law_pen.nd rfl (Or.inl rfl)) (fun _ _ _ _ _ => pts_nil) (fun _ _ _ _ _ => (pv 1))) (pps_cons pe_str pe_int (pps_cons pe_str pe_int pps_nil))) (by rfl) (by rfl) (fun z => by cases z) (by decide)))), ?_⟩
    intro p hp
    have e63 : cutV (ns.map V.int) none (some 63) = ns.map V.int := by
      unfold cutV
      rw [HT.sIx_none, List.drop_zero, List.take_of_length_le]
      rw [show (some (63 : Int)) = some ((63 : Nat) : Int) from rfl, HT.sIx_nat, List.length_map]; omega
    have s1 : Same H (upd H p (.dK [])) := Same.new hp
    refine ⟨_, rfl, _, rfl, a, _, rfl, s1.seq hS, fun l hl => ?_⟩
    rw [e63]
    have s2 : Same (upd H p (.dK [])) (upd (upd H p (.dK [])) l (.lst (ns.map V.int))) := Same.new hl
    refine ⟨l, rfl, ⟨_, SqL.of upd_same⟩, fun D hD => ?_⟩
    refine lc_list (K := K) (a := l) (xs := ns.map V.int) (fun i H' => Same (upd (upd H p (.dK [])) l (.lst (ns.map V.int))) H' ∧ H' D = some (.lst ((ns.map V.int).take i)))
      ⟨Same.new hD, upd_same⟩ (fun i H' _ q => SqL.of (q.1 _ _ upd_same)) ?_ ?_
    · rintro i x H' hi ⟨q1, q2⟩
      refine ⟨rfl, _, rfl, _, q2, ?_, fun b o e => ?_, ?_⟩
      · have := List.length_take_le' i (ns.map V.int)
        rw [List.length_map] at this
        exact small1000 (by omega)
      · rw [upd_ne (fun z => by subst z; rw [e] at hD; cases hD)]
        exact q1 _ _ e
      · rw [upd_same, List.take_add_one, hi]; rfl
    · rintro H' ⟨q1, q2⟩
      rw [List.take_of_length_le (Nat.le_refl _)] at q2
      refine ⟨q1 _ _ (s2 _ _ upd_same), [(.inr "cells", .ref D), (.inr "at", .int 0), (.inr "left", .int 0)], rfl, (by show 3 ≤ 15; decide), ?_⟩
      have e : mergeK [] [((Sum.inr "cells" : Key), V.ref D), (Sum.inr "at", .int 0), (Sum.inr "left", .int 0)] = penD D 0 0 := by
        simp [mergeK, putK, penD, ca0, cl0, al0]
      rw [e]
      have np : D ≠ p := fun z => by subst z; rw [s2 _ _ upd_same] at hD; cases hD
      have hD0 : H D = none := s1.free (s2.free hD)
      refine k _ _ D (fun b o e => ?_) hp hD0 ⟨0, 0, ns, upd_same, by rw [upd_ne np]; exact q2, hlen, Int.le_refl _, Int.le_refl _⟩
      rw [upd_ne (ne_of_none e hp)]
      exact q1 _ _ (s2 _ _ (s1 _ _ e))

theorem depth_ints : ∀ ns : List Int, PyData.depthAll (ns.map PyData.int) ≤ 1
  | [] => by simp [PyData.depthAll]
  | n :: ns => by have := depth_ints ns; simp [PyData.depthAll, PyData.depth]; omega
theorem shaped_ints (ns : List Int) : SeqAt.shaped (.list (ns.map PyData.int)) = true := by
  have h : okDs (ns.map PyData.int) = true := okDs_all.mpr fun d hd => by
    obtain ⟨i, _, rfl⟩ := List.mem_map.mp hd; rfl
  refine shaped_of (by simpa [okD] using h) ?_
  have := depth_ints ns
  simp [PyData.depth]; omega
theorem draw_ok {n : Int} (h : 0 ≤ n) (l : n ≤ 1000000000000) : -(2 ^ 64) < n ∧ n < 2 ^ 64 := by omega
theorem mod_lt {x m : Int} (h : 0 < m) : 0 ≤ x % m ∧ x % m < m := ⟨Int.emod_nonneg _ (by omega), Int.emod_lt_of_pos _ h⟩
abbrev s__law_draw : Stmt := top 29
theorem sc__law_draw : FnScope ["_law_pen_here", "_law_many", "_law_digit", "_law_at", "_law_cell", "_law_number", "_law_again"] ["_law_pen_here", "_law_many"] (defScope s__law_draw) := ⟨rfl, rfl, rfl, by decide +kernel, rfl, by decide +kernel, by decide +kernel⟩
theorem ok__law_draw {f : Addr} {fd : FuncData} (F : Fun K "_law_draw" "_law_draw" s__law_draw f fd) (m_len : mg "len" = none) (m_abs : mg "abs" = none) (m_range : mg "range" = none) : FnOk P w K mg base CX0 1 f fd ["_law_pen_here", "_law_many"] spDraw := by
  refine F.ok sc__law_draw (fun vs H Q E h => ?_) (fun cdv A outer s H vs Q E hr h => ?_)
  · obtain ⟨p, c, b, many, rfl, _⟩ := h; rfl
  · obtain ⟨p, c, b, many, rfl, ⟨n, m, ns, hp, hc, h63, hn0, hnb⟩, hb, h1, h2, k⟩ := h
    have hu := hu_of hr
    refine ⟨_, (pss_cons (ps_if (pt_cmpR op_gt (pe_dget hu (pv 0) pe_str (fun _ _ => rfl)) pe_int (nomark _)) (pss_cons (ps_set (i := 2) sc__law_draw.nd rfl (Or.inl rfl) (pe_op op_mod (pe_dget hu (pv 0) pe_str (fun _ _ => rfl)) (pv 1)))
      (pss_cons (ps_dput hu (pv 0) pe_str (pe_op op_fdiv (pe_dget hu (pv 0) pe_str (fun _ _ => rfl)) (pv 1)) rfl)
      (pss_one (ps_ret (pv 2))))) pss_nil)
      (pss_cons (ps_set (i := 3) sc__law_draw.nd rfl (Or.inl rfl) (pe_dget hu (pv 0) pe_str (fun _ _ => rfl)))
      (pss_cons (ps_dput hu (pv 0) pe_str (pe_op op_add (pv 3) pe_int) rfl)
      (pss_cons (ps_set (i := 4) sc__law_draw.nd rfl (Or.inl rfl) (pe_op op_add (pe_op op_mul (pv 3) (pv 3)) pe_int))
      (C8.pss_cut (ps_if (pt_cmpR (op_neD hr.units) (pe_dget hu (pv 0) pe_str (fun _ _ => rfl)) (pe_lst pa_nil) (nomark _)) (pss_one (ps_set (i := 4) sc__law_draw.nd rfl (Or.inl rfl) (pe_ix ix_list (pe_dget hu (pv 0) pe_str (fun _ _ => rfl)) (pe_op op_mod (pv 3) (pe_callB call_len_seq (by rfl) m_len (by decide +kernel) (pa_cons (pe_dget hu (pv 0) pe_str (fun _ _ => rfl)) pa_nil))) (fun _ _ => rfl)))) pss_nil)
      (C8.pss_cut (ps_if (PW.pt (pw_and (pt_cmpR op_lt (pv 3) (pe_callB call_len_seq (by rfl) m_len (by decide +kernel) (pa_cons (pe_dget hu (pv 0) pe_str (fun _ _ => rfl)) pa_nil)) (nomark _)) (pw_and1 (pt_cmpR op_ge (pe_callB call_abs (by rfl) m_abs (by decide +kernel) (pa_cons (pv 4) pa_nil)) (pe_op op_pow pe_int pe_int) (nomark _))))) (pss_cons (ps_dput hu (pv 0) pe_str (pe_op op_fdiv (pe_callB call_abs (by rfl) m_abs (by decide +kernel) (pa_cons (pv 4) pa_nil)) (pv 1)) rfl)
      (pss_one (ps_ret (pe_op op_mod (pe_callB call_abs (by rfl) m_abs (by decide +kernel) (pa_cons (pv 4) pa_nil)) (pv 1))))) pss_nil)
      (pss_cons (ps_set (i := 5) sc__law_draw.nd rfl (Or.inl rfl) (pe_op op_mod (pe_op op_mul (pe_op op_add (pe_op op_add (pe_op op_mod (pv 4) pe_int) (pe_op op_mul pe_int (pv 3))) pe_int) pe_int) pe_int))
      (pss_cons (ps_for PassesOwn.never rfl (pi_range1 rfl m_range (pa_cons pe_int pa_nil)) (pg_name (i := 6) sc__law_draw.nd rfl (Or.inl rfl))
      (pss_cons (ps_set (i := 5) sc__law_draw.nd rfl (Or.inl rfl) (pe_op op_add (pe_op op_add (pe_op op_add (pe_op op_mul (pv 5) (pv 5)) (pe_op op_mul pe_int (pv 5))) (pv 3)) (pv 6)))
      (pss_one (ps_set (i := 5) sc__law_draw.nd rfl (Or.inl rfl) (pe_op op_mod (pv 5) pe_int)))))
      (pss_one (ps_ret (pe_op op_mod (pe_op op_fdiv (pv 5) pe_int) (pv 1)))))))))))), ?_⟩
    have ncp : c ≠ p := ne_of hc hp (by intro z; cases z)
    have gl : DGet H p (.str "left") (some (.int m)) := by
      have := DGet.k (k := .inr "left") hp; rw [pen_left] at this; exact this
    have ga : DGet H p (.str "at") (some (.int n)) := by
      have := DGet.k (k := .inr "at") hp; rw [pen_at] at this; exact this
    refine ⟨_, rfl, p, _, rfl, gl, _, _, rfl, rfl, _, rfl, ite2 (fun hm => ?_) (fun hm => ?_)⟩
    · -- a digit of what is left
      refine ⟨_, rfl, p, _, rfl, gl, _, rfl, _, _, rfl, rfl, (by show (0 : Int) < many; omega), ?_⟩
      refine ⟨_, rfl, p, _, rfl, gl, _, rfl, _, _, rfl, rfl, (by constructor <;> omega), _, rfl, p, _, rfl, DPut.k (k := .inr "left") hp (by show 3 < sizeLine; decide), _, rfl, ?_⟩
      rw [pen_put_left]
      have q := mod_lt (x := m) (m := many) (by omega)
      exact k _ _ Kp.put ⟨n, _, ns, upd_same, by rw [upd_ne ncp]; exact hc, h63, hn0, by omega⟩ q.1 q.2
    · -- a mixed draw
      refine ⟨_, rfl, p, _, rfl, ga, ?_⟩
      refine ⟨_, rfl, _, _, rfl, rfl, _, rfl, p, _, rfl, DPut.k (k := .inr "at") hp (by show 3 < sizeLine; decide), ?_⟩
      rw [pen_put_at]
      have kb : -(2 ^ 64) < n ∧ n < 2 ^ 64 := draw_ok hn0 (by omega)
      refine ⟨_, rfl, _, rfl, _, _, rfl, rfl, .inl kb, _, _, rfl, rfl, ?_⟩
      refine ⟨fun σ' H' => ∃ z : Int, σ' = [some (.ref p), some (.int many), none, some (.int n), some (.int z), none, none] ∧ Kp p H H' ∧ H' p = some (.dK (penD c (n + 1) m)), ?_, ?_⟩
      · -- if pen["cells"] != []
        have gc : DGet (upd H p (.dK (penD c (n + 1) m))) p (.str "cells") (some (.ref c)) := by
          have := DGet.k (k := .inr "cells") (upd_same (H := H) (a := p) (o := .dK (penD c (n + 1) m))); rw [pen_cells] at this; exact this
        refine ⟨_, rfl, p, _, rfl, gc, Nat.zero_le _, fun l hl => ?_⟩
        have nlp : l ≠ p := fun z => by subst z; rw [upd_same] at hl; cases hl
        have hl0 : H l = none := by rw [upd_ne nlp] at hl; exact hl
        have ncl : c ≠ l := fun z => by subst z; rw [hc] at hl0; cases hl0
        have hc2 : upd (upd H p (.dK (penD c (n + 1) m))) l (.lst []) c = some (.lst (ns.map V.int)) := by rw [upd_ne ncl, upd_ne ncp]; exact hc
        have hp2 : upd (upd H p (.dK (penD c (n + 1) m))) l (.lst []) p = some (.dK (penD c (n + 1) m)) := by rw [upd_ne nlp.symm, upd_same]
        have kp2 : Kp p H (upd (upd H p (.dK (penD c (n + 1) m))) l (.lst [])) := Kp.put.trans (Kp.new hl)
        have ls : Ls (upd (upd H p (.dK (penD c (n + 1) m))) l (.lst [])) c (ns.map PyData.int) := ⟨_, hc2, TpAll.ints ns⟩
        have le : Ls (upd (upd H p (.dK (penD c (n + 1) m))) l (.lst [])) l [] := ⟨_, upd_same, .nil⟩
        refine ⟨_, _, ls.dp, le.dp, shaped_ints ns, rfl, _, rfl, ?_⟩
        cases ns with
        | nil =>
          refine iteF ?_
          exact ⟨n * n + 5, rfl, kp2, hp2⟩
        | cons n0 ns =>
          refine iteT ?_
          have gc2 : DGet (upd (upd H p (.dK (penD c (n + 1) m))) l (.lst [])) p (.str "cells") (some (.ref c)) := by
            have := DGet.k (k := .inr "cells") hp2; rw [pen_cells] at this; exact this
          refine ⟨_, rfl, p, _, rfl, gc2, _, rfl, _, rfl, p, _, rfl, gc2, c, _, rfl, .inl (SqL.of hc2), _, _, rfl, rfl, (by show (0 : Int) < ((List.map V.int (n0 :: ns)).length : Nat); rw [List.length_map, List.length_cons]; omega), ?_⟩
          have hl' : 0 < ((List.map V.int (n0 :: ns)).length : Int) := by rw [List.length_map, List.length_cons]; omega
          have q := mod_lt (x := n) hl'
          obtain ⟨y, hy⟩ : ∃ y, (n0 :: ns)[(n % ((List.map V.int (n0 :: ns)).length : Int)).toNat]? = some y := by
            have hlt : (n % ((List.map V.int (n0 :: ns)).length : Int)).toNat < (n0 :: ns).length := by
              have e := List.length_map (as := n0 :: ns) V.int
              omega
            exact ⟨_, List.getElem?_eq_getElem hlt⟩
          refine ⟨c, _, _, .int y, rfl, rfl, SqL.of hc2, at_of (j := (n % ((List.map V.int (n0 :: ns)).length : Int)).toNat) (by omega) (by rw [List.getElem?_map, hy]; rfl), ?_⟩
          exact ⟨y, rfl, kp2, hp2⟩
      · rintro σ1 H1 ⟨z, rfl, k1, hp1⟩
        have hc1 : H1 c = some (.lst (ns.map V.int)) := k1 _ _ ncp hc
        have gc1 : DGet H1 p (.str "cells") (some (.ref c)) := by
          have := DGet.k (k := .inr "cells") hp1; rw [pen_cells] at this; exact this
        have stay : Pen H1 p c (b + 1) := ⟨n + 1, m, ns, hp1, hc1, h63, by omega, by omega⟩
        refine ⟨fun σ' H' => σ' = [some (.ref p), some (.int many), none, some (.int n), some (.int z), none, none] ∧ H' = H1, ?_, ?_⟩
        refine ⟨_, rfl, _, rfl, p, _, rfl, gc1, c, _, rfl, .inl (SqL.of hc1), _, _, rfl, rfl, _, rfl, ite2 (fun hlt => ?_) (fun hlt => ?_)⟩
        · refine ⟨_, rfl, _, rfl, _, _, rfl, rfl, ⟨by decide, by decide, by decide⟩, _, _, rfl, rfl, _, rfl, ite2 (fun hg => ?_) (fun hg => ?_)⟩
          · refine ⟨_, rfl, _, rfl, _, rfl, _, _, rfl, rfl, (by constructor <;> omega), _, rfl, p, _, rfl, DPut.k (k := .inr "left") hp1 (by show 3 < sizeLine; decide), ?_⟩
            rw [pen_put_left]
            refine ⟨_, rfl, _, rfl, _, rfl, _, _, rfl, rfl, (by show (0 : Int) < many; omega), ?_⟩
            have q := mod_lt (x := if z < 0 then -z else z) (m := many) (by omega)
            exact k _ _ (k1.trans Kp.put) ⟨n + 1, _, ns, upd_same, by rw [upd_ne ncp]; exact hc1, h63, by omega, by omega⟩ q.1 q.2
          · exact ⟨rfl, rfl⟩
        · exact ⟨rfl, rfl⟩
        rintro σ2 H2 ⟨rfl, rfl⟩
        have kz := mod_lt (x := z) (m := 4294967311) (by decide)
        refine ⟨_, rfl, _, _, rfl, rfl, (by show (0 : Int) < 4294967311; decide), _, rfl, _, _, rfl, rfl, .inl (by constructor <;> decide), _, _, rfl, rfl, _, _, rfl, rfl, _, _, rfl, rfl, .inr (by constructor <;> decide), _, _, rfl, rfl, (by show (0 : Int) < 4294967311; decide), ?_⟩
        refine ⟨3, rfl, by decide, by decide, for_range (lo := 0) (n := 3) (fun i σ' H' => H' = H2 ∧ ∃ (y : Int) (v : Option V), σ' = [some (.ref p), some (.int many), none, some (.int n), some (.int z), some (.int y), v] ∧ 0 ≤ y ∧ y < 4294967311)
          ⟨rfl, _, none, rfl, mod_lt (by decide)⟩ ?_ ?_⟩
        · rintro i σ3 H3 hi ⟨rfl, y, v, rfl, y0, y1⟩
          refine ⟨_, rfl, _, rfl, _, _, rfl, rfl, .inl (by constructor <;> omega), _, rfl, _, _, rfl, rfl, .inl (by constructor <;> decide), _, _, rfl, rfl, _, rfl, _, _, rfl, rfl, _, rfl, _, _, rfl, rfl, ?_⟩
          refine ⟨_, rfl, _, _, rfl, rfl, (by show (0 : Int) < 4294967311; decide), ?_⟩
          exact ⟨rfl, _, _, rfl, mod_lt (by decide)⟩
        · rintro σ3 H3 ⟨rfl, y, v, rfl, y0, y1⟩
          refine ⟨_, rfl, _, _, rfl, rfl, (by constructor <;> decide), _, rfl, _, _, rfl, rfl, (by show (0 : Int) < many; omega), ?_⟩
          have q := mod_lt (x := y / 32) (m := many) (by omega)
          exact k _ _ k1 stay q.1 q.2
end
end KN

set_option Elab.async false
set_option linter.all false
set_option maxRecDepth 100000
set_option maxHeartbeats 4000000
namespace KN
open PySem L2
theorem takes_never {X : Cx} : Takes X (fun _ _ _ _ => False) := fun _ _ ⟨_, _, _, _, _, _, _, _, _, _, _, _, _, _, _, _, w⟩ => w.elim
abbrev tl (x : Str) : List Nat := x.cps.toList
/-- a word -/
def Lt (l : List Nat) : Prop := ∀ c ∈ l, 97 ≤ c ∧ c ≤ 122
def IsW (s : Str) : Prop := 1 ≤ (tl s).length ∧ (tl s).length ≤ 12 ∧ Lt (tl s)
theorem Lt.app {a b : List Nat} (h : Lt a) (k : Lt b) : Lt (a ++ b) := fun c hc => (List.mem_append.mp hc).elim (h c) (k c)
theorem Lt.drop {a : List Nat} (h : Lt a) (n : Nat) : Lt (a.drop n) := fun c hc => h c (List.mem_of_mem_drop hc)
theorem Lt.take {a : List Nat} (h : Lt a) (n : Nat) : Lt (a.take n) := fun c hc => h c (List.mem_of_mem_take hc)
theorem tl_cut (z : Str) (lo hi : Option Int) : tl (cutS z lo hi) = ((tl z).drop (HT.sIx z.length 0 lo)).take (HT.sIx z.length z.length hi - HT.sIx z.length 0 lo) := rfl
theorem Lt.cut {z : Str} (h : Lt (tl z)) (lo hi : Option Int) : Lt (tl (cutS z lo hi)) := by rw [tl_cut]; exact (h.drop _).take _
theorem len_cut (z : Str) (lo hi : Option Int) : (tl (cutS z lo hi)).length ≤ (tl z).length := by
  rw [tl_cut, List.length_take, List.length_drop]; omega
theorem slen (z : Str) : z.length = (tl z).length := TL.len_tl z
abbrev letters : Str := "abcdefghijklmnopqrstuvwxyz"
theorem tl_letters : tl letters = (List.range 26).map (· + 97) := by decide +kernel
theorem at_ofG {α : Type} {xs : List α} {i : Int} {v : α} (h : 0 ≤ i) (e : xs[i.toNat]? = some v) : atI xs i = some v := by
  have q := atI_nat (xs := xs) (j := i.toNat) e
  rwa [Int.toNat_of_nonneg h] at q
theorem letter_at {i : Int} (h : 0 ≤ i) (k : i < 26) : atI (tl letters) i = some (i.toNat + 97) := by
  refine at_ofG h ?_
  rw [tl_letters, List.getElem?_map, List.getElem?_range (by omega)]; rfl
theorem letter_ix : ∀ k, k < 26 → (Txt.index0 letters ⟨#[k + 97]⟩).isSome = true ∧ ∀ j, Txt.index0 letters ⟨#[k + 97]⟩ = some j → j = k := by decide +kernel
theorem index_letter {c : Nat} (h : 97 ≤ c ∧ c ≤ 122) : Txt.index0 letters ⟨#[c]⟩ = some (c - 97) := by
  have q := letter_ix (c - 97) (by omega)
  rw [show c - 97 + 97 = c by omega] at q
  cases e : Txt.index0 letters ⟨#[c]⟩ with
  | none => rw [e] at q; exact absurd q.1 (by decide)
  | some j => rw [q.2 j e]
theorem tl_join0 : ∀ ss : List Str, tl (Txt.join "" ss) = (ss.map tl).flatten := by
  intro ss
  have e : tl (Txt.join "" ss) = TL.joinL (tl "") (ss.map tl) := by rw [TL.join_eq]; exact TL.tl_join "" ss
  rw [e]
  have e0 : tl "" = [] := by decide +kernel
  rw [e0]
  generalize ss.map tl = ps
  induction ps with
  | nil => rfl
  | cons p r ih =>
    cases r with
    | nil => simp [TL.joinL]
    | cons q r => simp only [TL.joinL, List.nil_append] at ih ⊢; rw [ih]; rfl

/-- the texts of one letter each -/
def One (ss : List Str) : Prop := ∀ s ∈ ss, ∃ c, tl s = [c] ∧ 97 ≤ c ∧ c ≤ 122
theorem One.word {ss : List Str} (h : One ss) : (tl (Txt.join "" ss)).length = ss.length ∧ Lt (tl (Txt.join "" ss)) := by
  rw [tl_join0]
  induction ss with
  | nil => exact ⟨rfl, fun c hc => by cases hc⟩
  | cons s r ih =>
    obtain ⟨c, e, h1, h2⟩ := h s List.mem_cons_self
    obtain ⟨a, b⟩ := ih fun x hx => h x (List.mem_cons_of_mem _ hx)
    rw [List.map_cons, List.flatten_cons, e]
    refine ⟨by rw [List.length_append, a]; simp; omega, Lt.app (fun d hd => ?_) b⟩
    rw [List.mem_singleton] at hd; subst hd; exact ⟨h1, h2⟩
theorem One.sum {ss : List Str} (h : One ss) : (ss.map (·.length)).sum = ss.length := by
  induction ss with
  | nil => rfl
  | cons s r ih =>
    obtain ⟨c, e, _⟩ := h s List.mem_cons_self
    rw [List.map_cons, List.sum_cons, ih fun x hx => h x (List.mem_cons_of_mem _ hx), slen, e]
    simp; omega

def Odd6 (y : Int) : Prop := y = 3 ∨ y = 5 ∨ y = 7 ∨ y = 9 ∨ y = 11 ∨ y = 15
theorem odd_ne {f y : Int} (h : Odd6 y) {i j : Int} (i0 : 0 ≤ i) (ij : i < j) (jl : j < 26) : (f + y * i) % 26 ≠ (f + y * j) % 26 := by
  unfold Odd6 at h
  rcases h with rfl | rfl | rfl | rfl | rfl | rfl <;> omega
/-- words that are unlike at one place: what stands ahead of it, a letter by its number, anything -/
def Shp (pre : List Nat) (f y : Int) (ss : List Str) : Prop := ∀ (i : Nat) (s : Str), ss[i]? = some s → ∃ r, tl s = pre ++ (((f + y * (0 + (i : Int))) % 26).toNat + 97) :: r
theorem Shp.ne {pre : List Nat} {f y : Int} {ss : List Str} (h : Shp pre f y ss) (o : Odd6 y) (hl : ss.length ≤ 26) {i j : Nat} {s u : Str} (hi : ss[i]? = some s) (hj : ss[j]? = some u) (ij : i < j) : s ≠ u := by
  intro e
  subst e
  obtain ⟨r, h1⟩ := h i s hi
  obtain ⟨q, h2⟩ := h j s hj
  have jl : j < ss.length := (List.getElem?_eq_some_iff.mp hj).1
  have e := List.append_cancel_left (h1.symm.trans h2)
  injection e with e _
  refine odd_ne (f := f) o (i := 0 + (i : Int)) (j := 0 + (j : Int)) (by omega) (by omega) (by omega) ?_
  have q1 := Int.emod_nonneg (f + y * (0 + (i : Int))) (by decide : (26 : Int) ≠ 0)
  have q2 := Int.emod_nonneg (f + y * (0 + (j : Int))) (by decide : (26 : Int) ≠ 0)
  omega
theorem nd_of {ss : List Str} (h : ∀ (i j : Nat) (s u : Str), i < j → ss[i]? = some s → ss[j]? = some u → s ≠ u) : ss.Nodup :=
  List.pairwise_iff_getElem.mpr fun i j hi hj ij => h i j _ _ ij (List.getElem?_eq_getElem hi) (List.getElem?_eq_getElem hj)
theorem Shp.nd {pre : List Nat} {f y : Int} {ss : List Str} (h : Shp pre f y ss) (o : Odd6 y) (hl : ss.length ≤ 26) : ss.Nodup := nd_of fun _ _ _ _ ij hi hj => h.ne o hl hi hj ij
/-- one of them put short -/
theorem Shp.nd_set {pre : List Nat} {f y : Int} {ss : List Str} (h : Shp pre f y ss) (o : Odd6 y) (hl : ss.length ≤ 26) (k : Nat) {z : Str} (hz : (tl z).length = pre.length) : (ss.set k z).Nodup := by
  have no : ∀ i s, ss[i]? = some s → s ≠ z := fun i s hi e => by
    obtain ⟨r, hr⟩ := h i s hi
    rw [e] at hr
    have := congrArg List.length hr
    rw [List.length_append, List.length_cons] at this
    omega
  have at' : ∀ i s, (ss.set k z)[i]? = some s → (i = k ∧ s = z) ∨ (i ≠ k ∧ ss[i]? = some s) := fun i s hi => by
    rw [List.getElem?_set] at hi
    by_cases e : k = i
    · rw [if_pos e] at hi
      split at hi
      · exact .inl ⟨e.symm, (Option.some.inj hi).symm⟩
      · cases hi
    · rw [if_neg e] at hi; exact .inr ⟨fun q => e q.symm, hi⟩
  refine nd_of fun i j s u ij hi hj => ?_
  rcases at' i s hi with ⟨e1, rfl⟩ | ⟨_, h1⟩ <;> rcases at' j u hj with ⟨e2, rfl⟩ | ⟨_, h2⟩
  · omega
  · exact (no j u h2).symm
  · exact no i s h1
  · exact h.ne o hl h1 h2 ij
theorem six_at {r : Int} (h : 0 ≤ r) (k : r < 6) : ∃ y, atI [V.int 3, .int 5, .int 7, .int 9, .int 11, .int 15] r = some (.int y) ∧ 3 ≤ y ∧ y ≤ 15 ∧ Odd6 y := by
  have : r = 0 ∨ r = 1 ∨ r = 2 ∨ r = 3 ∨ r = 4 ∨ r = 5 := by omega
  rcases this with rfl | rfl | rfl | rfl | rfl | rfl <;> exact ⟨_, rfl, by decide, by decide, by unfold Odd6; decide⟩
theorem two_at {r : Int} (x y : V) (h : 0 ≤ r) (k : r < 2) : ∃ v, atI [x, y] r = some v ∧ (v = x ∨ v = y) := by
  have : r = 0 ∨ r = 1 := by omega
  rcases this with rfl | rfl
  · exact ⟨_, rfl, .inl rfl⟩
  · exact ⟨_, rfl, .inr rfl⟩
theorem atI_in {α : Type} {xs : List α} {i : Int} (h : 0 ≤ i) (k : i < xs.length) : ∃ v, atI xs i = some v ∧ xs[i.toNat]? = some v := by
  have hl : i.toNat < xs.length := by omega
  exact ⟨xs[i.toNat], at_ofG h (List.getElem?_eq_getElem hl), List.getElem?_eq_getElem hl⟩
def spNames : Sp := fun vs H Q _ => ∃ (p c : Addr) (b many : Int), vs = [.ref p, .int many] ∧ Pen H p c b ∧ b ≤ 1000000000 ∧ 0 ≤ many ∧ many ≤ 26 ∧
  ∀ (H' : Hp) (l : Addr) (ss : List Str), Kp p H H' → Pen H' p c (b + 16) → H l = none → H' l = some (.lst (ss.map V.str)) → ss.length = many.toNat → (∀ s ∈ ss, IsW s) → ss.Nodup → Q (.ref l) H'

section
variable {P : Program} {w : World} {K : PySem.W.Frag} {mg : Str → Option Value} {base : Heap}
abbrev s__law_names : Stmt := top 30
theorem sc__law_names : FnScope ["_law_pen_here", "_law_many", "_law_letters", "_law_word", "_law_at", "_law_first", "_law_by", "_law_lot", "_law_found", "_law_k", "_law_tail"] ["_law_pen_here", "_law_many"] (defScope s__law_names) := ⟨rfl, rfl, rfl, by decide +kernel, rfl, by decide +kernel, by decide +kernel⟩
theorem ok__law_names {f : Addr} {fd : FuncData} (F : Fun K "_law_names" "_law_names" s__law_names f fd) (m_len : mg "len" = none) (m_range : mg "range" = none) (c__law_draw : C8.Cal P w K mg base 1 "_law_draw" spDraw []) : FnOk P w K mg base CX0 2 f fd ["_law_pen_here", "_law_many"] spNames := by
  refine F.ok sc__law_names (fun vs H Q E h => ?_) (fun cdv A outer s H vs Q E hr h => ?_)
  · obtain ⟨p, c, b, many, rfl, _⟩ := h; rfl
  · obtain ⟨p, c, b, many, rfl, pen, hb, m0, m1, k⟩ := h
    have hu := hu_of hr
    refine ⟨_, (pss_cons (ps_set (i := 2) sc__law_names.nd rfl (Or.inr rfl) pe_str)
      (pss_cons (ps_set (i := 3) sc__law_names.nd rfl (Or.inl rfl) (pe_join pe_str (pe_lc (own := [("_law_k", 9)]) (g := gName 9) (tt := tYes) rfl sc__law_names.nd (pi_range1 rfl m_range (pa_cons (pe_op op_add pe_int (C8.pe_c c__law_draw hr (by decide) rfl (pa_cons (pv 0) (pa_cons pe_int pa_nil)))) pa_nil)) (blkOk_by (own := [("_law_k", 9)]) (N := ["_law_pen_here", "_law_many", "_law_letters", "_law_word", "_law_at", "_law_first", "_law_by", "_law_lot", "_law_found", "_law_k", "_law_tail"]) (sc := defScope s__law_names) (by decide +kernel)) (fun _ _ _ _ _ => pg_name (i := 9) sc__law_names.nd rfl (Or.inl rfl)) (fun _ _ _ _ _ => pts_nil) (fun _ _ _ _ _ => (pe_ix ix_str (pv 2) (C8.pe_c c__law_draw hr (by decide) rfl (pa_cons (pv 0) (pa_cons pe_int pa_nil))) (fun _ _ => rfl))))))
      (pss_cons (ps_set (i := 4) sc__law_names.nd rfl (Or.inl rfl) (C8.pe_c c__law_draw hr (by decide) rfl (pa_cons (pv 0) (pa_cons (pe_callB call_len_str (by rfl) m_len (by decide +kernel) (pa_cons (pv 3) pa_nil)) pa_nil))))
      (pss_cons (ps_par (i := 5) (j := 6) rfl sc__law_names.nd rfl rfl (by decide) rfl rfl (pa_cons (C8.pe_c c__law_draw hr (by decide) rfl (pa_cons (pv 0) (pa_cons pe_int pa_nil))) (pa_cons (pe_ix ix_list (pe_lst (pa_cons pe_int (pa_cons pe_int (pa_cons pe_int (pa_cons pe_int (pa_cons pe_int (pa_cons pe_int pa_nil))))))) (C8.pe_c c__law_draw hr (by decide) rfl (pa_cons (pv 0) (pa_cons pe_int pa_nil))) (fun _ _ => rfl)) pa_nil)) (by rfl))
      (pss_cons (ps_par (i := 7) (j := 8) rfl sc__law_names.nd rfl rfl (by decide) rfl rfl (pa_cons (pe_bmS PySem.F.plainAttrs_str PySem.F.slot_str_index PySem.F.type_str_index (mt_indexX rfl takes_never) (pv 2) (pa_cons (pe_ix ix_str (pv 3) (pv 4) (fun _ _ => rfl)) pa_nil)) (pa_cons (pe_lst pa_nil) pa_nil)) (by rfl))
      (pss_cons (ps_for PassesOwn.never rfl (pi_range1 rfl m_range (pa_cons (pv 1) pa_nil)) (pg_name (i := 9) sc__law_names.nd rfl (Or.inl rfl))
      (pss_cons (ps_set (i := 10) sc__law_names.nd rfl (Or.inl rfl) (pe_slice sl_str (pe_slice sl_str (pv 3) (po_some (pe_op op_add (pv 4) pe_int)) po_none) po_none (po_some (pe_ix ix_list (pe_lst (pa_cons pe_int (pa_cons (pe_op op_mod (pv 9) pe_int) pa_nil))) (pe_op op_mod (pv 7) pe_int) (fun _ _ => rfl)))))
      (pss_one (ps_expr (pe_bm PySem.F.plainAttrs_list PySem.F.slot_list_append PySem.F.type_list_append mt_append (pv 8) (pa_cons (pe_op op_add_str (pe_op op_add_str (pe_slice sl_str (pv 3) po_none (po_some (pv 4))) (pe_ix ix_str (pv 2) (pe_op op_mod (pe_op op_add (pv 5) (pe_op op_mul (pv 6) (pv 9))) pe_int) (fun _ _ => rfl))) (pv 10)) pa_nil))))))
      (pss_cons (ps_if (PW.pt (pw_and (pt_cmpR op_gt (pv 4) pe_int (nomark _)) (pw_and (pt_cmpR op_gt (pv 1) pe_int (nomark _)) (pw_and1 (pt_cmpR op_eq (pe_op op_mod (pe_op op_fdiv (pv 7) pe_int) pe_int) pe_int (nomark _)))))) (pss_one (ps_asg (pe_slice sl_str (pv 3) po_none (po_some (pv 4))) (pg_sub (pv 8) (pe_op op_mod (pe_op op_fdiv (pv 7) pe_int) (pv 1)) set_list))) pss_nil)
      (pss_one (ps_ret (pv 8)))))))))), ?_⟩
    -- the word
    refine ⟨⟨_, rfl⟩, _, rfl, p, c, b, 12, rfl, pen, by omega, by decide, by decide, fun H1 r1 k1 pen1 r10 r11 => ?_⟩
    refine ⟨_, _, rfl, rfl, _, rfl, by omega, by omega, fun D hD => ?_⟩
    have nD := pen1.off hD
    refine lc_range (lo := 0) (n := (1 + r1).toNat) (fun i H' => Kp p H1 H' ∧ Pen H' p c (b + 1 + i) ∧ ∃ ss : List Str, H' D = some (.lst (ss.map V.str)) ∧ ss.length = i ∧ One ss)
      ⟨Kp.new hD, (pen1.put nD).up (by omega), [], upd_same, rfl, fun s hs => by cases hs⟩ ?_ ?_
    · rintro i H2 hi ⟨k2, pen2, ss, hs, hl, ho⟩
      refine ⟨rfl, _, rfl, _, rfl, p, c, _, 26, rfl, pen2, by omega, by decide, by decide, fun H3 r3 k3 pen3 r30 r31 => ?_⟩
      refine ⟨_, _, _, rfl, rfl, by decide, letter_at r30 r31, _, k3 _ _ nD.1 hs, by rw [List.length_map, hl]; exact small1000 (by omega), ?_⟩
      refine ⟨fun a o na e => ?_, (pen3.put nD).up (by omega), ss ++ [⟨#[r3.toNat + 97]⟩], by rw [upd_same, List.map_append]; rfl, by rw [List.length_append, hl]; rfl, fun s hs => ?_⟩
      · rw [upd_ne (ne_of_none e hD)]
        exact k3 _ _ na (k2 _ _ na e)
      · rcases List.mem_append.mp hs with h | h
        · exact ho s h
        · rw [List.mem_singleton] at h
          subst h
          exact ⟨_, rfl, by omega, by omega⟩
    · rintro H2 ⟨k2, pen2, ss, hs, hl, ho⟩
      obtain ⟨hwl, hwc⟩ := ho.word
      have hw12 : (tl (Txt.join "" ss)).length ≤ 12 := by rw [hwl]; omega
      have hw1 : 1 ≤ (tl (Txt.join "" ss)).length := by rw [hwl]; omega
      refine ⟨_, D, ss, rfl, rfl, .inl (SqL.of hs), ?_, ?_⟩
      · rw [ho.sum, show ("" : Str).length = 0 from rfl]; omega
      generalize Txt.join "" ss = W at hw12 hw1 hwc
      have k02 : Kp p H H2 := k1.trans k2
      -- _law_at
      refine ⟨_, rfl, _, rfl, _, rfl, Nat.le_trans (Nat.le_of_eq (slen W)) (Nat.le_trans hw12 (by decide)), p, c, _, _, rfl, pen2, by omega, by rw [slen]; omega, by rw [slen]; omega, fun H3 at_ k3 pen3 a0 a1 => ?_⟩
      rw [slen] at a1
      -- _law_first, _law_by
      refine ⟨_, rfl, p, c, _, 26, rfl, pen3, by omega, by decide, by decide, fun H4 first k4 pen4 f0 f1 => ?_⟩
      refine ⟨by show 6 ≤ sizeLine; decide, fun L hL => ?_⟩
      refine ⟨_, rfl, p, c, _, 6, rfl, pen4.put (pen4.off hL), by omega, by decide, by decide, fun H5 r5 k5 pen5 r50 r51 => ?_⟩
      obtain ⟨by_, eb, b0, b1, bodd⟩ := six_at r50 r51
      have nL := pen4.off hL
      refine ⟨L, _, _, _, rfl, rfl, SqL.of (k5 _ _ nL.1 upd_same), eb, _, _, rfl, ?_⟩
      have k05 : Kp p H H5 := k02.trans (k3.trans (k4.trans ((Kp.new hL).trans k5)))
      -- _law_lot, _law_found
      obtain ⟨ch, ec, ech⟩ := atI_in (xs := tl W) a0 (by omega)
      have hch := hwc ch (List.mem_of_getElem? ech)
      refine ⟨_, rfl, rfl, _, rfl, _, rfl, _, _, _, rfl, rfl, Nat.le_trans (Nat.le_of_eq (slen W)) (Nat.le_trans hw12 (by decide)), ec, _, _, rfl, rfl, fun lot elot => ?_, fun z => by rw [index_letter hch] at z; cases z⟩
      rw [index_letter hch] at elot
      cases elot
      refine ⟨Nat.zero_le _, fun F hF => ?_⟩
      refine ⟨_, _, rfl, ?_⟩
      have nF := pen5.off hF
      have hF0 : H F = none := k05.free nF.1 hF
      -- for _law_k in range(_law_many)
      have hlW : Lt (tl W) := hwc
      refine ⟨_, rfl, _, rfl, by omega, by omega, for_range (lo := 0) (n := many.toNat) (fun i σ' H' => ∃ (v9 v10 : Option V) (ss : List Str), σ' = [some (.ref p), some (.int many), some (.str letters), some (.str W), some (.int at_), some (.int first), some (.int by_), some (.int ((ch - 97 : Nat) : Int)), some (.ref F), v9, v10] ∧
          Kp p H5 H' ∧ Pen H' p c (b + 16) ∧ H' F = some (.lst (ss.map V.str)) ∧ ss.length = i ∧ (∀ s ∈ ss, IsW s) ∧ Shp (tl (cutS W none (some at_))) first by_ ss)
        ⟨none, none, [], rfl, Kp.new hF, (pen5.put nF).up (by omega), upd_same, rfl, (fun s hs => by cases hs), fun i s hi => by simp at hi⟩ ?_ ?_⟩
      · rintro i σ6 H6 hi ⟨v9, v10, ss, rfl, k6, pen6, hs, hl, hw, hshp⟩
        -- _law_tail
        refine ⟨_, rfl, _, rfl, _, _, rfl, rfl, _, rfl, _, rfl, Nat.le_trans (Nat.le_of_eq (slen W)) (Nat.le_trans hw12 (by decide)), ?_⟩
        refine ⟨_, rfl, _, _, rfl, rfl, (by show (0 : Int) < 4; decide), by show 2 ≤ sizeLine; decide, fun L2_ hL2 => ?_⟩
        have q2 := mod_lt (x := ((ch - 97 : Nat) : Int)) (m := 2) (by decide)
        obtain ⟨e, ee⟩ : ∃ e : Int, atI [V.int 12, V.int ((0 + (i : Int)) % 4)] (((ch - 97 : Nat) : Int) % 2) = some (.int e) := by
          obtain ⟨v, e, h | h⟩ := two_at (V.int 12) (V.int ((0 + (i : Int)) % 4)) q2.1 q2.2
          · exact ⟨_, by rw [e, h]⟩
          · exact ⟨_, by rw [e, h]⟩
        refine ⟨_, rfl, _, _, rfl, rfl, (by show (0 : Int) < 2; decide), L2_, _, _, _, rfl, rfl, SqL.of upd_same, ee, _, rfl, _, rfl, ?_, ?_⟩
        · have h1 := len_cut W (some (at_ + 1)) none
          rw [slen]; exact Nat.le_trans h1 (Nat.le_trans hw12 (by decide))
        have hc0 : ∀ q : Str, (tl q).length ≤ 12 → q.length ≤ sizeLine := fun q hq => by rw [slen]; exact Nat.le_trans hq (by decide)
        have nL2 := pen6.off hL2
        -- found.append(word[:at] + letter + tail)
        have qm := mod_lt (x := first + by_ * (0 + (i : Int))) (m := 26) (by decide)
        have ht1 : (tl (cutS W (some (at_ + 1)) none)).length ≤ (tl W).length - (at_.toNat + 1) := by
          rw [tl_cut, List.length_take, List.length_drop]
          have : HT.sIx W.length 0 (some (at_ + 1)) = min (at_.toNat + 1) W.length := by
            rw [show (some (at_ + 1)) = some (((at_.toNat + 1 : Nat)) : Int) by rw [Int.natCast_add, Int.toNat_of_nonneg a0]; rfl, HT.sIx_nat]
          rw [this, slen]; omega
        have ht2 := len_cut (cutS W (some (at_ + 1)) none) none (some e)
        have ht0 : (tl (cutS W none (some at_))).length = at_.toNat := by
          rw [tl_cut, List.length_take, List.length_drop]
          have : HT.sIx W.length W.length (some at_) = min at_.toNat W.length := by
            rw [show (some at_) = some (((at_.toNat : Nat)) : Int) by rw [Int.toNat_of_nonneg a0], HT.sIx_nat]
          rw [this, HT.sIx_none, slen]; omega
        have hF6 : upd H6 L2_ (HO.lst [V.int 12, V.int ((0 + (i : Int)) % 4)]) F = some (.lst (ss.map V.str)) := by
          rw [upd_ne (ne_of_none hs hL2)]; exact hs
        refine ⟨_, rfl, .inl ⟨rfl, _, SqL.of hF6⟩, _, rfl, _, rfl, _, rfl, _, rfl, hc0 _ hw12, _, rfl, _, rfl, _, rfl, _, rfl, _, _, rfl, rfl, .inr (by constructor <;> omega), _, _, rfl, rfl, _, _, rfl, rfl, (by show (0 : Int) < 26; decide), _, _, _, rfl, rfl, by decide, letter_at qm.1 qm.2, ?_⟩
        have l1 : (tl (⟨#[((first + by_ * (0 + (i : Int))) % 26).toNat + 97]⟩ : Str)).length = 1 := rfl
        refine ⟨_, _, rfl, rfl, by rw [slen, slen, ht0, l1]; exact Nat.le_trans (Nat.add_le_add_right (by omega : at_.toNat ≤ 12) 1) (by decide), ?_⟩
        have e2 : ∀ x y : Str, (tl (x ++ y)).length = (tl x).length + (tl y).length := fun x y => by rw [show tl (x ++ y) = tl x ++ tl y from TL.tl_append x y, List.length_append]
        have ltot : (tl (cutS W none (some at_) ++ (⟨#[((first + by_ * (0 + (i : Int))) % 26).toNat + 97]⟩ : Str) ++ cutS (cutS W (some (at_ + 1)) none) none (some e))).length ≤ 12 ∧ 1 ≤ (tl (cutS W none (some at_) ++ (⟨#[((first + by_ * (0 + (i : Int))) % 26).toNat + 97]⟩ : Str) ++ cutS (cutS W (some (at_ + 1)) none) none (some e))).length := by
          rw [e2, e2, ht0, l1]; omega
        refine ⟨_, rfl, _, _, rfl, rfl, by rw [e2, e2, ht0, l1] at ltot; rw [slen, slen, e2, ht0, l1]; exact Nat.le_trans (by omega : _ ≤ 12) (by decide), F, _, _, rfl, rfl, hF6, by rw [List.length_map, hl]; exact small1000 (by omega), ?_⟩
        refine ⟨_, _, ss ++ [cutS W none (some at_) ++ (⟨#[((first + by_ * (0 + (i : Int))) % 26).toNat + 97]⟩ : Str) ++ cutS (cutS W (some (at_ + 1)) none) none (some e)], rfl, fun a o na ea => ?_, ((pen6.put nL2).put nF), by rw [upd_same, List.map_append]; rfl, by rw [List.length_append, hl]; rfl, fun s hs' => ?_, fun j s hj => ?_⟩
        · rw [upd_ne (ne_of_none ea hF), upd_ne (ne_of_none (k6 _ _ na ea) hL2)]
          exact k6 _ _ na ea
        · rcases List.mem_append.mp hs' with h | h
          · exact hw s h
          · rw [List.mem_singleton] at h
            subst h
            refine ⟨ltot.2, ltot.1, ?_⟩
            rw [show ∀ x y : Str, tl (x ++ y) = tl x ++ tl y from TL.tl_append, show ∀ x y : Str, tl (x ++ y) = tl x ++ tl y from TL.tl_append]
            refine Lt.app (Lt.app (hlW.cut _ _) (fun d hd => ?_)) ((hlW.cut _ _).cut _ _)
            have hd' : d ∈ [((first + by_ * (0 + (i : Int))) % 26).toNat + 97] := hd
            rw [List.mem_singleton] at hd'; subst hd'
            omega
        · by_cases q : j < ss.length
          · rw [List.getElem?_append_left q] at hj; exact hshp j s hj
          · rw [List.getElem?_append_right (by omega)] at hj
            have hj1 := (List.getElem?_eq_some_iff.mp hj).1
            rw [List.length_singleton] at hj1
            have ej : j = i := by omega
            rw [show j - ss.length = 0 by omega] at hj
            cases hj
            subst ej
            refine ⟨tl (cutS (cutS W (some (at_ + 1)) none) none (some e)), ?_⟩
            rw [show ∀ x y : Str, tl (x ++ y) = tl x ++ tl y from TL.tl_append, show ∀ x y : Str, tl (x ++ y) = tl x ++ tl y from TL.tl_append, List.append_assoc]; rfl
      · rintro σ6 H6 ⟨v9, v10, ss, rfl, k6, pen6, hs, hl, hw, hshp⟩
        -- if _law_at > 0 and _law_many > 0 and ..
        have fin : ∀ (H7 : Hp) (ss' : List Str), Kp p H5 H7 → Pen H7 p c (b + 16) → H7 F = some (.lst (ss'.map V.str)) → ss'.length = many.toNat → (∀ s ∈ ss', IsW s) → ss'.Nodup → Q (.ref F) H7 := fun H7 ss' k7 pen7 hs7 hl7 hw7 hn7 =>
          k H7 F ss' (k05.trans k7) pen7 hF0 hs7 hl7 hw7 hn7
        have keepF : Q (.ref F) H6 := fin H6 ss k6 pen6 hs hl hw (hshp.nd bodd (by omega))
        refine ⟨_, rfl, _, _, rfl, rfl, _, rfl, ite2 (fun h1 => ?_) (fun h1 => ?_)⟩
        · refine ⟨_, rfl, _, _, rfl, rfl, _, rfl, ite2 (fun h2 => ?_) (fun h2 => ?_)⟩
          · refine ⟨_, rfl, _, _, rfl, rfl, (by constructor <;> decide), _, _, rfl, rfl, (by show (0 : Int) < 3; decide), rfl, _, rfl, ite2 (fun h3 => ?_) (fun h3 => ?_)⟩
            · have hp2 : 0 < many := of_decide_eq_true h2
              have hp1 : 0 < at_ := of_decide_eq_true h1
              have qx := mod_lt (x := ((ch - 97 : Nat) : Int) / 6) (m := many) hp2
              have hix : ixN (ss.map V.str).length (((ch - 97 : Nat) : Int) / 6 % many) = some (((ch - 97 : Nat) : Int) / 6 % many).toNat := by
                unfold ixN; rw [if_pos qx.1, if_pos (by rw [List.length_map, hl]; omega)]
              refine ⟨_, rfl, _, rfl, _, rfl, _, rfl, by rw [slen]; exact Nat.le_trans hw12 (by decide), _, rfl, _, rfl, _, _, rfl, rfl, (by constructor <;> decide), _, rfl, _, _, rfl, rfl, hp2, F, _, _, _, rfl, rfl, hs, hix, ?_⟩
              have ht0 : (tl (cutS W none (some at_))).length = at_.toNat := by
                rw [tl_cut, List.length_take, List.length_drop]
                have : HT.sIx W.length W.length (some at_) = min at_.toNat W.length := by
                  rw [show (some at_) = some (((at_.toNat : Nat)) : Int) by rw [Int.toNat_of_nonneg a0], HT.sIx_nat]
                rw [this, HT.sIx_none, slen]; omega
              refine ⟨_, rfl, fin _ (ss.set (((ch - 97 : Nat) : Int) / 6 % many).toNat (cutS W none (some at_))) (fun a o na ea => ?_) (pen6.put nF) (by rw [upd_same, List.map_set]) (by rw [List.length_set, hl]) (fun s hs' => ?_) (hshp.nd_set bodd (by omega) _ rfl)⟩
              · rw [upd_ne (ne_of_none ea hF)]
                exact k6 _ _ na ea
              · rcases List.mem_or_eq_of_mem_set hs' with h | h
                · exact hw s h
                · subst h
                  exact ⟨by omega, by omega, hlW.cut _ _⟩
            · exact ⟨_, rfl, keepF⟩
          · exact ⟨_, rfl, keepF⟩
        · exact ⟨_, rfl, keepF⟩
end
end KN

set_option Elab.async false
set_option linter.all false
set_option maxRecDepth 100000
set_option maxHeartbeats 4000000
namespace KN
open PySem L2
theorem three_at {r : Int} (x y z : Int) (h : 0 ≤ r) (k : r < 3) : ∃ v, atI [V.int x, V.int y, V.int z] r = some (.int v) ∧ (v = x ∨ v = y ∨ v = z) := by
  have : r = 0 ∨ r = 1 ∨ r = 2 := by omega
  rcases this with rfl | rfl | rfl
  · exact ⟨_, rfl, .inl rfl⟩
  · exact ⟨_, rfl, .inr (.inl rfl)⟩
  · exact ⟨_, rfl, .inr (.inr rfl)⟩

def MoS (m : Mo) : Prop := 0 ≤ m.1 ∧ m.1 ≤ 900000 ∧ 1 ≤ m.2 ∧ m.2 ≤ 900000
theorem MoS.ok {m : Mo} (h : MoS m) : MoOk m := by unfold MoS at h; unfold MoOk; omega
def spMoments : Sp := fun vs H Q _ => ∃ (p c : Addr) (b many : Int), vs = [.ref p, .int many] ∧ Pen H p c b ∧ b ≤ 1000000000 ∧ 0 ≤ many ∧ many ≤ 100 ∧
  ∀ (H' : Hp) (l : Addr) (ms : List Mo), Kp p H H' → Pen H' p c (b + 2 + 3 * many) → H l = none → Ls H' l (ms.map mD) → ms.length = many.toNat → ms.Pairwise mLt → (∀ m ∈ ms, MoS m) → Q (.ref l) H'

section
variable {P : Program} {w : World} {K : PySem.W.Frag} {mg : Str → Option Value} {base : Heap}
abbrev s__law_moments : Stmt := top 31
theorem sc__law_moments : FnScope ["_law_pen_here", "_law_many", "_law_found", "_law_date", "_law_leaf", "_law_k", "_law_step"] ["_law_pen_here", "_law_many"] (defScope s__law_moments) := ⟨rfl, rfl, rfl, by decide +kernel, rfl, by decide +kernel, by decide +kernel⟩
theorem ok__law_moments {f : Addr} {fd : FuncData} (F : Fun K "_law_moments" "_law_moments" s__law_moments f fd) (m_range : mg "range" = none) (c__law_draw : C8.Cal P w K mg base 1 "_law_draw" spDraw []) : FnOk P w K mg base CX0 2 f fd ["_law_pen_here", "_law_many"] spMoments := by
  refine F.ok sc__law_moments (fun vs H Q E h => ?_) (fun cdv A outer s H vs Q E hr h => ?_)
  · obtain ⟨p, c, b, many, rfl, _⟩ := h; rfl
  · obtain ⟨p, c, b, many, rfl, pen, hb, m0, m1, k⟩ := h
    have hu := hu_of hr
    refine ⟨_, (pss_cons (ps_set (i := 2) sc__law_moments.nd rfl (Or.inl rfl) (pe_lst pa_nil))
      (pss_cons (ps_par (i := 3) (j := 4) rfl sc__law_moments.nd rfl rfl (by decide) rfl rfl (pa_cons (C8.pe_c c__law_draw hr (by decide) rfl (pa_cons (pv 0) (pa_cons pe_int pa_nil))) (pa_cons (pe_op op_add pe_int (C8.pe_c c__law_draw hr (by decide) rfl (pa_cons (pv 0) (pa_cons pe_int pa_nil)))) pa_nil)) (by rfl))
      (pss_cons (ps_for PassesOwn.never rfl (pi_range1 rfl m_range (pa_cons (pv 1) pa_nil)) (pg_name (i := 5) sc__law_moments.nd rfl (Or.inl rfl))
      (pss_cons (ps_expr (pe_bm PySem.F.plainAttrs_list PySem.F.slot_list_append PySem.F.type_list_append mt_append (pv 2) (pa_cons (pe_tup (pa_cons (pv 3) (pa_cons (pv 4) pa_nil))) pa_nil)))
      (pss_cons (ps_set (i := 6) sc__law_moments.nd rfl (Or.inl rfl) (pe_ix ix_list (pe_lst (pa_cons pe_int (pa_cons pe_int (pa_cons (C8.pe_c c__law_draw hr (by decide) rfl (pa_cons (pv 0) (pa_cons pe_int pa_nil))) pa_nil)))) (C8.pe_c c__law_draw hr (by decide) rfl (pa_cons (pv 0) (pa_cons pe_int pa_nil))) (fun _ _ => rfl)))
      (pss_cons (ps_set (i := 4) sc__law_moments.nd rfl (Or.inl rfl) (pe_ifExp (pt_cmpR op_eq (pv 6) pe_int (nomark _)) (pe_op op_add (pe_op op_add (pv 4) pe_int) (C8.pe_c c__law_draw hr (by decide) rfl (pa_cons (pv 0) (pa_cons pe_int pa_nil)))) (pe_op op_add pe_int (C8.pe_c c__law_draw hr (by decide) rfl (pa_cons (pv 0) (pa_cons pe_int pa_nil))))))
      (pss_one (ps_set (i := 3) sc__law_moments.nd rfl (Or.inl rfl) (pe_op op_add (pv 3) (pv 6))))))))
      (pss_one (ps_ret (pv 2)))))), ?_⟩
    refine ⟨Nat.zero_le _, fun F hF => ?_⟩
    have nF := pen.off hF
    refine ⟨_, rfl, p, c, b, 12, rfl, pen.put nF, by omega, by decide, by decide, fun H1 d0 k1 pen1 d00 d01 => ?_⟩
    refine ⟨_, rfl, p, c, _, 12, rfl, pen1, by omega, by decide, by decide, fun H2 f0 k2 pen2 f00 f01 => ?_⟩
    refine ⟨_, _, rfl, rfl, _, _, rfl, ?_⟩
    have k02 : Kp p (upd H F (.lst [])) H2 := k1.trans k2
    have hF2 : H2 F = some (.lst []) := k02 _ _ nF.1 upd_same
    refine ⟨_, rfl, _, rfl, by omega, by omega, for_range (lo := 0) (n := many.toNat) (fun i σ' H' => ∃ (d l : Int) (v5 v6 : Option V) (ms : List Mo), σ' = [some (.ref p), some (.int many), some (.ref F), some (.int d), some (.int l), v5, v6] ∧
        (∀ a o, a ≠ p → a ≠ F → H2 a = some o → H' a = some o) ∧ Pen H' p c (b + 2 + 3 * i) ∧ Ls H' F (ms.map mD) ∧ ms.length = i ∧ ms.Pairwise mLt ∧ (∀ m ∈ ms, MoS m) ∧ (∀ m ∈ ms, mLt m (d, l)) ∧
        0 ≤ d ∧ d ≤ 12 + 40 * i ∧ 1 ≤ l ∧ l ≤ 12 + 3 * i)
      ⟨d0, 1 + f0, none, none, [], rfl, fun a o _ _ e => e, pen2.up (by omega), ⟨_, hF2, .nil⟩, rfl, .nil, (fun m hm => by cases hm), (fun m hm => by cases hm), d00, by omega, by omega, by omega⟩ ?_ ?_⟩
    · rintro i σ3 H3 hi ⟨d, l, v5, v6, ms, rfl, k3, pen3, ⟨xs, hx, rx⟩, hl, hpw, hok, hlt, hd0, hd1, hl0, hl1⟩
      have hxl : xs.length = i := by rw [rx.len, List.length_map, hl]
      refine ⟨_, rfl, .inl ⟨rfl, _, SqL.of hx⟩, _, rfl, _, rfl, by show 2 ≤ sizeLine; decide, fun t ht => ?_⟩
      have nt := pen3.off ht
      have nFt : F ≠ t := ne_of_none hx ht
      refine ⟨F, _, _, rfl, rfl, by rw [upd_ne nFt]; exact hx, by rw [hxl]; exact small1000 (by omega), ?_⟩
      have pen4 : Pen (upd (upd H3 t (.tup [.int d, .int l])) F (.lst (xs ++ [.ref t]))) p c (b + 2 + 3 * i) := (pen3.put nt).put nF
      have tk4 : TK H3 (upd (upd H3 t (.tup [.int d, .int l])) F (.lst (xs ++ [.ref t]))) := (TK.new ht).trans (TK.put (u := .lst xs) (by rw [upd_ne nFt]; exact hx) (by intro z; exact nofun))
      -- _law_step
      refine ⟨_, rfl, p, c, _, 40, rfl, pen4, by omega, by decide, by decide, fun H5 r5 k5 pen5 r50 r51 => ?_⟩
      refine ⟨by show 3 ≤ sizeLine; decide, fun L hL => ?_⟩
      have nL := pen5.off hL
      refine ⟨_, rfl, p, c, _, 3, rfl, pen5.put nL, by omega, by decide, by decide, fun H6 r6 k6 pen6 r60 r61 => ?_⟩
      obtain ⟨st, est, hst⟩ := three_at 0 1 r5 r60 r61
      refine ⟨L, _, _, _, rfl, rfl, SqL.of (k6 _ _ nL.1 upd_same), est, ?_⟩
      have k46 : Kp p (upd (upd H3 t (.tup [.int d, .int l])) F (.lst (xs ++ [.ref t]))) H6 := k5.trans ((Kp.new hL).trans k6)
      have hF6 : H6 F = some (.lst (xs ++ [.ref t])) := k46 _ _ nF.1 upd_same
      have tk6 : TK H3 H6 := tk4.trans (pen4.tk k46)
      have ht6 : H6 t = some (.tup [.int d, .int l]) := k46 _ _ nt.1 (by rw [upd_ne nFt.symm, upd_same])
      have keep6 : ∀ a o, a ≠ p → a ≠ F → H2 a = some o → H6 a = some o := fun a o na nb e => by
        refine k46 _ _ na ?_
        have e3 := k3 a o na nb e
        rw [upd_ne nb, upd_ne (ne_of_none e3 ht)]; exact e3
      have ls6 : Ls H6 F ((ms ++ [(d, l)]).map mD) := ⟨_, hF6, by rw [List.map_append]; exact (rx.to tk6).snoc (Tp.mo (m := (d, l)) ht6)⟩
      have hst0 : 0 ≤ st ∧ st ≤ 40 := by omega
      have okm : ∀ m ∈ ms ++ [(d, l)], MoS m := fun m hm => by
        rcases List.mem_append.mp hm with h | h
        · exact hok m h
        · rw [List.mem_singleton] at h; subst h
          unfold MoS; simp only; omega
      have pwm : (ms ++ [(d, l)]).Pairwise mLt := List.pairwise_append.mpr ⟨hpw, List.pairwise_singleton _ _, fun a ha b hb => by
        rw [List.mem_singleton] at hb; subst hb; exact hlt a ha⟩
      have done : ∀ (H7 : Hp) (l' : Int), Kp p H6 H7 → Pen H7 p c (b + 2 + 3 * i + 3) → (mLt (d, l) (d + st, l')) → 1 ≤ l' → l' ≤ 12 + 3 * i + 3 →
          ∃ (d1 l1 : Int) (v5 v6 : Option V) (ms' : List Mo), ([some (.ref p), some (.int many), some (.ref F), some (.int (d + st)), some (.int l'), some (.int (0 + (i : Int))), some (.int st)] : List (Option V)) = [some (.ref p), some (.int many), some (.ref F), some (.int d1), some (.int l1), v5, v6] ∧
        (∀ a o, a ≠ p → a ≠ F → H2 a = some o → H7 a = some o) ∧ Pen H7 p c (b + 2 + 3 * ((i + 1 : Nat) : Int)) ∧ Ls H7 F (ms'.map mD) ∧ ms'.length = i + 1 ∧ ms'.Pairwise mLt ∧ (∀ m ∈ ms', MoS m) ∧ (∀ m ∈ ms', mLt m (d1, l1)) ∧
        0 ≤ d1 ∧ d1 ≤ 12 + 40 * ((i + 1 : Nat) : Int) ∧ 1 ≤ l1 ∧ l1 ≤ 12 + 3 * ((i + 1 : Nat) : Int) := fun H7 l' k7 pen7 hm hl' hl'' => by
        refine ⟨_, _, _, _, ms ++ [(d, l)], rfl, fun a o na nb e => k7 _ _ na (keep6 a o na nb e), pen7.up (by omega), ?_, by rw [List.length_append, hl]; rfl, pwm, okm, fun m hm' => ?_, by omega, by omega, by omega, by omega⟩
        · obtain ⟨ys, e1, e2⟩ := ls6
          exact ⟨ys, k7 _ _ nF.1 e1, e2.to (pen6.tk k7)⟩
        · rcases List.mem_append.mp hm' with h | h
          · exact (hlt m h).trans hm
          · rw [List.mem_singleton] at h; subst h; exact hm
      refine ⟨_, rfl, rfl, _, rfl, ite2 (fun h0 => ?_) (fun h0 => ?_)⟩
      · have e0 : st = 0 := by have := of_decide_eq_true h0; injection this
        refine ⟨_, rfl, _, _, rfl, rfl, _, rfl, p, c, _, 3, rfl, pen6, by omega, by decide, by decide, fun H7 r7 k7 pen7 r70 r71 => ?_⟩
        refine ⟨_, _, rfl, rfl, _, rfl, _, rfl, _, _, rfl, rfl, ?_⟩
        exact done H7 _ k7 (pen7.up (by omega)) (by unfold mLt; simp only; omega) (by omega) (by omega)
      · have e0 : ¬ st = 0 := fun z => h0 (by rw [z]; rfl)
        refine ⟨_, rfl, p, c, _, 12, rfl, pen6, by omega, by decide, by decide, fun H7 r7 k7 pen7 r70 r71 => ?_⟩
        refine ⟨_, _, rfl, rfl, _, rfl, _, rfl, _, _, rfl, rfl, ?_⟩
        exact done H7 _ k7 (pen7.up (by omega)) (by unfold mLt; simp only; omega) (by omega) (by omega)
    · rintro σ3 H3 ⟨d, l, v5, v6, ms, rfl, k3, pen3, ls, hl, hpw, hok, hlt, hd0, hd1, hl0, hl1⟩
      refine ⟨_, rfl, k H3 F ms (fun a o na e => ?_) (pen3.up (by omega)) hF ls hl hpw hok⟩
      have e1 : upd H F (.lst []) a = some o := by rw [upd_ne (ne_of_none e hF)]; exact e
      exact k3 a o na (ne_of_none e hF) (k02 _ _ na e1)
end
end KN

set_option Elab.async false
set_option linter.all false
set_option maxRecDepth 100000
set_option maxHeartbeats 4000000
namespace KN
open PySem L2
def isWB (s : Str) : Bool := decide (1 ≤ s.length) && decide (s.length ≤ 12) && (tl s).all fun c => decide (c ∈ tl letters)
theorem mem_letters (c : Nat) : c ∈ tl letters ↔ 97 ≤ c ∧ c ≤ 122 := by
  rw [tl_letters, List.mem_map]
  constructor
  · rintro ⟨k, hk, rfl⟩
    rw [List.mem_range] at hk; omega
  · intro h
    exact ⟨c - 97, List.mem_range.mpr (by omega), by omega⟩
theorem isWB_iff {s : Str} : isWB s = true ↔ IsW s := by
  unfold isWB IsW Lt
  rw [Bool.and_eq_true, Bool.and_eq_true, decide_eq_true_iff, decide_eq_true_iff, List.all_eq_true, slen]
  constructor
  · rintro ⟨⟨h1, h2⟩, h3⟩
    exact ⟨h1, h2, fun c hc => (mem_letters c).mp (of_decide_eq_true (h3 c hc))⟩
  · rintro ⟨h1, h2, h3⟩
    exact ⟨⟨h1, h2⟩, fun c hc => decide_eq_true ((mem_letters c).mpr (h3 c hc))⟩

def spNumber (K : PySem.W.Frag) : Sp := fun vs H Q _ => ∃ (v : V) (lo hi : Int), vs = [v, .int lo, .int hi] ∧
  ((∃ i, v = .int i ∧ Q (.bl (decide (lo ≤ i) && decide (i ≤ hi))) H) ∨ (∃ b, v = .bl b ∧ Q (.bl false) H) ∨ ∃ t, TyX K H v t ∧ PySem.W.kitOne K t (.type "int") = some false ∧ Q (.bl false) H)
def spWord (K : PySem.W.Frag) : Sp := fun vs H Q _ => ∃ v : V, vs = [v] ∧
  ((∃ s, v = .str s ∧ s.length ≤ sizeLine ∧ ∀ H', Same H H' → Q (.bl (isWB s)) H') ∨ ∃ t, TyX K H v t ∧ PySem.W.kitOne K t (.type "str") = some false ∧ Q (.bl false) H)
def spMoment : Sp := fun vs H Q _ => ∃ (a : Addr) (m : Mo), vs = [.ref a] ∧ H a = some (.tup [.int m.1, .int m.2]) ∧ MoOk m ∧ Q (.bl true) H
def spList : Sp := fun vs H Q _ => ∃ a, vs = [.ref a] ∧ ((∃ xs, H a = some (.tup xs)) ∨ ∃ xs, H a = some (.lst xs)) ∧ ∀ H', Same H H' → Q (.bl true) H'
/-- one sheet in a tuple -/
def SheetsOk (ss : List Str) : Prop := ss ≠ [] ∧ ss.length ≤ 60 ∧ ss.Nodup ∧ ∀ s ∈ ss, IsW s
def spSheets : Sp := fun vs H Q _ => ∃ (a : Addr) (ss : List Str), vs = [.ref a] ∧ H a = some (.tup (ss.map V.str)) ∧ SheetsOk ss ∧ ∀ H', Same H H' → Q (.bl true) H'
def spSheets1 : Sp := fun vs H Q _ => ∃ (a : Addr) (s : Str), vs = [.ref a] ∧ H a = some (.tup [.str s]) ∧ IsW s ∧ ∀ H', Same H H' → Q (.bl true) H'
/-- up to a pair -/
def upB (m : Mo) : Option Mo → Bool
  | none => true
  | some u => decide (m.1 < u.1 ∨ m.1 = u.1 ∧ m.2 ≤ u.2)
def UpV (H : Hp) (v : V) : Option Mo → Prop
  | none => v = .non
  | some u => ∃ a, v = .ref a ∧ H a = some (.tup [.int u.1, .int u.2])
theorem UpV.to {H H' : Hp} {v : V} {u : Option Mo} (h : UpV H v u) (k : TK H H') : UpV H' v u := by
  cases u with
  | none => exact h
  | some u => obtain ⟨a, e, h⟩ := h; exact ⟨a, e, k _ _ h⟩
def spThere : Sp := fun vs H Q _ => ∃ (a : Addr) (m : Mo) (v : V) (u : Option Mo), vs = [.ref a, v] ∧ H a = some (.tup [.int m.1, .int m.2]) ∧ UpV H v u ∧ Q (.bl (upB m u)) H
/-- a new moment beside a dict by moments: nothing is raised -/
def spNew : Sp := fun vs H Q _ => ∃ (a d : Addr) (m : Mo) (kvs : List (List Key × V)), vs = [.ref a, .ref d] ∧ H a = some (.tup [.int m.1, .int m.2]) ∧ MoOk m ∧ H d = some (.dT kvs) ∧ valV kvs (mK m) = none ∧ Q .non H
def spMissing : Sp := fun vs H Q _ => ∃ (a d : Addr) (m : Mo) (kvs : List (List Key × V)), vs = [.ref a, .ref d] ∧ H a = some (.tup [.int m.1, .int m.2]) ∧ MoOk m ∧ H d = some (.dT kvs) ∧ (valV kvs (mK m)).isSome = true ∧ Q .non H
theorem lex2 (m u : Mo) : Ob.lexAt (fun j => decide (([m.1, m.2] : List Int).getD j 0 = ([u.1, u.2] : List Int).getD j 0)) (fun j => decide (([m.1, m.2] : List Int).getD j 0 ≤ ([u.1, u.2] : List Int).getD j 0)) (decide (([m.1, m.2] : List Int).length ≤ ([u.1, u.2] : List Int).length)) 0 (min ([m.1, m.2] : List Int).length ([u.1, u.2] : List Int).length) = decide (m.1 < u.1 ∨ m.1 = u.1 ∧ m.2 ≤ u.2) := by
  show Ob.lexAt _ _ _ 0 2 = _
  rw [Ob.lexAt_succ, Ob.lexAt_succ, Ob.lexAt_zero]
  simp only [List.getD_cons_zero, List.getD_cons_succ, List.length_cons, List.length_nil]
  by_cases h1 : m.1 = u.1
  · rw [decide_eq_true h1, if_pos rfl]
    by_cases h2 : m.2 = u.2
    · rw [decide_eq_true h2, if_pos rfl]
      rw [decide_eq_true (by omega : (0 + 1 + 1 ≤ 0 + 1 + 1))]
      exact (decide_eq_true (by omega)).symm
    · rw [decide_eq_false h2, if_neg (by decide)]
      by_cases h3 : m.2 ≤ u.2
      · rw [decide_eq_true h3]; exact (decide_eq_true (by omega)).symm
      · rw [decide_eq_false h3]; exact (decide_eq_false (by omega)).symm
  · rw [decide_eq_false h1, if_neg (by decide)]
    by_cases h3 : m.1 ≤ u.1
    · rw [decide_eq_true h3]; exact (decide_eq_true (by omega)).symm
    · rw [decide_eq_false h3]; exact (decide_eq_false (by omega)).symm

section
variable {P : Program} {w : World} {K : PySem.W.Frag} {mg : Str → Option Value} {base : Heap}
abbrev s_is_number : Stmt := top 14
theorem sc_is_number : FnScope ["thing", "low", "high"] ["thing", "low", "high"] (defScope s_is_number) := ⟨rfl, rfl, rfl, by decide +kernel, rfl, by decide +kernel, by decide +kernel⟩
theorem ok_is_number {f : Addr} {fd : FuncData} (F : Fun K "is_number" "is_number" s_is_number f fd) (m_isinstance : mg "isinstance" = none) (m_int : mg "int" = none) (m_bool : mg "bool" = none) : FnOk P w K mg base CX0 1 f fd ["thing", "low", "high"] (spNumber K) := by
  refine F.ok sc_is_number (fun vs H Q E h => ?_) (fun cdv A outer s H vs Q E hr h => ?_)
  · obtain ⟨v, lo, hi, rfl, _⟩ := h; rfl
  · obtain ⟨v, lo, hi, rfl, h⟩ := h
    refine ⟨_, (pss_one (ps_ret (pe_and (pe_callB call_isi (by rfl) m_isinstance (by decide +kernel) (pa_cons (pv 0) (pa_cons (pe_bltn (v := .ty "int") (u := .type "int") rfl m_int (by decide +kernel) rfl) pa_nil))) (pe_and (pe_not (pe_callB call_isi (by rfl) m_isinstance (by decide +kernel) (pa_cons (pv 0) (pa_cons (pe_bltn (v := .ty "bool") (u := .type "bool") rfl m_bool (by decide +kernel) rfl) pa_nil)))) (pe_one (pe_chain op_le op_le (pv 1) (pv 0) (pv 2))))))), ?_⟩
    rcases h with ⟨i, rfl, k⟩ | ⟨b, rfl, k⟩ | ⟨t, ht, hk, k⟩
    · refine ⟨_, rfl, _, _, _, _, true, rfl, .ty _, .base (.int _), kit_ty (by decide +kernel), _, rfl, iteT ?_⟩
      refine ⟨_, rfl, _, _, _, _, false, rfl, .ty _, .base (.int _), kit_ty (by decide +kernel), _, rfl, _, rfl, iteT ?_⟩
      refine ⟨_, rfl, _, rfl, _, _, rfl, rfl, _, rfl, ite2 (fun h1 => ?_) (fun h1 => ?_)⟩
      · refine ⟨_, rfl, _, _, rfl, rfl, ?_⟩
        rw [h1] at k; exact k
      · rw [Bool.eq_false_iff.mpr h1] at k; exact k
    · refine ⟨_, rfl, _, _, _, _, true, rfl, .ty _, .base (.bl _), kit_ty (by decide +kernel), _, rfl, iteT ?_⟩
      refine ⟨_, rfl, _, _, _, _, true, rfl, .ty _, .base (.bl _), kit_ty (by decide +kernel), _, rfl, _, rfl, iteF ?_⟩
      exact k
    · refine ⟨_, rfl, _, _, _, _, false, rfl, .ty _, ht, hk, _, rfl, iteF ?_⟩
      exact k
abbrev s_is_word : Stmt := top 15
theorem sc_is_word : FnScope ["thing", "sign"] ["thing"] (defScope s_is_word) := ⟨rfl, rfl, rfl, by decide +kernel, rfl, by decide +kernel, by decide +kernel⟩
theorem ok_is_word {f : Addr} {fd : FuncData} (F : Fun K "is_word" "is_word" s_is_word f fd) (m_isinstance : mg "isinstance" = none) (m_str : mg "str" = none) (m_len : mg "len" = none) (m_all : mg "all" = none)
    (g_MOST_LETTERS : ∃ u, mg "MOST_LETTERS" = some u ∧ RelV (.int 12) u) (g_LETTERS : ∃ u, mg "LETTERS" = some u ∧ RelV (.str letters) u) : FnOk P w K mg base CX0 1 f fd ["thing"] (spWord K) := by
  refine F.ok sc_is_word (fun vs H Q E h => ?_) (fun cdv A outer s H vs Q E hr h => ?_)
  · obtain ⟨v, rfl, _⟩ := h; rfl
  · obtain ⟨v, rfl, h⟩ := h
    refine ⟨_, (pss_cons (ps_if (PW.pt (pw_or (pt_not (pt_val (pe_callB call_isi (by rfl) m_isinstance (by decide +kernel) (pa_cons (pv 0) (pa_cons (pe_bltn (v := .ty "str") (u := .type "str") rfl m_str (by decide +kernel) rfl) pa_nil))))) (pw_or1 (pt_not (pt_chain op_le op_le pe_int (pe_callB call_len_str (by rfl) m_len (by decide +kernel) (pa_cons (pv 0) pa_nil)) (C8.pe_gc rfl g_MOST_LETTERS)))))) (pss_one (ps_ret pe_bl)) pss_nil)
      (pss_one (ps_ret (pe_callB (cr_all rfl) (by rfl) m_all (by decide +kernel) (pa_cons (pe_lc (own := [("sign", 1)]) (g := gName 1) (tt := tYes) rfl sc_is_word.nd (pi_str (pv 0)) (blkOk_by (own := [("sign", 1)]) (N := ["thing", "sign"]) (sc := defScope s_is_word) (by decide +kernel)) (fun _ _ _ _ _ => pg_name (i := 1) sc_is_word.nd rfl (Or.inl rfl)) (fun _ _ _ _ _ => pts_nil) (fun _ _ _ _ _ => (pe_cmpR op_in_sign (pv 1) (C8.pe_gc rfl g_LETTERS) rfl))) pa_nil))))), ?_⟩
    rcases h with ⟨z, rfl, hz, k⟩ | ⟨t, ht, hk, k⟩
    · refine ⟨_, rfl, _, _, _, _, true, rfl, .ty _, .base (.str _), kit_ty (by decide +kernel), _, rfl, iteF ?_⟩
      refine ⟨_, rfl, _, rfl, hz, _, _, rfl, rfl, _, rfl, ?_⟩
      have go : 1 ≤ z.length ∧ z.length ≤ 12 ∨ ¬ (1 ≤ z.length ∧ z.length ≤ 12) := Decidable.em _
      rcases go with h1 | h1
      · rw [decide_eq_true (by have := h1.1; omega : (1 : Int) ≤ (z.length : Int))]
        refine iteT ⟨_, _, rfl, rfl, _, rfl, ?_⟩
        rw [decide_eq_true (by have := h1.2; omega : (z.length : Int) ≤ 12)]
        refine iteF ?_
        -- all([..])
        refine ⟨_, rfl, _, rfl, fun D hD => ?_⟩
        refine lc_it walk_str (fun i H' => Same H H' ∧ ∃ bs : List Bool, H' D = some (.lst (bs.map V.bl)) ∧ bs = ((tl z).take i).map fun c => decide (c ∈ tl letters))
          ⟨Same.new hD, [], upd_same, by rw [List.take_zero]; rfl⟩ (fun _ _ _ _ => trivial) ?_ ?_
        · rintro i x H1 H2 hi ⟨s1, bs, e1, e2⟩ ⟨rfl, c, hc, rfl⟩
          have hc' : (tl z)[i]? = some c := by show z.cps.toList[i]? = _; rw [Array.getElem?_toList]; exact hc
          have hlen : bs.length ≤ 12 := by rw [e2, List.length_map]; exact Nat.le_trans (List.length_take_le' _ _) (by rw [← slen]; exact h1.2)
          refine ⟨rfl, _, rfl, c, _, rfl, rfl, _, e1, by rw [List.length_map]; exact small1000 (by omega), fun b o e => ?_, bs ++ [decide (c ∈ tl letters)], by rw [upd_same, List.map_append]; rfl, ?_⟩
          · rw [upd_ne (ne_of_none e hD)]; exact s1 _ _ e
          · rw [List.take_add_one, hc', e2, Option.toList_some, List.map_append]; rfl
        · rintro H1 ⟨s1, bs, e1, e2⟩
          refine ⟨D, bs, rfl, SqL.of e1, ?_⟩
          have e3 : bs.all id = isWB z := by
            rw [e2, show z.cps.size = (tl z).length from (Array.length_toList).symm, List.take_of_length_le (Nat.le_refl _), List.all_map]
            unfold isWB
            rw [decide_eq_true h1.1, decide_eq_true h1.2]; rfl
          rw [e3]; exact k _ s1
      · have e0 : isWB z = false := by
          unfold isWB
          rcases Nat.lt_or_ge z.length 1 with h | h
          · rw [decide_eq_false (by omega : ¬ 1 ≤ z.length)]; rfl
          · rw [decide_eq_false (fun q => h1 ⟨h, q⟩ : ¬ z.length ≤ 12), Bool.and_false]; rfl
        refine ite2 (fun h => ?_) (fun h => ?_)
        · have h' := of_decide_eq_true h
          refine ⟨_, _, rfl, rfl, _, rfl, ?_⟩
          rw [decide_eq_false (fun q => h1 ⟨by omega, by omega⟩ : ¬ (z.length : Int) ≤ 12)]
          refine iteT ?_
          have := k H (Same.refl H)
          rw [e0] at this; exact this
        · refine ⟨_, rfl, ?_⟩
          refine iteT ?_
          have := k H (Same.refl H)
          rw [e0] at this; exact this
    · refine ⟨_, rfl, _, _, _, _, false, rfl, .ty _, ht, hk, _, rfl, iteT ?_⟩
      exact iteT k
end
end KN

set_option Elab.async false
set_option linter.all false
set_option maxRecDepth 100000
set_option maxHeartbeats 4000000
namespace KN
open PySem L2
section
variable {P : Program} {w : World} {K : PySem.W.Frag} {mg : Str → Option Value} {base : Heap}
abbrev s_is_moment : Stmt := top 16
theorem sc_is_moment : FnScope ["thing"] ["thing"] (defScope s_is_moment) := ⟨rfl, rfl, rfl, by decide +kernel, rfl, by decide +kernel, by decide +kernel⟩
theorem ok_is_moment {f : Addr} {fd : FuncData} (F : Fun K "is_moment" "is_moment" s_is_moment f fd) (m_isinstance : mg "isinstance" = none) (m_tuple : mg "tuple" = none) (m_len : mg "len" = none)
    (g_MOST : ∃ u, mg "MOST" = some u ∧ RelV (.int 1000000000000) u) (c_is_number : C8.Cal P w K mg base 1 "is_number" (spNumber K) []) : FnOk P w K mg base CX0 2 f fd ["thing"] spMoment := by
  refine F.ok sc_is_moment (fun vs H Q E h => ?_) (fun cdv A outer s H vs Q E hr h => ?_)
  · obtain ⟨a, m, rfl, _⟩ := h; rfl
  · obtain ⟨a, m, rfl, ha, hm, k⟩ := h
    refine ⟨_, (pss_cons (ps_if (PW.pt (pw_or (pt_not (pt_val (pe_callB call_isi (by rfl) m_isinstance (by decide +kernel) (pa_cons (pv 0) (pa_cons (pe_bltn (v := .ty "tuple") (u := .type "tuple") rfl m_tuple (by decide +kernel) rfl) pa_nil))))) (pw_or1 (pt_cmpR op_ne (pe_callB call_len_seq (by rfl) m_len (by decide +kernel) (pa_cons (pv 0) pa_nil)) pe_int (nomark _))))) (pss_one (ps_ret pe_bl)) pss_nil)
      (pss_one (ps_ret (pe_and (C8.pe_c c_is_number hr (by decide) rfl (pa_cons (pe_ix ix_tup (pv 0) pe_int (fun _ _ => rfl)) (pa_cons pe_int (pa_cons (C8.pe_gc rfl g_MOST) pa_nil)))) (pe_one (C8.pe_c c_is_number hr (by decide) rfl (pa_cons (pe_ix ix_tup (pv 0) pe_int (fun _ _ => rfl)) (pa_cons pe_int (pa_cons (C8.pe_gc rfl g_MOST) pa_nil))))))))), ?_⟩
    unfold MoOk at hm
    refine ⟨_, rfl, _, _, _, _, true, rfl, .ty _, .base (.tup ha), kit_ty (by decide +kernel), _, rfl, iteF ?_⟩
    refine ⟨_, rfl, _, _, rfl, .inr (SqT.of ha), rfl, _, rfl, ?_⟩
    refine iteF ?_
    have go : ∀ i : Int, 0 ≤ i → i ≤ 1000000000000 → (decide ((0 : Int) ≤ i) && decide (i ≤ 1000000000000)) = true := fun i h1 h2 => by rw [decide_eq_true h1, decide_eq_true h2]; rfl
    have go1 : ∀ i : Int, 1 ≤ i → i ≤ 1000000000000 → (decide ((1 : Int) ≤ i) && decide (i ≤ 1000000000000)) = true := fun i h1 h2 => by rw [decide_eq_true h1, decide_eq_true h2]; rfl
    refine ⟨_, rfl, _, _, _, _, rfl, rfl, SqT.of ha, (by exact at_of (j := 0) rfl rfl), _, _, _, rfl, .inl ⟨_, rfl, ?_⟩⟩
    rw [go _ hm.1 (by omega)]
    refine ⟨_, rfl, iteT ?_⟩
    refine ⟨_, rfl, _, _, _, _, rfl, rfl, SqT.of ha, (by exact at_of (j := 1) rfl rfl), _, _, _, rfl, .inl ⟨_, rfl, ?_⟩⟩
    rw [go1 _ hm.2.2.1 (by omega)]
    exact k
abbrev s_is_list : Stmt := top 17
theorem sc_is_list : FnScope ["thing"] ["thing"] (defScope s_is_list) := ⟨rfl, rfl, rfl, by decide +kernel, rfl, by decide +kernel, by decide +kernel⟩
theorem ok_is_list {f : Addr} {fd : FuncData} (F : Fun K "is_list" "is_list" s_is_list f fd) (m_isinstance : mg "isinstance" = none) (m_tuple : mg "tuple" = none) (m_list : mg "list" = none) : FnOk P w K mg base CX0 1 f fd ["thing"] spList := by
  refine F.ok sc_is_list (fun vs H Q E h => ?_) (fun cdv A outer s H vs Q E hr h => ?_)
  · obtain ⟨a, rfl, _⟩ := h; rfl
  · obtain ⟨a, rfl, ha, k⟩ := h
    refine ⟨_, (pss_one (ps_ret (pe_callB call_isiT (by rfl) m_isinstance (by decide +kernel) (pa_cons (pv 0) (pa_cons (pe_tup (pa_cons (pe_bltn (v := .ty "list") (u := .type "list") rfl m_list (by decide +kernel) rfl) (pa_cons (pe_bltn (v := .ty "tuple") (u := .type "tuple") rfl m_tuple (by decide +kernel) rfl) pa_nil))) pa_nil))))), ?_⟩
    refine ⟨_, rfl, by show 2 ≤ sizeLine; decide, fun T hT => ?_⟩
    rcases ha with ⟨xs, ha⟩ | ⟨xs, ha⟩
    · refine ⟨_, T, _, _, _, true, rfl, upd_same, .cons (.ty _) (.cons (.ty _) .nil), .base (.tup (by rw [upd_ne (ne_of_none ha hT)]; exact ha)), kitAny_cons (kit_ty (b := "list") (r := false) (by decide +kernel)) (fun _ => kitAny_cons (kit_ty (b := "tuple") (r := true) (by decide +kernel)) (fun z => by cases z) fun _ => rfl) (fun z => by cases z), k _ (Same.new hT)⟩
    · refine ⟨_, T, _, _, _, true, rfl, upd_same, .cons (.ty _) (.cons (.ty _) .nil), .base (.lst (by rw [upd_ne (ne_of_none ha hT)]; exact ha)), kitAny_cons (kit_ty (b := "list") (r := true) (by decide +kernel)) (fun z => by cases z) (fun _ => rfl), k _ (Same.new hT)⟩
abbrev s_are_sheets : Stmt := top 18
theorem sc_are_sheets : FnScope ["thing", "sheet"] ["thing"] (defScope s_are_sheets) := ⟨rfl, rfl, rfl, by decide +kernel, rfl, by decide +kernel, by decide +kernel⟩
theorem ok_are_sheets {f : Addr} {fd : FuncData} (F : Fun K "are_sheets" "are_sheets" s_are_sheets f fd) (m_len : mg "len" = none) (m_set : mg "set" = none) (m_all : mg "all" = none)
    (c_is_list : C8.Cal P w K mg base 1 "is_list" spList []) (c_is_word : C8.Cal P w K mg base 1 "is_word" (spWord K) []) : FnOk P w K mg base CX0 2 f fd ["thing"] spSheets := by
  refine F.ok sc_are_sheets (fun vs H Q E h => ?_) (fun cdv A outer s H vs Q E hr h => ?_)
  · obtain ⟨a, z, rfl, _⟩ := h; rfl
  · obtain ⟨a, ss, rfl, ha, ⟨hne, hl, hnd, hz⟩, k⟩ := h
    refine ⟨_, (pss_cons (ps_if (PW.pt (pw_or (pt_not (pt_val (C8.pe_c c_is_list hr (by decide) rfl (pa_cons (pv 0) pa_nil)))) (pw_or (pt_cmpR op_eq (pe_callB call_len_seq (by rfl) m_len (by decide +kernel) (pa_cons (pv 0) pa_nil)) pe_int (nomark _)) (pw_or1 (pt_not (pt_val (pe_callB (cr_all rfl) (by rfl) m_all (by decide +kernel) (pa_cons (pe_lc (own := [("sheet", 1)]) (g := gName 1) (tt := tYes) rfl sc_are_sheets.nd (pi_tup (pv 0)) (blkOk_by (own := [("sheet", 1)]) (N := ["thing", "sheet"]) (sc := defScope s_are_sheets) (by decide +kernel)) (fun _ _ _ _ _ => pg_name (i := 1) sc_are_sheets.nd rfl (Or.inl rfl)) (fun _ _ _ _ _ => pts_nil) (fun _ _ _ _ _ => (C8.pe_c c_is_word hr (by decide) rfl (pa_cons (pv 1) pa_nil)))) pa_nil)))))))) (pss_one (ps_ret pe_bl)) pss_nil)
      (pss_one (ps_ret (pe_cmpR op_eq (pe_lenSetT rfl rfl m_len rfl m_set (pv 0)) (pe_callB call_len_seq (by rfl) m_len (by decide +kernel) (pa_cons (pv 0) pa_nil)) (nomark _))))), ?_⟩
    have hpos : 0 < ss.length := List.length_pos_iff.mpr hne
    refine ⟨_, rfl, a, rfl, .inl ⟨_, ha⟩, fun H1 s1 => ?_⟩
    refine ⟨_, rfl, iteF ?_⟩
    refine ⟨_, rfl, _, _, rfl, .inr (SqT.of (s1 _ _ ha)), rfl, _, rfl, ?_⟩
    rw [decide_eq_false (fun z => by injection z with z; rw [List.length_map] at z; omega)]
    refine iteF ?_
    refine ⟨_, rfl, a, rfl, ⟨_, SqT.of (s1 _ _ ha)⟩, fun D hD => ?_⟩
    refine lc_tup (K := K) (a := a) (xs := ss.map V.str) (fun i H' => Same H1 H' ∧ ∃ bs : List Bool, H' D = some (.lst (bs.map V.bl)) ∧ bs.length = i ∧ bs.all id = true)
      ⟨Same.new hD, [], upd_same, rfl, rfl⟩ (fun i H' _ q => SqT.of (q.1 _ _ (s1 _ _ ha))) ?_ ?_
    · rintro i x H2 hi ⟨s2, bs, e2, l2, a2⟩
      rw [List.getElem?_map] at hi
      obtain ⟨z, hz1, rfl⟩ : ∃ z, ss[i]? = some z ∧ x = .str z := by
        cases e : ss[i]? with
        | none => rw [e] at hi; cases hi
        | some z => rw [e] at hi; exact ⟨z, rfl, (Option.some.inj hi).symm⟩
      have hw := hz z (List.mem_of_getElem? hz1)
      have hlt : i < ss.length := (List.getElem?_eq_some_iff.mp hz1).1
      refine ⟨rfl, _, rfl, _, rfl, .inl ⟨z, rfl, by rw [slen]; exact Nat.le_trans hw.2.1 (by decide), fun H3 s3 => ?_⟩⟩
      rw [isWB_iff.mpr hw]
      refine ⟨_, s3 _ _ e2, by rw [List.length_map, l2]; exact small1000 (by omega), fun b o e => ?_, bs ++ [true], by rw [upd_same, List.map_append]; rfl, by rw [List.length_append, l2]; rfl, by rw [List.all_append, a2]; rfl⟩
      rw [upd_ne (ne_of_none e hD)]; exact s3 _ _ (s2 _ _ e)
    · rintro H2 ⟨s2, bs, e2, l2, a2⟩
      refine ⟨D, bs, rfl, SqL.of e2, _, rfl, ?_⟩
      rw [a2]
      refine iteF ?_
      refine ⟨_, rfl, a, ss, rfl, SqT.of (s2 _ _ (s1 _ _ ha)), hl, hnd, ?_⟩
      refine ⟨_, rfl, _, _, rfl, .inr (SqT.of (s2 _ _ (s1 _ _ ha))), rfl, ?_⟩
      have e : decide (V.int (ss.length : Int) = V.int ((ss.map V.str).length : Int)) = true := decide_eq_true (by rw [List.length_map])
      show Q (.bl (decide (V.int (ss.length : Int) = V.int ((ss.map V.str).length : Int)))) H2
      rw [e]
      exact k _ (s1.trans s2)
abbrev s_is_there : Stmt := top 20
theorem sc_is_there : FnScope ["moment", "upto"] ["moment", "upto"] (defScope s_is_there) := ⟨rfl, rfl, rfl, by decide +kernel, rfl, by decide +kernel, by decide +kernel⟩
theorem ok_is_there {f : Addr} {fd : FuncData} (F : Fun K "is_there" "is_there" s_is_there f fd) : FnOk P w K mg base CX0 1 f fd ["moment", "upto"] spThere := by
  refine F.ok sc_is_there (fun vs H Q E h => ?_) (fun cdv A outer s H vs Q E hr h => ?_)
  · obtain ⟨a, m, v, u, rfl, _⟩ := h; rfl
  · obtain ⟨a, m, v, u, rfl, ha, hu, k⟩ := h
    refine ⟨_, (pss_one (ps_ret (pe_or (pe_cmpR op_isN (pv 1) pe_non (nomark _)) (pe_one (pe_cmpR (op_leT hr.units0) (pv 0) (pv 1) (nomark _)))))), ?_⟩
    cases u with
    | none =>
      cases (show v = .non from hu)
      exact ⟨_, rfl, rfl, _, rfl, iteT k⟩
    | some u =>
      obtain ⟨b, rfl, hb⟩ := hu
      refine ⟨_, rfl, rfl, _, rfl, iteF ?_⟩
      refine ⟨_, rfl, _, rfl, a, b, [m.1, m.2], [u.1, u.2], rfl, rfl, SqT.of ha, SqT.of hb, ?_⟩
      rw [lex2]; exact k
abbrev s_refuse_new : Stmt := top 21
theorem sc_refuse_new : FnScope ["moment", "entries"] ["moment", "entries"] (defScope s_refuse_new) := ⟨rfl, rfl, rfl, by decide +kernel, rfl, by decide +kernel, by decide +kernel⟩
theorem ok_refuse_new {f : Addr} {fd : FuncData} (F : Fun K "refuse_new" "refuse_new" s_refuse_new f fd) (c_is_moment : C8.Cal P w K mg base 2 "is_moment" spMoment []) : FnOk P w K mg base CX0 3 f fd ["moment", "entries"] spNew := by
  refine F.ok sc_refuse_new (fun vs H Q E h => ?_) (fun cdv A outer s H vs Q E hr h => ?_)
  · obtain ⟨a, d, m, kvs, rfl, _⟩ := h; rfl
  · obtain ⟨a, d, m, kvs, rfl, ha, hm, hd, hn, k⟩ := h
    have hu := hu_of hr
    refine ⟨_, (pss_cons (ps_if (pt_not (pt_val (C8.pe_c c_is_moment hr (by decide) rfl (pa_cons (pv 0) pa_nil)))) (pss_one ps_never) pss_nil)
      (pss_one (ps_if (pt_cmp (pc_din hu (pv 0) (pv 1))) (pss_one ps_never) pss_nil))), ?_⟩
    refine ⟨_, rfl, a, m, rfl, ha, hm, _, rfl, iteF ?_⟩
    refine ⟨_, rfl, _, rfl, d, _, rfl, DGet.m hd ha, _, rfl, ?_⟩
    rw [hn]
    exact iteF k
end
end KN

set_option Elab.async false
set_option linter.all false
set_option maxRecDepth 100000
set_option maxHeartbeats 4000000
namespace KN
open PySem L2
def NmOk (rank : Int) (ws ss : List Str) (like : Option Mo) : Prop := 0 ≤ rank ∧ rank ≤ 5 ∧ ws.length = (if rank = 0 then 2 else 1) ∧ (∀ w ∈ ws, IsW w) ∧
  ((rank = 0 ∧ like = none ∧ SheetsOk ss) ∨ (ss = [] ∧ ∃ m, like = some m ∧ MoOk m))
def spBad : Sp := fun vs H Q _ => ∃ (rank : Int) (wa sa : Addr) (lv : V) (ws ss : List Str) (like : Option Mo), vs = [.int rank, .ref wa, .ref sa, lv] ∧ H wa = some (.tup (ws.map V.str)) ∧ H sa = some (.tup (ss.map V.str)) ∧ UpV H lv like ∧ NmOk rank ws ss like ∧
  ∀ H', Same H H' → Q .non H'
def spMayLike : Sp := fun vs H Q _ => ∃ r o : Int, vs = [.int r, .int o] ∧ Q (.bl (if r = 0 then decide (o = 0) else decide (o < r))) H
def spNamedIn : Sp := fun vs H Q _ => ∃ (v : V) (r : Row), vs = [v] ∧ Tp H v r.d ∧ ∀ (H' : Hp) (l : Addr), Same H H' → H l = none → Ls H' l (r.names.map mD) → Q (.ref l) H'
/-- what the walk asks of the class Book as the top has made it -/
structure BkT (K : PySem.W.Frag) (C : Addr) : Prop where
  cl : Cls K C
  nE : NoAttr K C "_entries"
  nN : NoAttr K C "_named_by"
def spInit (C : Addr) : Sp := fun vs H Q _ => ∃ (b dx : Addr), vs = [.ref b] ∧ H b = some (.ins C dx []) ∧ ∀ H', (∀ a o, a ≠ b → H a = some o → H' a = some o) → BookAt C H' b [] → Q .non H'
def spKeep (C : Addr) : Sp := fun vs H Q _ => ∃ (b : Addr) (v : V) (r : Row) (rs : List Row), vs = [.ref b, v] ∧ BookAt C H b rs ∧ Tp H v r.d ∧ r.mo ∉ rs.map Row.mo ∧ MoOk r.mo ∧ (∀ n ∈ r.names, n ∈ nms rs) ∧ r.names.Nodup ∧ rs.length ≤ 60 ∧
  ∀ H', KD H H' → BookAt C H' b (rs ++ [r]) → Q .non H'
theorem sort_nm (r : Row) : decide (V.str r.sort = V.str "name") = r.isNm := by
  have h1 : ¬ ("choice" : Str) = "name" := by decide +kernel
  have h2 : ¬ ("strike" : Str) = "name" := by decide +kernel
  have h3 : ¬ ("ahead" : Str) = "name" := by decide +kernel
  cases r with
  | nm => exact decide_eq_true rfl
  | ch => exact decide_eq_false fun z => h1 (by injection z)
  | st => exact decide_eq_false fun z => h2 (by injection z)
  | ah => exact decide_eq_false fun z => h3 (by injection z)
def Row.isAh : Row → Bool
  | .ah .. => true
  | _ => false
theorem sort_ah (r : Row) : decide (V.str r.sort = V.str "ahead") = r.isAh := by
  have h1 : ¬ ("choice" : Str) = "ahead" := by decide +kernel
  have h2 : ¬ ("strike" : Str) = "ahead" := by decide +kernel
  have h3 : ¬ ("name" : Str) = "ahead" := by decide +kernel
  cases r with
  | ah => exact decide_eq_true rfl
  | ch => exact decide_eq_false fun z => h1 (by injection z)
  | st => exact decide_eq_false fun z => h2 (by injection z)
  | nm => exact decide_eq_false fun z => h3 (by injection z)
theorem Tp.str_inv {H : Hp} {v : V} {s : Str} (h : Tp H v (.str s)) : v = .str s := by cases h; rfl
theorem Tp.int_inv {H : Hp} {v : V} {s : Int} (h : Tp H v (.int s)) : v = .int s := by cases h; rfl
section
variable {P : Program} {w : World} {K : PySem.W.Frag} {mg : Str → Option Value} {base : Heap} {C : Addr}
abbrev s_bad_name : Stmt := top 23
theorem sc_bad_name : FnScope ["rank", "words", "sheets", "like", "many", "word"] ["rank", "words", "sheets", "like"] (defScope s_bad_name) := ⟨rfl, rfl, rfl, by decide +kernel, rfl, by decide +kernel, by decide +kernel⟩
theorem ok_bad_name {f : Addr} {fd : FuncData} (F : Fun K "bad_name" "bad_name" s_bad_name f fd) (m_isinstance : mg "isinstance" = none) (m_tuple : mg "tuple" = none) (m_len : mg "len" = none) (m_all : mg "all" = none)
    (g_MOST_RANK : ∃ u, mg "MOST_RANK" = some u ∧ RelV (.int 5) u) (c_is_number : C8.Cal P w K mg base 1 "is_number" (spNumber K) []) (c_is_word : C8.Cal P w K mg base 1 "is_word" (spWord K) []) (c_are_sheets : C8.Cal P w K mg base 2 "are_sheets" spSheets [])
    (c_is_list : C8.Cal P w K mg base 1 "is_list" spList []) (c_is_moment : C8.Cal P w K mg base 2 "is_moment" spMoment []) : FnOk P w K mg base CX0 3 f fd ["rank", "words", "sheets", "like"] spBad := by
  refine F.ok sc_bad_name (fun vs H Q E h => ?_) (fun cdv A outer s H vs Q E hr h => ?_)
  · obtain ⟨rank, wa, sa, lv, ws, ss, like, rfl, _⟩ := h; rfl
  · obtain ⟨rank, wa, sa, lv, ws, ss, like, rfl, hwa, hsa, hl, ⟨r0, r5, hwl, hws, hss⟩, k⟩ := h
    refine ⟨_, (pss_cons (ps_if (pt_not (pt_val (C8.pe_c c_is_number hr (by decide) rfl (pa_cons (pv 0) (pa_cons pe_int (pa_cons (C8.pe_gc rfl g_MOST_RANK) pa_nil)))))) (pss_one (ps_ret pe_str)) pss_nil)
      (C8.pss_cut (ps_set (i := 4) sc_bad_name.nd rfl (Or.inl rfl) (pe_ifExp (pt_cmpR op_eq (pv 0) pe_int (nomark _)) pe_int pe_int))
      (pss_cons (ps_if (PW.pt (pw_or (pt_not (pt_val (pe_callB call_isi (by rfl) m_isinstance (by decide +kernel) (pa_cons (pv 1) (pa_cons (pe_bltn (v := .ty "tuple") (u := .type "tuple") rfl m_tuple (by decide +kernel) rfl) pa_nil))))) (pw_or (pt_cmpR op_ne (pe_callB call_len_seq (by rfl) m_len (by decide +kernel) (pa_cons (pv 1) pa_nil)) (pv 4) (nomark _)) (pw_or1 (pt_not (pt_val (pe_callB (cr_all rfl) (by rfl) m_all (by decide +kernel) (pa_cons (pe_lc (own := [("word", 5)]) (g := gName 5) (tt := tYes) rfl sc_bad_name.nd (pi_tup (pv 1)) (blkOk_by (own := [("word", 5)]) (N := ["rank", "words", "sheets", "like", "many", "word"]) (sc := defScope s_bad_name) (by decide +kernel)) (fun _ _ _ _ _ => pg_name (i := 5) sc_bad_name.nd rfl (Or.inl rfl)) (fun _ _ _ _ _ => pts_nil) (fun _ _ _ _ _ => (C8.pe_c c_is_word hr (by decide) rfl (pa_cons (pv 5) pa_nil)))) pa_nil)))))))) (pss_one (ps_ret pe_str)) pss_nil)
      (C8.pss_cut (ps_if (PW.pt (pw_and (pt_cmpR op_eq (pv 0) pe_int (nomark _)) (pw_and1 (pt_cmpR op_isN (pv 3) pe_non (nomark _))))) (pss_one (ps_ret (pe_ifExp (pt_val (C8.pe_c c_are_sheets hr (by decide) rfl (pa_cons (pv 2) pa_nil))) pe_non pe_str))) pss_nil)
      (pss_cons (ps_if (PW.pt (pw_or (pt_not (pt_val (C8.pe_c c_is_list hr (by decide) rfl (pa_cons (pv 2) pa_nil)))) (pw_or1 (pt_cmpR op_gt (pe_callB call_len_seq (by rfl) m_len (by decide +kernel) (pa_cons (pv 2) pa_nil)) pe_int (nomark _))))) (pss_one (ps_ret pe_str)) pss_nil)
      (pss_one (ps_ret (pe_ifExp (pt_val (C8.pe_c c_is_moment hr (by decide) rfl (pa_cons (pv 3) pa_nil))) pe_non pe_str)))))))), ?_⟩
    have er : (decide ((0 : Int) ≤ rank) && decide (rank ≤ 5)) = true := by rw [decide_eq_true r0, decide_eq_true r5]; rfl
    refine ⟨_, rfl, _, _, _, rfl, .inl ⟨_, rfl, ?_⟩⟩
    rw [er]
    refine ⟨_, rfl, iteF ?_⟩
    refine ⟨fun σ' H' => σ' = [some (.int rank), some (.ref wa), some (.ref sa), some lv, some (.int (ws.length : Int)), none] ∧ H' = H, ?_, ?_⟩
    · refine ⟨_, rfl, rfl, _, rfl, ite2 (fun h => ?_) (fun h => ?_)⟩
      · have h' : rank = 0 := by have := of_decide_eq_true h; injection this
        rw [if_pos h'] at hwl
        exact ⟨by rw [hwl]; rfl, rfl⟩
      · have h' : ¬ rank = 0 := fun z => h (by rw [z]; rfl)
        rw [if_neg h'] at hwl
        exact ⟨by rw [hwl]; rfl, rfl⟩
    rintro σ1 H1 ⟨rfl, rfl⟩
    refine ⟨_, rfl, _, _, _, _, true, rfl, .ty _, .base (.tup hwa), kit_ty (by decide +kernel), _, rfl, iteF ?_⟩
    refine ⟨_, rfl, _, _, rfl, .inr (SqT.of hwa), _, rfl, rfl, _, rfl, ?_⟩
    rw [List.length_map, decide_eq_true rfl]
    refine iteF ?_
    -- all(words)
    have hwn : ws.length ≤ 2 := by rw [hwl]; split <;> omega
    refine ⟨_, rfl, wa, rfl, ⟨_, SqT.of hwa⟩, fun D hD => ?_⟩
    refine lc_tup (K := K) (a := wa) (xs := ws.map V.str) (fun i H' => Same H1 H' ∧ ∃ bs : List Bool, H' D = some (.lst (bs.map V.bl)) ∧ bs.length = i ∧ bs.all id = true)
      ⟨Same.new hD, [], upd_same, rfl, rfl⟩ (fun i H' _ q => SqT.of (q.1 _ _ hwa)) ?_ ?_
    · rintro i x H2 hi ⟨s2, bs, e2, l2, a2⟩
      rw [List.getElem?_map] at hi
      obtain ⟨z, hz, rfl⟩ : ∃ z, ws[i]? = some z ∧ x = .str z := by
        cases e : ws[i]? with
        | none => rw [e] at hi; cases hi
        | some z => rw [e] at hi; exact ⟨z, rfl, (Option.some.inj hi).symm⟩
      have hw := hws z (List.mem_of_getElem? hz)
      refine ⟨rfl, _, rfl, _, rfl, .inl ⟨z, rfl, by rw [slen]; exact Nat.le_trans hw.2.1 (by decide), fun H3 s3 => ?_⟩⟩
      rw [isWB_iff.mpr hw]
      have hlt : i < ws.length := (List.getElem?_eq_some_iff.mp hz).1
      refine ⟨_, s3 _ _ e2, by rw [List.length_map, l2]; exact small1000 (by omega), fun b o e => ?_, bs ++ [true], by rw [upd_same, List.map_append]; rfl, by rw [List.length_append, l2]; rfl, by rw [List.all_append, a2]; rfl⟩
      rw [upd_ne (ne_of_none e hD)]; exact s3 _ _ (s2 _ _ e)
    rintro H2 ⟨s2, bs, e2, l2, a2⟩
    refine ⟨D, bs, rfl, SqL.of e2, _, rfl, ?_⟩
    rw [a2]
    refine iteF ?_
    have hsa2 := s2 _ _ hsa
    have hl2 := hl.to (TK.of s2)
    refine ⟨fun σ' H' => σ' = [some (.int rank), some (.ref wa), some (.ref sa), some lv, some (.int (ws.length : Int)), none] ∧ H' = H2 ∧ ss = [] ∧ ∃ m, like = some m ∧ MoOk m, ?_, ?_⟩
    · rcases hss with ⟨e0, rfl, hz⟩ | ⟨rfl, m, rfl, hm⟩
      · subst e0
        cases (show lv = .non from hl)
        refine ⟨_, rfl, rfl, _, rfl, iteT ?_⟩
        refine ⟨_, rfl, rfl, _, rfl, iteT ?_⟩
        refine ⟨_, rfl, sa, ss, rfl, hsa2, hz, fun H3 s3 => ⟨_, rfl, iteT ?_⟩⟩
        exact k _ (s2.trans s3)
      · obtain ⟨la, rfl, hla⟩ := hl2
        refine ⟨_, rfl, rfl, _, rfl, ite2 (fun h => ?_) (fun h => ?_)⟩
        · refine ⟨_, rfl, rfl, _, rfl, iteF ?_⟩
          exact ⟨rfl, rfl, rfl, m, rfl, hm⟩
        · exact ⟨rfl, rfl, rfl, m, rfl, hm⟩
    rintro σ3 H3 ⟨rfl, rfl, rfl, m, rfl, hm⟩
    obtain ⟨la, rfl, hla⟩ := hl2
    refine ⟨_, rfl, sa, rfl, .inl ⟨_, hsa2⟩, fun H4 s4 => ?_⟩
    refine ⟨_, rfl, iteF ?_⟩
    refine ⟨_, rfl, _, _, rfl, .inr (SqT.of (s4 _ _ hsa2)), _, _, rfl, rfl, _, rfl, iteF ?_⟩
    refine ⟨_, rfl, la, m, rfl, s4 _ _ hla, hm, _, rfl, iteT ?_⟩
    exact k _ (s2.trans s4)
abbrev s__may_be_like : Stmt := top 24
theorem sc__may_be_like : FnScope ["rank", "other"] ["rank", "other"] (defScope s__may_be_like) := ⟨rfl, rfl, rfl, by decide +kernel, rfl, by decide +kernel, by decide +kernel⟩
theorem ok__may_be_like {f : Addr} {fd : FuncData} (F : Fun K "_may_be_like" "_may_be_like" s__may_be_like f fd) : FnOk P w K mg base CX0 1 f fd ["rank", "other"] spMayLike := by
  refine F.ok sc__may_be_like (fun vs H Q E h => ?_) (fun cdv A outer s H vs Q E hr h => ?_)
  · obtain ⟨r, o, rfl, _⟩ := h; rfl
  · obtain ⟨r, o, rfl, k⟩ := h
    refine ⟨_, (pss_one (ps_ret (pe_ifExp (pt_cmpR op_eq (pv 0) pe_int (nomark _)) (pe_cmpR op_eq (pv 1) pe_int (nomark _)) (pe_cmpR op_lt (pv 1) (pv 0) (nomark _))))), ?_⟩
    refine ⟨_, rfl, rfl, _, rfl, ite2 (fun h => ?_) (fun h => ?_)⟩
    · have h' : r = 0 := by have := of_decide_eq_true h; injection this
      rw [if_pos h'] at k
      refine ⟨_, rfl, rfl, ?_⟩
      have e : decide (V.int o = V.int 0) = decide (o = 0) := by
        by_cases q : o = 0
        · rw [decide_eq_true q, q]; rfl
        · rw [decide_eq_false q]; exact decide_eq_false fun z => q (by injection z)
      rw [e]; exact k
    · have h' : ¬ r = 0 := fun z => h (by rw [z]; rfl)
      rw [if_neg h'] at k
      exact ⟨_, rfl, _, rfl, _, _, rfl, rfl, k⟩
abbrev s__named_in : Stmt := top 25
theorem sc__named_in : FnScope ["record"] ["record"] (defScope s__named_in) := ⟨rfl, rfl, rfl, by decide +kernel, rfl, by decide +kernel, by decide +kernel⟩
theorem ok__named_in {f : Addr} {fd : FuncData} (F : Fun K "_named_in" "_named_in" s__named_in f fd) : FnOk P w K mg base CX0 1 f fd ["record"] spNamedIn := by
  refine F.ok sc__named_in (fun vs H Q E h => ?_) (fun cdv A outer s H vs Q E hr h => ?_)
  · obtain ⟨v, r, rfl, _⟩ := h; rfl
  · obtain ⟨v, r, rfl, hv, k⟩ := h
    refine ⟨_, (pss_cons (ps_if (pt_cmpR op_eq (pe_ix ix_tup (pv 0) pe_int (fun _ _ => rfl)) pe_str (nomark _)) (pss_one (ps_ret (pe_ifExp (pt_cmpR op_isN (pe_ix ix_tup (pv 0) pe_int (fun _ _ => rfl)) pe_non (nomark _)) (pe_lst pa_nil) (pe_lst (pa_cons (pe_ix ix_tup (pv 0) pe_int (fun _ _ => rfl)) pa_nil))))) pss_nil)
      (pss_cons (ps_if (pt_cmpR op_eq (pe_ix ix_tup (pv 0) pe_int (fun _ _ => rfl)) pe_str (nomark _)) (pss_one (ps_ret (pe_lst (pa_cons (pe_ix ix_tup (pv 0) pe_int (fun _ _ => rfl)) (pa_cons (pe_ix ix_tup (pv 0) pe_int (fun _ _ => rfl)) pa_nil))))) pss_nil)
      (pss_one (ps_ret (pe_lst (pa_cons (pe_ix ix_tup (pv 0) pe_int (fun _ _ => rfl)) pa_nil)))))), ?_⟩
    obtain ⟨t, xs, rfl, ht, rx⟩ := Tp.inv hv
    obtain ⟨v0, a0, t0⟩ := Tp.at (K := K) ht rx r.ds0
    cases Tp.str_inv t0
    refine ⟨_, rfl, _, _, _, _, rfl, rfl, SqT.of ht, a0, rfl, _, rfl, ?_⟩
    rw [sort_nm]
    cases r with
    | nm m rk ws ss l =>
      refine iteT ?_
      obtain ⟨v5, a5, t5⟩ := Tp.at (K := K) (i := 5) (d := oD l) ht rx rfl
      refine ⟨_, rfl, _, _, _, _, rfl, rfl, SqT.of ht, a5, rfl, _, rfl, ?_⟩
      cases l with
      | none =>
        cases t5
        exact iteT ⟨Nat.zero_le _, fun l hl => k _ l (Same.new hl) hl ⟨_, upd_same, .nil⟩⟩
      | some m5 =>
        obtain ⟨b, rfl, hb⟩ := Tp.mo_inv t5
        refine iteF ⟨_, rfl, _, _, _, _, rfl, rfl, SqT.of ht, a5, by show 1 ≤ sizeLine; decide, fun l hl => k _ l (Same.new hl) hl ⟨_, upd_same, .cons (t5.to (TK.new hl)) .nil⟩⟩
    | ch m n z =>
      refine iteF ?_
      obtain ⟨v2, a2, t2⟩ := Tp.at (K := K) (i := 2) (d := mD n) ht rx rfl
      refine ⟨_, rfl, _, _, _, _, rfl, rfl, SqT.of ht, a0, rfl, _, rfl, ?_⟩
      rw [sort_ah]
      exact iteF ⟨_, rfl, _, _, _, _, rfl, rfl, SqT.of ht, a2, by show 1 ≤ sizeLine; decide, fun l hl => k _ l (Same.new hl) hl ⟨_, upd_same, .cons (t2.to (TK.new hl)) .nil⟩⟩
    | st m n z =>
      refine iteF ?_
      obtain ⟨v2, a2, t2⟩ := Tp.at (K := K) (i := 2) (d := mD n) ht rx rfl
      refine ⟨_, rfl, _, _, _, _, rfl, rfl, SqT.of ht, a0, rfl, _, rfl, ?_⟩
      rw [sort_ah]
      exact iteF ⟨_, rfl, _, _, _, _, rfl, rfl, SqT.of ht, a2, by show 1 ≤ sizeLine; decide, fun l hl => k _ l (Same.new hl) hl ⟨_, upd_same, .cons (t2.to (TK.new hl)) .nil⟩⟩
    | ah m n o =>
      refine iteF ?_
      obtain ⟨v2, a2, t2⟩ := Tp.at (K := K) (i := 2) (d := mD n) ht rx rfl
      obtain ⟨v3, a3, t3⟩ := Tp.at (K := K) (i := 3) (d := mD o) ht rx rfl
      refine ⟨_, rfl, _, _, _, _, rfl, rfl, SqT.of ht, a0, rfl, _, rfl, ?_⟩
      rw [sort_ah]
      exact iteT ⟨_, rfl, _, _, _, _, rfl, rfl, SqT.of ht, a2, _, rfl, _, _, _, _, rfl, rfl, SqT.of ht, a3, by show 2 ≤ sizeLine; decide, fun l hl => k _ l (Same.new hl) hl ⟨_, upd_same, .cons (t2.to (TK.new hl)) (.cons (t3.to (TK.new hl)) .nil)⟩⟩
abbrev s_Book___init__ : Stmt := inClass (top 26) 0
theorem sc_Book___init__ : FnScope ["self"] ["self"] (defScope s_Book___init__) := ⟨rfl, rfl, rfl, by decide +kernel, rfl, by decide +kernel, by decide +kernel⟩
theorem ok_Book_init {f : Addr} {fd : FuncData} (F : Fun K "__init__" "Book.__init__" s_Book___init__ f fd) (T : BkT K C) : FnOk P w K mg base CX0 1 f fd ["self"] (spInit C) := by
  refine F.ok sc_Book___init__ (fun vs H Q E h => ?_) (fun cdv A outer s H vs Q E hr h => ?_)
  · obtain ⟨b, dx, rfl, _⟩ := h; rfl
  · obtain ⟨b, dx, rfl, hb, k⟩ := h
    refine ⟨_, (pss_cons (ps_fld (pv 0) pe_dnewT rfl)
      (pss_one (ps_fld (pv 0) pe_dnewT rfl))), ?_⟩
    intro e he
    have nbe : b ≠ e := ne_of_none hb he
    refine ⟨_, rfl, b, C, dx, [], rfl, (by rw [upd_ne nbe]; exact hb), T.cl, T.nE, (by show 0 < 1000; decide), ?_⟩
    intro n hn
    have nbn : b ≠ n := fun z => by subst z; rw [upd_same] at hn; cases hn
    have nen : e ≠ n := fun z => by subst z; rw [upd_ne nbe.symm, upd_same] at hn; cases hn
    have hn0 : H n = none := by rw [upd_ne nbn.symm, upd_ne nen.symm] at hn; exact hn
    refine ⟨_, rfl, b, C, dx, _, rfl, (by rw [upd_ne nbn, upd_same]), T.cl, T.nN, (by show 1 < 1000; decide), ?_⟩
    refine k _ (fun a o na ea => ?_) ⟨dx, e, n, [], [], upd_same, by rw [upd_ne nbe.symm, upd_ne nen, upd_ne nbe.symm, upd_same], by rw [upd_ne nbn.symm, upd_same], nen, .nil, .nil, List.nodup_nil, List.nodup_nil, (fun r hr => by cases hr), (fun r hr => by cases hr)⟩
    rw [upd_ne na, upd_ne (ne_of_none ea hn0), upd_ne na, upd_ne (ne_of_none ea he)]
    exact ea
end
end KN

set_option Elab.async false
set_option linter.all false
set_option maxRecDepth 100000
set_option maxHeartbeats 4000000
namespace KN
open PySem L2
theorem cut_nox {X : Cx} {st : List Stmt} {D : Ends} {σ : St} {H : Hp} (h : ∃ t, PSs X.nox st t ∧ t D σ H) : ∃ t, PSs X st t ∧ t D σ H := let ⟨t, a, b⟩ := h; ⟨t, a.nox, b⟩
def spName (C : Addr) : Sp := fun vs H Q _ => ∃ (b a : Addr) (v : V) (u : Option Mo) (rs : List Row) (r : Row), vs = [.ref b, .ref a, v] ∧ BookAt C H b rs ∧ H a = some (.tup [.int r.mo.1, .int r.mo.2]) ∧ UpV H v u ∧ r ∈ rs ∧ r.isNm = true ∧ upB r.mo u = true ∧
  ∀ x, Tp H x r.d → Q x H
def spRefuse (C : Addr) : Sp := fun vs H Q _ => ∃ (b am an : Addr) (m n : Mo) (rs : List Row), vs = [.ref b, .ref am, .ref an] ∧ BookAt C H b rs ∧ H am = some (.tup [.int m.1, .int m.2]) ∧ H an = some (.tup [.int n.1, .int n.2]) ∧ n ∈ nms rs ∧ ¬ mLt m n ∧ Q .non H
def spRank (C : Addr) : Sp := fun vs H Q _ => ∃ (b a : Addr) (m : Mo) (rk : Int) (ws ss : List Str) (l : Option Mo) (rs : List Row), vs = [.ref b, .ref a] ∧ BookAt C H b rs ∧ H a = some (.tup [.int m.1, .int m.2]) ∧ Row.nm m rk ws ss l ∈ rs ∧ Q (.int rk) H
def spPublish (C : Addr) : Sp := fun vs H Q _ => ∃ (b am wa sa : Addr) (lv : V) (m : Mo) (rank : Int) (ws ss : List Str) (like : Option Mo) (rs : List Row), vs = [.ref b, .ref am, .ref wa, .int rank, .ref sa, lv] ∧ BookAt C H b rs ∧
  H am = some (.tup [.int m.1, .int m.2]) ∧ H wa = some (.tup (ws.map V.str)) ∧ H sa = some (.tup (ss.map V.str)) ∧ UpV H lv like ∧ NmOk rank ws ss like ∧ MoOk m ∧ m ∉ rs.map Row.mo ∧ rs.length ≤ 60 ∧
  (∀ l, like = some l → ¬ mLt m l ∧ ∃ rk ws' ss' l', Row.nm l rk ws' ss' l' ∈ rs ∧ (if rank = 0 then decide (rk = 0) else decide (rk < rank)) = true) ∧
  ∀ H', KD H H' → BookAt C H' b (rs ++ [.nm m rank ws ss like]) → Q .non H'
def spAhead (C : Addr) : Sp := fun vs H Q _ => ∃ (b am an ao : Addr) (m n o : Mo) (rk : Int) (rs : List Row), vs = [.ref b, .ref am, .ref an, .ref ao] ∧ BookAt C H b rs ∧
  H am = some (.tup [.int m.1, .int m.2]) ∧ H an = some (.tup [.int n.1, .int n.2]) ∧ H ao = some (.tup [.int o.1, .int o.2]) ∧ MoOk m ∧ m ∉ rs.map Row.mo ∧ rs.length ≤ 60 ∧ ¬ mLt m n ∧ ¬ mLt m o ∧ n ≠ o ∧
  (∃ ws ss l, Row.nm n rk ws ss l ∈ rs) ∧ (∃ ws ss l, Row.nm o rk ws ss l ∈ rs) ∧ ∀ H', KD H H' → BookAt C H' b (rs ++ [.ah m n o]) → Q .non H'
section
variable {P : Program} {w : World} {K : PySem.W.Frag} {mg : Str → Option Value} {base : Heap} {C : Addr}
abbrev s_Book__keep : Stmt := inClass (top 26) 18
theorem sc_Book__keep : FnScope ["self", "record", "name"] ["self", "record"] (defScope s_Book__keep) := ⟨rfl, rfl, rfl, by decide +kernel, rfl, by decide +kernel, by decide +kernel⟩
theorem ok_Book_keep {f : Addr} {fd : FuncData} (F : Fun K "_keep" "Book._keep" s_Book__keep f fd) (T : BkT K C) (c__named_in : C8.Cal P w K mg base 1 "_named_in" spNamedIn []) : FnOk P w K mg base CX0 2 f fd ["self", "record"] (spKeep C) := by
  refine F.ok sc_Book__keep (fun vs H Q E h => ?_) (fun cdv A outer s H vs Q E hr h => ?_)
  · obtain ⟨b, v, r, rs, rfl, _⟩ := h; rfl
  · obtain ⟨b, v, r, rs, rfl, ⟨dx, e, n, kvs, nkv, B⟩, hv, hm, hok, hn, hnd, h60, k⟩ := h
    have hu := hu_of hr
    refine ⟨_, (pss_cons (ps_dput hu (pe_fld (pv 0) rfl) (pe_ix ix_tup (pv 1) pe_int (fun _ _ => rfl)) (pv 1) rfl)
      (C8.pss_cut (ps_if (pt_cmpR op_eq (pe_ix ix_tup (pv 1) pe_int (fun _ _ => rfl)) pe_str (nomark _)) (pss_one (ps_dput hu (pe_fld (pv 0) rfl) (pe_ix ix_tup (pv 1) pe_int (fun _ _ => rfl)) pe_dnewT rfl)) pss_nil)
      (pss_one (ps_for PassesOwn.never rfl (pi_list (C8.pe_c c__named_in hr (by decide) rfl (pa_cons (pv 1) pa_nil))) (pg_name (i := 2) sc_Book__keep.nd rfl (Or.inl rfl))
      (pss_one (ps_dput hu (pe_dget hu (pe_fld (pv 0) rfl) (pv 2) (fun _ _ => rfl)) (pe_ix ix_tup (pv 1) pe_int (fun _ _ => rfl)) pe_bl rfl)))))), ?_⟩
    obtain ⟨t, xs, rfl, ht, rx⟩ := Tp.inv hv
    obtain ⟨v0, a0, t0⟩ := Tp.at (K := K) ht rx r.ds0
    cases Tp.str_inv t0
    obtain ⟨v1, a1, t1⟩ := Tp.at (K := K) ht rx r.ds1
    obtain ⟨am, rfl, ham⟩ := Tp.mo_inv t1
    have hkl : kvs.length = rs.length := Paired.len B.er
    have hbe : b ≠ e := ne_of B.ob B.en (by intro z; cases z)
    have hbn : b ≠ n := ne_of B.ob B.nb (by intro z; cases z)
    -- self._entries[record[1]] = record
    refine ⟨_, rfl, _, rfl, b, C, dx, _, _, rfl, B.ob, T.cl, T.nE, bf_e _ _, _, rfl, _, _, _, _, rfl, rfl, SqT.of ht, a1, e, _, rfl, DPut.t (k := mK r.mo) B.en ham (by rw [hkl]; exact small1000 (by omega)), ?_⟩
    rw [putK_new _ (B.er.none hm)]
    have kd1 : KD H (upd H e (.dT (kvs ++ [(mK r.mo, V.ref t)]))) := KD.put B.en
    have I1 : (∃ nkv1 : List (List Key × V), True) := ⟨nkv, trivial⟩
    -- a name gets a dict of users
    refine ⟨fun σ' H' => σ' = [some (.ref b), some (.ref t), none] ∧ KD H H' ∧ H' b = some (.ins C dx (bf e n)) ∧ H' e = some (.dT (kvs ++ [(mK r.mo, V.ref t)])) ∧ ∃ nkv1, H' n = some (.dT nkv1) ∧ NamR H' e n (users rs) nkv1 (nms (rs ++ [r])) ∧ (nkv1.map (·.2)).Nodup, ?_, ?_⟩
    · refine ⟨_, rfl, _, _, _, _, rfl, rfl, SqT.of (kd1.tk _ _ ht), a0, rfl, _, rfl, ?_⟩
      rw [sort_nm]
      have n1 : NamR (upd H e (.dT (kvs ++ [(mK r.mo, V.ref t)]))) e n (users rs) nkv (nms rs) := B.nr.off fun u kvs h1 _ h => by rw [upd_ne h1]; exact h
      by_cases hnm : r.isNm = true
      · rw [hnm]
        refine iteT ?_
        intro u0 hu0
        have nu0e : u0 ≠ e := fun z => by subst z; rw [upd_same] at hu0; cases hu0
        have hu00 : H u0 = none := by rw [upd_ne nu0e] at hu0; exact hu0
        have nu0n : u0 ≠ n := (ne_of_none B.nb hu00).symm
        have nu0b : b ≠ u0 := ne_of_none B.ob hu00
        have kd2 : KD H (upd (upd H e (.dT (kvs ++ [(mK r.mo, V.ref t)]))) u0 (.dT [])) := kd1.trans (KD.of (Same.new hu0))
        refine ⟨_, rfl, b, C, dx, _, _, rfl, kd2 _ _ (by intro z; exact nofun) B.ob, T.cl, T.nN, bf_n _ _, _, rfl, _, _, _, _, rfl, rfl, SqT.of (kd2.tk _ _ ht), a1, n, _, rfl, DPut.t (k := mK r.mo) (by rw [upd_ne nu0n.symm, upd_ne B.ne.symm]; exact B.nb) (kd2.tk _ _ ham) (by
          have := Paired.len B.nr; rw [this]; unfold nms; rw [List.length_map]; exact small1000 (Nat.le_trans (List.length_filter_le _ _) (by omega))), ?_⟩
        have hmn : r.mo ∉ nms rs := fun z => hm (nms_sub z)
        rw [putK_new _ (B.nr.none hmn)]
        refine ⟨rfl, fun a o no ea => ?_, by rw [upd_ne hbn, upd_ne nu0b, upd_ne hbe]; exact B.ob, by rw [upd_ne B.ne, upd_ne nu0e.symm, upd_same], _, upd_same, ?_, ?_⟩
        · rw [upd_ne (fun z => by subst z; rw [B.nb] at ea; cases ea; exact no _ rfl)]
          exact kd2 a o no ea
        · rw [nms_app, if_pos hnm]
          refine Paired.snoc (NamR.off n1 fun u kvs h1 h2 h => ?_) ⟨rfl, u0, rfl, ?_, nu0e, nu0n⟩
          · rw [upd_ne h2, upd_ne (ne_of_none h hu0)]; exact h
          · rw [upd_ne nu0n, upd_same]
            have : users rs r.mo = [] := by
              unfold users
              have : (rs.filter fun r' => decide (r.mo ∈ r'.names)) = [] := List.filter_eq_nil_iff.mpr fun r' hr' z => hmn (B.cl r' hr' _ (of_decide_eq_true z))
              rw [this]; rfl
            rw [this]
        · rw [List.map_append]
          refine List.nodup_append.mpr ⟨B.nd, (by simp), fun x hx y hy => ?_⟩
          rw [List.map_singleton, List.mem_singleton] at hy
          subst hy
          intro z
          obtain ⟨u1, e1, _, h1⟩ := n1.snd hx
          rw [z] at e1; cases e1
          rw [h1] at hu0; cases hu0
      · rw [Bool.eq_false_iff.mpr hnm]
        refine iteF ?_
        refine ⟨rfl, kd1, by rw [upd_ne hbe]; exact B.ob, upd_same, nkv, by rw [upd_ne B.ne.symm]; exact B.nb, ?_, B.nd⟩
        rw [nms_app, if_neg hnm, List.append_nil]; exact n1
    rintro σ1 H1 ⟨rfl, kdA, hb1, he1, nkv1, hn1, nr1, nd1⟩
    -- for name in _named_in(record)
    refine ⟨_, rfl, _, r, rfl, hv.to kdA.tk, fun H2 l s2 l0 ⟨lx, hl, rl⟩ => ?_⟩
    have hll : lx.length = r.names.length := by rw [rl.len, List.length_map]
    have md' : ((rs ++ [r]).map Row.mo).Nodup := by
      rw [List.map_append]
      exact List.nodup_append.mpr ⟨B.md, (by simp), fun x hx y hy => by rw [List.map_singleton, List.mem_singleton] at hy; subst hy; exact fun z => hm (z ▸ hx)⟩
    refine ⟨l, rfl, ⟨_, SqL.of hl⟩, for_list (K := K) (a := l) (xs := lx) (fun i σ' H' => ∃ v2 : Option V, σ' = [some (.ref b), some (.ref t), v2] ∧ KD H2 H' ∧ H' b = some (.ins C dx (bf e n)) ∧ H' e = some (.dT (kvs ++ [(mK r.mo, V.ref t)])) ∧ H' n = some (.dT nkv1) ∧
        NamR H' e n (fun m => users rs m ++ (if m ∈ r.names.take i then [(mK r.mo, V.bl true)] else [])) nkv1 (nms (rs ++ [r])))
      ⟨none, rfl, KD.refl _, s2 _ _ hb1, s2 _ _ he1, s2 _ _ hn1, (nr1.off fun u kvs _ _ h => s2 _ _ h).fn fun m _ => by rw [List.take_zero, if_neg (by simp), List.append_nil]⟩
      (fun i σ' H' _ ⟨_, _, kd, _⟩ => SqL.of (kd _ _ (by intro z; exact nofun) hl)) ?_ ?_⟩
    · rintro i x σ3 H3 hi ⟨v2, rfl, kd3, hb3, he3, hn3, nr3⟩
      obtain ⟨d, hd, tx⟩ := rl.getv hi
      rw [List.getElem?_map] at hd
      obtain ⟨nm, hnm, rfl⟩ : ∃ nm, r.names[i]? = some nm ∧ d = mD nm := by
        cases q : r.names[i]? with
        | none => rw [q] at hd; cases hd
        | some nm => rw [q] at hd; exact ⟨nm, rfl, (Option.some.inj hd).symm⟩
      obtain ⟨ax, rfl, hax⟩ := Tp.mo_inv tx
      have tk3 : TK H H3 := kdA.tk.trans ((TK.of s2).trans kd3.tk)
      have hin : nm ∈ nms (rs ++ [r]) := by
        rw [nms_app]; exact List.mem_append_left _ (hn nm (List.mem_of_getElem? hnm))
      obtain ⟨u, hu1, hu2, hu3, hu4⟩ := nr3.get hin
      have hnt : nm ∉ r.names.take i := fun z => by
        obtain ⟨j, hj, ej⟩ := List.getElem_of_mem z
        rw [List.getElem_take] at ej
        rw [List.length_take] at hj
        obtain ⟨h1, h2⟩ := List.getElem?_eq_some_iff.mp hnm
        have := (List.getElem_inj hnd).mp (ej.trans h2.symm)
        omega
      rw [if_neg hnt, List.append_nil] at hu2
      have g3 : DGet H3 n (.ref ax) (some (.ref u)) := by have := DGet.m hn3 (kd3.tk _ _ hax); rw [hu1] at this; exact this
      refine ⟨_, rfl, b, C, dx, _, _, rfl, hb3, T.cl, T.nN, bf_n _ _, _, rfl, n, _, rfl, g3, _, rfl, _, _, _, _, rfl, rfl, SqT.of (tk3 _ _ ht), a1, u, _, rfl, DPut.t (k := mK r.mo) hu2 (tk3 _ _ ham) (Nat.lt_of_le_of_lt (users_le rs nm) (small1000 (by omega))), ?_⟩
      rw [putK_new _ (users_key hm)]
      refine ⟨_, rfl, kd3.trans (KD.put hu2), by rw [upd_ne (ne_of hb3 hu2 (by intro z; cases z))]; exact hb3, by rw [upd_ne hu3.symm]; exact he3, by rw [upd_ne hu4.symm]; exact hn3, ?_⟩
      refine (nr3.put1 nd1 (nms_nd md') hin hu1 _).fn fun m _ => ?_
      by_cases z : m = nm
      · subst z
        rw [if_pos rfl, if_pos (by rw [List.take_add_one, hnm]; exact List.mem_append_right _ (List.mem_singleton.mpr rfl))]
      · rw [if_neg z]
        have : m ∈ r.names.take (i + 1) ↔ m ∈ r.names.take i := by
          rw [List.take_add_one, hnm, List.mem_append, Option.toList_some, List.mem_singleton]
          exact ⟨fun y => y.elim id fun y => absurd y z, .inl⟩
        by_cases y : m ∈ r.names.take i
        · rw [if_pos y, if_pos (this.mpr y)]
        · rw [if_neg y, if_neg (fun q => y (this.mp q))]
    · rintro σ3 H3 ⟨v2, rfl, kd3, hb3, he3, hn3, nr3⟩
      have tk3 : TK H H3 := kdA.tk.trans ((TK.of s2).trans kd3.tk)
      refine k H3 (fun a o no ea => kd3 _ _ no (s2 _ _ (kdA a o no ea))) ⟨dx, e, n, _, nkv1, hb3, he3, hn3, B.ne, Paired.snoc (B.er.to tk3) ⟨rfl, hv.to tk3⟩, nr3.fn fun m _ => ?_, nd1, md', fun x hx => ?_, fun x hx y hy => ?_⟩
      · rw [hll, List.take_length, users_app]
      · rcases List.mem_append.mp hx with h | h
        · exact B.ok x h
        · rw [List.mem_singleton] at h; subst h; exact hok
      · rw [nms_app]
        rcases List.mem_append.mp hx with h | h
        · exact List.mem_append_left _ (B.cl x h y hy)
        · rw [List.mem_singleton] at h; subst h; exact List.mem_append_left _ (hn y hy)
abbrev s_Book__name : Stmt := inClass (top 26) 19
theorem sc_Book__name : FnScope ["self", "name", "upto"] ["self", "name", "upto"] (defScope s_Book__name) := ⟨rfl, rfl, rfl, by decide +kernel, rfl, by decide +kernel, by decide +kernel⟩
theorem ok_Book_name {f : Addr} {fd : FuncData} (F : FunD K "_name" "Book._name" (defArgs s_Book__name) (defBody s_Book__name) (defScope s_Book__name) [] [("upto", V.non)] f fd) (T : BkT K C) (c_is_moment : C8.Cal P w K mg base 2 "is_moment" spMoment []) (c_is_there : C8.Cal P w K mg base 1 "is_there" spThere []) : FnOk P w K mg base CX0 3 f fd ["self", "name", "upto"] (spName C) := by
  refine F.ok sc_Book__name (fun vs H Q E h => ?_) (fun cdv A outer s H vs Q E hr h => ?_)
  · obtain ⟨b, a, v, u, rs, r, rfl, _⟩ := h; rfl
  · obtain ⟨b, a, v, u, rs, r, rfl, ⟨dx, e, n, kvs, nkv, B⟩, ha, hv, hr', hnm, hup, k⟩ := h
    have hu := hu_of hr
    refine cut_nox ⟨_, (pss_cons (ps_if (PW.pt (pw_or (pt_not (pt_val (C8.pe_c c_is_moment hr (by decide) rfl (pa_cons (pv 1) pa_nil)))) (pw_or (pt_cmp (pc_dnotin hu (pv 1) (pe_fld (pv 0) rfl))) (pw_or1 (pt_not (pt_val (C8.pe_c c_is_there hr (by decide) rfl (pa_cons (pv 1) (pa_cons (pv 2) pa_nil))))))))) (pss_one ps_never) pss_nil)
      (pss_one (ps_ret (pe_dget hu (pe_fld (pv 0) rfl) (pv 1) (fun _ _ => rfl))))), ?_⟩
    refine ⟨_, rfl, a, r.mo, rfl, ha, B.ok r hr', _, rfl, iteF ?_⟩
    have hin : r.mo ∈ nms rs := List.mem_map.mpr ⟨r, List.mem_filter.mpr ⟨hr', hnm⟩, rfl⟩
    obtain ⟨u0, h1, _⟩ := B.nr.get hin
    refine ⟨_, rfl, _, rfl, b, C, dx, _, _, rfl, B.ob, T.cl, T.nN, bf_n _ _, n, _, rfl, DGet.m B.nb ha, _, rfl, ?_⟩
    rw [h1]
    refine iteF ?_
    refine ⟨_, rfl, _, rfl, a, r.mo, v, u, rfl, ha, hv, ?_⟩
    rw [hup]
    refine ⟨_, rfl, iteF ?_⟩
    obtain ⟨x, hx, tx⟩ := B.er.get B.md hr'
    have g : DGet H e (.ref a) (some x) := by have := DGet.m B.en ha; rw [hx] at this; exact this
    exact ⟨_, rfl, b, C, dx, _, _, rfl, B.ob, T.cl, T.nE, bf_e _ _, _, rfl, e, x, rfl, g, k x tx⟩
abbrev s_Book__refuse_named : Stmt := inClass (top 26) 20
theorem sc_Book__refuse_named : FnScope ["self", "moment", "name"] ["self", "moment", "name"] (defScope s_Book__refuse_named) := ⟨rfl, rfl, rfl, by decide +kernel, rfl, by decide +kernel, by decide +kernel⟩
theorem ok_Book_refuse_named {f : Addr} {fd : FuncData} (F : Fun K "_refuse_named" "Book._refuse_named" s_Book__refuse_named f fd) (c_Book__name : C8.Met P w K mg base 3 C "_name" (spName C) [.non]) : FnOk P w K mg base CX0 4 f fd ["self", "moment", "name"] (spRefuse C) := by
  refine F.ok sc_Book__refuse_named (fun vs H Q E h => ?_) (fun cdv A outer s H vs Q E hr h => ?_)
  · obtain ⟨b, am, an, m, n, rs, rfl, _⟩ := h; rfl
  · obtain ⟨b, am, an, m, n, rs, rfl, BA, ham, han, hn, hl, k⟩ := h
    refine ⟨_, (pss_cons (ps_expr (C8.pe_mt c_Book__name hr (by decide) (pv 0) (pa_cons (pv 2) pa_nil)))
      (pss_one (ps_if (pt_cmpR (op_gtM hr.units0) (pv 2) (pv 1) (nomark _)) (pss_one ps_never) pss_nil))), ?_⟩
    obtain ⟨dx, e, nn, kvs, nkv, B⟩ := id BA
    obtain ⟨rk, ws, ss, l, hrow⟩ := nms_row hn
    refine ⟨_, rfl, b, dx, _, rfl, B.ob, bf_no _ _ (by decide +kernel) (by decide +kernel), _, rfl, b, an, .non, none, rs, Row.nm n rk ws ss l, rfl, BA, han, rfl, hrow, rfl, rfl, fun x tx => ?_⟩
    refine ⟨_, rfl, _, rfl, an, am, n, m, rfl, rfl, SqT.of han, SqT.of ham, _, rfl, ?_⟩
    rw [decide_eq_false hl]
    exact iteF k
abbrev s_Book_rank : Stmt := inClass (top 26) 9
theorem sc_Book_rank : FnScope ["self", "name"] ["self", "name"] (defScope s_Book_rank) := ⟨rfl, rfl, rfl, by decide +kernel, rfl, by decide +kernel, by decide +kernel⟩
theorem ok_Book_rank {f : Addr} {fd : FuncData} (F : Fun K "rank" "Book.rank" s_Book_rank f fd) (c_Book__name : C8.Met P w K mg base 3 C "_name" (spName C) [.non]) : FnOk P w K mg base CX0 4 f fd ["self", "name"] (spRank C) := by
  refine F.ok sc_Book_rank (fun vs H Q E h => ?_) (fun cdv A outer s H vs Q E hr h => ?_)
  · obtain ⟨b, a, m, rk, ws, ss, l, rs, rfl, _⟩ := h; rfl
  · obtain ⟨b, a, m, rk, ws, ss, l, rs, rfl, BA, ha, hrow, k⟩ := h
    refine ⟨_, (pss_one (ps_ret (pe_ix ix_tup (C8.pe_mt c_Book__name hr (by decide) (pv 0) (pa_cons (pv 1) pa_nil)) pe_int (fun _ _ => rfl)))), ?_⟩
    obtain ⟨dx, e, nn, kvs, nkv, B⟩ := id BA
    refine ⟨_, rfl, b, dx, _, rfl, B.ob, bf_no _ _ (by decide +kernel) (by decide +kernel), _, rfl, b, a, .non, none, rs, Row.nm m rk ws ss l, rfl, BA, ha, rfl, hrow, rfl, rfl, fun x tx => ?_⟩
    obtain ⟨t, xs, rfl, ht, rx⟩ := Tp.inv tx
    obtain ⟨v2, a2, t2⟩ := Tp.at (K := K) (i := 2) (d := .int rk) ht rx rfl
    cases Tp.int_inv t2
    exact ⟨t, _, _, _, rfl, rfl, SqT.of ht, a2, k⟩
abbrev s_Book_publish : Stmt := inClass (top 26) 1
theorem sc_Book_publish : FnScope ["self", "moment", "words", "rank", "sheets", "like", "part"] ["self", "moment", "words", "rank", "sheets", "like"] (defScope s_Book_publish) := ⟨rfl, rfl, rfl, by decide +kernel, rfl, by decide +kernel, by decide +kernel⟩
theorem ok_Book_publish {f : Addr} {fd : FuncData} {kws : List (Str × V)} (F : FunD K "publish" "Book.publish" (defArgs s_Book_publish) (defBody s_Book_publish) (defScope s_Book_publish) [] kws f fd) (T : BkT K C) (m_tuple : mg "tuple" = none)
    (c_refuse_new : C8.Cal P w K mg base 3 "refuse_new" spNew []) (c_bad_name : C8.Cal P w K mg base 3 "bad_name" spBad []) (c__may_be_like : C8.Cal P w K mg base 1 "_may_be_like" spMayLike [])
    (c_Book__refuse_named : C8.Met P w K mg base 4 C "_refuse_named" (spRefuse C) []) (c_Book_rank : C8.Met P w K mg base 4 C "rank" (spRank C) []) (c_Book__keep : C8.Met P w K mg base 2 C "_keep" (spKeep C) []) : FnOk P w K mg base CX0 5 f fd ["self", "moment", "words", "rank", "sheets", "like"] (spPublish C) := by
  refine F.ok sc_Book_publish (fun vs H Q E h => ?_) (fun cdv A outer s H vs Q E hr h => ?_)
  · obtain ⟨b, am, wa, sa, lv, m, rank, ws, ss, like, rs, rfl, _⟩ := h; rfl
  · obtain ⟨b, am, wa, sa, lv, m, rank, ws, ss, like, rs, rfl, BA, ham, hwa, hsa, hlv, hok, hmo, hm, h60, hlk, k⟩ := h
    refine cut_nox ⟨_, (pss_cons (ps_expr (C8.pe_c c_refuse_new hr (by decide) rfl (pa_cons (pv 1) (pa_cons (pe_fld (pv 0) rfl) pa_nil))))
      (pss_cons (ps_set (i := 6) sc_Book_publish.nd rfl (Or.inl rfl) (C8.pe_c c_bad_name hr (by decide) rfl (pa_cons (pv 3) (pa_cons (pv 2) (pa_cons (pv 4) (pa_cons (pv 5) pa_nil))))))
      (pss_cons (ps_if (pt_cmpR op_notN (pv 6) pe_non (nomark _)) (pss_one ps_never) pss_nil)
      (C8.pss_cut (ps_if (pt_cmpR op_notN (pv 5) pe_non (nomark _)) (pss_cons (ps_expr (C8.pe_mt c_Book__refuse_named hr (by decide) (pv 0) (pa_cons (pv 1) (pa_cons (pv 5) pa_nil))))
      (pss_one (ps_if (pt_not (pt_val (C8.pe_c c__may_be_like hr (by decide) rfl (pa_cons (pv 3) (pa_cons (C8.pe_mt c_Book_rank hr (by decide) (pv 0) (pa_cons (pv 5) pa_nil)) pa_nil))))) (pss_one ps_never) pss_nil))) pss_nil)
      (pss_one (ps_expr (C8.pe_mt c_Book__keep hr (by decide) (pv 0) (pa_cons (pe_tup (pa_cons pe_str (pa_cons (pv 1) (pa_cons (pv 3) (pa_cons (pv 2) (pa_cons (pe_callTy call_tuple_of (by rfl) m_tuple (by decide +kernel) (pa_cons (pv 4) pa_nil)) (pa_cons (pv 5) pa_nil))))))) pa_nil)))))))), ?_⟩
    obtain ⟨dx, e, nn, kvs, nkv, B⟩ := id BA
    refine ⟨_, rfl, _, rfl, b, C, dx, _, _, rfl, B.ob, T.cl, T.nE, bf_e _ _, am, e, m, kvs, rfl, ham, hmo, B.en, B.er.none hm, ?_⟩
    refine ⟨_, rfl, _, rfl, _, rfl, _, rfl, rank, wa, sa, lv, ws, ss, like, rfl, hwa, hsa, hlv, hok, fun H1 s1 => ?_⟩
    refine ⟨_, rfl, rfl, _, rfl, iteF ?_⟩
    have BA1 := BA.keep (KB.of s1)
    have B1 := B.keep (KB.of s1)
    refine ⟨fun σ' H' => σ' = [some (.ref b), some (.ref am), some (.ref wa), some (.int rank), some (.ref sa), some lv, some .non] ∧ H' = H1, ?_, ?_⟩
    · cases like with
      | none =>
        cases (show lv = .non from hlv)
        exact ⟨_, rfl, rfl, _, rfl, iteF ⟨rfl, rfl⟩⟩
      | some l =>
        obtain ⟨la, rfl, hla⟩ := hlv
        obtain ⟨hlm, rk, ws', ss', l', hrow, hrk⟩ := hlk l rfl
        refine ⟨_, rfl, rfl, _, rfl, iteT ?_⟩
        refine ⟨_, rfl, b, dx, _, rfl, B1.ob, bf_no _ _ (by decide +kernel) (by decide +kernel), _, rfl, _, rfl, b, am, la, m, l, rs, rfl, BA1, s1 _ _ ham, s1 _ _ hla, row_nms hrow, hlm, ?_⟩
        refine ⟨_, rfl, _, rfl, b, dx, _, rfl, B1.ob, bf_no _ _ (by decide +kernel) (by decide +kernel), _, rfl, b, la, l, rk, ws', ss', l', rs, rfl, BA1, s1 _ _ hla, hrow, ?_⟩
        refine ⟨_, _, rfl, ?_⟩
        rw [hrk]
        exact ⟨_, rfl, iteF ⟨rfl, rfl⟩⟩
    rintro σ2 H2 ⟨rfl, rfl⟩
    refine ⟨_, rfl, b, dx, _, rfl, B1.ob, bf_no _ _ (by decide +kernel) (by decide +kernel), _, rfl, _, rfl, _, rfl, _, rfl, sa, _, rfl, .inr ⟨SqT.of (s1 _ _ hsa), ?_⟩⟩
    refine ⟨_, rfl, by show 6 ≤ sizeLine; decide, fun t ht => ?_⟩
    have s3 : Same H2 (upd H2 t (.tup [.str "name", .ref am, .int rank, .ref wa, .ref sa, lv])) := Same.new ht
    have s13 := s1.trans s3
    have tl : Tp (upd H2 t (.tup [.str "name", .ref am, .int rank, .ref wa, .ref sa, lv])) lv (oD like) := by
      cases like with
      | none => cases (show lv = .non from hlv); exact .non
      | some l => obtain ⟨la, rfl, hla⟩ := hlv; exact Tp.mo (s13 _ _ hla)
    refine ⟨b, .ref t, .nm m rank ws ss like, rs, rfl, BA1.keep (KB.of s3), .tup upd_same (.cons (.str _) (.cons (Tp.mo (s13 _ _ ham)) (.cons (.int _) (.cons (.tup (s13 _ _ hwa) (TpAll.strs ws)) (.cons (.tup (s13 _ _ hsa) (TpAll.strs ss)) (.cons tl .nil)))))), hm, hmo, fun n hn => ?_, ?_, h60, fun H4 k4 B4 => ?_⟩
    · cases like with
      | none => cases hn
      | some l =>
        have : n = l := by simpa [Row.names] using hn
        subst this
        obtain ⟨_, rk, ws', ss', l', hrow, _⟩ := hlk _ rfl
        exact row_nms hrow
    · cases like <;> simp [Row.names]
    · exact k H4 (fun a o no ea => k4 a o no (s13 a o ea)) B4
abbrev s_Book_ahead : Stmt := inClass (top 26) 4
theorem sc_Book_ahead : FnScope ["self", "moment", "name", "other"] ["self", "moment", "name", "other"] (defScope s_Book_ahead) := ⟨rfl, rfl, rfl, by decide +kernel, rfl, by decide +kernel, by decide +kernel⟩
theorem ok_Book_ahead {f : Addr} {fd : FuncData} (F : Fun K "ahead" "Book.ahead" s_Book_ahead f fd) (T : BkT K C)
    (c_refuse_new : C8.Cal P w K mg base 3 "refuse_new" spNew []) (c_Book__refuse_named : C8.Met P w K mg base 4 C "_refuse_named" (spRefuse C) []) (c_Book_rank : C8.Met P w K mg base 4 C "rank" (spRank C) []) (c_Book__keep : C8.Met P w K mg base 2 C "_keep" (spKeep C) []) : FnOk P w K mg base CX0 5 f fd ["self", "moment", "name", "other"] (spAhead C) := by
  refine F.ok sc_Book_ahead (fun vs H Q E h => ?_) (fun cdv A outer s H vs Q E hr h => ?_)
  · obtain ⟨b, am, an, ao, m, n, o, rk, rs, rfl, _⟩ := h; rfl
  · obtain ⟨b, am, an, ao, m, n, o, rk, rs, rfl, BA, ham, han, hao, hmo, hm, h60, hln, hlo, hno, ⟨ws, ss, l, hn⟩, ⟨ws', ss', l', ho⟩, k⟩ := h
    refine ⟨_, (pss_cons (ps_expr (C8.pe_c c_refuse_new hr (by decide) rfl (pa_cons (pv 1) (pa_cons (pe_fld (pv 0) rfl) pa_nil))))
      (pss_cons (ps_expr (C8.pe_mt c_Book__refuse_named hr (by decide) (pv 0) (pa_cons (pv 1) (pa_cons (pv 2) pa_nil))))
      (pss_cons (ps_expr (C8.pe_mt c_Book__refuse_named hr (by decide) (pv 0) (pa_cons (pv 1) (pa_cons (pv 3) pa_nil))))
      (pss_cons (ps_if (PW.pt (pw_or (pt_cmpR (op_eqD hr.units) (pv 2) (pv 3) (nomark _)) (pw_or1 (pt_cmpR op_ne (C8.pe_mt c_Book_rank hr (by decide) (pv 0) (pa_cons (pv 2) pa_nil)) (C8.pe_mt c_Book_rank hr (by decide) (pv 0) (pa_cons (pv 3) pa_nil)) (nomark _))))) (pss_one ps_never) pss_nil)
      (pss_one (ps_expr (C8.pe_mt c_Book__keep hr (by decide) (pv 0) (pa_cons (pe_tup (pa_cons pe_str (pa_cons (pv 1) (pa_cons (pv 2) (pa_cons (pv 3) pa_nil))))) pa_nil)))))))), ?_⟩
    obtain ⟨dx, e, nn, kvs, nkv, B⟩ := id BA
    have x1 := bf_no e nn (m := "_refuse_named") (by decide +kernel) (by decide +kernel)
    have x2 := bf_no e nn (m := "rank") (by decide +kernel) (by decide +kernel)
    have x3 := bf_no e nn (m := "_keep") (by decide +kernel) (by decide +kernel)
    refine ⟨_, rfl, _, rfl, b, C, dx, _, _, rfl, B.ob, T.cl, T.nE, bf_e _ _, am, e, m, kvs, rfl, ham, hmo, B.en, B.er.none hm, ?_⟩
    refine ⟨_, rfl, b, dx, _, rfl, B.ob, x1, _, rfl, _, rfl, b, am, an, m, n, rs, rfl, BA, ham, han, row_nms hn, hln, ?_⟩
    refine ⟨_, rfl, b, dx, _, rfl, B.ob, x1, _, rfl, _, rfl, b, am, ao, m, o, rs, rfl, BA, ham, hao, row_nms ho, hlo, ?_⟩
    refine ⟨_, rfl, _, rfl, _, _, (Tp.mo han).d, (Tp.mo hao).d, shaped_m _, shaped_m _, _, rfl, ?_⟩
    rw [eqv_m, decide_eq_false hno]
    refine iteF ?_
    refine ⟨_, rfl, b, dx, _, rfl, B.ob, x2, _, rfl, b, an, n, rk, ws, ss, l, rs, rfl, BA, han, hn, ?_⟩
    refine ⟨_, rfl, b, dx, _, rfl, B.ob, x2, _, rfl, b, ao, o, rk, ws', ss', l', rs, rfl, BA, hao, ho, ?_⟩
    refine ⟨rfl, _, rfl, ?_⟩
    rw [decide_eq_true rfl]
    refine iteF ?_
    refine ⟨_, rfl, b, dx, _, rfl, B.ob, x3, _, rfl, _, rfl, _, rfl, by show 4 ≤ sizeLine; decide, fun t ht => ?_⟩
    have s3 : Same H (upd H t (.tup [.str "ahead", .ref am, .ref an, .ref ao])) := Same.new ht
    refine ⟨b, .ref t, .ah m n o, rs, rfl, BA.keep (KB.of s3), .tup upd_same (.cons (.str _) (.cons (Tp.mo (s3 _ _ ham)) (.cons (Tp.mo (s3 _ _ han)) (.cons (Tp.mo (s3 _ _ hao)) .nil)))), hm, hmo, fun x hx => ?_, ?_, h60, fun H4 k4 B4 => ?_⟩
    · rcases List.mem_cons.mp hx with rfl | hx
      · exact row_nms hn
      · rw [List.mem_singleton] at hx; subst hx; exact row_nms ho
    · show ([n, o] : List Mo).Nodup
      simp [hno]
    · exact k H4 (fun a o no ea => k4 a o no (s3 a o ea)) B4
end
end KN

set_option Elab.async false
set_option linter.all false
set_option maxRecDepth 100000
set_option maxHeartbeats 4000000
namespace KN
open PySem L2
theorem perm_map {α β : Type} {f : α → β} {l₁ l₂ : List β} (p : l₁.Perm l₂) : ∀ k : List α, l₂ = k.map f → ∃ l : List α, l.Perm k ∧ l.map f = l₁ := by
  induction p with
  | nil => intro k e; exact ⟨k, .refl _, e.symm⟩
  | cons x _ ih =>
    intro k e
    cases k with
    | nil => cases e
    | cons a k =>
      rw [List.map_cons] at e
      injection e with e1 e2
      obtain ⟨l, h1, h2⟩ := ih k e2
      exact ⟨a :: l, h1.cons a, by rw [List.map_cons, h2, e1]⟩
  | swap x y l =>
    intro k e
    match k, e with
    | a :: b :: k, e =>
      rw [List.map_cons, List.map_cons] at e
      injection e with e1 e2
      injection e2 with e2 e3
      exact ⟨b :: a :: k, .swap a b k, by rw [List.map_cons, List.map_cons, e1, e2, e3]⟩
  | trans _ _ ih1 ih2 =>
    intro k e
    obtain ⟨l, h1, h2⟩ := ih2 k e
    obtain ⟨l', h3, h4⟩ := ih1 l h2.symm
    exact ⟨l', h3.trans h1, h4⟩
theorem mLt_tot {a b : Mo} (h : ¬ mLt b a) (n : a ≠ b) : mLt a b := by
  unfold mLt at *
  have : ¬ (a.1 = b.1 ∧ a.2 = b.2) := fun z => n (Prod.ext z.1 z.2)
  omega
/-- rows rising by their moments -/
def Rise (rs : List Row) : Prop := rs.Pairwise fun x y => mLt x.mo y.mo
def spEntries (C : Addr) : Sp := fun vs H Q _ => ∃ (b : Addr) (v : V) (u : Option Mo) (rs : List Row), vs = [.ref b, v] ∧ BookAt C H b rs ∧ UpV H v u ∧ rs.length < 64 ∧
  ∀ (H' : Hp) (l : Addr) (srt : List Row), Same H H' → H l = none → srt.Perm rs → Rise srt → Ls H' l ((srt.filter fun r => upB r.mo u).map Row.d) → Q (.ref l) H'
open Classical in
noncomputable def ahStep (told : List Lnk) (r : Row) : List Lnk := match r with
  | .ah m n o => if Rch told o n then told else told ++ [(m, n, o)]
  | _ => told
theorem ahStep_yes {told : List Lnk} {m n o : Mo} (h : Rch told o n) : ahStep told (.ah m n o) = told := by
  unfold ahStep; exact if_pos h
theorem ahStep_no {told : List Lnk} {m n o : Mo} (h : ¬ Rch told o n) : ahStep told (.ah m n o) = told ++ [(m, n, o)] := by
  unfold ahStep; exact if_neg h
/-- the aheads that do something, of rising rows -/
noncomputable def ahF (rs : List Row) : List Lnk := rs.foldl ahStep []
theorem ahF_snoc (rs : List Row) (r : Row) : ahF (rs ++ [r]) = ahStep (ahF rs) r := by
  unfold ahF; rw [List.foldl_append]; rfl
theorem ahF_len (rs : List Row) : (ahF rs).length ≤ rs.length := by
  unfold ahF
  have g : ∀ (rs : List Row) (t : List Lnk), (rs.foldl ahStep t).length ≤ t.length + rs.length := by
    intro rs
    induction rs with
    | nil => intro t; exact Nat.le_refl _
    | cons r rs ih =>
      intro t
      have h := ih (ahStep t r)
      have : (ahStep t r).length ≤ t.length + 1 := by
        unfold ahStep
        split
        · split
          · omega
          · rw [List.length_append]; exact Nat.le_refl _
        · omega
      rw [List.foldl_cons, List.length_cons]; omega
  have := g rs []
  rw [List.length_nil] at this; omega
def spAheads (C : Addr) : Sp := fun vs H Q _ => ∃ (b : Addr) (v : V) (u : Option Mo) (rs : List Row), vs = [.ref b, v] ∧ BookAt C H b rs ∧ UpV H v u ∧ rs.length < 64 ∧
  ∀ (H' : Hp) (l : Addr) (srt : List Row), Same H H' → H l = none → srt.Perm rs → Rise srt → Ls H' l ((ahF (srt.filter fun r => upB r.mo u)).map lD) → Q (.ref l) H'
/-- an entry that is no name is dropped -/
def spDrop (C : Addr) : Sp := fun vs H Q _ => ∃ (b a : Addr) (r : Row) (rs : List Row), vs = [.ref b, .ref a] ∧ BookAt C H b rs ∧ H a = some (.tup [.int r.mo.1, .int r.mo.2]) ∧ r ∈ rs ∧ r.isNm = false ∧ r.names.Nodup ∧
  ∀ H', KD H H' → BookAt C H' b (rs.filter fun x => decide (x.mo ≠ r.mo)) → Q .non H'
section
variable {P : Program} {w : World} {K : PySem.W.Frag} {mg : Str → Option Value} {base : Heap} {C : Addr}
abbrev s_Book_entries : Stmt := inClass (top 26) 6
theorem sc_Book_entries : FnScope ["self", "upto", "moment"] ["self", "upto"] (defScope s_Book_entries) := ⟨rfl, rfl, rfl, by decide +kernel, rfl, by decide +kernel, by decide +kernel⟩
theorem ok_Book_entries {f : Addr} {fd : FuncData} {kws : List (Str × V)} (F : FunD K "entries" "Book.entries" (defArgs s_Book_entries) (defBody s_Book_entries) (defScope s_Book_entries) [] kws f fd) (T : BkT K C) (m_sorted : mg "sorted" = none) (c_is_there : C8.Cal P w K mg base 1 "is_there" spThere []) : FnOk P w K mg base CX0 2 f fd ["self", "upto"] (spEntries C) := by
  refine F.ok sc_Book_entries (fun vs H Q E h => ?_) (fun cdv A outer s H vs Q E hr h => ?_)
  · obtain ⟨b, v, u, rs, rfl, _⟩ := h; rfl
  · obtain ⟨b, v, u, rs, rfl, ⟨dx, e, n, kvs, nkv, B⟩, hv, h64, k⟩ := h
    have hu := hu_of hr
    refine cut_nox ⟨_, (pss_one (ps_ret (pe_lc (own := [("moment", 2)]) (g := gName 2) rfl sc_Book_entries.nd (pi_list (pe_callB (cr_sortedDM rfl) (by rfl) m_sorted (by decide +kernel) (pa_cons (pe_fld (pv 0) rfl) pa_nil))) (blkOk_by (own := [("moment", 2)]) (N := ["self", "upto", "moment"]) (sc := defScope s_Book_entries) (by decide +kernel)) (fun _ _ _ _ _ => pg_name (i := 2) sc_Book_entries.nd rfl (Or.inl rfl)) (fun _ _ _ _ _ => (pts_one (pt_val (C8.pe_c c_is_there hr (by decide) rfl (pa_cons (pv 2) (pa_cons (pv 1) pa_nil)))))) (fun _ _ _ _ _ => (pe_dget (by exact hu) (pe_fldK K (pv 0) rfl) (pv 2) (fun _ _ => rfl)))))), ?_⟩
    refine ⟨_, rfl, b, C, dx, _, _, rfl, B.ob, T.cl, T.nE, bf_e _ _, e, kvs, rs.map Row.mo, rfl, Rd.of B.en, B.er.keys, by rw [List.length_map]; exact h64, fun m hm => ?_, fun ys ns p hp hpw hl hys hp0 => ?_⟩
    · obtain ⟨r, hr', rfl⟩ := List.mem_map.mp hm; exact B.ok r hr'
    obtain ⟨srt, sp, sm⟩ := perm_map hp rs rfl
    have rise : Rise srt := by
      have nd : (srt.map Row.mo).Nodup := (sp.map Row.mo).nodup_iff.mpr B.md
      rw [← sm] at hpw
      have h1 := List.pairwise_map.mp hpw
      have h2 := List.pairwise_map.mp nd
      exact List.Pairwise.imp₂ (fun a b h k => mLt_tot h k) h1 h2
    have s1 : Same H (upd H p (.lst (ys.map V.ref))) := Same.new hp0
    have hyl : ys.length = srt.length := by rw [hl, ← sm, List.length_map]
    refine ⟨p, rfl, ⟨_, SqL.of upd_same⟩, fun D hD => ?_⟩
    refine lc_list (K := K) (a := p) (xs := ys.map V.ref) (fun i H' => Same (upd H p (.lst (ys.map V.ref))) H' ∧ Ls H' D (((srt.take i).filter fun r => upB r.mo u).map Row.d))
      ⟨Same.new hD, [], upd_same, by rw [List.take_zero]; exact .nil⟩ (fun i H' _ q => SqL.of (q.1 _ _ upd_same)) ?_ ?_
    · rintro i x H2 hi ⟨s2, xs, hx, rx⟩
      rw [List.getElem?_map] at hi
      obtain ⟨a, ha, rfl⟩ : ∃ a, ys[i]? = some a ∧ x = .ref a := by
        cases q : ys[i]? with
        | none => rw [q] at hi; cases hi
        | some a => rw [q] at hi; exact ⟨a, rfl, (Option.some.inj hi).symm⟩
      obtain ⟨m, hm, ham⟩ := hys i a ha
      rw [← sm, List.getElem?_map] at hm
      obtain ⟨r, hr1, rfl⟩ : ∃ r, srt[i]? = some r ∧ m = r.mo := by
        cases q : srt[i]? with
        | none => rw [q] at hm; cases hm
        | some r => rw [q] at hm; exact ⟨r, rfl, (Option.some.inj hm).symm⟩
      have hrs : r ∈ rs := sp.mem_iff.mp (List.mem_of_getElem? hr1)
      have ham2 := s2 _ _ (s1 _ _ ham)
      have sH2 := s1.trans s2
      refine ⟨rfl, _, rfl, _, rfl, a, r.mo, v, u, rfl, ham2, hv.to (TK.of sH2), ?_⟩
      have step : ((srt.take (i + 1)).filter fun r => upB r.mo u) = ((srt.take i).filter fun r => upB r.mo u) ++ (if upB r.mo u = true then [r] else []) := by
        rw [List.take_add_one, hr1, List.filter_append]
        congr 1
        by_cases q : upB r.mo u = true
        · simp [q]
        · simp [q]
      by_cases q : upB r.mo u = true
      · rw [q]
        refine ⟨_, rfl, iteT ?_⟩
        obtain ⟨z, hz, tz⟩ := B.er.get B.md hrs
        have g : DGet H2 e (.ref a) (some z) := by have := DGet.m (sH2 _ _ B.en) ham2; rw [hz] at this; exact this
        have hxl : xs.length ≤ 64 := by rw [rx.len, List.length_map]; have := List.length_filter_le (fun r => upB (Row.mo r) u) (srt.take i); have := List.length_take_le' i srt; have := sp.length_eq; omega
        refine ⟨_, rfl, b, C, dx, _, _, rfl, sH2 _ _ B.ob, T.cl, T.nE, bf_e _ _, _, rfl, e, z, rfl, g, xs, hx, small1000 (by omega), fun c o ec => ?_, _, upd_same, ?_⟩
        · rw [upd_ne (ne_of_none ec hD)]; exact s2 _ _ ec
        · rw [step, if_pos q, List.map_append]
          exact (rx.to (TK.put hx (by intro z; exact nofun))).snoc ((tz.to (TK.of sH2)).to (TK.put hx (by intro z; exact nofun)))
      · rw [Bool.eq_false_iff.mpr q]
        refine ⟨_, rfl, iteF ?_⟩
        refine ⟨s2, xs, hx, ?_⟩
        rw [step, if_neg q, List.append_nil]; exact rx
    · rintro H2 ⟨s2, ls⟩
      rw [List.length_map, hyl, List.take_length] at ls
      exact k H2 D srt (s1.trans s2) (s1.free hD) sp rise ls
end
end KN

set_option Elab.async false
set_option linter.all false
set_option maxRecDepth 100000
set_option maxHeartbeats 4000000
namespace KN
open PySem L2
/-! The asks of a book: words, names, strikes, takers. -/
def spWords (C : Addr) : Sp := fun vs H Q _ => ∃ (b a : Addr) (m : Mo) (rk : Int) (ws ss : List Str) (l : Option Mo) (rs : List Row), vs = [.ref b, .ref a] ∧ BookAt C H b rs ∧ H a = some (.tup [.int m.1, .int m.2]) ∧ Row.nm m rk ws ss l ∈ rs ∧ ∀ x, Tp H x (.tuple (ws.map PyData.str)) → Q x H
def spStrike (C : Addr) : Sp := fun vs H Q _ => ∃ (b am an : Addr) (m n : Mo) (wh : Bool) (rs : List Row), vs = [.ref b, .ref am, .ref an, .bl wh] ∧ BookAt C H b rs ∧ H am = some (.tup [.int m.1, .int m.2]) ∧ H an = some (.tup [.int n.1, .int n.2]) ∧
  MoOk m ∧ m ∉ rs.map Row.mo ∧ rs.length ≤ 60 ∧ ¬ mLt m n ∧ n ∈ nms rs ∧ ∀ H', KD H H' → BookAt C H' b (rs ++ [.st m n wh]) → Q .non H'
def spToldOf (C : Addr) : Sp := fun vs H Q _ => ∃ (b an : Addr) (n : Mo) (z : Str) (v : V) (u : Option Mo) (rs : List Row), vs = [.ref b, .ref an, .str z, v] ∧ BookAt C H b rs ∧ H an = some (.tup [.int n.1, .int n.2]) ∧ n ∈ nms rs ∧ UpV H v u ∧ rs.length < 64 ∧
  ∀ (H' : Hp) (l : Addr) (S : List Row), Same H H' → H l = none → S.Perm (rs.filter fun r => decide (n ∈ r.names)) → Rise S → Ls H' l ((S.filter fun r => upB r.mo u && decide (r.sort = z)).map Row.d) → Q (.ref l) H'
/-- a moment, or none -/
def spStruck (C : Addr) (g : Row → Bool) : Sp := fun vs H Q _ => ∃ (b an : Addr) (n : Mo) (v : V) (u : Option Mo) (rs : List Row), vs = [.ref b, .ref an, v] ∧ BookAt C H b rs ∧ H an = some (.tup [.int n.1, .int n.2]) ∧ n ∈ nms rs ∧ upB n u = true ∧ UpV H v u ∧ rs.length < 64 ∧
  ∀ (H' : Hp) (x : V) (S : List Row), Same H H' → S.Perm (rs.filter fun r => decide (n ∈ r.names)) → Rise S → Tp H' x (oD ((S.filter fun r => upB r.mo u && decide (r.sort = ("strike" : Str)) && g r).head?.map Row.mo)) → Q x H'
def wholeB : Row → Bool
  | .st _ _ w => w
  | _ => false
def rankB (rk : Option Int) : Row → Bool
  | .nm _ r _ _ _ => match rk with | none => true | some k => decide (r = k)
  | _ => false
def RkV (v : V) (rk : Option Int) : Prop := match rk with | none => v = .non | some k => v = .int k
def spNamesOf (C : Addr) : Sp := fun vs H Q _ => ∃ (b : Addr) (rv v : V) (rk : Option Int) (u : Option Mo) (rs : List Row), vs = [.ref b, rv, v] ∧ BookAt C H b rs ∧ RkV rv rk ∧ UpV H v u ∧ rs.length < 64 ∧
  ∀ (H' : Hp) (l : Addr) (S : List Row), Same H H' → H l = none → S.Perm rs → Rise S → Ls H' l ((S.filter fun r => upB r.mo u && rankB rk r).map fun r => mD r.mo) → Q (.ref l) H'
theorem sort_dec (r : Row) (z : Str) : decide (V.str r.sort = V.str z) = decide (r.sort = z) := by
  by_cases h : r.sort = z
  · rw [decide_eq_true h, decide_eq_true (congrArg V.str h)]
  · rw [decide_eq_false h, decide_eq_false fun e => h (by injection e)]
theorem filter_step {α : Type} {p : α → Bool} {xs : List α} {i : Nat} {x : α} (h : xs[i]? = some x) : (xs.take (i + 1)).filter p = (xs.take i).filter p ++ (if p x = true then [x] else []) := by
  rw [List.take_add_one, h, List.filter_append]
  congr 1
  by_cases q : p x = true
  · simp [q]
  · simp [q]
theorem users_keys (rs : List Row) (n : Mo) : (users rs n).map (·.1) = ((rs.filter fun r => decide (n ∈ r.names)).map Row.mo).map mK := by
  unfold users
  rw [List.map_map, List.map_map]; rfl
/-- the rows of a list, one by one -/
theorem row_at {K : PySem.W.Frag} {H : Hp} {xs : List V} {rs : List Row} {i : Nat} {x : V} (rx : TpAll H xs (rs.map Row.d)) (hi : xs[i]? = some x) : ∃ r, rs[i]? = some r ∧ Tp H x r.d := by
  obtain ⟨d, hd, tx⟩ := rx.getv hi
  rw [List.getElem?_map] at hd
  cases q : rs[i]? with
  | none => rw [q] at hd; cases hd
  | some r => rw [q] at hd; cases hd; exact ⟨r, rfl, tx⟩
theorem strOk_w {s : Str} (h : IsW s) : PyData.strOk s = true := by
  unfold PyData.strOk
  rw [← Array.all_toList]
  exact List.all_eq_true.mpr fun c hc => decide_eq_true (by have := h.2.2 c hc; omega)
def RowW (r : Row) : Prop := match r with
  | .nm _ _ ws ss _ => ws.length ≤ 2 ∧ (∀ w ∈ ws, IsW w) ∧ (∀ w ∈ ss, IsW w) ∧ ss.length ≤ 60
  | .ch _ _ z => IsW z
  | _ => True
theorem okD_ws {ws : List Str} (h : ∀ w ∈ ws, IsW w) : okD (.tuple (ws.map PyData.str)) = true := by
  simp only [okD]
  refine okDs_all.mpr fun d hd => ?_
  obtain ⟨x, hx, rfl⟩ := List.mem_map.mp hd
  simp only [okD]; exact strOk_w (h x hx)
theorem depthA_le {k : Nat} : ∀ {ds : List PyData}, (∀ d ∈ ds, d.depth ≤ k) → PyData.depthAll ds ≤ k
  | [], _ => by simp [PyData.depthAll]
  | d :: ds, h => by
    have h1 := h d List.mem_cons_self
    have h2 := depthA_le (ds := ds) fun x hx => h x (List.mem_cons_of_mem _ hx)
    simp only [PyData.depthAll]; omega
theorem depth_ws (ws : List Str) : (PyData.tuple (ws.map PyData.str)).depth ≤ 2 := by
  have := depthA_le (k := 1) (ds := ws.map PyData.str) fun d hd => by obtain ⟨x, _, rfl⟩ := List.mem_map.mp hd; simp [PyData.depth]
  simp only [PyData.depth]; omega
theorem shaped_ws {ws : List Str} (h : ∀ w ∈ ws, IsW w) : SeqAt.shaped (.tuple (ws.map PyData.str)) = true := shaped_of (okD_ws h) (by have := depth_ws ws; omega)
theorem strs_inj {a b : List Str} (h : a.map PyData.str = b.map PyData.str) : a = b := (List.map_inj_right fun x y e => by injection e).mp h
theorem eqv_ws {a b : List Str} (ha : ∀ w ∈ a, IsW w) (hb : ∀ w ∈ b, IsW w) : PyData.eqv (.tuple (a.map PyData.str)) (.tuple (b.map PyData.str)) = decide (a = b) :=
  eqv_dec (okD_ws ha) (okD_ws hb) ⟨fun h => strs_inj (by injection h), fun h => by rw [h]⟩
theorem int_dec (a b : Int) : decide (V.int a = V.int b) = decide (a = b) := by
  by_cases h : a = b
  · rw [decide_eq_true h, decide_eq_true (congrArg V.int h)]
  · rw [decide_eq_false h, decide_eq_false fun e => h (by injection e)]
instance decMLt (a b : Mo) : Decidable (mLt a b) := inferInstanceAs (Decidable (_ ∨ _ ∧ _))
theorem lt2 (m u : Mo) : HT.lexLt [m.1, m.2] [u.1, u.2] = decide (mLt m u) := by
  unfold mLt
  simp only [HT.lexLt]
  by_cases h1 : m.1 < u.1
  · have h3 : ¬ m.1 = u.1 := by omega
    simp [h1, h3]
  · by_cases h2 : m.1 = u.1
    · by_cases h4 : m.2 = u.2
      · simp [h2, h4]
      · simp [h2, h4]
    · simp [h1, h2]
/-- a whole strike of a name that is there -/
def wholeB' (rs : List Row) (u : Option Mo) (m : Mo) : Bool := rs.any fun r => decide (m ∈ r.names) && (upB r.mo u && wholeB r)
/-- an elder name with these words that isn't wholly struck -/
def takes (rs : List Row) (u : Option Mo) (n : Mo) (ws : List Str) (r : Row) : Bool := match r with
  | .nm m _ ws' _ _ => decide (mLt m n) && decide (ws' = ws) && !wholeB' rs u m
  | _ => false
theorem any_str {z : Str} {ss : List Str} (hz : IsW z) (h : ∀ w ∈ ss, IsW w) : ((ss.map PyData.str).any fun y => PyData.eqv y (.str z)) = decide (z ∈ ss) := by
  have oz : okD (.str z) = true := by simp only [okD]; exact strOk_w hz
  have os : okDs (ss.map PyData.str) = true := okDs_all.mpr fun d hd => by
    obtain ⟨x, hx, rfl⟩ := List.mem_map.mp hd
    simp only [okD]; exact strOk_w (h x hx)
  have e : ((ss.map PyData.str).any fun y => PyData.eqv y (.str z)) = true ↔ z ∈ ss := by
    rw [any_eqv oz os, List.mem_map]
    exact ⟨fun ⟨x, hx, q⟩ => by injection q with q; rw [← q]; exact hx, fun q => ⟨z, q, rfl⟩⟩
  by_cases q : z ∈ ss
  · rw [decide_eq_true q]; exact e.mpr q
  · rw [decide_eq_false q]; exact Bool.eq_false_iff.mpr fun y => q (e.mp y)
def spChoose (C : Addr) : Sp := fun vs H Q _ => ∃ (b am an : Addr) (m n : Mo) (z : Str) (rk : Int) (ws ss : List Str) (lk : Option Mo) (rs : List Row), vs = [.ref b, .ref am, .ref an, .str z] ∧ BookAt C H b rs ∧ H am = some (.tup [.int m.1, .int m.2]) ∧ H an = some (.tup [.int n.1, .int n.2]) ∧
  MoOk m ∧ m ∉ rs.map Row.mo ∧ rs.length ≤ 60 ∧ ¬ mLt m n ∧ Row.nm n rk ws ss lk ∈ rs ∧ z ∈ ss ∧ (∀ w ∈ ss, IsW w) ∧ ∀ H', KD H H' → BookAt C H' b (rs ++ [.ch m n z]) → Q .non H'
def spTaker (C : Addr) : Sp := fun vs H Q _ => ∃ (b an : Addr) (n : Mo) (rk : Int) (ws ss : List Str) (lk : Option Mo) (v : V) (u : Option Mo) (rs : List Row), vs = [.ref b, .ref an, v] ∧ BookAt C H b rs ∧ H an = some (.tup [.int n.1, .int n.2]) ∧ Row.nm n rk ws ss lk ∈ rs ∧ upB n u = true ∧ UpV H v u ∧ rs.length < 64 ∧ (∀ r ∈ rs, RowW r) ∧
  ∀ (H' : Hp) (x : V) (S : List Row), Same H H' → S.Perm rs → Rise S → Tp H' x (oD (((S.filter fun r => upB r.mo u && rankB (some rk) r).filter (takes rs u n ws)).head?.map Row.mo)) → Q x H'
theorem whole_head {rs S : List Row} {u : Option Mo} {m : Mo} (sp : S.Perm (rs.filter fun r => decide (m ∈ r.names))) : ((S.filter fun r => upB r.mo u && decide (r.sort = ("strike" : Str)) && wholeB r).head?.map Row.mo = none) ↔ wholeB' rs u m = false := by
  have st : ∀ r : Row, wholeB r = true → r.sort = ("strike" : Str) := fun r h => by cases r <;> first | rfl | cases h
  unfold wholeB'
  rw [List.any_eq_false]
  constructor
  · intro h r hr z
    rw [Bool.and_eq_true, Bool.and_eq_true] at z
    have inS : r ∈ S := sp.mem_iff.mpr (List.mem_filter.mpr ⟨hr, z.1⟩)
    have : r ∈ S.filter fun r => upB r.mo u && decide (r.sort = ("strike" : Str)) && wholeB r := List.mem_filter.mpr ⟨inS, by rw [z.2.1, z.2.2, decide_eq_true (st r z.2.2)]; rfl⟩
    cases e : (S.filter fun r => upB r.mo u && decide (r.sort = ("strike" : Str)) && wholeB r) with
    | nil => rw [e] at this; cases this
    | cons a l => rw [e] at h; cases h
  · intro h
    have : (S.filter fun r => upB r.mo u && decide (r.sort = ("strike" : Str)) && wholeB r) = [] := List.filter_eq_nil_iff.mpr fun r hr z => by
      rw [Bool.and_eq_true, Bool.and_eq_true] at z
      obtain ⟨h1, h2⟩ := List.mem_filter.mp (sp.mem_iff.mp hr)
      exact h r h1 (by rw [h2, z.1.1, z.2]; rfl)
    rw [this]; rfl
section
variable {P : Program} {w : World} {K : PySem.W.Frag} {mg : Str → Option Value} {base : Heap} {C : Addr}
abbrev s_Book_words : Stmt := inClass (top 26) 8
theorem sc_Book_words : FnScope ["self", "name"] ["self", "name"] (defScope s_Book_words) := ⟨rfl, rfl, rfl, by decide +kernel, rfl, by decide +kernel, by decide +kernel⟩
theorem ok_Book_words {f : Addr} {fd : FuncData} (F : Fun K "words" "Book.words" s_Book_words f fd) (c_Book__name : C8.Met P w K mg base 3 C "_name" (spName C) [.non]) : FnOk P w K mg base CX0 4 f fd ["self", "name"] (spWords C) := by
  refine F.ok sc_Book_words (fun vs H Q E h => ?_) (fun cdv A outer s H vs Q E hr h => ?_)
  · obtain ⟨b, a, m, rk, ws, ss, l, rs, rfl, _⟩ := h; rfl
  · obtain ⟨b, a, m, rk, ws, ss, l, rs, rfl, BA, ha, hrow, k⟩ := h
    refine ⟨_, (pss_one (ps_ret (pe_ix ix_tup (C8.pe_mt c_Book__name hr (by decide) (pv 0) (pa_cons (pv 1) pa_nil)) pe_int (fun _ _ => rfl)))), ?_⟩
    obtain ⟨dx, e, nn, kvs, nkv, B⟩ := id BA
    refine ⟨_, rfl, b, dx, _, rfl, B.ob, bf_no _ _ (by decide +kernel) (by decide +kernel), _, rfl, b, a, .non, none, rs, Row.nm m rk ws ss l, rfl, BA, ha, rfl, hrow, rfl, rfl, fun x tx => ?_⟩
    obtain ⟨t, xs, rfl, ht, rx⟩ := Tp.inv tx
    obtain ⟨v3, a3, t3⟩ := Tp.at (K := K) (i := 3) (d := .tuple (ws.map PyData.str)) ht rx rfl
    exact ⟨t, _, _, _, rfl, rfl, SqT.of ht, a3, k _ t3⟩
abbrev s_Book_strike : Stmt := inClass (top 26) 3
theorem sc_Book_strike : FnScope ["self", "moment", "name", "whole"] ["self", "moment", "name", "whole"] (defScope s_Book_strike) := ⟨rfl, rfl, rfl, by decide +kernel, rfl, by decide +kernel, by decide +kernel⟩
theorem ok_Book_strike {f : Addr} {fd : FuncData} {kws : List (Str × V)} (F : FunD K "strike" "Book.strike" (defArgs s_Book_strike) (defBody s_Book_strike) (defScope s_Book_strike) [] kws f fd) (T : BkT K C) (m_bool : mg "bool" = none)
    (c_refuse_new : C8.Cal P w K mg base 3 "refuse_new" spNew []) (c_Book__refuse_named : C8.Met P w K mg base 4 C "_refuse_named" (spRefuse C) []) (c_Book__keep : C8.Met P w K mg base 2 C "_keep" (spKeep C) []) : FnOk P w K mg base CX0 5 f fd ["self", "moment", "name", "whole"] (spStrike C) := by
  refine F.ok sc_Book_strike (fun vs H Q E h => ?_) (fun cdv A outer s H vs Q E hr h => ?_)
  · obtain ⟨b, am, an, m, n, wh, rs, rfl, _⟩ := h; rfl
  · obtain ⟨b, am, an, m, n, wh, rs, rfl, BA, ham, han, hmo, hm, h60, hln, hn, k⟩ := h
    refine cut_nox ⟨_, (pss_cons (ps_expr (C8.pe_c c_refuse_new hr (by decide) rfl (pa_cons (pv 1) (pa_cons (pe_fld (pv 0) rfl) pa_nil))))
      (pss_cons (ps_expr (C8.pe_mt c_Book__refuse_named hr (by decide) (pv 0) (pa_cons (pv 1) (pa_cons (pv 2) pa_nil))))
      (pss_one (ps_expr (C8.pe_mt c_Book__keep hr (by decide) (pv 0) (pa_cons (pe_tup (pa_cons pe_str (pa_cons (pv 1) (pa_cons (pv 2) (pa_cons (pe_callTy call_bool1 (by rfl) m_bool (by decide +kernel) (pa_cons (pv 3) pa_nil)) pa_nil))))) pa_nil)))))), ?_⟩
    obtain ⟨dx, e, nn, kvs, nkv, B⟩ := id BA
    have x1 := bf_no e nn (m := "_refuse_named") (by decide +kernel) (by decide +kernel)
    have x3 := bf_no e nn (m := "_keep") (by decide +kernel) (by decide +kernel)
    refine ⟨_, rfl, _, rfl, b, C, dx, _, _, rfl, B.ob, T.cl, T.nE, bf_e _ _, am, e, m, kvs, rfl, ham, hmo, B.en, B.er.none hm, ?_⟩
    refine ⟨_, rfl, b, dx, _, rfl, B.ob, x1, _, rfl, _, rfl, b, am, an, m, n, rs, rfl, BA, ham, han, hn, hln, ?_⟩
    refine ⟨_, rfl, b, dx, _, rfl, B.ob, x3, _, rfl, _, rfl, _, rfl, .inr ⟨wh, rfl, ?_⟩⟩
    refine ⟨by show 4 ≤ sizeLine; decide, fun t ht => ?_⟩
    have s3 : Same H (upd H t (.tup [.str "strike", .ref am, .ref an, .bl wh])) := Same.new ht
    refine ⟨b, .ref t, .st m n wh, rs, rfl, BA.keep (KB.of s3), .tup upd_same (.cons (.str _) (.cons (Tp.mo (s3 _ _ ham)) (.cons (Tp.mo (s3 _ _ han)) (.cons (.bl _) .nil)))), hm, hmo, fun x hx => ?_, ?_, h60, fun H4 k4 B4 => ?_⟩
    · have hx' : x ∈ [n] := hx
      rw [List.mem_singleton] at hx'; subst hx'; exact hn
    · show ([n] : List Mo).Nodup
      simp
    · exact k H4 (fun a o no ea => k4 a o no (s3 a o ea)) B4
abbrev s_Book__told_of : Stmt := inClass (top 26) 21
theorem sc_Book__told_of : FnScope ["self", "name", "sort", "upto", "told", "moment", "record"] ["self", "name", "sort", "upto"] (defScope s_Book__told_of) := ⟨rfl, rfl, rfl, by decide +kernel, rfl, by decide +kernel, by decide +kernel⟩
theorem ok_Book_told_of {f : Addr} {fd : FuncData} (F : Fun K "_told_of" "Book._told_of" s_Book__told_of f fd) (T : BkT K C) (m_sorted : mg "sorted" = none) (c_is_there : C8.Cal P w K mg base 1 "is_there" spThere []) : FnOk P w K mg base CX0 2 f fd ["self", "name", "sort", "upto"] (spToldOf C) := by
  refine F.ok sc_Book__told_of (fun vs H Q E h => ?_) (fun cdv A outer s H vs Q E hr h => ?_)
  · obtain ⟨b, an, n, z, v, u, rs, rfl, _⟩ := h; rfl
  · obtain ⟨b, an, n, z, v, u, rs, rfl, ⟨dx, e, nn, kvs, nkv, B⟩, han, hn, hv, h64, k⟩ := h
    have hu := hu_of hr
    refine ⟨_, (pss_cons (ps_setLc (i := 4) (own := [("moment", 5)]) (g := gName 5) rfl sc_Book__told_of.nd rfl rfl (sw_true rfl rfl rfl (by decide +kernel)) (pi_list (pe_callB (cr_sortedDM rfl) (by rfl) m_sorted (by decide +kernel) (pa_cons (pe_dget hu (pe_fld (pv 0) rfl) (pv 1) (fun _ _ => rfl)) pa_nil))) (blkOk_by (own := [("moment", 5)]) (N := ["self", "name", "sort", "upto", "told", "moment", "record"]) (sc := defScope s_Book__told_of) (by decide +kernel)) (fun _ _ _ _ _ => pg_name (i := 5) sc_Book__told_of.nd rfl (Or.inl rfl)) (fun _ _ _ _ _ => (pts_one (pt_val (C8.pe_c c_is_there hr (by decide) rfl (pa_cons (pv 5) (pa_cons (pv 3) pa_nil)))))) (fun _ _ _ _ _ => (pe_dget (by exact hu) (pe_fldK K (pv 0) rfl) (pv 5) (fun _ _ => rfl))))
      (pss_one (ps_ret (pe_lc (own := [("record", 6)]) (g := gName 6) rfl sc_Book__told_of.nd (pi_list (pv 4)) (blkOk_by (own := [("record", 6)]) (N := ["self", "name", "sort", "upto", "told", "moment", "record"]) (sc := defScope s_Book__told_of) (by decide +kernel)) (fun _ _ _ _ _ => pg_name (i := 6) sc_Book__told_of.nd rfl (Or.inl rfl)) (fun _ _ _ _ _ => (pts_one (pt_cmpR op_eq (pe_ix (ix_tupK K) (pv 6) pe_int (fun _ _ => rfl)) (pv 2) (nomark _)))) (fun _ _ _ _ _ => (pv 6)))))), ?_⟩
    obtain ⟨ua, hu1, hu2, hu3, hu4⟩ := B.nr.get hn
    have g : DGet H nn (.ref an) (some (.ref ua)) := by have := DGet.m B.nb han; rw [hu1] at this; exact this
    have hfl : (rs.filter fun r => decide (n ∈ r.names)).length ≤ rs.length := List.length_filter_le _ _
    refine ⟨_, rfl, b, C, dx, _, _, rfl, B.ob, T.cl, T.nN, bf_n _ _, _, rfl, nn, _, rfl, g, ua, users rs n, (rs.filter fun r => decide (n ∈ r.names)).map Row.mo, rfl, Rd.of hu2, users_keys rs n, by rw [List.length_map]; omega, fun m hm => ?_, fun ys ns p hp hpw hl hys hp0 => ?_⟩
    · obtain ⟨r, hr', rfl⟩ := List.mem_map.mp hm; exact B.ok r (List.mem_filter.mp hr').1
    obtain ⟨S, sp, sm⟩ := perm_map hp _ rfl
    have inrs : ∀ r ∈ S, r ∈ rs := fun r h => (List.mem_filter.mp (sp.mem_iff.mp h)).1
    have rise : Rise S := by
      have nd0 : ((rs.filter fun r => decide (n ∈ r.names)).map Row.mo).Nodup := List.Nodup.sublist (List.Sublist.map _ List.filter_sublist) B.md
      have nd : (S.map Row.mo).Nodup := (sp.map Row.mo).nodup_iff.mpr nd0
      rw [← sm] at hpw
      exact List.Pairwise.imp₂ (fun a b h k => mLt_tot h k) (List.pairwise_map.mp hpw) (List.pairwise_map.mp nd)
    have hSl : S.length ≤ rs.length := by rw [sp.length_eq]; exact hfl
    have s1 : Same H (upd H p (.lst (ys.map V.ref))) := Same.new hp0
    have hyl : ys.length = S.length := by rw [hl, ← sm, List.length_map]
    refine ⟨p, rfl, ⟨_, SqL.of upd_same⟩, fun D hD => ?_⟩
    refine lc_list (K := K) (a := p) (xs := ys.map V.ref) (fun i H' => Same (upd H p (.lst (ys.map V.ref))) H' ∧ Ls H' D (((S.take i).filter fun r => upB r.mo u).map Row.d))
      ⟨Same.new hD, [], upd_same, by rw [List.take_zero]; exact .nil⟩ (fun i H' _ q => SqL.of (q.1 _ _ upd_same)) ?_ ?_
    · rintro i x H2 hi ⟨s2, xs, hx, rx⟩
      rw [List.getElem?_map] at hi
      obtain ⟨a, ha, rfl⟩ : ∃ a, ys[i]? = some a ∧ x = .ref a := by
        cases q : ys[i]? with
        | none => rw [q] at hi; cases hi
        | some a => rw [q] at hi; exact ⟨a, rfl, (Option.some.inj hi).symm⟩
      obtain ⟨m, hm, ham⟩ := hys i a ha
      rw [← sm, List.getElem?_map] at hm
      obtain ⟨r, hr1, rfl⟩ : ∃ r, S[i]? = some r ∧ m = r.mo := by
        cases q : S[i]? with
        | none => rw [q] at hm; cases hm
        | some r => rw [q] at hm; exact ⟨r, rfl, (Option.some.inj hm).symm⟩
      have hrs : r ∈ rs := inrs r (List.mem_of_getElem? hr1)
      have ham2 := s2 _ _ (s1 _ _ ham)
      have sH2 := s1.trans s2
      have step := filter_step (p := fun r : Row => upB r.mo u) hr1
      refine ⟨rfl, _, rfl, _, rfl, a, r.mo, v, u, rfl, ham2, hv.to (TK.of sH2), ?_⟩
      by_cases q : upB r.mo u = true
      · rw [q]
        refine ⟨_, rfl, iteT ?_⟩
        obtain ⟨y, hy, ty⟩ := B.er.get B.md hrs
        have g2 : DGet H2 e (.ref a) (some y) := by have := DGet.m (sH2 _ _ B.en) ham2; rw [hy] at this; exact this
        have hxl : xs.length ≤ 64 := by rw [rx.len, List.length_map]; have := List.length_filter_le (fun r => upB (Row.mo r) u) (S.take i); have := List.length_take_le' i S; omega
        refine ⟨_, rfl, b, C, dx, _, _, rfl, sH2 _ _ B.ob, T.cl, T.nE, bf_e _ _, _, rfl, e, y, rfl, g2, xs, hx, small1000 (by omega), fun c o ec => ?_, _, upd_same, ?_⟩
        · rw [upd_ne (ne_of_none ec hD)]; exact s2 _ _ ec
        · rw [step, if_pos q, List.map_append]
          exact (rx.to (TK.put hx (by intro z; exact nofun))).snoc ((ty.to (TK.of sH2)).to (TK.put hx (by intro z; exact nofun)))
      · rw [Bool.eq_false_iff.mpr q]
        refine ⟨_, rfl, iteF ⟨s2, xs, hx, ?_⟩⟩
        rw [step, if_neg q, List.append_nil]; exact rx
    rintro H2 ⟨s2, tx, htx, rtx⟩
    rw [List.length_map, hyl, List.take_length] at rtx
    have s12 := s1.trans s2
    generalize hU : (S.filter fun r => upB r.mo u) = U at rtx
    have hUl : U.length ≤ 64 := by rw [← hU]; exact Nat.le_trans (List.length_filter_le _ _) (by omega)
    have htxl : tx.length = U.length := by rw [rtx.len, List.length_map]
    refine ⟨_, rfl, D, rfl, ⟨_, SqL.of htx⟩, fun D2 hD2 => ?_⟩
    refine lc_list (K := K) (a := D) (xs := tx) (fun i H' => Same H2 H' ∧ Ls H' D2 (((U.take i).filter fun r => decide (r.sort = z)).map Row.d))
      ⟨Same.new hD2, [], upd_same, by rw [List.take_zero]; exact .nil⟩ (fun i H' _ q => SqL.of (q.1 _ _ htx)) ?_ ?_
    · rintro i x H3 hi ⟨s3, xs, hx, rx⟩
      obtain ⟨r, hr1, t0⟩ := row_at (K := K) rtx hi
      obtain ⟨t, ys2, rfl, ht, ry⟩ := Tp.inv (t0.to (TK.of s3))
      obtain ⟨v0, a0, t0'⟩ := Tp.at (K := K) ht ry r.ds0
      cases Tp.str_inv t0'
      have step := filter_step (p := fun r : Row => decide (r.sort = z)) hr1
      refine ⟨rfl, _, rfl, _, _, _, _, rfl, rfl, SqT.of ht, a0, _, rfl, rfl, _, rfl, ?_⟩
      rw [sort_dec]
      refine ite2 (fun q => ?_) (fun q => ?_)
      · have hxl : xs.length ≤ 64 := by rw [rx.len, List.length_map]; have := List.length_filter_le (fun r : Row => decide (r.sort = z)) (U.take i); have := List.length_take_le' i U; omega
        refine ⟨_, rfl, xs, hx, small1000 (by omega), fun c o ec => by rw [upd_ne (ne_of_none ec hD2)]; exact s3 _ _ ec, _, upd_same, ?_⟩
        rw [step, if_pos q, List.map_append]
        have tk : TK H3 (upd H3 D2 (.lst (xs ++ [.ref t]))) := TK.put hx (by intro z; exact nofun)
        exact (rx.to tk).snoc ((t0.to (TK.of s3)).to tk)
      · exact ⟨s3, xs, hx, by rw [step, if_neg q, List.append_nil]; exact rx⟩
    · rintro H3 ⟨s3, ls⟩
      rw [htxl, List.take_length, ← hU, List.filter_filter] at ls
      refine k H3 D2 S (s12.trans s3) (s12.free hD2) sp rise ?_
      rw [show (fun r : Row => upB r.mo u && decide (r.sort = z)) = fun r => decide (r.sort = z) && upB r.mo u from funext fun r => Bool.and_comm _ _]
      exact ls
abbrev s_Book_struck : Stmt := inClass (top 26) 13
theorem sc_Book_struck : FnScope ["self", "name", "upto", "strikes"] ["self", "name", "upto"] (defScope s_Book_struck) := ⟨rfl, rfl, rfl, by decide +kernel, rfl, by decide +kernel, by decide +kernel⟩
theorem ok_Book_struck {f : Addr} {fd : FuncData} {kws : List (Str × V)} (F : FunD K "struck" "Book.struck" (defArgs s_Book_struck) (defBody s_Book_struck) (defScope s_Book_struck) [] kws f fd)
    (c_Book__name_upto : MetK P w K mg base 3 C "_name" (spName C) 2 ["upto"] (fun vs zs => vs ++ zs)) (c_Book__told_of : C8.Met P w K mg base 2 C "_told_of" (spToldOf C) []) : FnOk P w K mg base CX0 4 f fd ["self", "name", "upto"] (spStruck C fun _ => true) := by
  refine F.ok sc_Book_struck (fun vs H Q E h => ?_) (fun cdv A outer s H vs Q E hr h => ?_)
  · obtain ⟨b, an, n, v, u, rs, rfl, _⟩ := h; rfl
  · obtain ⟨b, an, n, v, u, rs, rfl, BA, han, hn, hup, hv, h64, k⟩ := h
    refine cut_nox ⟨_, (pss_cons (ps_expr (pe_mtK c_Book__name_upto hr (by decide) (pv 0) (pa_cons (pv 1) pa_nil) (pk_cons (pv 2) pk_nil)))
      (pss_cons (ps_set (i := 3) sc_Book_struck.nd rfl (Or.inl rfl) (C8.pe_mt c_Book__told_of hr (by decide) (pv 0) (pa_cons (pv 1) (pa_cons pe_str (pa_cons (pv 2) pa_nil)))))
      (pss_one (ps_ret (pe_ifExp (pt_truth (pv 3) (by intro _; rfl)) (pe_ix ix_tup (pe_ix ix_list (pv 3) pe_int (fun _ _ => rfl)) pe_int (fun _ _ => rfl)) pe_non))))), ?_⟩
    obtain ⟨dx, e, nn, kvs, nkv, B⟩ := id BA
    obtain ⟨rk, ws, ss, lk, hrow⟩ := nms_row hn
    refine ⟨_, rfl, b, dx, _, rfl, B.ob, bf_no _ _ (by decide +kernel) (by decide +kernel), _, rfl, _, rfl, rfl, rfl, b, an, v, u, rs, Row.nm n rk ws ss lk, rfl, BA, han, hv, hrow, rfl, hup, fun x tx => ?_⟩
    refine ⟨_, rfl, b, dx, _, rfl, B.ob, bf_no _ _ (by decide +kernel) (by decide +kernel), _, rfl, _, rfl, b, an, n, ("strike" : Str), v, u, rs, rfl, BA, han, hn, hv, h64, fun H1 l S s1 l0 sp rise ⟨xs, hx, rx⟩ => ?_⟩
    have fin : ∀ y, Tp H1 y (oD ((S.filter fun r => upB r.mo u && decide (r.sort = ("strike" : Str))).head?.map Row.mo)) → Q y H1 := fun y hy => k H1 y S s1 sp rise (by
      rw [show (fun r : Row => upB r.mo u && decide (r.sort = ("strike" : Str)) && true) = fun r => upB r.mo u && decide (r.sort = ("strike" : Str)) from funext fun r => Bool.and_true _]; exact hy)
    refine ⟨_, rfl, _, .inl ⟨xs, SqL.of hx, rfl⟩, ?_⟩
    generalize (S.filter fun r => upB r.mo u && decide (r.sort = ("strike" : Str))) = U at rx fin
    cases U with
    | nil =>
      cases rx
      exact iteF (fin _ .non)
    | cons r U =>
      cases rx with
      | cons t0 rest =>
        refine iteT ?_
        obtain ⟨t, ys, rfl, ht, ry⟩ := Tp.inv t0
        obtain ⟨v1, a1, t1⟩ := Tp.at (K := K) ht ry r.ds1
        exact ⟨_, rfl, l, _, _, _, rfl, rfl, SqL.of hx, at_of (j := 0) rfl rfl, t, _, _, _, rfl, rfl, SqT.of ht, a1, fin _ t1⟩
abbrev s_Book_wholly : Stmt := inClass (top 26) 14
theorem sc_Book_wholly : FnScope ["self", "name", "upto", "strikes", "record"] ["self", "name", "upto"] (defScope s_Book_wholly) := ⟨rfl, rfl, rfl, by decide +kernel, rfl, by decide +kernel, by decide +kernel⟩
theorem ok_Book_wholly {f : Addr} {fd : FuncData} {kws : List (Str × V)} (F : FunD K "wholly" "Book.wholly" (defArgs s_Book_wholly) (defBody s_Book_wholly) (defScope s_Book_wholly) [] kws f fd)
    (c_Book__name_upto : MetK P w K mg base 3 C "_name" (spName C) 2 ["upto"] (fun vs zs => vs ++ zs)) (c_Book__told_of : C8.Met P w K mg base 2 C "_told_of" (spToldOf C) []) : FnOk P w K mg base CX0 4 f fd ["self", "name", "upto"] (spStruck C wholeB) := by
  refine F.ok sc_Book_wholly (fun vs H Q E h => ?_) (fun cdv A outer s H vs Q E hr h => ?_)
  · obtain ⟨b, an, n, v, u, rs, rfl, _⟩ := h; rfl
  · obtain ⟨b, an, n, v, u, rs, rfl, BA, han, hn, hup, hv, h64, k⟩ := h
    refine cut_nox ⟨_, (pss_cons (ps_expr (pe_mtK c_Book__name_upto hr (by decide) (pv 0) (pa_cons (pv 1) pa_nil) (pk_cons (pv 2) pk_nil)))
      (pss_cons (ps_setLc (i := 3) (own := [("record", 4)]) (g := gName 4) rfl sc_Book_wholly.nd rfl rfl (sw_true rfl rfl rfl (by decide +kernel)) (pi_list (C8.pe_mt c_Book__told_of hr (by decide) (pv 0) (pa_cons (pv 1) (pa_cons pe_str (pa_cons (pv 2) pa_nil))))) (blkOk_by (own := [("record", 4)]) (N := ["self", "name", "upto", "strikes", "record"]) (sc := defScope s_Book_wholly) (by decide +kernel)) (fun _ _ _ _ _ => pg_name (i := 4) sc_Book_wholly.nd rfl (Or.inl rfl)) (fun _ _ _ _ _ => (pts_one (pt_val (pe_ix (ix_tupK K) (pv 4) pe_int (fun _ _ => rfl))))) (fun _ _ _ _ _ => (pv 4)))
      (pss_one (ps_ret (pe_ifExp (pt_truth (pv 3) (by intro _; rfl)) (pe_ix ix_tup (pe_ix ix_list (pv 3) pe_int (fun _ _ => rfl)) pe_int (fun _ _ => rfl)) pe_non))))), ?_⟩
    obtain ⟨dx, e, nn, kvs, nkv, B⟩ := id BA
    obtain ⟨rk, ws, ss, lk, hrow⟩ := nms_row hn
    refine ⟨_, rfl, b, dx, _, rfl, B.ob, bf_no _ _ (by decide +kernel) (by decide +kernel), _, rfl, _, rfl, rfl, rfl, b, an, v, u, rs, Row.nm n rk ws ss lk, rfl, BA, han, hv, hrow, rfl, hup, fun x tx => ?_⟩
    refine ⟨_, rfl, b, dx, _, rfl, B.ob, bf_no _ _ (by decide +kernel) (by decide +kernel), _, rfl, _, rfl, b, an, n, ("strike" : Str), v, u, rs, rfl, BA, han, hn, hv, h64, fun H1 l S s1 l0 sp rise ⟨xs, hx, rx⟩ => ?_⟩
    have allst : ∀ r ∈ (S.filter fun r => upB r.mo u && decide (r.sort = ("strike" : Str))), ∃ m q wh, r = Row.st m q wh := fun r h => by
      have h1 := (List.mem_filter.mp h).2
      rw [Bool.and_eq_true] at h1
      have h2 : r.sort = ("strike" : Str) := of_decide_eq_true h1.2
      cases r with
      | st m q wh => exact ⟨m, q, wh, rfl⟩
      | nm => exact absurd h2 (by show ¬ ("name" : Str) = "strike"; decide +kernel)
      | ch => exact absurd h2 (by show ¬ ("choice" : Str) = "strike"; decide +kernel)
      | ah => exact absurd h2 (by show ¬ ("ahead" : Str) = "strike"; decide +kernel)
    have hSl : (S.filter fun r => upB r.mo u && decide (r.sort = ("strike" : Str))).length ≤ 64 := by
      have h1 := List.length_filter_le (fun r : Row => upB r.mo u && decide (r.sort = ("strike" : Str))) S
      have h2 := sp.length_eq
      have h3 := List.length_filter_le (fun r : Row => decide (n ∈ r.names)) rs
      omega
    have fin : ∀ H2 y, Same H1 H2 → Tp H2 y (oD (((S.filter fun r => upB r.mo u && decide (r.sort = ("strike" : Str))).filter wholeB).head?.map Row.mo)) → Q y H2 := fun H2 y s2 hy => k H2 y S (s1.trans s2) sp rise (by
      rw [List.filter_filter] at hy
      rw [show (fun r : Row => upB r.mo u && decide (r.sort = ("strike" : Str)) && wholeB r) = fun r => wholeB r && (upB r.mo u && decide (r.sort = ("strike" : Str))) from funext fun r => Bool.and_comm _ _]; exact hy)
    generalize (S.filter fun r => upB r.mo u && decide (r.sort = ("strike" : Str))) = U at rx fin allst hSl
    have hxl : xs.length = U.length := by rw [rx.len, List.length_map]
    refine ⟨l, rfl, ⟨_, SqL.of hx⟩, fun D hD => ?_⟩
    refine lc_list (K := K) (a := l) (xs := xs) (fun i H' => Same H1 H' ∧ Ls H' D (((U.take i).filter wholeB).map Row.d))
      ⟨Same.new hD, [], upd_same, by rw [List.take_zero]; exact .nil⟩ (fun i H' _ q => SqL.of (q.1 _ _ hx)) ?_ ?_
    · rintro i x H3 hi ⟨s3, zs, hz, rz⟩
      obtain ⟨r, hr1, t0⟩ := row_at (K := K) rx hi
      obtain ⟨m, q, wh, rfl⟩ := allst r (List.mem_of_getElem? hr1)
      obtain ⟨t, ys2, rfl, ht, ry⟩ := Tp.inv (t0.to (TK.of s3))
      obtain ⟨v3, a3, t3⟩ := Tp.at (K := K) (i := 3) (d := .bool wh) ht ry rfl
      cases t3
      have step := filter_step (p := wholeB) hr1
      refine ⟨rfl, _, rfl, _, _, _, _, rfl, rfl, SqT.of ht, a3, _, rfl, ?_⟩
      refine ite2 (fun q => ?_) (fun q => ?_)
      · have hzl : zs.length ≤ 64 := by rw [rz.len, List.length_map]; have := List.length_filter_le wholeB (U.take i); have := List.length_take_le' i U; omega
        refine ⟨_, rfl, zs, hz, small1000 (by omega), fun c o ec => by rw [upd_ne (ne_of_none ec hD)]; exact s3 _ _ ec, _, upd_same, ?_⟩
        rw [step, if_pos (show wholeB (Row.st _ _ wh) = true from q), List.map_append]
        have tk : TK H3 (upd H3 D (.lst (zs ++ [.ref t]))) := TK.put hz (by intro z; exact nofun)
        exact (rz.to tk).snoc ((t0.to (TK.of s3)).to tk)
      · exact ⟨s3, zs, hz, by rw [step, if_neg (show ¬ wholeB (Row.st _ _ wh) = true from q), List.append_nil]; exact rz⟩
    rintro H3 ⟨s3, zs, hz, rz⟩
    rw [hxl, List.take_length] at rz
    have fin3 := fun y => fin H3 y s3
    refine ⟨_, rfl, _, .inl ⟨zs, SqL.of hz, rfl⟩, ?_⟩
    generalize (U.filter wholeB) = Y at rz fin3
    cases Y with
    | nil =>
      cases rz
      exact iteF (fin3 _ .non)
    | cons r Y =>
      cases rz with
      | cons t0 rest =>
        refine iteT ?_
        obtain ⟨t, ys, rfl, ht, ry⟩ := Tp.inv t0
        obtain ⟨v1, a1, t1⟩ := Tp.at (K := K) ht ry r.ds1
        exact ⟨_, rfl, D, _, _, _, rfl, rfl, SqL.of hz, at_of (j := 0) rfl rfl, t, _, _, _, rfl, rfl, SqT.of ht, a1, fin3 _ t1⟩
abbrev s_Book_names : Stmt := inClass (top 26) 7
theorem sc_Book_names : FnScope ["self", "rank", "upto", "told", "record"] ["self", "rank", "upto"] (defScope s_Book_names) := ⟨rfl, rfl, rfl, by decide +kernel, rfl, by decide +kernel, by decide +kernel⟩
theorem ok_Book_names {f : Addr} {fd : FuncData} {kws : List (Str × V)} (F : FunD K "names" "Book.names" (defArgs s_Book_names) (defBody s_Book_names) (defScope s_Book_names) [] kws f fd)
    (c_Book_entries_upto : MetK P w K mg base 2 C "entries" (spEntries C) 1 ["upto"] (fun vs zs => vs ++ zs)) : FnOk P w K mg base CX0 3 f fd ["self", "rank", "upto"] (spNamesOf C) := by
  refine F.ok sc_Book_names (fun vs H Q E h => ?_) (fun cdv A outer s H vs Q E hr h => ?_)
  · obtain ⟨b, rv, v, rk, u, rs, rfl, _⟩ := h; rfl
  · obtain ⟨b, rv, v, rk, u, rs, rfl, BA, hrk, hv, h64, k⟩ := h
    refine cut_nox ⟨_, (pss_cons (ps_setLc (i := 3) (own := [("record", 4)]) (g := gName 4) rfl sc_Book_names.nd rfl rfl (sw_true rfl rfl rfl (by decide +kernel)) (pi_list (pe_mtK0 c_Book_entries_upto hr (by decide) (pv 0) (pk_cons (pv 2) pk_nil))) (blkOk_by (own := [("record", 4)]) (N := ["self", "rank", "upto", "told", "record"]) (sc := defScope s_Book_names) (by decide +kernel)) (fun _ _ _ _ _ => pg_name (i := 4) sc_Book_names.nd rfl (Or.inl rfl)) (fun _ _ _ _ _ => (pts_one (pt_cmpR op_eq (pe_ix (ix_tupK K) (pv 4) pe_int (fun _ _ => rfl)) pe_str (nomark _)))) (fun _ _ _ _ _ => (pv 4)))
      (pss_one (ps_ret (pe_lc (own := [("record", 4)]) (g := gName 4) rfl sc_Book_names.nd (pi_list (pv 3)) (blkOk_by (own := [("record", 4)]) (N := ["self", "rank", "upto", "told", "record"]) (sc := defScope s_Book_names) (by decide +kernel)) (fun _ _ _ _ _ => pg_name (i := 4) sc_Book_names.nd rfl (Or.inl rfl)) (fun _ _ _ _ _ => (pts_one (PW.pt (pw_or (pt_cmpR op_isN (pv 1) pe_non (nomark _)) (pw_or1 (pt_cmpR op_eq (pe_ix (ix_tupK K) (pv 4) pe_int (fun _ _ => rfl)) (pv 1) (nomark _))))))) (fun _ _ _ _ _ => (pe_ix (ix_tupK K) (pv 4) pe_int (fun _ _ => rfl))))))), ?_⟩
    obtain ⟨dx, e, nn, kvs, nkv, B⟩ := id BA
    refine ⟨_, rfl, b, dx, _, rfl, B.ob, bf_no _ _ (by decide +kernel) (by decide +kernel), _, rfl, rfl, rfl, b, v, u, rs, rfl, BA, hv, h64, fun H1 l S s1 l0 sp rise ⟨xs, hx, rx⟩ => ?_⟩
    have fin : ∀ H' D, Same H1 H' → H1 D = none → Ls H' D ((((S.filter fun r => upB r.mo u).filter Row.isNm).filter (rankB rk)).map fun r => mD r.mo) → Q (.ref D) H' := fun H' D s2 hD ls => k H' D S (s1.trans s2) (s1.free hD) sp rise (by
      rw [List.filter_filter, List.filter_filter] at ls
      rw [show (fun r : Row => upB r.mo u && rankB rk r) = fun r => rankB rk r && r.isNm && upB r.mo u from funext fun r => by cases r <;> simp [rankB, Row.isNm, Bool.and_comm]]
      exact ls)
    have hl0 : (S.filter fun r => upB r.mo u).length ≤ 64 := Nat.le_trans (List.length_filter_le _ _) (by rw [sp.length_eq]; omega)
    generalize (S.filter fun r => upB r.mo u) = U at rx fin hl0
    have hxl : xs.length = U.length := by rw [rx.len, List.length_map]
    refine ⟨l, rfl, ⟨_, SqL.of hx⟩, fun D hD => ?_⟩
    refine lc_list (K := K) (a := l) (xs := xs) (fun i H' => Same H1 H' ∧ Ls H' D (((U.take i).filter Row.isNm).map Row.d))
      ⟨Same.new hD, [], upd_same, by rw [List.take_zero]; exact .nil⟩ (fun i H' _ q => SqL.of (q.1 _ _ hx)) ?_ ?_
    · rintro i x H3 hi ⟨s3, zs, hz, rz⟩
      obtain ⟨r, hr1, t0⟩ := row_at (K := K) rx hi
      obtain ⟨t, ys2, rfl, ht, ry⟩ := Tp.inv (t0.to (TK.of s3))
      obtain ⟨v0, a0, t0'⟩ := Tp.at (K := K) ht ry r.ds0
      cases Tp.str_inv t0'
      have step := filter_step (p := Row.isNm) hr1
      refine ⟨rfl, _, rfl, _, _, _, _, rfl, rfl, SqT.of ht, a0, rfl, _, rfl, ?_⟩
      rw [sort_nm]
      refine ite2 (fun q => ?_) (fun q => ?_)
      · have hzl : zs.length ≤ 64 := by rw [rz.len, List.length_map]; have := List.length_filter_le Row.isNm (U.take i); have := List.length_take_le' i U; omega
        refine ⟨_, rfl, zs, hz, small1000 (by omega), fun c o ec => by rw [upd_ne (ne_of_none ec hD)]; exact s3 _ _ ec, _, upd_same, ?_⟩
        rw [step, if_pos q, List.map_append]
        have tk : TK H3 (upd H3 D (.lst (zs ++ [.ref t]))) := TK.put hz (by intro z; exact nofun)
        exact (rz.to tk).snoc ((t0.to (TK.of s3)).to tk)
      · exact ⟨s3, zs, hz, by rw [step, if_neg q, List.append_nil]; exact rz⟩
    rintro H3 ⟨s3, zs, hz, rz⟩
    rw [hxl, List.take_length] at rz
    have fin3 := fun H' D2 (s4 : Same H3 H') (h : H3 D2 = none) => fin H' D2 (s3.trans s4) (s3.free h)
    have hnm : ∀ r ∈ U.filter Row.isNm, r.isNm = true := fun r h => (List.mem_filter.mp h).2
    have hyl0 : (U.filter Row.isNm).length ≤ 64 := Nat.le_trans (List.length_filter_le _ _) hl0
    generalize (U.filter Row.isNm) = Y at rz fin3 hnm hyl0
    have hzl : zs.length = Y.length := by rw [rz.len, List.length_map]
    refine ⟨_, rfl, D, rfl, ⟨_, SqL.of hz⟩, fun D2 hD2 => ?_⟩
    refine lc_list (K := K) (a := D) (xs := zs) (fun i H' => Same H3 H' ∧ Ls H' D2 (((Y.take i).filter (rankB rk)).map fun r => mD r.mo))
      ⟨Same.new hD2, [], upd_same, by rw [List.take_zero]; exact .nil⟩ (fun i H' _ q => SqL.of (q.1 _ _ hz)) ?_ ?_
    · rintro i x H4 hi ⟨s4, qs, hq, rq⟩
      obtain ⟨r, hr1, t0⟩ := row_at (K := K) rz hi
      have hn := hnm r (List.mem_of_getElem? hr1)
      obtain ⟨t, ys2, rfl, ht, ry⟩ := Tp.inv (t0.to (TK.of s4))
      obtain ⟨v1, a1, t1⟩ := Tp.at (K := K) ht ry r.ds1
      obtain ⟨am, rfl, ham⟩ := Tp.mo_inv t1
      have step := filter_step (p := rankB rk) hr1
      have hql : qs.length ≤ 64 := by rw [rq.len, List.length_map]; have := List.length_filter_le (rankB rk) (Y.take i); have := List.length_take_le' i Y; omega
      have yes : rankB rk r = true → ∃ acc, H4 D2 = some (.lst acc) ∧ acc.length < sizeLine ∧ Same H3 (upd H4 D2 (.lst (acc ++ [.ref am]))) ∧ Ls (upd H4 D2 (.lst (acc ++ [.ref am]))) D2 (((Y.take (i + 1)).filter (rankB rk)).map fun r => mD r.mo) := fun q =>
        ⟨qs, hq, small1000 (by omega), fun c o ec => by rw [upd_ne (ne_of_none ec hD2)]; exact s4 _ _ ec, _, upd_same, by
          rw [step, if_pos q, List.map_append]
          have tk : TK H4 (upd H4 D2 (.lst (qs ++ [.ref am]))) := TK.put hq (by intro z; exact nofun)
          exact (rq.to tk).snoc ((Tp.mo ham).to tk)⟩
      cases r with
      | nm m rr ws ss lk =>
        cases rk with
        | none =>
          cases (show rv = .non from hrk)
          exact ⟨rfl, _, rfl, rfl, _, rfl, iteT (iteT ⟨_, rfl, _, _, _, _, rfl, rfl, SqT.of ht, a1, yes rfl⟩)⟩
        | some kk =>
          cases (show rv = .int kk from hrk)
          obtain ⟨v2, a2, t2⟩ := Tp.at (K := K) (i := 2) (d := .int rr) ht ry rfl
          cases Tp.int_inv t2
          refine ⟨rfl, _, rfl, rfl, _, rfl, iteF ?_⟩
          refine ⟨_, rfl, _, _, _, _, rfl, rfl, SqT.of ht, a2, _, rfl, rfl, _, rfl, ?_⟩
          rw [int_dec]
          refine ite2 (fun q => ?_) (fun q => ?_)
          · exact ⟨_, rfl, _, _, _, _, rfl, rfl, SqT.of ht, a1, yes q⟩
          · exact ⟨s4, qs, hq, by rw [step, if_neg (show ¬ rankB (some kk) (Row.nm m rr ws ss lk) = true from q), List.append_nil]; exact rq⟩
      | _ => cases hn
    · rintro H4 ⟨s4, ls⟩
      rw [hzl, List.take_length] at ls
      exact fin3 H4 D2 s4 hD2 ls
abbrev s_Book_taker : Stmt := inClass (top 26) 15
theorem sc_Book_taker : FnScope ["self", "name", "upto", "record", "elder"] ["self", "name", "upto"] (defScope s_Book_taker) := ⟨rfl, rfl, rfl, by decide +kernel, rfl, by decide +kernel, by decide +kernel⟩
theorem ok_Book_taker {f : Addr} {fd : FuncData} {kws : List (Str × V)} (F : FunD K "taker" "Book.taker" (defArgs s_Book_taker) (defBody s_Book_taker) (defScope s_Book_taker) [] kws f fd)
    (c_Book__name_upto : MetK P w K mg base 3 C "_name" (spName C) 2 ["upto"] (fun vs zs => vs ++ zs)) (c_Book_names_rank_upto : MetK P w K mg base 3 C "names" (spNamesOf C) 1 ["rank", "upto"] (fun vs zs => vs ++ zs))
    (c_Book_words : C8.Met P w K mg base 4 C "words" (spWords C) []) (c_Book_wholly_upto : MetK P w K mg base 4 C "wholly" (spStruck C wholeB) 2 ["upto"] (fun vs zs => vs ++ zs)) : FnOk P w K mg base CX0 5 f fd ["self", "name", "upto"] (spTaker C) := by
  refine F.ok sc_Book_taker (fun vs H Q E h => ?_) (fun cdv A outer s H vs Q E hr h => ?_)
  · obtain ⟨b, an, n, rk, ws, ss, lk, v, u, rs, rfl, _⟩ := h; rfl
  · obtain ⟨b, an, n, rk, ws, ss, lk, v, u, rs, rfl, BA, han, hrow, hup, hv, h64, hW, k⟩ := h
    refine cut_nox ⟨_, (pss_cons (ps_set (i := 3) sc_Book_taker.nd rfl (Or.inl rfl) (pe_mtK c_Book__name_upto hr (by decide) (pv 0) (pa_cons (pv 1) pa_nil) (pk_cons (pv 2) pk_nil)))
      (pss_cons (ps_for PassesOwn.never rfl (pi_list (pe_mtK0 c_Book_names_rank_upto hr (by decide) (pv 0) (pk_cons (pe_ix ix_tup (pv 3) pe_int (fun _ _ => rfl)) (pk_cons (pv 2) pk_nil)))) (pg_name (i := 4) sc_Book_taker.nd rfl (Or.inl rfl))
      (pss_one (ps_if (PW.pt (pw_and (pt_cmpR (op_ltT hr.units0) (pv 4) (pv 1) (nomark _)) (pw_and (pt_cmpR (op_eqD hr.units) (C8.pe_mt c_Book_words hr (by decide) (pv 0) (pa_cons (pv 4) pa_nil)) (pe_ix ix_tup (pv 3) pe_int (fun _ _ => rfl)) (nomark _)) (pw_and1 (pt_cmpR op_isN (pe_mtK c_Book_wholly_upto hr (by decide) (pv 0) (pa_cons (pv 4) pa_nil) (pk_cons (pv 2) pk_nil)) pe_non (nomark _)))))) (pss_one (ps_ret (pv 4))) pss_nil)))
      (pss_one (ps_ret pe_non)))), ?_⟩
    obtain ⟨dx, e, nn, kvs, nkv, B⟩ := id BA
    have x1 := bf_no e nn (m := "_name") (by decide +kernel) (by decide +kernel)
    have x2 := bf_no e nn (m := "names") (by decide +kernel) (by decide +kernel)
    have x3 := bf_no e nn (m := "words") (by decide +kernel) (by decide +kernel)
    have x4 := bf_no e nn (m := "wholly") (by decide +kernel) (by decide +kernel)
    refine ⟨_, rfl, b, dx, _, rfl, B.ob, x1, _, rfl, _, rfl, rfl, rfl, b, an, v, u, rs, Row.nm n rk ws ss lk, rfl, BA, han, hv, hrow, rfl, hup, fun x tx => ?_⟩
    obtain ⟨t, ts, rfl, ht, rt⟩ := Tp.inv tx
    obtain ⟨v2, a2, t2⟩ := Tp.at (K := K) (i := 2) (d := .int rk) ht rt rfl
    cases Tp.int_inv t2
    obtain ⟨v3, a3, t3⟩ := Tp.at (K := K) (i := 3) (d := .tuple (ws.map PyData.str)) ht rt rfl
    refine ⟨_, rfl, b, dx, _, rfl, B.ob, x2, _, rfl, _, _, _, _, rfl, rfl, SqT.of ht, a2, _, rfl, rfl, rfl, b, .int rk, v, some rk, u, rs, rfl, BA, rfl, hv, h64, fun H1 l S s1 l0 sp rise ⟨lx, hlx, rlx⟩ => ?_⟩
    have hrowW := hW _ hrow
    have memS : ∀ r ∈ (S.filter fun r => upB r.mo u && rankB (some rk) r), r ∈ rs ∧ upB r.mo u = true ∧ ∃ m ws' ss' lk', r = Row.nm m rk ws' ss' lk' := fun r h => by
      obtain ⟨h1, h2⟩ := List.mem_filter.mp h
      rw [Bool.and_eq_true] at h2
      refine ⟨sp.mem_iff.mp h1, h2.1, ?_⟩
      cases r with
      | nm m rr ws' ss' lk' =>
        have : rr = rk := of_decide_eq_true h2.2
        subst this
        exact ⟨m, ws', ss', lk', rfl⟩
      | _ => cases h2.2
    have fin : ∀ H2 y, Same H1 H2 → Tp H2 y (oD (((S.filter fun r => upB r.mo u && rankB (some rk) r).filter (takes rs u n ws)).head?.map Row.mo)) → Q y H2 := fun H2 y s2 hy => k H2 y S (s1.trans s2) sp rise hy
    generalize (S.filter fun r => upB r.mo u && rankB (some rk) r) = U at rlx memS fin
    have hlxl : lx.length = U.length := by rw [rlx.len, List.length_map]
    refine ⟨l, rfl, ⟨_, SqL.of hlx⟩, for_list (K := K) (a := l) (xs := lx) (fun i σ' H' => ∃ v4 : Option V, σ' = [some (.ref b), some (.ref an), some v, some (.ref t), v4] ∧ Same H1 H' ∧ (U.take i).filter (takes rs u n ws) = [])
      ⟨none, rfl, (fun _ _ e => e), rfl⟩ (fun i σ' H' _ ⟨_, _, q, _⟩ => SqL.of (q _ _ hlx)) ?_ ?_⟩
    · rintro i x σ3 H3 hi ⟨v4, rfl, s3, hno⟩
      obtain ⟨d, hd, tx3⟩ := rlx.getv hi
      rw [List.getElem?_map] at hd
      obtain ⟨r, hr1, rfl⟩ : ∃ r, U[i]? = some r ∧ d = mD r.mo := by
        cases q : U[i]? with
        | none => rw [q] at hd; cases hd
        | some r => rw [q] at hd; exact ⟨r, rfl, (Option.some.inj hd).symm⟩
      obtain ⟨hrs, hrup, m, ws', ss', lk', rfl⟩ := memS r (List.mem_of_getElem? hr1)
      obtain ⟨ae, rfl, hae⟩ := Tp.mo_inv (tx3.to (TK.of s3))
      have s13 := s1.trans s3
      have BA3 := BA.keep (KB.of s13)
      have B3 := B.keep (KB.of s13)
      have hv3 := hv.to (TK.of s13)
      have hrW := hW _ hrs
      have step := filter_step (p := takes rs u n ws) hr1
      have no : takes rs u n ws (Row.nm m rk ws' ss' lk') = false → ∀ H', Same H1 H' → ∃ v4 : Option V, ([some (.ref b), some (.ref an), some v, some (.ref t), some (.ref ae)] : List (Option V)) = [some (.ref b), some (.ref an), some v, some (.ref t), v4] ∧ Same H1 H' ∧ (U.take (i + 1)).filter (takes rs u n ws) = [] := fun q H' s' =>
        ⟨_, rfl, s', by rw [step, hno, if_neg (by rw [q]; decide)]; rfl⟩
      refine ⟨_, rfl, _, rfl, ae, an, [m.1, m.2], [n.1, n.2], rfl, rfl, SqT.of hae, SqT.of (s13 _ _ han), _, rfl, ?_⟩
      rw [lt2]
      refine ite2 (fun q1 => ?_) (fun q1 => ?_)
      · refine ⟨_, rfl, b, dx, _, rfl, B3.ob, x3, _, rfl, b, ae, m, rk, ws', ss', lk', rs, rfl, BA3, hae, hrs, fun y ty => ?_⟩
        refine ⟨_, rfl, _, _, _, _, rfl, rfl, SqT.of (s13 _ _ ht), a3, _, _, ty.d, (t3.to (TK.of s13)).d, shaped_ws hrW.2.1, shaped_ws hrowW.2.1, _, rfl, ?_⟩
        rw [eqv_ws hrW.2.1 hrowW.2.1]
        refine ite2 (fun q2 => ?_) (fun q2 => ?_)
        · refine ⟨_, rfl, b, dx, _, rfl, B3.ob, x4, _, rfl, _, rfl, rfl, rfl, b, ae, m, v, u, rs, rfl, BA3, hae, row_nms hrs, hrup, hv3, h64, fun H4 y S2 s4 sp2 rise2 hy => ?_⟩
          have wh := whole_head (u := u) (m := m) sp2
          cases e2 : (S2.filter fun r => upB r.mo u && decide (r.sort = ("strike" : Str)) && wholeB r).head?.map Row.mo with
          | none =>
            rw [e2] at hy wh
            cases hy
            refine ⟨rfl, _, rfl, iteT ?_⟩
            have tk : takes rs u n ws (Row.nm m rk ws' ss' lk') = true := by
              show (decide (mLt m n) && decide (ws' = ws) && !wholeB' rs u m) = true
              rw [q1, q2, wh.mp rfl]; rfl
            refine ⟨_, rfl, fin H4 _ (s3.trans s4) ?_⟩
            have : ∃ R, U.filter (takes rs u n ws) = Row.nm m rk ws' ss' lk' :: R := by
              have h1 : U = U.take (i + 1) ++ U.drop (i + 1) := (List.take_append_drop _ _).symm
              rw [h1, List.filter_append, step, hno, if_pos tk]
              exact ⟨_, rfl⟩
            obtain ⟨R, hR⟩ := this
            rw [hR]
            exact Tp.mo (m := m) (s4 _ _ hae)
          | some m2 =>
            rw [e2] at hy wh
            obtain ⟨a5, rfl, _⟩ := Tp.mo_inv hy
            refine ⟨rfl, _, rfl, iteF (no ?_ H4 (s3.trans s4))⟩
            have : wholeB' rs u m = true := by
              cases q : wholeB' rs u m with
              | true => rfl
              | false => exact absurd (wh.mpr q) (by simp)
            show (decide (mLt m n) && decide (ws' = ws) && !wholeB' rs u m) = false
            rw [this]; simp
        · refine no ?_ H3 s3
          show (decide (mLt m n) && decide (ws' = ws) && !wholeB' rs u m) = false
          rw [Bool.eq_false_iff.mpr q2]; simp
      · refine no ?_ H3 s3
        show (decide (mLt m n) && decide (ws' = ws) && !wholeB' rs u m) = false
        rw [Bool.eq_false_iff.mpr q1]; simp
    · rintro σ3 H3 ⟨v4, rfl, s3, hno⟩
      rw [hlxl, List.take_length] at hno
      refine fin H3 .non s3 ?_
      rw [hno]; exact .non
abbrev s_Book_choose : Stmt := inClass (top 26) 2
theorem sc_Book_choose : FnScope ["self", "moment", "name", "sheet", "sheets"] ["self", "moment", "name", "sheet"] (defScope s_Book_choose) := ⟨rfl, rfl, rfl, by decide +kernel, rfl, by decide +kernel, by decide +kernel⟩
theorem ok_Book_choose {f : Addr} {fd : FuncData} (F : Fun K "choose" "Book.choose" s_Book_choose f fd) (T : BkT K C) (c_refuse_new : C8.Cal P w K mg base 3 "refuse_new" spNew []) (c_Book__refuse_named : C8.Met P w K mg base 4 C "_refuse_named" (spRefuse C) [])
    (c_Book__name : C8.Met P w K mg base 3 C "_name" (spName C) [.non]) (c_Book__keep : C8.Met P w K mg base 2 C "_keep" (spKeep C) []) : FnOk P w K mg base CX0 5 f fd ["self", "moment", "name", "sheet"] (spChoose C) := by
  refine F.ok sc_Book_choose (fun vs H Q E h => ?_) (fun cdv A outer s H vs Q E hr h => ?_)
  · obtain ⟨b, am, an, m, n, z, rk, ws, ss, lk, rs, rfl, _⟩ := h; rfl
  · obtain ⟨b, am, an, m, n, z, rk, ws, ss, lk, rs, rfl, BA, ham, han, hmo, hm, h60, hln, hrow, hz, hW, k⟩ := h
    refine ⟨_, (pss_cons (ps_expr (C8.pe_c c_refuse_new hr (by decide) rfl (pa_cons (pv 1) (pa_cons (pe_fld (pv 0) rfl) pa_nil))))
      (pss_cons (ps_expr (C8.pe_mt c_Book__refuse_named hr (by decide) (pv 0) (pa_cons (pv 1) (pa_cons (pv 2) pa_nil))))
      (pss_cons (ps_set (i := 4) sc_Book_choose.nd rfl (Or.inl rfl) (pe_ix ix_tup (C8.pe_mt c_Book__name hr (by decide) (pv 0) (pa_cons (pv 2) pa_nil)) pe_int (fun _ _ => rfl)))
      (pss_cons (ps_if (pt_not (pt_truth (pv 4) (by intro _; rfl))) (pss_one ps_never) pss_nil)
      (pss_cons (ps_if (pt_cmpR op_notIn_seq (pv 3) (pv 4) rfl) (pss_one ps_never) pss_nil)
      (pss_one (ps_expr (C8.pe_mt c_Book__keep hr (by decide) (pv 0) (pa_cons (pe_tup (pa_cons pe_str (pa_cons (pv 1) (pa_cons (pv 2) (pa_cons (pv 3) pa_nil))))) pa_nil))))))))), ?_⟩
    obtain ⟨dx, e, nn, kvs, nkv, B⟩ := id BA
    have x1 := bf_no e nn (m := "_refuse_named") (by decide +kernel) (by decide +kernel)
    have x2 := bf_no e nn (m := "_name") (by decide +kernel) (by decide +kernel)
    have x3 := bf_no e nn (m := "_keep") (by decide +kernel) (by decide +kernel)
    refine ⟨_, rfl, _, rfl, b, C, dx, _, _, rfl, B.ob, T.cl, T.nE, bf_e _ _, am, e, m, kvs, rfl, ham, hmo, B.en, B.er.none hm, ?_⟩
    refine ⟨_, rfl, b, dx, _, rfl, B.ob, x1, _, rfl, _, rfl, b, am, an, m, n, rs, rfl, BA, ham, han, row_nms hrow, hln, ?_⟩
    refine ⟨_, rfl, b, dx, _, rfl, B.ob, x2, _, rfl, b, an, .non, none, rs, Row.nm n rk ws ss lk, rfl, BA, han, rfl, hrow, rfl, rfl, fun x tx => ?_⟩
    obtain ⟨t0, xs, rfl, ht0, rx⟩ := Tp.inv tx
    obtain ⟨v4, a4, t4⟩ := Tp.at (K := K) (i := 4) (d := .tuple (ss.map PyData.str)) ht0 rx rfl
    obtain ⟨sa, ys, rfl, hsa, rys⟩ := Tp.inv (id t4)
    refine ⟨t0, _, _, _, rfl, rfl, SqT.of ht0, a4, ?_⟩
    have hyl : ys.length = ss.length := by rw [rys.len, List.length_map]
    have hpos : 0 < ss.length := List.length_pos_of_mem hz
    refine ⟨_, rfl, _, .inr (.inl ⟨ys, SqT.of hsa, rfl⟩), ?_⟩
    have ne : ys.isEmpty = false := by
      cases ys with
      | nil => rw [List.length_nil] at hyl; omega
      | cons _ _ => rfl
    rw [ne]
    refine iteF ?_
    obtain rfl : ys = ss.map V.str := TpAll.of_strs rys
    have inv : inV (.str z) (ss.map V.str) = true := List.any_eq_true.mpr ⟨.str z, List.mem_map.mpr ⟨z, hz, rfl⟩, by show (z == z) = true; exact beq_self_eq_true z⟩
    refine ⟨_, rfl, _, rfl, sa, _, rfl, .inr (SqT.of hsa), rfl, flat_strs ss, _, rfl, ?_⟩
    rw [inv]
    refine iteF ?_
    refine ⟨_, rfl, b, dx, _, rfl, B.ob, x3, _, rfl, _, rfl, _, rfl, by show 4 ≤ sizeLine; decide, fun t ht => ?_⟩
    have s3 : Same H (upd H t (.tup [.str "choice", .ref am, .ref an, .str z])) := Same.new ht
    refine ⟨b, .ref t, .ch m n z, rs, rfl, BA.keep (KB.of s3), .tup upd_same (.cons (.str _) (.cons (Tp.mo (s3 _ _ ham)) (.cons (Tp.mo (s3 _ _ han)) (.cons (.str _) .nil)))), hm, hmo, fun x hx => ?_, ?_, h60, fun H4 k4 B4 => ?_⟩
    · have hx' : x ∈ [n] := hx
      rw [List.mem_singleton] at hx'; subst hx'; exact row_nms hrow
    · show ([n] : List Mo).Nodup
      simp
    · exact k H4 (fun a o no ea => k4 a o no (s3 a o ea)) B4
end
end KN

set_option Elab.async false
set_option linter.all false
set_option maxRecDepth 100000
set_option maxHeartbeats 4000000
namespace KN
open PySem L2
/-! ### lists of data -/
theorem depthAll_le {k : Nat} : ∀ {ds : List PyData}, (∀ d ∈ ds, d.depth ≤ k) → PyData.depthAll ds ≤ k
  | [], _ => by simp [PyData.depthAll]
  | d :: ds, h => by
    have h1 := h d List.mem_cons_self
    have h2 := depthAll_le (ds := ds) fun x hx => h x (List.mem_cons_of_mem _ hx)
    simp only [PyData.depthAll]; omega
theorem shaped_list {ds : List PyData} (h : ∀ d ∈ ds, okD d = true ∧ d.depth ≤ 60) : SeqAt.shaped (.list ds) = true := by
  refine shaped_of (by simpa [okD] using okDs_all.mpr fun d hd => (h d hd).1) ?_
  have := depthAll_le fun d hd => (h d hd).2
  simp only [PyData.depth]; omega
theorem depth_m (m : Mo) : (mD m).depth ≤ 60 := by simp [mD, PyData.depth, PyData.depthAll]
theorem depth_l (l : Lnk) : (lD l).depth ≤ 60 := by simp [lD, mD, PyData.depth, PyData.depthAll]
theorem shaped_ms (ns : List Mo) : SeqAt.shaped (.list (ns.map mD)) = true := shaped_list fun d hd => by
  obtain ⟨m, _, rfl⟩ := List.mem_map.mp hd; exact ⟨rfl, depth_m m⟩
theorem shaped_ls (ls : List Lnk) : SeqAt.shaped (.list (ls.map lD)) = true := shaped_list fun d hd => by
  obtain ⟨m, _, rfl⟩ := List.mem_map.mp hd; exact ⟨rfl, depth_l m⟩
theorem shaped_l (l : Lnk) : SeqAt.shaped (lD l) = true := shaped_of rfl (by have := depth_l l; omega)
theorem any_m (m : Mo) (ns : List Mo) : ((ns.map mD).any fun z => PyData.eqv z (mD m)) = decide (m ∈ ns) := by
  have h : ((ns.map mD).any fun z => PyData.eqv z (mD m)) = true ↔ m ∈ ns := by
    rw [any_eqv rfl (okDs_all.mpr fun d hd => by obtain ⟨x, _, rfl⟩ := List.mem_map.mp hd; rfl), List.mem_map]
    exact ⟨fun ⟨x, hx, e⟩ => by rw [mD_inj e] at hx; exact hx, fun h => ⟨m, h, rfl⟩⟩
  by_cases q : m ∈ ns
  · rw [decide_eq_true q]; exact h.mpr q
  · rw [decide_eq_false q]; exact Bool.eq_false_iff.mpr fun z => q (h.mp z)
theorem any_l (l : Lnk) (ls : List Lnk) : ((ls.map lD).any fun z => PyData.eqv z (lD l)) = decide (l ∈ ls) := by
  have h : ((ls.map lD).any fun z => PyData.eqv z (lD l)) = true ↔ l ∈ ls := by
    rw [any_eqv rfl (okDs_all.mpr fun d hd => by obtain ⟨x, _, rfl⟩ := List.mem_map.mp hd; rfl), List.mem_map]
    exact ⟨fun ⟨x, hx, e⟩ => by rw [lD_inj e] at hx; exact hx, fun h => ⟨l, h, rfl⟩⟩
  by_cases q : l ∈ ls
  · rw [decide_eq_true q]; exact h.mpr q
  · rw [decide_eq_false q]; exact Bool.eq_false_iff.mpr fun z => q (h.mp z)
/-- a part of a list read with its data -/
theorem Ls.get {K : PySem.W.Frag} {H : Hp} {a : Addr} {ds : List PyData} {xs : List V} {i : Nat} {x : V} (hx : xs[i]? = some x) (r : TpAll H xs ds) : ∃ d, ds[i]? = some d ∧ Tp H x d := r.getv hx

/-! ### what may be told to a book -/
def CanTell (rs : List Row) (r : Row) : Prop := MoOk r.mo ∧ r.mo ∉ rs.map Row.mo ∧ rs.length ≤ 60 ∧ match r with
  | .nm m rank ws ss like => NmOk rank ws ss like ∧ ∀ l, like = some l → ¬ mLt m l ∧ ∃ rk ws' ss' l', Row.nm l rk ws' ss' l' ∈ rs ∧ (if rank = 0 then decide (rk = 0) else decide (rk < rank)) = true
  | .ah m n o => ¬ mLt m n ∧ ¬ mLt m o ∧ n ≠ o ∧ ∃ rk, (∃ ws ss l, Row.nm n rk ws ss l ∈ rs) ∧ ∃ ws ss l, Row.nm o rk ws ss l ∈ rs
  | .ch m n z => ¬ mLt m n ∧ ∃ rk ws ss lk, Row.nm n rk ws ss lk ∈ rs ∧ z ∈ ss ∧ ∀ w ∈ ss, IsW w
  | .st m n _ => ¬ mLt m n ∧ n ∈ nms rs
def spTell (C : Addr) : Sp := fun vs H Q _ => ∃ (b : Addr) (v : V) (r : Row) (rs : List Row), vs = [.ref b, v] ∧ BookAt C H b rs ∧ Tp H v r.d ∧ CanTell rs r ∧ ∀ H', KD H H' → BookAt C H' b (rs ++ [r]) → Q .non H'
def spBookOf (C : Addr) : Sp := fun vs H Q _ => ∃ (a : Addr) (rs : List Row), vs = [.ref a] ∧ Ls H a (rs.map Row.d) ∧ (∀ i r, rs[i]? = some r → CanTell (rs.take i) r) ∧ ∀ H' b, KD H H' → H b = none → BookAt C H' b rs → Q (.ref b) H'
def spThereR : Sp := fun vs H Q _ => ∃ (a : Addr) (v : V) (u : Option Mo) (rs : List Row), vs = [.ref a, v] ∧ Ls H a (rs.map Row.d) ∧ UpV H v u ∧ rs.length ≤ 500 ∧ ∀ (H' : Hp) (l : Addr), Same H H' → H l = none → Ls H' l ((rs.filter fun r => upB r.mo u).map Row.d) → Q (.ref l) H'
def spReached : Sp := fun vs H Q _ => ∃ (a st : Addr) (s : Mo) (ls : List Lnk), vs = [.ref a, .ref st] ∧ Ls H a (ls.map lD) ∧ ls.length ≤ 500 ∧ H st = some (.tup [.int s.1, .int s.2]) ∧
  ∀ (H' : Hp) (l : Addr) (ns : List Mo), Same H H' → Ls H' l (ns.map mD) → (∀ g, g ∈ ns ↔ Rch ls s g) → Q (.ref l) H'
def spAheadsR : Sp := fun vs H Q _ => ∃ (a : Addr) (v : V) (u : Option Mo) (rs : List Row), vs = [.ref a, v] ∧ Ls H a (rs.map Row.d) ∧ UpV H v u ∧ rs.length ≤ 64 ∧ ∀ (H' : Hp) (l : Addr), Same H H' → H l = none → Ls H' l ((ahF (rs.filter fun r => upB r.mo u)).map lD) → Q (.ref l) H'
def spRing : Sp := fun vs H Q _ => ∃ (a : Addr) (ls : List Lnk), vs = [.ref a] ∧ Ls H a (ls.map lD) ∧ ls.length ≤ 500 ∧ ∀ (H' : Hp) (k : Bool), Same H H' → (k = true ↔ Ring ls) → Q (.bl k) H'
/-- rows of a book as parts of a tuple -/
theorem Tp.tstr {H : Hp} {v : V} {ss : List Str} (h : Tp H v (.tuple (ss.map PyData.str))) : ∃ a, v = .ref a ∧ H a = some (.tup (ss.map V.str)) := by
  obtain ⟨a, xs, rfl, e, r⟩ := Tp.inv h
  rw [TpAll.of_strs r] at e
  exact ⟨a, rfl, e⟩
theorem Tp.up {H : Hp} {v : V} {u : Option Mo} (h : Tp H v (oD u)) : UpV H v u := by
  cases u with
  | none => cases h; rfl
  | some m => exact Tp.mo_inv h
section
variable {P : Program} {w : World} {K : PySem.W.Frag} {mg : Str → Option Value} {base : Heap} {C : Addr}
abbrev s__law_tell : Stmt := top 34
theorem sc__law_tell : FnScope ["_law_book_here", "_law_row_here"] ["_law_book_here", "_law_row_here"] (defScope s__law_tell) := ⟨rfl, rfl, rfl, by decide +kernel, rfl, by decide +kernel, by decide +kernel⟩
theorem ok__law_tell {f : Addr} {fd : FuncData} (F : Fun K "_law_tell" "_law_tell" s__law_tell f fd) (c_Book_publish_rank_sheets_like : MetK P w K mg base 5 C "publish" (spPublish C) 3 ["rank", "sheets", "like"] (fun vs zs => vs ++ zs))
    (c_Book_choose : C8.Met P w K mg base 5 C "choose" (spChoose C) []) (c_Book_strike_whole : MetK P w K mg base 5 C "strike" (spStrike C) 3 ["whole"] (fun vs zs => vs ++ zs)) (c_Book_ahead : C8.Met P w K mg base 5 C "ahead" (spAhead C) []) : FnOk P w K mg base CX0 6 f fd ["_law_book_here", "_law_row_here"] (spTell C) := by
  refine F.ok sc__law_tell (fun vs H Q E h => ?_) (fun cdv A outer s H vs Q E hr h => ?_)
  · obtain ⟨b, v, r, rs, rfl, _⟩ := h; rfl
  · obtain ⟨b, v, r, rs, rfl, BA, hv, ⟨hmo, hm, h60, hc⟩, k⟩ := h
    refine ⟨_, (pss_one (ps_if (pt_cmpR op_eq (pe_ix ix_tup (pv 1) pe_int (fun _ _ => rfl)) pe_str (nomark _)) (pss_one (ps_expr (pe_mtK c_Book_publish_rank_sheets_like hr (by decide) (pv 0) (pa_cons (pe_ix ix_tup (pv 1) pe_int (fun _ _ => rfl)) (pa_cons (pe_ix ix_tup (pv 1) pe_int (fun _ _ => rfl)) pa_nil)) (pk_cons (pe_ix ix_tup (pv 1) pe_int (fun _ _ => rfl)) (pk_cons (pe_ix ix_tup (pv 1) pe_int (fun _ _ => rfl)) (pk_cons (pe_ix ix_tup (pv 1) pe_int (fun _ _ => rfl)) pk_nil)))))) (pss_one (ps_if (pt_cmpR op_eq (pe_ix ix_tup (pv 1) pe_int (fun _ _ => rfl)) pe_str (nomark _)) (pss_one (ps_expr (C8.pe_mt c_Book_choose hr (by decide) (pv 0) (pa_cons (pe_ix ix_tup (pv 1) pe_int (fun _ _ => rfl)) (pa_cons (pe_ix ix_tup (pv 1) pe_int (fun _ _ => rfl)) (pa_cons (pe_ix ix_tup (pv 1) pe_int (fun _ _ => rfl)) pa_nil)))))) (pss_one (ps_if (pt_cmpR op_eq (pe_ix ix_tup (pv 1) pe_int (fun _ _ => rfl)) pe_str (nomark _)) (pss_one (ps_expr (pe_mtK c_Book_strike_whole hr (by decide) (pv 0) (pa_cons (pe_ix ix_tup (pv 1) pe_int (fun _ _ => rfl)) (pa_cons (pe_ix ix_tup (pv 1) pe_int (fun _ _ => rfl)) pa_nil)) (pk_cons (pe_ix ix_tup (pv 1) pe_int (fun _ _ => rfl)) pk_nil)))) (pss_one (ps_expr (C8.pe_mt c_Book_ahead hr (by decide) (pv 0) (pa_cons (pe_ix ix_tup (pv 1) pe_int (fun _ _ => rfl)) (pa_cons (pe_ix ix_tup (pv 1) pe_int (fun _ _ => rfl)) (pa_cons (pe_ix ix_tup (pv 1) pe_int (fun _ _ => rfl)) pa_nil)))))))))))), ?_⟩
    obtain ⟨dx, e, nn, kvs, nkv, B⟩ := id BA
    obtain ⟨t, xs, rfl, ht, rx⟩ := Tp.inv hv
    obtain ⟨v0, a0, t0⟩ := Tp.at (K := K) ht rx r.ds0
    cases Tp.str_inv t0
    refine ⟨_, rfl, _, _, _, _, rfl, rfl, SqT.of ht, a0, rfl, _, rfl, ?_⟩
    rw [sort_nm]
    have x0 := fun m (h1 : ¬ m = ("_named_by" : Str)) h2 => bf_no e nn (m := m) h1 h2
    cases r with
    | nm m rank ws ss like =>
      refine iteT ?_
      obtain ⟨v1, a1, t1⟩ := Tp.at (K := K) (i := 1) (d := mD m) ht rx rfl
      obtain ⟨v2, a2, t2⟩ := Tp.at (K := K) (i := 2) (d := .int rank) ht rx rfl
      obtain ⟨v3, a3, t3⟩ := Tp.at (K := K) (i := 3) (d := .tuple (ws.map PyData.str)) ht rx rfl
      obtain ⟨v4, a4, t4⟩ := Tp.at (K := K) (i := 4) (d := .tuple (ss.map PyData.str)) ht rx rfl
      obtain ⟨v5, a5, t5⟩ := Tp.at (K := K) (i := 5) (d := oD like) ht rx rfl
      obtain ⟨am, rfl, ham⟩ := Tp.mo_inv t1
      cases Tp.int_inv t2
      obtain ⟨wa, rfl, hwa⟩ := Tp.tstr t3
      obtain ⟨sa, rfl, hsa⟩ := Tp.tstr t4
      refine ⟨_, rfl, b, dx, _, rfl, B.ob, bf_no _ _ (by decide +kernel) (by decide +kernel), _, rfl, _, _, _, _, rfl, rfl, SqT.of ht, a1, _, rfl, _, _, _, _, rfl, rfl, SqT.of ht, a3, _, rfl, _, _, _, _, rfl, rfl, SqT.of ht, a2, _, rfl, _, _, _, _, rfl, rfl, SqT.of ht, a4, _, rfl, _, _, _, _, rfl, rfl, SqT.of ht, a5, rfl, rfl, ?_⟩
      exact ⟨b, am, wa, sa, v5, m, rank, ws, ss, like, rs, rfl, BA, ham, hwa, hsa, t5.up, hc.1, hmo, hm, h60, hc.2, k⟩
    | ch m n z =>
      refine iteF ?_
      refine ⟨_, rfl, _, _, _, _, rfl, rfl, SqT.of ht, a0, rfl, _, rfl, ?_⟩
      rw [show decide (V.str (Row.ch m n z).sort = V.str "choice") = true from decide_eq_true rfl]
      refine iteT ?_
      obtain ⟨v1, a1, t1⟩ := Tp.at (K := K) (i := 1) (d := mD m) ht rx rfl
      obtain ⟨v2, a2, t2⟩ := Tp.at (K := K) (i := 2) (d := mD n) ht rx rfl
      obtain ⟨v3, a3, t3⟩ := Tp.at (K := K) (i := 3) (d := .str z) ht rx rfl
      obtain ⟨am, rfl, ham⟩ := Tp.mo_inv t1
      obtain ⟨an, rfl, han⟩ := Tp.mo_inv t2
      cases Tp.str_inv t3
      obtain ⟨hl, rk, ws, ss, lk, hrow, hz, hW⟩ := hc
      refine ⟨_, rfl, b, dx, _, rfl, B.ob, bf_no _ _ (by decide +kernel) (by decide +kernel), _, rfl, _, _, _, _, rfl, rfl, SqT.of ht, a1, _, rfl, _, _, _, _, rfl, rfl, SqT.of ht, a2, _, rfl, _, _, _, _, rfl, rfl, SqT.of ht, a3, ?_⟩
      exact ⟨b, am, an, m, n, z, rk, ws, ss, lk, rs, rfl, BA, ham, han, hmo, hm, h60, hl, hrow, hz, hW, k⟩
    | st m n wh =>
      refine iteF ?_
      refine ⟨_, rfl, _, _, _, _, rfl, rfl, SqT.of ht, a0, rfl, _, rfl, ?_⟩
      rw [show decide (V.str (Row.st m n wh).sort = V.str "choice") = false from decide_eq_false fun z => by
        have h1 : ¬ ("strike" : Str) = "choice" := by decide +kernel
        exact h1 (by injection z)]
      refine iteF ?_
      refine ⟨_, rfl, _, _, _, _, rfl, rfl, SqT.of ht, a0, rfl, _, rfl, ?_⟩
      rw [show decide (V.str (Row.st m n wh).sort = V.str "strike") = true from decide_eq_true rfl]
      refine iteT ?_
      obtain ⟨v1, a1, t1⟩ := Tp.at (K := K) (i := 1) (d := mD m) ht rx rfl
      obtain ⟨v2, a2, t2⟩ := Tp.at (K := K) (i := 2) (d := mD n) ht rx rfl
      obtain ⟨v3, a3, t3⟩ := Tp.at (K := K) (i := 3) (d := .bool wh) ht rx rfl
      obtain ⟨am, rfl, ham⟩ := Tp.mo_inv t1
      obtain ⟨an, rfl, han⟩ := Tp.mo_inv t2
      cases t3
      refine ⟨_, rfl, b, dx, _, rfl, B.ob, bf_no _ _ (by decide +kernel) (by decide +kernel), _, rfl, _, _, _, _, rfl, rfl, SqT.of ht, a1, _, rfl, _, _, _, _, rfl, rfl, SqT.of ht, a2, _, rfl, _, _, _, _, rfl, rfl, SqT.of ht, a3, rfl, rfl, ?_⟩
      exact ⟨b, am, an, m, n, wh, rs, rfl, BA, ham, han, hmo, hm, h60, hc.1, hc.2, k⟩
    | ah m n o =>
      refine iteF ?_
      have nch : decide (V.str (Row.ah m n o).sort = V.str "choice") = false := decide_eq_false fun z => by
        have h1 : ¬ ("ahead" : Str) = "choice" := by decide +kernel
        exact h1 (by injection z)
      have nst : decide (V.str (Row.ah m n o).sort = V.str "strike") = false := decide_eq_false fun z => by
        have h1 : ¬ ("ahead" : Str) = "strike" := by decide +kernel
        exact h1 (by injection z)
      refine ⟨_, rfl, _, _, _, _, rfl, rfl, SqT.of ht, a0, rfl, _, rfl, ?_⟩
      rw [nch]
      refine iteF ?_
      refine ⟨_, rfl, _, _, _, _, rfl, rfl, SqT.of ht, a0, rfl, _, rfl, ?_⟩
      rw [nst]
      refine iteF ?_
      obtain ⟨v1, a1, t1⟩ := Tp.at (K := K) (i := 1) (d := mD m) ht rx rfl
      obtain ⟨v2, a2, t2⟩ := Tp.at (K := K) (i := 2) (d := mD n) ht rx rfl
      obtain ⟨v3, a3, t3⟩ := Tp.at (K := K) (i := 3) (d := mD o) ht rx rfl
      obtain ⟨am, rfl, ham⟩ := Tp.mo_inv t1
      obtain ⟨an, rfl, han⟩ := Tp.mo_inv t2
      obtain ⟨ao, rfl, hao⟩ := Tp.mo_inv t3
      obtain ⟨h1, h2, h3, rk, h4, h5⟩ := hc
      refine ⟨_, rfl, b, dx, _, rfl, B.ob, bf_no _ _ (by decide +kernel) (by decide +kernel), _, rfl, _, _, _, _, rfl, rfl, SqT.of ht, a1, _, rfl, _, _, _, _, rfl, rfl, SqT.of ht, a2, _, rfl, _, _, _, _, rfl, rfl, SqT.of ht, a3, ?_⟩
      exact ⟨b, am, an, ao, m, n, o, rk, rs, rfl, BA, ham, han, hao, hmo, hm, h60, h1, h2, h3, h4, h5, k⟩
abbrev s__law_book : Stmt := top 35
theorem sc__law_book : FnScope ["_law_rows", "_law_book_here", "_law_row_here"] ["_law_rows"] (defScope s__law_book) := ⟨rfl, rfl, rfl, by decide +kernel, rfl, by decide +kernel, by decide +kernel⟩
theorem ok__law_book {f : Addr} {fd : FuncData} (F : Fun K "_law_book" "_law_book" s__law_book f fd) (c_Book : C8.Mak P w K mg base 1 "Book" C (spInit C) []) (c__law_tell : C8.Cal P w K mg base 6 "_law_tell" (spTell C) []) : FnOk P w K mg base CX0 7 f fd ["_law_rows"] (spBookOf C) := by
  refine F.ok sc__law_book (fun vs H Q E h => ?_) (fun cdv A outer s H vs Q E hr h => ?_)
  · obtain ⟨a, rs, rfl, _⟩ := h; rfl
  · obtain ⟨a, rs, rfl, ⟨xs, hx, rx⟩, hc, k⟩ := h
    refine ⟨_, (pss_cons (ps_set (i := 1) sc__law_book.nd rfl (Or.inl rfl) (pe_mk0 c_Book hr (by decide) rfl))
      (pss_cons (ps_for PassesOwn.never rfl (pi_list (pv 0)) (pg_name (i := 2) sc__law_book.nd rfl (Or.inl rfl))
      (pss_one (ps_expr (C8.pe_c c__law_tell hr (by decide) rfl (pa_cons (pv 1) (pa_cons (pv 2) pa_nil))))))
      (pss_one (ps_ret (pv 1))))), ?_⟩
    intro b dx nb ndx nex
    have s0 : Same H (upd (upd H dx (.own b)) b (.ins C dx [])) := fun x o e => by
      rw [upd_ne (ne_of_none e nb), upd_ne (ne_of_none e ndx)]; exact e
    refine ⟨b, dx, rfl, upd_same, fun H1 kp B1 => ⟨rfl, ?_⟩⟩
    have s1 : Same H H1 := fun x o e => kp x o (ne_of_none e nb) (s0 x o e)
    refine ⟨_, rfl, a, rfl, ⟨_, SqL.of (s1 _ _ hx)⟩, for_list (K := K) (a := a) (xs := xs) (fun i σ' H' => ∃ v2 : Option V, σ' = [some (.ref a), some (.ref b), v2] ∧ KD H H' ∧ BookAt C H' b (rs.take i))
      ⟨none, rfl, KD.of s1, B1⟩ (fun i σ' H' _ ⟨_, _, kd, _⟩ => SqL.of (kd _ _ (by intro z; exact nofun) hx)) ?_ ?_⟩
    · rintro i x σ2 H2 hi ⟨v2, rfl, kd2, B2⟩
      obtain ⟨d, hd, tx⟩ := rx.getv hi
      rw [List.getElem?_map] at hd
      obtain ⟨r, hr1, rfl⟩ : ∃ r, rs[i]? = some r ∧ d = r.d := by
        cases q : rs[i]? with
        | none => rw [q] at hd; cases hd
        | some r => rw [q] at hd; exact ⟨r, rfl, (Option.some.inj hd).symm⟩
      refine ⟨_, rfl, _, rfl, b, x, r, _, rfl, B2, tx.to kd2.tk, hc i r hr1, fun H3 kd3 B3 => ⟨_, rfl, kd2.trans kd3, ?_⟩⟩
      rw [List.take_add_one, hr1]; exact B3
    · rintro σ2 H2 ⟨v2, rfl, kd2, B2⟩
      rw [rx.len, List.length_map, List.take_length] at B2
      exact ⟨_, rfl, k H2 b kd2 nb B2⟩
abbrev s__law_there : Stmt := top 36
theorem sc__law_there : FnScope ["_law_rows", "_law_until_here", "_law_row_here"] ["_law_rows", "_law_until_here"] (defScope s__law_there) := ⟨rfl, rfl, rfl, by decide +kernel, rfl, by decide +kernel, by decide +kernel⟩
theorem ok__law_there {f : Addr} {fd : FuncData} (F : Fun K "_law_there" "_law_there" s__law_there f fd) : FnOk P w K mg base CX0 1 f fd ["_law_rows", "_law_until_here"] spThereR := by
  refine F.ok sc__law_there (fun vs H Q E h => ?_) (fun cdv A outer s H vs Q E hr h => ?_)
  · obtain ⟨a, v, u, rs, rfl, _⟩ := h; rfl
  · obtain ⟨a, v, u, rs, rfl, ⟨xs, hx, rx⟩, hv, h500, k⟩ := h
    refine ⟨_, (pss_one (ps_ret (pe_lc (own := [("_law_row_here", 2)]) (g := gName 2) rfl sc__law_there.nd (pi_list (pv 0)) (blkOk_by (own := [("_law_row_here", 2)]) (N := ["_law_rows", "_law_until_here", "_law_row_here"]) (sc := defScope s__law_there) (by decide +kernel)) (fun _ _ _ _ _ => pg_name (i := 2) sc__law_there.nd rfl (Or.inl rfl)) (fun _ _ _ _ _ => (pts_one (PW.pt (pw_or (pt_cmpR op_isN (pv 1) pe_non (nomark _)) (pw_or1 (pt_cmpR (op_leTK K hr.units0) (pe_ix (ix_tupK K) (pv 2) pe_int (fun _ _ => rfl)) (pv 1) (nomark _))))))) (fun _ _ _ _ _ => (pv 2))))), ?_⟩
    refine ⟨_, rfl, a, rfl, ⟨_, SqL.of hx⟩, fun D hD => ?_⟩
    refine lc_list (K := K) (a := a) (xs := xs) (fun i H' => Same H H' ∧ Ls H' D (((rs.take i).filter fun r => upB r.mo u).map Row.d))
      ⟨Same.new hD, [], upd_same, by rw [List.take_zero]; exact .nil⟩ (fun i H' _ q => SqL.of (q.1 _ _ hx)) ?_ ?_
    · rintro i x H1 hi ⟨s1, ys, hy, ry⟩
      obtain ⟨d, hd, tx⟩ := rx.getv hi
      rw [List.getElem?_map] at hd
      obtain ⟨r, hr1, rfl⟩ : ∃ r, rs[i]? = some r ∧ d = r.d := by
        cases q : rs[i]? with
        | none => rw [q] at hd; cases hd
        | some r => rw [q] at hd; exact ⟨r, rfl, (Option.some.inj hd).symm⟩
      have hir : i < rs.length := (List.getElem?_eq_some_iff.mp hr1).1
      obtain ⟨t, zs, rfl, ht, rz⟩ := Tp.inv (tx.to (TK.of s1))
      obtain ⟨v1, a1, t1⟩ := Tp.at (K := K) ht rz r.ds1
      obtain ⟨am, rfl, ham⟩ := Tp.mo_inv t1
      have hyl : ys.length ≤ 500 := by rw [ry.len, List.length_map]; have := List.length_filter_le (fun r => upB (Row.mo r) u) (rs.take i); rw [List.length_take] at this; omega
      have step : ((rs.take (i + 1)).filter fun r => upB r.mo u) = ((rs.take i).filter fun r => upB r.mo u) ++ (if upB r.mo u = true then [r] else []) := by
        rw [List.take_add_one, hr1, List.filter_append]
        congr 1
        by_cases q : upB r.mo u = true
        · simp [q]
        · simp [q]
      have yes : upB r.mo u = true → ∃ acc, H1 D = some (.lst acc) ∧ acc.length < sizeLine ∧ Same H (upd H1 D (.lst (acc ++ [.ref t]))) ∧ Ls (upd H1 D (.lst (acc ++ [.ref t]))) D (((rs.take (i + 1)).filter fun r => upB r.mo u).map Row.d) := fun q =>
        ⟨ys, hy, small1000 (by omega), fun b o e => by rw [upd_ne (ne_of_none e hD)]; exact s1 _ _ e, _, upd_same, by
          rw [step, if_pos q, List.map_append]
          have tk : TK H1 (upd H1 D (.lst (ys ++ [.ref t]))) := TK.put hy (by intro z; exact nofun)
          exact (ry.to tk).snoc ((tx.to (TK.of s1)).to tk)⟩
      have no : ¬ upB r.mo u = true → Same H H1 ∧ Ls H1 D (((rs.take (i + 1)).filter fun r => upB r.mo u).map Row.d) := fun q =>
        ⟨s1, ys, hy, by rw [step, if_neg q, List.append_nil]; exact ry⟩
      cases u with
      | none =>
        cases (show v = .non from hv)
        exact ⟨rfl, _, rfl, rfl, _, rfl, iteT (iteT ⟨_, rfl, yes rfl⟩)⟩
      | some u =>
        obtain ⟨b, rfl, hb⟩ := hv
        refine ⟨rfl, _, rfl, rfl, _, rfl, iteF ?_⟩
        refine ⟨_, rfl, _, _, _, _, rfl, rfl, SqT.of ht, a1, _, rfl, am, b, [r.mo.1, r.mo.2], [u.1, u.2], rfl, rfl, SqT.of ham, SqT.of (s1 _ _ hb), _, rfl, ?_⟩
        rw [lex2]
        show if upB r.mo (some u) = true then _ else _
        refine ite2 (fun q => ?_) (fun q => ?_)
        · exact ⟨_, rfl, yes q⟩
        · exact no q
    · rintro H1 ⟨s1, ls⟩
      rw [rx.len, List.length_map, List.take_length] at ls
      exact k H1 D s1 hD ls
end
end KN

set_option Elab.async false
set_option linter.all false
set_option maxRecDepth 100000
set_option maxHeartbeats 4000000
namespace KN
open PySem L2
theorem cut_to {xs : List V} (k : Nat) : cutV xs none (some (k : Int)) = xs.take k := by
  unfold cutV
  rw [HT.sIx_none, HT.sIx_nat, List.drop_zero, Nat.sub_zero]
  rcases Nat.le_total k xs.length with h | h
  · rw [Nat.min_eq_left h]
  · rw [Nat.min_eq_right h, List.take_length, List.take_of_length_le h]
theorem cut_from {xs : List V} (k : Nat) : cutV xs (some (k : Int)) none = xs.drop k := by
  unfold cutV
  rw [HT.sIx_none, HT.sIx_nat]
  rcases Nat.le_total k xs.length with h | h
  · rw [Nat.min_eq_left h]; exact List.take_of_length_le (by rw [List.length_drop]; omega)
  · rw [Nat.min_eq_right h, Nat.sub_self, List.take_zero, List.drop_eq_nil_of_le h]
def spUntil : Sp := fun vs H Q _ => ∃ (p c : Addr) (b : Int) (a : Addr) (rs : List Row), vs = [.ref p, .ref a] ∧ Pen H p c b ∧ b ≤ 1000000000 ∧ Ls H a (rs.map Row.d) ∧ rs ≠ [] ∧ rs.length ≤ 500 ∧ ∀ H' v u, Kp p H H' → Pen H' p c (b + 2) → UpV H' v u → Q v H'
theorem pick_yes {α : Type} {H1 H' : Hp} {D : Addr} {Y : List α} {p : α → Bool} {g : α → PyData} {i : Nat} {r : α} {v : V} (hD : H1 D = none) (hl : Y.length ≤ 900) (P : Same H1 H' ∧ Ls H' D (((Y.take i).filter p).map g)) (hr : Y[i]? = some r) (q : p r = true) (tv : Tp H' v (g r)) :
    ∃ acc, H' D = some (.lst acc) ∧ acc.length < sizeLine ∧ (Same H1 (upd H' D (.lst (acc ++ [v]))) ∧ Ls (upd H' D (.lst (acc ++ [v]))) D (((Y.take (i + 1)).filter p).map g)) := by
  obtain ⟨s, xs, hx, rx⟩ := P
  have hxl : xs.length ≤ 900 := by rw [rx.len, List.length_map]; have := List.length_filter_le p (Y.take i); have := List.length_take_le' i Y; omega
  refine ⟨xs, hx, small1000 (by omega), fun c o ec => by rw [upd_ne (ne_of_none ec hD)]; exact s _ _ ec, _, upd_same, ?_⟩
  rw [filter_step hr, if_pos q, List.map_append]
  have tk : TK H' (upd H' D (.lst (xs ++ [v]))) := TK.put hx (by intro z; exact nofun)
  exact (rx.to tk).snoc (tv.to tk)
theorem pick_no {α : Type} {H1 H' : Hp} {D : Addr} {Y : List α} {p : α → Bool} {g : α → PyData} {i : Nat} {r : α} (P : Same H1 H' ∧ Ls H' D (((Y.take i).filter p).map g)) (hr : Y[i]? = some r) (q : ¬ p r = true) :
    Same H1 H' ∧ Ls H' D (((Y.take (i + 1)).filter p).map g) := by
  obtain ⟨s, xs, hx, rx⟩ := P
  exact ⟨s, xs, hx, by rw [filter_step hr, if_neg q, List.append_nil]; exact rx⟩
theorem pick_zero {α : Type} {H1 : Hp} {D : Addr} {Y : List α} {p : α → Bool} {g : α → PyData} (hD : H1 D = none) : Same H1 (upd H1 D (.lst [])) ∧ Ls (upd H1 D (.lst [])) D (((Y.take 0).filter p).map g) :=
  ⟨Same.new hD, [], upd_same, by rw [List.take_zero]; exact .nil⟩
/-- the data of a list, one by one -/
theorem data_at {α : Type} {H : Hp} {xs : List V} {Y : List α} {g : α → PyData} {i : Nat} {x : V} (rx : TpAll H xs (Y.map g)) (hi : xs[i]? = some x) : ∃ r, Y[i]? = some r ∧ Tp H x (g r) := by
  obtain ⟨d, hd, tx⟩ := rx.getv hi
  rw [List.getElem?_map] at hd
  cases q : Y[i]? with
  | none => rw [q] at hd; cases hd
  | some r => rw [q] at hd; cases hd; exact ⟨r, rfl, tx⟩
def stOf (n : Mo) : Row → Bool
  | .st _ q _ => decide (q = n)
  | _ => false
def strikesL (rs : List Row) (n : Mo) (u : Option Mo) (ow : Bool) : List Row := (rs.filter fun r => upB r.mo u).filter fun r => stOf n r && (wholeB r || !ow)
def spRowOf : Sp := fun vs H Q _ => ∃ (a an : Addr) (r : Row) (rs : List Row), vs = [.ref a, .ref an] ∧ Ls H a (rs.map Row.d) ∧ H an = some (.tup [.int r.mo.1, .int r.mo.2]) ∧ r ∈ rs ∧ (rs.map Row.mo).Nodup ∧ rs.length ≤ 500 ∧ ∀ H' x, Same H H' → Tp H' x r.d → Q x H'
def spStrikesL : Sp := fun vs H Q _ => ∃ (a an : Addr) (n : Mo) (v : V) (u : Option Mo) (ow : Bool) (rs : List Row), vs = [.ref a, .ref an, v, .bl ow] ∧ Ls H a (rs.map Row.d) ∧ H an = some (.tup [.int n.1, .int n.2]) ∧ UpV H v u ∧ rs.length ≤ 500 ∧
  ∀ (H' : Hp) (l : Addr), Same H H' → H l = none → Ls H' l ((strikesL rs n u ow).map fun r => mD r.mo) → Q (.ref l) H'
def rankL (rs : List Row) (rk : Int) (u : Option Mo) : List Row := (rs.filter fun r => upB r.mo u).filter (rankB (some rk))
def spOfRank : Sp := fun vs H Q _ => ∃ (a : Addr) (rk : Int) (v : V) (u : Option Mo) (rs : List Row), vs = [.ref a, .int rk, v] ∧ Ls H a (rs.map Row.d) ∧ UpV H v u ∧ rs.length ≤ 500 ∧
  ∀ (H' : Hp) (l : Addr), Same H H' → H l = none → Ls H' l ((rankL rs rk u).map fun r => mD r.mo) → Q (.ref l) H'
theorem one_row {rs : List Row} (nd : (rs.map Row.mo).Nodup) {r : Row} (h : r ∈ rs) : rs.filter (fun x => decide (x.mo = r.mo)) = [r] := by
  induction rs with
  | nil => cases h
  | cons x rs ih =>
    rw [List.map_cons, List.nodup_cons] at nd
    rcases List.mem_cons.mp h with rfl | h
    · rw [List.filter_cons_of_pos (by simp)]
      congr 1
      exact List.filter_eq_nil_iff.mpr fun y hy z => nd.1 (by rw [← of_decide_eq_true z]; exact List.mem_map.mpr ⟨y, hy, rfl⟩)
    · rw [List.filter_cons_of_neg (by
        rw [decide_eq_true_eq]; intro z
        exact nd.1 (by rw [z]; exact List.mem_map.mpr ⟨r, h, rfl⟩))]
      exact ih nd.2 h
def takersL (rs : List Row) (rk : Int) (u : Option Mo) (n : Mo) (ws : List Str) : List Row := (rankL rs rk u).filter (takes rs u n ws)
def spTakersL : Sp := fun vs H Q _ => ∃ (a an : Addr) (n : Mo) (rk : Int) (ws ss : List Str) (lk : Option Mo) (v : V) (u : Option Mo) (rs : List Row), vs = [.ref a, .ref an, v] ∧ Ls H a (rs.map Row.d) ∧ H an = some (.tup [.int n.1, .int n.2]) ∧ Row.nm n rk ws ss lk ∈ rs ∧ UpV H v u ∧ rs.length ≤ 500 ∧ (rs.map Row.mo).Nodup ∧ (∀ r ∈ rs, RowW r) ∧
  ∀ (H' : Hp) (l : Addr), Same H H' → H l = none → Ls H' l ((takersL rs rk u n ws).map fun r => mD r.mo) → Q (.ref l) H'
/-- no whole strike, told two ways -/
theorem strikes_nil {rs : List Row} {u : Option Mo} {m : Mo} : strikesL rs m u true = [] ↔ wholeB' rs u m = false := by
  unfold strikesL wholeB'
  rw [List.filter_filter, List.filter_eq_nil_iff, List.any_eq_false]
  refine forall_congr' fun r => forall_congr' fun hr => not_congr ?_
  have e : (stOf m r && (wholeB r || !true) && upB r.mo u) = (decide (m ∈ r.names) && (upB r.mo u && wholeB r)) := by
    cases r with
    | st q x wh =>
      show (decide (x = m) && (wh || false) && upB q u) = (decide (m ∈ [x]) && (upB q u && wh))
      by_cases h : x = m
      · rw [decide_eq_true h, decide_eq_true (by rw [h]; exact List.mem_singleton.mpr rfl)]
        cases wh <;> cases upB q u <;> rfl
      · rw [decide_eq_false h, decide_eq_false (fun z => h (List.mem_singleton.mp z).symm)]; rfl
    | nm q x y z t => show (false && _ && _) = (_ && (_ && false)); simp
    | ch q x y => show (false && _ && _) = (_ && (_ && false)); simp
    | ah q x y => show (false && _ && _) = (_ && (_ && false)); simp
  rw [e]
theorem mo_nil {α : Type} (Y : List α) (g : α → Mo) : PyData.eqv (.list (Y.map fun r => mD (g r))) (.list []) = decide (Y = []) := by
  cases Y with
  | nil => rfl
  | cons x xs => simp [PyData.eqv, PyData.eqvAll]
section
variable {P : Program} {w : World} {K : PySem.W.Frag} {mg : Str → Option Value} {base : Heap} {C : Addr}
abbrev s__law_until : Stmt := top 41
theorem sc__law_until : FnScope ["_law_pen_here", "_law_rows", "_law_moment"] ["_law_pen_here", "_law_rows"] (defScope s__law_until) := ⟨rfl, rfl, rfl, by decide +kernel, rfl, by decide +kernel, by decide +kernel⟩
theorem ok__law_until {f : Addr} {fd : FuncData} (F : Fun K "_law_until" "_law_until" s__law_until f fd) (m_len : mg "len" = none) (c__law_draw : C8.Cal P w K mg base 1 "_law_draw" spDraw []) : FnOk P w K mg base CX0 2 f fd ["_law_pen_here", "_law_rows"] spUntil := by
  refine F.ok sc__law_until (fun vs H Q E h => ?_) (fun cdv A outer s H vs Q E hr h => ?_)
  · obtain ⟨p, c, b, a, rs, rfl, _⟩ := h; rfl
  · obtain ⟨p, c, b, a, rs, rfl, pen, hb, ⟨xs, hx, rx⟩, hne, h500, k⟩ := h
    refine ⟨_, (pss_cons (ps_set (i := 2) sc__law_until.nd rfl (Or.inl rfl) (pe_ix ix_tup (pe_ix ix_list (pv 1) (C8.pe_c c__law_draw hr (by decide) rfl (pa_cons (pv 0) (pa_cons (pe_callB call_len_seq (by rfl) m_len (by decide +kernel) (pa_cons (pv 1) pa_nil)) pa_nil))) (fun _ _ => rfl)) pe_int (fun _ _ => rfl)))
      (pss_one (ps_ret (pe_ix ix_list (pe_lst (pa_cons pe_non (pa_cons (pv 2) (pa_cons (pe_tup (pa_cons (pe_ix ix_tup (pv 2) pe_int (fun _ _ => rfl)) (pa_cons (pe_op op_sub (pe_ix ix_tup (pv 2) pe_int (fun _ _ => rfl)) pe_int) pa_nil))) (pa_cons (pe_tup (pa_cons (pe_op op_add (pe_ix ix_tup (pv 2) pe_int (fun _ _ => rfl)) pe_int) (pa_cons pe_int pa_nil))) pa_nil))))) (C8.pe_c c__law_draw hr (by decide) rfl (pa_cons (pv 0) (pa_cons pe_int pa_nil))) (fun _ _ => rfl))))), ?_⟩
    have hxl : xs.length = rs.length := by rw [rx.len, List.length_map]
    have hpos : 0 < rs.length := List.length_pos_iff.mpr hne
    have nap := pen.ne hx
    refine ⟨_, rfl, _, rfl, _, rfl, _, _, rfl, .inl (SqL.of hx), p, c, b, _, rfl, pen, by omega, by omega, by omega, fun H1 r1 k1 pen1 r10 r11 => ?_⟩
    have hx1 := k1 _ _ nap hx
    obtain ⟨x, ex, ex'⟩ := atI_in (xs := xs) r10 (by omega)
    refine ⟨a, _, _, _, rfl, rfl, SqL.of hx1, ex, ?_⟩
    obtain ⟨d, hd, tx⟩ := rx.getv ex'
    rw [List.getElem?_map] at hd
    obtain ⟨r, hr1, rfl⟩ : ∃ r, rs[r1.toNat]? = some r ∧ d = r.d := by
      cases q : rs[r1.toNat]? with
      | none => rw [q] at hd; cases hd
      | some r => rw [q] at hd; exact ⟨r, rfl, (Option.some.inj hd).symm⟩
    obtain ⟨t, ys, rfl, ht, ry⟩ := Tp.inv (tx.to (pen.tk k1))
    obtain ⟨v1, a1, t1⟩ := Tp.at (K := K) ht ry r.ds1
    obtain ⟨am, rfl, ham⟩ := Tp.mo_inv t1
    refine ⟨t, _, _, _, rfl, rfl, SqT.of ht, a1, ?_⟩
    -- the four pairs
    refine ⟨_, rfl, _, rfl, _, _, _, _, rfl, rfl, SqT.of ham, at_of (j := 0) rfl rfl, _, rfl, _, _, _, _, rfl, rfl, SqT.of ham, at_of (j := 1) rfl rfl, _, _, rfl, rfl, by show 2 ≤ sizeLine; decide, fun t1 ht1 => ?_⟩
    have s2 : Same H1 (upd H1 t1 (.tup [.int r.mo.1, .int (r.mo.2 - 1)])) := Same.new ht1
    refine ⟨_, rfl, _, _, _, _, rfl, rfl, SqT.of (s2 _ _ ham), at_of (j := 0) rfl rfl, _, _, rfl, rfl, by show 2 ≤ sizeLine; decide, fun t2 ht2 => ?_⟩
    have s3 : Same H1 (upd (upd H1 t1 (.tup [.int r.mo.1, .int (r.mo.2 - 1)])) t2 (.tup [.int (r.mo.1 + 1), .int 0])) := s2.trans (Same.new ht2)
    refine ⟨by show 4 ≤ sizeLine; decide, fun L hL => ?_⟩
    have s4 : Same H1 (upd (upd (upd H1 t1 (.tup [.int r.mo.1, .int (r.mo.2 - 1)])) t2 (.tup [.int (r.mo.1 + 1), .int 0])) L (.lst [.non, .ref am, .ref t1, .ref t2])) := s3.trans (Same.new hL)
    have n12 : t1 ≠ t2 := fun z => by subst z; rw [upd_same] at ht2; cases ht2
    have nL1 : t1 ≠ L := fun z => by subst z; rw [upd_ne n12, upd_same] at hL; cases hL
    have nL2 : t2 ≠ L := fun z => by subst z; rw [upd_same] at hL; cases hL
    have penL := pen1.to s4
    refine ⟨_, rfl, p, c, _, 4, rfl, penL, by omega, by decide, by decide, fun H5 r5 k5 pen5 r50 r51 => ?_⟩
    have nLp : L ≠ p := penL.ne upd_same
    have k15 : Kp p H1 H5 := (Kp.of s4).trans k5
    have h1 : H5 t1 = some (.tup [.int r.mo.1, .int (r.mo.2 - 1)]) := penL.tk k5 _ _ (by rw [upd_ne nL1, upd_ne n12, upd_same])
    have h2 : H5 t2 = some (.tup [.int (r.mo.1 + 1), .int 0]) := penL.tk k5 _ _ (by rw [upd_ne nL2, upd_same])
    have h3 : H5 am = some (.tup [.int r.mo.1, .int r.mo.2]) := penL.tk k5 _ _ (s4 _ _ ham)
    have fin : ∀ v u, UpV H5 v u → Q v H5 := fun v u hu => k H5 v u (k1.trans k15) (pen5.up (by omega)) hu
    have : r5 = 0 ∨ r5 = 1 ∨ r5 = 2 ∨ r5 = 3 := by omega
    rcases this with rfl | rfl | rfl | rfl
    · exact ⟨L, _, _, _, rfl, rfl, SqL.of (k5 _ _ nLp upd_same), at_of (j := 0) rfl rfl, fin _ none rfl⟩
    · exact ⟨L, _, _, _, rfl, rfl, SqL.of (k5 _ _ nLp upd_same), at_of (j := 1) rfl rfl, fin _ (some r.mo) ⟨_, rfl, h3⟩⟩
    · exact ⟨L, _, _, _, rfl, rfl, SqL.of (k5 _ _ nLp upd_same), at_of (j := 2) rfl rfl, fin _ (some (r.mo.1, r.mo.2 - 1)) ⟨_, rfl, h1⟩⟩
    · exact ⟨L, _, _, _, rfl, rfl, SqL.of (k5 _ _ nLp upd_same), at_of (j := 3) rfl rfl, fin _ (some (r.mo.1 + 1, 0)) ⟨_, rfl, h2⟩⟩
abbrev s__law_row : Stmt := top 37
theorem sc__law_row : FnScope ["_law_rows", "_law_name", "_law_row_here"] ["_law_rows", "_law_name"] (defScope s__law_row) := ⟨rfl, rfl, rfl, by decide +kernel, rfl, by decide +kernel, by decide +kernel⟩
theorem ok__law_row {f : Addr} {fd : FuncData} (F : Fun K "_law_row" "_law_row" s__law_row f fd) : FnOk P w K mg base CX0 1 f fd ["_law_rows", "_law_name"] spRowOf := by
  refine F.ok sc__law_row (fun vs H Q E h => ?_) (fun cdv A outer s H vs Q E hr h => ?_)
  · obtain ⟨a, an, r, rs, rfl, _⟩ := h; rfl
  · obtain ⟨a, an, r, rs, rfl, ⟨xs, hx, rx⟩, han, hrs, nd, h500, k⟩ := h
    refine ⟨_, (pss_one (ps_ret (pe_ix ix_list (pe_lc (own := [("_law_row_here", 2)]) (g := gName 2) rfl sc__law_row.nd (pi_list (pv 0)) (blkOk_by (own := [("_law_row_here", 2)]) (N := ["_law_rows", "_law_name", "_law_row_here"]) (sc := defScope s__law_row) (by decide +kernel)) (fun _ _ _ _ _ => pg_name (i := 2) sc__law_row.nd rfl (Or.inl rfl)) (fun _ _ _ _ _ => (pts_one (pt_cmpR (op_eqDK K hr.units) (pe_ix (ix_tupK K) (pv 2) pe_int (fun _ _ => rfl)) (pv 1) (nomark _)))) (fun _ _ _ _ _ => (pv 2))) pe_int (fun _ _ => rfl)))), ?_⟩
    have hxl : xs.length = rs.length := by rw [rx.len, List.length_map]
    refine ⟨_, rfl, a, rfl, ⟨_, SqL.of hx⟩, fun D hD => ?_⟩
    refine lc_list (K := K) (a := a) (xs := xs) (fun i H' => Same H H' ∧ Ls H' D (((rs.take i).filter fun x => decide (x.mo = r.mo)).map Row.d)) (pick_zero hD) (fun i H' _ q => SqL.of (q.1 _ _ hx)) ?_ ?_
    · rintro i x H' hi Pi
      obtain ⟨r2, hr2, t0⟩ := data_at rx hi
      have t1 := t0.to (TK.of Pi.1)
      obtain ⟨t, ys, rfl, ht, ry⟩ := Tp.inv (id t1)
      obtain ⟨v1, a1, tm⟩ := Tp.at (K := K) ht ry r2.ds1
      obtain ⟨am, rfl, ham⟩ := Tp.mo_inv tm
      refine ⟨rfl, _, rfl, _, _, _, _, rfl, rfl, SqT.of ht, a1, _, rfl, _, _, (Tp.mo ham).d, (Tp.mo (Pi.1 _ _ han)).d, shaped_m _, shaped_m _, _, rfl, ?_⟩
      rw [eqv_m]
      refine ite2 (fun q => ?_) (fun q => ?_)
      · exact ⟨_, rfl, pick_yes hD (by omega) Pi hr2 q t1⟩
      · exact pick_no Pi hr2 q
    · rintro H' ⟨s1, ys, hy, ry⟩
      rw [hxl, List.take_length, one_row nd hrs] at ry
      cases ry with
      | cons t0 rest =>
        cases rest
        exact ⟨D, _, _, _, rfl, rfl, SqL.of hy, at_of (j := 0) rfl rfl, k H' _ s1 t0⟩
abbrev s__law_strikes : Stmt := top 38
theorem sc__law_strikes : FnScope ["_law_rows", "_law_name", "_law_until_here", "_law_only_whole", "_law_some", "_law_row_here"] ["_law_rows", "_law_name", "_law_until_here", "_law_only_whole"] (defScope s__law_strikes) := ⟨rfl, rfl, rfl, by decide +kernel, rfl, by decide +kernel, by decide +kernel⟩
theorem ok__law_strikes {f : Addr} {fd : FuncData} (F : Fun K "_law_strikes" "_law_strikes" s__law_strikes f fd) (c__law_there : C8.Cal P w K mg base 1 "_law_there" spThereR []) : FnOk P w K mg base CX0 2 f fd ["_law_rows", "_law_name", "_law_until_here", "_law_only_whole"] spStrikesL := by
  refine F.ok sc__law_strikes (fun vs H Q E h => ?_) (fun cdv A outer s H vs Q E hr h => ?_)
  · obtain ⟨a, an, n, v, u, ow, rs, rfl, _⟩ := h; rfl
  · obtain ⟨a, an, n, v, u, ow, rs, rfl, hls, han, hv, h500, k⟩ := h
    refine ⟨_, (pss_cons (ps_setLc (i := 4) (own := [("_law_row_here", 5)]) (g := gName 5) rfl sc__law_strikes.nd rfl rfl (sw_true rfl rfl rfl (by decide +kernel)) (pi_list (C8.pe_c c__law_there hr (by decide) rfl (pa_cons (pv 0) (pa_cons (pv 2) pa_nil)))) (blkOk_by (own := [("_law_row_here", 5)]) (N := ["_law_rows", "_law_name", "_law_until_here", "_law_only_whole", "_law_some", "_law_row_here"]) (sc := defScope s__law_strikes) (by decide +kernel)) (fun _ _ _ _ _ => pg_name (i := 5) sc__law_strikes.nd rfl (Or.inl rfl)) (fun _ _ _ _ _ => (pts_one (PW.pt (pw_and (pt_cmpR op_eq (pe_ix (ix_tupK K) (pv 5) pe_int (fun _ _ => rfl)) pe_str (nomark _)) (pw_and1 (pt_cmpR (op_eqDK K hr.units) (pe_ix (ix_tupK K) (pv 5) pe_int (fun _ _ => rfl)) (pv 1) (nomark _))))))) (fun _ _ _ _ _ => (pv 5)))
      (pss_one (ps_ret (pe_lc (own := [("_law_row_here", 5)]) (g := gName 5) rfl sc__law_strikes.nd (pi_list (pv 4)) (blkOk_by (own := [("_law_row_here", 5)]) (N := ["_law_rows", "_law_name", "_law_until_here", "_law_only_whole", "_law_some", "_law_row_here"]) (sc := defScope s__law_strikes) (by decide +kernel)) (fun _ _ _ _ _ => pg_name (i := 5) sc__law_strikes.nd rfl (Or.inl rfl)) (fun _ _ _ _ _ => (pts_one (PW.pt (pw_or (pt_val (pe_ix (ix_tupK K) (pv 5) pe_int (fun _ _ => rfl))) (pw_or1 (pt_not (pt_val (pv 3)))))))) (fun _ _ _ _ _ => (pe_ix (ix_tupK K) (pv 5) pe_int (fun _ _ => rfl))))))), ?_⟩
    refine ⟨_, rfl, _, rfl, a, v, u, rs, rfl, hls, hv, h500, fun H1 l s1 l0 ⟨xs, hx, rx⟩ => ?_⟩
    have hU : (rs.filter fun r => upB r.mo u).length ≤ 500 := Nat.le_trans (List.length_filter_le _ _) h500
    have fin : ∀ H' D, Same H1 H' → H1 D = none → Ls H' D ((((rs.filter fun r => upB r.mo u).filter (stOf n)).filter fun r => wholeB r || !ow).map fun r => mD r.mo) → Q (.ref D) H' := fun H' D s2 hD ls => k H' D (s1.trans s2) (s1.free hD) (by
      unfold strikesL
      rw [List.filter_filter] at ls
      rw [show (fun r => stOf n r && (wholeB r || !ow)) = fun r => (wholeB r || !ow) && stOf n r from funext fun r => Bool.and_comm _ _]; exact ls)
    generalize (rs.filter fun r => upB r.mo u) = U at rx hU fin
    have hxl : xs.length = U.length := by rw [rx.len, List.length_map]
    refine ⟨l, rfl, ⟨_, SqL.of hx⟩, fun D hD => ?_⟩
    refine lc_list (K := K) (a := l) (xs := xs) (fun i H' => Same H1 H' ∧ Ls H' D (((U.take i).filter (stOf n)).map Row.d)) (pick_zero hD) (fun i H' _ q => SqL.of (q.1 _ _ hx)) ?_ ?_
    · rintro i x H' hi Pi
      obtain ⟨r2, hr2, t0⟩ := data_at rx hi
      have t1 := t0.to (TK.of Pi.1)
      obtain ⟨t, ys, rfl, ht, ry⟩ := Tp.inv (id t1)
      obtain ⟨v0, a0, t0'⟩ := Tp.at (K := K) ht ry r2.ds0
      cases Tp.str_inv t0'
      refine ⟨rfl, _, rfl, _, _, _, _, rfl, rfl, SqT.of ht, a0, rfl, _, rfl, ?_⟩
      have nos : (r2.sort = ("strike" : Str) → False) → stOf n r2 = false := fun h => by
        cases r2 with
        | st => exact (h rfl).elim
        | _ => rfl
      rw [sort_dec]
      refine ite2 (fun q => ?_) (fun q => pick_no Pi hr2 (by rw [nos fun z => q (decide_eq_true z)]; decide))
      cases r2 with
      | st m q2 wh =>
        obtain ⟨v2, a2, t2⟩ := Tp.at (K := K) (i := 2) (d := mD q2) ht ry rfl
        obtain ⟨aq, rfl, haq⟩ := Tp.mo_inv t2
        refine ⟨_, rfl, _, _, _, _, rfl, rfl, SqT.of ht, a2, _, rfl, _, _, (Tp.mo haq).d, (Tp.mo (Pi.1 _ _ (s1 _ _ han))).d, shaped_m _, shaped_m _, _, rfl, ?_⟩
        rw [eqv_m]
        refine ite2 (fun y => ?_) (fun y => ?_)
        · exact ⟨_, rfl, pick_yes hD (by omega) Pi hr2 y t1⟩
        · exact pick_no Pi hr2 y
      | nm => exact absurd (of_decide_eq_true q) (by show ¬ ("name" : Str) = "strike"; decide +kernel)
      | ch => exact absurd (of_decide_eq_true q) (by show ¬ ("choice" : Str) = "strike"; decide +kernel)
      | ah => exact absurd (of_decide_eq_true q) (by show ¬ ("ahead" : Str) = "strike"; decide +kernel)
    rintro H2 ⟨s2, zs, hz, rz⟩
    rw [hxl, List.take_length] at rz
    have allst : ∀ r ∈ U.filter (stOf n), ∃ m q wh, r = Row.st m q wh := fun r h => by
      have h2 := (List.mem_filter.mp h).2
      cases r with
      | st m q wh => exact ⟨m, q, wh, rfl⟩
      | _ => cases h2
    have hY : (U.filter (stOf n)).length ≤ 500 := Nat.le_trans (List.length_filter_le _ _) hU
    have fin2 := fun H' D2 (s4 : Same H2 H') (h : H2 D2 = none) => fin H' D2 (s2.trans s4) (s2.free h)
    generalize (U.filter (stOf n)) = Y at rz fin2 allst hY
    have hzl : zs.length = Y.length := by rw [rz.len, List.length_map]
    refine ⟨_, rfl, D, rfl, ⟨_, SqL.of hz⟩, fun D2 hD2 => ?_⟩
    refine lc_list (K := K) (a := D) (xs := zs) (fun i H' => Same H2 H' ∧ Ls H' D2 (((Y.take i).filter fun r => wholeB r || !ow).map fun r => mD r.mo)) (pick_zero hD2) (fun i H' _ q => SqL.of (q.1 _ _ hz)) ?_ ?_
    · rintro i x H' hi Pi
      obtain ⟨r2, hr2, t0⟩ := data_at rz hi
      obtain ⟨m, q2, wh, rfl⟩ := allst r2 (List.mem_of_getElem? hr2)
      obtain ⟨t, ys, rfl, ht, ry⟩ := Tp.inv (t0.to (TK.of Pi.1))
      obtain ⟨v1, a1, tm⟩ := Tp.at (K := K) (i := 1) (d := mD m) ht ry rfl
      obtain ⟨v3, a3, t3⟩ := Tp.at (K := K) (i := 3) (d := .bool wh) ht ry rfl
      cases t3
      refine ⟨rfl, _, rfl, _, _, _, _, rfl, rfl, SqT.of ht, a3, _, rfl, ?_⟩
      have e : wholeB (Row.st m q2 wh) = wh := rfl
      have yes : (wh || !ow) = true → ∃ acc, H' D2 = some (.lst acc) ∧ acc.length < sizeLine ∧ (Same H2 (upd H' D2 (.lst (acc ++ [v1]))) ∧ Ls (upd H' D2 (.lst (acc ++ [v1]))) D2 (((Y.take (i + 1)).filter fun r => wholeB r || !ow).map fun r => mD r.mo)) := fun y => pick_yes hD2 (by omega) Pi hr2 (by show (wholeB (Row.st m q2 wh) || !ow) = true; rw [e]; exact y) tm
      cases wh with
      | true => exact iteT (iteT ⟨_, rfl, _, _, _, _, rfl, rfl, SqT.of ht, a1, yes rfl⟩)
      | false =>
        refine iteF ⟨_, rfl, _, rfl, ?_⟩
        cases ow with
        | true => exact iteF (pick_no Pi hr2 (by simp [wholeB]))
        | false => exact iteT ⟨_, rfl, _, _, _, _, rfl, rfl, SqT.of ht, a1, yes rfl⟩
    · rintro H' ⟨s3, ls⟩
      rw [hzl, List.take_length] at ls
      exact fin2 H' D2 s3 hD2 ls
abbrev s__law_of_rank : Stmt := top 39
theorem sc__law_of_rank : FnScope ["_law_rows", "_law_level", "_law_until_here", "_law_row_here"] ["_law_rows", "_law_level", "_law_until_here"] (defScope s__law_of_rank) := ⟨rfl, rfl, rfl, by decide +kernel, rfl, by decide +kernel, by decide +kernel⟩
theorem ok__law_of_rank {f : Addr} {fd : FuncData} (F : Fun K "_law_of_rank" "_law_of_rank" s__law_of_rank f fd) (c__law_there : C8.Cal P w K mg base 1 "_law_there" spThereR []) : FnOk P w K mg base CX0 2 f fd ["_law_rows", "_law_level", "_law_until_here"] spOfRank := by
  refine F.ok sc__law_of_rank (fun vs H Q E h => ?_) (fun cdv A outer s H vs Q E hr h => ?_)
  · obtain ⟨a, rk, v, u, rs, rfl, _⟩ := h; rfl
  · obtain ⟨a, rk, v, u, rs, rfl, hls, hv, h500, k⟩ := h
    refine ⟨_, (pss_one (ps_ret (pe_lc (own := [("_law_row_here", 3)]) (g := gName 3) rfl sc__law_of_rank.nd (pi_list (C8.pe_c c__law_there hr (by decide) rfl (pa_cons (pv 0) (pa_cons (pv 2) pa_nil)))) (blkOk_by (own := [("_law_row_here", 3)]) (N := ["_law_rows", "_law_level", "_law_until_here", "_law_row_here"]) (sc := defScope s__law_of_rank) (by decide +kernel)) (fun _ _ _ _ _ => pg_name (i := 3) sc__law_of_rank.nd rfl (Or.inl rfl)) (fun _ _ _ _ _ => (pts_one (PW.pt (pw_and (pt_cmpR op_eq (pe_ix (ix_tupK K) (pv 3) pe_int (fun _ _ => rfl)) pe_str (nomark _)) (pw_and1 (pt_cmpR op_eq (pe_ix (ix_tupK K) (pv 3) pe_int (fun _ _ => rfl)) (pv 1) (nomark _))))))) (fun _ _ _ _ _ => (pe_ix (ix_tupK K) (pv 3) pe_int (fun _ _ => rfl)))))), ?_⟩
    refine ⟨_, rfl, _, rfl, a, v, u, rs, rfl, hls, hv, h500, fun H1 l s1 l0 ⟨xs, hx, rx⟩ => ?_⟩
    have hU : (rs.filter fun r => upB r.mo u).length ≤ 500 := Nat.le_trans (List.length_filter_le _ _) h500
    have fin : ∀ H' D, Same H1 H' → H1 D = none → Ls H' D (((rs.filter fun r => upB r.mo u).filter (rankB (some rk))).map fun r => mD r.mo) → Q (.ref D) H' := fun H' D s2 hD ls => k H' D (s1.trans s2) (s1.free hD) ls
    generalize (rs.filter fun r => upB r.mo u) = U at rx hU fin
    have hxl : xs.length = U.length := by rw [rx.len, List.length_map]
    refine ⟨l, rfl, ⟨_, SqL.of hx⟩, fun D hD => ?_⟩
    refine lc_list (K := K) (a := l) (xs := xs) (fun i H' => Same H1 H' ∧ Ls H' D (((U.take i).filter (rankB (some rk))).map fun r => mD r.mo)) (pick_zero hD) (fun i H' _ q => SqL.of (q.1 _ _ hx)) ?_ ?_
    · rintro i x H' hi Pi
      obtain ⟨r2, hr2, t0⟩ := data_at rx hi
      obtain ⟨t, ys, rfl, ht, ry⟩ := Tp.inv (t0.to (TK.of Pi.1))
      obtain ⟨v0, a0, t0'⟩ := Tp.at (K := K) ht ry r2.ds0
      cases Tp.str_inv t0'
      obtain ⟨v1, a1, tm⟩ := Tp.at (K := K) ht ry r2.ds1
      refine ⟨rfl, _, rfl, _, _, _, _, rfl, rfl, SqT.of ht, a0, rfl, _, rfl, ?_⟩
      rw [sort_nm]
      cases r2 with
      | nm m rr ws ss lk =>
        refine iteT ?_
        obtain ⟨v2, a2, t2⟩ := Tp.at (K := K) (i := 2) (d := .int rr) ht ry rfl
        cases Tp.int_inv t2
        refine ⟨_, rfl, _, _, _, _, rfl, rfl, SqT.of ht, a2, _, rfl, rfl, _, rfl, ?_⟩
        rw [int_dec]
        refine ite2 (fun q => ?_) (fun q => ?_)
        · exact ⟨_, rfl, _, _, _, _, rfl, rfl, SqT.of ht, a1, pick_yes hD (by omega) Pi hr2 q tm⟩
        · exact pick_no Pi hr2 q
      | ch => exact iteF (iteF (pick_no Pi hr2 (by simp [rankB])))
      | st => exact iteF (iteF (pick_no Pi hr2 (by simp [rankB])))
      | ah => exact iteF (iteF (pick_no Pi hr2 (by simp [rankB])))
    · rintro H' ⟨s3, ls⟩
      rw [hxl, List.take_length] at ls
      exact fin H' D s3 hD ls
abbrev s__law_takers : Stmt := top 40
theorem sc__law_takers : FnScope ["_law_rows", "_law_name", "_law_until_here", "_law_own", "_law_alike", "_law_one"] ["_law_rows", "_law_name", "_law_until_here"] (defScope s__law_takers) := ⟨rfl, rfl, rfl, by decide +kernel, rfl, by decide +kernel, by decide +kernel⟩
theorem ok__law_takers {f : Addr} {fd : FuncData} (F : Fun K "_law_takers" "_law_takers" s__law_takers f fd) (c__law_row : C8.Cal P w K mg base 1 "_law_row" spRowOf []) (c__law_of_rank : C8.Cal P w K mg base 2 "_law_of_rank" spOfRank [])
    (c__law_strikes : C8.Cal P w K mg base 2 "_law_strikes" spStrikesL []) : FnOk P w K mg base CX0 3 f fd ["_law_rows", "_law_name", "_law_until_here"] spTakersL := by
  refine F.ok sc__law_takers (fun vs H Q E h => ?_) (fun cdv A outer s H vs Q E hr h => ?_)
  · obtain ⟨a, an, n, rk, ws, ss, lk, v, u, rs, rfl, _⟩ := h; rfl
  · obtain ⟨a, an, n, rk, ws, ss, lk, v, u, rs, rfl, hls, han, hrow, hv, h500, nd, hW, k⟩ := h
    refine ⟨_, (pss_cons (ps_set (i := 3) sc__law_takers.nd rfl (Or.inr rfl) (C8.pe_c c__law_row hr (by decide) rfl (pa_cons (pv 0) (pa_cons (pv 1) pa_nil))))
      (pss_cons (ps_setLc (i := 4) (own := [("_law_one", 5)]) (g := gName 5) rfl sc__law_takers.nd rfl rfl (sw_true rfl rfl rfl (by decide +kernel)) (pi_list (C8.pe_c c__law_of_rank hr (by decide) rfl (pa_cons (pv 0) (pa_cons (pe_ix ix_tup (pv 3) pe_int (fun _ _ => rfl)) (pa_cons (pv 2) pa_nil))))) (blkOk_by (own := [("_law_one", 5)]) (N := ["_law_rows", "_law_name", "_law_until_here", "_law_own", "_law_alike", "_law_one"]) (sc := defScope s__law_takers) (by decide +kernel)) (fun _ _ _ _ _ => pg_name (i := 5) sc__law_takers.nd rfl (Or.inl rfl)) (fun _ _ _ _ _ => (pts_one (PW.pt (pw_and (pt_cmpR (op_ltTK K hr.units0) (pv 5) (pv 1) (nomark _)) (pw_and1 (pt_cmpR (op_eqDK K hr.units) (pe_ix (ix_tupK K) (C8.pe_c c__law_row hr (by decide) rfl (pa_cons (pv 0) (pa_cons (pv 5) pa_nil))) pe_int (fun _ _ => rfl)) (pe_ix (ix_tupK K) (pv 3) pe_int (fun _ _ => rfl)) (nomark _))))))) (fun _ _ _ _ _ => (pv 5)))
      (pss_one (ps_ret (pe_lc (own := [("_law_one", 5)]) (g := gName 5) rfl sc__law_takers.nd (pi_list (pv 4)) (blkOk_by (own := [("_law_one", 5)]) (N := ["_law_rows", "_law_name", "_law_until_here", "_law_own", "_law_alike", "_law_one"]) (sc := defScope s__law_takers) (by decide +kernel)) (fun _ _ _ _ _ => pg_name (i := 5) sc__law_takers.nd rfl (Or.inl rfl)) (fun _ _ _ _ _ => (pts_one (pt_cmpR (op_eqDK K hr.units) (C8.pe_c c__law_strikes hr (by decide) rfl (pa_cons (pv 0) (pa_cons (pv 5) (pa_cons (pv 2) (pa_cons pe_bl pa_nil))))) (pe_lst pa_nil) (nomark _)))) (fun _ _ _ _ _ => (pv 5))))))), ?_⟩
    refine ⟨_, rfl, _, rfl, a, an, Row.nm n rk ws ss lk, rs, rfl, hls, han, hrow, nd, h500, fun H1 x s1 tx => ?_⟩
    obtain ⟨t, ts, rfl, ht, rt⟩ := Tp.inv tx
    obtain ⟨v2, a2, t2⟩ := Tp.at (K := K) (i := 2) (d := .int rk) ht rt rfl
    cases Tp.int_inv t2
    obtain ⟨v3, a3, t3⟩ := Tp.at (K := K) (i := 3) (d := .tuple (ws.map PyData.str)) ht rt rfl
    refine ⟨_, rfl, _, rfl, _, _, _, _, rfl, rfl, SqT.of ht, a2, _, rfl, a, rk, v, u, rs, rfl, hls.to s1, hv.to (TK.of s1), h500, fun H2 l s2 l0 ⟨xs, hx, rx⟩ => ?_⟩
    have s12 := s1.trans s2
    have memU : ∀ r ∈ rankL rs rk u, r ∈ rs ∧ upB r.mo u = true ∧ ∃ m ws' ss' lk', r = Row.nm m rk ws' ss' lk' := fun r h => by
      obtain ⟨h1, h2⟩ := List.mem_filter.mp h
      obtain ⟨h3, h4⟩ := List.mem_filter.mp h1
      refine ⟨h3, h4, ?_⟩
      cases r with
      | nm m rr ws' ss' lk' =>
        have : rr = rk := of_decide_eq_true h2
        subst this
        exact ⟨m, ws', ss', lk', rfl⟩
      | _ => cases h2
    have hU : (rankL rs rk u).length ≤ 500 := Nat.le_trans (List.length_filter_le _ _) (Nat.le_trans (List.length_filter_le _ _) h500)
    have hrowW := hW _ hrow
    -- those with its words that are elder
    have fin : ∀ H' D, Same H2 H' → H2 D = none → Ls H' D ((((rankL rs rk u).filter fun r => match r with | .nm m _ ws' _ _ => decide (mLt m n) && decide (ws' = ws) | _ => false).filter fun r => !wholeB' rs u r.mo).map fun r => mD r.mo) → Q (.ref D) H' := fun H' D s3 hD ls => k H' D (s12.trans s3) (s12.free hD) (by
      unfold takersL
      rw [List.filter_filter] at ls
      rw [show takes rs u n ws = fun r => !wholeB' rs u r.mo && (match r with | .nm m _ ws' _ _ => decide (mLt m n) && decide (ws' = ws) | _ => false) from funext fun r => by
        cases r with
        | nm m rr ws' ss' lk' => exact Bool.and_comm _ _
        | _ => simp [takes]]
      exact ls)
    generalize rankL rs rk u = U at rx memU hU fin
    have hxl : xs.length = U.length := by rw [rx.len, List.length_map]
    refine ⟨l, rfl, ⟨_, SqL.of hx⟩, fun D hD => ?_⟩
    refine lc_list (K := K) (a := l) (xs := xs) (fun i H' => Same H2 H' ∧ Ls H' D (((U.take i).filter fun r => match r with | .nm m _ ws' _ _ => decide (mLt m n) && decide (ws' = ws) | _ => false).map fun r => mD r.mo)) (pick_zero hD) (fun i H' _ q => SqL.of (q.1 _ _ hx)) ?_ ?_
    · rintro i x H' hi Pi
      obtain ⟨r2, hr2, t0⟩ := data_at rx hi
      obtain ⟨hrs, hrup, m, ws', ss', lk', rfl⟩ := memU r2 (List.mem_of_getElem? hr2)
      have tm := t0.to (TK.of Pi.1)
      obtain ⟨am, rfl, ham⟩ := Tp.mo_inv (id tm)
      have s2' := s12.trans Pi.1
      have hrW := hW _ hrs
      refine ⟨rfl, _, rfl, _, rfl, am, an, [m.1, m.2], [n.1, n.2], rfl, rfl, SqT.of ham, SqT.of (s2' _ _ han), _, rfl, ?_⟩
      rw [lt2]
      refine ite2 (fun q1 => ?_) (fun q1 => iteF (pick_no Pi hr2 (by show ¬ (decide (mLt m n) && decide (ws' = ws)) = true; rw [Bool.eq_false_iff.mpr q1]; simp)))
      refine ⟨_, rfl, _, rfl, a, am, Row.nm m rk ws' ss' lk', rs, rfl, hls.to s2', ham, hrs, nd, h500, fun H4 y s4 ty => ?_⟩
      obtain ⟨t5, ys5, rfl, ht5, ry5⟩ := Tp.inv ty
      obtain ⟨v5, a5, t5'⟩ := Tp.at (K := K) (i := 3) (d := .tuple (ws'.map PyData.str)) ht5 ry5 rfl
      have Pi4 : Same H2 H4 ∧ Ls H4 D (((U.take i).filter fun r => match r with | .nm m _ ws' _ _ => decide (mLt m n) && decide (ws' = ws) | _ => false).map fun r => mD r.mo) := ⟨Pi.1.trans s4, Pi.2.to s4⟩
      refine ⟨_, _, _, _, rfl, rfl, SqT.of ht5, a5, _, rfl, _, _, _, _, rfl, rfl, SqT.of ((s2.trans Pi4.1) _ _ ht), a3, _, _, t5'.d, (t3.to (TK.of (s2.trans Pi4.1))).d, shaped_ws hrW.2.1, shaped_ws hrowW.2.1, _, rfl, ?_⟩
      rw [eqv_ws hrW.2.1 hrowW.2.1]
      refine ite2 (fun q2 => ?_) (fun q2 => ?_)
      · exact ⟨_, rfl, pick_yes hD (by omega) Pi4 hr2 (by show (decide (mLt m n) && decide (ws' = ws)) = true; rw [q1, q2]; rfl) (tm.to (TK.of s4))⟩
      · exact pick_no Pi4 hr2 (by show ¬ (decide (mLt m n) && decide (ws' = ws)) = true; rw [Bool.eq_false_iff.mpr q2]; simp)
    rintro H3 ⟨s3, zs, hz, rz⟩
    rw [hxl, List.take_length] at rz
    have hY : (U.filter fun r => match r with | .nm m _ ws' _ _ => decide (mLt m n) && decide (ws' = ws) | _ => false).length ≤ 500 := Nat.le_trans (List.length_filter_le _ _) hU
    have fin2 := fun H' D2 (s4 : Same H3 H') (h : H3 D2 = none) => fin H' D2 (s3.trans s4) (s3.free h)
    generalize (U.filter fun r => match r with | .nm m _ ws' _ _ => decide (mLt m n) && decide (ws' = ws) | _ => false) = Y at rz fin2 hY
    have hzl : zs.length = Y.length := by rw [rz.len, List.length_map]
    have s13 := s12.trans s3
    refine ⟨_, rfl, D, rfl, ⟨_, SqL.of hz⟩, fun D2 hD2 => ?_⟩
    refine lc_list (K := K) (a := D) (xs := zs) (fun i H' => Same H3 H' ∧ Ls H' D2 (((Y.take i).filter fun r => !wholeB' rs u r.mo).map fun r => mD r.mo)) (pick_zero hD2) (fun i H' _ q => SqL.of (q.1 _ _ hz)) ?_ ?_
    · rintro i x H' hi Pi
      obtain ⟨r2, hr2, t0⟩ := data_at rz hi
      have tm := t0.to (TK.of Pi.1)
      obtain ⟨am, rfl, ham⟩ := Tp.mo_inv (id tm)
      have s3' := s13.trans Pi.1
      refine ⟨rfl, _, rfl, _, rfl, _, rfl, a, am, r2.mo, v, u, true, rs, rfl, hls.to s3', ham, hv.to (TK.of s3'), h500, fun H5 l5 s5 l50 ls5 => ?_⟩
      refine ⟨Nat.zero_le _, fun Z hZ => ?_⟩
      have sZ : Same H5 (upd H5 Z (.lst [])) := Same.new hZ
      have lZ : Ls (upd H5 Z (.lst [])) Z [] := ⟨_, upd_same, .nil⟩
      have P5 : Same H3 (upd H5 Z (.lst [])) ∧ Ls (upd H5 Z (.lst [])) D2 (((Y.take i).filter fun r => !wholeB' rs u r.mo).map fun r => mD r.mo) := ⟨Pi.1.trans (s5.trans sZ), Pi.2.to (s5.trans sZ)⟩
      have sh : SeqAt.shaped (.list ((strikesL rs r2.mo u true).map fun r => mD r.mo)) = true := by
        have := shaped_ms ((strikesL rs r2.mo u true).map Row.mo)
        rw [List.map_map] at this; exact this
      refine ⟨_, _, (ls5.to sZ).dp, lZ.dp, sh, rfl, _, rfl, ?_⟩
      rw [mo_nil]
      have e : decide (strikesL rs r2.mo u true = []) = !wholeB' rs u r2.mo := by
        cases q : wholeB' rs u r2.mo with
        | false => exact decide_eq_true (strikes_nil.mpr q)
        | true => exact decide_eq_false fun z => by rw [strikes_nil.mp z] at q; cases q
      rw [e]
      refine ite2 (fun q => ?_) (fun q => pick_no P5 hr2 q)
      exact ⟨_, rfl, pick_yes hD2 (by omega) P5 hr2 q (tm.to (TK.of (s5.trans sZ)))⟩
    · rintro H' ⟨s4, ls⟩
      rw [hzl, List.take_length] at ls
      exact fin2 H' D2 s4 hD2 ls
end
end KN

set_option Elab.async false
set_option linter.all false
set_option maxRecDepth 100000
set_option maxHeartbeats 4000000
namespace KN
open PySem L2
theorem rise_perm : ∀ {a b : List Row}, a.Perm b → Rise a → Rise b → a = b
  | [], b, p, _, _ => (List.nil_perm.mp p).symm
  | x :: a, [], p, _, _ => absurd p.length_eq (by simp)
  | x :: a, y :: b, p, ha, hb => by
    have hx : x ∈ y :: b := p.mem_iff.mp List.mem_cons_self
    have hy : y ∈ x :: a := p.mem_iff.mpr List.mem_cons_self
    have e : x = y := by
      rcases List.mem_cons.mp hx with e | hx
      · exact e
      rcases List.mem_cons.mp hy with e | hy
      · exact e.symm
      exact absurd (((List.pairwise_cons.mp ha).1 y hy).trans ((List.pairwise_cons.mp hb).1 x hx)) mLt.irr
    subst e
    rw [rise_perm (List.Perm.cons_inv p) (List.pairwise_cons.mp ha).2 (List.pairwise_cons.mp hb).2]
theorem rise_nd {rs : List Row} (h : Rise rs) : (rs.map Row.mo).Nodup := List.pairwise_map.mpr (h.imp fun k e => by rw [e] at k; exact mLt.irr k)
theorem rise_sub {rs : List Row} (h : Rise rs) (p : Row → Bool) : Rise (rs.filter p) := List.Pairwise.sublist List.filter_sublist h
theorem st_eq {rs S : List Row} {n : Mo} {u : Option Mo} {ow : Bool} {g : Row → Bool} (rise : Rise rs) (sp : S.Perm (rs.filter fun r => decide (n ∈ r.names))) (riseS : Rise S) (hg : ∀ r, g r = (wholeB r || !ow)) :
    (S.filter fun r => upB r.mo u && decide (r.sort = ("strike" : Str)) && g r) = strikesL rs n u ow := by
  rw [rise_perm sp riseS (rise_sub rise _)]
  unfold strikesL
  rw [List.filter_filter, List.filter_filter]
  refine congrArg (fun p => rs.filter p) (funext fun r => ?_)
  rw [hg]
  have n1 : ¬ ("name" : Str) = "strike" := by decide +kernel
  have n2 : ¬ ("choice" : Str) = "strike" := by decide +kernel
  have n3 : ¬ ("ahead" : Str) = "strike" := by decide +kernel
  cases r with
  | st q x wh =>
    show (upB q u && decide (("strike" : Str) = "strike") && (wh || !ow) && decide (n ∈ [x])) = (decide (x = n) && (wh || !ow) && upB q u)
    rw [decide_eq_true (rfl : ("strike" : Str) = "strike")]
    by_cases h : x = n
    · rw [decide_eq_true h, decide_eq_true (by rw [h]; exact List.mem_singleton.mpr rfl)]
      cases upB q u <;> cases (wh || !ow) <;> rfl
    · rw [decide_eq_false h, decide_eq_false (fun z => h (List.mem_singleton.mp z).symm)]; simp
  | nm q x y z t =>
    show (upB q u && decide (("name" : Str) = "strike") && _ && _) = (false && _ && _)
    rw [decide_eq_false n1]; simp
  | ch q x y =>
    show (upB q u && decide (("choice" : Str) = "strike") && _ && _) = (false && _ && _)
    rw [decide_eq_false n2]; simp
  | ah q x y =>
    show (upB q u && decide (("ahead" : Str) = "strike") && _ && _) = (false && _ && _)
    rw [decide_eq_false n3]; simp
theorem tk_eq {rs S : List Row} {n : Mo} {u : Option Mo} {rk : Int} {ws : List Str} (rise : Rise rs) (sp : S.Perm rs) (riseS : Rise S) :
    ((S.filter fun r => upB r.mo u && rankB (some rk) r).filter (takes rs u n ws)) = takersL rs rk u n ws := by
  rw [rise_perm sp riseS rise]
  unfold takersL rankL
  rw [List.filter_filter (p := rankB (some rk))]
  exact congrArg (fun p => (rs.filter p).filter (takes rs u n ws)) (funext fun r => Bool.and_comm _ _)
/-- the first of some rows, or none -/
def fstD (L : List Row) : PyData := oD (L.head?.map Row.mo)
theorem fst_ok (L : List Row) : okD (fstD L) = true ∧ (fstD L).depth ≤ 60 := by
  unfold fstD
  cases L with
  | nil => exact ⟨rfl, by simp [oD, PyData.depth]⟩
  | cons r L => exact ⟨rfl, depth_m r.mo⟩
theorem okD_fst (Ls3 : List (List Row)) : okD (.list (Ls3.map fstD)) = true := by
  simp only [okD]
  exact okDs_all.mpr fun d hd => by obtain ⟨x, _, rfl⟩ := List.mem_map.mp hd; exact (fst_ok x).1
theorem shaped_fst (Ls3 : List (List Row)) : SeqAt.shaped (.list (Ls3.map fstD)) = true := shaped_list fun d hd => by
  obtain ⟨x, _, rfl⟩ := List.mem_map.mp hd; exact fst_ok x
def spIsSo (C : Addr) : Sp := fun vs H Q _ => ∃ (a b : Addr) (v : V) (u : Option Mo) (rs : List Row), vs = [.ref a, .ref b, v] ∧ Ls H a (rs.map Row.d) ∧ BookAt C H b rs ∧ Rise rs ∧ (∀ r ∈ rs, RowW r) ∧ rs.length < 64 ∧ UpV H v u ∧ ∀ H', Same H H' → Q (.bl true) H'
section
variable {P : Program} {w : World} {K : PySem.W.Frag} {mg : Str → Option Value} {base : Heap} {C : Addr}
abbrev s__law_is_so : Stmt := top 42
theorem sc__law_is_so : FnScope ["_law_rows", "_law_book_here", "_law_until_here", "_law_name", "_law_hits", "_law_wholes", "_law_takers_here", "_law_due", "_law_told", "_law_row_here", "_law_some"] ["_law_rows", "_law_book_here", "_law_until_here"] (defScope s__law_is_so) := ⟨rfl, rfl, rfl, by decide +kernel, rfl, by decide +kernel, by decide +kernel⟩
theorem ok__law_is_so {f : Addr} {fd : FuncData} (F : Fun K "_law_is_so" "_law_is_so" s__law_is_so f fd) (c__law_there : C8.Cal P w K mg base 1 "_law_there" spThereR []) (c__law_strikes : C8.Cal P w K mg base 2 "_law_strikes" spStrikesL []) (c__law_takers : C8.Cal P w K mg base 3 "_law_takers" spTakersL [])
    (c_Book_struck_upto : MetK P w K mg base 4 C "struck" (spStruck C fun _ => true) 2 ["upto"] (fun vs zs => vs ++ zs)) (c_Book_wholly_upto : MetK P w K mg base 4 C "wholly" (spStruck C wholeB) 2 ["upto"] (fun vs zs => vs ++ zs))
    (c_Book_taker_upto : MetK P w K mg base 5 C "taker" (spTaker C) 2 ["upto"] (fun vs zs => vs ++ zs)) : FnOk P w K mg base CX0 6 f fd ["_law_rows", "_law_book_here", "_law_until_here"] (spIsSo C) := by
  refine F.ok sc__law_is_so (fun vs H Q E h => ?_) (fun cdv A outer s H vs Q E hr h => ?_)
  · obtain ⟨a, b, v, u, rs, rfl, _⟩ := h; rfl
  · obtain ⟨a, b, v, u, rs, rfl, hls, BA, rise, hW, h64, hv, k⟩ := h
    refine ⟨_, (pss_cons (ps_for PassesOwn.never rfl (pi_list (pe_lc (own := [("_law_row_here", 9)]) (g := gName 9) rfl sc__law_is_so.nd (pi_list (C8.pe_c c__law_there hr (by decide) rfl (pa_cons (pv 0) (pa_cons (pv 2) pa_nil)))) (blkOk_by (own := [("_law_row_here", 9)]) (N := ["_law_rows", "_law_book_here", "_law_until_here", "_law_name", "_law_hits", "_law_wholes", "_law_takers_here", "_law_due", "_law_told", "_law_row_here", "_law_some"]) (sc := defScope s__law_is_so) (by decide +kernel)) (fun _ _ _ _ _ => pg_name (i := 9) sc__law_is_so.nd rfl (Or.inl rfl)) (fun _ _ _ _ _ => (pts_one (pt_cmpR op_eq (pe_ix (ix_tupK K) (pv 9) pe_int (fun _ _ => rfl)) pe_str (nomark _)))) (fun _ _ _ _ _ => (pe_ix (ix_tupK K) (pv 9) pe_int (fun _ _ => rfl))))) (pg_name (i := 3) sc__law_is_so.nd rfl (Or.inl rfl))
      (pss_cons (ps_par (i := 4) (j := 5) rfl sc__law_is_so.nd rfl rfl (by decide) rfl rfl (pa_cons (C8.pe_c c__law_strikes hr (by decide) rfl (pa_cons (pv 0) (pa_cons (pv 3) (pa_cons (pv 2) (pa_cons pe_bl pa_nil))))) (pa_cons (C8.pe_c c__law_strikes hr (by decide) rfl (pa_cons (pv 0) (pa_cons (pv 3) (pa_cons (pv 2) (pa_cons pe_bl pa_nil))))) pa_nil)) (by rfl))
      (pss_cons (ps_set (i := 6) sc__law_is_so.nd rfl (Or.inl rfl) (C8.pe_c c__law_takers hr (by decide) rfl (pa_cons (pv 0) (pa_cons (pv 3) (pa_cons (pv 2) pa_nil)))))
      (pss_cons (ps_setLc (i := 7) (own := [("_law_some", 10)]) (g := gName 10) (tt := tYes) rfl sc__law_is_so.nd rfl rfl (sw_true rfl rfl rfl (by decide +kernel)) (pi_tup (pe_tup (pa_cons (pv 4) (pa_cons (pv 5) (pa_cons (pv 6) pa_nil))))) (blkOk_by (own := [("_law_some", 10)]) (N := ["_law_rows", "_law_book_here", "_law_until_here", "_law_name", "_law_hits", "_law_wholes", "_law_takers_here", "_law_due", "_law_told", "_law_row_here", "_law_some"]) (sc := defScope s__law_is_so) (by decide +kernel)) (fun _ _ _ _ _ => pg_name (i := 10) sc__law_is_so.nd rfl (Or.inl rfl)) (fun _ _ _ _ _ => pts_nil) (fun _ _ _ _ _ => (pe_ix (ix_listK K) (pe_op op_cat (pv 10) (pe_lst (pa_cons pe_non pa_nil))) pe_int (fun _ _ => rfl))))
      (pss_cons (ps_set (i := 8) sc__law_is_so.nd rfl (Or.inl rfl) (pe_lst (pa_cons (pe_mtK c_Book_struck_upto hr (by decide) (pv 1) (pa_cons (pv 3) pa_nil) (pk_cons (pv 2) pk_nil)) (pa_cons (pe_mtK c_Book_wholly_upto hr (by decide) (pv 1) (pa_cons (pv 3) pa_nil) (pk_cons (pv 2) pk_nil)) (pa_cons (pe_mtK c_Book_taker_upto hr (by decide) (pv 1) (pa_cons (pv 3) pa_nil) (pk_cons (pv 2) pk_nil)) pa_nil)))))
      (pss_one (ps_if (pt_cmpR (op_neD hr.units) (pv 8) (pv 7) (nomark _)) (pss_one (ps_ret pe_bl)) pss_nil)))))))
      (pss_one (ps_ret pe_bl))), ?_⟩
    have nd := rise_nd rise
    refine ⟨_, rfl, _, rfl, a, v, u, rs, rfl, hls, hv, by omega, fun H1 l s1 l0 ⟨xs, hx, rx⟩ => ?_⟩
    have memU : ∀ r ∈ (rs.filter fun r => upB r.mo u), r ∈ rs ∧ upB r.mo u = true := fun r h => List.mem_filter.mp h
    have hU : (rs.filter fun r => upB r.mo u).length ≤ 64 := Nat.le_trans (List.length_filter_le _ _) (by omega)
    generalize (rs.filter fun r => upB r.mo u) = U at rx memU hU
    have hxl : xs.length = U.length := by rw [rx.len, List.length_map]
    refine ⟨l, rfl, ⟨_, SqL.of hx⟩, fun D hD => ?_⟩
    refine lc_list (K := K) (a := l) (xs := xs) (fun i H' => Same H1 H' ∧ Ls H' D (((U.take i).filter Row.isNm).map fun r => mD r.mo)) (pick_zero hD) (fun i H' _ q => SqL.of (q.1 _ _ hx)) ?_ ?_
    · rintro i x H' hi Pi
      obtain ⟨r2, hr2, t0⟩ := data_at rx hi
      obtain ⟨t, ys, rfl, ht, ry⟩ := Tp.inv (t0.to (TK.of Pi.1))
      obtain ⟨v0, a0, t0'⟩ := Tp.at (K := K) ht ry r2.ds0
      cases Tp.str_inv t0'
      obtain ⟨v1, a1, tm⟩ := Tp.at (K := K) ht ry r2.ds1
      refine ⟨rfl, _, rfl, _, _, _, _, rfl, rfl, SqT.of ht, a0, rfl, _, rfl, ?_⟩
      rw [sort_nm]
      refine ite2 (fun q => ?_) (fun q => pick_no Pi hr2 q)
      exact ⟨_, rfl, _, _, _, _, rfl, rfl, SqT.of ht, a1, pick_yes hD (by omega) Pi hr2 q tm⟩
    rintro H2 ⟨s2, zs, hz, rz⟩
    rw [hxl, List.take_length] at rz
    have memN : ∀ r ∈ U.filter Row.isNm, r ∈ rs ∧ upB r.mo u = true ∧ ∃ m rk ws ss lk, r = Row.nm m rk ws ss lk := fun r h => by
      obtain ⟨h1, h2⟩ := List.mem_filter.mp h
      refine ⟨(memU r h1).1, (memU r h1).2, ?_⟩
      cases r with
      | nm m rk ws ss lk => exact ⟨m, rk, ws, ss, lk, rfl⟩
      | _ => cases h2
    generalize (U.filter Row.isNm) = N at rz memN
    have hzl : zs.length = N.length := by rw [rz.len, List.length_map]
    have s12 := s1.trans s2
    refine ⟨D, rfl, ⟨_, SqL.of hz⟩, for_list (K := K) (a := D) (xs := zs) (fun i σ' H' => ∃ v3 v4 v5 v6 v7 v8 : Option V, σ' = [some (.ref a), some (.ref b), some v, v3, v4, v5, v6, v7, v8, none, none] ∧ Same H2 H')
      ⟨none, none, none, none, none, none, rfl, fun _ _ e => e⟩ (fun i σ' H' _ ⟨_, _, _, _, _, _, _, q⟩ => SqL.of (q _ _ hz)) ?_ ?_⟩
    · rintro i x σ3 H3 hi ⟨v3, v4, v5, v6, v7, v8, rfl, s3⟩
      obtain ⟨r2, hr2, t0⟩ := data_at rz hi
      obtain ⟨hrs, hrup, n, rk, ws, ss, lk, rfl⟩ := memN r2 (List.mem_of_getElem? hr2)
      obtain ⟨an, rfl, han⟩ := Tp.mo_inv (t0.to (TK.of s3))
      have s03 := s12.trans s3
      refine ⟨_, rfl, _, rfl, _, rfl, a, an, n, v, u, false, rs, rfl, hls.to s03, han, hv.to (TK.of s03), by omega, fun H4 h0 s4 h00 lh0 => ?_⟩
      have s04 := s03.trans s4
      refine ⟨_, rfl, _, rfl, _, rfl, a, an, n, v, u, true, rs, rfl, hls.to s04, s4 _ _ han, hv.to (TK.of s04), by omega, fun H5 h1 s5 h10 lh1 => ?_⟩
      have s05 := s04.trans s5
      refine ⟨_, _, rfl, ?_⟩
      refine ⟨_, rfl, _, rfl, _, rfl, a, an, n, rk, ws, ss, lk, v, u, rs, rfl, hls.to s05, s5 _ _ (s4 _ _ han), hrs, hv.to (TK.of s05), by omega, nd, hW, fun H6 h2 s6 h20 lh2 => ?_⟩
      have s06 := s05.trans s6
      -- what is due
      refine ⟨_, rfl, _, rfl, _, rfl, by show 3 ≤ sizeLine; decide, fun tt htt => ?_⟩
      have s7 : Same H6 (upd H6 tt (.tup [.ref h0, .ref h1, .ref h2])) := Same.new htt
      refine ⟨tt, rfl, ⟨_, SqT.of upd_same⟩, fun D2 hD2 => ?_⟩
      have s57 := s6.trans s7
      have three : ∀ (i : Nat) (x : V), ([.ref h0, .ref h1, .ref h2] : List V)[i]? = some x → ∃ (L : List Row) (h : Addr), ([strikesL rs n u false, strikesL rs n u true, takersL rs rk u n ws] : List (List Row))[i]? = some L ∧ x = .ref h ∧ Ls (upd H6 tt (.tup [.ref h0, .ref h1, .ref h2])) h (L.map fun r => mD r.mo) := fun i x hi => by
        match i, hi with
        | 0, hi => cases hi; exact ⟨_, h0, rfl, rfl, lh0.to (s5.trans s57)⟩
        | 1, hi => cases hi; exact ⟨_, h1, rfl, rfl, lh1.to s57⟩
        | 2, hi => cases hi; exact ⟨_, h2, rfl, rfl, lh2.to s7⟩
        | i + 3, hi => simp at hi
      have few : ∀ L ∈ [strikesL rs n u false, strikesL rs n u true, takersL rs rk u n ws], L.length ≤ 64 := fun L hL => by
        have f1 : ∀ ow, (strikesL rs n u ow).length ≤ 64 := fun ow => Nat.le_trans (List.length_filter_le _ _) (Nat.le_trans (List.length_filter_le _ _) (by omega))
        have f2 : (takersL rs rk u n ws).length ≤ 64 := Nat.le_trans (List.length_filter_le _ _) (Nat.le_trans (List.length_filter_le _ _) (Nat.le_trans (List.length_filter_le _ _) (by omega)))
        rcases List.mem_cons.mp hL with rfl | hL
        · exact f1 _
        rcases List.mem_cons.mp hL with rfl | hL
        · exact f1 _
        rw [List.mem_singleton] at hL; subst hL; exact f2
      have hLL : ([strikesL rs n u false, strikesL rs n u true, takersL rs rk u n ws] : List (List Row)).length = 3 := rfl
      have e0 := fun S sp riseS => st_eq (S := S) (g := fun _ => true) (n := n) (u := u) (ow := false) rise sp riseS (fun r => by cases wholeB r <;> rfl)
      have e1 := fun S sp riseS => st_eq (S := S) (g := wholeB) (n := n) (u := u) (ow := true) rise sp riseS (fun r => by cases wholeB r <;> rfl)
      have e2 := fun S sp riseS => tk_eq (S := S) (n := n) (u := u) (rk := rk) (ws := ws) rise sp riseS
      have eLL : [fstD (strikesL rs n u false), fstD (strikesL rs n u true), fstD (takersL rs rk u n ws)] = [strikesL rs n u false, strikesL rs n u true, takersL rs rk u n ws].map fstD := rfl
      generalize hG : [strikesL rs n u false, strikesL rs n u true, takersL rs rk u n ws] = LL at three few hLL eLL
      refine lc_tup (K := K) (a := tt) (xs := [.ref h0, .ref h1, .ref h2]) (fun i H' => Same (upd H6 tt (.tup [.ref h0, .ref h1, .ref h2])) H' ∧ Ls H' D2 (((LL.take i).filter fun _ => true).map fstD)) (pick_zero hD2) (fun i H' _ q => SqT.of (q.1 _ _ upd_same)) ?_ ?_
      · rintro i x H' hi Pi
        obtain ⟨L, h, hL, rfl, hh⟩ := three i x hi
        obtain ⟨hx', hhx, rhx⟩ := hh.to Pi.1
        have hLl := few L (List.mem_of_getElem? hL)
        have hxl' : hx'.length = L.length := by rw [rhx.len, List.length_map]
        refine ⟨rfl, _, rfl, by show 1 ≤ sizeLine; decide, fun Z hZ => ?_⟩
        have sZ : Same H' (upd H' Z (.lst [.non])) := Same.new hZ
        refine ⟨h, Z, hx', _, rfl, rfl, sZ _ _ hhx, upd_same, by rw [List.length_singleton]; exact Nat.le_trans (by omega : hx'.length + 1 ≤ 65) (by decide), fun p2 hp2 => ?_⟩
        have sP := sZ.trans (Same.new (o := .lst (hx' ++ [.non])) hp2)
        obtain ⟨y, hy, ty⟩ : ∃ y, atI (hx' ++ [V.non]) 0 = some y ∧ Tp (upd (upd H' Z (.lst [.non])) p2 (.lst (hx' ++ [.non]))) y (fstD L) := by
          cases L with
          | nil => cases rhx; exact ⟨.non, rfl, .non⟩
          | cons r L =>
            cases rhx with
            | cons t0 rest => exact ⟨_, at_of (j := 0) rfl rfl, t0.to (TK.of sP)⟩
        exact ⟨p2, _, _, _, rfl, rfl, SqL.of upd_same, hy, pick_yes hD2 (by omega) ⟨Pi.1.trans sP, Pi.2.to sP⟩ hL rfl ty⟩
      rintro H8 ⟨s8, ls8⟩
      have ls8' : Ls H8 D2 (LL.map fstD) := by
        have e : ((LL.take 3).filter fun _ => true) = LL := by rw [List.filter_eq_self.mpr (fun _ _ => rfl), List.take_of_length_le (by omega)]
        rw [show ([.ref h0, .ref h1, .ref h2] : List V).length = 3 from rfl, e] at ls8; exact ls8
      have s08 := s06.trans (s7.trans s8)
      have BA8 := BA.keep (KB.of s08)
      have han8 : H8 an = some (.tup [.int n.1, .int n.2]) := (s4.trans (s5.trans (s57.trans s8))) _ _ han
      have hv8 := hv.to (TK.of s08)
      obtain ⟨dx, e, nn, kvs, nkv, B⟩ := id BA8
      have x1 := bf_no e nn (m := "struck") (by decide +kernel) (by decide +kernel)
      have x2 := bf_no e nn (m := "wholly") (by decide +kernel) (by decide +kernel)
      have x3 := bf_no e nn (m := "taker") (by decide +kernel) (by decide +kernel)
      refine ⟨_, rfl, b, dx, _, rfl, B.ob, x1, _, rfl, _, rfl, rfl, rfl, b, an, n, v, u, rs, rfl, BA8, han8, row_nms hrs, hrup, hv8, h64, fun H9 y1 S1 s9 sp1 rise1 ty1 => ?_⟩
      have B9 := B.keep (KB.of s9)
      refine ⟨_, rfl, b, dx, _, rfl, B9.ob, x2, _, rfl, _, rfl, rfl, rfl, b, an, n, v, u, rs, rfl, BA8.keep (KB.of s9), s9 _ _ han8, row_nms hrs, hrup, hv8.to (TK.of s9), h64, fun H10 y2 S2 s10 sp2 rise2 ty2 => ?_⟩
      have s810 := s9.trans s10
      have B10 := B.keep (KB.of s810)
      refine ⟨_, rfl, b, dx, _, rfl, B10.ob, x3, _, rfl, _, rfl, rfl, rfl, b, an, n, rk, ws, ss, lk, v, u, rs, rfl, BA8.keep (KB.of s810), s810 _ _ han8, hrs, hrup, hv8.to (TK.of s810), h64, hW, fun H11 y3 S3 s11 sp3 rise3 ty3 => ?_⟩
      refine ⟨by show 3 ≤ sizeLine; decide, fun Lt hLt => ?_⟩
      have sL : Same H11 (upd H11 Lt (.lst [y1, y2, y3])) := Same.new hLt
      rw [e0 S1 sp1 rise1] at ty1
      rw [e1 S2 sp2 rise2] at ty2
      rw [e2 S3 sp3 rise3] at ty3
      have lsT : Ls (upd H11 Lt (.lst [y1, y2, y3])) Lt (LL.map fstD) := ⟨_, upd_same, by
        rw [← eLL]
        exact .cons (ty1.to (TK.of (s10.trans (s11.trans sL)))) (.cons (ty2.to (TK.of (s11.trans sL))) (.cons (ty3.to (TK.of sL)) .nil))⟩
      have s811 := s810.trans (s11.trans sL)
      refine ⟨_, rfl, _, rfl, _, _, lsT.dp, (ls8'.to s811).dp, shaped_fst LL, shaped_fst LL, _, rfl, ?_⟩
      rw [(eqv_iff (okD_fst LL) (okD_fst LL)).mpr rfl]
      exact iteF ⟨_, _, _, _, _, _, rfl, s3.trans (s4.trans (s5.trans (s57.trans (s8.trans s811))))⟩
    · rintro σ3 H3 ⟨v3, v4, v5, v6, v7, v8, rfl, s3⟩
      exact k H3 (s12.trans s3)
end
end KN

set_option Elab.async false
set_option linter.all false
set_option maxRecDepth 100000
set_option maxHeartbeats 4000000
namespace KN
open PySem L2
theorem op_neDK {X : Cx} (K : PySem.W.Frag) (hu : X.A.units + 64 < cLine) (h : X.K = K := by rfl) : OpR X (compareOp .NotEq) (rNeD K) := by subst h; exact op_neD hu
theorem call_len_seqK {X : Cx} (K : PySem.W.Frag) (h : X.K = K := by rfl) : CallR X (.builtin "len") (fun xs H Q => ∃ p ys, xs = [.ref p] ∧ (SqL K H p ys ∨ SqT K H p ys) ∧ Q (.int ys.length) H) := by subst h; exact call_len_seq
theorem shareH {B S : Hp → Prop} {P : Prop} (h : (∀ H, S H → B H) → P) (g : ∀ H, S H → B H) : P := h g
theorem getD_some {α : Type} {xs : List α} {i : Nat} (d : α) (h : i < xs.length) : xs[i]? = some (xs.getD i d) := by
  rw [List.getD_eq_getElem?_getD, List.getElem?_eq_getElem h]; rfl
theorem str_at {ss : List Str} {r : Int} (h0 : 0 ≤ r) (h1 : r < ss.length) : atI (ss.map V.str) r = some (.str (ss.getD r.toNat "")) := by
  refine at_ofG h0 ?_
  rw [List.getElem?_map, getD_some ("" : Str) (by omega)]; rfl
theorem isW_at {ss : List Str} (h : ∀ s ∈ ss, IsW s) {r : Nat} (k : r < ss.length) : IsW (ss.getD r "") := h _ (List.mem_of_getElem? (getD_some ("" : Str) k))
theorem z3_at {d : Int} {r : Int} (h : 0 ≤ r) (k : r < 3) : ∃ f : Int, atI [V.int 0, V.int 0, V.int d] r = some (.int f) ∧ (f = 0 ∨ f = d) := by
  have : r = 0 ∨ r = 1 ∨ r = 2 := by omega
  rcases this with rfl | rfl | rfl
  · exact ⟨_, rfl, .inl rfl⟩
  · exact ⟨_, rfl, .inl rfl⟩
  · exact ⟨_, rfl, .inr rfl⟩
theorem Pen.kb {H H' : Hp} {p c : Addr} {b : Int} (h : Pen H p c b) (k : Kp p H H') : KB H H' :=
  let ⟨_, _, _, e1, _⟩ := h
  KB.kp k e1
theorem Ls.kp {H H' : Hp} {p c a : Addr} {b : Int} {ds : List PyData} (h : Ls H a ds) (pen : Pen H p c b) (k : Kp p H H') : Ls H' a ds :=
  let ⟨xs, e, r⟩ := h
  ⟨xs, k _ _ (pen.ne e) e, r.to (pen.tk k)⟩
/-- some texts of a lot, from a place on, round -/
def roundL (lot : List Str) (at_ : Int) (many : Nat) : List Str := (List.range many).map fun (j : Nat) => lot.getD ((at_ + (0 + (j : Int))) % (lot.length : Int)).toNat ""
theorem okD_nm {r : Row} (h : RowW r) (hn : r.isNm = true) : okD r.d = true ∧ r.d.depth ≤ 60 := by
  cases r with
  | nm m rk ws ss lk =>
    have h1 := okD_ws h.2.1
    have h2 := okD_ws h.2.2.1
    have h3 : PyData.strOk (Str.ofString "name") = true := by decide +kernel
    have h4 : okD (oD lk) = true := by cases lk <;> rfl
    have d1 := depth_ws ws
    have d2 := depth_ws ss
    have d3 : (oD lk).depth ≤ 2 := by cases lk <;> simp [oD, mD, PyData.depth, PyData.depthAll]
    refine ⟨?_, ?_⟩
    · show okDs [.str "name", mD m, .int rk, .tuple (ws.map PyData.str), .tuple (ss.map PyData.str), oD lk] = true
      simp only [okDs]
      rw [h1, h2, h4, okD_m]
      simp only [okD, h3]; rfl
    · show (PyData.tuple [.str "name", mD m, .int rk, .tuple (ws.map PyData.str), .tuple (ss.map PyData.str), oD lk]).depth ≤ 60
      have d4 : (mD m).depth ≤ 2 := by simp [mD, PyData.depth, PyData.depthAll]
      have := depthAll_le (k := 2) (ds := [.str "name", mD m, .int rk, .tuple (ws.map PyData.str), .tuple (ss.map PyData.str), oD lk]) fun d hd => by
        rcases List.mem_cons.mp hd with rfl | hd
        · simp [PyData.depth]
        rcases List.mem_cons.mp hd with rfl | hd
        · exact d4
        rcases List.mem_cons.mp hd with rfl | hd
        · simp [PyData.depth]
        rcases List.mem_cons.mp hd with rfl | hd
        · exact d1
        rcases List.mem_cons.mp hd with rfl | hd
        · exact d2
        rw [List.mem_singleton] at hd; subst hd; exact d3
      simp only [PyData.depth] at this ⊢; omega
  | _ => cases hn
theorem shaped_nms {N : List Row} (h : ∀ r ∈ N, RowW r ∧ r.isNm = true) : SeqAt.shaped (.list (N.map Row.d)) = true := shaped_list fun d hd => by
  obtain ⟨r, hr, rfl⟩ := List.mem_map.mp hd
  exact okD_nm (h r hr).1 (h r hr).2
theorem rows_nil (Y : List Row) : PyData.eqv (.list (Y.map Row.d)) (.list []) = decide (Y = []) := by
  cases Y with
  | nil => rfl
  | cons x xs => simp [PyData.eqv, PyData.eqvAll]
theorem share {B P : Prop} (h : B → P) (b : B) : P := h b
def ownB : Row → Bool
  | .nm _ _ _ ss _ => !decide (ss = [])
  | _ => false
def alikeB (n : Mo) (rk : Int) : Row → Bool
  | .nm m r _ _ _ => decide (r = rk) && !decide (m = n)
  | _ => false
structure Good (rs : List Row) : Prop where
  W : ∀ r ∈ rs, RowW r
  ok : ∀ r ∈ rs, MoOk r.mo
  rk : ∀ m rk ws ss lk, Row.nm m rk ws ss lk ∈ rs → 0 ≤ rk ∧ rk ≤ 5
  own : (∃ r ∈ rs, r.isNm = true) → ∃ m rk ws ss lk, Row.nm m rk ws ss lk ∈ rs ∧ ss ≠ []
theorem Good.add {rs : List Row} {r : Row} (G : Good rs) (hW : RowW r) (hok : MoOk r.mo) (hrk : ∀ m rk ws ss lk, r = Row.nm m rk ws ss lk → 0 ≤ rk ∧ rk ≤ 5)
    (hown : r.isNm = true → (∃ m rk ws ss lk, r = Row.nm m rk ws ss lk ∧ ss ≠ []) ∨ ∃ x ∈ rs, x.isNm = true) : Good (rs ++ [r]) := by
  refine ⟨fun x hx => ?_, fun x hx => ?_, fun m rk ws ss lk hx => ?_, ?_⟩
  · rcases List.mem_append.mp hx with h | h
    · exact G.W x h
    · rw [List.mem_singleton] at h; subst h; exact hW
  · rcases List.mem_append.mp hx with h | h
    · exact G.ok x h
    · rw [List.mem_singleton] at h; subst h; exact hok
  · rcases List.mem_append.mp hx with h | h
    · exact G.rk _ _ _ _ _ h
    · rw [List.mem_singleton] at h; exact hrk _ _ _ _ _ h.symm
  · rintro ⟨x, hx, hn⟩
    have old : (∃ x ∈ rs, x.isNm = true) → ∃ m rk ws ss lk, Row.nm m rk ws ss lk ∈ rs ++ [r] ∧ ss ≠ [] := fun h => by
      obtain ⟨m, rk, ws, ss, lk, h1, h2⟩ := G.own h
      exact ⟨m, rk, ws, ss, lk, List.mem_append_left _ h1, h2⟩
    rcases List.mem_append.mp hx with h | h
    · exact old ⟨x, h, hn⟩
    · rw [List.mem_singleton] at h; subst h
      rcases hown hn with ⟨m, rk, ws, ss, lk, e, h2⟩ | h
      · exact ⟨m, rk, ws, ss, lk, List.mem_append_right _ (by rw [e]; exact List.mem_singleton.mpr rfl), h2⟩
      · exact old h
theorem round_ok {lot : List Str} {at_ : Int} {many : Nat} (a0 : 0 ≤ at_) (m1 : 1 ≤ many) (m3 : many ≤ 3) (ll : lot.length = 6) (nd : lot.Nodup) (wl : ∀ s ∈ lot, IsW s) : SheetsOk (roundL lot at_ many) := by
  have hlen : (roundL lot at_ many).length = many := by unfold roundL; rw [List.length_map, List.length_range]
  have bnd : ∀ j : Nat, 0 ≤ (at_ + (0 + (j : Int))) % (lot.length : Int) ∧ (at_ + (0 + (j : Int))) % (lot.length : Int) < 6 := fun j => by rw [ll]; omega
  refine ⟨fun z => by rw [z] at hlen; simp at hlen; omega, by omega, ?_, fun s hs => ?_⟩
  · refine nd_of fun i j s u ij hi hj e => ?_
    subst e
    have hj' := (List.getElem?_eq_some_iff.mp hj).1
    rw [hlen] at hj'
    unfold roundL at hi hj
    rw [List.getElem?_map, List.getElem?_range (by omega)] at hi hj
    have e : lot.getD ((at_ + (0 + (i : Int))) % (lot.length : Int)).toNat ("" : Str) = lot.getD ((at_ + (0 + (j : Int))) % (lot.length : Int)).toNat ("" : Str) := (Option.some.inj hi).trans (Option.some.inj hj).symm
    have b1 := bnd i
    have b2 := bnd j
    have h1 := getD_some (xs := lot) ("" : Str) (i := ((at_ + (0 + (i : Int))) % (lot.length : Int)).toNat) (by omega)
    have h2 := getD_some (xs := lot) ("" : Str) (i := ((at_ + (0 + (j : Int))) % (lot.length : Int)).toNat) (by omega)
    rw [e] at h1
    obtain ⟨p1, q1⟩ := List.getElem?_eq_some_iff.mp h1
    obtain ⟨p2, q2⟩ := List.getElem?_eq_some_iff.mp h2
    have := (List.getElem_inj nd).mp (q1.trans q2.symm)
    rw [ll] at this b1 b2
    omega
  · unfold roundL at hs
    obtain ⟨j, _, rfl⟩ := List.mem_map.mp hs
    exact isW_at wl (by have := bnd j; omega)
def spRecord : Sp := fun vs H Q _ => ∃ (p c : Addr) (b : Int) (a am fa oa la : Addr) (m : Mo) (rs : List Row) (fs os lot : List Str), vs = [.ref p, .ref a, .ref am, .ref fa, .ref oa, .ref la] ∧ Pen H p c b ∧ b ≤ 100000000 ∧ Ls H a (rs.map Row.d) ∧ H am = some (.tup [.int m.1, .int m.2]) ∧
  H fa = some (.lst (fs.map V.str)) ∧ H oa = some (.lst (os.map V.str)) ∧ H la = some (.lst (lot.map V.str)) ∧ fs.length = 2 ∧ os.length = 3 ∧ lot.length = 6 ∧ lot.Nodup ∧ (∀ s ∈ fs, IsW s) ∧ (∀ s ∈ os, IsW s) ∧ (∀ s ∈ lot, IsW s) ∧ MoOk m ∧ rs.length ≤ 40 ∧ Good rs ∧ (∀ r ∈ rs, mLt r.mo m) ∧
  ∀ H' v r, Kp p H H' → Pen H' p c (b + 20) → Tp H' v r.d → r.mo = m → CanTell rs r → Good (rs ++ [r]) → Q v H'
section
variable {P : Program} {w : World} {K : PySem.W.Frag} {mg : Str → Option Value} {base : Heap}
abbrev s__law_record : Stmt := top 32
theorem sc__law_record : FnScope ["_law_pen_here", "_law_rows", "_law_moment", "_law_firsts", "_law_owns", "_law_lot", "_law_names_here", "_law_way", "_law_many", "_law_at", "_law_some", "_law_one", "_law_level", "_law_own", "_law_base", "_law_alike", "_law_row_here", "_law_j"] ["_law_pen_here", "_law_rows", "_law_moment", "_law_firsts", "_law_owns", "_law_lot"] (defScope s__law_record) := ⟨rfl, rfl, rfl, by decide +kernel, rfl, by decide +kernel, by decide +kernel⟩
theorem ok__law_record {f : Addr} {fd : FuncData} (F : Fun K "_law_record" "_law_record" s__law_record f fd) (m_len : mg "len" = none) (m_tuple : mg "tuple" = none) (m_range : mg "range" = none) (m_min : mg "min" = none) (c__law_draw : C8.Cal P w K mg base 1 "_law_draw" spDraw []) : FnOk P w K mg base CX0 2 f fd ["_law_pen_here", "_law_rows", "_law_moment", "_law_firsts", "_law_owns", "_law_lot"] spRecord := by
  refine F.ok sc__law_record (fun vs H Q E h => ?_) (fun cdv A outer s H vs Q E hr h => ?_)
  · obtain ⟨p, c, b, a, am, fa, oa, la, m, rs, fs, os, lot, rfl, _⟩ := h; rfl
  · obtain ⟨p, c, b, a, am, fa, oa, la, m, rs, fs, os, lot, rfl, pen, hb, hls, ham, hfa, hoa, hla, lf, lo, ll, ndl, wf, wo, wl, hmo, h40, G, hlt, k⟩ := h
    refine ⟨_, (pss_cons (ps_setLc (i := 6) (own := [("_law_row_here", 16)]) (g := gName 16) rfl sc__law_record.nd rfl rfl (sw_true rfl rfl rfl (by decide +kernel)) (pi_list (pv 1)) (blkOk_by (own := [("_law_row_here", 16)]) (N := ["_law_pen_here", "_law_rows", "_law_moment", "_law_firsts", "_law_owns", "_law_lot", "_law_names_here", "_law_way", "_law_many", "_law_at", "_law_some", "_law_one", "_law_level", "_law_own", "_law_base", "_law_alike", "_law_row_here", "_law_j"]) (sc := defScope s__law_record) (by decide +kernel)) (fun _ _ _ _ _ => pg_name (i := 16) sc__law_record.nd rfl (Or.inl rfl)) (fun _ _ _ _ _ => (pts_one (pt_cmpR op_eq (pe_ix (ix_tupK K) (pv 16) pe_int (fun _ _ => rfl)) pe_str (nomark _)))) (fun _ _ _ _ _ => (pv 16)))
      (pss_cons (ps_set (i := 7) sc__law_record.nd rfl (Or.inl rfl) (C8.pe_c c__law_draw hr (by decide) rfl (pa_cons (pv 0) (pa_cons pe_int pa_nil))))
      (pss_cons (ps_if (PW.pt (pw_or (pt_cmpR op_lt (pv 7) pe_int (nomark _)) (pw_or1 (pt_cmpR (op_eqD hr.units) (pv 6) (pe_lst pa_nil) (nomark _))))) (pss_cons (ps_set (i := 8) sc__law_record.nd rfl (Or.inl rfl) (pe_op op_add pe_int (pe_ix ix_list (pe_lst (pa_cons pe_int (pa_cons pe_int (pa_cons (C8.pe_c c__law_draw hr (by decide) rfl (pa_cons (pv 0) (pa_cons pe_int pa_nil))) pa_nil)))) (C8.pe_c c__law_draw hr (by decide) rfl (pa_cons (pv 0) (pa_cons pe_int pa_nil))) (fun _ _ => rfl))))
      (pss_cons (ps_set (i := 9) sc__law_record.nd rfl (Or.inr rfl) (C8.pe_c c__law_draw hr (by decide) rfl (pa_cons (pv 0) (pa_cons (pe_callB call_len_seq (by rfl) m_len (by decide +kernel) (pa_cons (pv 5) pa_nil)) pa_nil))))
      (pss_cons (ps_set (i := 10) sc__law_record.nd rfl (Or.inl rfl) (pe_callTy call_tuple_of (by rfl) m_tuple (by decide +kernel) (pa_cons (pe_lc (own := [("_law_j", 17)]) (g := gName 17) (tt := tYes) rfl sc__law_record.nd (pi_range1 rfl m_range (pa_cons (pv 8) pa_nil)) (blkOk_by (own := [("_law_j", 17)]) (N := ["_law_pen_here", "_law_rows", "_law_moment", "_law_firsts", "_law_owns", "_law_lot", "_law_names_here", "_law_way", "_law_many", "_law_at", "_law_some", "_law_one", "_law_level", "_law_own", "_law_base", "_law_alike", "_law_row_here", "_law_j"]) (sc := defScope s__law_record) (by decide +kernel)) (fun _ _ _ _ _ => pg_name (i := 17) sc__law_record.nd rfl (Or.inl rfl)) (fun _ _ _ _ _ => pts_nil) (fun _ _ _ _ _ => (pe_ix (ix_listK K) (pv 5) (pe_op op_mod (pe_op op_add (pv 9) (pv 17)) (pe_callB (call_len_seqK K) (by rfl) m_len (by decide +kernel) (pa_cons (pv 5) pa_nil))) (fun _ _ => rfl)))) pa_nil)))
      (pss_one (ps_ret (pe_tup (pa_cons pe_str (pa_cons (pv 2) (pa_cons pe_int (pa_cons (pe_tup (pa_cons (pe_ix ix_list (pv 3) (C8.pe_c c__law_draw hr (by decide) rfl (pa_cons (pv 0) (pa_cons pe_int pa_nil))) (fun _ _ => rfl)) (pa_cons (pe_ix ix_list (pv 4) (C8.pe_c c__law_draw hr (by decide) rfl (pa_cons (pv 0) (pa_cons pe_int pa_nil))) (fun _ _ => rfl)) pa_nil))) (pa_cons (pv 10) (pa_cons pe_non pa_nil)))))))))))) pss_nil)
      (pss_cons (ps_set (i := 11) sc__law_record.nd rfl (Or.inr rfl) (pe_ix ix_list (pv 6) (C8.pe_c c__law_draw hr (by decide) rfl (pa_cons (pv 0) (pa_cons (pe_callB call_len_seq (by rfl) m_len (by decide +kernel) (pa_cons (pv 6) pa_nil)) pa_nil))) (fun _ _ => rfl)))
      (pss_cons (ps_if (PW.pt (pw_and (pt_cmpR op_eq (pv 7) pe_int (nomark _)) (pw_and1 (pt_cmpR op_eq (pe_ix ix_tup (pv 11) pe_int (fun _ _ => rfl)) pe_int (nomark _))))) (pss_one (ps_ret (pe_tup (pa_cons pe_str (pa_cons (pv 2) (pa_cons pe_int (pa_cons (pe_tup (pa_cons (pe_ix ix_list (pv 3) (C8.pe_c c__law_draw hr (by decide) rfl (pa_cons (pv 0) (pa_cons pe_int pa_nil))) (fun _ _ => rfl)) (pa_cons (pe_ix ix_list (pv 4) (C8.pe_c c__law_draw hr (by decide) rfl (pa_cons (pv 0) (pa_cons pe_int pa_nil))) (fun _ _ => rfl)) pa_nil))) (pa_cons (pe_tup pa_nil) (pa_cons (pe_ix ix_tup (pv 11) pe_int (fun _ _ => rfl)) pa_nil))))))))) pss_nil)
      (pss_cons (ps_if (PW.pt (pw_and (pt_cmpR op_lt (pv 7) pe_int (nomark _)) (pw_and1 (pt_cmpR op_lt (pe_ix ix_tup (pv 11) pe_int (fun _ _ => rfl)) pe_int (nomark _))))) (pss_cons (ps_set (i := 12) sc__law_record.nd rfl (Or.inl rfl) (pe_callB (call_min2 rfl) (by rfl) m_min (by decide +kernel) (pa_cons pe_int (pa_cons (pe_op op_add (pe_op op_add (pe_ix ix_tup (pv 11) pe_int (fun _ _ => rfl)) pe_int) (pe_ix ix_list (pe_lst (pa_cons pe_int (pa_cons pe_int (pa_cons (C8.pe_c c__law_draw hr (by decide) rfl (pa_cons (pv 0) (pa_cons pe_int pa_nil))) pa_nil)))) (C8.pe_c c__law_draw hr (by decide) rfl (pa_cons (pv 0) (pa_cons pe_int pa_nil))) (fun _ _ => rfl))) pa_nil))))
      (pss_one (ps_ret (pe_tup (pa_cons pe_str (pa_cons (pv 2) (pa_cons (pv 12) (pa_cons (pe_tup (pa_cons (pe_ix ix_list (pv 3) (C8.pe_c c__law_draw hr (by decide) rfl (pa_cons (pv 0) (pa_cons pe_int pa_nil))) (fun _ _ => rfl)) pa_nil)) (pa_cons (pe_tup pa_nil) (pa_cons (pe_ix ix_tup (pv 11) pe_int (fun _ _ => rfl)) pa_nil)))))))))) pss_nil)
      (pss_cons (ps_if (pt_cmpR op_eq (pv 7) pe_int (nomark _)) (pss_cons (ps_setLc (i := 13) (own := [("_law_row_here", 16)]) (g := gName 16) rfl sc__law_record.nd rfl rfl (sw_true rfl rfl rfl (by decide +kernel)) (pi_list (pv 6)) (blkOk_by (own := [("_law_row_here", 16)]) (N := ["_law_pen_here", "_law_rows", "_law_moment", "_law_firsts", "_law_owns", "_law_lot", "_law_names_here", "_law_way", "_law_many", "_law_at", "_law_some", "_law_one", "_law_level", "_law_own", "_law_base", "_law_alike", "_law_row_here", "_law_j"]) (sc := defScope s__law_record) (by decide +kernel)) (fun _ _ _ _ _ => pg_name (i := 16) sc__law_record.nd rfl (Or.inl rfl)) (fun _ _ _ _ _ => (pts_one (pt_cmpR (op_neDK K hr.units) (pe_ix (ix_tupK K) (pv 16) pe_int (fun _ _ => rfl)) (pe_tup pa_nil) (nomark _)))) (fun _ _ _ _ _ => (pv 16)))
      (pss_cons (ps_set (i := 14) sc__law_record.nd rfl (Or.inl rfl) (pe_ix ix_list (pv 13) (C8.pe_c c__law_draw hr (by decide) rfl (pa_cons (pv 0) (pa_cons (pe_callB call_len_seq (by rfl) m_len (by decide +kernel) (pa_cons (pv 13) pa_nil)) pa_nil))) (fun _ _ => rfl)))
      (pss_one (ps_ret (pe_tup (pa_cons pe_str (pa_cons (pv 2) (pa_cons (pe_ix ix_tup (pv 14) pe_int (fun _ _ => rfl)) (pa_cons (pe_ix ix_tup (pe_ix ix_tup (pv 14) pe_int (fun _ _ => rfl)) (C8.pe_c c__law_draw hr (by decide) rfl (pa_cons (pv 0) (pa_cons (pe_callB call_len_seq (by rfl) m_len (by decide +kernel) (pa_cons (pe_ix ix_tup (pv 14) pe_int (fun _ _ => rfl)) pa_nil)) pa_nil))) (fun _ _ => rfl)) pa_nil))))))))) pss_nil)
      (pss_cons (ps_setLc (i := 15) (own := [("_law_row_here", 16)]) (g := gName 16) rfl sc__law_record.nd rfl rfl (sw_true rfl rfl rfl (by decide +kernel)) (pi_list (pv 6)) (blkOk_by (own := [("_law_row_here", 16)]) (N := ["_law_pen_here", "_law_rows", "_law_moment", "_law_firsts", "_law_owns", "_law_lot", "_law_names_here", "_law_way", "_law_many", "_law_at", "_law_some", "_law_one", "_law_level", "_law_own", "_law_base", "_law_alike", "_law_row_here", "_law_j"]) (sc := defScope s__law_record) (by decide +kernel)) (fun _ _ _ _ _ => pg_name (i := 16) sc__law_record.nd rfl (Or.inl rfl)) (fun _ _ _ _ _ => (pts_one (PW.pt (pw_and (pt_cmpR op_eq (pe_ix (ix_tupK K) (pv 16) pe_int (fun _ _ => rfl)) (pe_ix (ix_tupK K) (pv 11) pe_int (fun _ _ => rfl)) (nomark _)) (pw_and1 (pt_cmpR (op_neDK K hr.units) (pe_ix (ix_tupK K) (pv 16) pe_int (fun _ _ => rfl)) (pe_ix (ix_tupK K) (pv 11) pe_int (fun _ _ => rfl)) (nomark _))))))) (fun _ _ _ _ _ => (pe_ix (ix_tupK K) (pv 16) pe_int (fun _ _ => rfl))))
      (pss_cons (ps_if (PW.pt (pw_or (pt_cmpR op_eq (pv 7) pe_int (nomark _)) (pw_or1 (pt_cmpR (op_eqD hr.units) (pv 15) (pe_lst pa_nil) (nomark _))))) (pss_one (ps_ret (pe_tup (pa_cons pe_str (pa_cons (pv 2) (pa_cons (pe_ix ix_tup (pv 11) pe_int (fun _ _ => rfl)) (pa_cons (pe_cmpR op_eq (C8.pe_c c__law_draw hr (by decide) rfl (pa_cons (pv 0) (pa_cons pe_int pa_nil))) pe_int (nomark _)) pa_nil))))))) pss_nil)
      (pss_one (ps_ret (pe_tup (pa_cons pe_str (pa_cons (pv 2) (pa_cons (pe_ix ix_tup (pv 11) pe_int (fun _ _ => rfl)) (pa_cons (pe_ix ix_list (pv 15) (C8.pe_c c__law_draw hr (by decide) rfl (pa_cons (pv 0) (pa_cons (pe_callB call_len_seq (by rfl) m_len (by decide +kernel) (pa_cons (pv 15) pa_nil)) pa_nil))) (fun _ _ => rfl)) pa_nil)))))))))))))))), ?_⟩
    obtain ⟨xs, hx, rx⟩ := id hls
    have hxl : xs.length = rs.length := by rw [rx.len, List.length_map]
    refine ⟨_, rfl, a, rfl, ⟨_, SqL.of hx⟩, fun D hD => ?_⟩
    refine lc_list (K := K) (a := a) (xs := xs) (fun i H' => Same H H' ∧ Ls H' D (((rs.take i).filter Row.isNm).map Row.d)) (pick_zero hD) (fun i H' _ q => SqL.of (q.1 _ _ hx)) ?_ ?_
    · rintro i x H' hi Pi
      obtain ⟨r2, hr2, t0⟩ := data_at rx hi
      have t1 := t0.to (TK.of Pi.1)
      obtain ⟨t, ys, rfl, ht, ry⟩ := Tp.inv (id t1)
      obtain ⟨v0, a0, t0'⟩ := Tp.at (K := K) ht ry r2.ds0
      cases Tp.str_inv t0'
      refine ⟨rfl, _, rfl, _, _, _, _, rfl, rfl, SqT.of ht, a0, rfl, _, rfl, ?_⟩
      rw [sort_nm]
      refine ite2 (fun q => ?_) (fun q => pick_no Pi hr2 q)
      exact ⟨_, rfl, pick_yes hD (by omega) Pi hr2 q t1⟩
    rintro H1 ⟨s1, lsN⟩
    rw [hxl, List.take_length] at lsN
    have memN : ∀ r, r ∈ rs.filter Row.isNm ↔ r ∈ rs ∧ r.isNm = true := fun r => List.mem_filter
    have hNl : (rs.filter Row.isNm).length ≤ 40 := Nat.le_trans (List.length_filter_le _ _) h40
    generalize rs.filter Row.isNm = N at lsN memN hNl
    have pen1 := pen.to s1
    refine ⟨_, rfl, p, c, _, 10, rfl, pen1, by omega, by decide, by decide, fun H2 way k2 pen2 w0 w1 => ?_⟩
    have k02 : Kp p H H2 := (Kp.of s1).trans k2
    have fresh : ∀ {t : List Row}, m ∉ rs.map Row.mo := fun {_} z => by
      obtain ⟨r, hr', e⟩ := List.mem_map.mp z
      have := hlt r hr'
      rw [e] at this; exact mLt.irr this
    -- what every way needs of the heap
    have keep : ∀ {H'}, Kp p H2 H' → H' am = some (.tup [.int m.1, .int m.2]) ∧ H' fa = some (.lst (fs.map V.str)) ∧ H' oa = some (.lst (os.map V.str)) ∧ H' la = some (.lst (lot.map V.str)) ∧ Ls H' D (N.map Row.d) := fun {H'} k3 =>
      have kk := k02.trans k3
      ⟨pen.tk kk _ _ ham, kk _ _ (pen.ne hfa) hfa, kk _ _ (pen.ne hoa) hoa, kk _ _ (pen.ne hla) hla, lsN.kp pen1 (k2.trans k3)⟩
    have fin : ∀ H' v r, Kp p H2 H' → Pen H' p c (b + 20) → Tp H' v r.d → r.mo = m → CanTell rs r → Good (rs ++ [r]) → Q v H' := fun H' v r k3 pen3 => k H' v r (k02.trans k3) pen3
    refine ⟨_, rfl, _, _, rfl, rfl, _, rfl, ?_⟩
    refine ite2 (fun q1 => ?wA) (fun q1 => ?wB)
    case' wB =>
      obtain ⟨_, _, _, _, lsN2⟩ := keep (Kp.refl p H2)
      refine ⟨_, rfl, Nat.zero_le _, fun Z hZ => ?_⟩
      have sZ : Same H2 (upd H2 Z (.lst [])) := Same.new hZ
      have lZ : Ls (upd H2 Z (.lst [])) Z [] := ⟨_, upd_same, .nil⟩
      have wordsN : ∀ r ∈ N, RowW r ∧ r.isNm = true := fun r h => ⟨G.W r ((memN r).mp h).1, ((memN r).mp h).2⟩
      refine ⟨_, _, (lsN2.to sZ).dp, lZ.dp, shaped_nms wordsN, rfl, _, rfl, ?_⟩
      rw [rows_nil]
      refine ite2 (fun e => ?wC) (fun e => ?wD)
    case' wA =>
      obtain ⟨H3, e3, k3, pen3⟩ : ∃ H3, H3 = H2 ∧ Kp p H2 H3 ∧ Pen H3 p c (b + 1) := ⟨H2, rfl, Kp.refl _ _, pen2⟩
      rw [← e3]
      refine iteT ?_
    case' wC =>
      obtain ⟨H3, e3, k3, pen3⟩ : ∃ H3, H3 = upd H2 Z (.lst []) ∧ Kp p H2 H3 ∧ Pen H3 p c (b + 1) := ⟨_, rfl, Kp.of sZ, pen2.to sZ⟩
      rw [← e3]
    case wD =>
      have hN0 : N ≠ [] := fun z => e (decide_eq_true z)
      have hNp : 0 < N.length := List.length_pos_iff.mpr hN0
      have kZ : Kp p H2 (upd H2 Z (.lst [])) := Kp.of sZ
      have penZ := pen2.to sZ
      generalize upd H2 Z (.lst []) = HZ at kZ penZ ⊢
      obtain ⟨_, _, _, _, nx, hnx, rnx⟩ := keep kZ
      have hnl : nx.length = N.length := by rw [rnx.len, List.length_map]
      refine ⟨_, rfl, _, rfl, _, rfl, _, _, rfl, .inl (SqL.of hnx), p, c, _, _, rfl, penZ, by omega, by omega, by omega, fun H4 r4 k4 pen4 r40 r41 => ?_⟩
      have k24 := kZ.trans k4
      obtain ⟨ham4, hfa4, hoa4, hla4, nx4, hnx4, rnx4⟩ := keep k24
      have hnl4 : nx4.length = N.length := by rw [rnx4.len, List.length_map]
      obtain ⟨x, ex, ex'⟩ := atI_in (xs := nx4) r40 (by omega)
      obtain ⟨r1, hr1, tx⟩ := data_at rnx4 ex'
      refine ⟨D, _, _, _, rfl, rfl, SqL.of hnx4, ex, ?_⟩
      obtain ⟨hr1s, hr1n⟩ := (memN r1).mp (List.mem_of_getElem? hr1)
      cases r1 with
      | ch => cases hr1n
      | st => cases hr1n
      | ah => cases hr1n
      | nm n rk ws ss lk =>
        obtain ⟨t, ts, rfl, ht, rt⟩ := Tp.inv (id tx)
        obtain ⟨v1, a1, t1⟩ := Tp.at (K := K) (i := 1) (d := mD n) ht rt rfl
        obtain ⟨an, rfl, han⟩ := Tp.mo_inv t1
        obtain ⟨v2, a2, t2⟩ := Tp.at (K := K) (i := 2) (d := .int rk) ht rt rfl
        cases Tp.int_inv t2
        have hnm : mLt n m := hlt _ hr1s
        have hnl' : ¬ mLt m n := fun z => mLt.irr (z.trans hnm)
        have hrk := G.rk _ _ _ _ _ hr1s
        have hnok : MoOk n := G.ok _ hr1s
        have hown := G.own ⟨_, hr1s, rfl⟩
        -- way 4
        refine ⟨_, rfl, rfl, _, rfl, ?_⟩
        refine share (fun rest => ite2 (fun q4 => ⟨_, rfl, _, _, _, _, rfl, rfl, SqT.of ht, a2, rfl, _, rfl, ite2 (fun q5 => ?_) (fun _ => rest)⟩) (fun _ => rest)) ?_
        · have hrk0 : rk = 0 := by have := of_decide_eq_true q5; injection this
          refine ⟨_, rfl, _, rfl, _, rfl, p, c, _, 2, rfl, pen4, by omega, by decide, by decide, fun H9 r9 k9 pen9 r90 r91 => ?_⟩
          obtain ⟨ham9, hfa9, hoa9, hla9, lsN9⟩ := keep (k24.trans k9)
          refine ⟨fa, _, _, _, rfl, rfl, SqL.of hfa9, str_at r90 (by omega), ?_⟩
          refine ⟨_, rfl, _, rfl, p, c, _, 3, rfl, pen9, by omega, by decide, by decide, fun H10 r10 k10 pen10 r100 r101 => ?_⟩
          obtain ⟨ham10, hfa10, hoa10, hla10, lsN10⟩ := keep (k24.trans (k9.trans k10))
          refine ⟨oa, _, _, _, rfl, rfl, SqL.of hoa10, str_at r100 (by omega), ?_⟩
          refine ⟨by show 2 ≤ sizeLine; decide, fun tw htw => ?_⟩
          refine ⟨Nat.zero_le _, fun te hte => ?_⟩
          have tk4 : TK H4 H10 := pen4.tk (k9.trans k10)
          have hw1 : IsW (fs.getD r9.toNat "") := isW_at wf (by omega)
          have hw2 : IsW (os.getD r10.toNat "") := isW_at wo (by omega)
          generalize fs.getD r9.toNat "" = w1 at *
          generalize os.getD r10.toNat "" = w2 at *
          have sW : Same H10 (upd H10 tw (.tup [.str w1, .str w2])) := Same.new htw
          have sE := sW.trans (Same.new (o := .tup []) hte)
          refine ⟨_, rfl, _, _, _, _, rfl, rfl, SqT.of (sE _ _ (tk4 _ _ ht)), a1, by show 6 ≤ sizeLine; decide, fun t9 ht9 => ?_⟩
          have sT := sE.trans (Same.new (o := .tup [.str "name", .ref am, .int 0, .ref tw, .ref te, .ref an]) ht9)
          have ntw : tw ≠ te := fun z => by subst z; rw [upd_same] at hte; cases hte
          have ntw9 : tw ≠ t9 := fun z => by subst z; rw [upd_ne ntw, upd_same] at ht9; cases ht9
          have nte9 : te ≠ t9 := fun z => by subst z; rw [upd_same] at ht9; cases ht9
          refine fin _ _ (.nm m 0 [w1, w2] [] (some n)) (k24.trans (k9.trans (k10.trans (Kp.of sT)))) ((pen10.to sT).up (by omega)) (.tup upd_same (.cons (.str _) (.cons (Tp.mo (m := m) (sT _ _ ham10)) (.cons (.int _) (.cons (.tup (by rw [upd_ne ntw9, upd_ne ntw, upd_same]; rfl) (TpAll.strs [w1, w2])) (.cons (.tup (by rw [upd_ne nte9, upd_same]; rfl) (TpAll.strs [])) (.cons (Tp.mo (m := n) (sT _ _ (tk4 _ _ han))) .nil))))))) rfl ?_ ?_
          · refine ⟨hmo, fresh (t := []), by omega, ⟨by decide, by decide, rfl, fun x hx => ?_, .inr ⟨rfl, n, rfl, hnok⟩⟩, fun l e => ?_⟩
            · rcases List.mem_cons.mp hx with rfl | hx
              · exact hw1
              · rw [List.mem_singleton] at hx; subst hx; exact hw2
            · cases e
              exact ⟨hnl', rk, ws, ss, lk, hr1s, by rw [if_pos rfl]; exact decide_eq_true hrk0⟩
          · refine G.add ⟨Nat.le_refl 2, fun x hx => ?_, (fun x hx => by cases hx), Nat.zero_le _⟩ hmo (fun m' rk' ws' ss' lk' e => by cases e; omega) (fun _ => .inr ⟨_, hr1s, rfl⟩)
            rcases List.mem_cons.mp hx with rfl | hx
            · exact hw1
            · rw [List.mem_singleton] at hx; subst hx; exact hw2
        -- ways 4 and 5
        refine ⟨_, rfl, _, _, rfl, rfl, _, rfl, ?_⟩
        refine share (fun rest => ite2 (fun q4 => ⟨_, rfl, _, _, _, _, rfl, rfl, SqT.of ht, a2, _, _, rfl, rfl, _, rfl, ite2 (fun q5 => ?_) (fun _ => rest)⟩) (fun _ => rest)) ?_
        · have hrk5 : rk < 5 := of_decide_eq_true q5
          refine ⟨_, rfl, _, _, _, _, rfl, rfl, SqT.of ht, a2, _, _, rfl, rfl, ?_⟩
          refine ⟨_, rfl, p, c, _, 3, rfl, pen4, by omega, by decide, by decide, fun H5 r5 k5 pen5 r50 r51 => ?_⟩
          refine ⟨by show 3 ≤ sizeLine; decide, fun L hL => ?_⟩
          have nL := pen5.off hL
          refine ⟨_, rfl, p, c, _, 3, rfl, pen5.put nL, by omega, by decide, by decide, fun H6 r6 k6 pen6 r60 r61 => ?_⟩
          obtain ⟨mf, emf, hmf⟩ := z3_at (d := r5) r60 r61
          refine ⟨L, _, _, _, rfl, rfl, SqL.of (k6 _ _ nL.1 upd_same), emf, _, _, rfl, rfl, _, _, rfl, ?_⟩
          have k46 : Kp p H4 H6 := k5.trans ((Kp.new hL).trans k6)
          have hlv : rk < (if rk + 1 + mf < 5 then rk + 1 + mf else 5) ∧ (if rk + 1 + mf < 5 then rk + 1 + mf else 5) ≤ 5 := by
            have : 0 ≤ mf := by rcases hmf with e | e <;> omega
            split <;> omega
          generalize (if rk + 1 + mf < 5 then rk + 1 + mf else 5) = lv at hlv ⊢
          refine ⟨_, rfl, _, rfl, _, rfl, _, rfl, p, c, _, 2, rfl, pen6, by omega, by decide, by decide, fun H9 r9 k9 pen9 r90 r91 => ?_⟩
          obtain ⟨ham9, hfa9, hoa9, hla9, lsN9⟩ := keep (k24.trans (k46.trans k9))
          refine ⟨fa, _, _, _, rfl, rfl, SqL.of hfa9, str_at r90 (by omega), ?_⟩
          refine ⟨by show 1 ≤ sizeLine; decide, fun tw htw => ?_⟩
          refine ⟨Nat.zero_le _, fun te hte => ?_⟩
          have tk4 : TK H4 H9 := pen4.tk (k46.trans k9)
          have hw1 : IsW (fs.getD r9.toNat "") := isW_at wf (by omega)
          generalize fs.getD r9.toNat "" = w1 at *
          have sW : Same H9 (upd H9 tw (.tup [.str w1])) := Same.new htw
          have sE := sW.trans (Same.new (o := .tup []) hte)
          refine ⟨_, rfl, _, _, _, _, rfl, rfl, SqT.of (sE _ _ (tk4 _ _ ht)), a1, by show 6 ≤ sizeLine; decide, fun t9 ht9 => ?_⟩
          have sT := sE.trans (Same.new (o := .tup [.str "name", .ref am, .int lv, .ref tw, .ref te, .ref an]) ht9)
          have ntw : tw ≠ te := fun z => by subst z; rw [upd_same] at hte; cases hte
          have ntw9 : tw ≠ t9 := fun z => by subst z; rw [upd_ne ntw, upd_same] at ht9; cases ht9
          have nte9 : te ≠ t9 := fun z => by subst z; rw [upd_same] at ht9; cases ht9
          refine fin _ _ (.nm m lv [w1] [] (some n)) (k24.trans (k46.trans (k9.trans (Kp.of sT)))) ((pen9.to sT).up (by omega)) (.tup upd_same (.cons (.str _) (.cons (Tp.mo (m := m) (sT _ _ ham9)) (.cons (.int _) (.cons (.tup (by rw [upd_ne ntw9, upd_ne ntw, upd_same]; rfl) (TpAll.strs [w1])) (.cons (.tup (by rw [upd_ne nte9, upd_same]; rfl) (TpAll.strs [])) (.cons (Tp.mo (m := n) (sT _ _ (tk4 _ _ han))) .nil))))))) rfl ?_ ?_
          · refine ⟨hmo, fresh (t := []), by omega, ⟨by omega, by omega, by rw [if_neg (by omega)]; rfl, fun x hx => ?_, .inr ⟨rfl, n, rfl, hnok⟩⟩, fun l e => ?_⟩
            · rw [List.mem_singleton] at hx; subst hx; exact hw1
            · cases e
              exact ⟨hnl', rk, ws, ss, lk, hr1s, by rw [if_neg (by omega)]; exact decide_eq_true hlv.1⟩
          · refine G.add ⟨(by decide : 1 ≤ 2), fun x hx => ?_, (fun x hx => by cases hx), Nat.zero_le _⟩ hmo (fun m' rk' ws' ss' lk' e => by cases e; omega) (fun _ => .inr ⟨_, hr1s, rfl⟩)
            rw [List.mem_singleton] at hx; subst hx; exact hw1
        -- way 6
        refine ⟨_, rfl, rfl, _, rfl, ?_⟩
        refine ite2 (fun q6 => ?_) (fun q6 => ?_)
        · refine ⟨_, rfl, D, rfl, ⟨_, SqL.of hnx4⟩, fun D6 hD6 => ?_⟩
          have wordsN := fun r (h : r ∈ N) => (⟨G.W r ((memN r).mp h).1, ((memN r).mp h).2⟩ : RowW r ∧ r.isNm = true)
          refine lc_list (K := K) (a := D) (xs := nx4) (fun i H' => Same H4 H' ∧ Ls H' D6 (((N.take i).filter ownB).map Row.d)) (pick_zero hD6) (fun i H' _ q => SqL.of (q.1 _ _ hnx4)) ?_ ?_
          · rintro i x H' hi Pi
            obtain ⟨r2, hr2, t0⟩ := data_at rnx4 hi
            obtain ⟨hW2, hn2⟩ := wordsN r2 (List.mem_of_getElem? hr2)
            have t1' := t0.to (TK.of Pi.1)
            obtain ⟨t', ys, rfl, ht', ry⟩ := Tp.inv (id t1')
            cases r2 with
            | ch => cases hn2
            | st => cases hn2
            | ah => cases hn2
            | nm n2 rk2 ws2 ss2 lk2 =>
              obtain ⟨v4, a4, t4⟩ := Tp.at (K := K) (i := 4) (d := .tuple (ss2.map PyData.str)) ht' ry rfl
              refine ⟨rfl, _, rfl, _, _, _, _, rfl, rfl, SqT.of ht', a4, Nat.zero_le _, fun te hte => ?_⟩
              have sE : Same H' (upd H' te (.tup [])) := Same.new hte
              have te0 : Tp (upd H' te (.tup [])) (.ref te) (.tuple (([] : List Str).map PyData.str)) := .tup upd_same .nil
              have P2 : Same H4 (upd H' te (.tup [])) ∧ Ls (upd H' te (.tup [])) D6 (((N.take i).filter ownB).map Row.d) := ⟨Pi.1.trans sE, Pi.2.to sE⟩
              refine ⟨_, _, (t4.to (TK.of sE)).d, te0.d, shaped_ws hW2.2.2.1, shaped_ws (fun _ h => by cases h), _, rfl, ?_⟩
              rw [eqv_ws hW2.2.2.1 (fun _ h => by cases h)]
              refine ite2 (fun q => ?_) (fun q => pick_no P2 hr2 q)
              exact ⟨_, rfl, pick_yes hD6 (by omega) P2 hr2 q (t1'.to (TK.of sE))⟩
          rintro H5 ⟨s5, ox, hox, rox⟩
          rw [hnl4, List.take_length] at rox
          have memO : ∀ r ∈ N.filter ownB, r ∈ rs ∧ ∃ m rk ws ss lk, r = Row.nm m rk ws ss lk ∧ ss ≠ [] := fun r h => by
            obtain ⟨h1, h2⟩ := List.mem_filter.mp h
            refine ⟨((memN r).mp h1).1, ?_⟩
            cases r with
            | nm m rk ws ss lk => exact ⟨m, rk, ws, ss, lk, rfl, fun z => by subst z; cases h2⟩
            | _ => cases h2
          have hOp : 0 < (N.filter ownB).length := by
            obtain ⟨m', rk', ws', ss', lk', h1, h2⟩ := hown
            exact List.length_pos_of_mem (List.mem_filter.mpr ⟨(memN _).mpr ⟨h1, rfl⟩, by show (!decide (ss' = [])) = true; rw [decide_eq_false h2]; rfl⟩)
          have hOl : (N.filter ownB).length ≤ 40 := Nat.le_trans (List.length_filter_le _ _) hNl
          generalize N.filter ownB = O at rox memO hOp hOl
          have hol : ox.length = O.length := by rw [rox.len, List.length_map]
          have k25 := k24.trans (Kp.of s5)
          have pen5 := pen4.to s5
          refine ⟨_, rfl, _, rfl, _, rfl, _, _, rfl, .inl (SqL.of hox), p, c, _, _, rfl, pen5, by omega, by omega, by omega, fun H6 r6 k6 pen6 r60 r61 => ?_⟩
          have hox6 := k6 _ _ (pen5.ne hox) hox
          have rox6 := rox.to (pen5.tk k6)
          obtain ⟨y, ey, ey'⟩ := atI_in (xs := ox) r60 (by omega)
          obtain ⟨r2, hr2, ty⟩ := data_at rox6 ey'
          refine ⟨D6, _, _, _, rfl, rfl, SqL.of hox6, ey, ?_⟩
          obtain ⟨hr2s, n2, rk2, ws2, ss2, lk2, rfl, hss2⟩ := memO r2 (List.mem_of_getElem? hr2)
          have hW2 := G.W _ hr2s
          obtain ⟨t', ys, rfl, ht', ry⟩ := Tp.inv ty
          obtain ⟨u1, b1, tu1⟩ := Tp.at (K := K) (i := 1) (d := mD n2) ht' ry rfl
          obtain ⟨an2, rfl, han2⟩ := Tp.mo_inv tu1
          obtain ⟨u4, b4, tu4⟩ := Tp.at (K := K) (i := 4) (d := .tuple (ss2.map PyData.str)) ht' ry rfl
          obtain ⟨sa, rfl, hsa⟩ := Tp.tstr tu4
          have hpos : 0 < ss2.length := List.length_pos_iff.mpr hss2
          obtain ⟨ham6, _, _, _, _⟩ := keep (k25.trans k6)
          refine ⟨_, rfl, _, rfl, _, _, _, _, rfl, rfl, SqT.of ht', b1, _, rfl, _, _, _, _, rfl, rfl, SqT.of ht', b4, _, rfl, _, rfl, _, _, _, _, rfl, rfl, SqT.of ht', b4, _, _, rfl, .inr (SqT.of hsa), p, c, _, _, rfl, pen6, by omega, by rw [List.length_map]; omega, by rw [List.length_map]; have := hW2.2.2.2; omega, fun H7 r7 k7 pen7 r70 r71 => ?_⟩
          rw [List.length_map] at r71
          have tk7 := pen6.tk k7
          refine ⟨sa, _, _, _, rfl, rfl, SqT.of (tk7 _ _ hsa), str_at r70 (by omega), by show 4 ≤ sizeLine; decide, fun t9 ht9 => ?_⟩
          have hz : ss2.getD r7.toNat "" ∈ ss2 := List.mem_of_getElem? (getD_some ("" : Str) (by omega))
          generalize ss2.getD r7.toNat "" = z at hz ⊢
          have sT : Same H7 (upd H7 t9 (.tup [.str "choice", .ref am, .ref an2, .str z])) := Same.new ht9
          refine fin _ _ (.ch m n2 z) (k25.trans (k6.trans (k7.trans (Kp.of sT)))) ((pen7.to sT).up (by omega)) (.tup upd_same (.cons (.str _) (.cons (Tp.mo (m := m) (sT _ _ (tk7 _ _ ham6))) (.cons (Tp.mo (m := n2) (sT _ _ (tk7 _ _ han2))) (.cons (.str _) .nil))))) rfl ?_ ?_
          · exact ⟨hmo, fresh (t := []), by omega, fun z => mLt.irr (z.trans (hlt _ hr2s)), rk2, ws2, ss2, lk2, hr2s, hz, hW2.2.2.1⟩
          · exact G.add (show IsW z from hW2.2.2.1 z hz) hmo (fun _ _ _ _ _ e => by cases e) (fun h => by cases h)
        -- a strike, or one set ahead
        refine ⟨_, rfl, D, rfl, ⟨_, SqL.of hnx4⟩, fun D7 hD7 => ?_⟩
        refine lc_list (K := K) (a := D) (xs := nx4) (fun i H' => Same H4 H' ∧ Ls H' D7 (((N.take i).filter (alikeB n rk)).map fun r => mD r.mo)) (pick_zero hD7) (fun i H' _ q => SqL.of (q.1 _ _ hnx4)) ?_ ?_
        · rintro i x H' hi Pi
          obtain ⟨r2, hr2, t0⟩ := data_at rnx4 hi
          have hn2 := ((memN r2).mp (List.mem_of_getElem? hr2)).2
          obtain ⟨t', ys, rfl, ht', ry⟩ := Tp.inv (t0.to (TK.of Pi.1))
          obtain ⟨u1, b1, tu1⟩ := Tp.at (K := K) ht' ry r2.ds1
          cases r2 with
          | ch => cases hn2
          | st => cases hn2
          | ah => cases hn2
          | nm n2 rk2 ws2 ss2 lk2 =>
            obtain ⟨an2, rfl, han2⟩ := Tp.mo_inv (id tu1)
            obtain ⟨u2, b2, tu2⟩ := Tp.at (K := K) (i := 2) (d := .int rk2) ht' ry rfl
            cases Tp.int_inv tu2
            refine ⟨rfl, _, rfl, _, _, _, _, rfl, rfl, SqT.of ht', b2, _, rfl, _, _, _, _, rfl, rfl, SqT.of (Pi.1 _ _ ht), a2, rfl, _, rfl, ?_⟩
            rw [int_dec]
            refine ite2 (fun q => ?_) (fun q => iteF (pick_no Pi hr2 (by show ¬ (decide (rk2 = rk) && !decide (n2 = n)) = true; rw [Bool.eq_false_iff.mpr q]; simp)))
            refine ⟨_, rfl, _, _, _, _, rfl, rfl, SqT.of ht', b1, _, rfl, _, _, _, _, rfl, rfl, SqT.of (Pi.1 _ _ ht), a1, _, _, tu1.d, (Tp.mo (m := n) (Pi.1 _ _ han)).d, shaped_m _, shaped_m _, _, rfl, ?_⟩
            rw [show mD (Row.nm n2 rk2 ws2 ss2 lk2).mo = mD n2 from rfl, eqv_m]
            refine ite2 (fun y => ?_) (fun y => ?_)
            · exact ⟨_, rfl, _, _, _, _, rfl, rfl, SqT.of ht', b1, pick_yes hD7 (by omega) Pi hr2 (by show (decide (rk2 = rk) && !decide (n2 = n)) = true; rw [q, y]; rfl) tu1⟩
            · exact pick_no Pi hr2 (by show ¬ (decide (rk2 = rk) && !decide (n2 = n)) = true; rw [Bool.eq_false_iff.mpr y]; simp)
        rintro H5 ⟨s5, ax, hax, rax⟩
        rw [hnl4, List.take_length] at rax
        have memA : ∀ r ∈ N.filter (alikeB n rk), ∃ n2 ws2 ss2 lk2, r = Row.nm n2 rk ws2 ss2 lk2 ∧ r ∈ rs ∧ n2 ≠ n := fun r h => by
          obtain ⟨h1, h2⟩ := List.mem_filter.mp h
          cases r with
          | nm n2 rk2 ws2 ss2 lk2 =>
            have h3 : (decide (rk2 = rk) && !decide (n2 = n)) = true := h2
            rw [Bool.and_eq_true] at h3
            have e1 : rk2 = rk := of_decide_eq_true h3.1
            subst e1
            refine ⟨n2, ws2, ss2, lk2, rfl, ((memN _).mp h1).1, fun z => ?_⟩
            rw [decide_eq_true z] at h3
            cases h3.2
          | _ => cases h2
        have hAl : (N.filter (alikeB n rk)).length ≤ 40 := Nat.le_trans (List.length_filter_le _ _) hNl
        generalize N.filter (alikeB n rk) = A7 at rax memA hAl
        have hal : ax.length = A7.length := by rw [rax.len, List.length_map]
        have k25 := k24.trans (Kp.of s5)
        have pen5 := pen4.to s5
        have hnin : n ∈ nms rs := row_nms hr1s
        refine ⟨_, rfl, rfl, _, rfl, ?_⟩
        refine ite2 (fun q7 => ?sA) (fun q7 => ?sB)
        case' sB =>
          refine ⟨_, rfl, Nat.zero_le _, fun Z7 hZ7 => ?_⟩
          have sZ7 : Same H5 (upd H5 Z7 (.lst [])) := Same.new hZ7
          have lZ7 : Ls (upd H5 Z7 (.lst [])) Z7 [] := ⟨_, upd_same, .nil⟩
          have lsA : Ls (upd H5 Z7 (.lst [])) D7 (A7.map fun r => mD r.mo) := Ls.to ⟨ax, hax, rax⟩ sZ7
          have shA : SeqAt.shaped (.list (A7.map fun r => mD r.mo)) = true := by
            have := shaped_ms (A7.map Row.mo)
            rw [List.map_map] at this; exact this
          refine ⟨_, _, lsA.dp, lZ7.dp, shA, rfl, _, rfl, ?_⟩
          rw [mo_nil]
          refine ite2 (fun e7 => ?sC) (fun e7 => ?sD)
        case' sA =>
          obtain ⟨H6, e6, s56⟩ : ∃ H6, H6 = H5 ∧ Same H5 H6 := ⟨H5, rfl, fun _ _ h => h⟩
          rw [← e6]
          refine iteT ?_
        case' sC =>
          obtain ⟨H6, e6, s56⟩ : ∃ H6, H6 = upd H5 Z7 (.lst []) ∧ Same H5 H6 := ⟨_, rfl, sZ7⟩
          rw [← e6]
        case sD =>
          have hA0 : 0 < A7.length := List.length_pos_iff.mpr fun z => e7 (decide_eq_true z)
          obtain ⟨bx, hbx, rbx⟩ := lsA
          have hbl : bx.length = A7.length := by rw [rbx.len, List.length_map]
          have k26 := k25.trans (Kp.of sZ7)
          have pen6 := pen5.to sZ7
          have ht6 := (s5.trans sZ7) _ _ ht
          have han6 := (s5.trans sZ7) _ _ han
          generalize upd H5 Z7 (.lst []) = H6 at hbx rbx k26 pen6 ht6 han6 ⊢
          obtain ⟨ham6, _, _, _, _⟩ := keep k26
          refine ⟨_, rfl, _, rfl, _, _, _, _, rfl, rfl, SqT.of ht6, a1, _, rfl, _, rfl, _, rfl, _, _, rfl, .inl (SqL.of hbx), p, c, _, _, rfl, pen6, by omega, by omega, by omega, fun H7 r7 k7 pen7 r70 r71 => ?_⟩
          have tk7 := pen6.tk k7
          obtain ⟨y, ey, ey'⟩ := atI_in (xs := bx) r70 (by omega)
          obtain ⟨r2, hr2, ty⟩ := data_at (rbx.to tk7) ey'
          obtain ⟨n2, ws2, ss2, lk2, rfl, hr2s, hn2⟩ := memA r2 (List.mem_of_getElem? hr2)
          obtain ⟨an2, rfl, han2⟩ := Tp.mo_inv ty
          refine ⟨D7, _, _, _, rfl, rfl, SqL.of (k7 _ _ (pen6.ne hbx) hbx), ey, by show 4 ≤ sizeLine; decide, fun t9 ht9 => ?_⟩
          have sT : Same H7 (upd H7 t9 (.tup [.str "ahead", .ref am, .ref an, .ref an2])) := Same.new ht9
          refine fin _ _ (.ah m n n2) (k26.trans (k7.trans (Kp.of sT))) ((pen7.to sT).up (by omega)) (.tup upd_same (.cons (.str _) (.cons (Tp.mo (m := m) (sT _ _ (tk7 _ _ ham6))) (.cons (Tp.mo (m := n) (sT _ _ (tk7 _ _ han6))) (.cons (Tp.mo (m := n2) (sT _ _ han2)) .nil))))) rfl ?_ ?_
          · exact ⟨hmo, fresh (t := []), by omega, hnl', fun z => mLt.irr (z.trans (hlt _ hr2s)), hn2.symm, rk, ⟨ws, ss, lk, hr1s⟩, ws2, ss2, lk2, hr2s⟩
          · exact G.add trivial hmo (fun _ _ _ _ _ e => by cases e) (fun h => by cases h)
        all_goals
          have k26 := k25.trans (Kp.of s56)
          have pen6 := pen5.to s56
          have ht6 := (s5.trans s56) _ _ ht
          have han6 := (s5.trans s56) _ _ han
          obtain ⟨ham6, _, _, _, _⟩ := keep k26
          refine ⟨_, rfl, _, rfl, _, _, _, _, rfl, rfl, SqT.of ht6, a1, _, rfl, p, c, _, 2, rfl, pen6, by omega, by decide, by decide, fun H7 r7 k7 pen7 r70 r71 => ?_⟩
          have tk7 := pen6.tk k7
          refine ⟨rfl, by show 4 ≤ sizeLine; decide, fun t9 ht9 => ?_⟩
          have sT : Same H7 (upd H7 t9 (.tup [.str "strike", .ref am, .ref an, .bl (decide (V.int r7 = V.int 1))])) := Same.new ht9
          refine fin _ _ (.st m n (decide (V.int r7 = V.int 1))) (k26.trans (k7.trans (Kp.of sT))) ((pen7.to sT).up (by omega)) (.tup upd_same (.cons (.str _) (.cons (Tp.mo (m := m) (sT _ _ (tk7 _ _ ham6))) (.cons (Tp.mo (m := n) (sT _ _ (tk7 _ _ han6))) (.cons (.bl _) .nil))))) rfl ?_ ?_
          · exact ⟨hmo, fresh (t := []), by omega, hnl', hnin⟩
          · exact G.add trivial hmo (fun _ _ _ _ _ e => by cases e) (fun h => by cases h)
    all_goals
      obtain ⟨ham3, hfa3, hoa3, hla3, lsN3⟩ := keep k3
      refine ⟨_, rfl, p, c, _, 3, rfl, pen3, by omega, by decide, by decide, fun H4 r4 k4 pen4 r40 r41 => ?_⟩
      refine ⟨by show 3 ≤ sizeLine; decide, fun L hL => ?_⟩
      have nL := pen4.off hL
      refine ⟨_, rfl, p, c, _, 3, rfl, pen4.put nL, by omega, by decide, by decide, fun H5 r5 k5 pen5 r50 r51 => ?_⟩
      obtain ⟨mf, emf, hmf⟩ := z3_at (d := r4) r50 r51
      refine ⟨L, _, _, _, rfl, rfl, SqL.of (k5 _ _ nL.1 upd_same), emf, ?_⟩
      refine ⟨_, _, rfl, rfl, ?_⟩
      have k25 : Kp p H2 H5 := k3.trans (k4.trans ((Kp.new hL).trans k5))
      obtain ⟨ham5, hfa5, hoa5, hla5, lsN5⟩ := keep k25
      refine ⟨_, rfl, _, rfl, _, _, rfl, .inl (SqL.of hla5), p, c, _, _, rfl, pen5, by omega, by rw [List.length_map]; omega, by rw [List.length_map]; omega, fun H6 at_ k6 pen6 a0 a1 => ?_⟩
      rw [List.length_map, ll] at a1
      have k26 := k25.trans k6
      obtain ⟨ham6, hfa6, hoa6, hla6, lsN6⟩ := keep k26
      have hm0 : 0 ≤ mf ∧ mf ≤ 2 := by rcases hmf with e | e <;> omega
      refine ⟨_, rfl, _, rfl, by omega, by omega, fun D3 hD3 => ?_⟩
      have nD3 := pen6.off hD3
      refine lc_range (lo := 0) (n := (1 + mf).toNat) (fun i H' => Same H6 H' ∧ H' D3 = some (.lst ((roundL lot at_ i).map V.str))) ⟨Same.new hD3, upd_same⟩ ?_ ?_
      · rintro i H7 hi ⟨s7, e7⟩
        have qm := mod_lt (x := at_ + (0 + (i : Int))) (m := (lot.length : Int)) (by rw [ll]; decide)
        refine ⟨rfl, _, rfl, _, rfl, _, rfl, _, _, rfl, rfl, _, rfl, _, _, rfl, .inl (SqL.of (s7 _ _ hla6)), _, _, rfl, rfl, by show (0 : Int) < ((lot.map V.str).length : Int); rw [List.length_map, ll]; decide, la, _, _, .str (lot.getD ((at_ + (0 + (i : Int))) % (lot.length : Int)).toNat ("" : Str)), rfl, rfl, SqL.of (s7 _ _ hla6), ?_⟩
        refine ⟨by rw [List.length_map]; exact str_at qm.1 (by omega), _, e7, by unfold roundL; rw [List.length_map, List.length_map, List.length_range]; exact small1000 (by omega), fun o1 o2 ec => by rw [upd_ne (ne_of_none ec hD3)]; exact s7 _ _ ec, ?_⟩
        rw [upd_same]
        unfold roundL
        rw [List.range_succ, List.map_append, List.map_append]; rfl
      rintro H7 ⟨s7, e7⟩
      refine ⟨D3, _, rfl, .inl ⟨SqL.of e7, fun t7 ht7 => ?_⟩⟩
      have s8 : Same H6 (upd H7 t7 (.tup ((roundL lot at_ (1 + mf).toNat).map V.str))) := s7.trans (Same.new ht7)
      have k28 : Kp p H2 (upd H7 t7 (.tup ((roundL lot at_ (1 + mf).toNat).map V.str))) := k26.trans (Kp.of s8)
      have pen8 := pen6.to s8
      obtain ⟨ham8, hfa8, hoa8, hla8, lsN8⟩ := keep k28
      have ht8 : (upd H7 t7 (.tup ((roundL lot at_ (1 + mf).toNat).map V.str))) t7 = some (.tup ((roundL lot at_ (1 + mf).toNat).map V.str)) := upd_same
      generalize upd H7 t7 (.tup ((roundL lot at_ (1 + mf).toNat).map V.str)) = H8 at k28 pen8 ham8 hfa8 hoa8 hla8 lsN8 ht8 ⊢
      -- the name
      refine ⟨_, rfl, _, rfl, _, rfl, p, c, _, 2, rfl, pen8, by omega, by decide, by decide, fun H9 r9 k9 pen9 r90 r91 => ?_⟩
      obtain ⟨ham9, hfa9, hoa9, hla9, lsN9⟩ := keep (k28.trans k9)
      refine ⟨fa, _, _, _, rfl, rfl, SqL.of hfa9, str_at r90 (by omega), ?_⟩
      refine ⟨_, rfl, _, rfl, p, c, _, 3, rfl, pen9, by omega, by decide, by decide, fun H10 r10 k10 pen10 r100 r101 => ?_⟩
      obtain ⟨ham10, hfa10, hoa10, hla10, lsN10⟩ := keep (k28.trans (k9.trans k10))
      refine ⟨oa, _, _, _, rfl, rfl, SqL.of hoa10, str_at r100 (by omega), ?_⟩
      refine ⟨by show 2 ≤ sizeLine; decide, fun tw htw => ?_⟩
      refine ⟨_, rfl, by show 6 ≤ sizeLine; decide, fun t ht => ?_⟩
      have t78 : H10 t7 = some (.tup ((roundL lot at_ (1 + mf).toNat).map V.str)) := pen8.tk (k9.trans k10) _ _ ht8
      have hw1 : IsW (fs.getD r9.toNat "") := isW_at wf (by omega)
      have hw2 : IsW (os.getD r10.toNat "") := isW_at wo (by omega)
      generalize fs.getD r9.toNat "" = w1 at *
      generalize os.getD r10.toNat "" = w2 at *
      have sW : Same H10 (upd H10 tw (.tup [.str w1, .str w2])) := Same.new htw
      have sT := sW.trans (Same.new (o := .tup [.str "name", .ref am, .int 0, .ref tw, .ref t7, .non]) ht)
      have hSh : SheetsOk (roundL lot at_ (1 + mf).toNat) := round_ok (by omega) (by omega) (by omega) ll ndl wl
      have ntw : tw ≠ t := fun z => by subst z; rw [upd_same] at ht; cases ht
      refine fin _ _ (.nm m 0 [w1, w2] (roundL lot at_ (1 + mf).toNat) none) (k28.trans (k9.trans (k10.trans (Kp.of sT)))) ((pen10.to sT).up (by omega)) (.tup upd_same (.cons (.str _) (.cons (Tp.mo (m := m) (sT _ _ ham10)) (.cons (.int _) (.cons (.tup (by rw [upd_ne ntw, upd_same]; rfl) (TpAll.strs [w1, w2])) (.cons (.tup (sT _ _ t78) (TpAll.strs _)) (.cons .non .nil))))))) rfl ?_ ?_
      · refine ⟨hmo, fresh (t := []), by omega, ⟨by decide, by decide, rfl, fun x hx => ?_, .inl ⟨rfl, rfl, hSh⟩⟩, fun l e => by cases e⟩
        rcases List.mem_cons.mp hx with rfl | hx
        · exact hw1
        · rw [List.mem_singleton] at hx; subst hx; exact hw2
      · refine G.add ⟨Nat.le_refl 2, fun x hx => ?_, hSh.2.2.2, hSh.2.1⟩ hmo (fun m' rk' ws' ss' lk' e => by cases e; omega) (fun _ => .inl ⟨_, _, _, _, _, rfl, hSh.1⟩)
        rcases List.mem_cons.mp hx with rfl | hx
        · exact hw1
        · rw [List.mem_singleton] at hx; subst hx; exact hw2
end
end KN

set_option Elab.async false
set_option linter.all false
set_option maxRecDepth 100000
set_option maxHeartbeats 4000000
namespace KN
open PySem L2
structure Told (rs : List Row) : Prop where
  good : Good rs
  rise : Rise rs
  tell : ∀ i r, rs[i]? = some r → CanTell (rs.take i) r
  mo : ∀ r ∈ rs, MoS r.mo
theorem Told.nil : Told [] := ⟨⟨fun _ h => (by cases h), fun _ h => (by cases h), fun _ _ _ _ _ h => (by cases h), fun ⟨_, h, _⟩ => (by cases h)⟩, .nil, fun i r h => by simp at h, fun _ h => (by cases h)⟩
theorem tell_snoc {rs : List Row} {r : Row} (h : ∀ i x, rs[i]? = some x → CanTell (rs.take i) x) (k : CanTell rs r) : ∀ i x, (rs ++ [r])[i]? = some x → CanTell ((rs ++ [r]).take i) x := by
  intro i x hx
  by_cases q : i < rs.length
  · rw [List.getElem?_append_left q] at hx
    rw [List.take_append_of_le_length (by omega)]; exact h i x hx
  · rw [List.getElem?_append_right (by omega)] at hx
    have hl := (List.getElem?_eq_some_iff.mp hx).1
    rw [List.length_singleton] at hl
    have e : i = rs.length := by omega
    subst e
    rw [Nat.sub_self] at hx
    cases hx
    rw [List.take_left']; exact k; rfl
theorem rise_snoc {rs : List Row} {r : Row} (h : Rise rs) (k : ∀ x ∈ rs, mLt x.mo r.mo) : Rise (rs ++ [r]) :=
  List.pairwise_append.mpr ⟨h, List.pairwise_singleton _ _, fun a ha b hb => by rw [List.mem_singleton] at hb; subst hb; exact k a ha⟩
theorem Told.snoc {rs : List Row} {r : Row} (T : Told rs) (g : Good (rs ++ [r])) (k : CanTell rs r) (l : ∀ x ∈ rs, mLt x.mo r.mo) (m : MoS r.mo) : Told (rs ++ [r]) :=
  ⟨g, rise_snoc T.rise l, tell_snoc T.tell k, fun x hx => by
    rcases List.mem_append.mp hx with h | h
    · exact T.mo x h
    · rw [List.mem_singleton] at h; subst h; exact m⟩
theorem Told.named {rs : List Row} (T : Told rs) (h : rs ≠ []) : nms rs ≠ [] := by
  cases rs with
  | nil => exact absurd rfl h
  | cons r rs =>
    have h1 := T.tell 0 r rfl
    rw [List.take_zero] at h1
    cases r with
    | nm m rk ws ss lk => exact fun z => by have : m ∈ nms (Row.nm m rk ws ss lk :: rs) := row_nms List.mem_cons_self; rw [z] at this; cases this
    | ch m n z => obtain ⟨_, _, _, _, rk, ws, ss, lk, h2, _⟩ := h1; cases h2
    | st m n w => obtain ⟨_, _, _, _, h2⟩ := h1; cases h2
    | ah m n o => obtain ⟨_, _, _, _, _, _, rk, ⟨ws, ss, l, h2⟩, _⟩ := h1; cases h2
def spRecords : Sp := fun vs H Q _ => ∃ (p c : Addr) (b : Int) (la : Addr) (lot : List Str) (many : Int), vs = [.ref p, .ref la, .int many] ∧ Pen H p c b ∧ b ≤ 10000000 ∧ H la = some (.lst (lot.map V.str)) ∧ lot.length = 6 ∧ lot.Nodup ∧ (∀ s ∈ lot, IsW s) ∧ 1 ≤ many ∧ many ≤ 30 ∧
  ∀ (H' : Hp) (l : Addr) (rs : List Row), Kp p H H' → Pen H' p c (b + 1000) → H l = none → Ls H' l (rs.map Row.d) → Told rs → rs.length = many.toNat → Q (.ref l) H'
section
variable {P : Program} {w : World} {K : PySem.W.Frag} {mg : Str → Option Value} {base : Heap} {C : Addr}
abbrev s__law_records : Stmt := top 33
theorem sc__law_records : FnScope ["_law_pen_here", "_law_lot", "_law_many", "_law_words", "_law_found", "_law_moment"] ["_law_pen_here", "_law_lot", "_law_many"] (defScope s__law_records) := ⟨rfl, rfl, rfl, by decide +kernel, rfl, by decide +kernel, by decide +kernel⟩
theorem ok__law_records {f : Addr} {fd : FuncData} (F : Fun K "_law_records" "_law_records" s__law_records f fd) (c__law_names : C8.Cal P w K mg base 2 "_law_names" spNames []) (c__law_moments : C8.Cal P w K mg base 2 "_law_moments" spMoments []) (c__law_record : C8.Cal P w K mg base 2 "_law_record" spRecord []) : FnOk P w K mg base CX0 3 f fd ["_law_pen_here", "_law_lot", "_law_many"] spRecords := by
  refine F.ok sc__law_records (fun vs H Q E h => ?_) (fun cdv A outer s H vs Q E hr h => ?_)
  · obtain ⟨p, c, b, la, lot, many, rfl, _⟩ := h; rfl
  · obtain ⟨p, c, b, la, lot, many, rfl, pen, hb, hla, ll, ndl, wl, mm1, mm30, k⟩ := h
    refine ⟨_, (pss_cons (ps_set (i := 3) sc__law_records.nd rfl (Or.inl rfl) (C8.pe_c c__law_names hr (by decide) rfl (pa_cons (pv 0) (pa_cons pe_int pa_nil))))
      (pss_cons (ps_set (i := 4) sc__law_records.nd rfl (Or.inl rfl) (pe_lst pa_nil))
      (pss_cons (ps_for PassesOwn.never rfl (pi_list (C8.pe_c c__law_moments hr (by decide) rfl (pa_cons (pv 0) (pa_cons (pv 2) pa_nil)))) (pg_name (i := 5) sc__law_records.nd rfl (Or.inl rfl))
      (pss_one (ps_expr (pe_bm PySem.F.plainAttrs_list PySem.F.slot_list_append PySem.F.type_list_append mt_append (pv 4) (pa_cons (C8.pe_c c__law_record hr (by decide) rfl (pa_cons (pv 0) (pa_cons (pv 4) (pa_cons (pv 5) (pa_cons (pe_slice sl_list (pv 3) po_none (po_some pe_int)) (pa_cons (pe_slice sl_list (pv 3) (po_some pe_int) po_none) (pa_cons (pv 1) pa_nil))))))) pa_nil)))))
      (pss_one (ps_ret (pv 4)))))), ?_⟩
    refine ⟨_, rfl, p, c, b, 5, rfl, pen, by omega, by decide, by decide, fun H1 wa ss k1 pen1 wa0 hwa hsl hsw hsn => ?_⟩
    have hsl5 : ss.length = 5 := hsl
    refine ⟨Nat.zero_le _, fun F0 hF => ?_⟩
    have nF := pen1.off hF
    refine ⟨_, rfl, _, rfl, p, c, _, many, rfl, pen1.put nF, by omega, by omega, by omega, fun H2 ma ms k2 pen2 ma0 ⟨mx, hma, rma⟩ hml hpw hok => ?_⟩
    have hF0 : H F0 = none := k1.free nF.1 hF
    have k12 : Kp p H1 H2 := (Kp.new hF).trans k2
    have hF2 : H2 F0 = some (.lst []) := k2 _ _ nF.1 upd_same
    have hwa2 : H2 wa = some (.lst (ss.map V.str)) := k12 _ _ (pen1.ne hwa) hwa
    have hla2 : H2 la = some (.lst (lot.map V.str)) := (k1.trans k12) _ _ (pen.ne hla) hla
    have nFwa : F0 ≠ wa := fun z => by subst z; rw [hwa] at hF; cases hF
    have nFla : F0 ≠ la := fun z => by subst z; rw [hla] at hF0; cases hF0
    have nFma : F0 ≠ ma := fun z => by subst z; rw [upd_same] at ma0; cases ma0
    have hmxl : mx.length = ms.length := by rw [rma.len, List.length_map]
    refine ⟨ma, rfl, ⟨_, SqL.of hma⟩, for_list (K := K) (a := ma) (xs := mx) (fun i σ' H' => ∃ (v5 : Option V) (rs : List Row), σ' = [some (.ref p), some (.ref la), some (.int many), some (.ref wa), some (.ref F0), v5] ∧ (∀ a o, a ≠ p → a ≠ F0 → H2 a = some o → H' a = some o) ∧ Pen H' p c (b + 16 + 2 + 3 * many + 20 * i) ∧
        Ls H' F0 (rs.map Row.d) ∧ rs.length = i ∧ Told rs ∧ (∀ r ∈ rs, ∃ j, j < i ∧ ms[j]? = some r.mo))
      ⟨none, [], rfl, fun a o _ _ h => h, pen2.up (by omega), ⟨_, hF2, .nil⟩, rfl, Told.nil, fun _ h => by cases h⟩ (fun i σ' H' _ ⟨_, _, _, q, _⟩ => SqL.of (q _ _ (pen2.ne hma) nFma.symm hma)) ?_ ?_⟩
    · rintro i x σ3 H3 hi ⟨v5, rs, rfl, k3, pen3, ls3, hl, T, hin⟩
      obtain ⟨mo, hmo, tx⟩ := data_at rma hi
      have hir : i < ms.length := (List.getElem?_eq_some_iff.mp hmo).1
      have tk3 : TK H2 H3 := fun a o e => k3 a _ (fun z => by subst z; obtain ⟨_, _, _, h, _⟩ := pen2; rw [h] at e; cases e) (fun z => by subst z; rw [hF2] at e; cases e) e
      obtain ⟨am, rfl, ham⟩ := Tp.mo_inv (tx.to tk3)
      have hwa3 := k3 _ _ (pen2.ne hwa2) nFwa.symm hwa2
      have hla3 := k3 _ _ (pen2.ne hla2) nFla.symm hla2
      obtain ⟨xs, hx3, rx3⟩ := id ls3
      have hmany : ms.length = many.toNat := hml
      refine ⟨_, rfl, .inl ⟨rfl, _, SqL.of hx3⟩, _, rfl, _, rfl, _, rfl, _, rfl, _, rfl, wa, _, rfl, SqL.of hwa3, fun A1 hA1 => ?_⟩
      rw [show (some (2 : Int)) = some ((2 : Nat) : Int) from rfl, cut_to]
      have sA1 : Same H3 (upd H3 A1 (.lst ((ss.map V.str).take 2))) := Same.new hA1
      refine ⟨_, rfl, _, rfl, wa, _, rfl, SqL.of (sA1 _ _ hwa3), fun A2 hA2 => ?_⟩
      rw [show (some (2 : Int)) = some ((2 : Nat) : Int) from rfl, cut_from]
      have sA2 := sA1.trans (Same.new (o := .lst ((ss.map V.str).drop 2)) hA2)
      have nA : A1 ≠ A2 := fun z => by subst z; rw [upd_same] at hA2; cases hA2
      have hlt : ∀ r ∈ rs, mLt r.mo mo := fun r hr' => by
        obtain ⟨j, hj, ej⟩ := hin r hr'
        have h1 := List.pairwise_iff_getElem.mp hpw j i (by omega) hir hj
        rw [(List.getElem?_eq_some_iff.mp ej).2, (List.getElem?_eq_some_iff.mp hmo).2] at h1; exact h1
      have hmS : MoS mo := hok mo (List.mem_of_getElem? hmo)
      refine ⟨_, rfl, p, c, _, F0, am, A1, A2, la, mo, rs, ss.take 2, ss.drop 2, lot, rfl, pen3.to sA2, by omega, ls3.to sA2, sA2 _ _ ham, by rw [upd_ne nA, upd_same, List.map_take], by rw [upd_same, List.map_drop], sA2 _ _ hla3, by rw [List.length_take]; omega, by rw [List.length_drop]; omega, ll, ndl, fun s h => hsw s (List.mem_of_mem_take h), fun s h => hsw s (List.mem_of_mem_drop h), wl, hmS.ok, by omega, T.good, hlt, fun H4 v r k4 pen4 tv er hc hg => ?_⟩
      have k34 : Kp p H3 H4 := (Kp.of sA2).trans k4
      have hx4 := k34 _ _ nF.1 hx3
      refine ⟨F0, _, _, rfl, rfl, hx4, by rw [rx3.len, List.length_map, hl]; exact small1000 (by omega), ?_⟩
      have tkF : TK H4 (upd H4 F0 (.lst (xs ++ [v]))) := TK.put hx4 (by intro z; exact nofun)
      refine ⟨_, rs ++ [r], rfl, fun a o na nb e => by rw [upd_ne nb]; exact k34 _ _ na (k3 a o na nb e), (pen4.put nF).up (by omega), ⟨_, upd_same, ?_⟩, by rw [List.length_append, hl]; rfl, T.snoc hg hc (fun y hy => by rw [er]; exact hlt y hy) (by rw [er]; exact hmS), fun y hy => ?_⟩
      · rw [List.map_append]
        exact (rx3.to ((pen3.tk k34).trans tkF)).snoc (tv.to tkF)
      · rcases List.mem_append.mp hy with h | h
        · obtain ⟨j, h1, h2⟩ := hin y h
          exact ⟨j, by omega, h2⟩
        · rw [List.mem_singleton] at h; subst h
          exact ⟨i, by omega, by rw [er]; exact hmo⟩
    · rintro σ3 H3 ⟨v5, rs, rfl, k3, pen3, ls3, hl, T, hin⟩
      refine ⟨_, rfl, k H3 F0 rs (fun a o na e => ?_) (pen3.up (by omega)) hF0 ls3 T (by rw [hl, hmxl]; exact hml)⟩
      exact k3 a o na (ne_of_none e hF0) ((k1.trans k12) _ _ na e)
end
end KN

set_option Elab.async false
set_option linter.all false
set_option maxRecDepth 100000
set_option maxHeartbeats 4000000
namespace KN
open PySem L2
theorem Pen.kd {H H' : Hp} {p c : Addr} {b : Int} (h : Pen H p c b) (k : KD H H') : Pen H' p c b :=
  let ⟨n, m, ns, e1, e2, r⟩ := h
  ⟨n, m, ns, k _ _ (by intro z; exact nofun) e1, k _ _ (by intro z; exact nofun) e2, r⟩
theorem Ls.kd {H H' : Hp} {a : Addr} {ds : List PyData} (h : Ls H a ds) (k : KD H H') : Ls H' a ds :=
  let ⟨xs, e, r⟩ := h
  ⟨xs, k _ _ (by intro z; exact nofun) e, r.to k.tk⟩
def spLaw (K : PySem.W.Frag) : Sp := fun vs H Q _ => ∃ (a : Addr) (ns : List Int), vs = [.ref a] ∧ SqL K H a (ns.map V.int) ∧ ns.length ≤ 63 ∧ ∀ H', Q (.bl true) H'
section
variable {P : Program} {w : World} {K : PySem.W.Frag} {mg : Str → Option Value} {base : Heap} {C : Addr}
abbrev s_law : Stmt := top 43
theorem sc_law : FnScope ["_law_script", "_law_pen_here", "_law_turn", "_law_lot", "_law_rows", "_law_book_here", "_law_again", "_law_until_here", "_law_names_here", "_law_some", "_law_taker", "_law_last", "_law_more", "_law_row_here", "_law_name"] ["_law_script"] (defScope s_law) := ⟨rfl, rfl, rfl, by decide +kernel, rfl, by decide +kernel, by decide +kernel⟩
theorem ok_law {f : Addr} {fd : FuncData} (F : Fun K "law" "law" s_law f fd) (T : BkT K C) (m_len : mg "len" = none) (m_range : mg "range" = none) (m_min : mg "min" = none) (c__law_pen : C8.Cal P w K mg base 1 "_law_pen" (spPen K) []) (c__law_draw : C8.Cal P w K mg base 1 "_law_draw" spDraw [])
    (c__law_names : C8.Cal P w K mg base 2 "_law_names" spNames []) (c__law_records : C8.Cal P w K mg base 3 "_law_records" spRecords []) (c__law_book : C8.Cal P w K mg base 7 "_law_book" (spBookOf C) []) (c__law_until : C8.Cal P w K mg base 2 "_law_until" spUntil [])
    (c__law_takers : C8.Cal P w K mg base 3 "_law_takers" spTakersL []) (c__law_is_so : C8.Cal P w K mg base 6 "_law_is_so" (spIsSo C) []) (c__law_tell : C8.Cal P w K mg base 6 "_law_tell" (spTell C) []) : FnOk P w K mg base CX0 8 f fd ["_law_script"] (spLaw K) := by
  refine F.ok sc_law (fun vs H Q E h => ?_) (fun cdv A outer s H vs Q E hr h => ?_)
  · obtain ⟨a, ns, rfl, _⟩ := h; rfl
  · obtain ⟨a, ns, rfl, hS, hl, k⟩ := h
    have hu := hu_of hr
    refine ⟨_, (pss_cons (ps_set (i := 1) sc_law.nd rfl (Or.inl rfl) (C8.pe_c c__law_pen hr (by decide) rfl (pa_cons (pv 0) pa_nil)))
      (pss_cons (ps_for PassesOwn.never rfl (pi_range1 rfl m_range (pa_cons (pe_op op_add pe_int (pe_callB (call_min2 rfl) (by rfl) m_min (by decide +kernel) (pa_cons pe_int (pa_cons (pe_op op_fdiv (pe_callB call_len_seq (by rfl) m_len (by decide +kernel) (pa_cons (pv 0) pa_nil)) pe_int) pa_nil)))) pa_nil)) (pg_name (i := 2) sc_law.nd rfl (Or.inl rfl))
      (pss_cons (ps_set (i := 3) sc_law.nd rfl (Or.inl rfl) (C8.pe_c c__law_names hr (by decide) rfl (pa_cons (pv 1) (pa_cons pe_int pa_nil))))
      (pss_cons (ps_set (i := 4) sc_law.nd rfl (Or.inr rfl) (C8.pe_c c__law_records hr (by decide) rfl (pa_cons (pv 1) (pa_cons (pv 3) (pa_cons (pe_op op_add pe_int (C8.pe_c c__law_draw hr (by decide) rfl (pa_cons (pv 1) (pa_cons pe_int pa_nil)))) pa_nil)))))
      (pss_cons (ps_set (i := 5) sc_law.nd rfl (Or.inl rfl) (C8.pe_c c__law_book hr (by decide) rfl (pa_cons (pv 4) pa_nil)))
      (pss_cons (ps_for PassesOwn.never rfl (pi_range1 rfl m_range (pa_cons pe_int pa_nil)) (pg_name (i := 6) sc_law.nd rfl (Or.inl rfl))
      (pss_cons (ps_set (i := 7) sc_law.nd rfl (Or.inl rfl) (C8.pe_c c__law_until hr (by decide) rfl (pa_cons (pv 1) (pa_cons (pv 4) pa_nil))))
      (pss_one (ps_if (pt_not (pt_val (C8.pe_c c__law_is_so hr (by decide) rfl (pa_cons (pv 4) (pa_cons (pv 5) (pa_cons (pv 7) pa_nil)))))) (pss_one (ps_ret pe_bl)) pss_nil))))
      (pss_cons (ps_setLc (i := 8) (own := [("_law_row_here", 13)]) (g := gName 13) rfl sc_law.nd rfl rfl (sw_true rfl rfl rfl (by decide +kernel)) (pi_list (pv 4)) (blkOk_by (own := [("_law_row_here", 13)]) (N := ["_law_script", "_law_pen_here", "_law_turn", "_law_lot", "_law_rows", "_law_book_here", "_law_again", "_law_until_here", "_law_names_here", "_law_some", "_law_taker", "_law_last", "_law_more", "_law_row_here", "_law_name"]) (sc := defScope s_law) (by decide +kernel)) (fun _ _ _ _ _ => pg_name (i := 13) sc_law.nd rfl (Or.inl rfl)) (fun _ _ _ _ _ => (pts_one (pt_cmpR op_eq (pe_ix (ix_tupK K) (pv 13) pe_int (fun _ _ => rfl)) pe_str (nomark _)))) (fun _ _ _ _ _ => (pe_ix (ix_tupK K) (pv 13) pe_int (fun _ _ => rfl))))
      (pss_cons (ps_set (i := 9) sc_law.nd rfl (Or.inl rfl) (pe_op op_cat (pe_lc (own := [("_law_name", 14)]) (g := gName 14) rfl sc_law.nd (pi_list (pv 8)) (blkOk_by (own := [("_law_name", 14)]) (N := ["_law_script", "_law_pen_here", "_law_turn", "_law_lot", "_law_rows", "_law_book_here", "_law_again", "_law_until_here", "_law_names_here", "_law_some", "_law_taker", "_law_last", "_law_more", "_law_row_here", "_law_name"]) (sc := defScope s_law) (by decide +kernel)) (fun _ _ _ _ _ => pg_name (i := 14) sc_law.nd rfl (Or.inl rfl)) (fun _ _ _ _ _ => (pts_one (pt_cmpR (op_neDK K hr.units) (C8.pe_c c__law_takers hr (by decide) rfl (pa_cons (pv 4) (pa_cons (pv 14) (pa_cons pe_non pa_nil)))) (pe_lst pa_nil) (nomark _)))) (fun _ _ _ _ _ => (pv 14))) (pe_slice sl_list (pv 8) po_none (po_some pe_int))))
      (pss_cons (ps_set (i := 10) sc_law.nd rfl (Or.inl rfl) (pe_ix ix_list (pe_op op_cat (C8.pe_c c__law_takers hr (by decide) rfl (pa_cons (pv 4) (pa_cons (pe_ix ix_list (pv 9) pe_int (fun _ _ => rfl)) (pa_cons pe_non pa_nil)))) (pv 9)) pe_int (fun _ _ => rfl)))
      (pss_cons (ps_set (i := 11) sc_law.nd rfl (Or.inl rfl) (pe_ix ix_tup (pe_ix ix_list (pv 4) (pe_un un_neg pe_int) (fun _ _ => rfl)) pe_int (fun _ _ => rfl)))
      (pss_cons (ps_set (i := 12) sc_law.nd rfl (Or.inl rfl) (pe_tup (pa_cons pe_str (pa_cons (pe_tup (pa_cons (pe_op op_add (pe_ix ix_tup (pv 11) pe_int (fun _ _ => rfl)) pe_int) (pa_cons (pe_op op_add pe_int (C8.pe_c c__law_draw hr (by decide) rfl (pa_cons (pv 1) (pa_cons pe_int pa_nil)))) pa_nil))) (pa_cons (pv 10) (pa_cons (pe_cmpR op_gt (C8.pe_c c__law_draw hr (by decide) rfl (pa_cons (pv 1) (pa_cons pe_int pa_nil))) pe_int (nomark _)) pa_nil))))))
      (pss_cons (ps_expr (C8.pe_c c__law_tell hr (by decide) rfl (pa_cons (pv 5) (pa_cons (pv 12) pa_nil))))
      (pss_one (ps_if (PW.pt (pw_or (pt_not (pt_val (C8.pe_c c__law_is_so hr (by decide) rfl (pa_cons (pe_op op_cat (pv 4) (pe_lst (pa_cons (pv 12) pa_nil))) (pa_cons (pv 5) (pa_cons pe_non pa_nil)))))) (pw_or1 (pt_not (pt_val (C8.pe_c c__law_is_so hr (by decide) rfl (pa_cons (pe_op op_cat (pv 4) (pe_lst (pa_cons (pv 12) pa_nil))) (pa_cons (pv 5) (pa_cons (pv 11) pa_nil))))))))) (pss_one (ps_ret pe_bl)) pss_nil)))))))))))))
      (pss_one (ps_ret pe_bl)))), ?_⟩
    refine ⟨_, rfl, a, ns, rfl, hS, hl, fun H1 p c s1 p0 c0 pen1 => ?_⟩
    have hS1 := s1.seq hS
    refine ⟨_, rfl, _, _, rfl, .inl hS1, _, _, rfl, rfl, ⟨by decide, by decide⟩, _, _, rfl, _, _, rfl, rfl, _, rfl, ?_⟩
    generalize hN : (1 + if ((ns.map V.int).length : Int) / 4 < 3 then ((ns.map V.int).length : Int) / 4 else 3) = N
    have hN0 : 0 ≤ N ∧ N ≤ 4 := by
      rw [← hN]
      have : 0 ≤ ((ns.map V.int).length : Int) / 4 := Int.ediv_nonneg (by omega) (by decide)
      split <;> omega
    refine ⟨by omega, by omega, for_range (lo := 0) (n := N.toNat) (fun i σ' H' => ∃ (v2 v3 v4 v5 v6 v7 v8 v9 v10 v11 v12 : Option V), σ' = [some (.ref a), some (.ref p), v2, v3, v4, v5, v6, v7, v8, v9, v10, v11, v12, none, none] ∧ Pen H' p c (3000 * i))
      ⟨none, none, none, none, none, none, none, none, none, none, none, rfl, pen1.up (by omega)⟩ ?_ ?_⟩
    · rintro i σ2 H2 hi ⟨v2, v3, v4, v5, v6, v7, v8, v9, v10, v11, v12, rfl, pen2⟩
      refine ⟨_, rfl, p, c, _, 6, rfl, pen2, by omega, by decide, by decide, fun H3 la lot k3 pen3 la0 hla hll hlw hln => ?_⟩
      refine ⟨_, rfl, _, rfl, _, rfl, p, c, _, 24, rfl, pen3, by omega, by decide, by decide, fun H4 many k4 pen4 m0 m1 => ?_⟩
      refine ⟨_, _, rfl, rfl, p, c, _, la, lot, _, rfl, pen4, by omega, k4 _ _ (pen3.ne hla) hla, hll, hln, hlw, by omega, by omega, fun H5 ra rs k5 pen5 ra0 lsr TT hlen => ?_⟩
      have hrl : rs.length = (1 + many).toNat := hlen
      have hrne : rs ≠ [] := fun z => by rw [z] at hrl; simp at hrl; omega
      refine ⟨_, rfl, ra, rs, rfl, lsr, TT.tell, fun H6 b kd6 b0 BA6 => ?_⟩
      have pen6 := pen5.kd kd6
      have ls6 := lsr.kd kd6
      refine ⟨_, rfl, by decide, by decide, for_range (lo := 0) (n := 3) (fun j σ' H' => ∃ (v6 v7 : Option V), σ' = [some (.ref a), some (.ref p), some (.int (0 + (i : Int))), some (.ref la), some (.ref ra), some (.ref b), v6, v7, v8, v9, v10, v11, v12, none, none] ∧
          Pen H' p c (3000 * i + 1100 + 2 * j) ∧ Ls H' ra (rs.map Row.d) ∧ BookAt C H' b rs) ⟨v6, v7, rfl, pen6.up (by omega), ls6, BA6⟩ ?_ ?_⟩
      · rintro j σ7 H7 hj ⟨v6, v7, rfl, pen7, ls7, BA7⟩
        refine ⟨_, rfl, _, rfl, p, c, _, ra, rs, rfl, pen7, by omega, ls7, hrne, by omega, fun H8 v u k8 pen8 hv => ?_⟩
        have ls8 := ls7.kp pen7 k8
        have BA8 := BA7.keep (pen7.kb k8)
        refine ⟨_, rfl, _, rfl, _, rfl, ra, b, v, u, rs, rfl, ls8, BA8, TT.rise, TT.good.W, by omega, hv, fun H9 s9 => ⟨_, rfl, ?_⟩⟩
        refine iteF ⟨_, _, rfl, (pen8.to s9).up (by omega), ls8.to s9, BA8.keep (KB.of s9)⟩
      rintro σ7 H7 ⟨v6, v7, rfl, pen7, ls7, BA7⟩
      obtain ⟨rx, hrx, rrx⟩ := id ls7
      have hrxl : rx.length = rs.length := by rw [rrx.len, List.length_map]
      refine ⟨_, rfl, ra, rfl, ⟨_, SqL.of hrx⟩, fun D hD => ?_⟩
      refine lc_list (K := K) (a := ra) (xs := rx) (fun i H' => Same H7 H' ∧ Ls H' D (((rs.take i).filter Row.isNm).map fun r => mD r.mo)) (pick_zero hD) (fun i H' _ q => SqL.of (q.1 _ _ hrx)) ?_ ?_
      · rintro j x H' hj Pi
        obtain ⟨r2, hr2, t0⟩ := data_at rrx hj
        obtain ⟨t, ys, rfl, ht, ry⟩ := Tp.inv (t0.to (TK.of Pi.1))
        obtain ⟨v0, a0, t0'⟩ := Tp.at (K := K) ht ry r2.ds0
        cases Tp.str_inv t0'
        obtain ⟨v1, a1, tm⟩ := Tp.at (K := K) ht ry r2.ds1
        refine ⟨rfl, _, rfl, _, _, _, _, rfl, rfl, SqT.of ht, a0, rfl, _, rfl, ?_⟩
        rw [sort_nm]
        refine ite2 (fun q => ?_) (fun q => pick_no Pi hr2 q)
        exact ⟨_, rfl, _, _, _, _, rfl, rfl, SqT.of ht, a1, pick_yes hD (by omega) Pi hr2 q tm⟩
      rintro H8 ⟨s8, nx, hnx, rnx⟩
      rw [hrxl, List.take_length] at rnx
      have memN : ∀ r ∈ rs.filter Row.isNm, r ∈ rs ∧ ∃ m rk ws ss lk, r = Row.nm m rk ws ss lk := fun r h => by
        obtain ⟨h1, h2⟩ := List.mem_filter.mp h
        refine ⟨h1, ?_⟩
        cases r with
        | nm m rk ws ss lk => exact ⟨m, rk, ws, ss, lk, rfl⟩
        | _ => cases h2
      have hNe : rs.filter Row.isNm ≠ [] := fun z => TT.named hrne (by unfold nms; rw [z]; rfl)
      have hNl : (rs.filter Row.isNm).length ≤ 64 := Nat.le_trans (List.length_filter_le _ _) (by omega)
      generalize rs.filter Row.isNm = NN at rnx memN hNe hNl
      have hnl : nx.length = NN.length := by rw [rnx.len, List.length_map]
      have ls8 := ls7.to s8
      have pen8 := pen7.to s8
      have BA8 := BA7.keep (KB.of s8)
      have nd := rise_nd TT.rise
      -- some
      refine ⟨_, rfl, D, rfl, ⟨_, SqL.of hnx⟩, fun D2 hD2 => ?_⟩
      have sub : ∀ {H' : Hp} {Y : List Row} {xs : List V}, TpAll H' xs (Y.map fun r => mD r.mo) → (∀ r ∈ Y, r ∈ NN) → ∀ (j : Nat) (x : V), xs[j]? = some x → ∃ (an : Addr) (m : Mo) (rk : Int) (ws ss : List Str) (lk : Option Mo), x = V.ref an ∧ H' an = some (.tup [.int m.1, .int m.2]) ∧ Row.nm m rk ws ss lk ∈ rs := fun {H' Y xs} h hY j x hj => by
        obtain ⟨r2, hr2, t0⟩ := data_at h hj
        obtain ⟨h1, m, rk, ws, ss, lk, rfl⟩ := memN r2 (hY _ (List.mem_of_getElem? hr2))
        obtain ⟨an, rfl, han⟩ := Tp.mo_inv t0
        exact ⟨an, m, rk, ws, ss, lk, rfl, han, h1⟩
      refine lc_list (K := K) (a := D) (xs := nx) (fun j H' => Same H8 H' ∧ ∃ Y : List Row, Ls H' D2 (Y.map fun r => mD r.mo) ∧ Y.length ≤ j ∧ ∀ r ∈ Y, r ∈ NN)
        ⟨Same.new hD2, [], ⟨_, upd_same, .nil⟩, Nat.le_refl _, fun _ h => by cases h⟩ (fun i H' _ q => SqL.of (q.1 _ _ hnx)) ?_ ?_
      · rintro j x H' hj ⟨s9, Y, lsY, hYl, hY⟩
        obtain ⟨r2, hr2, t0⟩ := data_at rnx hj
        have hjl : j < NN.length := (List.getElem?_eq_some_iff.mp hr2).1
        have hr2N := List.mem_of_getElem? hr2
        obtain ⟨h1, m, rk, ws, ss, lk, rfl⟩ := memN r2 hr2N
        have tm := t0.to (TK.of s9)
        obtain ⟨an, rfl, han⟩ := Tp.mo_inv (id tm)
        refine ⟨rfl, _, rfl, _, rfl, ra, an, m, rk, ws, ss, lk, .non, none, rs, rfl, ls8.to s9, han, h1, rfl, by omega, nd, TT.good.W, fun H10 tl s10 tl0 lt => ?_⟩
        refine ⟨Nat.zero_le _, fun Z hZ => ?_⟩
        have sZ : Same H10 (upd H10 Z (.lst [])) := Same.new hZ
        have lZ : Ls (upd H10 Z (.lst [])) Z [] := ⟨_, upd_same, .nil⟩
        have s9Z := s10.trans sZ
        have sh : SeqAt.shaped (.list ((takersL rs rk none m ws).map fun r => mD r.mo)) = true := by
          have := shaped_ms ((takersL rs rk none m ws).map Row.mo)
          rw [List.map_map] at this; exact this
        refine ⟨_, _, (lt.to sZ).dp, lZ.dp, sh, rfl, _, rfl, ?_⟩
        refine ite2 (fun q => ?_) (fun q => ⟨s9.trans s9Z, Y, lsY.to s9Z, by omega, hY⟩)
        obtain ⟨ys, hy, ry⟩ := lsY.to s9Z
        refine ⟨_, rfl, ys, hy, by rw [ry.len, List.length_map]; exact small1000 (by omega), fun c o ec => by rw [upd_ne (ne_of_none ec hD2)]; exact (s9.trans s9Z) _ _ ec, Y ++ [Row.nm m rk ws ss lk], ⟨_, upd_same, ?_⟩, by rw [List.length_append, List.length_singleton]; omega, fun r hr' => ?_⟩
        · rw [List.map_append]
          have tk : TK (upd H10 Z (.lst [])) (upd (upd H10 Z (.lst [])) D2 (.lst (ys ++ [.ref an]))) := TK.put hy (by intro z; exact nofun)
          exact (ry.to tk).snoc ((tm.to (TK.of s9Z)).to tk)
        · rcases List.mem_append.mp hr' with h | h
          · exact hY r h
          · rw [List.mem_singleton] at h; subst h; exact hr2N
      rintro H9 ⟨s9, Y, ⟨ys, hy, ry⟩, hYl, hY⟩
      have hnx9 := s9 _ _ hnx
      refine ⟨_, rfl, _, rfl, D, nx, rfl, SqL.of hnx9, fun S1 hS1 => ?_⟩
      rw [show (some (1 : Int)) = some ((1 : Nat) : Int) from rfl, cut_to]
      have sS : Same H9 (upd H9 S1 (.lst (nx.take 1))) := Same.new hS1
      have hysl : ys.length = Y.length := by rw [ry.len, List.length_map]
      refine ⟨D2, S1, ys, nx.take 1, rfl, rfl, sS _ _ hy, upd_same, by rw [List.length_take]; exact Nat.le_trans (by omega : ys.length + min 1 nx.length ≤ 100) (by decide), fun W hW => ?_⟩
      have sW := sS.trans (Same.new (o := .lst (ys ++ nx.take 1)) hW)
      have s8W := s9.trans sW
      have hWr : TpAll (upd (upd H9 S1 (.lst (nx.take 1))) W (.lst (ys ++ nx.take 1))) (ys ++ nx.take 1) ((Y ++ NN.take 1).map fun r => mD r.mo) := by
        rw [List.map_append, List.map_take]
        exact (ry.to (TK.of sW)).app ((rnx.take 1).to (TK.of s8W))
      have hWY : ∀ r ∈ Y ++ NN.take 1, r ∈ NN := fun r h => (List.mem_append.mp h).elim (hY r) List.mem_of_mem_take
      have hWp : 0 < (ys ++ nx.take 1).length := by
        have := List.length_pos_iff.mpr hNe
        rw [List.length_append, List.length_take]; omega
      have hWl : (ys ++ nx.take 1).length ≤ 65 := by rw [List.length_append, List.length_take]; omega
      have hWW : (upd (upd H9 S1 (.lst (nx.take 1))) W (.lst (ys ++ nx.take 1))) W = some (.lst (ys ++ nx.take 1)) := upd_same
      generalize upd (upd H9 S1 (.lst (nx.take 1))) W (.lst (ys ++ nx.take 1)) = H10 at s8W hWr hWW ⊢
      generalize ys ++ nx.take 1 = wx at hWr hWp hWl hWW
      -- the taker
      obtain ⟨x0, hx0⟩ : ∃ x, wx[0]? = some x := ⟨_, List.getElem?_eq_getElem hWp⟩
      obtain ⟨an, n, rk, ws, ss, lk, rfl, han, hrow⟩ := sub hWr hWY 0 x0 hx0
      refine ⟨_, rfl, _, rfl, W, _, _, _, rfl, rfl, SqL.of hWW, at_of (j := 0) rfl hx0, ra, an, n, rk, ws, ss, lk, .non, none, rs, rfl, ls8.to s8W, han, hrow, rfl, by omega, nd, TT.good.W, fun H11 tl s11 tl0 ⟨tx, htx, rtx⟩ => ?_⟩
      have htl : tx.length ≤ 64 := by
        rw [rtx.len, List.length_map]
        exact Nat.le_trans (List.length_filter_le _ _) (Nat.le_trans (List.length_filter_le _ _) (Nat.le_trans (List.length_filter_le _ _) (by omega)))
      refine ⟨_, rfl, tl, W, tx, wx, rfl, rfl, htx, s11 _ _ hWW, Nat.le_trans (by omega : tx.length + wx.length ≤ 200) (by decide), fun X hX => ?_⟩
      have sX : Same H11 (upd H11 X (.lst (tx ++ wx))) := Same.new hX
      have s8X := s8W.trans (s11.trans sX)
      obtain ⟨at_, n2, rk2, ws2, ss2, lk2, hat, hat2, hrow2⟩ : ∃ (at_ : Addr) (n2 : Mo) (rk2 : Int) (ws2 ss2 : List Str) (lk2 : Option Mo), (tx ++ wx)[0]? = some (V.ref at_) ∧ (upd H11 X (.lst (tx ++ wx))) at_ = some (.tup [.int n2.1, .int n2.2]) ∧ Row.nm n2 rk2 ws2 ss2 lk2 ∈ rs := by
        have isN : ∀ r ∈ takersL rs rk none n ws, ∃ m rk ws ss lk, r = Row.nm m rk ws ss lk ∧ r ∈ rs := fun r h => by
          have h1 := (List.mem_filter.mp h).1
          obtain ⟨h2, h3⟩ := List.mem_filter.mp h1
          cases r with
          | nm m rk ws ss lk => exact ⟨m, rk, ws, ss, lk, rfl, (List.mem_filter.mp h2).1⟩
          | _ => cases h3
        generalize takersL rs rk none n ws = TL at rtx isN
        cases TL with
        | nil =>
          cases rtx
          exact ⟨an, n, rk, ws, ss, lk, hx0, (s11.trans sX) _ _ han, hrow⟩
        | cons r TL =>
          cases rtx with
          | cons t0 rest =>
            obtain ⟨m', rk', ws', ss', lk', rfl, hm'⟩ := isN r List.mem_cons_self
            obtain ⟨aq, rfl, haq⟩ := Tp.mo_inv t0
            exact ⟨aq, m', rk', ws', ss', lk', rfl, sX _ _ haq, hm'⟩
      refine ⟨X, _, _, _, rfl, rfl, SqL.of upd_same, at_of (j := 0) rfl hat, ?_⟩
      generalize upd H11 X (.lst (tx ++ wx)) = H12 at s8X hat2 ⊢
      have ls12 := ls8.to s8X
      have pen12 := pen8.to s8X
      have BA12 := BA8.keep (KB.of s8X)
      obtain ⟨qx, hqx, rqx⟩ := id ls12
      have hql : qx.length = rs.length := by rw [rqx.len, List.length_map]
      have hrp : 0 < rs.length := List.length_pos_iff.mpr hrne
      obtain ⟨last, hlast⟩ : ∃ r, rs[rs.length - 1]? = some r := ⟨_, List.getElem?_eq_getElem (by omega)⟩
      obtain ⟨x, hx, tx1⟩ : ∃ x, qx[rs.length - 1]? = some x ∧ Tp H12 x last.d := rqx.get (by rw [List.getElem?_map, hlast]; rfl)
      have atl : atI qx (-1) = some x := by
        unfold atI ixN
        rw [if_neg (by decide), if_pos (by omega)]
        show qx[(-1 + (qx.length : Int)).toNat]? = some x
        rw [show (-1 + (qx.length : Int)).toNat = rs.length - 1 by omega]; exact hx
      obtain ⟨t, xt, rfl, ht, rxt⟩ := Tp.inv tx1
      obtain ⟨v1, a1, t1⟩ := Tp.at (K := K) ht rxt last.ds1
      obtain ⟨am, rfl, ham⟩ := Tp.mo_inv t1
      have hlm : MoS last.mo := TT.mo _ (List.mem_of_getElem? hlast)
      have upto : ∀ r ∈ rs, ¬ mLt last.mo r.mo := fun r hr' z => by
        obtain ⟨j, hj, ej⟩ := List.getElem_of_mem hr'
        by_cases q : j = rs.length - 1
        · subst q
          rw [(List.getElem?_eq_some_iff.mp hlast).2] at ej
          rw [ej] at z; exact mLt.irr z
        · have := List.pairwise_iff_getElem.mp TT.rise j (rs.length - 1) hj (by omega) (by omega)
          rw [ej, (List.getElem?_eq_some_iff.mp hlast).2] at this
          exact mLt.irr (this.trans z)
      refine ⟨_, rfl, _, rfl, ra, _, _, _, rfl, rfl, SqL.of hqx, atl, _, _, _, _, rfl, rfl, SqT.of ht, a1, ?_⟩
      -- one strike more
      refine ⟨_, rfl, _, _, _, _, rfl, rfl, SqT.of ham, at_of (j := 0) rfl rfl, _, _, rfl, rfl, ?_⟩
      refine ⟨_, rfl, p, c, _, 9, rfl, pen12, by omega, by decide, by decide, fun H13 d k13 pen13 d0 d1 => ?_⟩
      refine ⟨_, _, rfl, rfl, by show 2 ≤ sizeLine; decide, fun tm htm => ?_⟩
      have nm13 := pen13.off htm
      refine ⟨_, rfl, _, rfl, p, c, _, 3, rfl, pen13.put nm13, by omega, by decide, by decide, fun H14 d2 k14 pen14 d20 d21 => ?_⟩
      refine ⟨_, _, rfl, rfl, by show 4 ≤ sizeLine; decide, fun tt htt => ?_⟩
      have k1214 : Kp p H12 H14 := k13.trans ((Kp.new htm).trans k14)
      have sT : Same H14 (upd H14 tt (.tup [.str "strike", .ref tm, .ref at_, .bl (decide (d2 > 0))])) := Same.new htt
      have k15 : Kp p H12 (upd H14 tt (.tup [.str "strike", .ref tm, .ref at_, .bl (decide (d2 > 0))])) := k1214.trans (Kp.of sT)
      have htm14 : H14 tm = some (.tup [.int (last.mo.1 + 1), .int (1 + d)]) := (pen13.put nm13).tk k14 _ _ upd_same
      have tp : Tp (upd H14 tt (.tup [.str "strike", .ref tm, .ref at_, .bl (decide (d2 > 0))])) (.ref tt) (Row.st (last.mo.1 + 1, 1 + d) n2 (decide (d2 > 0))).d :=
        .tup upd_same (.cons (.str _) (.cons (Tp.mo (m := (last.mo.1 + 1, 1 + d)) (sT _ _ htm14)) (.cons (Tp.mo (m := n2) (pen12.tk k15 _ _ hat2)) (.cons (.bl _) .nil))))
      have pen15 := pen14.to sT
      have ls15 := ls12.kp pen12 k15
      have BA15 := BA12.keep (pen12.kb k15)
      have ham15 := pen12.tk k15 _ _ ham
      generalize upd H14 tt (.tup [.str "strike", .ref tm, .ref at_, .bl (decide (d2 > 0))]) = H15 at k15 tp pen15 ls15 BA15 ham15 ⊢
      generalize decide (d2 > 0) = wh at tp ⊢
      have hm2 : MoOk (last.mo.1 + 1, 1 + d) := by unfold MoS at hlm; unfold MoOk; simp only; omega
      have later : ∀ r ∈ rs, mLt r.mo (last.mo.1 + 1, 1 + d) := fun r hr' => by
        have := upto r hr'
        unfold mLt at *; simp only; omega
      have hcan : CanTell rs (.st (last.mo.1 + 1, 1 + d) n2 wh) := ⟨hm2, fun z => by
        obtain ⟨r, hr', e⟩ := List.mem_map.mp z
        have h1 := later r hr'
        rw [e] at h1; exact mLt.irr h1, by omega, fun z => mLt.irr (z.trans (later _ hrow2)), row_nms hrow2⟩
      refine ⟨_, rfl, _, rfl, b, .ref tt, .st (last.mo.1 + 1, 1 + d) n2 wh, rs, rfl, BA15, tp, hcan, fun H16 kd16 BA16 => ?_⟩
      have ls16 := ls15.kd kd16
      have pen16 := pen15.kd kd16
      have tp16 := tp.to kd16.tk
      have ham16 := kd16.tk _ _ ham15
      have rise2 : Rise (rs ++ [.st (last.mo.1 + 1, 1 + d) n2 wh]) := rise_snoc TT.rise later
      have hW2 : ∀ r ∈ rs ++ [.st (last.mo.1 + 1, 1 + d) n2 wh], RowW r := fun r h => by
        rcases List.mem_append.mp h with h | h
        · exact TT.good.W r h
        · rw [List.mem_singleton] at h; subst h; exact trivial
      have hl2 : (rs ++ [Row.st (last.mo.1 + 1, 1 + d) n2 wh]).length < 64 := by rw [List.length_append, List.length_singleton]; omega
      have more : ∀ H', Same H16 H' → ∀ M, H' M = none → ∀ X2, (upd H' M (.lst [.ref tt])) X2 = none → ∃ rx2, H' ra = some (.lst rx2) ∧ rx2.length ≤ 64 ∧ Same H16 (upd (upd H' M (.lst [.ref tt])) X2 (.lst (rx2 ++ [.ref tt]))) ∧
          Ls (upd (upd H' M (.lst [.ref tt])) X2 (.lst (rx2 ++ [.ref tt]))) X2 ((rs ++ [Row.st (last.mo.1 + 1, 1 + d) n2 wh]).map Row.d) := fun H' s' M hM X2 hX2 => by
        obtain ⟨rx2, h1, h2⟩ := ls16.to s'
        have sM := s'.trans (Same.new (o := .lst [.ref tt]) hM)
        have sX2 := sM.trans (Same.new (o := .lst (rx2 ++ [.ref tt])) hX2)
        refine ⟨rx2, h1, by rw [h2.len, List.length_map]; omega, sX2, _, upd_same, ?_⟩
        rw [List.map_append]
        exact (h2.to (TK.of ((Same.new (o := .lst [.ref tt]) hM).trans (Same.new hX2)))).snoc (tp16.to (TK.of sX2))
      have hra := fun H' (s' : Same H16 H') => ls16.to s'
      -- the last looks
      refine ⟨_, rfl, _, rfl, by show 1 ≤ sizeLine; decide, fun M hM => ?_⟩
      obtain ⟨rx2, h1, h2⟩ := id ls16
      refine ⟨ra, M, rx2, _, rfl, rfl, (Same.new (o := .lst [.ref tt]) hM) _ _ h1, upd_same, by rw [List.length_singleton]; exact Nat.le_trans (by rw [h2.len, List.length_map]; omega : rx2.length + 1 ≤ 100) (by decide), fun X2 hX2 => ?_⟩
      obtain ⟨rx3, e1, _, sX2, lsX2⟩ := more H16 (fun _ _ h => h) M hM X2 hX2
      rw [h1] at e1
      cases e1
      refine ⟨_, rfl, X2, b, .non, none, _, rfl, lsX2, BA16.keep (KB.of sX2), rise2, hW2, hl2, rfl, fun H17 s17 => ⟨_, rfl, ?_⟩⟩
      have s1617 := sX2.trans s17
      refine iteF ?_
      refine ⟨_, rfl, _, rfl, by show 1 ≤ sizeLine; decide, fun M2 hM2 => ?_⟩
      obtain ⟨rx4, h3, h4⟩ := hra H17 s1617
      refine ⟨ra, M2, rx4, _, rfl, rfl, (Same.new (o := .lst [.ref tt]) hM2) _ _ h3, upd_same, by rw [List.length_singleton]; exact Nat.le_trans (by rw [h4.len, List.length_map]; omega : rx4.length + 1 ≤ 100) (by decide), fun X3 hX3 => ?_⟩
      obtain ⟨rx5, e5, _, sX3, lsX3⟩ := more H17 s1617 M2 hM2 X3 hX3
      rw [h3] at e5
      cases e5
      refine ⟨_, rfl, _, rfl, X3, b, .ref am, some last.mo, _, rfl, lsX3, BA16.keep (KB.of sX3), rise2, hW2, hl2, ⟨am, rfl, sX3 _ _ ham16⟩, fun H18 s18 => ⟨_, rfl, ?_⟩⟩
      refine iteF ⟨_, _, _, _, _, _, _, _, _, _, _, rfl, (pen16.to (sX3.trans s18)).up (by omega)⟩
    · rintro σ2 H2 ⟨v2, v3, v4, v5, v6, v7, v8, v9, v10, v11, v12, rfl, pen2⟩
      exact k H2
end
end KN

set_option Elab.async false
set_option linter.all false
set_option maxRecDepth 100000
set_option maxHeartbeats 4000000
namespace KN
open PySem L2
section
variable {K : PySem.W.Frag} {x qual : Str} {st : Stmt} {f : Addr} {oc : Value} {od an : Option Addr} {osl : Array (Option Value)} {kV doc pm cdv ct : Value}
theorem fund_mk (l : K.lookup f = some ⟨oc, od, .func (PySem.W.fnOf x qual (defArgs st) (defBody st) (defScope st) .none kV doc pm an cdv ct), osl⟩) (c : PySem.W.codeIn K cdv qual = true) (k : PySem.W.keepIn K (.ref f) = true) {kws : List (Str × V)} (h : KwdV K kV kws) : FunD K x qual (defArgs st) (defBody st) (defScope st) [] kws f (PySem.W.fnOf x qual (defArgs st) (defBody st) (defScope st) .none kV doc pm an cdv ct) :=
  ⟨⟨oc, od, .none, kV, doc, pm, an, cdv, ct, osl, rfl, l, c, .inl ⟨rfl, rfl⟩, h⟩, k⟩
end
set_option maxHeartbeats 0 in
theorem all_mk {l : PySem.W.OpenLaw} {w : World} {K : PySem.W.Frag} {h : Heap} {mg : Str → Option Value} {fa C : Addr} (X : K.In h) (G : h.Ns mainGlobals mg) (hfa : mg "law" = some (.ref fa))
    {f0 : Addr} {od0 an0 : Option Addr} {sl0 : Array (Option Value)} {oc0 kV0 dc0 pm0 cd0 ct0 : Value}
    {f1 : Addr} {od1 an1 : Option Addr} {sl1 : Array (Option Value)} {oc1 kV1 dc1 pm1 cd1 ct1 : Value}
    {f2 : Addr} {od2 an2 : Option Addr} {sl2 : Array (Option Value)} {oc2 kV2 dc2 pm2 cd2 ct2 : Value}
    {f3 : Addr} {od3 an3 : Option Addr} {sl3 : Array (Option Value)} {oc3 kV3 dc3 pm3 cd3 ct3 : Value}
    {f4 : Addr} {od4 an4 : Option Addr} {sl4 : Array (Option Value)} {oc4 kV4 dc4 pm4 cd4 ct4 : Value}
    {f5 : Addr} {od5 an5 : Option Addr} {sl5 : Array (Option Value)} {oc5 kV5 dc5 pm5 cd5 ct5 : Value}
    {f6 : Addr} {od6 an6 : Option Addr} {sl6 : Array (Option Value)} {oc6 kV6 dc6 pm6 cd6 ct6 : Value}
    {f7 : Addr} {od7 an7 : Option Addr} {sl7 : Array (Option Value)} {oc7 kV7 dc7 pm7 cd7 ct7 : Value}
    {f8 : Addr} {od8 an8 : Option Addr} {sl8 : Array (Option Value)} {oc8 kV8 dc8 pm8 cd8 ct8 : Value}
    {f9 : Addr} {od9 an9 : Option Addr} {sl9 : Array (Option Value)} {oc9 kV9 dc9 pm9 cd9 ct9 : Value}
    {f10 : Addr} {od10 an10 : Option Addr} {sl10 : Array (Option Value)} {oc10 kV10 dc10 pm10 cd10 ct10 : Value}
    {f11 : Addr} {od11 an11 : Option Addr} {sl11 : Array (Option Value)} {oc11 kV11 dc11 pm11 cd11 ct11 : Value}
    {f12 : Addr} {od12 an12 : Option Addr} {sl12 : Array (Option Value)} {oc12 kV12 dc12 pm12 cd12 ct12 : Value}
    {f13 : Addr} {od13 an13 : Option Addr} {sl13 : Array (Option Value)} {oc13 kV13 dc13 pm13 cd13 ct13 : Value}
    {f14 : Addr} {od14 an14 : Option Addr} {sl14 : Array (Option Value)} {oc14 kV14 dc14 pm14 cd14 ct14 : Value}
    {f15 : Addr} {od15 an15 : Option Addr} {sl15 : Array (Option Value)} {oc15 kV15 dc15 pm15 cd15 ct15 : Value}
    {f16 : Addr} {od16 an16 : Option Addr} {sl16 : Array (Option Value)} {oc16  dc16 pm16 cd16 ct16 : Value} {D16 : Addr}
    {f17 : Addr} {od17 an17 : Option Addr} {sl17 : Array (Option Value)} {oc17 kV17 dc17 pm17 cd17 ct17 : Value}
    {f18 : Addr} {od18 an18 : Option Addr} {sl18 : Array (Option Value)} {oc18 kV18 dc18 pm18 cd18 ct18 : Value}
    {f19 : Addr} {od19 an19 : Option Addr} {sl19 : Array (Option Value)} {oc19 kV19 dc19 pm19 cd19 ct19 : Value}
    {f20 : Addr} {od20 an20 : Option Addr} {sl20 : Array (Option Value)} {oc20 kV20 dc20 pm20 cd20 ct20 : Value}
    {f21 : Addr} {od21 an21 : Option Addr} {sl21 : Array (Option Value)} {oc21 kV21 dc21 pm21 cd21 ct21 : Value}
    {f22 : Addr} {od22 an22 : Option Addr} {sl22 : Array (Option Value)} {oc22 kV22 dc22 pm22 cd22 ct22 : Value}
    {f23 : Addr} {od23 an23 : Option Addr} {sl23 : Array (Option Value)} {oc23 kV23 dc23 pm23 cd23 ct23 : Value}
    {f24 : Addr} {od24 an24 : Option Addr} {sl24 : Array (Option Value)} {oc24 kV24 dc24 pm24 cd24 ct24 : Value}
    {f25 : Addr} {od25 an25 : Option Addr} {sl25 : Array (Option Value)} {oc25 kV25 dc25 pm25 cd25 ct25 : Value}
    {f26 : Addr} {od26 an26 : Option Addr} {sl26 : Array (Option Value)} {oc26 kV26 dc26 pm26 cd26 ct26 : Value}
    {f27 : Addr} {od27 an27 : Option Addr} {sl27 : Array (Option Value)} {oc27 kV27 dc27 pm27 cd27 ct27 : Value}
    {f28 : Addr} {od28 an28 : Option Addr} {sl28 : Array (Option Value)} {oc28 kV28 dc28 pm28 cd28 ct28 : Value}
    {f29 : Addr} {od29 an29 : Option Addr} {sl29 : Array (Option Value)} {oc29 kV29 dc29 pm29 cd29 ct29 : Value}
    {f30 : Addr} {od30 an30 : Option Addr} {sl30 : Array (Option Value)} {oc30 kV30 dc30 pm30 cd30 ct30 : Value}
    {f31 : Addr} {od31 an31 : Option Addr} {sl31 : Array (Option Value)} {oc31 kV31 dc31 pm31 cd31 ct31 : Value}
    {f32 : Addr} {od32 an32 : Option Addr} {sl32 : Array (Option Value)} {oc32 kV32 dc32 pm32 cd32 ct32 : Value}
    {f33 : Addr} {od33 an33 : Option Addr} {sl33 : Array (Option Value)} {oc33 kV33 dc33 pm33 cd33 ct33 : Value}
    {f34 : Addr} {od34 an34 : Option Addr} {sl34 : Array (Option Value)} {oc34 kV34 dc34 pm34 cd34 ct34 : Value}
    {f35 : Addr} {od35 an35 : Option Addr} {sl35 : Array (Option Value)} {oc35 kV35 dc35 pm35 cd35 ct35 : Value}
    {f36 : Addr} {od36 an36 : Option Addr} {sl36 : Array (Option Value)} {oc36 kV36 dc36 pm36 cd36 ct36 : Value}
    {f37 : Addr} {od37 an37 : Option Addr} {sl37 : Array (Option Value)} {oc37 kV37 dc37 pm37 cd37 ct37 : Value}
    {f38 : Addr} {od38 an38 : Option Addr} {sl38 : Array (Option Value)} {oc38 kV38 dc38 pm38 cd38 ct38 : Value}
    {f39 : Addr} {od39 an39 : Option Addr} {sl39 : Array (Option Value)} {oc39 kV39 dc39 pm39 cd39 ct39 : Value}
    {f40 : Addr} {od40 an40 : Option Addr} {sl40 : Array (Option Value)} {oc40 kV40 dc40 pm40 cd40 ct40 : Value}
    {f41 : Addr} {od41 an41 : Option Addr} {sl41 : Array (Option Value)} {oc41 kV41 dc41 pm41 cd41 ct41 : Value}
    (aC : PySem.W.nsIn K mainGlobals "Book" = some (some (.ref C)))
    (a0 : PySem.W.nsIn K mainGlobals "_law_pen" = some (some (.ref f0)))
    (l0 : K.lookup f0 = some ⟨oc0, od0, .func (PySem.W.fnOf "_law_pen" "_law_pen" (defArgs s__law_pen) (defBody s__law_pen) (defScope s__law_pen) .none kV0 dc0 pm0 an0 cd0 ct0), sl0⟩) (c0 : PySem.W.codeIn K cd0 "_law_pen" = true) (k0 : PySem.W.keepIn K (.ref f0) = true)
    (a1 : PySem.W.nsIn K mainGlobals "_law_draw" = some (some (.ref f1)))
    (l1 : K.lookup f1 = some ⟨oc1, od1, .func (PySem.W.fnOf "_law_draw" "_law_draw" (defArgs s__law_draw) (defBody s__law_draw) (defScope s__law_draw) .none kV1 dc1 pm1 an1 cd1 ct1), sl1⟩) (c1 : PySem.W.codeIn K cd1 "_law_draw" = true) (k1 : PySem.W.keepIn K (.ref f1) = true)
    (a2 : PySem.W.nsIn K mainGlobals "_law_names" = some (some (.ref f2)))
    (l2 : K.lookup f2 = some ⟨oc2, od2, .func (PySem.W.fnOf "_law_names" "_law_names" (defArgs s__law_names) (defBody s__law_names) (defScope s__law_names) .none kV2 dc2 pm2 an2 cd2 ct2), sl2⟩) (c2 : PySem.W.codeIn K cd2 "_law_names" = true) (k2 : PySem.W.keepIn K (.ref f2) = true)
    (a3 : PySem.W.nsIn K mainGlobals "_law_moments" = some (some (.ref f3)))
    (l3 : K.lookup f3 = some ⟨oc3, od3, .func (PySem.W.fnOf "_law_moments" "_law_moments" (defArgs s__law_moments) (defBody s__law_moments) (defScope s__law_moments) .none kV3 dc3 pm3 an3 cd3 ct3), sl3⟩) (c3 : PySem.W.codeIn K cd3 "_law_moments" = true) (k3 : PySem.W.keepIn K (.ref f3) = true)
    (a4 : PySem.W.nsIn K mainGlobals "is_number" = some (some (.ref f4)))
    (l4 : K.lookup f4 = some ⟨oc4, od4, .func (PySem.W.fnOf "is_number" "is_number" (defArgs s_is_number) (defBody s_is_number) (defScope s_is_number) .none kV4 dc4 pm4 an4 cd4 ct4), sl4⟩) (c4 : PySem.W.codeIn K cd4 "is_number" = true) (k4 : PySem.W.keepIn K (.ref f4) = true)
    (a5 : PySem.W.nsIn K mainGlobals "is_word" = some (some (.ref f5)))
    (l5 : K.lookup f5 = some ⟨oc5, od5, .func (PySem.W.fnOf "is_word" "is_word" (defArgs s_is_word) (defBody s_is_word) (defScope s_is_word) .none kV5 dc5 pm5 an5 cd5 ct5), sl5⟩) (c5 : PySem.W.codeIn K cd5 "is_word" = true) (k5 : PySem.W.keepIn K (.ref f5) = true)
    (a6 : PySem.W.nsIn K mainGlobals "is_moment" = some (some (.ref f6)))
    (l6 : K.lookup f6 = some ⟨oc6, od6, .func (PySem.W.fnOf "is_moment" "is_moment" (defArgs s_is_moment) (defBody s_is_moment) (defScope s_is_moment) .none kV6 dc6 pm6 an6 cd6 ct6), sl6⟩) (c6 : PySem.W.codeIn K cd6 "is_moment" = true) (k6 : PySem.W.keepIn K (.ref f6) = true)
    (a7 : PySem.W.nsIn K mainGlobals "is_list" = some (some (.ref f7)))
    (l7 : K.lookup f7 = some ⟨oc7, od7, .func (PySem.W.fnOf "is_list" "is_list" (defArgs s_is_list) (defBody s_is_list) (defScope s_is_list) .none kV7 dc7 pm7 an7 cd7 ct7), sl7⟩) (c7 : PySem.W.codeIn K cd7 "is_list" = true) (k7 : PySem.W.keepIn K (.ref f7) = true)
    (a8 : PySem.W.nsIn K mainGlobals "are_sheets" = some (some (.ref f8)))
    (l8 : K.lookup f8 = some ⟨oc8, od8, .func (PySem.W.fnOf "are_sheets" "are_sheets" (defArgs s_are_sheets) (defBody s_are_sheets) (defScope s_are_sheets) .none kV8 dc8 pm8 an8 cd8 ct8), sl8⟩) (c8 : PySem.W.codeIn K cd8 "are_sheets" = true) (k8 : PySem.W.keepIn K (.ref f8) = true)
    (a9 : PySem.W.nsIn K mainGlobals "is_there" = some (some (.ref f9)))
    (l9 : K.lookup f9 = some ⟨oc9, od9, .func (PySem.W.fnOf "is_there" "is_there" (defArgs s_is_there) (defBody s_is_there) (defScope s_is_there) .none kV9 dc9 pm9 an9 cd9 ct9), sl9⟩) (c9 : PySem.W.codeIn K cd9 "is_there" = true) (k9 : PySem.W.keepIn K (.ref f9) = true)
    (a10 : PySem.W.nsIn K mainGlobals "refuse_new" = some (some (.ref f10)))
    (l10 : K.lookup f10 = some ⟨oc10, od10, .func (PySem.W.fnOf "refuse_new" "refuse_new" (defArgs s_refuse_new) (defBody s_refuse_new) (defScope s_refuse_new) .none kV10 dc10 pm10 an10 cd10 ct10), sl10⟩) (c10 : PySem.W.codeIn K cd10 "refuse_new" = true) (k10 : PySem.W.keepIn K (.ref f10) = true)
    (a11 : PySem.W.nsIn K mainGlobals "bad_name" = some (some (.ref f11)))
    (l11 : K.lookup f11 = some ⟨oc11, od11, .func (PySem.W.fnOf "bad_name" "bad_name" (defArgs s_bad_name) (defBody s_bad_name) (defScope s_bad_name) .none kV11 dc11 pm11 an11 cd11 ct11), sl11⟩) (c11 : PySem.W.codeIn K cd11 "bad_name" = true) (k11 : PySem.W.keepIn K (.ref f11) = true)
    (a12 : PySem.W.nsIn K mainGlobals "_may_be_like" = some (some (.ref f12)))
    (l12 : K.lookup f12 = some ⟨oc12, od12, .func (PySem.W.fnOf "_may_be_like" "_may_be_like" (defArgs s__may_be_like) (defBody s__may_be_like) (defScope s__may_be_like) .none kV12 dc12 pm12 an12 cd12 ct12), sl12⟩) (c12 : PySem.W.codeIn K cd12 "_may_be_like" = true) (k12 : PySem.W.keepIn K (.ref f12) = true)
    (a13 : PySem.W.nsIn K mainGlobals "_named_in" = some (some (.ref f13)))
    (l13 : K.lookup f13 = some ⟨oc13, od13, .func (PySem.W.fnOf "_named_in" "_named_in" (defArgs s__named_in) (defBody s__named_in) (defScope s__named_in) .none kV13 dc13 pm13 an13 cd13 ct13), sl13⟩) (c13 : PySem.W.codeIn K cd13 "_named_in" = true) (k13 : PySem.W.keepIn K (.ref f13) = true)
    (a14 : PySem.W.findIn K (.ref C) "__init__" = some (some (.ref f14))) (i14 : PySem.W.isFn K (.ref f14) = true)
    (l14 : K.lookup f14 = some ⟨oc14, od14, .func (PySem.W.fnOf "__init__" "Book.__init__" (defArgs s_Book___init__) (defBody s_Book___init__) (defScope s_Book___init__) .none kV14 dc14 pm14 an14 cd14 ct14), sl14⟩) (c14 : PySem.W.codeIn K cd14 "Book.__init__" = true) (k14 : PySem.W.keepIn K (.ref f14) = true)
    (a15 : PySem.W.findIn K (.ref C) "_keep" = some (some (.ref f15))) (i15 : PySem.W.isFn K (.ref f15) = true)
    (l15 : K.lookup f15 = some ⟨oc15, od15, .func (PySem.W.fnOf "_keep" "Book._keep" (defArgs s_Book__keep) (defBody s_Book__keep) (defScope s_Book__keep) .none kV15 dc15 pm15 an15 cd15 ct15), sl15⟩) (c15 : PySem.W.codeIn K cd15 "Book._keep" = true) (k15 : PySem.W.keepIn K (.ref f15) = true)
    (a16 : PySem.W.findIn K (.ref C) "_name" = some (some (.ref f16))) (i16 : PySem.W.isFn K (.ref f16) = true)
    (l16 : K.lookup f16 = some ⟨oc16, od16, .func (PySem.W.fnOf "_name" "Book._name" (defArgs s_Book__name) (defBody s_Book__name) (defScope s_Book__name) .none (.ref D16) dc16 pm16 an16 cd16 ct16), sl16⟩) (c16 : PySem.W.codeIn K cd16 "Book._name" = true) (k16 : PySem.W.keepIn K (.ref f16) = true)
    (d16 : PySem.W.nsIn K D16 "upto" = some (some .none))
    (a17 : PySem.W.findIn K (.ref C) "_refuse_named" = some (some (.ref f17))) (i17 : PySem.W.isFn K (.ref f17) = true)
    (l17 : K.lookup f17 = some ⟨oc17, od17, .func (PySem.W.fnOf "_refuse_named" "Book._refuse_named" (defArgs s_Book__refuse_named) (defBody s_Book__refuse_named) (defScope s_Book__refuse_named) .none kV17 dc17 pm17 an17 cd17 ct17), sl17⟩) (c17 : PySem.W.codeIn K cd17 "Book._refuse_named" = true) (k17 : PySem.W.keepIn K (.ref f17) = true)
    (a18 : PySem.W.findIn K (.ref C) "rank" = some (some (.ref f18))) (i18 : PySem.W.isFn K (.ref f18) = true)
    (l18 : K.lookup f18 = some ⟨oc18, od18, .func (PySem.W.fnOf "rank" "Book.rank" (defArgs s_Book_rank) (defBody s_Book_rank) (defScope s_Book_rank) .none kV18 dc18 pm18 an18 cd18 ct18), sl18⟩) (c18 : PySem.W.codeIn K cd18 "Book.rank" = true) (k18 : PySem.W.keepIn K (.ref f18) = true)
    (a19 : PySem.W.findIn K (.ref C) "publish" = some (some (.ref f19))) (i19 : PySem.W.isFn K (.ref f19) = true)
    (l19 : K.lookup f19 = some ⟨oc19, od19, .func (PySem.W.fnOf "publish" "Book.publish" (defArgs s_Book_publish) (defBody s_Book_publish) (defScope s_Book_publish) .none kV19 dc19 pm19 an19 cd19 ct19), sl19⟩) (c19 : PySem.W.codeIn K cd19 "Book.publish" = true) (k19 : PySem.W.keepIn K (.ref f19) = true)
    (a20 : PySem.W.findIn K (.ref C) "ahead" = some (some (.ref f20))) (i20 : PySem.W.isFn K (.ref f20) = true)
    (l20 : K.lookup f20 = some ⟨oc20, od20, .func (PySem.W.fnOf "ahead" "Book.ahead" (defArgs s_Book_ahead) (defBody s_Book_ahead) (defScope s_Book_ahead) .none kV20 dc20 pm20 an20 cd20 ct20), sl20⟩) (c20 : PySem.W.codeIn K cd20 "Book.ahead" = true) (k20 : PySem.W.keepIn K (.ref f20) = true)
    (a21 : PySem.W.findIn K (.ref C) "entries" = some (some (.ref f21))) (i21 : PySem.W.isFn K (.ref f21) = true)
    (l21 : K.lookup f21 = some ⟨oc21, od21, .func (PySem.W.fnOf "entries" "Book.entries" (defArgs s_Book_entries) (defBody s_Book_entries) (defScope s_Book_entries) .none kV21 dc21 pm21 an21 cd21 ct21), sl21⟩) (c21 : PySem.W.codeIn K cd21 "Book.entries" = true) (k21 : PySem.W.keepIn K (.ref f21) = true)
    (a22 : PySem.W.findIn K (.ref C) "words" = some (some (.ref f22))) (i22 : PySem.W.isFn K (.ref f22) = true)
    (l22 : K.lookup f22 = some ⟨oc22, od22, .func (PySem.W.fnOf "words" "Book.words" (defArgs s_Book_words) (defBody s_Book_words) (defScope s_Book_words) .none kV22 dc22 pm22 an22 cd22 ct22), sl22⟩) (c22 : PySem.W.codeIn K cd22 "Book.words" = true) (k22 : PySem.W.keepIn K (.ref f22) = true)
    (a23 : PySem.W.findIn K (.ref C) "strike" = some (some (.ref f23))) (i23 : PySem.W.isFn K (.ref f23) = true)
    (l23 : K.lookup f23 = some ⟨oc23, od23, .func (PySem.W.fnOf "strike" "Book.strike" (defArgs s_Book_strike) (defBody s_Book_strike) (defScope s_Book_strike) .none kV23 dc23 pm23 an23 cd23 ct23), sl23⟩) (c23 : PySem.W.codeIn K cd23 "Book.strike" = true) (k23 : PySem.W.keepIn K (.ref f23) = true)
    (a24 : PySem.W.findIn K (.ref C) "_told_of" = some (some (.ref f24))) (i24 : PySem.W.isFn K (.ref f24) = true)
    (l24 : K.lookup f24 = some ⟨oc24, od24, .func (PySem.W.fnOf "_told_of" "Book._told_of" (defArgs s_Book__told_of) (defBody s_Book__told_of) (defScope s_Book__told_of) .none kV24 dc24 pm24 an24 cd24 ct24), sl24⟩) (c24 : PySem.W.codeIn K cd24 "Book._told_of" = true) (k24 : PySem.W.keepIn K (.ref f24) = true)
    (a25 : PySem.W.findIn K (.ref C) "struck" = some (some (.ref f25))) (i25 : PySem.W.isFn K (.ref f25) = true)
    (l25 : K.lookup f25 = some ⟨oc25, od25, .func (PySem.W.fnOf "struck" "Book.struck" (defArgs s_Book_struck) (defBody s_Book_struck) (defScope s_Book_struck) .none kV25 dc25 pm25 an25 cd25 ct25), sl25⟩) (c25 : PySem.W.codeIn K cd25 "Book.struck" = true) (k25 : PySem.W.keepIn K (.ref f25) = true)
    (a26 : PySem.W.findIn K (.ref C) "wholly" = some (some (.ref f26))) (i26 : PySem.W.isFn K (.ref f26) = true)
    (l26 : K.lookup f26 = some ⟨oc26, od26, .func (PySem.W.fnOf "wholly" "Book.wholly" (defArgs s_Book_wholly) (defBody s_Book_wholly) (defScope s_Book_wholly) .none kV26 dc26 pm26 an26 cd26 ct26), sl26⟩) (c26 : PySem.W.codeIn K cd26 "Book.wholly" = true) (k26 : PySem.W.keepIn K (.ref f26) = true)
    (a27 : PySem.W.findIn K (.ref C) "names" = some (some (.ref f27))) (i27 : PySem.W.isFn K (.ref f27) = true)
    (l27 : K.lookup f27 = some ⟨oc27, od27, .func (PySem.W.fnOf "names" "Book.names" (defArgs s_Book_names) (defBody s_Book_names) (defScope s_Book_names) .none kV27 dc27 pm27 an27 cd27 ct27), sl27⟩) (c27 : PySem.W.codeIn K cd27 "Book.names" = true) (k27 : PySem.W.keepIn K (.ref f27) = true)
    (a28 : PySem.W.findIn K (.ref C) "taker" = some (some (.ref f28))) (i28 : PySem.W.isFn K (.ref f28) = true)
    (l28 : K.lookup f28 = some ⟨oc28, od28, .func (PySem.W.fnOf "taker" "Book.taker" (defArgs s_Book_taker) (defBody s_Book_taker) (defScope s_Book_taker) .none kV28 dc28 pm28 an28 cd28 ct28), sl28⟩) (c28 : PySem.W.codeIn K cd28 "Book.taker" = true) (k28 : PySem.W.keepIn K (.ref f28) = true)
    (a29 : PySem.W.findIn K (.ref C) "choose" = some (some (.ref f29))) (i29 : PySem.W.isFn K (.ref f29) = true)
    (l29 : K.lookup f29 = some ⟨oc29, od29, .func (PySem.W.fnOf "choose" "Book.choose" (defArgs s_Book_choose) (defBody s_Book_choose) (defScope s_Book_choose) .none kV29 dc29 pm29 an29 cd29 ct29), sl29⟩) (c29 : PySem.W.codeIn K cd29 "Book.choose" = true) (k29 : PySem.W.keepIn K (.ref f29) = true)
    (a30 : PySem.W.nsIn K mainGlobals "_law_tell" = some (some (.ref f30)))
    (l30 : K.lookup f30 = some ⟨oc30, od30, .func (PySem.W.fnOf "_law_tell" "_law_tell" (defArgs s__law_tell) (defBody s__law_tell) (defScope s__law_tell) .none kV30 dc30 pm30 an30 cd30 ct30), sl30⟩) (c30 : PySem.W.codeIn K cd30 "_law_tell" = true) (k30 : PySem.W.keepIn K (.ref f30) = true)
    (a31 : PySem.W.nsIn K mainGlobals "_law_book" = some (some (.ref f31)))
    (l31 : K.lookup f31 = some ⟨oc31, od31, .func (PySem.W.fnOf "_law_book" "_law_book" (defArgs s__law_book) (defBody s__law_book) (defScope s__law_book) .none kV31 dc31 pm31 an31 cd31 ct31), sl31⟩) (c31 : PySem.W.codeIn K cd31 "_law_book" = true) (k31 : PySem.W.keepIn K (.ref f31) = true)
    (a32 : PySem.W.nsIn K mainGlobals "_law_there" = some (some (.ref f32)))
    (l32 : K.lookup f32 = some ⟨oc32, od32, .func (PySem.W.fnOf "_law_there" "_law_there" (defArgs s__law_there) (defBody s__law_there) (defScope s__law_there) .none kV32 dc32 pm32 an32 cd32 ct32), sl32⟩) (c32 : PySem.W.codeIn K cd32 "_law_there" = true) (k32 : PySem.W.keepIn K (.ref f32) = true)
    (a33 : PySem.W.nsIn K mainGlobals "_law_until" = some (some (.ref f33)))
    (l33 : K.lookup f33 = some ⟨oc33, od33, .func (PySem.W.fnOf "_law_until" "_law_until" (defArgs s__law_until) (defBody s__law_until) (defScope s__law_until) .none kV33 dc33 pm33 an33 cd33 ct33), sl33⟩) (c33 : PySem.W.codeIn K cd33 "_law_until" = true) (k33 : PySem.W.keepIn K (.ref f33) = true)
    (a34 : PySem.W.nsIn K mainGlobals "_law_row" = some (some (.ref f34)))
    (l34 : K.lookup f34 = some ⟨oc34, od34, .func (PySem.W.fnOf "_law_row" "_law_row" (defArgs s__law_row) (defBody s__law_row) (defScope s__law_row) .none kV34 dc34 pm34 an34 cd34 ct34), sl34⟩) (c34 : PySem.W.codeIn K cd34 "_law_row" = true) (k34 : PySem.W.keepIn K (.ref f34) = true)
    (a35 : PySem.W.nsIn K mainGlobals "_law_strikes" = some (some (.ref f35)))
    (l35 : K.lookup f35 = some ⟨oc35, od35, .func (PySem.W.fnOf "_law_strikes" "_law_strikes" (defArgs s__law_strikes) (defBody s__law_strikes) (defScope s__law_strikes) .none kV35 dc35 pm35 an35 cd35 ct35), sl35⟩) (c35 : PySem.W.codeIn K cd35 "_law_strikes" = true) (k35 : PySem.W.keepIn K (.ref f35) = true)
    (a36 : PySem.W.nsIn K mainGlobals "_law_of_rank" = some (some (.ref f36)))
    (l36 : K.lookup f36 = some ⟨oc36, od36, .func (PySem.W.fnOf "_law_of_rank" "_law_of_rank" (defArgs s__law_of_rank) (defBody s__law_of_rank) (defScope s__law_of_rank) .none kV36 dc36 pm36 an36 cd36 ct36), sl36⟩) (c36 : PySem.W.codeIn K cd36 "_law_of_rank" = true) (k36 : PySem.W.keepIn K (.ref f36) = true)
    (a37 : PySem.W.nsIn K mainGlobals "_law_takers" = some (some (.ref f37)))
    (l37 : K.lookup f37 = some ⟨oc37, od37, .func (PySem.W.fnOf "_law_takers" "_law_takers" (defArgs s__law_takers) (defBody s__law_takers) (defScope s__law_takers) .none kV37 dc37 pm37 an37 cd37 ct37), sl37⟩) (c37 : PySem.W.codeIn K cd37 "_law_takers" = true) (k37 : PySem.W.keepIn K (.ref f37) = true)
    (a38 : PySem.W.nsIn K mainGlobals "_law_is_so" = some (some (.ref f38)))
    (l38 : K.lookup f38 = some ⟨oc38, od38, .func (PySem.W.fnOf "_law_is_so" "_law_is_so" (defArgs s__law_is_so) (defBody s__law_is_so) (defScope s__law_is_so) .none kV38 dc38 pm38 an38 cd38 ct38), sl38⟩) (c38 : PySem.W.codeIn K cd38 "_law_is_so" = true) (k38 : PySem.W.keepIn K (.ref f38) = true)
    (a39 : PySem.W.nsIn K mainGlobals "_law_record" = some (some (.ref f39)))
    (l39 : K.lookup f39 = some ⟨oc39, od39, .func (PySem.W.fnOf "_law_record" "_law_record" (defArgs s__law_record) (defBody s__law_record) (defScope s__law_record) .none kV39 dc39 pm39 an39 cd39 ct39), sl39⟩) (c39 : PySem.W.codeIn K cd39 "_law_record" = true) (k39 : PySem.W.keepIn K (.ref f39) = true)
    (a40 : PySem.W.nsIn K mainGlobals "_law_records" = some (some (.ref f40)))
    (l40 : K.lookup f40 = some ⟨oc40, od40, .func (PySem.W.fnOf "_law_records" "_law_records" (defArgs s__law_records) (defBody s__law_records) (defScope s__law_records) .none kV40 dc40 pm40 an40 cd40 ct40), sl40⟩) (c40 : PySem.W.codeIn K cd40 "_law_records" = true) (k40 : PySem.W.keepIn K (.ref f40) = true)
    (a41 : PySem.W.nsIn K mainGlobals "law" = some (some (.ref f41)))
    (l41 : K.lookup f41 = some ⟨oc41, od41, .func (PySem.W.fnOf "law" "law" (defArgs s_law) (defBody s_law) (defScope s_law) .none kV41 dc41 pm41 an41 cd41 ct41), sl41⟩) (c41 : PySem.W.codeIn K cd41 "law" = true) (k41 : PySem.W.keepIn K (.ref f41) = true)
    (pg : PySem.W.plainGet K C Str.empty = true) (hd : PySem.W.hasDictIn K C = true) (po : PySem.W.plainOver K C = true) (sa : PySem.W.findIn K (.ref C) "__setattr__" = some (some (.builtin "object.__setattr__"))) (mk : PySem.W.makesIn K C = true) (kc : PySem.W.keepIn K (.ref C) = true)
    (nE : PySem.W.findIn K (.ref C) "_entries" = some none) (nN : PySem.W.findIn K (.ref C) "_named_by" = some none)
    (z_len : PySem.W.nsIn K mainGlobals "len" = some none)
    (z_abs : PySem.W.nsIn K mainGlobals "abs" = some none)
    (z_range : PySem.W.nsIn K mainGlobals "range" = some none)
    (z_isinstance : PySem.W.nsIn K mainGlobals "isinstance" = some none)
    (z_int : PySem.W.nsIn K mainGlobals "int" = some none)
    (z_bool : PySem.W.nsIn K mainGlobals "bool" = some none)
    (z_str : PySem.W.nsIn K mainGlobals "str" = some none)
    (z_all : PySem.W.nsIn K mainGlobals "all" = some none)
    (z_tuple : PySem.W.nsIn K mainGlobals "tuple" = some none)
    (z_list : PySem.W.nsIn K mainGlobals "list" = some none)
    (z_set : PySem.W.nsIn K mainGlobals "set" = some none)
    (z_sorted : PySem.W.nsIn K mainGlobals "sorted" = some none)
    (z_min : PySem.W.nsIn K mainGlobals "min" = some none)
    {t_MOST_LETTERS : PySem.Tok} (g_MOST_LETTERS : PySem.W.nsIn K mainGlobals "MOST_LETTERS" = some (some (Value.int 12 t_MOST_LETTERS)))
    {t_LETTERS : PySem.Tok} (g_LETTERS : PySem.W.nsIn K mainGlobals "LETTERS" = some (some (Value.str letters t_LETTERS)))
    {t_MOST : PySem.Tok} (g_MOST : PySem.W.nsIn K mainGlobals "MOST" = some (some (Value.int 1000000000000 t_MOST)))
    {t_MOST_RANK : PySem.Tok} (g_MOST_RANK : PySem.W.nsIn K mainGlobals "MOST_RANK" = some (some (Value.int 5 t_MOST_RANK)))
    : ∃ fd : FuncData, (∀ (s : Shared) (v : Value), BindsTo s fd ⟨[v], []⟩ [("_law_script", v)]) ∧ ∀ base : Heap, K.In base → base.Ns mainGlobals mg → FnOk l.prog w K mg base CX0 8 fa fd ["_law_script"] (spLaw K) := by
  have e := hfa.symm.trans (PySem.W.mg_of X G a41)
  cases e
  have TB : BkT K C := ⟨⟨pg, hd, po, sa⟩, nE, nN⟩
  have m_len := PySem.W.mg_none_of X G z_len
  have m_abs := PySem.W.mg_none_of X G z_abs
  have m_range := PySem.W.mg_none_of X G z_range
  have m_isinstance := PySem.W.mg_none_of X G z_isinstance
  have m_int := PySem.W.mg_none_of X G z_int
  have m_bool := PySem.W.mg_none_of X G z_bool
  have m_str := PySem.W.mg_none_of X G z_str
  have m_all := PySem.W.mg_none_of X G z_all
  have m_tuple := PySem.W.mg_none_of X G z_tuple
  have m_list := PySem.W.mg_none_of X G z_list
  have m_set := PySem.W.mg_none_of X G z_set
  have m_sorted := PySem.W.mg_none_of X G z_sorted
  have m_min := PySem.W.mg_none_of X G z_min
  have gl_MOST_LETTERS : ∃ u, mg "MOST_LETTERS" = some u ∧ RelV (.int 12) u := ⟨_, PySem.W.mg_of X G g_MOST_LETTERS, _, rfl⟩
  have gl_LETTERS : ∃ u, mg "LETTERS" = some u ∧ RelV (.str letters) u := ⟨_, PySem.W.mg_of X G g_LETTERS, _, rfl⟩
  have gl_MOST : ∃ u, mg "MOST" = some u ∧ RelV (.int 1000000000000) u := ⟨_, PySem.W.mg_of X G g_MOST, _, rfl⟩
  have gl_MOST_RANK : ∃ u, mg "MOST_RANK" = some u ∧ RelV (.int 5) u := ⟨_, PySem.W.mg_of X G g_MOST_RANK, _, rfl⟩
  have F0 := fun_mk (st := s__law_pen) l0 c0 k0
  have b0 := F0.binds (ps := ["_law_script"]) fun _ _ _ _ _ _ us hl => match us, hl with | [_], _ => rfl
  have F1 := fun_mk (st := s__law_draw) l1 c1 k1
  have b1 := F1.binds (ps := ["_law_pen_here", "_law_many"]) fun _ _ _ _ _ _ us hl => match us, hl with | [_, _], _ => rfl
  have F2 := fun_mk (st := s__law_names) l2 c2 k2
  have b2 := F2.binds (ps := ["_law_pen_here", "_law_many"]) fun _ _ _ _ _ _ us hl => match us, hl with | [_, _], _ => rfl
  have F3 := fun_mk (st := s__law_moments) l3 c3 k3
  have b3 := F3.binds (ps := ["_law_pen_here", "_law_many"]) fun _ _ _ _ _ _ us hl => match us, hl with | [_, _], _ => rfl
  have F4 := fun_mk (st := s_is_number) l4 c4 k4
  have b4 := F4.binds (ps := ["thing", "low", "high"]) fun _ _ _ _ _ _ us hl => match us, hl with | [_, _, _], _ => rfl
  have F5 := fun_mk (st := s_is_word) l5 c5 k5
  have b5 := F5.binds (ps := ["thing"]) fun _ _ _ _ _ _ us hl => match us, hl with | [_], _ => rfl
  have F6 := fun_mk (st := s_is_moment) l6 c6 k6
  have b6 := F6.binds (ps := ["thing"]) fun _ _ _ _ _ _ us hl => match us, hl with | [_], _ => rfl
  have F7 := fun_mk (st := s_is_list) l7 c7 k7
  have b7 := F7.binds (ps := ["thing"]) fun _ _ _ _ _ _ us hl => match us, hl with | [_], _ => rfl
  have F8 := fun_mk (st := s_are_sheets) l8 c8 k8
  have b8 := F8.binds (ps := ["thing"]) fun _ _ _ _ _ _ us hl => match us, hl with | [_], _ => rfl
  have F9 := fun_mk (st := s_is_there) l9 c9 k9
  have b9 := F9.binds (ps := ["moment", "upto"]) fun _ _ _ _ _ _ us hl => match us, hl with | [_, _], _ => rfl
  have F10 := fun_mk (st := s_refuse_new) l10 c10 k10
  have b10 := F10.binds (ps := ["moment", "entries"]) fun _ _ _ _ _ _ us hl => match us, hl with | [_, _], _ => rfl
  have F11 := fun_mk (st := s_bad_name) l11 c11 k11
  have b11 := F11.binds (ps := ["rank", "words", "sheets", "like"]) fun _ _ _ _ _ _ us hl => match us, hl with | [_, _, _, _], _ => rfl
  have F12 := fun_mk (st := s__may_be_like) l12 c12 k12
  have b12 := F12.binds (ps := ["rank", "other"]) fun _ _ _ _ _ _ us hl => match us, hl with | [_, _], _ => rfl
  have F13 := fun_mk (st := s__named_in) l13 c13 k13
  have b13 := F13.binds (ps := ["record"]) fun _ _ _ _ _ _ us hl => match us, hl with | [_], _ => rfl
  have F14 := fun_mk (st := s_Book___init__) l14 c14 k14
  have b14 := F14.binds (ps := ["self"]) fun _ _ _ _ _ _ us hl => match us, hl with | [_], _ => rfl
  have F15 := fun_mk (st := s_Book__keep) l15 c15 k15
  have b15 := F15.binds (ps := ["self", "record"]) fun _ _ _ _ _ _ us hl => match us, hl with | [_, _], _ => rfl
  have F16 := fund_mk (st := s_Book__name) l16 c16 k16 (kws := [("upto", V.non)]) (.inr ⟨_, rfl, fun q hq => by rw [List.mem_singleton] at hq; subst hq; exact ⟨_, d16, rfl⟩⟩)
  have F17 := fun_mk (st := s_Book__refuse_named) l17 c17 k17
  have b17 := F17.binds (ps := ["self", "moment", "name"]) fun _ _ _ _ _ _ us hl => match us, hl with | [_, _, _], _ => rfl
  have F18 := fun_mk (st := s_Book_rank) l18 c18 k18
  have b18 := F18.binds (ps := ["self", "name"]) fun _ _ _ _ _ _ us hl => match us, hl with | [_, _], _ => rfl
  have F19 := fund_mk (st := s_Book_publish) l19 c19 k19 (kws := []) (.inl rfl)
  have F20 := fun_mk (st := s_Book_ahead) l20 c20 k20
  have b20 := F20.binds (ps := ["self", "moment", "name", "other"]) fun _ _ _ _ _ _ us hl => match us, hl with | [_, _, _, _], _ => rfl
  have F21 := fund_mk (st := s_Book_entries) l21 c21 k21 (kws := []) (.inl rfl)
  have F22 := fun_mk (st := s_Book_words) l22 c22 k22
  have b22 := F22.binds (ps := ["self", "name"]) fun _ _ _ _ _ _ us hl => match us, hl with | [_, _], _ => rfl
  have F23 := fund_mk (st := s_Book_strike) l23 c23 k23 (kws := []) (.inl rfl)
  have F24 := fun_mk (st := s_Book__told_of) l24 c24 k24
  have b24 := F24.binds (ps := ["self", "name", "sort", "upto"]) fun _ _ _ _ _ _ us hl => match us, hl with | [_, _, _, _], _ => rfl
  have F25 := fund_mk (st := s_Book_struck) l25 c25 k25 (kws := []) (.inl rfl)
  have F26 := fund_mk (st := s_Book_wholly) l26 c26 k26 (kws := []) (.inl rfl)
  have F27 := fund_mk (st := s_Book_names) l27 c27 k27 (kws := []) (.inl rfl)
  have F28 := fund_mk (st := s_Book_taker) l28 c28 k28 (kws := []) (.inl rfl)
  have F29 := fun_mk (st := s_Book_choose) l29 c29 k29
  have b29 := F29.binds (ps := ["self", "moment", "name", "sheet"]) fun _ _ _ _ _ _ us hl => match us, hl with | [_, _, _, _], _ => rfl
  have F30 := fun_mk (st := s__law_tell) l30 c30 k30
  have b30 := F30.binds (ps := ["_law_book_here", "_law_row_here"]) fun _ _ _ _ _ _ us hl => match us, hl with | [_, _], _ => rfl
  have F31 := fun_mk (st := s__law_book) l31 c31 k31
  have b31 := F31.binds (ps := ["_law_rows"]) fun _ _ _ _ _ _ us hl => match us, hl with | [_], _ => rfl
  have F32 := fun_mk (st := s__law_there) l32 c32 k32
  have b32 := F32.binds (ps := ["_law_rows", "_law_until_here"]) fun _ _ _ _ _ _ us hl => match us, hl with | [_, _], _ => rfl
  have F33 := fun_mk (st := s__law_until) l33 c33 k33
  have b33 := F33.binds (ps := ["_law_pen_here", "_law_rows"]) fun _ _ _ _ _ _ us hl => match us, hl with | [_, _], _ => rfl
  have F34 := fun_mk (st := s__law_row) l34 c34 k34
  have b34 := F34.binds (ps := ["_law_rows", "_law_name"]) fun _ _ _ _ _ _ us hl => match us, hl with | [_, _], _ => rfl
  have F35 := fun_mk (st := s__law_strikes) l35 c35 k35
  have b35 := F35.binds (ps := ["_law_rows", "_law_name", "_law_until_here", "_law_only_whole"]) fun _ _ _ _ _ _ us hl => match us, hl with | [_, _, _, _], _ => rfl
  have F36 := fun_mk (st := s__law_of_rank) l36 c36 k36
  have b36 := F36.binds (ps := ["_law_rows", "_law_level", "_law_until_here"]) fun _ _ _ _ _ _ us hl => match us, hl with | [_, _, _], _ => rfl
  have F37 := fun_mk (st := s__law_takers) l37 c37 k37
  have b37 := F37.binds (ps := ["_law_rows", "_law_name", "_law_until_here"]) fun _ _ _ _ _ _ us hl => match us, hl with | [_, _, _], _ => rfl
  have F38 := fun_mk (st := s__law_is_so) l38 c38 k38
  have b38 := F38.binds (ps := ["_law_rows", "_law_book_here", "_law_until_here"]) fun _ _ _ _ _ _ us hl => match us, hl with | [_, _, _], _ => rfl
  have F39 := fun_mk (st := s__law_record) l39 c39 k39
  have b39 := F39.binds (ps := ["_law_pen_here", "_law_rows", "_law_moment", "_law_firsts", "_law_owns", "_law_lot"]) fun _ _ _ _ _ _ us hl => match us, hl with | [_, _, _, _, _, _], _ => rfl
  have F40 := fun_mk (st := s__law_records) l40 c40 k40
  have b40 := F40.binds (ps := ["_law_pen_here", "_law_lot", "_law_many"]) fun _ _ _ _ _ _ us hl => match us, hl with | [_, _, _], _ => rfl
  have F41 := fun_mk (st := s_law) l41 c41 k41
  have b41 := F41.binds (ps := ["_law_script"]) fun _ _ _ _ _ _ us hl => match us, hl with | [_], _ => rfl
  refine ⟨PySem.W.fnOf "law" "law" (defArgs s_law) (defBody s_law) (defScope s_law) .none kV41 dc41 pm41 an41 cd41 ct41, fun s v => .of_eq rfl, fun base _ _ => ?_⟩
  have O0 := ok__law_pen (P := l.prog) (w := w) (base := base) (mg := mg) F0 
  have O1 := ok__law_draw (P := l.prog) (w := w) (base := base) (mg := mg) F1 m_len m_abs m_range
  have O4 := ok_is_number (P := l.prog) (w := w) (base := base) (mg := mg) F4 m_isinstance m_int m_bool
  have O5 := ok_is_word (P := l.prog) (w := w) (base := base) (mg := mg) F5 m_isinstance m_str m_len m_all gl_MOST_LETTERS gl_LETTERS
  have O7 := ok_is_list (P := l.prog) (w := w) (base := base) (mg := mg) F7 m_isinstance m_tuple m_list
  have O9 := ok_is_there (P := l.prog) (w := w) (base := base) (mg := mg) F9 
  have O12 := ok__may_be_like (P := l.prog) (w := w) (base := base) (mg := mg) F12 
  have O13 := ok__named_in (P := l.prog) (w := w) (base := base) (mg := mg) F13 
  have O14 := ok_Book_init (P := l.prog) (w := w) (base := base) (mg := mg) F14 TB
  have O32 := ok__law_there (P := l.prog) (w := w) (base := base) (mg := mg) F32 
  have O34 := ok__law_row (P := l.prog) (w := w) (base := base) (mg := mg) F34 
  have c__law_draw : C8.Cal l.prog w K mg base 1 "_law_draw" spDraw [] := ⟨_, _, _, _, O1, PySem.W.mg_of X G a1, k1, b1, .nil⟩
  have O2 := ok__law_names (P := l.prog) (w := w) (base := base) (mg := mg) F2 m_len m_range c__law_draw
  have O3 := ok__law_moments (P := l.prog) (w := w) (base := base) (mg := mg) F3 m_range c__law_draw
  have c_is_number : C8.Cal l.prog w K mg base 1 "is_number" (spNumber K) [] := ⟨_, _, _, _, O4, PySem.W.mg_of X G a4, k4, b4, .nil⟩
  have O6 := ok_is_moment (P := l.prog) (w := w) (base := base) (mg := mg) F6 m_isinstance m_tuple m_len gl_MOST c_is_number
  have c_is_list : C8.Cal l.prog w K mg base 1 "is_list" spList [] := ⟨_, _, _, _, O7, PySem.W.mg_of X G a7, k7, b7, .nil⟩
  have c_is_word : C8.Cal l.prog w K mg base 1 "is_word" (spWord K) [] := ⟨_, _, _, _, O5, PySem.W.mg_of X G a5, k5, b5, .nil⟩
  have O8 := ok_are_sheets (P := l.prog) (w := w) (base := base) (mg := mg) F8 m_len m_set m_all c_is_list c_is_word
  have c__named_in : C8.Cal l.prog w K mg base 1 "_named_in" spNamedIn [] := ⟨_, _, _, _, O13, PySem.W.mg_of X G a13, k13, b13, .nil⟩
  have O15 := ok_Book_keep (P := l.prog) (w := w) (base := base) (mg := mg) F15 TB c__named_in
  have c_is_there : C8.Cal l.prog w K mg base 1 "is_there" spThere [] := ⟨_, _, _, _, O9, PySem.W.mg_of X G a9, k9, b9, .nil⟩
  have O21 := ok_Book_entries (P := l.prog) (w := w) (base := base) (mg := mg) F21 TB m_sorted c_is_there
  have O24 := ok_Book_told_of (P := l.prog) (w := w) (base := base) (mg := mg) F24 TB m_sorted c_is_there
  have O33 := ok__law_until (P := l.prog) (w := w) (base := base) (mg := mg) F33 m_len c__law_draw
  have c__law_there : C8.Cal l.prog w K mg base 1 "_law_there" spThereR [] := ⟨_, _, _, _, O32, PySem.W.mg_of X G a32, k32, b32, .nil⟩
  have O35 := ok__law_strikes (P := l.prog) (w := w) (base := base) (mg := mg) F35 c__law_there
  have O36 := ok__law_of_rank (P := l.prog) (w := w) (base := base) (mg := mg) F36 c__law_there
  have O39 := ok__law_record (P := l.prog) (w := w) (base := base) (mg := mg) F39 m_len m_tuple m_range m_min c__law_draw
  have c_is_moment : C8.Cal l.prog w K mg base 2 "is_moment" spMoment [] := ⟨_, _, _, _, O6, PySem.W.mg_of X G a6, k6, b6, .nil⟩
  have O10 := ok_refuse_new (P := l.prog) (w := w) (base := base) (mg := mg) F10 c_is_moment
  have c_are_sheets : C8.Cal l.prog w K mg base 2 "are_sheets" spSheets [] := ⟨_, _, _, _, O8, PySem.W.mg_of X G a8, k8, b8, .nil⟩
  have O11 := ok_bad_name (P := l.prog) (w := w) (base := base) (mg := mg) F11 m_isinstance m_tuple m_len m_all gl_MOST_RANK c_is_number c_is_word c_are_sheets c_is_list c_is_moment
  have O16 := ok_Book_name (P := l.prog) (w := w) (base := base) (mg := mg) F16 TB c_is_moment c_is_there
  have c_Book_entries_upto : MetK l.prog w K mg base 2 C "entries" (spEntries C) 1 ["upto"] (fun vs zs => vs ++ zs) := ⟨_, _, _, fun us ws => us ++ ws, TB.cl, ⟨a21, i21, k21⟩, O21, ⟨fun s us ws _ h1 h2 => match us, h1, ws, h2 with | [_], _, [_], _ => .of_eq rfl, fun r1 r2 => r1.append r2⟩⟩
  have O27 := ok_Book_names (P := l.prog) (w := w) (base := base) (mg := mg) F27 c_Book_entries_upto
  have c__law_row : C8.Cal l.prog w K mg base 1 "_law_row" spRowOf [] := ⟨_, _, _, _, O34, PySem.W.mg_of X G a34, k34, b34, .nil⟩
  have c__law_of_rank : C8.Cal l.prog w K mg base 2 "_law_of_rank" spOfRank [] := ⟨_, _, _, _, O36, PySem.W.mg_of X G a36, k36, b36, .nil⟩
  have c__law_strikes : C8.Cal l.prog w K mg base 2 "_law_strikes" spStrikesL [] := ⟨_, _, _, _, O35, PySem.W.mg_of X G a35, k35, b35, .nil⟩
  have O37 := ok__law_takers (P := l.prog) (w := w) (base := base) (mg := mg) F37 c__law_row c__law_of_rank c__law_strikes
  have c__law_names : C8.Cal l.prog w K mg base 2 "_law_names" spNames [] := ⟨_, _, _, _, O2, PySem.W.mg_of X G a2, k2, b2, .nil⟩
  have c__law_moments : C8.Cal l.prog w K mg base 2 "_law_moments" spMoments [] := ⟨_, _, _, _, O3, PySem.W.mg_of X G a3, k3, b3, .nil⟩
  have c__law_record : C8.Cal l.prog w K mg base 2 "_law_record" spRecord [] := ⟨_, _, _, _, O39, PySem.W.mg_of X G a39, k39, b39, .nil⟩
  have O40 := ok__law_records (P := l.prog) (w := w) (base := base) (mg := mg) F40 c__law_names c__law_moments c__law_record
  have c_Book__name : C8.Met l.prog w K mg base 3 C "_name" (spName C) [.non] := by
    obtain ⟨ds, r, b⟩ := FunD.binds0 (ps := ["self", "name", "upto"]) F16 2 (by simp) rfl fun D doc pm an cdv ct us ks h1 h2 => match us, h1, ks, h2 with | [_, _], _, [_], _ => ⟨_, _, _, _, _, _, rfl, rfl, rfl⟩
    exact ⟨_, _, _, ds, TB.cl, ⟨a16, i16, k16⟩, O16, b, r⟩
  have O17 := ok_Book_refuse_named (P := l.prog) (w := w) (base := base) (mg := mg) F17 c_Book__name
  have O18 := ok_Book_rank (P := l.prog) (w := w) (base := base) (mg := mg) F18 c_Book__name
  have O22 := ok_Book_words (P := l.prog) (w := w) (base := base) (mg := mg) F22 c_Book__name
  have c_Book__name_upto : MetK l.prog w K mg base 3 C "_name" (spName C) 2 ["upto"] (fun vs zs => vs ++ zs) := ⟨_, _, _, fun us ws => us ++ ws, TB.cl, ⟨a16, i16, k16⟩, O16, ⟨fun s us ws _ h1 h2 => match us, h1, ws, h2 with | [_, _], _, [_], _ => .of_eq rfl, fun r1 r2 => r1.append r2⟩⟩
  have c_Book__told_of : C8.Met l.prog w K mg base 2 C "_told_of" (spToldOf C) [] := ⟨_, _, _, _, TB.cl, ⟨a24, i24, k24⟩, O24, b24, .nil⟩
  have O25 := ok_Book_struck (P := l.prog) (w := w) (base := base) (mg := mg) F25 c_Book__name_upto c_Book__told_of
  have O26 := ok_Book_wholly (P := l.prog) (w := w) (base := base) (mg := mg) F26 c_Book__name_upto c_Book__told_of
  have c_refuse_new : C8.Cal l.prog w K mg base 3 "refuse_new" spNew [] := ⟨_, _, _, _, O10, PySem.W.mg_of X G a10, k10, b10, .nil⟩
  have c_bad_name : C8.Cal l.prog w K mg base 3 "bad_name" spBad [] := ⟨_, _, _, _, O11, PySem.W.mg_of X G a11, k11, b11, .nil⟩
  have c__may_be_like : C8.Cal l.prog w K mg base 1 "_may_be_like" spMayLike [] := ⟨_, _, _, _, O12, PySem.W.mg_of X G a12, k12, b12, .nil⟩
  have c_Book__refuse_named : C8.Met l.prog w K mg base 4 C "_refuse_named" (spRefuse C) [] := ⟨_, _, _, _, TB.cl, ⟨a17, i17, k17⟩, O17, b17, .nil⟩
  have c_Book_rank : C8.Met l.prog w K mg base 4 C "rank" (spRank C) [] := ⟨_, _, _, _, TB.cl, ⟨a18, i18, k18⟩, O18, b18, .nil⟩
  have c_Book__keep : C8.Met l.prog w K mg base 2 C "_keep" (spKeep C) [] := ⟨_, _, _, _, TB.cl, ⟨a15, i15, k15⟩, O15, b15, .nil⟩
  have O19 := ok_Book_publish (P := l.prog) (w := w) (base := base) (mg := mg) F19 TB m_tuple c_refuse_new c_bad_name c__may_be_like c_Book__refuse_named c_Book_rank c_Book__keep
  have O20 := ok_Book_ahead (P := l.prog) (w := w) (base := base) (mg := mg) F20 TB c_refuse_new c_Book__refuse_named c_Book_rank c_Book__keep
  have O23 := ok_Book_strike (P := l.prog) (w := w) (base := base) (mg := mg) F23 TB m_bool c_refuse_new c_Book__refuse_named c_Book__keep
  have c_Book_names_rank_upto : MetK l.prog w K mg base 3 C "names" (spNamesOf C) 1 ["rank", "upto"] (fun vs zs => vs ++ zs) := ⟨_, _, _, fun us ws => us ++ ws, TB.cl, ⟨a27, i27, k27⟩, O27, ⟨fun s us ws _ h1 h2 => match us, h1, ws, h2 with | [_], _, [_, _], _ => .of_eq rfl, fun r1 r2 => r1.append r2⟩⟩
  have c_Book_words : C8.Met l.prog w K mg base 4 C "words" (spWords C) [] := ⟨_, _, _, _, TB.cl, ⟨a22, i22, k22⟩, O22, b22, .nil⟩
  have c_Book_wholly_upto : MetK l.prog w K mg base 4 C "wholly" (spStruck C wholeB) 2 ["upto"] (fun vs zs => vs ++ zs) := ⟨_, _, _, fun us ws => us ++ ws, TB.cl, ⟨a26, i26, k26⟩, O26, ⟨fun s us ws _ h1 h2 => match us, h1, ws, h2 with | [_, _], _, [_], _ => .of_eq rfl, fun r1 r2 => r1.append r2⟩⟩
  have O28 := ok_Book_taker (P := l.prog) (w := w) (base := base) (mg := mg) F28 c_Book__name_upto c_Book_names_rank_upto c_Book_words c_Book_wholly_upto
  have O29 := ok_Book_choose (P := l.prog) (w := w) (base := base) (mg := mg) F29 TB c_refuse_new c_Book__refuse_named c_Book__name c_Book__keep
  have c_Book_publish_rank_sheets_like : MetK l.prog w K mg base 5 C "publish" (spPublish C) 3 ["rank", "sheets", "like"] (fun vs zs => vs ++ zs) := ⟨_, _, _, fun us ws => us ++ ws, TB.cl, ⟨a19, i19, k19⟩, O19, ⟨fun s us ws _ h1 h2 => match us, h1, ws, h2 with | [_, _, _], _, [_, _, _], _ => .of_eq rfl, fun r1 r2 => r1.append r2⟩⟩
  have c_Book_choose : C8.Met l.prog w K mg base 5 C "choose" (spChoose C) [] := ⟨_, _, _, _, TB.cl, ⟨a29, i29, k29⟩, O29, b29, .nil⟩
  have c_Book_strike_whole : MetK l.prog w K mg base 5 C "strike" (spStrike C) 3 ["whole"] (fun vs zs => vs ++ zs) := ⟨_, _, _, fun us ws => us ++ ws, TB.cl, ⟨a23, i23, k23⟩, O23, ⟨fun s us ws _ h1 h2 => match us, h1, ws, h2 with | [_, _, _], _, [_], _ => .of_eq rfl, fun r1 r2 => r1.append r2⟩⟩
  have c_Book_ahead : C8.Met l.prog w K mg base 5 C "ahead" (spAhead C) [] := ⟨_, _, _, _, TB.cl, ⟨a20, i20, k20⟩, O20, b20, .nil⟩
  have O30 := ok__law_tell (P := l.prog) (w := w) (base := base) (mg := mg) F30 c_Book_publish_rank_sheets_like c_Book_choose c_Book_strike_whole c_Book_ahead
  have c__law_takers : C8.Cal l.prog w K mg base 3 "_law_takers" spTakersL [] := ⟨_, _, _, _, O37, PySem.W.mg_of X G a37, k37, b37, .nil⟩
  have c_Book_struck_upto : MetK l.prog w K mg base 4 C "struck" (spStruck C fun _ => true) 2 ["upto"] (fun vs zs => vs ++ zs) := ⟨_, _, _, fun us ws => us ++ ws, TB.cl, ⟨a25, i25, k25⟩, O25, ⟨fun s us ws _ h1 h2 => match us, h1, ws, h2 with | [_, _], _, [_], _ => .of_eq rfl, fun r1 r2 => r1.append r2⟩⟩
  have c_Book_taker_upto : MetK l.prog w K mg base 5 C "taker" (spTaker C) 2 ["upto"] (fun vs zs => vs ++ zs) := ⟨_, _, _, fun us ws => us ++ ws, TB.cl, ⟨a28, i28, k28⟩, O28, ⟨fun s us ws _ h1 h2 => match us, h1, ws, h2 with | [_, _], _, [_], _ => .of_eq rfl, fun r1 r2 => r1.append r2⟩⟩
  have O38 := ok__law_is_so (P := l.prog) (w := w) (base := base) (mg := mg) F38 c__law_there c__law_strikes c__law_takers c_Book_struck_upto c_Book_wholly_upto c_Book_taker_upto
  have c_Book : C8.Mak l.prog w K mg base 1 "Book" C (spInit C) [] := ⟨_, _, _, _, ⟨mk, a14, i14, kc⟩, O14, PySem.W.mg_of X G aC, b14, .nil⟩
  have c__law_tell : C8.Cal l.prog w K mg base 6 "_law_tell" (spTell C) [] := ⟨_, _, _, _, O30, PySem.W.mg_of X G a30, k30, b30, .nil⟩
  have O31 := ok__law_book (P := l.prog) (w := w) (base := base) (mg := mg) F31 c_Book c__law_tell
  have c__law_pen : C8.Cal l.prog w K mg base 1 "_law_pen" (spPen K) [] := ⟨_, _, _, _, O0, PySem.W.mg_of X G a0, k0, b0, .nil⟩
  have c__law_records : C8.Cal l.prog w K mg base 3 "_law_records" spRecords [] := ⟨_, _, _, _, O40, PySem.W.mg_of X G a40, k40, b40, .nil⟩
  have c__law_book : C8.Cal l.prog w K mg base 7 "_law_book" (spBookOf C) [] := ⟨_, _, _, _, O31, PySem.W.mg_of X G a31, k31, b31, .nil⟩
  have c__law_until : C8.Cal l.prog w K mg base 2 "_law_until" spUntil [] := ⟨_, _, _, _, O33, PySem.W.mg_of X G a33, k33, b33, .nil⟩
  have c__law_is_so : C8.Cal l.prog w K mg base 6 "_law_is_so" (spIsSo C) [] := ⟨_, _, _, _, O38, PySem.W.mg_of X G a38, k38, b38, .nil⟩
  have O41 := ok_law (P := l.prog) (w := w) (base := base) (mg := mg) F41 TB m_len m_range m_min c__law_pen c__law_draw c__law_names c__law_records c__law_book c__law_until c__law_takers c__law_is_so c__law_tell
  exact O41
theorem walk {l : PySem.W.OpenLaw} {q : Program} {loose : List Str} {XP : (Str → Option Value) → Heap → Prop} {YP : World → Heap → Prop} {d : DefRec} {K : Params → PySem.W.Frag} (hn : l.most = some 63) (hdf : d.params.defaults = [])
    (hY : ∀ (w : World) (h : Heap), YP w h → (K w.params).In h)
    (F : ∀ (w : World) (mg : Str → Option Value) (fa : Addr) (h : Heap), (K w.params).In h → h.Ns mainGlobals mg → mg d.name = some (.ref fa) →
      ∃ fd : FuncData, (∀ (s : Shared) (u : Value), BindsTo s fd ⟨[u], []⟩ [("_law_script", u)]) ∧ ∀ base : Heap, (K w.params).In base → base.Ns mainGlobals mg → FnOk l.prog w (K w.params) mg base CX0 8 fa fd ["_law_script"] (spLaw (K w.params))) :
    PySem.W.WalkO q loose XP YP l.row.toRowW d [] (fun f vs => PySem.call f vs) :=
  L2.walk_of (n := 63) (k := 8) (x := "_law_script") (CX := fun _ => CX0) (sp := fun w => spLaw (K w.params)) hn (by decide) hdf ⟨rfl, by decide, by decide⟩ hY F (fun _ _ a ns hl _ hS => ⟨a, ns, rfl, hS, hl, fun _ => rfl⟩) fun _ _ _ _ _ z => z
end KN
open PySem PySem.W PyProof.Rows
open PySem PySem.W PyProof.Rows in
set_option maxRecDepth 100000 in
set_option maxHeartbeats 0 in
theorem PySem.Challenge.cw_kindnames_k04_takers_and_strikes_holds : PySem.Challenge.rw_kindnames_k04_takers_and_strikes.Holds := by
  w_on; o_law; k_head; (case hw => w_witness2)
  k_fill
  refine KN.walk (l := PySem.Challenge.rw_kindnames_k04_takers_and_strikes) rfl rfl (fun w h Y => PySem.W.kIn_of Y) ?F
  case F =>
    intro w mg fa h KX G hmg
    refine' KN.all_mk KX G hmg ?aC ?a0 ?l0 ?c0 ?k0 ?a1 ?l1 ?c1 ?k1 ?a2 ?l2 ?c2 ?k2 ?a3 ?l3 ?c3 ?k3 ?a4 ?l4 ?c4 ?k4 ?a5 ?l5 ?c5 ?k5 ?a6 ?l6 ?c6 ?k6 ?a7 ?l7 ?c7 ?k7 ?a8 ?l8 ?c8 ?k8 ?a9 ?l9 ?c9 ?k9 ?a10 ?l10 ?c10 ?k10 ?a11 ?l11 ?c11 ?k11 ?a12 ?l12 ?c12 ?k12 ?a13 ?l13 ?c13 ?k13 ?a14 ?i14 ?l14 ?c14 ?k14 ?a15 ?i15 ?l15 ?c15 ?k15 ?a16 ?i16 ?l16 ?c16 ?k16 ?d16 ?a17 ?i17 ?l17 ?c17 ?k17 ?a18 ?i18 ?l18 ?c18 ?k18 ?a19 ?i19 ?l19 ?c19 ?k19 ?a20 ?i20 ?l20 ?c20 ?k20 ?a21 ?i21 ?l21 ?c21 ?k21 ?a22 ?i22 ?l22 ?c22 ?k22 ?a23 ?i23 ?l23 ?c23 ?k23 ?a24 ?i24 ?l24 ?c24 ?k24 ?a25 ?i25 ?l25 ?c25 ?k25 ?a26 ?i26 ?l26 ?c26 ?k26 ?a27 ?i27 ?l27 ?c27 ?k27 ?a28 ?i28 ?l28 ?c28 ?k28 ?a29 ?i29 ?l29 ?c29 ?k29 ?a30 ?l30 ?c30 ?k30 ?a31 ?l31 ?c31 ?k31 ?a32 ?l32 ?c32 ?k32 ?a33 ?l33 ?c33 ?k33 ?a34 ?l34 ?c34 ?k34 ?a35 ?l35 ?c35 ?k35 ?a36 ?l36 ?c36 ?k36 ?a37 ?l37 ?c37 ?k37 ?a38 ?l38 ?c38 ?k38 ?a39 ?l39 ?c39 ?k39 ?a40 ?l40 ?c40 ?k40 ?a41 ?l41 ?c41 ?k41 ?pg ?hd ?po ?sa ?mk ?kc ?nE ?nN ?z_len ?z_abs ?z_range ?z_isinstance ?z_int ?z_bool ?z_str ?z_all ?z_tuple ?z_list ?z_set ?z_sorted ?z_min ?g_MOST_LETTERS ?g_LETTERS ?g_MOST ?g_MOST_RANK
    (case aC => k_is)
    (case a0 => k_is)
    (case l0 => k_is)
    (case c0 => k_is)
    (case k0 => k_is)
    (case a1 => k_is)
    (case l1 => k_is)
    (case c1 => k_is)
    (case k1 => k_is)
    (case a2 => k_is)
    (case l2 => k_is)
    (case c2 => k_is)
    (case k2 => k_is)
    (case a3 => k_is)
    (case l3 => k_is)
    (case c3 => k_is)
    (case k3 => k_is)
    (case a4 => k_is)
    (case l4 => k_is)
    (case c4 => k_is)
    (case k4 => k_is)
    (case a5 => k_is)
    (case l5 => k_is)
    (case c5 => k_is)
    (case k5 => k_is)
    (case a6 => k_is)
    (case l6 => k_is)
    (case c6 => k_is)
    (case k6 => k_is)
    (case a7 => k_is)
    (case l7 => k_is)
    (case c7 => k_is)
    (case k7 => k_is)
    (case a8 => k_is)
    (case l8 => k_is)
    (case c8 => k_is)
    (case k8 => k_is)
    (case a9 => k_is)
    (case l9 => k_is)
    (case c9 => k_is)
    (case k9 => k_is)
    (case a10 => k_is)
    (case l10 => k_is)
    (case c10 => k_is)
    (case k10 => k_is)
    (case a11 => k_is)
    (case l11 => k_is)
    (case c11 => k_is)
    (case k11 => k_is)
    (case a12 => k_is)
    (case l12 => k_is)
    (case c12 => k_is)
    (case k12 => k_is)
    (case a13 => k_is)
    (case l13 => k_is)
    (case c13 => k_is)
    (case k13 => k_is)
    (case a14 => k_is)
    (case i14 => k_is)
    (case l14 => k_is)
    (case c14 => k_is)
    (case k14 => k_is)
    (case a15 => k_is)
    (case i15 => k_is)
    (case l15 => k_is)
    (case c15 => k_is)
    (case k15 => k_is)
    (case a16 => k_is)
    (case i16 => k_is)
    (case l16 => k_is)
    (case c16 => k_is)
    (case k16 => k_is)
    (case d16 => k_is)
    (case a17 => k_is)
    (case i17 => k_is)
    (case l17 => k_is)
    (case c17 => k_is)
    (case k17 => k_is)
    (case a18 => k_is)
    (case i18 => k_is)
    (case l18 => k_is)
    (case c18 => k_is)
    (case k18 => k_is)
    (case a19 => k_is)
    (case i19 => k_is)
    (case l19 => k_is)
    (case c19 => k_is)
    (case k19 => k_is)
    (case a20 => k_is)
    (case i20 => k_is)
    (case l20 => k_is)
    (case c20 => k_is)
    (case k20 => k_is)
    (case a21 => k_is)
    (case i21 => k_is)
    (case l21 => k_is)
    (case c21 => k_is)
    (case k21 => k_is)
    (case a22 => k_is)
    (case i22 => k_is)
    (case l22 => k_is)
    (case c22 => k_is)
    (case k22 => k_is)
    (case a23 => k_is)
    (case i23 => k_is)
    (case l23 => k_is)
    (case c23 => k_is)
    (case k23 => k_is)
    (case a24 => k_is)
    (case i24 => k_is)
    (case l24 => k_is)
    (case c24 => k_is)
    (case k24 => k_is)
    (case a25 => k_is)
    (case i25 => k_is)
    (case l25 => k_is)
    (case c25 => k_is)
    (case k25 => k_is)
    (case a26 => k_is)
    (case i26 => k_is)
    (case l26 => k_is)
    (case c26 => k_is)
    (case k26 => k_is)
    (case a27 => k_is)
    (case i27 => k_is)
    (case l27 => k_is)
    (case c27 => k_is)
    (case k27 => k_is)
    (case a28 => k_is)
    (case i28 => k_is)
    (case l28 => k_is)
    (case c28 => k_is)
    (case k28 => k_is)
    (case a29 => k_is)
    (case i29 => k_is)
    (case l29 => k_is)
    (case c29 => k_is)
    (case k29 => k_is)
    (case a30 => k_is)
    (case l30 => k_is)
    (case c30 => k_is)
    (case k30 => k_is)
    (case a31 => k_is)
    (case l31 => k_is)
    (case c31 => k_is)
    (case k31 => k_is)
    (case a32 => k_is)
    (case l32 => k_is)
    (case c32 => k_is)
    (case k32 => k_is)
    (case a33 => k_is)
    (case l33 => k_is)
    (case c33 => k_is)
    (case k33 => k_is)
    (case a34 => k_is)
    (case l34 => k_is)
    (case c34 => k_is)
    (case k34 => k_is)
    (case a35 => k_is)
    (case l35 => k_is)
    (case c35 => k_is)
    (case k35 => k_is)
    (case a36 => k_is)
    (case l36 => k_is)
    (case c36 => k_is)
    (case k36 => k_is)
    (case a37 => k_is)
    (case l37 => k_is)
    (case c37 => k_is)
    (case k37 => k_is)
    (case a38 => k_is)
    (case l38 => k_is)
    (case c38 => k_is)
    (case k38 => k_is)
    (case a39 => k_is)
    (case l39 => k_is)
    (case c39 => k_is)
    (case k39 => k_is)
    (case a40 => k_is)
    (case l40 => k_is)
    (case c40 => k_is)
    (case k40 => k_is)
    (case a41 => k_is)
    (case l41 => k_is)
    (case c41 => k_is)
    (case k41 => k_is)
    (case pg => k_is)
    (case hd => k_is)
    (case po => k_is)
    (case sa => k_is)
    (case mk => k_is)
    (case kc => k_is)
    (case nE => k_is)
    (case nN => k_is)
    (case z_len => k_is)
    (case z_abs => k_is)
    (case z_range => k_is)
    (case z_isinstance => k_is)
    (case z_int => k_is)
    (case z_bool => k_is)
    (case z_str => k_is)
    (case z_all => k_is)
    (case z_tuple => k_is)
    (case z_list => k_is)
    (case z_set => k_is)
    (case z_sorted => k_is)
    (case z_min => k_is)
    (case g_MOST_LETTERS => k_is)
    (case g_LETTERS => k_is)
    (case g_MOST => k_is)
    (case g_MOST_RANK => k_is)
