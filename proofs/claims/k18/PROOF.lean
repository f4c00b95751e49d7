import PyProof.Rows.All
import Wide.All
import OpenK.AllK
import Wide.FinOn
import HandS.ForMost
import HandS.Wide
import HandS.IsInst
import HandS.Style
import HandS.Flow
import HandS.Evl
import HandS.Walk
import HandS.Codes
import PyProof.Rows.ReprR
import HandS.Exc
import HandS.ExcInit
import HandS.ExcField
import HandS.Property
import HandS.Defaults
import HandS.ClsMeth
import PyProof.ListStr
import HandS.CallSlots
import HandS.WordsExc
import PyProof.ReprBulk
import HandS.Set
import HandS.Strs
import HandS.Zip
import HandS.SetFor
import PyProof.Rows.SortShellAny
import HandS.DictComp
import HandS.Star
import HandS.More
import HandS.FStr
import HandS.Conv
import HandS.TryMany
import KE.KOpsOwn
import HandS.TupAny
import KE.KCallOwn
import HandS.SetBool
import HandS.HotCalls
import HandS.SetKeys
import HandS.NoneIn
import HandS.GenList
import HandS.ListItems
import HandS.NestedHot
import HandS.NestedK
import HandS.Finally
import HandS.SuiteRaise
import HandS.RaiseMore
import HandS.RaiseFrom
import HandS.ExcInitHot
import HandS.Nested
import HandS.EndTab
import HandS.MakeKwOnly
import HandS.TryElse
import KE.KFinally
import KE.KExcRaise
import HandS.Deep
import PySem.Challenge.RW_innercommits_k18_rules_refused
set_option Elab.async false
set_option linter.all false
set_option maxRecDepth 100000
set_option maxHeartbeats 4000000
namespace IC
open PySem L2 TL
/-! ### heaps: all but the addresses of l stand as they stood -/
def Kp (l : List Addr) (H H' : Hp) : Prop := ∀ b o, H b = some o → b ∉ l → H' b = some o
theorem Kp.refl (l : List Addr) (H : Hp) : Kp l H H := fun _ _ e _ => e
theorem Kp.trans {l : List Addr} {H H1 H2 : Hp} (a : Kp l H H1) (b : Kp l H1 H2) : Kp l H H2 := fun c o e h => b c o (a c o e h) h
theorem Kp.same {l : List Addr} {H H' : Hp} (a : Same H H') : Kp l H H' := fun b o e _ => a b o e
theorem Kp.at_ {l : List Addr} {H : Hp} {p : Addr} {o : HO} (h : p ∈ l) : Kp l H (upd H p o) := fun b u e hb => by
  have q : b ≠ p := fun z => hb (by rw [z]; exact h)
  rw [upd_ne q]; exact e
theorem Kp.new {l : List Addr} {H : Hp} {p : Addr} {o : HO} (h : H p = none) : Kp l H (upd H p o) := fun b u e _ => by
  rw [upd_ne (ne_of_none e h)]; exact e
theorem Kp.mut {l : List Addr} {H H' : Hp} {p : Addr} {o : HO} (a : Kp l H H') (h : H p = none) : Kp l H (upd H' p o) := fun b u e hb => by
  rw [upd_ne (ne_of_none e h)]; exact a b u e hb
theorem Kp.mutAt {l : List Addr} {H H' : Hp} {p : Addr} {o : HO} (a : Kp l H H') (h : p ∈ l) : Kp l H (upd H' p o) := a.trans (Kp.at_ h)
theorem none_of {H : Hp} {p D : Addr} {o : HO} (h : upd H p o D = none) : p ≠ D ∧ H D = none := by
  have q : p ≠ D := ne_of_none upd_same h
  rw [upd_ne q.symm] at h
  exact ⟨q, h⟩
theorem Same.new {H : Hp} {p : Addr} {o : HO} (h : H p = none) : Same H (upd H p o) := fun b u e => by
  rw [upd_ne (ne_of_none e h)]; exact e

/-! ### the pool of numbers -/
def pl (a b c : Int) : List V := [.int a, .int b, .int c]
def PoolAt (H : Hp) (p : Addr) (n : Int) : Prop := ∃ a b c : Int, H p = some (.lst (pl a b c)) ∧ 0 ≤ a ∧ 0 ≤ b ∧ b < 2 ^ 63 ∧ 0 ≤ c ∧ c ≤ n
theorem PoolAt.up {H : Hp} {p : Addr} {n m : Int} (h : PoolAt H p n) (e : n ≤ m) : PoolAt H p m := by
  obtain ⟨a, b, c, h1, h2, h3, h4, h5, h6⟩ := h
  exact ⟨a, b, c, h1, h2, h3, h4, h5, Int.le_trans h6 e⟩
theorem PoolAt.mv {H H' : Hp} {p : Addr} {n : Int} (h : PoolAt H p n) (e : ∀ o, H p = some o → H' p = some o) : PoolAt H' p n := by
  obtain ⟨a, b, c, h1, h⟩ := h
  exact ⟨a, b, c, e _ h1, h⟩
/-- _law_draw(pool, many): a number below many; only the pool changes -/
def spDraw : Sp := fun vs H Q _ => ∃ (p : Addr) (m n : Int), vs = [.ref p, .int m] ∧ PoolAt H p n ∧ n < 1000000000 ∧ 0 < m ∧ m.natAbs < 2 ^ 200 ∧
  ∀ (d : Int) (o : HO), 0 ≤ d → d < m → PoolAt (upd H p o) p (n + 1) → Q (.int d) (upd H p o)
/-- _law_pool(script, at): a new pool -/
def spPool (K : PySem.W.Frag) : Sp := fun vs H Q _ => ∃ (a : Addr) (ns : List Int) (j : Nat), vs = [.ref a, .int j] ∧ SqL K H a (ns.map V.int) ∧ j < 64 ∧
  ∀ (p : Addr) (o : HO), H p = none → PoolAt (upd H p o) p 0 → Q (.ref p) (upd H p o)

/-- a def of the text by its name: it keeps the promise sp -/
structure Df (P : Program) (w : World) (K : PySem.W.Frag) (mg : Str → Option Value) (base : Heap) (k : Nat) (x : Str) (ps : List Str) (sp : Sp) : Prop where
  ex : ∃ (f : Addr) (fd : FuncData), FnOk P w K mg base CX0 k f fd ps sp ∧ mg x = some (.ref f) ∧ PySem.W.keepIn K (.ref f) = true ∧ Binds K fd ps []
theorem pe_df {X : Cx} {k j : Nat} {x : Str} {ps : List Str} {sp : Sp} {e : Expr} {es : List Expr} {t : TA} {p pos : Pos} (D : Df X.prog X.w X.K X.mg X.base k x ps sp) (hr : Room j X.A) (hk : k ≤ j) (hg : Gl X x)
    (ha : PA X (e :: es) t) (hdb : (x == ("__debug__" : Str)) = false := by decide) (he : starEach (e :: es) X.env = (false, eval e X.env) :: starEach es X.env := by rfl) (hpl : (backTo pos (starEach es X.env)).any (·.1) = false := by rfl) :
    PE X (.Call (.Name x p) (e :: es) [] pos) (tCall sp [] E0 t) := by
  obtain ⟨f, fd, F, hm, hkp, hb⟩ := D.ex
  exact pe_call F (hr.mono hk) hg hm hkp hb .nil pass0 ha hdb he hpl

/-! ### words -/
def Lt (c : Nat) : Prop := 97 ≤ c ∧ c ≤ 122
def IsW (z : Str) : Prop := 1 ≤ (tl z).length ∧ (tl z).length ≤ 8 ∧ ∀ c ∈ tl z, Lt c
def sgn (c : Nat) : Str := ⟨#[c]⟩
theorem joinL_one : ∀ cs : List Nat, joinL [] (cs.map fun c => [c]) = cs
  | [] => rfl
  | [c] => rfl
  | c :: d :: r => by
    show [c] ++ ([] ++ joinL [] ((d :: r).map fun c => [c])) = c :: d :: r
    rw [joinL_one (d :: r)]
    rfl
theorem tl_joined (cs : List Nat) : tl (Txt.join (Str.ofString "") (cs.map sgn)) = cs := by
  rw [join_eq, tl_join, List.map_map]
  exact joinL_one cs
def spWord : Sp := fun vs H Q _ => ∃ (p : Addr) (n : Int), vs = [.ref p] ∧ PoolAt H p n ∧ n < 900000000 ∧
  ∀ (z : Str) (H' : Hp), IsW z → PoolAt H' p (n + 9) → Kp [p] H H' → Q (.str z) H'
theorem abc_at (d : Int) (h0 : 0 ≤ d) (h1 : d < 26) : ∃ c, atI (Str.ofString "abcdefghijklmnopqrstuvwxyz").cps.toList d = some c ∧ Lt c := by
  have e : (Str.ofString "abcdefghijklmnopqrstuvwxyz").cps.toList = [97,98,99,100,101,102,103,104,105,106,107,108,109,110,111,112,113,114,115,116,117,118,119,120,121,122] := by decide +kernel
  rw [e]
  obtain ⟨j, rfl⟩ : ∃ j : Nat, d = j := ⟨d.toNat, by omega⟩
  have hj : j < 26 := by omega
  refine ⟨97 + j, atI_nat ?_, by unfold Lt; omega⟩
  have all : ∀ k : Fin 26, ([97,98,99,100,101,102,103,104,105,106,107,108,109,110,111,112,113,114,115,116,117,118,119,120,121,122] : List Nat)[k.val]? = some (97 + k.val) := by decide
  exact all ⟨j, hj⟩
/-- no text: a value of another type -/
def Oth (K : PySem.W.Frag) (H : Hp) (v : V) : Prop := ∃ T : String, TyX K H v (.type T) ∧ kitB T "str" = some false
def lB (c : Nat) : Bool := decide (97 ≤ c) && decide (c ≤ 122)
/-- is the text a word -/
def wB (z : Str) : Bool := decide (1 ≤ (tl z).length) && (decide ((tl z).length ≤ 8) && (tl z).all lB)
def spIsWord (K : PySem.W.Frag) : Sp := fun vs H Q _ => ∃ v : V, vs = [v] ∧ ((∃ z : Str, v = .str z ∧ (tl z).length ≤ 1000 ∧ ∀ H', Same H H' → Q (.bl (wB z)) H') ∨ (Oth K H v ∧ ∀ H', Same H H' → Q (.bl false) H'))
theorem len_le {z : Str} (h : (tl z).length ≤ 1000) : z.length ≤ sizeLine := by
  rw [len_tl]; exact Nat.le_of_lt (small1000 h)
theorem tl_one (c : Nat) : tl (⟨#[c]⟩ : Str) = [c] := rfl
theorem one_lt (c d : Nat) : ([c] < [d]) ↔ ¬ d ≤ c := by
  rw [List.cons_lt_cons_iff]
  simp
theorem lt_a (c : Nat) : decide ((⟨#[c]⟩ : Str).cps.toList < (Str.ofString "a").cps.toList) = !decide (97 ≤ c) := by
  have e : (Str.ofString "a").cps.toList = [97] := by decide +kernel
  rw [e]
  show decide ([c] < [97]) = _
  rw [Bool.eq_iff_iff, decide_eq_true_iff, Bool.not_eq_true', decide_eq_false_iff_not]
  exact one_lt c 97
theorem z_lt (c : Nat) : decide ((Str.ofString "z").cps.toList < (⟨#[c]⟩ : Str).cps.toList) = !decide (c ≤ 122) := by
  have e : (Str.ofString "z").cps.toList = [122] := by decide +kernel
  rw [e]
  show decide ([122] < [c]) = _
  rw [Bool.eq_iff_iff, decide_eq_true_iff, Bool.not_eq_true', decide_eq_false_iff_not]
  exact one_lt 122 c
theorem abc_mem (c : Nat) : decide (c ∈ (Str.ofString "abcdefghijklmnopqrstuvwxyz").cps.toList) = lB c := by
  have e : (Str.ofString "abcdefghijklmnopqrstuvwxyz").cps.toList = [97,98,99,100,101,102,103,104,105,106,107,108,109,110,111,112,113,114,115,116,117,118,119,120,121,122] := by decide +kernel
  rw [e]
  unfold lB
  rw [Bool.eq_iff_iff]
  simp
  omega
theorem shaped_all {xs : List PyData} (h : ∀ x ∈ xs, PyData.canLay0 x = true ∧ PyData.depth x ≤ 20) : PyData.canLayAll0 xs = true ∧ PyData.depthAll xs ≤ 20 := by
  induction xs with
  | nil => exact ⟨rfl, Nat.zero_le _⟩
  | cons x r ih =>
    have h1 := h x List.mem_cons_self
    have h2 := ih fun y hy => h y (List.mem_cons_of_mem _ hy)
    refine ⟨?_, ?_⟩
    · show (PyData.canLay0 x && PyData.canLayAll0 r) = true
      rw [h1.1, h2.1]
      rfl
    · show max (PyData.depth x) (PyData.depthAll r) ≤ 20
      omega
theorem shaped_list {xs : List PyData} (h : ∀ x ∈ xs, PyData.canLay0 x = true ∧ PyData.depth x ≤ 20) : SeqAt.shaped (.list xs) = true := by
  obtain ⟨h1, h2⟩ := shaped_all h
  show (PyData.canLay0 (.list xs) && decide (PyData.depth (.list xs) ≤ 64)) = true
  have e1 : PyData.canLay0 (.list xs) = true := h1
  have e2 : PyData.depth (.list xs) = PyData.depthAll xs + 1 := rfl
  rw [e1, e2, decide_eq_true (by omega)]
  rfl
theorem dpAll_strs {K : PySem.W.Frag} {H : Hp} : ∀ zs : List Str, DpAll K H (zs.map V.str) (zs.map PyData.str)
  | [] => .nil
  | z :: r => .cons (.str z) (dpAll_strs r)
def Okc (c : Nat) : Prop := c < 1114112
theorem strOk_of {z : Str} (h : ∀ c ∈ tl z, Okc c) : PyData.strOk z = true := by
  unfold PyData.strOk
  rw [Array.all_eq_true_iff_forall_mem]
  intro c hc
  exact decide_eq_true (h c (by simpa [tl] using hc))
theorem shaped_strs (zs : List Str) (h : ∀ z ∈ zs, ∀ c ∈ tl z, Okc c) : SeqAt.shaped (.list (zs.map PyData.str)) = true := shaped_list fun x hx => by
  obtain ⟨z, hz, rfl⟩ := List.mem_map.mp hx
  exact ⟨strOk_of (h z hz), Nat.zero_le _⟩
/-- a comprehension over range(n) whose element is a drawn letter -/
theorem lc_draw {te : TE} {gi : Nat} {σ : L2.St} {H1 : Hp} {D p : Addr} {Qd : Hp → Prop} (n : Nat) (m : Int) (hn : n ≤ 1000) (hp : PoolAt H1 p m) (hD : H1 D = none)
    (hte : ∀ (x : V) (m' : Int) (H : Hp) (Q : VK), PoolAt H p m' → m' ≤ m + n → (∀ c o, Lt c → PoolAt (upd H p o) p (m' + 1) → Q (.str (sgn c)) (upd H p o)) → te ((σ.set gi none).set gi (some x)) H Q)
    (hd : ∀ (cs : List Nat) (H' : Hp), cs.length = n → (∀ c ∈ cs, Lt c) → H' D = some (.lst ((cs.map sgn).map V.str)) → PoolAt H' p (m + n) → Kp [p] H1 H' → Qd H') :
    ∃ W : Nat → Nat → Hp → Prop, (∃ m, W 0 m (upd H1 D (.lst []))) ∧ ∀ i m H, W i m H →
      ((Itr 0 n).stop i H ∧ Qd H) ∨ ((Itr 0 n).go i H ∧ ∃ Nx : Hp → Prop, (∀ H', Nx H' → ∃ m', m' < m ∧ W (i + 1) m' H') ∧ ∀ x H', (Itr 0 n).yld i H x H' → gName gi x (wipe σ [gi]) H' fun σ2 H2 => wipe σ2 [gi] = wipe σ [gi] ∧ tYes σ2 H2 fun b H3 =>
        if b = true then te σ2 H3 fun y H4 => ∃ acc, H4 D = some (.lst acc) ∧ acc.length < sizeLine ∧ Nx (upd H4 D (.lst (acc ++ [y]))) else Nx H3) := by
  have hpD : p ≠ D := by
    obtain ⟨a, b, c, e, _⟩ := hp
    exact ne_of_none e hD
  refine lc_range (lo := 0) (n := n) (fun i H' => ∃ cs : List Nat, cs.length = i ∧ (∀ c ∈ cs, Lt c) ∧ H' D = some (.lst ((cs.map sgn).map V.str)) ∧ PoolAt H' p (m + i) ∧ Kp [p] H1 H')
    ⟨[], rfl, by simp, upd_same, (hp.mv fun u e => by rw [upd_ne hpD]; exact e).up (by omega), Kp.new hD⟩ ?_ ?_
  · rintro i H' hi ⟨cs, hl, hc, hcD, hp2, kp⟩
    refine ⟨by simp [wipe], ?_⟩
    refine hte _ (m + i) H' _ hp2 (by omega) fun c o hL hp3 => ?_
    refine ⟨_, (by rw [upd_ne hpD.symm]; exact hcD), small1000 (by rw [List.length_map, List.length_map]; omega), cs ++ [c], by simp [hl], ?_, ?_, ?_, (kp.mutAt (by simp)).mut hD⟩
    · intro x hx
      rcases List.mem_append.mp hx with hx | hx
      · exact hc x hx
      · rw [List.mem_singleton.mp hx]; exact hL
    · rw [upd_same, List.map_append, List.map_append]
      rfl
    · exact (hp3.mv fun u q => by rw [upd_ne hpD]; exact q).up (by omega)
  · rintro H' ⟨cs, hl, hc, hcD, hp2, kp⟩
    exact hd cs H' hl hc hcD hp2 kp
theorem sum_sgn (cs : List Nat) : (List.map (fun z : Str => z.length) (cs.map sgn)).sum = cs.length := by
  rw [List.map_map]
  induction cs with
  | nil => rfl
  | cons c r ih => rw [List.map_cons, List.sum_cons, ih, List.length_cons]; show 1 + r.length = r.length + 1; omega
theorem Lt.ok {c : Nat} (h : Lt c) : Okc c := by
  have := h.2
  unfold Okc
  omega
/-- a text of few signs, or a thing of another kind -/
def Txt1 (z : Str) : Prop := (tl z).length ≤ 1000 ∧ ∀ c ∈ tl z, Okc c
def Thing (K : PySem.W.Frag) (H : Hp) (v : V) : Prop := (∃ z : Str, v = .str z ∧ Txt1 z) ∨ Oth K H v
theorem cutS_mem (z : Str) (lo hi : Option Int) : ∀ c ∈ tl (cutS z lo hi), c ∈ tl z := by
  intro c hc
  exact List.mem_of_mem_drop (List.mem_of_mem_take hc)
theorem oth_int {K : PySem.W.Frag} {H : Hp} {i : Int} : Oth K H (.int i) := ⟨"int", .base (.int i), by decide +kernel⟩
theorem oth_bl {K : PySem.W.Frag} {H : Hp} {b : Bool} : Oth K H (.bl b) := ⟨"bool", .base (.bl b), by decide +kernel⟩
theorem oth_non {K : PySem.W.Frag} {H : Hp} : Oth K H .non := ⟨"NoneType", .base .non, by decide +kernel⟩
theorem oth_lst {K : PySem.W.Frag} {H : Hp} {a : Addr} {xs : List V} (h : H a = some (.lst xs)) : Oth K H (.ref a) := ⟨"list", .base (.lst h), by decide +kernel⟩
theorem oth_tup {K : PySem.W.Frag} {H : Hp} {a : Addr} {xs : List V} (h : H a = some (.tup xs)) : Oth K H (.ref a) := ⟨"tuple", .base (.tup h), by decide +kernel⟩
theorem Kp.newAt {l : List Addr} {H H' : Hp} {p : Addr} {o : HO} (a : Kp l H H') (h : H' p = none) : Kp l H (upd H' p o) := a.trans (Kp.new h)
theorem Same.kp {H0 H H' : Hp} {p : Addr} (a : Same H0 H) (k : Kp [p] H H') (h : H0 p = none) : Same H0 H' := fun b o e => k b o (a b o e) (by
  intro z
  have q := List.mem_singleton.mp z
  rw [q, h] at e
  cases e)
theorem Oth.mv {K : PySem.W.Frag} {H H' : Hp} {v : V} (h : Oth K H v) (s : Same H H') : Oth K H' v := by
  obtain ⟨T, ty, kb⟩ := h
  refine ⟨T, ?_, kb⟩
  cases ty with
  | base b =>
    generalize ht : Value.type T = t at b
    cases b with
    | non => injection ht with ht; subst ht; exact .base .non
    | bl x => injection ht with ht; subst ht; exact .base (.bl x)
    | int i => injection ht with ht; subst ht; exact .base (.int i)
    | str x => injection ht with ht; subst ht; exact .base (.str x)
    | flt x => injection ht with ht; subst ht; exact .base (.flt x)
    | lst e => injection ht with ht; subst ht; exact .base (.lst (s _ _ e))
    | frz e => injection ht with ht; subst ht; exact .base (.frz (s _ _ e))
    | tup e => injection ht with ht; subst ht; exact .base (.tup (s _ _ e))
    | dK e => injection ht with ht; subst ht; exact .base (.dK (s _ _ e))
    | dT e => injection ht with ht; subst ht; exact .base (.dT (s _ _ e))
    | ins e => cases ht
  | byt b => exact .byt b
  | set e => exact .set (s _ _ e)
  | kList e c => exact .kList e c
  | kTuple e c => exact .kTuple e c
  | kDict e c => exact .kDict e c
  | fTuple e => exact .fTuple (s _ _ e)
  | fDict e => exact .fDict (s _ _ e)
def spLaw (K : PySem.W.Frag) : Sp := fun vs H Q _ => ∃ (a : Addr) (ns : List Int), vs = [.ref a] ∧ SqL K H a (ns.map V.int) ∧ ns.length ≤ 63 ∧ ∀ H', Q (.bl true) H'
end IC
namespace IC
open PySem L2 TL
/-! ### a static method called by its class; list(text) -/
/-- C.m is a static method: its record at p, its def at g -/
structure SMet (K : PySem.W.Frag) (C : Addr) (mc : Value) (m : Str) (p g : Addr) : Prop where
  rd : ClX.CRead K C mc
  fnd : PySem.W.findCls K (.ref C) mc m = some (.get (.builtin "staticmethod.__get__") (.ref p) .none (.ref C))
  rec_ : ∃ rest, PySem.W.recIn K p "staticmethod" = some (.ref g :: rest)
  kp : PySem.W.keepIn K (.ref g) = true
def tSM (C : Addr) (sp : Sp) (ta : TE) (t : TA) : TE := fun σ H Q => ta σ H fun x H1 => x = .ref C ∧ t σ H1 fun vs H2 => sp vs H2 Q E0
theorem pe_smeth {X : Cx} {k j : Nat} {C p g : Addr} {mc : Value} {fd : FuncData} {ps : List Str} {sp : Sp} {o e : Expr} {es : List Expr} {m : Str} {pos apos : Pos} {ta : TE} {t : TA} {pl : Sem Bool}
    (ho : PE X o ta) (S : SMet X.K C mc m p g) (F : FnOk X.prog X.w X.K X.mg X.base CX0 k g fd ps sp) (hb : Binds X.K fd ps []) (hr : Room j X.A) (hk : k ≤ j) (ha : PA X (e :: es) t)
    (he : starEach (e :: es) X.env = (false, eval e X.env) :: starEach es X.env := by rfl) (hpl : (backTo pos (starEach es X.env)).any (·.1) = false := by rfl)
    (ht : eval (.Call (.Attribute o m apos) (e :: es) [] pos) X.env = (do
      let ov ← eval o X.env; standAt apos.atName
      let (f, first) ← holding [ov] (getMethod ov m pl); callWith pos f first (backTo pos (starEach (e :: es) X.env)) (backToKw pos (keywordEach [] X.env))) := by rfl) :
    PE X (.Call (.Attribute o m apos) (e :: es) [] pos) (tSM C sp ta t) := by
  refine ⟨fun pins s σ H Q I h => PySem.W.methodCall_KW (pl := pl) (thn (ho.run pins s σ H _ I h) fun u s1 ⟨x, H1, I1, rx, ex, q⟩ => ?_) ht⟩
  subst ex
  obtain rfl : u = Value.ref C := rx
  obtain ⟨rest, hrc⟩ := S.rec_
  refine PySem.W.method_cls I1.kIn S.rd.ga (PySem.W.cls_bind I1.kIn S.rd.rd S.fnd ?_)
  refine wpAny_call (PySem.W.sm_get (s := { s1 with toks := s1.toks + 1 }) I1.kIn hrc (PySem.W.handed_on rfl ?_))
  have I2 : Inv X pins σ H1 { s1 with toks := s1.toks + 1 } := I1.tok _
  exact PySem.W.callWith_K (h₀ := X.base) I2.ok.mod.kin S.kp (thn (ha.run pos pins _ σ H1 _ I2 q) fun us s3 ⟨vs, H3, I3, rv, q3⟩ => ⟨I3.kIn, run_fn F (hr.mono hk) hb .nil pass0 I3 rv (by rw [List.append_nil]; exact q3)⟩) he hpl
theorem vals_some : ∀ (its : List Value), (∀ u ∈ its, ∃ y, RelV y u) → ∃ ys, Vals ys its
  | [], _ => ⟨[], .nil⟩
  | u :: r, h => by
    obtain ⟨y, hy⟩ := h u List.mem_cons_self
    obtain ⟨ys, hys⟩ := vals_some r fun v hv => h v (List.mem_cons_of_mem _ hv)
    exact ⟨y :: ys, .cons hy hys⟩
/-- list(text): a new list -/
theorem call_list_txt {X : Cx} (hc : X.A.handled = none) : CallR X (.type "list") (fun xs H Q => ∃ z : Str, xs = [.str z] ∧ z.length ≤ sizeLine ∧ ∀ l ys, H l = none → Q (.ref l) (upd H l (.lst ys))) := by
  intro pins s σ H xs us Q I r h
  obtain ⟨z, rfl, hz, q⟩ := h
  obtain ⟨u, rfl, rx⟩ := vals1 r
  obtain ⟨t, rfl⟩ := rx
  refine call_list_str hc z t (fun h' tk acc c' kp e it => ?_) hz
  obtain ⟨ys, hys⟩ := vals_some acc.toList fun u hu => by
    obtain ⟨j, hj, e1⟩ := List.getElem_of_mem hu
    obtain ⟨c, w, _, rfl⟩ := it.2 j u (by
      rw [← e1]
      simp)
    exact ⟨.str ⟨#[c]⟩, w, rfl⟩
  have hl := hys.length
  refine ⟨.ref s.heap.objs.size, _, I.laid (t' := tk) kp (Nat.le_refl _) (show ObjOk X.prog X.w _ h' _ (.lst ys) from ⟨?_, acc.toList, c', hys, by simpa using e⟩), rfl, q _ ys (I.hok.fresh (Nat.le_refl _))⟩
  have h1 : acc.size = z.cps.size := it.1
  have h2 : acc.toList.length = acc.size := Array.length_toList
  rw [hl, h2, h1]
  exact hz
end IC
namespace IC
open PySem L2 TL
open PyProof.Rows (envOfC)
/-! ### defs that ask repr: no repr may be under way around them -/
structure FnG (P : Program) (w : World) (K : PySem.W.Frag) (mg : Str → Option Value) (base : Heap) (k : Nat) (f : Addr) (fd : FuncData) (ps : List Str) (sp : Sp) : Prop where
  len : ∀ vs H Q E, sp vs H Q E → vs.length = ps.length
  run : ∀ (B : Around) (outer : List Env) (s : Shared) (H : Hp) (args : Args) (us : List Value) (vs : List V) (Q : VK) (E : XK), B.guards = some [] → Room k B → Env0 P w K mg base B outer s H → BindsTo s fd args (ps.zip us) → Vals vs us →
    sp vs H Q E → codeAny (model P w) B (.call (.ref f) args) (CR CX0 outer P w H s Q E) s
section
variable {P : Program} {w : World} {K : PySem.W.Frag} {mg : Str → Option Value} {base : Heap}
theorem FnOk.g {k : Nat} {f : Addr} {fd : FuncData} {ps : List Str} {sp : Sp} (F : FnOk P w K mg base CX0 k f fd ps sp) : FnG P w K mg base k f fd ps sp :=
  ⟨F.len, fun B outer s H args us vs Q E _ => F.run B outer s H args us vs Q E⟩
theorem FnG.mono {j k : Nat} {f : Addr} {fd : FuncData} {ps : List Str} {sp : Sp} (F : FnG P w K mg base j f fd ps sp) (h : j ≤ k) : FnG P w K mg base k f fd ps sp :=
  ⟨F.len, fun B outer s H args us vs Q E hg hr => F.run B outer s H args us vs Q E hg (hr.mono h)⟩
theorem Fun.okG {x qual : Str} {st : Stmt} {f : Addr} {fd : FuncData} {N ps : List Str} {k : Nat} {sp : Sp} (F : Fun K x qual st f fd) (S : FnScope N ps (defScope st)) (len : ∀ vs H Q E, sp vs H Q E → vs.length = ps.length)
    (hbody : ∀ (cdv : Value) (B : Around) (outer : List Env) (s : Shared) (H : Hp) (vs : List V) (Q : VK) (E : XK), (B.deeper (envOfC qual (defScope st) s.heap.objs.size f cdv)).guards = some [] →
      Room k (B.deeper (envOfC qual (defScope st) s.heap.objs.size f cdv)) → sp vs H Q E →
      ∃ t, PSs (cxOf CX0 P w K mg base N qual (defScope st) f cdv B outer s H E).nox (defBody st) t ∧ t { nx := fun _ H' => Q .non H', rt := Q } (start N vs) H) : FnG P w K mg base (k + 1) f fd ps sp := by
  obtain ⟨oc, od, kV, doc, pm, an, cdv, ct, osl, rfl, lk, hcd⟩ := F.ex
  refine ⟨len, fun B outer s H args us vs Q E hg hr e0 hb r hsp => ?_⟩
  have inK : K.In s.heap := e0.mod.kin.keeps fun b o e => And.left (e0.bs b o e)
  have noL : s.heap.NoLimit := e0.mod.nolimit.keeps fun b o e => And.left (e0.bs b o e)
  have kinds : ∀ y ∈ ps.zip us, (defScope st).names.lookup y.1 = some .local ∨ ((defScope st).names.lookup y.1 = some .cell ∧ ((cellsFrom (s.heap.objs.size + 1) (defScope st).names []).lookup y.1).isSome = true) := by
    rintro ⟨n, v⟩ hy
    cases S.par n (And.left (List.of_mem_zip hy)) with
    | inl q => exact Or.inl q
    | inr q => exact Or.inr (And.intro q (PySem.W.cellsFrom_some _ _ _ (Or.inl q)))
  refine codeAny_call_function (Room.depth hr) (inK _ _ lk) rfl S.co S.gen rfl (PySem.W.codeRec_of inK hcd) (hb _ _ _ _ (wpAny_newFunctionEnv_cells S.kind kinds fun env he s1 x => ?_))
  subst he
  obtain ⟨t, ht, hq⟩ := hbody cdv B outer s H vs Q E hg (Room.deeper hr _) hsp
  have I0 := inv_start (CX := CX0) (E := E) S (Room.hd hr) e0 (len _ _ _ _ hsp) r x
  refine And.intro (noL.keeps (And.left (And.intro x.toInCall.keep trivial))) (codeAny_func (wpAny_mono (ht.nox.run [] s1 (start N vs) H _ I0 hq) (fun fl s' hs => ?_) fun _ _ z => z))
  cases fl with
  | ret u =>
    obtain ⟨v, σ', H', J, rv, q⟩ := hs
    exact Exists.intro v (Exists.intro H' ⟨J.os, J.bare, J.base, J.hok, rv, q⟩)
  | next =>
    obtain ⟨σ', H', J, q⟩ := hs
    exact Exists.intro V.non (Exists.intro H' ⟨J.os, J.bare, J.base, J.hok, rfl, q⟩)
  | brk =>
    obtain ⟨_, _, _, q⟩ := hs
    exact q.elim
  | cont =>
    obtain ⟨_, _, _, q⟩ := hs
    exact q.elim
/-- a def of the text by its name, for a caller around which no repr is under way -/
structure DfG (P : Program) (w : World) (K : PySem.W.Frag) (mg : Str → Option Value) (base : Heap) (k : Nat) (x : Str) (ps : List Str) (sp : Sp) : Prop where
  ex : ∃ (f : Addr) (fd : FuncData), FnG P w K mg base k f fd ps sp ∧ mg x = some (.ref f) ∧ PySem.W.keepIn K (.ref f) = true ∧ Binds K fd ps []
theorem pe_dfG {X : Cx} {k j : Nat} {x : Str} {ps : List Str} {sp : Sp} {e : Expr} {es : List Expr} {t : TA} {p pos : Pos} (D : DfG X.prog X.w X.K X.mg X.base k x ps sp) (hgd : X.A.guards = some []) (hr : Room j X.A) (hk : k ≤ j) (hg : Gl X x)
    (ha : PA X (e :: es) t) (hdb : (x == ("__debug__" : Str)) = false := by decide) (he : starEach (e :: es) X.env = (false, eval e X.env) :: starEach es X.env := by rfl) (hpl : (backTo pos (starEach es X.env)).any (·.1) = false := by rfl) :
    PE X (.Call (.Name x p) (e :: es) [] pos) (tCall sp [] E0 t) := by
  obtain ⟨f, fd, F, hm, hkp, hb⟩ := D.ex
  refine ⟨fun pins s σ H Q I h => wpAny_Call_Name_kw (ld_glob I hg hm (PySem.W.callWith_K (h₀ := X.base) I.ok.mod.kin hkp (thn (ha.run pos pins s σ H _ I h) fun us s1 hh => ?_) he hpl) hdb)⟩
  obtain ⟨vs, H1, I1, r, q⟩ := hh
  refine And.intro I1.kIn ?_
  rw [List.append_nil] at q
  have hl : us.length = ps.length := by rw [← r.length]; exact F.len _ _ _ _ q
  refine wpAny_call (codeAny_mono (F.run X.A X.stack s1 H1 ⟨us, []⟩ us vs Q E0 hgd (hr.mono hk) I1.env0 (by have z := hb s1 us I1.kIn (by rw [List.append_nil]; exact hl); rw [List.append_nil] at z; exact z) r q) fun r s' hq => ?_)
  cases r with
  | error er => exact False.elim hq
  | ok fl =>
    cases fl with
    | ret u => exact I1.after hq
    | next => exact False.elim hq
    | brk => exact False.elim hq
    | cont => exact False.elim hq
/-- repr of data -/
theorem call_reprD {X : Cx} (hgd : X.A.guards = some []) (hu : X.A.units + 64 < cLine) : CallR X (.builtin "repr") (fun xs H Q => ∃ (a : Addr) (d : PyData), xs = [.ref a] ∧ Dp X.K H (.ref a) d ∧ d.showable = true ∧ d.hasDict = false ∧ d.depth ≤ 20 ∧ d.shown.length ≤ sizeLine ∧ Q (.str d.shown) H) := by
  intro pins s σ H xs us Q I r h
  obtain ⟨a, d, rfl, hd, h1, h2, h3, h4, q⟩ := h
  obtain ⟨u, rfl, ru⟩ := vals1 r
  obtain rfl : u = Value.ref a := ru
  obtain ⟨as, rd⟩ := hd.reads I _ _ _ rfl
  refine repr_of_reads' rd h1 (fun e => by rw [h2] at e; cases e) hgd (by omega) (fun _ _ e => e) (fun h' w' tk kp => ⟨.str d.shown, H, I.kept (t' := tk) kp, ⟨_, rfl⟩, q⟩) h4
end
end IC
namespace IC
open PySem L2 TL PyProof.Rows
/-- the law's own call, where its def is an FnG -/
theorem call_law {P : Program} {w : World} {K : PySem.W.Frag} {mg mb : Str → Option Value} {k : Nat} {fa a : Addr} {fd : FuncData} {s0 : Shared} {vs : List Value} {ns : List Int}
    (inK : K.In s0.heap) (gl : s0.heap.Ns mainGlobals mg) (bl : s0.heap.Ns builtinsNs mb) (bo : ∀ x : Str, x ≠ "__name__" → mb x = bootBuiltins x) (noL : s0.heap.NoLimit) (gn : s0.gens = #[])
    (at_ : s0.heap.get? a = some { cls := .type "list", data := .seq vs.toArray }) (are : IntsAre vs ns) (small : ns.length ≤ sizeLine) (hr : Room k callerA) (hg : callerA.guards = some [])
    (F : ∀ base : Heap, K.In base → base.Ns mainGlobals mg → FnG P w K mg base k fa fd ["script"] (spLaw K)) (bnd : ∀ (s : Shared) (u : Value), BindsTo s fd ⟨[u], []⟩ [("script", u)]) (few : ns.length ≤ 63) :
    codeAny (model P w) callerA (.call (.ref fa) ⟨[.ref a], []⟩) (fun r s' => r = .ok (.ret (.bool true)) ∧ OldK s0.heap s'.heap ∧ s'.os = s0.os ∧ AllBare s'.gens) s0 := by
  have rel := vals_ints are
  have main : ∀ G : Hp, Only G → SqL K G a (ns.map V.int) → HOk P w G s0.heap → (∀ b, G b ≠ none → b = a ∧ K.lookup a = none) →
      codeAny (model P w) callerA (.call (.ref fa) ⟨[.ref a], []⟩) (fun r s' => r = .ok (.ret (.bool true)) ∧ OldK s0.heap s'.heap ∧ s'.os = s0.os ∧ AllBare s'.gens) s0 := by
    intro G only sq hok one
    have down : ∀ {b : Addr} {o : Obj}, s0.heap.get? b = some o → G b = none → (hidT s0.heap G).get? b = some o := fun {b o} e n => hidT_get e n
    have free : ∀ {b : Addr} {o : Obj} {es : Array DictEntry} {ep : Nat}, s0.heap.get? b = some o → o.data = .dict es ep → G b = none := by
      intro b o es ep e d
      cases q : G b with
      | none => rfl
      | some u =>
        obtain ⟨rfl, _⟩ := one b (by rw [q]; simp)
        rw [at_] at e
        cases e
        cases d
    have names : ∀ {b : Addr} {m : Str → Option Value}, s0.heap.Ns b m → (hidT s0.heap G).Ns b m := by
      rintro b m ⟨o, es, ep, e, d, r⟩
      exact ⟨o, es, ep, down e (free e d), d, r⟩
    have inB : K.In (hidT s0.heap G) := by
      intro b o e
      refine down (inK b o e) ?_
      cases q : G b with
      | none => rfl
      | some u =>
        obtain ⟨rfl, n⟩ := one b (by rw [q]; simp)
        rw [n] at e
        cases e
    obtain ⟨mc, c1, c2⟩ := noL
    have env : Env0 P w K mg (hidT s0.heap G) callerA [] s0 G := ⟨rfl, ⟨inB, names gl, ⟨mb, names bl, bo⟩, ⟨mc, names c1, c2⟩⟩, fun b o e => of_hidT e, Nat.le_of_eq (hidT_size _ _), trivial, fun b hb => absurd (show b ∈ ([] : List Addr) from hb) (by simp), hok, .of_eq gn⟩
    have go := (F _ inB (names gl)).run callerA [] s0 G ⟨[.ref a], []⟩ [.ref a] [.ref a] (fun v _ => v = .bl true) (fun _ _ _ => False) hg hr env (bnd s0 (.ref a)) (.cons rfl .nil) ⟨a, ns, rfl, sq, few, fun _ => rfl⟩
    refine codeAny_mono go (fun r s' h => ?_)
    match r, h with
    | .error e, h => exact False.elim h
    | .ok .next, h => exact False.elim h
    | .ok .brk, h => exact False.elim h
    | .ok .cont, h => exact False.elim h
    | .ok (.ret u), ⟨v, G', o1, o2, un, hok', r', q⟩ =>
      have q : v = V.bl true := q
      subst q
      obtain rfl : u = Value.bool true := r'
      refine And.intro rfl (And.intro (OldK.of_keep fun b o e => ?_) (And.intro o1 o2))
      cases q : G b with
      | none => exact un.keep b o e q (fun z => absurd (show b ∈ ([] : List Addr) from z) (by simp)) (by simp)
      | some u =>
        rcases only b with z | ⟨ob, xs, z⟩
        · rw [q] at z
          cases z
        · have t1 := And.left (hok b _ z)
          have t2 := And.left (hok' b _ (un.frzs b ob _ z))
          rw [e] at t1
          cases t1
          exact t2
  cases hk : K.lookup a with
  | some o =>
    have e := inK a o hk
    rw [at_] at e
    cases e
    exact main (fun _ => none) (fun _ => Or.inl rfl) (Or.inr ⟨_, vs.toArray, _, hk, rfl, rfl, rfl, by rw [List.size_toArray, are.length]; exact small, by simpa using rel⟩) (fun b u z => nomatch (show (none : Option HO) = some u from z)) (fun b z => absurd rfl z)
  | none =>
    have only1 : ∀ b, (if b = a then some (HO.frz { cls := .type "list", data := .seq vs.toArray } (.lst (ns.map V.int))) else none) ≠ none → b = a := by
      intro b z
      by_cases hb : b = a
      · exact hb
      · rw [if_neg hb] at z
        exact absurd rfl z
    refine main (fun b => if b = a then some (.frz { cls := .type "list", data := .seq vs.toArray } (.lst (ns.map V.int))) else none) (fun b => ?_) (Or.inl (Or.inr ⟨_, if_pos rfl⟩)) (fun b u z => ?_) (fun b z => And.intro (only1 b z) hk)
    · by_cases hb : b = a
      · exact Or.inr ⟨_, _, if_pos hb⟩
      · exact Or.inl (if_neg hb)
    · have hb := only1 b (by rw [show (if b = a then some (HO.frz { cls := .type "list", data := .seq vs.toArray } (.lst (ns.map V.int))) else none) = some u from z]; simp)
      subst hb
      have z2 := (if_pos rfl).symm.trans z
      cases z2
      exact And.intro at_ (And.intro (by rw [List.length_map]; exact small) ⟨vs, _, rel, at_⟩)
theorem walkG {l : PySem.W.OpenLaw} {k : Nat} {q : Program} {loose : List Str} {XP : (Str → Option Value) → Heap → Prop} {YP : World → Heap → Prop} {d : DefRec} {K : Params → PySem.W.Frag} (hn : l.most = some 63) (hdf : d.params.defaults = []) (hr : Room k callerA)
    (hY : ∀ (w : World) (h : Heap), YP w h → (K w.params).In h)
    (F : ∀ (w : World) (mg : Str → Option Value) (fa : Addr) (h : Heap), (K w.params).In h → h.Ns mainGlobals mg → mg d.name = some (.ref fa) →
      ∃ fd : FuncData, (∀ (s : Shared) (u : Value), BindsTo s fd ⟨[u], []⟩ [("script", u)]) ∧ ∀ base : Heap, (K w.params).In base → base.Ns mainGlobals mg → FnG l.prog w (K w.params) mg base k fa fd ["script"] (spLaw (K w.params))) :
    PySem.W.WalkO q loose XP YP l.row.toRowW d [] (fun f vs => PySem.call f vs) := by
  refine Att.attach_call hn hdf fun w s₀ s₁ mg mb fa o pm cd doc a vs ns G Y ho hd hcd hmg hobj hints hlen hg => ?_
  obtain ⟨fd, hb, hF⟩ := F w mg fa _ (hY w _ Y) G.T.g hmg
  exact call_law (hY w _ Y) G.T.g G.T.b G.T.builtins G.T.nolimit hg hobj hints (Nat.le_trans hlen (by decide)) hr rfl hF hb hlen
end IC
namespace IC
open PySem L2 TL
/-! ### what is never come to -/
section
variable {X : Cx}
theorem ps_dead {st : Stmt} : PS X st (fun _ _ _ => False) := ⟨fun _ _ _ _ _ _ h => h.elim⟩
theorem pss_dead {ss : List Stmt} : PSs X ss (fun _ _ _ => False) := ⟨fun _ _ _ _ _ _ h => h.elim⟩
theorem pt_dead {e : Expr} : PT X e (fun _ _ _ => False) := ⟨fun _ _ _ _ _ _ h => h.elim⟩
theorem pe_dead {e : Expr} : PE X e (fun _ _ _ => False) := ⟨fun _ _ _ _ _ _ h => h.elim⟩
end
/-! ### methods by their class -/
structure MDf (P : Program) (w : World) (K : PySem.W.Frag) (mg : Str → Option Value) (base : Heap) (CX : CXT) (k : Nat) (C : Addr) (m : Str) (ps : List Str) (dvs : List V) (sp : Sp) : Prop where
  ex : ∃ (f : Addr) (fd : FuncData) (ds : List Value), FnOk P w K mg base CX k f fd ps sp ∧ Meth K C m f ∧ Binds K fd ps ds ∧ Vals dvs ds
/-- o.m(..), what is raised is wished for at the caller's slots -/
def tMethS (C : Addr) (m : Str) (sp : Sp) (dvs : List V) (E : L2.St → XK) (ta : TE) (t : TA) : TE := fun σ H Q => ta σ H fun x H1 => ∃ a dx fs, x = .ref a ∧ H1 a = some (.ins C dx fs) ∧ fs.lookup m = none ∧
  t σ H1 fun vs H2 => sp (x :: (vs ++ dvs)) H2 Q (E σ)
section
variable {X : Cx} {k j : Nat} {C : Addr} {m : Str} {ps : List Str} {dvs : List V} {sp : Sp} {o e : Expr} {es : List Expr} {pos apos : Pos} {ta : TE} {t : TA} {pl : Sem Bool} {W : WX}
theorem pe_md (D : MDf X.prog X.w X.K X.mg X.base CX0 k C m ps dvs sp) (c : Cls X.K C) (hr : Room j X.A) (hk : k ≤ j) (he : PE X o ta) (ha : PA X (e :: es) t)
    (hst : starEach (e :: es) X.env = (false, eval e X.env) :: starEach es X.env := by rfl) (hpl : (backTo pos (starEach es X.env)).any (·.1) = false := by rfl)
    (ht : eval (.Call (.Attribute o m apos) (e :: es) [] pos) X.env = (do
      let ov ← eval o X.env; standAt apos.atName
      let (f, first) ← holding [ov] (getMethod ov m pl); callWith pos f first (backTo pos (starEach (e :: es) X.env)) (backToKw pos (keywordEach [] X.env))) := by rfl) :
    PE X (.Call (.Attribute o m apos) (e :: es) [] pos) (tMeth C m sp dvs E0 ta t) := by
  obtain ⟨f, fd, ds, F, hm, hb, hd⟩ := D.ex
  exact pe_meth he c hm F (hr.mono hk) hb hd pass0 ha hst hpl ht
theorem pe_md0 (D : MDf X.prog X.w X.K X.mg X.base CX0 k C m ps dvs sp) (c : Cls X.K C) (hr : Room j X.A) (hk : k ≤ j) (he : PE X o ta)
    (ht : eval (.Call (.Attribute o m apos) [] [] pos) X.env = (do
      let ov ← eval o X.env; standAt apos.atName
      let (f, first) ← holding [ov] (getMethod ov m pl); callWith pos f first (backTo pos (starEach [] X.env)) (backToKw pos (keywordEach [] X.env))) := by rfl) :
    PE X (.Call (.Attribute o m apos) [] [] pos) (tMeth C m sp dvs E0 ta tNil) := by
  obtain ⟨f, fd, ds, F, hm, hb, hd⟩ := D.ex
  exact pe_meth0 he c hm F (hr.mono hk) hb hd pass0 ht
theorem pe_mdX (D : MDf X.prog X.w X.K X.mg X.base (L2.CX X.prog X.w) k C m ps dvs sp) (c : Cls X.K C) (tk : Takes X W) (hr : Room j X.A) (hk : k ≤ j) (he : PE X o ta) (ha : PA X (e :: es) t)
    (hst : starEach (e :: es) X.env = (false, eval e X.env) :: starEach es X.env := by rfl) (hpl : (backTo pos (starEach es X.env)).any (·.1) = false := by rfl)
    (ht : eval (.Call (.Attribute o m apos) (e :: es) [] pos) X.env = (do
      let ov ← eval o X.env; standAt apos.atName
      let (f, first) ← holding [ov] (getMethod ov m pl); callWith pos f first (backTo pos (starEach (e :: es) X.env)) (backToKw pos (keywordEach [] X.env))) := by rfl) :
    PE X (.Call (.Attribute o m apos) (e :: es) [] pos) (tMethS C m sp dvs (WE W) ta t) := by
  obtain ⟨f, fd, ds, F, hm, hb, hd⟩ := D.ex
  refine ⟨fun pins s σ H Q I h => PySem.W.methodCall_KW (pl := pl) (thn (he.run pins s σ H _ I h) fun u s1 ⟨x, H1, I1, rx, a, dx, fs, ex, ea, l, q⟩ => ?_) ht⟩
  subst ex
  obtain rfl : u = Value.ref a := rx
  refine getmeth_ok I1 ea c hm l (PySem.W.callWith_K (first := [.ref a]) (h₀ := X.base) I1.ok.mod.kin hm.kp (thn (ha.run pos pins s1 σ H1 _ I1 q) fun us s2 ⟨vs, H2, I2, r, q2⟩ => ⟨I2.kIn, ?_⟩) hst hpl)
  exact run_fnSD (us := .ref a :: us) (vs := .ref a :: vs) F (hr.mono hk) hb hd (passAt tk σ) I2 (.cons rfl r) q2
theorem pe_mdX0 (D : MDf X.prog X.w X.K X.mg X.base (L2.CX X.prog X.w) k C m ps dvs sp) (c : Cls X.K C) (tk : Takes X W) (hr : Room j X.A) (hk : k ≤ j) (he : PE X o ta)
    (ht : eval (.Call (.Attribute o m apos) [] [] pos) X.env = (do
      let ov ← eval o X.env; standAt apos.atName
      let (f, first) ← holding [ov] (getMethod ov m pl); callWith pos f first (backTo pos (starEach [] X.env)) (backToKw pos (keywordEach [] X.env))) := by rfl) :
    PE X (.Call (.Attribute o m apos) [] [] pos) (tMethS C m sp dvs (WE W) ta tNil) := by
  obtain ⟨f, fd, ds, F, hm, hb, hd⟩ := D.ex
  refine ⟨fun pins s σ H Q I h => PySem.W.methodCall_KW (pl := pl) (thn (he.run pins s σ H _ I h) fun u s1 ⟨x, H1, I1, rx, a, dx, fs, ex, ea, l, q⟩ => ?_) ht⟩
  subst ex
  obtain rfl : u = Value.ref a := rx
  refine getmeth_ok I1 ea c hm l ?_
  exact PySem.W.callWith_K0 (first := [.ref a]) I1.kIn hm.kp (run_fnSD (us := [.ref a]) (vs := [.ref a]) F (hr.mono hk) hb hd (passAt tk σ) I1 (.cons rfl .nil) q)
end
/-- a property by its class -/
structure PDf (P : Program) (w : World) (K : PySem.W.Frag) (mg : Str → Option Value) (base : Heap) (k : Nat) (C : Addr) (f : Str) (sp : Sp) : Prop where
  ex : ∃ (p g : Addr) (fd : FuncData), PropOf K C f p g ∧ FnOk P w K mg base CX0 k g fd ["self"] sp ∧ Binds K fd ["self"] []
theorem pe_pd {X : Cx} {k j : Nat} {C : Addr} {f : Str} {sp : Sp} {e : Expr} {ta : TE} {pos : Pos} (D : PDf X.prog X.w X.K X.mg X.base k C f sp) (c : Cls X.K C) (hr : Room j X.A) (hk : k + 1 ≤ j) (he : PE X e ta)
    (hab : attributeBase e f X.env (eval e X.env) = eval e X.env := by rfl) : PE X (.Attribute e f pos) (tProp C sp [] E0 ta) := by
  obtain ⟨p, g, fd, hp, F, hb⟩ := D.ex
  exact pe_prop he c hp F (hr.mono hk) hb .nil pass0 hab
/-! ### own errors with fields -/
structure ErrC (K : PySem.W.Frag) (mg : Str → Option Value) (x : Str) (C fI : Addr) : Prop where
  gC : mg x = some (.ref C)
  ox : OexC K C
  xf : XfC K C
  iC : PySem.W.findIn K (.ref C) "__init__" = some (some (.ref fI))
  tI : PySem.W.typeIn K (.ref fI) = some (.type "function")
/-- __init__(self, v): the fields fs v are laid -/
def spErr (C : Addr) (fs : V → List (Str × V)) : Sp := fun vs H Q _ => ∃ (a : Addr) (v : V), vs = [.ref a, v] ∧ H a = some (exo a C none) ∧
  ∀ (d : Addr) (H' : Hp), H d = none → d ≠ a → H' a = some (exo a C (some d)) → H' d = some (exd d (fs v)) → (∀ b, b ≠ a → b ≠ d → H' b = H b) → Q .non H'
structure EDf (P : Program) (w : World) (K : PySem.W.Frag) (mg : Str → Option Value) (base : Heap) (k : Nat) (x : Str) (C : Addr) (p : Str) (fs : V → List (Str × V)) : Prop where
  ex : ∃ (fI : Addr) (fd : FuncData), ErrC K mg x C fI ∧ FnOk P w K mg base CX0 k fI fd ["self", p] (spErr C fs) ∧ Binds K fd ["self", p] []
def tMkE (C : Addr) (fs : V → List (Str × V)) (ta : TA) : L2.St → Hp → XK → Prop := tMkO C (spErr C fs) [] ta
theorem pmk_ed {X : Cx} {k j : Nat} {x q : Str} {C : Addr} {fs : V → List (Str × V)} {e : Expr} {ta : TA} {p pos : Pos} (D : EDf X.prog X.w X.K X.mg X.base k x C q fs) (kC : PySem.W.keepIn X.K (.ref C) = true) (hr : Room j X.A) (hk : k + 1 ≤ j) (hg : Gl X x) (ha : PA X [e] ta)
    (hdb : (x == ("__debug__" : Str)) = false := by decide) (he : starEach [e] X.env = (false, eval e X.env) :: starEach [] X.env := by rfl) (hpl : (backTo pos (starEach [] X.env)).any (·.1) = false := by rfl) :
    PMk X (.Call (.Name x p) [e] [] pos) (tMkE C fs ta) := by
  obtain ⟨fI, fd, T, F, hb⟩ := D.ex
  exact pmk_oex T.ox T.iC T.tI F (hr.mono hk) hb .nil pass0 hg T.gC ha hdb he hpl
theorem upd_del {H1 H2 : Hp} {a d : Addr} {o : HO} (ha : H1 a = none) (e : ∀ b, b ≠ a → b ≠ d → H2 b = H1 b) (hd : d ≠ a) : upd (del H2 a) d o = upd H1 d o := by
  funext b
  by_cases h1 : b = d
  · rw [h1, upd_same, upd_same]
  · rw [upd_ne h1, upd_ne h1]
    by_cases h2 : b = a
    · rw [h2, del_same, ha]
    · rw [del_ne h2]
      exact e b h2 h1
/-- what the making of such an error asks -/
theorem mke {C : Addr} {fs : V → List (Str × V)} {vs : List V} {H1 : Hp} {Q : XK} (v : V) (hv : vs = [v]) (h : ∀ d, H1 d = none → Q (.ref C) (some d) (upd H1 d (.xd (fs v)))) :
    vs.length ≤ 1000 ∧ ∀ a, H1 a = none → spErr C fs (.ref a :: (vs ++ [])) (upd H1 a (exo a C none))
      (fun v H2 => v = .non ∧ ∃ (d : Addr) (fs : List (Str × V)), H2 a = some (exo a C (some d)) ∧ H2 d = some (exd d fs) ∧ H1 d = none ∧ Q (.ref C) (some d) (upd (del H2 a) d (.xd fs))) (fun _ _ _ => False) := by
  subst hv
  refine ⟨by show 1 ≤ 1000; omega, fun a ha => ⟨a, v, rfl, upd_same, fun d H' hd hda e1 e2 e3 => ⟨rfl, d, fs v, e1, e2, ?_, ?_⟩⟩⟩
  · rw [upd_ne hda] at hd
    exact hd
  · rw [upd_ne hda] at hd
    rw [upd_del ha (fun b h1 h2 => by rw [e3 b h1 h2, upd_ne h1]) hda]
    exact h d hd
end IC
namespace IC
open PySem L2 TL PyProof.Rows
/-! ### try: several except clauses, each with a name for the error or without -/
abbrev Cl := Value × Option Nat × (Addr → Value → Option Addr → TS)
/-- the slot i is emptied behind the suite -/
def emptied (i : Nat) (D : Ends) : Ends := { nx := fun τ G => D.nx (τ.set i none) G, rt := D.rt, bk := fun τ G => D.bk (τ.set i none) G, ct := fun τ G => D.ct (τ.set i none) G }
def wCl (K : PySem.W.Frag) (out : WX) (D : Ends) : List Cl → WX
  | [] => out
  | (c, some i, ts) :: r => fun cls d σ H => ∃ b, PySem.W.exmOne K cls c = some b ∧ (b = true → ∀ a, H a = none → ts a cls d (emptied i D) (σ.set i (some (.ref a))) H) ∧ (b = false → wCl K out D r cls d σ H)
  | (c, none, ts) :: r => fun cls d σ H => ∃ b, PySem.W.exmOne K cls c = some b ∧ (b = true → ∀ a, H a = none → ts a cls d D σ H) ∧ (b = false → wCl K out D r cls d σ H)
inductive ClOk (X : Cx) : List ExceptHandler → List Cl → Prop
  | nil : ClOk X [] []
  | nm {x n : Str} {c : Value} {i : Nat} {ts : Addr → Value → Option Addr → TS} {b0 : Stmt} {st : List Stmt} {np pos : Pos} {hs : List ExceptHandler} {l : List Cl} (hi : X.N[i]? = some n) (hl : X.env.kindOf n = some .local) (hc : Names X x c)
      (su : ∀ (a : Addr) (oe : Obj) (cls : Value) (d : Option Addr) (pn : List (Addr × Obj)), Zc cls d oe → (∃ vs, oe.data = .fields vs) → PSs (X.suite a ((a, oe) :: pn)) (b0 :: st) (ts a cls d)) (r : ClOk X hs l) :
      ClOk X (.ExceptHandler (some (.Name x np)) (some n) (b0 :: st) pos :: hs) ((c, some i, ts) :: l)
  | no {x : Str} {c : Value} {ts : Addr → Value → Option Addr → TS} {b0 : Stmt} {st : List Stmt} {np pos : Pos} {hs : List ExceptHandler} {l : List Cl} (hc : Names X x c)
      (su : ∀ (a : Addr) (oe : Obj) (cls : Value) (d : Option Addr) (pn : List (Addr × Obj)), Zc cls d oe → (∃ vs, oe.data = .fields vs) → PSs (X.suite a ((a, oe) :: pn)) (b0 :: st) (ts a cls d)) (r : ClOk X hs l) :
      ClOk X (.ExceptHandler (some (.Name x np)) none (b0 :: st) pos :: hs) ((c, none, ts) :: l)
/-- the name of a clause is asked: its class -/
theorem clause_name {X : Cx} {Y : Cx} {x : Str} {c : Value} {np : Pos} {pins : List (Addr × Obj)} {σ : L2.St} {H : Hp} {s : Shared} {Q E : Value → Shared → Prop} (hc : Names X x c) (J : Inv Y pins σ H s) (e1 : Y.env = X.env) (e2 : Y.mg = X.mg) (q : Q c s) :
    wpAny (model Y.prog Y.w) Y.A (eval (.Name x np) X.env) Q E s := by
  obtain ⟨h1, h2, h3⟩ := hc
  rw [← e1]
  have g : Gl Y x := by unfold Gl at h1 ⊢; rw [e1]; exact h1
  cases h3 with
  | inl h => exact ld_glob J g (by rw [e2]; exact h) q h2
  | inr h => exact ld_blt J g (by rw [e2]; exact And.left h) (And.left (And.right h)) q (And.right (And.right h)) h2
section
variable {X : Cx} {body : List Stmt} {h0 : ExceptHandler} {hs : List ExceptHandler} {l : List Cl} {pos : Pos} {tb : WX → TS} {out : WX}
theorem ps_try_cl (es : X.stack = X.env :: X.outer) (ef : X.env.frame = some X.env.locals) (nd : X.N.Nodup) (tk : Takes X out)
    (hb : ∀ (W : WX) (pn : List (Addr × Obj)) (xe : Value → Shared → Prop), Takes (X.tr pn xe) W → PassesOwn (model X.prog X.w) X.A X.env xe → PSs (X.tr pn xe) body (tb W))
    (hh : ClOk X (h0 :: hs) l) : PS X (.Try body (h0 :: hs) [] [] pos) (fun D σ H => tb (wCl X.K out D l) D σ H) := by
  refine ⟨fun pins s σ H D I h => wpAny_Try_except ?_⟩
  have ok := I.ok
  have fr : X.A.frames = some (X.env :: X.outer) := by rw [ok.frames, es]
  have bod := hb (wCl X.K out D l) (X.pn ++ pins) (fun e s₁ => wpAny (model X.prog X.w) X.A (noteFrame e X.env) (fun _ s₂ => wpAny (model X.prog X.w) X.A (setFlight e none) (fun _ s₃ => wpAny (model X.prog X.w) X.A (handleBy e X.env (h0 :: hs)) (SP X pins D) X.xe s₃) X.xe s₂) X.xe s₁)
  refine wpAny_mono ((bod (fun u s' air => ?_) PassesOwn.looking).run [] s σ H D (I.toTry _) h) (fun f s1 hsp => ?_) (fun _ _ z => z)
  · obtain ⟨a, B, sI, pins', τ, G, cls, d, rfl, J1, nb, up, sky, na, os, ag, wish⟩ := air
    have J : Inv X pins τ G sI := J1.ofTry ok
    rw [show (X.tr (X.pn ++ pins) _).stack = X.env :: X.outer from es] at sky
    refine Sky.land Zc.steady fr ef sky fun h3 fly up3 => ?_
    have J3 : Inv X pins τ G { s' with heap := h3 } := J.landed nb fly.1 (up.trans up3) os ag
    obtain ⟨oe, fv, at3, zc3, fd3⟩ := fly.there
    have off : a ∉ frs (X.env :: X.outer) := fun hm => by
      obtain ⟨_, o, e, nf⟩ := fly.2.2.1.mem hm
      rw [at3] at e
      cases e
      exact nf _ fd3
    have nL : a ≠ X.env.locals := fun z => off (List.mem_filterMap.mpr ⟨X.env, List.mem_cons_self, by rw [ef, z]⟩)
    have nF : a ∉ X.fs := fun hm => by
      obtain ⟨e, he, q⟩ := List.mem_filterMap.mp hm
      exact off (List.mem_filterMap.mpr ⟨e, List.mem_cons_of_mem _ he, q⟩)
    have typ : PySem.W.Looks (model X.prog X.w) h3 (typeOf (.ref a)) cls := fun A Q E s k q => wpAny_typeOf_ref (k _ _ at3) (by rw [And.left zc3]; exact q)
    have su0 := J3.suite at3 fd3 na nL nF
    have all : ∀ {hs' : List ExceptHandler} {l' : List Cl}, ClOk X hs' l' → wCl X.K out D l' cls d τ G → wpAny (model X.prog X.w) X.A (handleBy (.ref a) X.env hs') (SP X pins D) X.xe { s' with heap := h3 } := by
      intro hs' l' ck
      induction ck with
      | nil =>
        intro w
        obtain ⟨k1, k2, k3, oo, ov, T, oT, ts', e1, e2, e3, e4, e5⟩ := id fly
        refine wpAny_handleBy_nil ?_
        unfold PySem.passOn
        refine wpAny_bind (wpAny_field e1 e3 e4 ?_)
        rw [if_neg (show ¬ ((Value.ref T == Value.none) = true) from by simp)]
        have go : wpAny (model X.prog X.w) X.A (setFlight (.ref a) X.env.frame) (fun _ s4 => wpAny (model X.prog X.w) X.A (throw (.ref a) : Sem Flow) (SP X pins D) X.xe s4) X.xe { s' with heap := h3 } := by
          rw [ef]
          exact HandSPX.setFlight_upZ fly fun h4 held up4 => wpAny_throw (tk _ _ ⟨a, B, sI, pins, τ, G, cls, d, rfl, J, nb, (up.trans up3).trans up4, Or.inr (Or.inr (by rw [es]; exact held)), na, os, ag, w⟩)
        first
          | exact wpAny_bind (wpAny_pure (wpAny_bind go))
          | exact wpAny_bind go
      | @nm x n c i ts b0 st np pos hs2 l2 hi hl hc su r ih =>
        rintro ⟨b, hb1, yes, no⟩
        refine wpAny_handleBy_cons (codeAny_handlers_test ?_) (by intro q; cases q)
        refine clause_name (Y := X.suite a ((a, oe) :: (X.pn ++ pins))) hc su0 rfl rfl ((PySem.W.exm_one (M := model X.prog X.w) J3.kIn typ hb1).here ?_)
        match b, yes, no with
        | false, _, no => exact ih (no rfl)
        | true, yes, _ =>
          refine codeAny_handlers_suite_as (HandSPX.lands_againZ fly fun h4 fly4 up4 => ?_)
          obtain ⟨o4, v4, at4, zc4, fd4⟩ := fly4.there
          have su4 := (J.landed (s' := { s' with heap := h4 }) nb fly4.1 ((up.trans up3).trans up4) os ag).suite at4 fd4 na nL nF
          refine store_ok (X := X.suite a ((a, o4) :: (X.pn ++ pins))) (v := .ref a) su4 nd hi (Or.inl hl) rfl (fun s5 S5 => ?_) (Or.inr hl)
          refine wpAny_mono ((su a o4 cls d (X.pn ++ pins) zc4 ⟨_, fd4⟩).run [] s5 _ G _ S5 (yes rfl a na)) (fun f s6 fin => ?_) (fun _ _ z => z.elim)
          cases f with
          | next =>
            obtain ⟨τ6, G6, S6, q6⟩ := fin
            exact gone_ok (S6.unsuite ok) nd hi hl fun s7 J7 => ⟨_, _, J7, q6⟩
          | brk =>
            obtain ⟨τ6, G6, S6, q6⟩ := fin
            exact gone_ok (S6.unsuite ok) nd hi hl fun s7 J7 => ⟨_, _, J7, q6⟩
          | cont =>
            obtain ⟨τ6, G6, S6, q6⟩ := fin
            exact gone_ok (S6.unsuite ok) nd hi hl fun s7 J7 => ⟨_, _, J7, q6⟩
          | ret u =>
            obtain ⟨v6, τ6, G6, S6, r6, q6⟩ := fin
            exact gone_ok (S6.unsuite ok) nd hi hl fun s7 J7 => ⟨_, _, _, J7, r6, q6⟩
      | @no x c ts b0 st np pos hs2 l2 hc su r ih =>
        rintro ⟨b, hb1, yes, no⟩
        refine wpAny_handleBy_cons (codeAny_handlers_test ?_) (by intro q; cases q)
        refine clause_name (Y := X.suite a ((a, oe) :: (X.pn ++ pins))) hc su0 rfl rfl ((PySem.W.exm_one (M := model X.prog X.w) J3.kIn typ hb1).here ?_)
        match b, yes, no with
        | false, _, no => exact ih (no rfl)
        | true, yes, _ =>
          refine codeAny_handlers_suite (HandSPX.lands_againZ fly fun h4 fly4 up4 => ?_)
          obtain ⟨o4, v4, at4, zc4, fd4⟩ := fly4.there
          have su4 := (J.landed (s' := { s' with heap := h4 }) nb fly4.1 ((up.trans up3).trans up4) os ag).suite at4 fd4 na nL nF
          refine wpAny_mono ((su a o4 cls d (X.pn ++ pins) zc4 ⟨_, fd4⟩).run [] _ _ G _ su4 (yes rfl a na)) (fun f s6 fin => ?_) (fun _ _ z => z.elim)
          cases f with
          | next =>
            obtain ⟨τ6, G6, S6, q6⟩ := fin
            exact Exists.intro τ6 (Exists.intro G6 (And.intro (S6.unsuite ok) q6))
          | brk =>
            obtain ⟨τ6, G6, S6, q6⟩ := fin
            exact Exists.intro τ6 (Exists.intro G6 (And.intro (S6.unsuite ok) q6))
          | cont =>
            obtain ⟨τ6, G6, S6, q6⟩ := fin
            exact Exists.intro τ6 (Exists.intro G6 (And.intro (S6.unsuite ok) q6))
          | ret u =>
            obtain ⟨v6, τ6, G6, S6, r6, q6⟩ := fin
            exact Exists.intro v6 (Exists.intro τ6 (Exists.intro G6 (And.intro (S6.unsuite ok) (And.intro r6 q6))))
    exact all hh wish
  · cases f with
    | next =>
      obtain ⟨τ, G, J, q⟩ := hsp
      exact wpAny_execs_nil (Exists.intro τ (Exists.intro G (And.intro (J.ofTry ok) q)))
    | brk =>
      obtain ⟨τ, G, J, q⟩ := hsp
      exact Exists.intro τ (Exists.intro G (And.intro (J.ofTry ok) q))
    | cont =>
      obtain ⟨τ, G, J, q⟩ := hsp
      exact Exists.intro τ (Exists.intro G (And.intro (J.ofTry ok) q))
    | ret u =>
      obtain ⟨v, τ, G, J, r, q⟩ := hsp
      exact Exists.intro v (Exists.intro τ (Exists.intro G (And.intro (J.ofTry ok) (And.intro r q))))
end
end IC
namespace IC
open PySem PySem.Spec PyProof.Rows L2
/-! ### sets of texts that can be walked -/
def tk (e : Int × Value) : Str := match e.2 with
  | .str z _ => z
  | _ => Str.empty
def TxE (w : World) (e : Int × Value) : Prop := ∃ z k, e.2 = Value.str z k ∧ e.1 = hashStr w z
/-- at a a set of the texts L, none of them twice -/
def TxS (w : World) (h : Heap) (a : Addr) (L : List Str) : Prop :=
  ∃ o es ep t, h.get? a = some o ∧ o.ExactSet ∧ o.data = .set es ep t ∧ (∀ e ∈ es.toList, TxE w e) ∧ (es.toList.map tk).Perm L ∧ L.Nodup ∧ es.size < scanBound ∧ t.fits es.size = true ∧ Ris t.place.toList ∧ (w.params.followText "set-order" = true ∨ t.led = true)
section
variable {P : Program} {w : World} {h h' : Heap} {a : Addr} {L M : List Str}
theorem TxS.keep (R : TxS w h a L) (k : ∀ o, h.get? a = some o → h'.get? a = some o) : TxS w h' a L := by
  rcases R with ⟨o, es, ep, t, at_, r⟩
  exact ⟨o, es, ep, t, k o at_, r⟩
theorem TxS.perm (R : TxS w h a L) (p : L.Perm M) : TxS w h a M := by
  rcases R with ⟨o, es, ep, t, r1, r2, r3, r4, r5, r6, r7⟩
  exact ⟨o, es, ep, t, r1, r2, r3, r4, r5.trans p, p.nodup_iff.mp r6, r7⟩
theorem tx_elems {l : List (Int × Value)} (g : ∀ e ∈ l, TxE w e) : ElemsOf (PySem.strKind P w) l := fun e he => by
  rcases g e he with ⟨z, k, e1, e2⟩
  refine ⟨⟨z, ?_, e2⟩, ?_⟩
  · rw [e1]
    exact strKind_is P w z k
  · rw [e1]
    rfl
theorem tx_is {e : Int × Value} (g : TxE w e) (z : Str) : (PySem.strKind P w).is z e.2 = true ↔ tk e = z := by
  rcases g with ⟨y, k, e1, _⟩
  unfold tk
  rw [e1]
  show ((y == z) = true) ↔ y = z
  exact beq_iff_eq
end
section
variable {P : Program} {w : World} {A : Around} {E : Value → Shared → Prop} {s : Shared} {a : Addr} {L : List Str}
/-- the table is stored, and laid anew where it is too full -/
theorem tx_store {say : Bool → Sem Unit} (quiet : ∀ (b : Bool) (u : Shared) (R : Unit → Shared → Prop), R () u → wpAny (model P w) A (say b) R E u) {o : Obj} {es es1 : Array (Int × Value)} {ep : Nat} {t t1 : SetTable} (at_ : s.heap.get? a = some o) (ex : o.ExactSet) (dt : o.data = .set es ep t)
    (g : ∀ e ∈ es1.toList, TxE w e) (pm : (es1.toList.map tk).Perm L) (nd : L.Nodup) (few : es1.size < scanBound) (fit : t1.fits es1.size = true) (ris : Ris t1.place.toList) (led : w.params.followText "set-order" = true ∨ t1.led = true) {dummy : Bool} {R : Option Bool → Shared → Prop}
    (fin : ∀ h', Heap.SameBut a s.heap h' → TxS w h' a L → R (some true) { s with heap := h' }) :
    wpAny (model P w) A (do
      storeSet a es1 t1
      if (!dummy && t1.tooFull) = true then do
        say (relayAll t1 es1 (SetTable.grown es1.size)).2.2
        storeSet a (relayAll t1 es1 (SetTable.grown es1.size)).1 (relayAll t1 es1 (SetTable.grown es1.size)).2.1
        pure (some true)
      else pure (some true)) R E s := by
  have at1 := store_at (es' := es1) (t' := t1) at_ dt
  have sb := Heap.SameBut.update s.heap a (Obj.putSet es1 t1)
  refine wpAny_bind (wpAny_storeSet_of at_ dt ?_ (fits_of_scanBound few))
  by_cases full : (!dummy && t1.tooFull) = true
  · rw [if_pos full]
    have q1 := relayAll_perm t1 es1 (SetTable.grown es1.size)
    have q2 := relayAll_fits t1 es1 (SetTable.grown es1.size)
    have q3 := relayAll_ris t1 es1 (SetTable.grown es1.size)
    have q4 := relayAll_led t1 es1 (SetTable.grown es1.size)
    generalize relayAll t1 es1 (SetTable.grown es1.size) = Z at q1 q2 q3 q4 ⊢
    rcases Z with ⟨es2, t2, way⟩
    have size : es2.size = es1.size := by rw [← Array.length_toList, ← Array.length_toList]; exact q1.length_eq
    have few2 : es2.size < scanBound := by rw [size]; exact few
    refine wpAny_bind (quiet _ _ _ (wpAny_bind (wpAny_storeSet_of at1 rfl ?_ (fits_of_scanBound few2))))
    refine wpAny_pure (fin _ (sb.trans (Heap.SameBut.update _ a _)) ⟨_, es2, _, t2, store_at (es' := es2) (t' := t2) at1 rfl, ex, rfl, fun e he => g e (q1.mem_iff.mp he), (q1.map tk).trans pm, nd, few2, q2, q3, led.imp id fun z => ?_⟩)
    exact Eq.trans q4 z
  · rw [if_neg full]
    exact wpAny_pure (fin _ sb ⟨_, es1, _, t1, at1, ex, rfl, g, pm, nd, few, fit, ris, led⟩)
/-- z is added: the members are those of L, and z -/
theorem tx_add {z : Str} {k : Tok} {Q : Bool → Shared → Prop} (R : TxS w s.heap a L) (room : L.length + 1 < scanBound)
    (fin : ∀ h' b M, Heap.SameBut a s.heap h' → TxS w h' a M → M.length ≤ L.length + 1 → (∀ y, y ∈ M ↔ y ∈ L ∨ y = z) → Q b { s with heap := h' }) :
    wpAny (model P w) A (setAddHashed a (.str z k) ((PySem.strKind P w).hash z)) Q E s := by
  rcases R with ⟨o, es, ep, t, at_, ex, dt, g, pm, nd, few, fit, ris, led⟩
  have mine : (PySem.strKind P w).is z (.str z k) = true := strKind_is P w z k
  have scan : (Value.str z k).scannable = true := rfl
  have els : ElemsOf (PySem.strKind P w) es.toList := tx_elems g
  have size : es.size = L.length := by
    rw [← Array.length_toList, ← pm.length_eq, List.length_map]
  unfold setAddHashed setAddHashedIn
  refine wpAny_holding (wpAny_bind (wpAny_setState_of at_ dt fit ?_))
  dsimp only
  rw [byScan_of scan few els, if_pos rfl]
  unfold setAddByScan
  refine wpAny_bind (wpAny_bind (wpAny_rule (wpAny_bind (wpAny_setScan_of mine at_ dt fit els ?_))))
  cases find : List.findIdx? (fun e => (PySem.strKind P w).is z e.2) es.toList with
  | some j =>
    rcases List.findIdx?_eq_some_iff_getElem.mp find with ⟨hj, pj, _⟩
    have there : z ∈ L := pm.mem_iff.mp (List.mem_map.mpr ⟨es.toList[j], List.getElem_mem hj, (tx_is (P := P) (g _ (List.getElem_mem hj)) z).mp pj⟩)
    dsimp only
    refine wpAny_pure (wpAny_pure (fin s.heap _ L (Heap.SameBut.refl a s.heap) ⟨o, es, ep, t, at_, ex, dt, g, pm, nd, few, fit, ris, led⟩ (Nat.le_succ _) fun y => ⟨.inl, fun q => q.elim id fun e => e ▸ there⟩))
  | none =>
    have new : z ∉ L := fun q => by
      rcases List.mem_map.mp (pm.mem_iff.mpr q) with ⟨e, he, q2⟩
      have c := List.findIdx?_eq_none_iff.mp find e he
      rw [(tx_is (P := P) (g e he) z).mpr q2] at c
      cases c
    dsimp only
    have q1 := layNew_perm t es ((PySem.strKind P w).hash z) (.str z k)
    have q2 := layNew_fits t es ((PySem.strKind P w).hash z) (.str z k)
    have q3 := layNew_ris t es ((PySem.strKind P w).hash z) (.str z k) ris
    have q4 := layNew_led t es ((PySem.strKind P w).hash z) (.str z k)
    generalize layNew t es ((PySem.strKind P w).hash z) (.str z k) = Z at q1 q2 q3 q4 ⊢
    rcases Z with ⟨es1, t1, dummy, way⟩
    dsimp only at q1 q2 q3 q4 ⊢
    rw [Array.toList_push] at q1
    have pc : es1.toList.Perm (((PySem.strKind P w).hash z, Value.str z k) :: es.toList) := q1.trans (List.perm_append_singleton _ _)
    have pk : (es1.toList.map tk).Perm (z :: L) := (pc.map tk).trans (pm.cons z)
    have g1 : ∀ e ∈ es1.toList, TxE w e := fun e he => by
      rcases List.mem_cons.mp (pc.mem_iff.mp he) with y | y
      · rw [y]
        exact ⟨z, k, rfl, rfl⟩
      · exact g e y
    have few1 : es1.size < scanBound := by
      have e := pk.length_eq
      rw [List.length_map, Array.length_toList, List.length_cons] at e
      omega
    have led1 : w.params.followText "set-order" = true ∨ t1.led = true := led.imp id fun y => Eq.trans q4 y
    have out : ∀ h', Heap.SameBut a s.heap h' → TxS w h' a (z :: L) → Q true { s with heap := h' } := fun h' sb r => fin h' _ _ sb r (Nat.le_refl _) fun y => by
      rw [List.mem_cons]
      exact Or.comm
    have says : ∀ (b : Bool) (u : Shared) (R : Unit → Shared → Prop), R () u → wpAny (model P w) A (match b with | true => rule "set.scan.the-table-gave-way" | false => pure ()) R E u := fun b u R r => by
      cases b
      · exact wpAny_pure r
      · exact wpAny_rule r
    refine wpAny_bind (says _ _ _ ?_)
    split
    · refine wpAny_bind ?_
      rw [hashByValue_scannable 8 scan]
      refine wpAny_pure ?_
      refine tx_store says at_ ex dt g1 pk (List.nodup_cons.mpr ⟨new, nd⟩) few1 ?_ ?_ ?_ fun h' sb r => ?_
      · first | exact q2 | (split <;> first | exact q2 | exact SetTable.fits_plain_off q2)
      · first | exact q3 | (split <;> exact q3)
      · first | exact led1 | (split <;> exact led1)
      · exact wpAny_pure (out h' sb r)
    · refine wpAny_bind (wpAny_pure ?_)
      rw [if_pos rfl]
      refine tx_store says at_ ex dt g1 pk (List.nodup_cons.mpr ⟨new, nd⟩) few1 q2 q3 led1 fun h' sb r => ?_
      exact wpAny_pure (out h' sb r)
end
end IC
namespace IC
open PySem PySem.Spec PyProof.Rows L2
def new0 (w : World) : Obj := { cls := .type "set", dict := none, data := .set #[] 0 (.fresh 0 0 (!w.params.followText "set-order")) }
theorem tx_new {w : World} {h : Heap} {a : Addr} (e : h.get? a = some (new0 w)) : TxS w h a [] := by
  refine ⟨_, #[], 0, _, e, ⟨rfl, rfl, rfl⟩, rfl, fun e he => by simp at he, by simp, by simp, by decide, by rfl, List.Pairwise.nil, ?_⟩
  show _ ∨ (!w.params.followText "set-order") = true
  cases w.params.followText "set-order" <;> simp
theorem txs_at {us : List Value} {xs : List Str} (h : StrsAre us xs) : ∀ (i : Nat) (v : Value), us[i]? = some v → ∃ t, v = .str (xs.getD i Str.empty) t := by
  induction h with
  | nil => exact fun i v e => by simp at e
  | cons z t _ ih =>
    intro i v e
    cases i with
    | zero =>
      injection e with e
      exact ⟨t, e.symm⟩
    | succ j => exact ih j v e
section
variable {P : Program} {w : World} {A : Around}
/-- the loop that puts the texts xs into the set at S -/
theorem set_loop {I : Addr} {fp wr : List Addr} {G : Array GenState → Array GenState → Prop} {n : Nat} {Pv : Nat → Value → Prop} {St : Nat → Shared → Prop} {R : Result → Shared → Prop} (W : WalksS P w A.in1 I fp wr G n Pv St) (S : Addr) (out : S ∉ fp) (xs : List Str) (many : xs.length = n) (few : xs.length + 1 < scanBound)
    (val : ∀ i v, Pv i v → ∃ t, v = .str (xs.getD i Str.empty) t) (h0 : Heap) (new : ∀ b ∈ S :: wr, h0.get? b = none) : ∀ (k i : Nat) (s : Shared), n - i = k → i ≤ n → St i s →
      (∃ M, TxS w s.heap S M ∧ M.length ≤ i ∧ ∀ z, z ∈ M ↔ z ∈ xs.take i) → (∀ b o, h0.get? b = some o → s.heap.get? b = some o) →
      (∀ t M, Moved (S :: wr) G s t → TxS w t.heap S M → M.length ≤ n → (∀ z, z ∈ M ↔ z ∈ xs.take n) → (∀ b o, h0.get? b = some o → t.heap.get? b = some o) → R (.ok (.ret .none)) t) →
      codeAny (model P w) A (.builtin "set.update.loop" ⟨[.ref S, .ref I], []⟩) R s := by
  have nw : S ∉ wr := fun h => out (W.sub _ h)
  have up : ∀ b ∈ wr, b ∈ S :: wr := fun b hb => List.mem_cons_of_mem _ hb
  intro k
  induction k with
  | zero =>
    rintro i s hk hi st ⟨M, RM, len, mem⟩ old fin
    obtain rfl : i = n := by omega
    refine codeAny_builtin F.entry_set_update_loop ?_
    rw [Around.under_plainId F.plain_set_update_loop _]
    show wpAny _ A.in1 (pyNext (.ref I) >>= _) _ _ s
    refine wpAny_bind (W.done s _ _ st fun t mv => ?_)
    show wpAny _ A.in1 (ret Value.none) _ _ t
    exact wpAny_pure (fin t M (mv.mono up) (RM.keep fun o e => mv.heap S o nw e) len mem fun b o e => mv.heap b o (fun hb => by rw [new b (up b hb)] at e; cases e) (old b o e))
  | succ k ih =>
    rintro i s hk hi st ⟨M, RM, len, mem⟩ old fin
    have lt : i < n := by omega
    refine codeAny_builtin F.entry_set_update_loop ?_
    rw [Around.under_plainId F.plain_set_update_loop _]
    show wpAny _ A.in1 (pyNext (.ref I) >>= _) _ _ s
    refine wpAny_bind (W.item i s _ _ lt st fun v t hv st1 mv => ?_)
    rcases val i v hv with ⟨tok, rfl⟩
    have RM1 : TxS w t.heap S M := RM.keep fun o e => mv.heap S o nw e
    show wpAny _ A.in1 (holding [Value.str (xs.getD i Str.empty) tok] (setAdd S (.str (xs.getD i Str.empty) tok)) >>= _) _ _ t
    refine wpAny_bind (wpAny_holding ?_)
    unfold setAdd
    refine wpAny_holding (wpAny_bind ((PySem.strKind P w).pyHash (k := xs.getD i Str.empty) (strKind_is P w _ _) ?_))
    refine tx_add (s := { t with toks := t.toks + 1 }) RM1 (by omega) fun h' b M' sb R2 len2 mem2 => ?_
    have hx : xs[i]? = some (xs.getD i Str.empty) := by
      have hi2 : i < xs.length := by omega
      rw [List.getD_eq_getElem?_getD, List.getElem?_eq_getElem hi2]
      rfl
    refine wpAny_pure ⟨plainId_quiet F.plain_set_update_loop _, ih (i + 1) _ (by omega) lt (W.frame _ t _ _ st1 (Nat.le_succ _) fun b hb o e => ?_) ⟨M', R2, by omega, fun z => ?_⟩ (fun b o e => ?_) fun t2 M2 mv2 R3 l3 m3 old3 => ?_⟩
    · rw [sb.2 b fun e1 => out (e1 ▸ hb)]
      exact e
    · rw [mem2 z, mem z, List.take_add_one, hx]
      simp
    · have ne : b ≠ S := fun e1 => by
        rw [e1, new S List.mem_cons_self] at e
        cases e
      rw [sb.2 b ne]
      exact mv.heap b o (fun hb => by rw [new b (up b hb)] at e; cases e) (old b o e)
    · refine fin t2 M2 (Moved.trans W.gtrans ((mv.mono up).then_heap (Nat.le_succ _) fun b o hb e => ?_) mv2) R3 l3 m3 old3
      rw [sb.2 b fun e1 => hb (by rw [e1]; exact List.mem_cons_self)]
      exact e
end
section
variable {P : Program} {w : World} {A : Around} {E : Value → Shared → Prop} {s : Shared}
set_option maxHeartbeats 8000000 in
theorem call_set_lst {l : Addr} {items : Array Value} {xs : List Str} {Q : Value → Shared → Prop} (calm : A.handled = none) (isl : s.heap.IsList l items) (are : StrsAre items.toList xs) (few : xs.length + 1 < scanBound)
    (fin : ∀ (h' : Heap) (tk : Nat) (M : List Str), TxS w h' s.heap.objs.size M → M.length ≤ xs.length → (∀ z, z ∈ M ↔ z ∈ xs) → (∀ b o, s.heap.get? b = some o → h'.get? b = some o) → Q (.ref s.heap.objs.size) { s with heap := h', toks := tk }) :
    wpAny (model P w) A (call (.type "set") [.ref l]) Q E s := by
  have many : xs.length = items.size := by rw [← StrsAre.len_eq are, Array.length_toList]
  rcases F.called_set.mro with ⟨_, _, mro⟩
  have made := F.called_set.made
  have sub := F.called_set.sub
  refine wpAny_call (codeAny_of_tree ?_)
  show wpAny _ _ (callAny (.type "set") _) _ _ _
  refine wpAny_pure ⟨Code.quiet_builtin _ (by decide +kernel), codeAny_builtin F.entry_type_call ?_⟩
  rw [Around.under_plain (weight_type_call_type "set" [.ref l] []) rfl]
  have noT := F.called_set.notType
  have can := F.called_set.canCreate
  have one := F.typeCall_set_1 (.ref l)
  repeat (any_goals (first | assumption | wp_step))
  refine codeAny_mono (code_set_led1 (.ref l) (E := E) (Q₁ := fun v t => v = .ref s.heap.objs.size ∧ t = { s with heap := s.heap.push (new0 w) }) ⟨rfl, rfl⟩) fun r t made1 => ?_
  cases r with
  | error e => exact made1
  | ok fl =>
    cases fl with
    | next => exact made1.elim
    | brk => exact made1.elim
    | cont => exact made1.elim
    | ret v =>
    rcases made1 with ⟨rfl, rfl⟩
    have at_ : (s.heap.push (new0 w)).get? s.heap.objs.size = some (new0 w) := Heap.get?_push_size _ rfl
    have isT : Shared.TypeIs { s with heap := s.heap.push (new0 w) } (.ref s.heap.objs.size) "set" := ⟨_, at_, rfl⟩
    have look := F.called_set.init.lookup
    have bind := F.called_set.init.bind (.ref s.heap.objs.size)
    repeat (any_goals (first | assumption | wp_step))
    refine codeAny_mono (codeAny_call_builtin (R := wants (fun r t => r = .none ∧ ∃ h' tk M, t = { s with heap := h', toks := tk } ∧ TxS w h' s.heap.objs.size M ∧ M.length ≤ xs.length ∧ (∀ z, z ∈ M ↔ z ∈ xs) ∧ ∀ b o, s.heap.get? b = some o → h'.get? b = some o) E)
      F.called_set.init.plain F.entry_set_init (check_set_init_1 isT ?_)) fun r2 t2 filled => ?_
    · rcases isl with ⟨⟨kl, dl, xl, sl⟩, atl, rfl, nl, dt⟩
      have dt : xl = .seq items nl := dt
      subst dt
      have atl1 : (s.heap.push (new0 w)).get? l = some _ := Heap.get?_push_of_some _ atl
      have no1 := F.sub_list_set
      have no2 := F.sub_list_frozenset
      have no3 : (Value.type "list" == Value.type "dict") = false := by decide
      have isl1 : (s.heap.push (new0 w)).IsList l items := ⟨_, atl1, rfl, nl, rfl⟩
      unfold Builtin.«set.__init__» noKeywords Builtin.Frozenset.updateFrom
      generalize it : pyIter = IT
      wp_walk
      subst it
      refine wpAny_pyIter_list isl1 (wpAny_bind (wpAny_runValue ?_))
      have size : (s.heap.push (new0 w)).objs.size = s.heap.objs.size + 1 := Heap.size_push ..
      have ltl : l < s.heap.objs.size := Heap.lt_size atl
      have calm3 : A.in1.in1.in1.handled = none := calm
      have neI : l ≠ (s.heap.push (new0 w)).objs.size := fun e => by
        rw [e, size] at ltl
        exact absurd ltl (Nat.not_lt.mpr (Nat.le_succ _))
      refine set_loop ((Walks.list calm3 _ l neI items).toS) s.heap.objs.size ?_ xs many few (fun i v hv => txs_at are i v (by rw [Array.getElem?_toList]; exact hv)) s.heap ?_ (items.size - 0) 0 _ (by omega) (Nat.zero_le _)
        ⟨⟨_, Heap.get?_push_size _ rfl, rfl, rfl⟩, isl1.push _⟩ ⟨[], tx_new (Heap.get?_push_of_some _ at_), Nat.le_refl _, fun z => by simp⟩ (fun b o e => Heap.get?_push_of_some _ (Heap.get?_push_of_some _ e)) fun t3 M mv R len mem old => ?_
      · rw [size]
        simp only [List.mem_cons, List.not_mem_nil, or_false, not_or]
        exact ⟨Nat.ne_of_lt (Nat.lt_succ_self _), fun e => Nat.lt_irrefl _ (e ▸ ltl)⟩
      · intro b hb
        rw [size] at hb
        have lt : s.heap.objs.size ≤ b := by
          simp only [List.mem_cons, List.not_mem_nil, or_false] at hb
          rcases hb with e | e
          · rw [e]
            exact Nat.le_refl _
          · rw [e]
            exact Nat.le_succ _
        cases e : s.heap.get? b with
        | none => rfl
        | some o => exact absurd (Heap.lt_size e) (Nat.not_lt.mpr lt)
      · rcases t3 with ⟨h3, g3, d3, k3, o3⟩
        have e1 : g3 = s.gens := mv.gens
        have e2 : d3 = s.drawn := mv.drawn
        have e3 : o3 = s.os := mv.os
        subst e1
        subst e2
        subst e3
        show wpAny _ _ _ _ _ _
        refine wpAny_pure ?_
        show wpAny _ _ (ret Value.none) _ _ _
        rw [← many] at len
        refine wpAny_pure ⟨rfl, h3, k3, M, rfl, R, len, fun z => ?_, old⟩
        rw [mem z, ← many, List.take_length]
    · cases r2 with
      | error e => exact filled
      | ok fl2 =>
        cases fl2 with
        | next => exact filled.elim
        | brk => exact filled.elim
        | cont => exact filled.elim
        | ret v =>
        rcases filled with ⟨rfl, h', tk, M, rfl, R, len, mem, old⟩
        repeat (any_goals (first | assumption | wp_step))
        exact fin h' tk M R len mem old
set_option maxHeartbeats 8000000 in
theorem call_set_tup {l : Addr} {items : Array Value} {xs : List Str} {Q : Value → Shared → Prop} (calm : A.handled = none) (isl : s.heap.IsTuple l items) (are : StrsAre items.toList xs) (few : xs.length + 1 < scanBound)
    (fin : ∀ (h' : Heap) (tk : Nat) (M : List Str), TxS w h' s.heap.objs.size M → M.length ≤ xs.length → (∀ z, z ∈ M ↔ z ∈ xs) → (∀ b o, s.heap.get? b = some o → h'.get? b = some o) → Q (.ref s.heap.objs.size) { s with heap := h', toks := tk }) :
    wpAny (model P w) A (call (.type "set") [.ref l]) Q E s := by
  have many : xs.length = items.size := by rw [← StrsAre.len_eq are, Array.length_toList]
  rcases F.called_set.mro with ⟨_, _, mro⟩
  have made := F.called_set.made
  have sub := F.called_set.sub
  refine wpAny_call (codeAny_of_tree ?_)
  show wpAny _ _ (callAny (.type "set") _) _ _ _
  refine wpAny_pure ⟨Code.quiet_builtin _ (by decide +kernel), codeAny_builtin F.entry_type_call ?_⟩
  rw [Around.under_plain (weight_type_call_type "set" [.ref l] []) rfl]
  have noT := F.called_set.notType
  have can := F.called_set.canCreate
  have one := F.typeCall_set_1 (.ref l)
  repeat (any_goals (first | assumption | wp_step))
  refine codeAny_mono (code_set_led1 (.ref l) (E := E) (Q₁ := fun v t => v = .ref s.heap.objs.size ∧ t = { s with heap := s.heap.push (new0 w) }) ⟨rfl, rfl⟩) fun r t made1 => ?_
  cases r with
  | error e => exact made1
  | ok fl =>
    cases fl with
    | next => exact made1.elim
    | brk => exact made1.elim
    | cont => exact made1.elim
    | ret v =>
    rcases made1 with ⟨rfl, rfl⟩
    have at_ : (s.heap.push (new0 w)).get? s.heap.objs.size = some (new0 w) := Heap.get?_push_size _ rfl
    have isT : Shared.TypeIs { s with heap := s.heap.push (new0 w) } (.ref s.heap.objs.size) "set" := ⟨_, at_, rfl⟩
    have look := F.called_set.init.lookup
    have bind := F.called_set.init.bind (.ref s.heap.objs.size)
    repeat (any_goals (first | assumption | wp_step))
    refine codeAny_mono (codeAny_call_builtin (R := wants (fun r t => r = .none ∧ ∃ h' tk M, t = { s with heap := h', toks := tk } ∧ TxS w h' s.heap.objs.size M ∧ M.length ≤ xs.length ∧ (∀ z, z ∈ M ↔ z ∈ xs) ∧ ∀ b o, s.heap.get? b = some o → h'.get? b = some o) E)
      F.called_set.init.plain F.entry_set_init (check_set_init_1 isT ?_)) fun r2 t2 filled => ?_
    · rcases isl with ⟨⟨kl, dl, xl, sl⟩, atl, rfl, nl, dt⟩
      have dt : xl = .seq items nl := dt
      subst dt
      have atl1 : (s.heap.push (new0 w)).get? l = some _ := Heap.get?_push_of_some _ atl
      have no1 := F.sub_tuple_set
      have no2 := F.sub_tuple_frozenset
      have no3 : (Value.type "tuple" == Value.type "dict") = false := by decide
      have isl1 : (s.heap.push (new0 w)).IsTuple l items := ⟨_, atl1, rfl, nl, rfl⟩
      unfold Builtin.«set.__init__» noKeywords Builtin.Frozenset.updateFrom
      generalize it : pyIter = IT
      wp_walk
      subst it
      refine wpAny_pyIter_tuple isl1 (wpAny_bind (wpAny_runValue ?_))
      have size : (s.heap.push (new0 w)).objs.size = s.heap.objs.size + 1 := Heap.size_push ..
      have ltl : l < s.heap.objs.size := Heap.lt_size atl
      have calm3 : A.in1.in1.in1.handled = none := calm
      have neI : l ≠ (s.heap.push (new0 w)).objs.size := fun e => by
        rw [e, size] at ltl
        exact absurd ltl (Nat.not_lt.mpr (Nat.le_succ _))
      refine set_loop ((Walks.tuple calm3 _ l neI items).toS) s.heap.objs.size ?_ xs many few (fun i v hv => txs_at are i v (by rw [Array.getElem?_toList]; exact hv)) s.heap ?_ (items.size - 0) 0 _ (by omega) (Nat.zero_le _)
        ⟨⟨_, Heap.get?_push_size _ rfl, rfl, rfl⟩, isl1.push _⟩ ⟨[], tx_new (Heap.get?_push_of_some _ at_), Nat.le_refl _, fun z => by simp⟩ (fun b o e => Heap.get?_push_of_some _ (Heap.get?_push_of_some _ e)) fun t3 M mv R len mem old => ?_
      · rw [size]
        simp only [List.mem_cons, List.not_mem_nil, or_false, not_or]
        exact ⟨Nat.ne_of_lt (Nat.lt_succ_self _), fun e => Nat.lt_irrefl _ (e ▸ ltl)⟩
      · intro b hb
        rw [size] at hb
        have lt : s.heap.objs.size ≤ b := by
          simp only [List.mem_cons, List.not_mem_nil, or_false] at hb
          rcases hb with e | e
          · rw [e]
            exact Nat.le_refl _
          · rw [e]
            exact Nat.le_succ _
        cases e : s.heap.get? b with
        | none => rfl
        | some o => exact absurd (Heap.lt_size e) (Nat.not_lt.mpr lt)
      · rcases t3 with ⟨h3, g3, d3, k3, o3⟩
        have e1 : g3 = s.gens := mv.gens
        have e2 : d3 = s.drawn := mv.drawn
        have e3 : o3 = s.os := mv.os
        subst e1
        subst e2
        subst e3
        show wpAny _ _ _ _ _ _
        refine wpAny_pure ?_
        show wpAny _ _ (ret Value.none) _ _ _
        rw [← many] at len
        refine wpAny_pure ⟨rfl, h3, k3, M, rfl, R, len, fun z => ?_, old⟩
        rw [mem z, ← many, List.take_length]
    · cases r2 with
      | error e => exact filled
      | ok fl2 =>
        cases fl2 with
        | next => exact filled.elim
        | brk => exact filled.elim
        | cont => exact filled.elim
        | ret v =>
        rcases filled with ⟨rfl, h', tk, M, rfl, R, len, mem, old⟩
        repeat (any_goals (first | assumption | wp_step))
        exact fin h' tk M R len mem old
end
end IC
namespace IC
open PySem PySem.Spec PyProof.Rows L2
def TxO (w : World) (a : Addr) (L : List Str) : HO := .ext fun h => TxS w h a L
section
variable {X : Cx}
theorem txO_ok {P : Program} {w : World} {H : Hp} {h : Heap} {a : Addr} {L : List Str} (R : TxS w h a L) : ObjOk P w H h a (TxO w a L) := by
  have R2 := R
  rcases R2 with ⟨o, _, _, _, e, _⟩
  exact ⟨R, ⟨o, e⟩, fun h1 h2 p k => TxS.keep p k⟩
/-- set(xs), xs a list or a tuple of texts -/
def rSetTx (K : PySem.W.Frag) (w : World) : List V → Hp → VK → Prop := fun vs H Q => ∃ (a : Addr) (xs : List Str), vs = [.ref a] ∧ (SqL K H a (xs.map V.str) ∨ SqT K H a (xs.map V.str)) ∧ xs.length ≤ 4000 ∧
  ∀ (p : Addr) (M : List Str), H p = none → M.length ≤ xs.length → (∀ z, z ∈ M ↔ z ∈ xs) → M.Nodup → Q (.ref p) (upd H p (TxO w p M))
theorem cr_setTx (calm : X.calm = true) : CallR X (.type "set") (rSetTx X.K X.w) := by
  rintro pins s σ H vs us Q I rel ⟨a, xs, rfl, sq, few, q⟩
  rcases vals1 rel with ⟨u, rfl, ru⟩
  cases ru
  have few2 : xs.length + 1 < scanBound := by
    show xs.length + 1 < 4096
    omega
  have fin : ∀ (h' : Heap) (tk : Nat) (M : List Str), TxS X.w h' s.heap.objs.size M → M.length ≤ xs.length → (∀ z, z ∈ M ↔ z ∈ xs) → (∀ b o, s.heap.get? b = some o → h'.get? b = some o) → EP X pins σ Q (.ref s.heap.objs.size) { s with heap := h', toks := tk } := fun h' tk M R len mem old => by
    have nd : M.Nodup := by
      rcases R with ⟨_, _, _, _, _, _, _, _, _, nd, _⟩
      exact nd
    exact ⟨.ref s.heap.objs.size, _, I.laid (t' := tk) old (Nat.le_refl _) (txO_ok R), rfl, q _ M (I.hok.fresh (Nat.le_refl _)) len mem nd⟩
  rcases sq with sq | sq
  · rcases I.list sq with ⟨its, rv, pl, _⟩
    exact call_set_lst (I.ok.hd calm) pl.isList (by simpa using rv.strs) few2 fin
  · rcases I.tuple sq with ⟨its, rv, pl, _⟩
    exact call_set_tup (I.ok.hd calm) pl (by simpa using rv.strs) few2 fin
/-- sorted(a set of texts) -/
def rSortTx (w : World) : List V → Hp → VK → Prop := fun vs H Q => ∃ (a : Addr) (M : List Str), vs = [.ref a] ∧ H a = some (TxO w a M) ∧ ∀ (ys : List Str) (p : Addr), ys.Perm M → sortedS ys = true → H p = none → Q (.ref p) (upd H p (.lst (ys.map V.str)))
theorem txs_of {w : World} : ∀ {vs : List Value} {es : List (Int × Value)}, (∀ e ∈ es, TxE w e) → vs = es.map (·.2) → StrsAre vs (es.map tk)
  | _, [], _, e => by
    subst e
    exact .nil
  | _, p :: es, g, e => by
    subst e
    rcases g p List.mem_cons_self with ⟨z, k, e1, _⟩
    have r := txs_of (vs := es.map (·.2)) (fun x hx => g x (List.mem_cons_of_mem _ hx)) rfl
    have e2 : tk p = z := by
      unfold tk
      rw [e1]
    rw [List.map_cons, List.map_cons, e1, e2]
    exact .cons z k r
theorem perm_lift {α β : Type} {f : α → β} : ∀ {ys xs : List β} (_ : ys.Perm xs) {l : List α}, xs = l.map f → ∃ l' : List α, l'.Perm l ∧ ys = l'.map f := by
  intro ys xs p
  induction p with
  | nil =>
    intro l e
    have e : l = [] := List.map_eq_nil_iff.mp e.symm
    subst e
    exact ⟨[], .nil, rfl⟩
  | cons x _ ih =>
    intro l e
    cases l with
    | nil => cases e
    | cons y l =>
      injection e with e1 e2
      rcases ih e2 with ⟨l', p', e'⟩
      exact ⟨y :: l', p'.cons y, by rw [List.map_cons, ← e', e1]⟩
  | swap x y r =>
    intro l e
    match l, e with
    | u :: v :: l, e =>
      injection e with e1 e2
      injection e2 with e2 e3
      exact ⟨v :: u :: l, .swap .., by rw [List.map_cons, List.map_cons, e1, e2, e3]⟩
  | trans _ _ ih1 ih2 =>
    intro l e
    rcases ih2 e with ⟨l2, p2, e2⟩
    rcases ih1 e2 with ⟨l1, p1, e1⟩
    exact ⟨l1, p1.trans p2, e1⟩
theorem cr_sortTx (calm : X.calm = true) : CallR X (.builtin "sorted") (rSortTx X.w) := by
  rintro pins s σ H vs us Q I rel ⟨a, M, rfl, at_, q⟩
  have R : TxS X.w s.heap a M := (I.hok a _ at_).1
  rcases vals1 rel with ⟨u, rfl, ru⟩
  cases ru
  rcases R with ⟨o, es, ep, t, ho, ex, dt, g, pm, nd, few, fit, ris, led⟩
  refine Calls.call_function_entry kind_sorted plain_sorted entry_sorted (args_sorted1 _) ?_
  unfold Builtin.«sorted»
  refine wpAny_bind (m := checkCount "sorted" 1 1 _) (wpAny_pure ?_)
  refine wpAny_bind (collect_set (A := X.A.in1) (I.ok.hd calm) ⟨o, ho, ex.1, dt⟩ fit few ris led fun t1 out old grow gens os pm2 => ?_)
  rcases perm_lift pm2 rfl with ⟨es2, p2, e2⟩
  have are : StrsAre out (es2.map tk) := txs_of (fun e he => g e (p2.mem_iff.mp he)) e2
  have pM : (es2.map tk).Perm M := (p2.map tk).trans pm
  have len : out.length ≤ sizeLine := by
    have e := p2.length_eq
    rw [e2, List.length_map, e, Array.length_toList, sizeLine_eq]
    have : es.size < 4096 := few
    omega
  refine wpAny_bind (wpAny_newList ?_ len)
  have at1 : (t1.heap.push (seqObj "list" out.toArray 0)).get? t1.heap.objs.size = some (seqObj "list" out.toArray 0) := Heap.get?_push_size _ rfl
  refine wpAny_bind (wpAny_holding (wpAny_call_entry slot_list_sort ⟨_, at1, rfl⟩ entry_list_sort (list_sort_treeKAny strKind_oneLt at1 are.keysOf (fun v1 v2 rest e => keyKind_strs (by rw [← e]; exact are)) len fun st hp hs => ⟨_, rfl, ?_⟩) (args_list_sort _)))
  rcases sorted_out_str are hp hs with ⟨ys, g1, g2, g3⟩
  rcases sortedHeap_at (vs := out) (out := (arrOf st).map (·.2)) at1 with ⟨c, hc⟩
  have lenY : (ys.map V.str).length ≤ sizeLine := by
    rw [List.length_map, g2.length_eq, ← StrsAre.length are]
    exact len
  have keep : ∀ b u, s.heap.get? b = some u → (sortedHeap (t1.heap.push (seqObj "list" out.toArray 0)) t1.heap.objs.size out ((arrOf st).map (·.2))).get? b = some u := fun b u e => by
    have e1 := old b u e
    have lt := Heap.lt_size e1
    rw [sortedHeap_old (Nat.ne_of_lt lt) (by rw [size_push']; exact Nat.lt_succ_of_lt lt)]
    exact Heap.get?_push_of_some _ e1
  have J : Inv X pins σ (upd H t1.heap.objs.size (.lst (ys.map V.str))) { s with heap := sortedHeap (t1.heap.push (seqObj "list" out.toArray 0)) t1.heap.objs.size out ((arrOf st).map (·.2)), gens := t1.gens, drawn := t1.drawn, toks := t1.toks } :=
    I.call (ch := []) (Un.laid keep grow (I.hok.fresh grow)) (I.hok.laid keep grow ⟨lenY, ((arrOf st).map (·.2)).toList, c, vals_of_strs g1, by rw [Array.toArray_toList]; exact hc⟩) (by rw [gens]; exact I.bare) (fun _ z => nomatch z)
  refine wpAny_pure ⟨_, rfl, ?_⟩
  rcases t1 with ⟨h1, g1', d1, k1, o1⟩
  have os : o1 = s.os := os
  subst os
  exact ⟨.ref h1.objs.size, _, J, rfl, q ys _ (g2.trans pM) g3 (I.hok.fresh grow)⟩
/-- sorted(a list of texts), however many -/
theorem cr_sortLT : CallR X (.builtin "sorted") (fun vs H Q => ∃ (a : Addr) (xs : List Str), vs = [.ref a] ∧ SqL X.K H a (xs.map V.str) ∧ ∀ (ys : List Str) (p : Addr), ys.Perm xs → sortedS ys = true → H p = none → Q (.ref p) (upd H p (.lst (ys.map V.str)))) := by
  rintro pins s σ H vs us Q I rel ⟨a, xs, rfl, sq, q⟩
  rcases vals1 rel with ⟨u, rfl, ru⟩
  cases ru
  rcases I.list sq with ⟨its, rv, pl, small⟩
  have e0 := rv.length
  rw [List.length_map] at e0
  rw [List.length_map] at small
  refine sorted_strsAny pl.isList rv.strs (by rw [← e0]; exact small) fun out ys h1 h2 h3 => ?_
  rcases sortedAll_at s.heap its out with ⟨ep, he⟩
  have len : (ys.map V.str).length ≤ sizeLine := by
    rw [List.length_map, h2.length_eq]
    exact small
  exact ⟨.ref _, upd H (s.heap.objs.size + 1) (.lst (ys.map V.str)), I.laid (t' := s.toks) (fun _ _ => sortedAll_old) (Nat.le_succ _) ⟨len, out.toList, ep, vals_of_strs h1, he⟩, rfl, q ys _ h2 h3 (I.hok.fresh (Nat.le_succ _))⟩
end
end IC
namespace IC
open PySem PySem.Spec PyProof.Rows L2
abbrev VSt := List (Option V)
/-! ### {k: v for x in xs}, the keys tuples of texts and numbers -/
theorem put_tup {X : Cx} {pins : List (Addr × Obj)} {σ : VSt} {H : Hp} {s : Shared} {B : Value → Shared → Prop} {D b : Addr} {kvs : List (List Key × V)} {k : List Key} {v : V} {r : Value} {Q : Unit → Shared → Prop} (room : X.A.units < cLine) (I : Inv X pins σ H s) (at_ : H D = some (.dT kvs))
    (key : H b = some (.tup (k.map kV))) (few : kvs.length < sizeLine) (rel : RelV v r) (fin : ∀ t, Inv X pins σ (upd H D (.dT (putK kvs k v))) t → Q () t) : wpAny (model X.prog X.w) X.A (dictSet D (.ref b) r) Q B s := by
  rcases dt_of I.hok at_ with ⟨z, sys, xs, kt, dd⟩
  have many : xs.length ≤ sizeLine := by
    rw [← Paired.length kt]
    exact z
  have more : (putK kvs k v).length ≤ sizeLine := Nat.le_trans (length_putK kvs k v) few
  refine wpAny_dictSet_heap (hsz := many) (show (tupleKind (mixKind X.prog X.w)).room X.A from room) (key_of I.hok key) dd fun h' dd' sb => fin _ ?_
  rcases dd' with ⟨o, es, ep, e1, e2, e3, e4, _, e5⟩
  refine d_write I (by rw [at_]; exact True.intro) sb ⟨o, e1⟩ ⟨more, sys, _, (kt.put k key rel).keeps fun c ys ec => ?_, o, es, ep, e1, e2, e3, e4, e5⟩
  rw [upd_ne (ne_of ec at_ (fun z => nomatch z))]
  exact ec
section
variable {X : Cx}
def tDct (wi : TI) (g : TG) (tt : TT) (tk tv : TE) (vs : List Nat) : TE := fun σ H Q => wi σ H fun J H1 => ∀ D, H1 D = none → ∃ W : Nat → Nat → Hp → Prop, (∃ m, W 0 m (upd H1 D (.dT []))) ∧ ∀ i m G, W i m G →
  (J.stop i G ∧ Q (.ref D) G) ∨ (J.go i G ∧ ∃ Nx : Hp → Prop, (∀ G', Nx G' → ∃ m', m' < m ∧ W (i + 1) m' G') ∧ ∀ x G', J.yld i G x G' → g x (wipe σ vs) G' fun τ G2 => wipe τ vs = wipe σ vs ∧ tt τ G2 fun b G3 =>
    if b = true then tk τ G3 fun y G4 => tv τ G4 fun z G5 => ∃ (kvs : List (List Key × V)) (k : List Key) (b : Addr), y = .ref b ∧ G5 b = some (.tup (k.map kV)) ∧ G5 D = some (.dT kvs) ∧ kvs.length < sizeLine ∧ Nx (upd G5 D (.dT (putK kvs k z))) else Nx G3)
theorem pe_dct {kx vx tg iter : Expr} {ifs : List Expr} {sc : Scope} {own : List (Str × Nat)} {pos : Pos} {wi : TI} {g : TG} {tt : TT} {tk tv : TE} (calm : X.calm = true) (nd : X.N.Nodup) (room : X.A.units < cLine) (walk : PI X tg iter wi) (blk : BlkOk X.N X.env.scope sc own)
    (hg : ∀ (s : Shared) (H : Hp) (C : Addr) (cl : List (Str × Addr)) (fp : List Addr), PG (X.blk s H sc (compEnvC sc cl C X.env) fp) tg g) (ht : ∀ (s : Shared) (H : Hp) (C : Addr) (cl : List (Str × Addr)) (fp : List Addr), PTs (X.blk s H sc (compEnvC sc cl C X.env) fp) ifs tt)
    (hk : ∀ (s : Shared) (H : Hp) (C : Addr) (cl : List (Str × Addr)) (fp : List Addr), PE (X.blk s H sc (compEnvC sc cl C X.env) fp) kx tk) (hv : ∀ (s : Shared) (H : Hp) (C : Addr) (cl : List (Str × Addr)) (fp : List Addr), PE (X.blk s H sc (compEnvC sc cl C X.env) fp) vx tv)
    (noset : ∀ x, foldedSetIterable iter X.env x = pure x := by intro _; rfl) : PE X (.DictComp kx vx [⟨tg, iter, ifs, 0⟩] sc pos) (tDct wi g tt tk tv (own.map (·.2))) := by
  constructor
  intro pins s σ H Q I wish
  rw [arm_eval_DictComp]
  have frees : ∀ y ∈ sc.names, y.2 = .free → ∃ c, X.env.cells.lookup y.1 = some c := fun y hy e => (blk.free y hy e).elim (fun q => I.ok.has _ (.inl q)) fun q => I.ok.has _ (.inr q)
  refine wpAny_comprehension_free (use := _) rfl noset (closure_ok frees) blk.kind (fun y hy e => by rw [blk.uniq y hy, e]) (thn (walk.run pins s σ H _ I wish) fun xv s1 h1 => thn h1 fun itv s2 h2 => ?_)
  rcases h2 with ⟨it, fp, tn, J, H2, rfl, I2, T, st2, out2, q⟩
  refine wpAny_newObj_type (newEnv_comp ?_)
  obtain ⟨D, hD⟩ : ∃ D, s2.heap.objs.size = D := ⟨_, rfl⟩
  rw [hD]
  rcases q D (I2.hok.fresh (Nat.le_of_eq hD)) with ⟨W, ⟨m0, w0⟩, turn⟩
  obtain ⟨s3, hs3⟩ : ∃ t : Shared, t = { s2 with heap := s2.heap.push { cls := .type "dict", data := .dict #[] } } := ⟨_, rfl⟩
  rw [← hs3]
  have up3 : s3.heap = s2.heap.push { cls := .type "dict", data := .dict #[] } := by rw [hs3]
  have I3 : Inv X pins σ (upd H2 D (.dT [])) s3 := by
    rw [hs3]
    refine I2.laid (t' := s2.toks) (fun b o e => Heap.get?_push_of_some _ e) (Nat.le_of_eq hD) ?_
    rw [← hD]
    exact dt_empty s2.heap I2.big
  have low : ∀ b ∈ fp, b < s2.heap.objs.size := fun b hb => (T.obj _ _ st2 b hb).elim fun o e => Heap.lt_size e.1
  have out3 : ∀ b ∈ fp, FpOk X pins (upd H2 D (.dT [])) b ∧ b < s3.heap.objs.size := fun b hb => by
    have lt := low b hb
    have ne : b ≠ D := by
      rw [← hD]
      exact Nat.ne_of_lt lt
    refine ⟨⟨(upd_ne ne).trans (out2 b hb).1, (out2 b hb).2⟩, ?_⟩
    rw [up3, Heap.size_push]
    exact Nat.lt_succ_of_lt lt
  have st3 : tn 0 s3.heap := T.keep _ _ _ st2 fun b _ o e => by
    rw [up3]
    exact Heap.get?_push_of_some _ e
  have I4 := block_start I3 blk nd out3
  obtain ⟨cl, hcl⟩ : ∃ l, l = cellsFrom (s3.heap.objs.size + 1) sc.names (cloFrom X.env.cells sc.names []) := ⟨_, rfl⟩
  rw [← hcl] at I4 ⊢
  obtain ⟨G3, hG3⟩ : ∃ G, G = upd H2 D (.dT []) := ⟨_, rfl⟩
  rw [← hG3] at I3 I4 out3 w0
  have pg := hg s3 G3 s3.heap.objs.size cl fp
  have pt := ht s3 G3 s3.heap.objs.size cl fp
  have pk := hk s3 G3 s3.heap.objs.size cl fp
  have pv := hv s3 G3 s3.heap.objs.size cl fp
  have loc : (compEnvC sc cl s3.heap.objs.size X.env).locals = s3.heap.objs.size := rfl
  have fp0 : ∀ b ∈ fp, G3 b = none := fun b hb => (out3 b hb).1.1
  obtain ⟨s4, hs4⟩ : ∃ t : Shared, t = { s3 with heap := pushCells (s3.heap.push { cls := .type "dict", data := .dict #[] }) sc.names } := ⟨_, rfl⟩
  show codeAny _ _ (.compStart (.DictComp kx vx [⟨tg, iter, ifs, 0⟩] sc pos) 0 (.ref it) (.ref D) (compEnvC sc cl s3.heap.objs.size X.env)) (compPost (model X.prog X.w) X.A X.xe none (EP X pins σ Q) (.ref D) s3.heap.objs.size) { s3 with heap := pushCells (s3.heap.push { cls := .type "dict", data := .dict #[] }) sc.names }
  generalize compEnvC sc cl s3.heap.objs.size X.env = ce at I4 pg pt pk pv loc ⊢
  rw [← hs4] at I4 ⊢
  have st4 : tn 0 s4.heap := T.keep _ _ _ st3 fun b _ o e => by
    rw [hs4]
    exact pushCells_keeps _ _ _ _ (Heap.get?_push_of_some _ e)
  have still : ∀ {τ : VSt} {G : Hp} {t : Shared}, Inv (X.blk s3 G3 sc ce fp) [] τ G t → (∀ b ∈ fp, G b = none) → ∀ b ∈ fp, FpOk (X.blk s3 G3 sc ce fp) [] G b := fun J n b hb => ⟨n b hb, (J.ok.exf b hb).1, J.ok.exfs b hb, .inl hb, fun x c e => (J.ok.exf b hb).2 x c e, fun p hp => by cases hp⟩
  refine codeAny_compStart_dict ?loop (T.self X.A 0 _ _ _ st4 ?loop)
  refine compLoop_anyD (fun n t => ∃ i G, Inv (X.blk s3 G3 sc ce fp) [] (wipe σ (own.map (·.2))) G t ∧ tn i t.heap ∧ (∀ b ∈ fp, G b = none) ∧ W i n G) ?_ m0 ⟨0, G3, I4, st4, fp0, w0⟩
  rintro n s5 ⟨i, G5, I5, st5, n5, w5⟩
  rcases turn i n G5 w5 with ⟨stop, done⟩ | ⟨go, Nx, next, step⟩
  · refine thnF (T.done (X.blk s3 G3 sc ce fp) rfl rfl rfl calm i [] s5 _ G5 (fun _ _ => False) I5 (still I5 n5) st5 stop) fun r s6 ⟨hr, I6⟩ => ?_
    subst hr
    have I7 : Inv X pins σ G5 s6 := I3.call' (ch := fp) I6.os I6.base I6.hok I6.bare fun b hb => ⟨(out3 b hb).1.2.2.2.1, (out3 b hb).1.2.1, (out3 b hb).1.2.2.2.2.1, (out3 b hb).1.2.2.2.2.2⟩
    have no : G5 ce.locals = none := I6.free
    rcases I6.loc with ⟨m, ns, _⟩
    have ns : s6.heap.Ns ce.locals m := ns
    rw [loc] at no ns
    rcases I3.fpOk (Nat.le_refl _) no with ⟨f0, f1, f2, f3, f4, f5⟩
    exact ⟨m, ns, fun h'' sb => ⟨.ref D, G5, I7.turned (t' := s6.toks) (fun b o hb e => (sb.2 b hb).trans e) f0 f1 f3 f4 f5, rfl, done⟩⟩
  · refine thnF (T.item (X.blk s3 G3 sc ce fp) rfl rfl rfl calm i [] s5 _ G5 (fun _ _ => False) I5 (still I5 n5) st5 go) fun r s6 ⟨u, hr, h6⟩ => ?_
    subst hr
    refine thnF h6 fun _ s7 ⟨x, G7, I7, r7, y7, st7, n7⟩ => ?_
    refine thnF (pg.run _ s7 _ G7 x u _ (I7.pinned (still I7 n7) (T.obj _ _ st7)) r7 (step x G7 y7)) fun _ s8 ⟨τ, G8, I8, same, q8⟩ => ?_
    refine thnF (pt.run _ s8 τ G8 _ I8 q8) fun b s9 ⟨G9, I9, q9⟩ => ?_
    have back : ∀ {t : Shared} {G : Hp}, Inv (X.blk s3 G3 sc ce fp) ([] ++ pinsAt fp s7.heap) τ G t → Nx G → ∃ m, m < n ∧ ∃ i G', Inv (X.blk s3 G3 sc ce fp) [] (wipe σ (own.map (·.2))) G' t ∧ tn i t.heap ∧ (∀ b ∈ fp, G' b = none) ∧ W i m G' := fun {t G} J nx => by
      rcases next G nx with ⟨m', lt, w'⟩
      have pinned : ∀ b ∈ fp, ∀ o, s7.heap.get? b = some o → t.heap.get? b = some o ∧ G b = none := fun b hb o e => by
        have z := J.pin (b, o) (List.mem_append_right _ (List.mem_append_right _ (mem_pinsAt hb e)))
        exact ⟨z.1, z.2.1⟩
      refine ⟨m', lt, i + 1, G, (J.unpinned (pins := [])).weak (by rw [← same, wipe_length]) fun j v e => ?_, T.keep _ _ _ st7 fun b hb o e => (pinned b hb o e).1, fun b hb => ?_, w'⟩
      · rw [← same] at e
        exact (wipe_some e).1
      · rcases T.obj _ _ st7 b hb with ⟨o, e, _⟩
        exact (pinned b hb o e).2
    cases b with
    | false => exact back I9 q9
    | true =>
      refine thnF (pk.run _ s9 τ G9 _ I9 q9) fun z s10 ⟨yk, G10, I10, r10, q10⟩ => ?_
      refine thnF (pv.run _ s10 τ G10 _ I10 q10) fun z2 s11 ⟨yv, G11, I11, r11, kvs, k, c, ek, hc, hD11, few, nx⟩ => ?_
      subst ek
      cases r10
      exact put_tup (X := X.blk s3 G3 sc ce fp) room I11 hD11 hc few r11 fun t J => back J nx
/-- over a list that stays -/
theorem dct_list {K : PySem.W.Frag} {a : Addr} {xs : List V} {g : TG} {tt : TT} {tk tv : TE} {vs : List Nat} {σ : VSt} {H1 : Hp} {D : Addr} {Qd : Hp → Prop} (Pv : Nat → Hp → Prop) (h0 : Pv 0 (upd H1 D (.dT []))) (stays : ∀ i G, i ≤ xs.length → Pv i G → SqL K G a xs)
    (one : ∀ i x G, xs[i]? = some x → Pv i G → g x (wipe σ vs) G fun τ G2 => wipe τ vs = wipe σ vs ∧ tt τ G2 fun b G3 =>
      if b = true then tk τ G3 fun y G4 => tv τ G4 fun z G5 => ∃ (kvs : List (List Key × V)) (k : List Key) (c : Addr), y = .ref c ∧ G5 c = some (.tup (k.map kV)) ∧ G5 D = some (.dT kvs) ∧ kvs.length < sizeLine ∧ Pv (i + 1) (upd G5 D (.dT (putK kvs k z))) else Pv (i + 1) G3) (fin : ∀ G, Pv xs.length G → Qd G) :
    ∃ W : Nat → Nat → Hp → Prop, (∃ m, W 0 m (upd H1 D (.dT []))) ∧ ∀ i m G, W i m G →
      ((Itl K a).stop i G ∧ Qd G) ∨ ((Itl K a).go i G ∧ ∃ Nx : Hp → Prop, (∀ G', Nx G' → ∃ m', m' < m ∧ W (i + 1) m' G') ∧ ∀ x G', (Itl K a).yld i G x G' → g x (wipe σ vs) G' fun τ G2 => wipe τ vs = wipe σ vs ∧ tt τ G2 fun b G3 =>
        if b = true then tk τ G3 fun y G4 => tv τ G4 fun z G5 => ∃ (kvs : List (List Key × V)) (k : List Key) (c : Addr), y = .ref c ∧ G5 c = some (.tup (k.map kV)) ∧ G5 D = some (.dT kvs) ∧ kvs.length < sizeLine ∧ Nx (upd G5 D (.dT (putK kvs k z))) else Nx G3) := by
  refine ⟨fun i m G => m = xs.length - i ∧ i ≤ xs.length ∧ Pv i G, ⟨xs.length, rfl, Nat.zero_le _, h0⟩, ?_⟩
  rintro i m G ⟨rfl, le, p⟩
  have sq := stays i G le p
  rcases Nat.lt_or_ge i xs.length with lt | ge
  · refine .inr ⟨⟨xs, xs[i], sq, List.getElem?_eq_getElem lt⟩, Pv (i + 1), fun G' p' => ⟨xs.length - (i + 1), by omega, rfl, lt, p'⟩, fun x G' y => ?_⟩
    rcases y with ⟨e, y⟩
    subst e
    exact one i x _ (y xs sq) p
  · obtain rfl : i = xs.length := Nat.le_antisymm le ge
    exact .inl ⟨⟨xs, sq, Nat.le_refl _⟩, fin G p⟩
end
end IC
namespace IC
open PySem L2 TL
/-! ### static methods by a promise of any arguments -/
theorem pe_smR {X : Cx} {k j : Nat} {C p g : Addr} {mc : Value} {sp : Sp} {o e : Expr} {es : List Expr} {m : Str} {pos apos : Pos} {ta : TE} {t : TA} {pl : Sem Bool} (ho : PE X o ta) (S : SMet X.K C mc m p g) (F : FnR X.prog X.w X.K X.mg X.base CX0 k g sp) (hr : Room j X.A) (hk : k ≤ j) (ha : PA X (e :: es) t)
    (he : starEach (e :: es) X.env = (false, eval e X.env) :: starEach es X.env := by rfl) (hpl : (backTo pos (starEach es X.env)).any (·.1) = false := by rfl)
    (ht : eval (.Call (.Attribute o m apos) (e :: es) [] pos) X.env = (do
      let ov ← eval o X.env; standAt apos.atName
      let (f, first) ← holding [ov] (getMethod ov m pl); callWith pos f first (backTo pos (starEach (e :: es) X.env)) (backToKw pos (keywordEach [] X.env))) := by rfl) :
    PE X (.Call (.Attribute o m apos) (e :: es) [] pos) (tSM C sp ta t) := by
  constructor
  intro pins s σ H Q I h
  refine PySem.W.methodCall_KW (pl := pl) (thn (ho.run pins s σ H _ I h) fun u s1 h1 => ?_) ht
  rcases h1 with ⟨_, H1, I1, ru, rfl, q⟩
  cases ru
  rcases S.rec_ with ⟨more, isRec⟩
  refine PySem.W.method_cls I1.kIn S.rd.ga (PySem.W.cls_bind I1.kIn S.rd.rd S.fnd (wpAny_call (PySem.W.sm_get (s := { s1 with toks := s1.toks + 1 }) I1.kIn isRec (PySem.W.handed_on rfl ?_))))
  have I2 : Inv X pins σ H1 { s1 with toks := s1.toks + 1 } := I1.tok _
  refine PySem.W.callWith_K (h₀ := X.base) I2.ok.mod.kin S.kp (thn (ha.run pos pins _ σ H1 _ I2 q) fun us s3 h3 => ?_) he hpl
  rcases h3 with ⟨vs, H3, I3, rv, q3⟩
  exact ⟨I3.kIn, wpAny_call (run_fnR F (hr.mono hk) pass0 I3 rv q3)⟩
theorem pe_smR0 {X : Cx} {k j : Nat} {C p g : Addr} {mc : Value} {sp : Sp} {o : Expr} {m : Str} {pos apos : Pos} {ta : TE} {pl : Sem Bool} (ho : PE X o ta) (S : SMet X.K C mc m p g) (F : FnR X.prog X.w X.K X.mg X.base CX0 k g sp) (hr : Room j X.A) (hk : k ≤ j)
    (ht : eval (.Call (.Attribute o m apos) [] [] pos) X.env = (do
      let ov ← eval o X.env; standAt apos.atName
      let (f, first) ← holding [ov] (getMethod ov m pl); callWith pos f first (backTo pos (starEach [] X.env)) (backToKw pos (keywordEach [] X.env))) := by rfl) :
    PE X (.Call (.Attribute o m apos) [] [] pos) (tSM C sp ta tNil) := by
  constructor
  intro pins s σ H Q I h
  refine PySem.W.methodCall_KW (pl := pl) (thn (ho.run pins s σ H _ I h) fun u s1 h1 => ?_) ht
  rcases h1 with ⟨_, H1, I1, ru, rfl, q⟩
  cases ru
  rcases S.rec_ with ⟨more, isRec⟩
  refine PySem.W.method_cls I1.kIn S.rd.ga (PySem.W.cls_bind I1.kIn S.rd.rd S.fnd (wpAny_call (PySem.W.sm_get (s := { s1 with toks := s1.toks + 1 }) I1.kIn isRec (PySem.W.handed_on rfl ?_))))
  have I2 : Inv X pins σ H1 { s1 with toks := s1.toks + 1 } := I1.tok _
  exact PySem.W.callWith_K0 I2.kIn S.kp (wpAny_call (run_fnR F (hr.mono hk) pass0 I2 .nil q))
/-- def f(*v) -/
theorem Fun.star {P : Program} {w : World} {K : PySem.W.Frag} {mg : Str → Option Value} {base : Heap} {x qual v : Str} {st : Stmt} {fa : Addr} {fd : FuncData} {M : List Str} {n : Nat} {sp : Sp} (D : Fun K x qual st fa fd) (S : FnScope M [v] (defScope st))
    (bind : ∀ (oc : Value) (kV doc pm : Value) (an : Option Addr) (cdv ct : Value) (rest : List Value), bindArgs (PySem.W.fnOf x qual (defArgs st) (defBody st) (defScope st) .none kV doc pm an cdv ct) ⟨rest, []⟩ = (newTuple rest >>= fun t => pure [(v, t)]))
    (walk : ∀ (cdv : Value) (B : Around) (out : List Env) (s : Shared) (H : Hp) (vs : List V) (Q : VK) (E : XK), Room n (B.deeper (PyProof.Rows.envOfC qual (defScope st) s.heap.objs.size fa cdv)) → sp vs H Q E →
      ∃ t, PSs (cxOf CX0 P w K mg base M qual (defScope st) fa cdv B out s H E) (defBody st) t ∧ t { nx := fun _ G => Q .non G, rt := Q } (L2.start M vs) H) :
    FnR P w K mg base CX0 (n + 1) fa (fun vs H Q E => vs.length ≤ sizeLine ∧ ∀ p, H p = none → sp [.ref p] (upd H p (.tup vs)) Q E) := by
  rcases D.ex with ⟨oc, _, kV, doc, pm, an, cv, ct, _, rfl, at_, code⟩
  refine FnR.imp (StX.fn_star (ps := []) (pv := v) (sp := sp) at_ code S StX.cxUp_none (fun us rest e => ?_) (fun B out s H vs Q E room h => walk cv B out s H vs Q E room h)) fun vs H Q E h => ⟨[], vs, rfl, rfl, h.1, h.2⟩
  have e0 : us = [] := List.length_eq_zero_iff.mp e
  subst e0
  exact bind oc kV doc pm an cv ct rest
/-! ### rules: what stands of one -/
def dictR (al : List (List Str)) : List (List Key × V) := al.foldl (fun kvs k => putK kvs (k.map Sum.inr) (.bl true)) []
abbrev rlf (t d : Addr) (z : Str) : List (Str × V) := [("_names", .ref t), ("_allowed", .ref d), ("_text", .str z)]
def RuleAt (C : Addr) (H : Hp) (r : Addr) (ns : List Str) (al : List (List Str)) (z : Str) : Prop := ∃ dx t d : Addr, H r = some (.ins C dx (rlf t d z)) ∧ H t = some (.tup (ns.map V.str)) ∧ H d = some (.dT (dictR al))
theorem RuleAt.same {C : Addr} {H H' : Hp} {r : Addr} {ns : List Str} {al : List (List Str)} {z : Str} (h : RuleAt C H r ns al z) (s : Same H H') : RuleAt C H' r ns al z := by
  rcases h with ⟨dx, t, d, h1, h2, h3⟩
  exact ⟨dx, t, d, s _ _ h1, s _ _ h2, s _ _ h3⟩
theorem RuleAt.mv {C : Addr} {H H' : Hp} {r p : Addr} {ns : List Str} {al : List (List Str)} {z : Str} {xs : List V} (h : RuleAt C H r ns al z) (k : Kp [p] H H') (hp : H p = some (.lst xs)) : RuleAt C H' r ns al z := by
  rcases h with ⟨dx, t, d, h1, h2, h3⟩
  have ne : ∀ {b : Addr} {o : HO}, H b = some o → (∀ ys, o ≠ .lst ys) → b ∉ [p] := fun e n hb => by
    rw [List.mem_singleton.mp hb, hp] at e
    cases e
    exact n _ rfl
  exact ⟨dx, t, d, k _ _ h1 (ne h1 fun _ z => by cases z), k _ _ h2 (ne h2 fun _ z => by cases z), k _ _ h3 (ne h3 fun _ z => by cases z)⟩
theorem inr_inj {a b : List Str} : (a.map Sum.inr : List Key) = b.map Sum.inr ↔ a = b := by
  constructor
  · intro h
    induction a generalizing b with
    | nil => cases b with
      | nil => rfl
      | cons y b => cases h
    | cons x a ih => cases b with
      | nil => cases h
      | cons y b =>
        injection h with h1 h2
        injection h1 with h1
        rw [h1, ih h2]
  · intro h
    rw [h]
theorem dictR_get (al : List (List Str)) (k : List Str) : valV (dictR al) (k.map Sum.inr) = if k ∈ al then some (.bl true) else none := by
  have all : ∀ (al : List (List Str)) (kvs : List (List Key × V)), valV (al.foldl (fun kvs k => putK kvs (k.map Sum.inr) (.bl true)) kvs) (k.map Sum.inr) = if k ∈ al then some (.bl true) else valV kvs (k.map Sum.inr) := by
    intro al
    induction al with
    | nil => intro kvs; simp
    | cons a al ih =>
      intro kvs
      rw [List.foldl_cons, ih, valV_put]
      by_cases h1 : k ∈ al
      · simp [h1]
      · by_cases h2 : k = a
        · subst h2
          simp [h1]
        · have h3 : ¬ (k.map Sum.inr : List Key) = a.map Sum.inr := fun e => h2 (inr_inj.mp e)
          simp [h1, h2, h3]
  exact all al []
theorem room_units {k : Nat} {A : Around} (hr : Room k A) : A.units < cLine := by
  have := hr.un
  omega
theorem pe_gv2 {X : Cx} {x : Str} {v : V} {pos : Pos} (h : ∃ u, X.mg x = some u ∧ RelV v u) (hg : Gl X x) (hdb : (x == ("__debug__" : Str)) = false := by decide) : PE X (.Name x pos) (tC v) := by
  rcases h with ⟨u, e, r⟩
  exact pe_glob hg e r hdb
theorem ite_eq {α : Type} [DecidableEq α] {p q : Prop} {v : α} (h : p) : if decide (v = v) = true then p else q := by
  rw [if_pos (decide_eq_true rfl)]
  exact h
theorem inV_strs (z : Str) (ks : List Str) : inV (.str z) (ks.map V.str) = decide (z ∈ ks) := by
  unfold inV
  induction ks with
  | nil => rfl
  | cons y ks ih =>
    rw [List.map_cons, List.any_cons, ih]
    have e : eqV (.str y) (.str z) = decide (z = y) := by
      show (y == z) = decide (z = y)
      rw [Bool.eq_iff_iff, beq_iff_eq, decide_eq_true_iff]
      exact eq_comm
    rw [e, Bool.eq_iff_iff, Bool.or_eq_true, decide_eq_true_iff, decide_eq_true_iff, decide_eq_true_iff, List.mem_cons]
theorem flat_ks (ks : List Str) : (ks.map V.str).all flatV = true := by
  rw [List.all_eq_true]
  intro x hx
  rcases List.mem_map.mp hx with ⟨y, _, rfl⟩
  rfl
theorem kv_inr (k : List Str) : (k.map Sum.inr : List Key).map kV = k.map V.str := by
  rw [List.map_map]
  rfl
/-- the tuples rs of the texts al -/
def Tups (H : Hp) (rs : List Addr) (al : List (List Str)) : Prop := rs.length = al.length ∧ ∀ (i : Nat) (r : Addr) (k : List Str), rs[i]? = some r → al[i]? = some k → H r = some (.tup (k.map V.str))
def spRInit (C : Addr) : Sp := fun vs H Q _ => ∃ (x dx t l : Addr) (ns : List Str) (al : List (List Str)) (rs : List Addr) (z : Str), vs = [.ref x, .ref t, .ref l, .str z] ∧ H x = some (.ins C dx []) ∧ H t = some (.tup (ns.map V.str)) ∧ H l = some (.lst (rs.map V.ref)) ∧ Tups H rs al ∧ al.length ≤ 100 ∧
  ∀ H', Kp [x] H H' → RuleAt C H' x ns al z → Q .non H'
structure RDf (P : Program) (w : World) (K : PySem.W.Frag) (mg : Str → Option Value) (base : Heap) (k : Nat) (C : Addr) : Prop where
  ex : ∃ (f : Addr) (fd : FuncData), Mk K C f ∧ FnOk P w K mg base CX0 k f fd ["self", "names", "allowed", "text"] (spRInit C) ∧ Binds K fd ["self", "names", "allowed", "text"] [] ∧ mg "Rule" = some (.ref C)
theorem pe_mkR {X : Cx} {k j : Nat} {C : Addr} {e : Expr} {es : List Expr} {t : TA} {p pos : Pos} (D : RDf X.prog X.w X.K X.mg X.base k C) (hr : Room j X.A) (hk : k + 1 ≤ j) (hg : Gl X "Rule") (ha : PA X (e :: es) t)
    (he : starEach (e :: es) X.env = (false, eval e X.env) :: starEach es X.env := by rfl) (hpl : (backTo pos (starEach es X.env)).any (·.1) = false := by rfl) : PE X (.Call (.Name "Rule" p) (e :: es) [] pos) (tMake C (spRInit C) [] E0 t) := by
  rcases D.ex with ⟨f, fd, M, F, hb, hm⟩
  exact pe_make M F (hr.mono hk) hg hm hb .nil pass0 ha (by decide) he hpl
/-- what stands of the class -/
structure RTxt (K : PySem.W.Frag) (mg : Str → Option Value) (C : Addr) : Prop where
  c : Cls K C
  n : NoAttr K C "_names"
  a : NoAttr K C "_allowed"
  t : NoAttr K C "_text"
  gC : mg "Rule" = some (.ref C)
  gM : ∃ u, mg "MOST_RECORDS" = some u ∧ RelV (.int 6) u
/-- a new rule -/
def NewR (C : Addr) (H : Hp) (ns : List Str) (al : List (List Str)) (z : Str) (Q : VK) : Prop := ∀ (H' : Hp) (r : Addr), Same H H' → RuleAt C H' r ns al z → Q (.ref r) H'
theorem NewR.same {C : Addr} {H H1 : Hp} {ns : List Str} {al : List (List Str)} {z : Str} {Q : VK} (h : NewR C H ns al z Q) (s : Same H H1) : NewR C H1 ns al z Q := fun H' r s2 q => h H' r (s.trans s2) q
theorem make_rule {C : Addr} {H : Hp} {Q : VK} {t l : Addr} {ns : List Str} {al : List (List Str)} {rs : List Addr} {z : Str} (ht : H t = some (.tup (ns.map V.str))) (hl : H l = some (.lst (rs.map V.ref))) (tu : Tups H rs al) (few : al.length ≤ 100)
    (k : NewR C H ns al z Q) : ∀ x dx, H x = none → H dx = none → dx ≠ x → spRInit C [.ref x, .ref t, .ref l, .str z] (upd (upd H dx (.own x)) x (.ins C dx [])) (fun v H2 => v = .non ∧ Q (.ref x) H2) E0 := by
  intro x dx nx nd ne
  have s1 : Same H (upd (upd H dx (.own x)) x (.ins C dx [])) := (Same.new nd).trans (Same.new (by rw [upd_ne ne.symm]; exact nx))
  refine ⟨x, dx, t, l, ns, al, rs, z, rfl, upd_same, s1 _ _ ht, s1 _ _ hl, ⟨tu.1, fun i r k e1 e2 => s1 _ _ (tu.2 i r k e1 e2)⟩, few, fun H' kp ra => ⟨rfl, k H' x (Same.kp s1 kp nx) ra⟩⟩
def spHas (C : Addr) : Sp := fun vs H Q _ => ∃ z : Str, vs = [.str z] ∧ IsW z ∧ NewR C H [z] [[z]] z Q
def spFew : Sp := fun vs H Q _ => ∃ (t : Addr) (ns : List Str), vs = [.ref t] ∧ H t = some (.tup (ns.map V.str)) ∧ ns.length ≤ 6 ∧ Q .non H
def togT (ys : List Str) : Str := Str.empty ++ Str.ofString "together(" ++ Txt.join (Str.ofString " ") ys ++ Str.ofString ")"
def spTog (C : Addr) : Sp := fun vs H Q _ => ∃ (t : Addr) (zs : List Str), vs = [.ref t] ∧ H t = some (.tup (zs.map V.str)) ∧ (∀ z ∈ zs, IsW z) ∧ zs.length ≤ 6 ∧
  ∀ (M ys : List Str), M.Nodup → M.length ≤ zs.length → (∀ z, z ∈ M ↔ z ∈ zs) → ys.Perm M → PyProof.Rows.sortedS ys = true → NewR C H ys [[], ys] (togT ys) Q
def spAlways (C : Addr) : Sp := fun vs H Q _ => vs = [] ∧ NewR C H [] [[]] (Str.ofString "always()") Q
/-- a list or a tuple of texts -/
def SqS (H : Hp) (a : Addr) (ks : List Str) : Prop := H a = some (.lst (ks.map V.str)) ∨ H a = some (.tup (ks.map V.str))
theorem SqS.same {H H' : Hp} {a : Addr} {ks : List Str} (h : SqS H a ks) (s : Same H H') : SqS H' a ks := h.imp (s _ _) (s _ _)
def may (ns : List Str) (al : List (List Str)) (ks : List Str) : Bool := decide (ns.filter (fun n => decide (n ∈ ks)) ∈ al)
def spAsk (C : Addr) : Sp := fun vs H Q _ => ∃ (r a : Addr) (ns ks : List Str) (al : List (List Str)) (z : Str), vs = [.ref r, .ref a] ∧ RuleAt C H r ns al z ∧ SqS H a ks ∧ ns.length ≤ 100 ∧ ∀ H', Same H H' → Q (.bl (may ns al ks)) H'
def spRecs (C : Addr) : Sp := fun vs H Q _ => ∃ (r : Addr) (ns : List Str) (al : List (List Str)) (z : Str), vs = [.ref r] ∧ RuleAt C H r ns al z ∧ ∀ p, H p = none → Q (.ref p) (upd H p (.lst (ns.map V.str)))
/-! ### two sorted lists of the same texts are one -/
def leS (a b : Str) : Prop := PySem.Spec.ltCps b.cps.toList a.cps.toList = false
theorem rise_all : ∀ (l : List Str) (p : Str), PyProof.Rows.risingS p l = true → leS p (l.headD p) ∧ PyProof.Rows.sortedS l = true
  | [], p, _ => ⟨by
      show PySem.Spec.ltCps p.cps.toList p.cps.toList = false
      rw [PyProof.Rows.ltCps_eq]
      exact decide_eq_false (List.lt_irrefl _), rfl⟩
  | x :: r, p, h => by
    have h : (!PySem.Spec.ltCps x.cps.toList p.cps.toList && PyProof.Rows.risingS x r) = true := h
    rw [Bool.and_eq_true, Bool.not_eq_true'] at h
    exact ⟨h.1, h.2⟩
theorem leS_iff {a b : Str} : leS a b ↔ ¬ b.cps.toList < a.cps.toList := by
  unfold leS
  rw [PyProof.Rows.ltCps_eq, decide_eq_false_iff_not]
theorem leS_trans {a b c : Str} (h1 : leS a b) (h2 : leS b c) : leS a c := by
  rw [leS_iff] at *
  exact fun h => h1 (List.lt_of_le_of_lt (List.not_lt.mp h2) h)
theorem leS_anti {a b : Str} (h1 : leS a b) (h2 : leS b a) : a = b := by
  rw [leS_iff] at *
  have e : a.cps.toList = b.cps.toList := List.le_antisymm (List.not_lt.mp h1) (List.not_lt.mp h2)
  rcases a with ⟨⟨a⟩⟩
  rcases b with ⟨⟨b⟩⟩
  have e : a = b := e
  rw [e]
theorem sorted_pw : ∀ l : List Str, PyProof.Rows.sortedS l = true → l.Pairwise leS
  | [], _ => .nil
  | x :: r, h => by
    have z := rise_all r x h
    have ih := sorted_pw r z.2
    refine List.pairwise_cons.mpr ⟨fun y hy => ?_, ih⟩
    cases r with
    | nil => cases hy
    | cons u r =>
      have hu : leS x u := z.1
      rcases List.mem_cons.mp hy with rfl | hy
      · exact hu
      · exact leS_trans hu ((List.pairwise_cons.mp ih).1 y hy)
theorem sorted_one {l m : List Str} (p : l.Perm m) (h1 : PyProof.Rows.sortedS l = true) (h2 : PyProof.Rows.sortedS m = true) : l = m :=
  p.eq_of_pairwise (le := leS) (fun a b _ _ => leS_anti) (sorted_pw l h1) (sorted_pw m h2)
theorem perm_mem {l m : List Str} (h1 : l.Nodup) (h2 : m.Nodup) (h : ∀ z, z ∈ l ↔ z ∈ m) : l.Perm m := (List.perm_ext_iff_of_nodup h1 h2).mpr h
theorem wB_of {z : Str} (h : IsW z) : wB z = true := by
  obtain ⟨h1, h2, h3⟩ := h
  unfold wB
  rw [decide_eq_true h1, decide_eq_true h2]
  show (tl z).all lB = true
  rw [List.all_eq_true]
  intro x hx
  have q := h3 x hx
  unfold lB
  rw [decide_eq_true q.1, decide_eq_true q.2]
  rfl
end IC
namespace IC
open PySem PySem.W PySem.Calls PyProof.Rows
/-! ### an operator of an own class, both sides its instances -/
section
variable {prog : Program} {w : World} {A : Around} {E : Value → Shared → Prop} {s : Shared} {K : Frag} {x y C f : Addr} {ox oy : Obj} {od oe : Option Obj}
theorem own_bin {op : Operator} {Q : Value → Shared → Prop} (X : K.In s.heap) (I : InstAt s.heap x ox C od) (J : InstAt s.heap y oy C oe) (first : selfFirst K C = true) (has : findIn K (.ref C) (PySem.dunder op.info.2) = some (some (.ref f))) (fn : isFn K (.ref f) = true)
    (h : wpAny (model prog w) A (call (.ref f) [.ref x, .ref y]) (PySem.W.CmpBack Q) E s) : wpAny (model prog w) A (binaryOp op (.ref x) (.ref y)) Q E s := by
  rcases ksp_first first with ⟨cd, rest, hcd, hm⟩
  cases info : op.info with
  | mk sign nm =>
    rw [info] at has
    dsimp only at has
    have go := ksp_try X I has fn h
    have tx : Looks (model prog w) s.heap (typeOf (.ref x)) (.ref C) := I.type
    have ty : Looks (model prog w) s.heap (typeOf (.ref y)) (.ref C) := J.type
    have left : Looks (model prog w) s.heap (fillsNumberSlot (.ref C) nm) true := fills_K X hcd hm has
    obtain ⟨hp, g, dr, tk, os⟩ := s
    have eqC : (Value.ref C == Value.ref C) = true := beq_self_eq_true _
    simp only [binaryOp, info]
    refine wpAny_holding (wpAny_bind ?_)
    unfold binaryOp1
    refine wpAny_bind (tx.at (wpAny_bind (ty.at (wpAny_bind (left.at ?_)))))
    simp only [eqC, if_true]
    ksp_lk
    refine wpAny_mono go (fun r s' e => ?_) fun _ _ e => e
    rcases e with ⟨v, rfl, q⟩
    ksp_lk
    exact q
theorem own_inv {M : Model} {Q : Value → Shared → Prop} (X : K.In s.heap) (I : InstAt s.heap x ox C od) (has : findIn K (.ref C) "__invert__" = some (some (.ref f))) (fn : isFn K (.ref f) = true) (go : wpAny M A (call (.ref f) [.ref x]) Q E s) :
    wpAny M A (unaryOp .Invert (.ref x)) Q E s := by
  unfold unaryOp
  have plain := beq_iff_eq.mp fn
  exact wpAny_holding (wpAny_bind (special_fn X I has plain (wpAny_mono go (fun _ _ q => wpAny_pure q) fun _ _ q => q)))
end
end IC
namespace IC
open PySem L2 TL
section
variable {X : Cx}
theorem no_ni {v : V} : ¬ RelV v Value.notImplemented := fun h => by
  cases v <;> first | exact (nomatch h) | (rcases h with ⟨_, h⟩; exact (nomatch h))
def rOwn (C : Addr) (sp : Sp) : R2 := fun x y H Q => ∃ (p q dx dy : Addr) (fs gs : List (Str × V)), x = .ref p ∧ y = .ref q ∧ H p = some (.ins C dx fs) ∧ H q = some (.ins C dy gs) ∧ sp [.ref p, .ref q] H Q E0
theorem op_own {op : Operator} {C g : Addr} {k : Nat} {sp : Sp} (first : PySem.W.selfFirst X.K C = true) (has : PySem.W.findIn X.K (.ref C) (PySem.dunder op.info.2) = some (some (.ref g))) (fn : PySem.W.isFn X.K (.ref g) = true) (F : FnR X.prog X.w X.K X.mg X.base CX0 k g sp) (hr : Room k X.A) :
    OpR X (binaryOp op) (rOwn C sp) := by
  rintro pins s σ H x y v u Q I rx ry ⟨p, q, dx, dy, fs, gs, rfl, rfl, hp, hq, h⟩
  cases rx
  cases ry
  rcases StX.insC_at I (.inr ⟨dx, fs, hp⟩) with ⟨ox, od, J1, _⟩
  rcases StX.insC_at I (.inr ⟨dy, gs, hq⟩) with ⟨oy, oe, J2, _⟩
  refine own_bin I.kIn J1 J2 first has fn (wpAny_mono (wpAny_call (run_fnR F hr pass0 I (.cons (show RelV (V.ref p) (Value.ref p) from rfl) (.cons (show RelV (V.ref q) (Value.ref q) from rfl) .nil)) h)) (fun r s' e => ?_) fun _ _ e => e)
  have e2 := e
  rcases e2 with ⟨y, H2, I2, ry, _⟩
  cases r <;> first | exact e | exact absurd ry no_ni
def rOwn1 (C : Addr) (sp : Sp) : V → Hp → VK → Prop := fun x H Q => ∃ (p dx : Addr) (fs : List (Str × V)), x = .ref p ∧ H p = some (.ins C dx fs) ∧ sp [.ref p] H Q E0
theorem un_own {C g : Addr} {k : Nat} {sp : Sp} (has : PySem.W.findIn X.K (.ref C) "__invert__" = some (some (.ref g))) (fn : PySem.W.isFn X.K (.ref g) = true) (F : FnR X.prog X.w X.K X.mg X.base CX0 k g sp) (hr : Room k X.A) : UnR X (unaryOp .Invert) (rOwn1 C sp) := by
  rintro pins s σ H x v Q I rx ⟨p, dx, fs, rfl, hp, h⟩
  cases rx
  rcases StX.insC_at I (.inr ⟨dx, fs, hp⟩) with ⟨ox, od, J1, _⟩
  exact own_inv I.kIn J1 has fn (wpAny_call (run_fnR F hr pass0 I (.cons (show RelV (V.ref p) (Value.ref p) from rfl) .nil) h))
/-- str(x), x an instance of C that has its own __str__ -/
def rStrOwn (C : Addr) (sp : Sp) : List V → Hp → VK → Prop := fun vs H Q => ∃ (p dx : Addr) (fs : List (Str × V)), vs = [.ref p] ∧ H p = some (.ins C dx fs) ∧ sp [.ref p] H (fun v H' => ∃ z : Str, v = .str z ∧ Q v H') E0
theorem cr_strOwn {C g : Addr} {k : Nat} {sp : Sp} (has : PySem.W.findIn X.K (.ref C) "__str__" = some (some (.ref g))) (fn : PySem.W.isFn X.K (.ref g) = true) (F : FnR X.prog X.w X.K X.mg X.base CX0 k g sp) (hr : Room (k + 2) X.A) : CallR X (.type "str") (rStrOwn C sp) := by
  rintro pins s σ H vs us Q I rel ⟨p, dx, fs, rfl, hp, h⟩
  rcases vals1 rel with ⟨u, rfl, ru⟩
  cases ru
  rcases StX.insC_at I (.inr ⟨dx, fs, hp⟩) with ⟨ox, od, J, _⟩
  have run := F X.A.in1.in1 X.stack s H [Value.ref p] [V.ref p] _ E0 hr.in1.in1 I.env0.in1.in1 (.cons (show RelV (V.ref p) (Value.ref p) from rfl) .nil) h
  refine PySem.W.kso_call hr.in1.in1.units0 I.kIn J has fn (wpAny_call (codeAny_mono run fun r s' hq => ?_))
  match r, hq with
  | .error er, z => exact pass0 pins σ H s er s' I z
  | .ok .next, z => exact False.elim z
  | .ok .brk, z => exact False.elim z
  | .ok .cont, z => exact False.elim z
  | .ok (.ret u), z =>
    rcases I.after z with ⟨y, H2, I2, ry, t, rfl, q⟩
    rcases ry with ⟨tk, rfl⟩
    exact ⟨.str t, H2, I2, ⟨tk, rfl⟩, q⟩
end
end IC
namespace IC
open PySem L2 TL PyProof.Rows NdefX LamX
/-! ### defs that are handed a function with cells of its own: what the cells hold is known of the state -/
theorem CellsAt.late {X : Cx} {pins : List (Addr × Obj)} {σ : L2.St} {H : Hp} {s : Shared} {cl : List (Str × Addr)} {fr : List Str} {ws : List (Option V)} (C : CellsAt cl fr ws X.s_0.heap X.H_0) (hx : X.ex = []) (I : Inv X pins σ H s) : CellsAt cl fr ws s.heap H := by
  have nx : ∀ c, c ∉ X.ex := fun c => by rw [hx]; simp
  have kp : ∀ y c, cl.lookup y = some c → ∀ v, X.s_0.heap.IsCell c v → s.heap.IsCell c v := fun y c e v ⟨o, ho, hd⟩ => by
    obtain ⟨sl, q⟩ := I.base.any ho (C.all y c e).1 (nx c)
    exact ⟨_, q, hd⟩
  refine ⟨C.len, fun y c e => ?_, C.inj, fun i y e => ?_⟩
  · obtain ⟨n, v, z⟩ := C.all y c e
    refine ⟨?_, v, kp y c e v z⟩
    obtain ⟨o, ho, _⟩ := z
    exact I.base.free c o ho n (nx c)
  · obtain ⟨c, hc, hv⟩ := C.has i y e
    refine ⟨c, hc, fun v ev => ?_⟩
    obtain ⟨u, r, z⟩ := hv v ev
    exact ⟨u, r, kp y c hc _ z⟩
/-- the cells' names, their addresses and what they hold -/
abbrev SpC := List (Str × Addr) → List (Option V) → Sp
structure FnS (P : Program) (w : World) (K : PySem.W.Frag) (mg : Str → Option Value) (base : Heap) (CX : CXT) (k : Nat) (f : Addr) (fd : FuncData) (ps fr : List Str) (sp : SpC) : Prop where
  many : ∀ cl ws vs H Q E, sp cl ws vs H Q E → vs.length = ps.length
  run : ∀ (A : Around) (outer : List Env) (s : Shared) (H : Hp) (args : Args) (us : List Value) (vs : List V) (Q : VK) (E : XK) (cl : List (Str × Addr)) (ws : List (Option V)), Room k A → Env0 P w K mg base A outer s H → BindsTo s fd args (ps.zip us) → Vals vs us → CellsAt cl fr ws s.heap H → sp cl ws vs H Q E →
    codeAny (model P w) A (.call (.ref f) args) (CR CX outer P w H s Q E) s
section
variable {P : Program} {w : World} {K : PySem.W.Frag} {mg : Str → Option Value} {base : Heap} {CX : CXT}
theorem FunD.okS {x qual : Str} {pa : Arguments} {bd : List Stmt} {sc : Scope} {dvs : List V} {kws : List (Str × V)} {fa : Addr} {fd : FuncData} {M ps fr : List Str} {n : Nat} {sp : SpC} (D : FunD K x qual pa bd sc dvs kws fa fd) (S : FnScope M ps sc) (len : ∀ cl ws vs H Q E, sp cl ws vs H Q E → vs.length = ps.length)
    (walk : ∀ (cdv : Value) (B : Around) (out : List Env) (s : Shared) (H : Hp) (vs : List V) (Q : VK) (E : XK) (cl : List (Str × Addr)) (ws : List (Option V)), Room n (B.deeper (envOfC qual sc s.heap.objs.size fa cdv)) → CellsAt cl fr ws s.heap H → sp cl ws vs H Q E →
      ∃ t, PSs (cxOf CX P w K mg base M qual sc fa cdv B out s H E) bd t ∧ t { nx := fun _ G => Q .non G, rt := Q } (L2.start M vs) H) : FnS P w K mg base CX (n + 1) fa fd ps fr sp := by
  obtain ⟨_, _, _, _, _, _, _, cv, _, _, rfl, at_, code, _, _⟩ := D.ex
  constructor
  · exact len
  · intro B out s H args us vs Q E cl ws room env bind rel C wish
    have keepK : K.In s.heap := env.mod.kin.keeps fun b o e => (env.bs b o e).1
    have keepL : s.heap.NoLimit := env.mod.nolimit.keeps fun b o e => (env.bs b o e).1
    refine codeAny_call_function room.depth (keepK _ _ at_) rfl S.co S.gen rfl (PySem.W.codeRec_of keepK code) (bind _ _ _ _ (wpAny_newFunctionEnv_cells S.kind (fun y hy => ?_) fun ev eqv s1 x => ?_))
    · rcases S.par y.1 (List.of_mem_zip hy).1 with q | q
      · exact .inl q
      · exact .inr (And.intro q (PySem.W.cellsFrom_some _ _ _ (Or.inl q)))
    · subst eqv
      rcases walk cv B out s H vs Q E cl ws (room.deeper _) C wish with ⟨t, body, goal⟩
      have J := inv_start (CX := CX) (E := E) S room.hd env (len _ _ _ _ _ _ wish) rel x
      refine ⟨keepL.keeps x.toInCall.keep, codeAny_func (wpAny_mono (body.run [] s1 (L2.start M vs) H _ J goal) (fun fl s2 done => ?_) fun _ _ z => z)⟩
      cases fl with
      | ret u => rcases done with ⟨v, _, G, J2, r2, q⟩; exact ⟨v, G, J2.os, J2.bare, J2.base, J2.hok, r2, q⟩
      | next => rcases done with ⟨_, G, J2, q⟩; exact ⟨V.non, G, J2.os, J2.bare, J2.base, J2.hok, rfl, q⟩
      | brk => exact done.elim fun _ h => h.elim fun _ h => h.2.elim
      | cont => exact done.elim fun _ h => h.elim fun _ h => h.2.elim
theorem Fun.okS {x qual : Str} {st : Stmt} {fa : Addr} {fd : FuncData} {M ps fr : List Str} {n : Nat} {sp : SpC} (D : Fun K x qual st fa fd) (S : FnScope M ps (defScope st)) (len : ∀ cl ws vs H Q E, sp cl ws vs H Q E → vs.length = ps.length)
    (walk : ∀ (cdv : Value) (B : Around) (out : List Env) (s : Shared) (H : Hp) (vs : List V) (Q : VK) (E : XK) (cl : List (Str × Addr)) (ws : List (Option V)), Room n (B.deeper (envOfC qual (defScope st) s.heap.objs.size fa cdv)) → CellsAt cl fr ws s.heap H → sp cl ws vs H Q E →
      ∃ t, PSs (cxOf CX P w K mg base M qual (defScope st) fa cdv B out s H E) (defBody st) t ∧ t { nx := fun _ G => Q .non G, rt := Q } (L2.start M vs) H) : FnS P w K mg base CX (n + 1) fa fd ps fr sp := by
  rcases D.ex with ⟨_, _, _, _, _, _, cv, _, _, rfl, at_, code⟩
  constructor
  · exact len
  · intro B out s H args us vs Q E cl ws room env bind rel C wish
    have keepK : K.In s.heap := env.mod.kin.keeps fun b o e => (env.bs b o e).1
    have keepL : s.heap.NoLimit := env.mod.nolimit.keeps fun b o e => (env.bs b o e).1
    refine codeAny_call_function room.depth (keepK _ _ at_) rfl S.co S.gen rfl (PySem.W.codeRec_of keepK code) (bind _ _ _ _ (wpAny_newFunctionEnv_cells S.kind (fun y hy => ?_) fun ev eqv s1 x => ?_))
    · rcases S.par y.1 (List.of_mem_zip hy).1 with q | q
      · exact .inl q
      · exact .inr (And.intro q (PySem.W.cellsFrom_some _ _ _ (Or.inl q)))
    · subst eqv
      rcases walk cv B out s H vs Q E cl ws (room.deeper _) C wish with ⟨t, body, goal⟩
      have J := inv_start (CX := CX) (E := E) S room.hd env (len _ _ _ _ _ _ wish) rel x
      refine ⟨keepL.keeps x.toInCall.keep, codeAny_func (wpAny_mono (body.run [] s1 (L2.start M vs) H _ J goal) (fun fl s2 done => ?_) fun _ _ z => z)⟩
      cases fl with
      | ret u => rcases done with ⟨v, _, G, J2, r2, q⟩; exact ⟨v, G, J2.os, J2.bare, J2.base, J2.hok, r2, q⟩
      | next => rcases done with ⟨_, G, J2, q⟩; exact ⟨V.non, G, J2.os, J2.bare, J2.base, J2.hok, rfl, q⟩
      | brk => exact done.elim fun _ h => h.elim fun _ h => h.2.elim
      | cont => exact done.elim fun _ h => h.elim fun _ h => h.2.elim
end
/-! ### the calls -/
/-- f(..), f a def of the module that is handed a function made here; js: where the captured names stand -/
structure DfS (P : Program) (w : World) (K : PySem.W.Frag) (mg : Str → Option Value) (base : Heap) (k : Nat) (x : Str) (ps fr : List Str) (sp : SpC) : Prop where
  ex : ∃ (f : Addr) (fd : FuncData), FnS P w K mg base CX0 k f fd ps fr sp ∧ mg x = some (.ref f) ∧ PySem.W.keepIn K (.ref f) = true ∧ Binds K fd ps []
def tCallS (cl : List (Str × Addr)) (js : List Nat) (sp : SpC) (t : TA) : TE := fun σ H Q => t σ H fun vs H1 => sp cl (js.map (slotAt σ)) vs H1 Q E0
theorem pe_dfS {X : Cx} {k j : Nat} {ps fr : List Str} {sp : SpC} {x : Str} {q pos : Pos} {e : Expr} {es : List Expr} {t : TA} {cl : List (Str × Addr)} {js : List Nat} (D : DfS X.prog X.w X.K X.mg X.base k x ps fr sp) (cp : X.Ok → Caps X cl fr js) (hr : Room j X.A) (hj : k ≤ j) (hg : Gl X x)
    (ha : PA X (e :: es) t) (hdb : (x == ("__debug__" : Str)) = false := by decide) (he : starEach (e :: es) X.env = (false, eval e X.env) :: starEach es X.env := by rfl) (hpl : (backTo pos (starEach es X.env)).any (·.1) = false := by rfl) :
    PE X (.Call (.Name x q) (e :: es) [] pos) (tCallS cl js sp t) := by
  obtain ⟨f, fd, F, hm, hk, hb⟩ := D.ex
  refine ⟨fun pins s σ H Q I h => wpAny_Call_Name_kw (ld_glob I hg hm ?_ hdb)⟩
  refine PySem.W.callWith_K (h₀ := X.base) I.ok.mod.kin hk (thn (ha.run pos pins s σ H _ I h) fun us s1 ⟨vs, H1, I1, r, q⟩ => ⟨I1.kIn, ?_⟩) he hpl
  have hl : us.length = ps.length := by rw [← r.length]; exact F.many _ _ _ _ _ _ q
  have b := hb s1 us I1.kIn (by rw [List.append_nil]; exact hl)
  rw [List.append_nil] at b
  refine wpAny_call (codeAny_mono (F.run X.A X.stack s1 H1 ⟨us, []⟩ us vs Q E0 cl _ (hr.mono hj) I1.env0 b r (cells_of I1 (cp I1.ok)) q) fun r s' hq => ?_)
  match r, hq with
  | .error e, hq => exact pass0 pins σ H1 s1 e s' I1 hq
  | .ok (.ret u), hq => exact I1.after hq
  | .ok .next, hq => exact False.elim hq
  | .ok .brk, hq => exact False.elim hq
  | .ok .cont, hq => exact False.elim hq
/-- o.m(e, .., k = v, ..): m is handed a function whose cells stand in sight -/
structure KDfS (P : Program) (w : World) (K : PySem.W.Frag) (mg : Str → Option Value) (base : Heap) (CX : CXT) (k : Nat) (C : Addr) (m : Str) (n : Nat) (ks : List Str) (gV : List V → List V → List V) (ps fr : List Str) (sp : SpC) : Prop where
  ex : ∃ (f : Addr) (fd : FuncData) (g : List Value → List Value → List Value), FnS P w K mg base CX k f fd ps fr sp ∧ Meth K C m f ∧ KBn K fd ps (n + 1) ks g gV
def tMethKS (C : Addr) (m : Str) (n j : Nat) (sp : SpC) (cl : List (Str × Addr)) (wf : L2.St → List (Option V)) (gV : List V → List V → List V) (E : L2.St → XK) (ta : TE) (t tk : TA) : TE := fun σ H Q => ta σ H fun x H1 => ∃ a dx fs, x = .ref a ∧ H1 a = some (.ins C dx fs) ∧ fs.lookup m = none ∧
  t σ H1 fun vs H2 => tk σ H2 fun zs H3 => vs.length = n ∧ zs.length = j ∧ sp cl (wf σ) (gV (x :: vs) zs) H3 Q (E σ)
theorem pe_mdXKS {X : Cx} {k j n : Nat} {C : Addr} {m : Str} {ks ps fr : List Str} {gV : List V → List V → List V} {sp : SpC} {o e : Expr} {es : List Expr} {kws : List Keyword} {pos apos : Pos} {ta : TE} {t u : TA} {pl : Sem Bool} {W : WX} {cl : List (Str × Addr)} {wf : L2.St → List (Option V)}
    (D : KDfS X.prog X.w X.K X.mg X.base (L2.CX X.prog X.w) k C m n ks gV ps fr sp) (hC : ∀ (pins : List (Addr × Obj)) (σ : L2.St) (H : Hp) (s : Shared), Inv X pins σ H s → CellsAt cl fr (wf σ) s.heap H) (c : Cls X.K C) (tk : Takes X W) (hr : Room j X.A) (hk : k ≤ j) (he : PE X o ta) (ha : PA X (e :: es) t) (hw : PK X kws u)
    (hall : (backToKw pos (keywordEach kws X.env)).all (·.1.isSome) = true := by rfl) (hks : (backToKw pos (keywordEach kws X.env)).filterMap (·.1) = ks := by rfl)
    (hst : starEach (e :: es) X.env = (false, eval e X.env) :: starEach es X.env := by rfl) (hpl : ((backTo pos (starEach (e :: es) X.env)).any (·.1) || (backToKw pos (keywordEach kws X.env)).any (·.1.isNone)) = false := by rfl)
    (ht : eval (.Call (.Attribute o m apos) (e :: es) kws pos) X.env = (do
      let ov ← eval o X.env; standAt apos.atName
      let (f, first) ← holding [ov] (getMethod ov m pl); callWith pos f first (backTo pos (starEach (e :: es) X.env)) (backToKw pos (keywordEach kws X.env))) := by rfl) :
    PE X (.Call (.Attribute o m apos) (e :: es) kws pos) (tMethKS C m n ks.length sp cl wf gV (WE W) ta t u) := by
  obtain ⟨f, fd, g, F, hm, hb⟩ := D.ex
  refine ⟨fun pins s σ H Q I h => PySem.W.methodCall_KW (pl := pl) (thn (he.run pins s σ H _ I h) fun v s1 ⟨x, H1, I1, rx, a, dx, fs, ex, ea, l, q⟩ => ?_) ht⟩
  subst ex
  obtain rfl : v = Value.ref a := rx
  refine getmeth_ok I1 ea c hm l (PySem.W.callWith_KW (first := [.ref a]) (h₀ := X.base) I1.ok.mod.kin hm.kp hall (thn (ha.run pos pins s1 σ H1 _ I1 q) fun us s2 ⟨vs, H2, I2, r, q2⟩ => ?_) hpl hst)
  refine thn (hw.run pos pins s2 σ H2 _ I2 q2) fun ws s3 ⟨zs, H3, I3, rz, l1, l2, q3⟩ => ⟨I3.kIn, ?_⟩
  rw [hks]
  have r1 : Vals (V.ref a :: vs) (Value.ref a :: us) := .cons rfl r
  have n1 : (Value.ref a :: us).length = n + 1 := by rw [← r1.length, List.length_cons, l1]
  refine wpAny_call (codeAny_mono (F.run X.A X.stack s3 H3 ⟨Value.ref a :: us, ks.zip ws⟩ (g (Value.ref a :: us) ws) (gV (V.ref a :: vs) zs) Q (WE W σ) cl _ (hr.mono hk) I3.env0 (hb.to s3 _ ws I3.kIn n1 (by rw [← rz.length]; exact l2)) (hb.rel r1 rz) (hC _ _ _ _ I3) q3) fun r s' hq => ?_)
  match r, hq with
  | .error er, hq => exact passAt tk σ pins H3 s3 er s' I3 hq
  | .ok (.ret z), hq => exact I3.after hq
  | .ok .next, hq => exact False.elim hq
  | .ok .brk, hq => exact False.elim hq
  | .ok .cont, hq => exact False.elim hq
/-- g(..), g a name that was handed to the running def, whose cells stood in sight at its start -/
def tCallD (mk : List (Str × Addr) → Addr → NF) (i : Nat) (cl : List (Str × Addr)) (ws : List (Option V)) (sp : Addr → Addr → List (Option V) → Sp) (E : L2.St → XK) (t : TA) : TE := fun σ H Q => ∃ f c', σ[i]? = some (some (.ref f)) ∧ H f = some (FnO f (mk cl c')) ∧
  t σ H fun vs H1 => H1 f = some (FnO f (mk cl c')) ∧ H1 (mk cl c').c = some (CodeO (mk cl c').c (mk cl c').qual) ∧ sp f c' ws vs H1 Q (E σ)
theorem pe_calldN {X : Cx} {mk : List (Str × Addr) → Addr → NF} {cl : List (Str × Addr)} {ws : List (Option V)} {ps fr : List Str} {i j k : Nat} {x : Str} {sp : Addr → Addr → List (Option V) → Sp} {t : TA} {e : Expr} {es : List Expr} {p pos : Pos} {W : WX}
    (Fn : ∀ f c', NOk X.prog X.w X.K X.mg X.base (L2N.CX X.prog X.w) k f (mk cl c') ps fr (sp f c')) (hcl : ∀ c', (mk cl c').cl = cl) (C : CellsAt cl fr ws X.s_0.heap X.H_0) (hex : X.ex = []) (tk : L2N.Takes X W) (hr : Room j X.A) (hk : k ≤ j) (hN : X.N[i]? = some x) (hv : Vis X.env.scope x) (ha : PA X (e :: es) t)
    (hd : (x == ("__debug__" : Str)) = false := by decide) (hcd : (x == ("__classdict__" : Str)) = false := by decide)
    (he : starEach (e :: es) X.env = (false, eval e X.env) :: starEach es X.env := by rfl) (hpl : (backTo pos (starEach es X.env)).any (·.1) = false := by rfl) :
    PE X (.Call (.Name x p) (e :: es) [] pos) (tCallD mk i cl ws sp (WE W) t) := by
  refine ⟨fun pins s σ H Q I h => ?_⟩
  obtain ⟨f, c', hs, hf, ht⟩ := h
  refine wpAny_Call_Name_kw (thn ((pe_var (pos := p) hN hv hd hcd).run pins s σ H (fun v H1 => v = .ref f ∧ H1 = H) I ⟨.ref f, hs, rfl, rfl⟩) fun u s1 ⟨v, H1, I1, r1, q1⟩ => ?_)
  obtain ⟨ev, eH⟩ := q1
  subst ev
  rw [eH] at I1
  obtain rfl : u = Value.ref f := r1
  refine PySem.W.callWith_F (first := []) (fnAt_of I1 hf) (thn (ha.run pos pins s1 σ H _ I1 ht) fun us s2 ⟨vs, H2, I2, r, h1, h2, q⟩ => ⟨fnAt_of I2 h1, ?_⟩) he hpl
  show wpAny _ _ (call (.ref f) us) _ _ _
  have cs : CellsAt (mk cl c').cl fr ws s2.heap H2 := by rw [hcl c']; exact CellsAt.late C hex I2
  refine wpAny_call (codeAny_mono ((Fn f c').run X.A X.stack s2 H2 us vs ws Q (WE W σ) (hr.mono hk) I2.env0 h1 h2 cs r q) fun r s' hq => ?_)
  match r, hq with
  | .error er, hq => exact L2N.passAt tk σ pins H2 s2 er s' I2 hq
  | .ok (.ret z), hq => exact I2.after hq
  | .ok .next, hq => exact False.elim hq
  | .ok .brk, hq => exact False.elim hq
  | .ok .cont, hq => exact False.elim hq
end IC
namespace LamV
open PySem PySem.Spec PyProof.Rows L2 LamX NdefX
/-! ### a lambda as a value: made, kept, called by the name it stands under -/
structure LF where
  qual : Str
  pars : Arguments
  ex : Expr
  scope : Scope
  cl : List (Str × Addr)
  c : Addr
abbrev LF.fd (F : LF) (pm ctv : Value) : FuncData := PySem.W.kla_fn "<lambda>" F.qual F.pars F.ex F.scope F.cl pm (.ref F.c) ctv
def FnL (f : Addr) (F : LF) : HO := .ext fun h => ∃ (od : Option Addr) (sl : Array (Option Value)) (pm ctv : Value), h.get? f = some (⟨.type "function", od, .func (F.fd pm ctv), sl⟩ : Obj)
theorem fnL_at {P : Program} {w : World} {H : Hp} {h : Heap} {f : Addr} {F : LF} (hok : HOk P w H h) (e : H f = some (FnL f F)) : ∃ (od : Option Addr) (sl : Array (Option Value)) (pm ctv : Value), h.get? f = some (⟨.type "function", od, .func (F.fd pm ctv), sl⟩ : Obj) := (hok f _ e).1
section
variable {X : Cx} {pins : List (Addr × Obj)} {σ : L2.St} {H : Hp} {s : Shared}
theorem inv_lam {F : LF} {t' : Nat} {pm ctv : Value} (I : Inv X pins σ H s) : Inv X pins σ (upd H s.heap.objs.size (FnL s.heap.objs.size F)) { s with heap := s.heap.push { cls := .type "function", data := .func (F.fd pm ctv) }, toks := t' } := by
  have g : (s.heap.push ({ cls := .type "function", data := .func (F.fd pm ctv) } : Obj)).get? s.heap.objs.size = some ({ cls := .type "function", data := .func (F.fd pm ctv) } : Obj) := Heap.get?_push_size _ rfl
  exact I.laid (a := s.heap.objs.size) (fun b u q => Heap.get?_push_of_some _ q) (Nat.le_refl _) ⟨⟨_, _, pm, ctv, g⟩, ⟨_, g⟩, fun h1 h2 ⟨od, sl, p, t, z⟩ st => ⟨od, sl, p, t, st _ z⟩⟩
def tLamV (T : List NTab) (mk : Addr → LF) : TE := fun _ H Q => TabsN T H ∧ ∀ (f c' : Addr) (H1 : Hp), ExtN H H1 → (∀ b, H1 b = Option.none → H b = Option.none) → TabsN T H1 → H f = none → H1 f = some (FnL f (mk c')) → H1 c' = some (CodeO c' (mk c').qual) → Q (.ref f) H1
theorem pe_lamV {T : List NTab} {nm : Nat → Nat → Str} {c P : Addr} {pars : Arguments} {ex : Expr} {sc : Scope} {pos : Pos} (TB : TabB X.base X.mg c P) (hcode : X.env.code = .ref c) (hm : (P, nm) ∈ T) (hn : nm pos.line pos.col = X.env.qual ++ "<lambda>") (hu : ∀ p ∈ T, p.1 = P → p.2 = nm)
    (hfree : ∀ y ∈ sc.names, y.2 = .free → X.env.scope.names.lookup y.1 = some .cell ∨ X.env.scope.names.lookup y.1 = some .free) (hdef : defaultsOf pars X.env = ([], [])) :
    PE X (.Lambda pars ex sc pos) (tLamV T fun c' => ⟨X.env.qual ++ "<lambda>", pars, ex, sc, cloFrom X.env.cells sc.names [], c'⟩) := by
  refine ⟨fun pins s σ H Q I wish => PySem.W.kla_eval hdef ?_⟩
  obtain ⟨hT, wish⟩ := wish
  have fr : ∀ y ∈ sc.names, y.2 = .free → ∃ c, X.env.cells.lookup y.1 = some c := fun y hy e => (hfree y hy e).elim (fun z => I.ok.has _ (.inl z)) fun z => I.ok.has _ (.inr z)
  obtain ⟨qs, gP, gt, ga⟩ := (show TabN H P nm from hT _ hm)
  have bP := TB.bm.keeps I.bk
  have gP' : s.heap.get? P = some { cls := .none, data := .fields qs } := I.hok P _ gP
  cases hfound : codeAmong pos qs.toList with
  | some cv =>
    obtain ⟨c', e, gco⟩ := ga pos cv hfound
    subst e
    rw [hn] at gco
    refine PySem.W.kla_makeFunctionHit (mg := X.mg) (c := c) (P := P) (ps := qs) (closure_ok fr) I.ok.glob (I.mod.glob.keeps I.bk) hcode (TB.code.keeps I.bk) gP' gt hfound bP fun ctv h' tk hx hsz => ?_
    have J : Inv X pins σ H { s with heap := h', toks := tk } := I.kept hx
    have n0 : H h'.objs.size = none := J.hok.fresh (Nat.le_refl _)
    have e2 : ∀ b o, H b = some o → upd H h'.objs.size (FnL h'.objs.size ⟨X.env.qual ++ "<lambda>", pars, ex, sc, cloFrom X.env.cells sc.names [], c'⟩) b = some o := fun b o q => (upd_ne (ne_of_none q n0)).trans q
    exact ⟨.ref h'.objs.size, _, inv_lam J, rfl, wish _ c' _ (ExtN.of e2) (fun b q => upd_none q) (hT.ext e2) n0 upd_same (e2 _ _ gco)⟩
  | none =>
    refine PySem.W.kla_makeFunction (mg := X.mg) (c := c) (P := P) (ps := qs) (closure_ok fr) I.ok.glob (I.mod.glob.keeps I.bk) hcode (TB.code.keeps I.bk) gP' gt hfound TB.gP bP fun c' ctv h' tk hx hge hlt grec htb => ?_
    obtain ⟨c2, oc, vs, t, e2, hoc, hd, hv⟩ := grec
    cases e2
    have mC : H c' = none := I.hok.fresh hge
    have J := inv_table (t' := tk) (more := #[rawInt pos.line, rawInt pos.col, .ref c']) (h' := h') I gP hx htb hge ⟨oc, vs, t, hoc, hd, hv⟩
    have eE : ExtN H (upd (upd H P (.tbl (qs ++ #[rawInt pos.line, rawInt pos.col, .ref c']))) c' (CodeO c' (X.env.qual ++ "<lambda>"))) := fun b o q n => by
      rw [upd_ne (ne_of_none q mC), upd_ne fun z => n qs (Option.some.inj (q.symm.trans (by rw [z, gP])))]
      exact q
    have eT : TabsN T (upd (upd H P (.tbl (qs ++ #[rawInt pos.line, rawInt pos.col, .ref c']))) c' (CodeO c' (X.env.qual ++ "<lambda>"))) := fun p hp => by
      by_cases hb : p.1 = P
      · have eL : (qs ++ #[rawInt pos.line, rawInt pos.col, .ref c']).toList = qs.toList ++ [rawInt pos.line, rawInt pos.col, .ref c'] := by simp
        refine ⟨qs ++ #[rawInt pos.line, rawInt pos.col, .ref c'], by rw [hb, upd_ne (ne_of_none gP mC), upd_same], by rw [eL]; exact PySem.TriplesOk_snoc _ _ _ _ gt, fun p' cv q => ?_⟩
        rw [eL] at q
        rw [hu p hp hb]
        rcases among_app2 _ gt q with z | ⟨z, z1, z2⟩
        · obtain ⟨c0, q1, q2⟩ := ga p' cv z
          exact ⟨c0, q1, eE _ _ q2 codeO_ne⟩
        · exact ⟨c', z, by rw [← z1, ← z2, hn]; exact upd_same⟩
      · obtain ⟨qs', b1, b2, b3⟩ := hT p hp
        refine ⟨qs', by rw [upd_ne (ne_of_none b1 mC), upd_ne hb]; exact b1, b2, fun p' cv q => ?_⟩
        obtain ⟨c0, q1, q2⟩ := b3 p' cv q
        exact ⟨c0, q1, eE _ _ q2 codeO_ne⟩
    have n0 := J.hok.fresh (Nat.le_refl _)
    refine ⟨.ref h'.objs.size, _, inv_lam J, rfl, wish _ c' _ (fun b o q n => ?_) (fun b q => upd_none (upd_none (upd_none q))) (eT.ext fun b o q => (upd_ne (ne_of_none q n0)).trans q) (I.hok.fresh (Nat.le_trans hge (Nat.le_of_lt hlt))) upd_same ((upd_ne (Nat.ne_of_lt hlt)).trans upd_same)⟩
    have q1 := eE b o q n
    exact (upd_ne (ne_of_none q1 n0)).trans q1
end
/-! ### what it promises -/
abbrev LF.nf (F : LF) : NF := ⟨"<lambda>", F.qual, F.pars, [], F.scope, F.cl, F.c⟩
structure LOk (P : Program) (w : World) (K : PySem.W.Frag) (mg : Str → Option Value) (base : Heap) (CX : CXT) (k : Nat) (f : Addr) (F : LF) (ps fr : List Str) (sp : List (Option V) → Sp) : Prop where
  len : ∀ ws vs H Q E, sp ws vs H Q E → vs.length = ps.length
  run : ∀ (A : Around) (outer : List Env) (s : Shared) (H : Hp) (us : List Value) (vs : List V) (ws : List (Option V)) (Q : VK) (E : XK), Room k A → Env0 P w K mg base A outer s H → H f = some (FnL f F) → H F.c = some (CodeO F.c F.qual) → CellsAt F.cl fr ws s.heap H → Vals vs us → sp ws vs H Q E →
    codeAny (model P w) A (.call (.ref f) ⟨us, []⟩) (CR CX outer P w H s Q E) s
section
variable {CX : CXT} {P : Program} {w : World} {K : PySem.W.Frag} {mg : Str → Option Value} {base : Heap} {N ps fr : List Str} {F : LF} {f : Addr} {k : Nat} {sp : List (Option V) → Sp}
theorem lok_of (S : NScope N ps fr F.scope) (hb : ∀ (pm ctv : Value) (us : List Value), us.length = ps.length → bindArgs (F.fd pm ctv) ⟨us, []⟩ = pure (ps.zip us)) (len : ∀ ws vs H Q E, sp ws vs H Q E → vs.length = ps.length)
    (walk : ∀ (A : Around) (outer : List Env) (s : Shared) (H : Hp) (vs : List V) (ws : List (Option V)) (Q : VK) (E : XK), Room k (A.deeper (envF F.nf f s.heap.objs.size)) → H f = some (FnL f F) → H F.c = some (CodeO F.c F.qual) → ws.length = fr.length → sp ws vs H Q E →
      ∃ t, PE (ncx CX P w K mg base N F.nf f A outer s H E) F.ex t ∧ t (startF N vs ws) H Q) : LOk P w K mg base CX (k + 1) f F ps fr sp := by
  refine ⟨len, fun A outer s H us vs ws Q E hr e0 hf hc C r wish => ?_⟩
  have hl := len _ _ _ _ _ wish
  have unl : s.heap.NoLimit := e0.mod.nolimit.keeps fun b o e => (e0.bs b o e).1
  obtain ⟨od, sl, pm, ctv, ho⟩ := fnL_at e0.hok hf
  refine PySem.W.kla_callFunE hr.depth ho rfl S.co S.gen rfl (codeO_at e0.hok hc) ?_
  rw [hb pm ctv us (by rw [← r.length, hl])]
  refine wpAny_pure (wpAny_newFunctionEnv S.nocell (fun y hy => S.par y.1 (List.of_mem_zip hy).1) (fun h1 hns hsb => ⟨unl.fresh _ hsb, ?_⟩) S.kind)
  show codeAny _ _ (.expr F.ex (envF F.nf f s.heap.objs.size)) _ _
  have kp : ∀ b o, s.heap.get? b = some o → h1.get? b = some o := fun b o e => hsb.extBut b o (Nat.ne_of_lt (Heap.lt_size e)) (Heap.get?_push_of_some _ e)
  obtain ⟨t, body, goal⟩ := walk A outer s H vs ws Q E (hr.deeper _) hf hc C.len wish
  have J : Inv (ncx CX P w K mg base N F.nf f A outer s H E) [] (startF N vs ws) H { s with heap := h1, toks := s.toks + (ps.zip us).length } := inv_startN S hr.hd e0 hl r C hns kp
  refine PySem.W.kla_codeExpr (wpAny_mono (body.run [] _ _ H Q J goal) (fun v s2 done => ?_) fun _ _ z => z)
  obtain ⟨v1, H1, J1, r1, q⟩ := done
  exact ⟨v1, H1, J1.os, J1.bare, J1.base, J1.hok, r1, q⟩
end
/-! ### x(), x a name that was handed to the running def: a lambda, its cells in sight at the def's start -/
def tCallL (mk : List (Str × Addr) → Addr → LF) (i : Nat) (cl : List (Str × Addr)) (ws : List (Option V)) (sp : Addr → Addr → List (Option V) → Sp) (E : L2.St → XK) : TE := fun σ H Q => ∃ f c', σ[i]? = some (some (.ref f)) ∧ H f = some (FnL f (mk cl c')) ∧ H (mk cl c').c = some (CodeO (mk cl c').c (mk cl c').qual) ∧ sp f c' ws [] H Q (E σ)
theorem pe_callL {X : Cx} {mk : List (Str × Addr) → Addr → LF} {cl : List (Str × Addr)} {ws : List (Option V)} {fr : List Str} {i j k : Nat} {x : Str} {sp : Addr → Addr → List (Option V) → Sp} {p pos : Pos} {W : WX}
    (Fn : ∀ f c', LOk X.prog X.w X.K X.mg X.base (L2.CX X.prog X.w) k f (mk cl c') [] fr (sp f c')) (hC : ∀ c' (pins : List (Addr × Obj)) (σ : L2.St) (H : Hp) (s : Shared), Inv X pins σ H s → CellsAt (mk cl c').cl fr ws s.heap H) (tk : L2.Takes X W) (hr : Room j X.A) (hk : k ≤ j) (hN : X.N[i]? = some x) (hv : Vis X.env.scope x)
    (hd : (x == ("__debug__" : Str)) = false := by decide) (hcd : (x == ("__classdict__" : Str)) = false := by decide) : PE X (.Call (.Name x p) [] [] pos) (tCallL mk i cl ws sp (WE W)) := by
  refine ⟨fun pins s σ H Q I wish => ?_⟩
  obtain ⟨f, c', hs, hf, hc, q⟩ := wish
  refine wpAny_Call_Name_kw (thn ((pe_var (pos := p) hN hv hd hcd).run pins s σ H (fun v H1 => v = .ref f ∧ H1 = H) I ⟨.ref f, hs, rfl, rfl⟩) fun u s1 ⟨v, H1, J, r1, e1, e2⟩ => ?_)
  subst e1
  rw [e2] at J
  obtain rfl : u = .ref f := r1
  obtain ⟨od, sl, pm, ctv, ho⟩ := fnL_at J.hok hf
  refine PySem.W.callWith_F0 (first := []) ⟨_, _, _, _, ho⟩ ?_
  show wpAny (model X.prog X.w) X.A (call (.ref f) []) _ _ _
  refine wpAny_call (codeAny_mono ((Fn f c').run X.A X.stack s1 H [] [] ws Q (WE W σ) (hr.mono hk) J.env0 hf hc (hC c' _ _ _ _ J) .nil q) fun r s2 done => ?_)
  match r, done with
  | .error er, done => exact L2.passAt tk σ pins H s1 er s2 J done
  | .ok (.ret z), done => exact J.after done
  | .ok .next, done => exact False.elim done
  | .ok .brk, done => exact False.elim done
  | .ok .cont, done => exact False.elim done
end LamV
namespace IC
open PySem L2 TL
theorem cutV_M (xs : List V) (a b : Nat) : cutV xs (some (a : Int)) (some (b : Int)) = (xs.drop a).take (b - a) := by
  show (xs.drop (HT.sIx xs.length 0 (some (a : Int)))).take (HT.sIx xs.length xs.length (some (b : Int)) - HT.sIx xs.length 0 (some (a : Int))) = _
  rw [HT.sIx_nat, HT.sIx_nat]
  rcases Nat.le_total a xs.length with h | h
  · rw [Nat.min_eq_left h]
    rcases Nat.le_total b xs.length with h2 | h2
    · rw [Nat.min_eq_left h2]
    · rw [Nat.min_eq_right h2, List.take_of_length_le (by rw [List.length_drop]; omega), List.take_of_length_le (by rw [List.length_drop]; omega)]
  · rw [Nat.min_eq_right h, List.drop_eq_nil_of_le (Nat.le_refl _), List.drop_eq_nil_of_le h, List.take_nil, List.take_nil]
theorem cutV_R (xs : List V) (a : Nat) : cutV xs (some (a : Int)) none = xs.drop a := by
  show (xs.drop (HT.sIx xs.length 0 (some (a : Int)))).take (HT.sIx xs.length xs.length none - HT.sIx xs.length 0 (some (a : Int))) = _
  rw [HT.sIx_nat, HT.sIx_none]
  rcases Nat.le_total a xs.length with h | h
  · rw [Nat.min_eq_left h]
    exact List.take_of_length_le (by rw [List.length_drop]; exact Nat.le_refl _)
  · rw [Nat.min_eq_right h, Nat.sub_self, List.take_zero, List.drop_eq_nil_of_le h]
theorem cutV_L (xs : List V) (b : Nat) : cutV xs none (some (b : Int)) = xs.take b := by
  show (xs.drop (HT.sIx xs.length 0 none)).take (HT.sIx xs.length xs.length (some (b : Int)) - HT.sIx xs.length 0 none) = _
  rw [HT.sIx_nat, HT.sIx_none, List.drop_zero, Nat.sub_zero]
  rcases Nat.le_total b xs.length with h | h
  · rw [Nat.min_eq_left h]
  · rw [Nat.min_eq_right h, List.take_length, List.take_of_length_le h]
end IC
namespace IC
open PySem L2 TL PyProof.Rows
abbrev fsB (v : V) : List (Str × V) := [("word", v)]
abbrev fsTM (v : V) : List (Str × V) := [("what", v)]
/-- what is no word -/
def NoW (K : PySem.W.Frag) (H : Hp) (v : V) : Prop := (∃ z : Str, v = .str z ∧ (tl z).length ≤ 1000 ∧ wB z = false) ∨ Oth K H v
def ErrQ (C : Addr) (fs : List (Str × V)) (H : Hp) (E : XK) : Prop := ∀ (x : Addr) (H' : Hp), Same H H' → H' x = some (.xd fs) → E (.ref C) (some x) H'
theorem ErrQ.same {C : Addr} {fs : List (Str × V)} {H H1 : Hp} {E : XK} (h : ErrQ C fs H E) (s : Same H H1) : ErrQ C fs H1 E := fun x H' s2 e => h x H' (s.trans s2) e
theorem exm_pair {K : PySem.W.Frag} {S C : Addr} {b : Bool} (h1 : PySem.W.subIn K (.ref C) (.type "BaseException") = some true) (h2 : PySem.W.isClsIn K C = true) (h3 : PySem.W.typeIn K (.ref C) = some (.type "type")) (h4 : PySem.W.subIn K (.ref S) (.ref C) = some b) :
    PySem.W.exmOne K (.ref S) (.ref C) = some b := by
  have z1 : (PySem.W.subIn K (.ref C) (.type "BaseException") == some true) = true := by rw [h1] <;> rfl
  have z2 : ((PySem.W.clsIn K C).isSome && PySem.W.typeIn K (.ref C) == some (.type "type")) = true := by
    rw [show (PySem.W.clsIn K C).isSome = true from h2, h3] <;> rfl
  unfold PySem.W.exmOne
  rw [if_pos z1]
  unfold PySem.W.kitCls
  exact Eq.trans (if_pos z2) h4
/-! ### a promise of what raises nothing, among promises of what may raise -/
section
variable {P : Program} {w : World} {K : PySem.W.Frag} {mg : Str → Option Value} {base : Heap} {k : Nat} {f : Addr} {sp sp' : Sp}
theorem FnR.up (F : FnR P w K mg base CX0 k f sp) : FnR P w K mg base (L2.CX P w) k f (fun vs H Q _ => sp vs H Q E0) := fun A outer s H us vs Q E hr e0 r h => codeAny_mono (F A outer s H us vs Q E0 hr e0 r h) fun r s' hq => by
  match r, hq with
  | .error e, hq => exact False.elim hq
  | .ok (.ret u), hq => exact hq
  | .ok .next, hq => exact hq
  | .ok .brk, hq => exact hq
  | .ok .cont, hq => exact hq
theorem FnR.or {CX : CXT} (F : FnR P w K mg base CX k f sp) (G : FnR P w K mg base CX k f sp') : FnR P w K mg base CX k f (fun vs H Q E => sp vs H Q E ∨ sp' vs H Q E) := fun A outer s H us vs Q E hr e0 r h => by
  rcases h with h | h
  · exact F A outer s H us vs Q E hr e0 r h
  · exact G A outer s H us vs Q E hr e0 r h
end
section
variable {X : Cx} {pins : List (Addr × Obj)} {σ : L2.St} {H : Hp} {s : Shared}
theorem run_fnRA {CX : CXT} {k : Nat} {f : Addr} {sp : Sp} {E : XK} {Q : VK} {us : List Value} {vs : List V} (F : FnR X.prog X.w X.K X.mg X.base CX k f sp) (hr : Room k X.A) (hx : PassesAt CX X σ E) (I : Inv X pins σ H s) (r : Vals vs us) (h : sp vs H Q E) :
    codeAny (model X.prog X.w) X.A (.call (.ref f) ⟨us, []⟩) (fun r s' => match r with | .ok (.ret v) => EP X pins σ Q v s' | .ok _ => False | .error e => X.xe e s') s := by
  refine codeAny_mono (F X.A X.stack s H us vs Q E hr I.env0 r h) fun r s' hq => ?_
  match r, hq with
  | .error e, hq => exact hx pins H s e s' I hq
  | .ok (.ret u), hq => exact I.after hq
  | .ok .next, hq => exact False.elim hq
  | .ok .brk, hq => exact False.elim hq
  | .ok .cont, hq => exact False.elim hq
end
theorem late_of {X : Cx} {pins : List (Addr × Obj)} {σ : L2.St} {H : Hp} {s : Shared} {cl : List (Str × Addr)} {fr : List Str} {ws : List (Option V)} (I : Inv X pins σ H s) (C : NdefX.CellsAt cl fr ws X.s_0.heap X.H_0) (hx : X.ex = []) : NdefX.CellsAt cl fr ws s.heap H := CellsAt.late C hx I
/-! ### static methods that may raise -/
def tSMX (C : Addr) (sp : Sp) (E : L2.St → XK) (ta : TE) (t : TA) : TE := fun σ H Q => ta σ H fun x H1 => x = .ref C ∧ t σ H1 fun vs H2 => sp vs H2 Q (E σ)
theorem pe_smRX {X : Cx} {k j : Nat} {C p g : Addr} {mc : Value} {sp : Sp} {o e : Expr} {es : List Expr} {m : Str} {pos apos : Pos} {ta : TE} {t : TA} {pl : Sem Bool} {W : WX} (ho : PE X o ta) (S : SMet X.K C mc m p g) (F : FnR X.prog X.w X.K X.mg X.base (L2.CX X.prog X.w) k g sp) (tk : Takes X W) (hr : Room j X.A) (hk : k ≤ j) (ha : PA X (e :: es) t)
    (he : starEach (e :: es) X.env = (false, eval e X.env) :: starEach es X.env := by rfl) (hpl : (backTo pos (starEach es X.env)).any (·.1) = false := by rfl)
    (ht : eval (.Call (.Attribute o m apos) (e :: es) [] pos) X.env = (do
      let ov ← eval o X.env; standAt apos.atName
      let (f, first) ← holding [ov] (getMethod ov m pl); callWith pos f first (backTo pos (starEach (e :: es) X.env)) (backToKw pos (keywordEach [] X.env))) := by rfl) :
    PE X (.Call (.Attribute o m apos) (e :: es) [] pos) (tSMX C sp (WE W) ta t) := by
  constructor
  intro pins s σ H Q I h
  refine PySem.W.methodCall_KW (pl := pl) (thn (ho.run pins s σ H _ I h) fun u s1 h1 => ?_) ht
  rcases h1 with ⟨_, H1, I1, ru, rfl, q⟩
  cases ru
  rcases S.rec_ with ⟨more, isRec⟩
  refine PySem.W.method_cls I1.kIn S.rd.ga (PySem.W.cls_bind I1.kIn S.rd.rd S.fnd (wpAny_call (PySem.W.sm_get (s := { s1 with toks := s1.toks + 1 }) I1.kIn isRec (PySem.W.handed_on rfl ?_))))
  have I2 : Inv X pins σ H1 { s1 with toks := s1.toks + 1 } := I1.tok _
  refine PySem.W.callWith_K (h₀ := X.base) I2.ok.mod.kin S.kp (thn (ha.run pos pins _ σ H1 _ I2 q) fun us s3 h3 => ?_) he hpl
  rcases h3 with ⟨vs, H3, I3, rv, q3⟩
  exact ⟨I3.kIn, wpAny_call (run_fnRA F (hr.mono hk) (passAt tk σ) I3 rv q3)⟩
/-! ### defs of the module that may raise -/
structure DfX (P : Program) (w : World) (K : PySem.W.Frag) (mg : Str → Option Value) (base : Heap) (k : Nat) (x : Str) (ps : List Str) (sp : Sp) : Prop where
  ex : ∃ (f : Addr) (fd : FuncData), FnOk P w K mg base (L2.CX P w) k f fd ps sp ∧ mg x = some (.ref f) ∧ PySem.W.keepIn K (.ref f) = true ∧ Binds K fd ps []
def tCallX (sp : Sp) (E : L2.St → XK) (t : TA) : TE := fun σ H Q => t σ H fun vs H1 => sp vs H1 Q (E σ)
theorem pe_dfX {X : Cx} {k j : Nat} {x : Str} {ps : List Str} {sp : Sp} {e : Expr} {es : List Expr} {t : TA} {p pos : Pos} {W : WX} (D : DfX X.prog X.w X.K X.mg X.base k x ps sp) (tk : Takes X W) (hr : Room j X.A) (hk : k ≤ j) (hg : Gl X x)
    (ha : PA X (e :: es) t) (hdb : (x == ("__debug__" : Str)) = false := by decide) (he : starEach (e :: es) X.env = (false, eval e X.env) :: starEach es X.env := by rfl) (hpl : (backTo pos (starEach es X.env)).any (·.1) = false := by rfl) :
    PE X (.Call (.Name x p) (e :: es) [] pos) (tCallX sp (WE W) t) := by
  obtain ⟨f, fd, F, hm, hkp, hb⟩ := D.ex
  refine ⟨fun pins s σ H Q I h => wpAny_Call_Name_kw (ld_glob I hg hm ?_ hdb)⟩
  refine PySem.W.callWith_K (h₀ := X.base) I.ok.mod.kin hkp (thn (ha.run pos pins s σ H _ I h) fun us s1 ⟨vs, H1, I1, r, q⟩ => ⟨I1.kIn, ?_⟩) he hpl
  exact run_fnS (E := WE W) F (hr.mono hk) hb (passAt tk σ) I1 r q
/-! ### operators of an own class that may raise -/
def rOwnE (C : Addr) (sp : Sp) (E : XK) : R2 := fun x y H Q => ∃ (p q dx dy : Addr) (fs gs : List (Str × V)), x = .ref p ∧ y = .ref q ∧ H p = some (.ins C dx fs) ∧ H q = some (.ins C dy gs) ∧ sp [.ref p, .ref q] H Q E
theorem op_ownE {X : Cx} {op : Operator} {C g : Addr} {k : Nat} {sp : Sp} {E : XK} (first : PySem.W.selfFirst X.K C = true) (has : PySem.W.findIn X.K (.ref C) (PySem.dunder op.info.2) = some (some (.ref g))) (fn : PySem.W.isFn X.K (.ref g) = true) (F : FnR X.prog X.w X.K X.mg X.base (L2.CX X.prog X.w) k g sp) (tk : Takes X (fun c d _ H => E c d H)) (hr : Room k X.A) :
    OpR X (binaryOp op) (rOwnE C sp E) := by
  rintro pins s σ H x y v u Q I rx ry ⟨p, q, dx, dy, fs, gs, rfl, rfl, hp, hq, h⟩
  cases rx
  cases ry
  rcases StX.insC_at I (.inr ⟨dx, fs, hp⟩) with ⟨ox, od, J1, _⟩
  rcases StX.insC_at I (.inr ⟨dy, gs, hq⟩) with ⟨oy, oe, J2, _⟩
  refine own_bin I.kIn J1 J2 first has fn (wpAny_mono (wpAny_call (run_fnRA (E := E) F hr (passAt tk σ) I (.cons (show RelV (V.ref p) (Value.ref p) from rfl) (.cons (show RelV (V.ref q) (Value.ref q) from rfl) .nil)) h)) (fun r s' e => ?_) fun _ _ e => e)
  have e2 := e
  rcases e2 with ⟨y, H2, I2, ry, _⟩
  cases r <;> first | exact e | exact absurd ry no_ni
end IC
namespace IC
open PySem L2 TL
/-! ### the text by places -/
def top (i : Nat) : Stmt := PySem.Challenge.pw_innercommits_k18_rules_refused.main.body.getD i (.Pass ⟨0, 0, 0, 0⟩)
abbrev s_law_pool : Stmt := top 13
abbrev s_law_draw : Stmt := top 14
abbrev s_law_word : Stmt := top 15
abbrev s_is_word : Stmt := top 5
abbrev s_BadWord___init__ : Stmt := inClass (top 2) 0
abbrev s_TooMany___init__ : Stmt := inClass (top 3) 0
abbrev s_subsets : Stmt := top 8
abbrev s_united : Stmt := top 9
abbrev s_check_few : Stmt := top 10
abbrev s_Rule___init__ : Stmt := inClass (top 11) 0
abbrev s_Rule_has : Stmt := inClass (top 11) 1
abbrev s_Rule_together : Stmt := inClass (top 11) 2
abbrev s_Rule__allows : Stmt := inClass (top 11) 4
abbrev s_Rule__names_with : Stmt := inClass (top 11) 6
abbrev s_Rule___and__ : Stmt := inClass (top 11) 7
abbrev s_Rule___or__ : Stmt := inClass (top 11) 8
abbrev s_Rule___rshift__ : Stmt := inClass (top 11) 9
abbrev s_Rule___invert__ : Stmt := inClass (top 11) 10
abbrev s_Rule___str__ : Stmt := inClass (top 11) 13
abbrev s_Rule_records : Stmt := inClass (top 11) 11
abbrev s_law_eight : Stmt := top 18
abbrev s_law_made : Stmt := top 16
abbrev s_law_conjunction : Stmt := top 17
abbrev s_law_odd : Stmt := top 19
abbrev s_Rule_always : Stmt := inClass (top 11) 3
abbrev s_Rule___call__ : Stmt := inClass (top 11) 5
abbrev s_law : Stmt := top 20
theorem sc_law_pool : FnScope ["script", "at", "cell", "size", "seed"] ["script", "at"] (defScope s_law_pool) := ⟨rfl, rfl, rfl, by decide +kernel, rfl, by decide +kernel, by decide +kernel⟩
theorem sc_law_draw : FnScope ["pool", "many", "digit", "count", "mixed"] ["pool", "many"] (defScope s_law_draw) := ⟨rfl, rfl, rfl, by decide +kernel, rfl, by decide +kernel, by decide +kernel⟩
theorem sc_law_word : FnScope ["pool", "letters", "k"] ["pool"] (defScope s_law_word) := ⟨rfl, rfl, rfl, by decide +kernel, rfl, by decide +kernel, by decide +kernel⟩
theorem sc_is_word : FnScope ["thing", "letter"] ["thing"] (defScope s_is_word) := ⟨rfl, rfl, rfl, by decide +kernel, rfl, by decide +kernel, by decide +kernel⟩
theorem sc_BadWord___init__ : FnScope ["self", "word"] ["self", "word"] (defScope s_BadWord___init__) := ⟨rfl, rfl, rfl, by decide +kernel, rfl, by decide +kernel, by decide +kernel⟩
theorem sc_TooMany___init__ : FnScope ["self", "what"] ["self", "what"] (defScope s_TooMany___init__) := ⟨rfl, rfl, rfl, by decide +kernel, rfl, by decide +kernel, by decide +kernel⟩
theorem sc_subsets : FnScope ["names", "found", "name", "some"] ["names"] (defScope s_subsets) := ⟨rfl, rfl, rfl, by decide +kernel, rfl, by decide +kernel, by decide +kernel⟩
theorem sc_united : FnScope ["names", "others"] ["names", "others"] (defScope s_united) := ⟨rfl, rfl, rfl, by decide +kernel, rfl, by decide +kernel, by decide +kernel⟩
theorem sc_check_few : FnScope ["names"] ["names"] (defScope s_check_few) := ⟨rfl, rfl, rfl, by decide +kernel, rfl, by decide +kernel, by decide +kernel⟩
theorem sc_Rule___init__ : FnScope ["self", "names", "allowed", "text", "some"] ["self", "names", "allowed", "text"] (defScope s_Rule___init__) := ⟨rfl, rfl, rfl, by decide +kernel, rfl, by decide +kernel, by decide +kernel⟩
theorem sc_Rule_has : FnScope ["record"] ["record"] (defScope s_Rule_has) := ⟨rfl, rfl, rfl, by decide +kernel, rfl, by decide +kernel, by decide +kernel⟩
theorem sc_Rule_together : FnScope ["records", "record", "names", "text"] ["records"] (defScope s_Rule_together) := ⟨rfl, rfl, rfl, by decide +kernel, rfl, by decide +kernel, by decide +kernel⟩
theorem sc_Rule__allows : FnScope ["self", "kept", "name"] ["self", "kept"] (defScope s_Rule__allows) := ⟨rfl, rfl, rfl, by decide +kernel, rfl, by decide +kernel, by decide +kernel⟩
theorem sc_Rule__names_with : FnScope ["self", "other", "names"] ["self", "other"] (defScope s_Rule__names_with) := ⟨rfl, rfl, rfl, by decide +kernel, rfl, by decide +kernel, by decide +kernel⟩
theorem sc_Rule___and__ : FnScope ["self", "other", "names", "allowed", "some"] ["self", "other"] (defScope s_Rule___and__) := ⟨rfl, rfl, rfl, by decide +kernel, rfl, by decide +kernel, by decide +kernel⟩
theorem sc_Rule___or__ : FnScope ["self", "other", "names", "allowed", "some"] ["self", "other"] (defScope s_Rule___or__) := ⟨rfl, rfl, rfl, by decide +kernel, rfl, by decide +kernel, by decide +kernel⟩
theorem sc_Rule___rshift__ : FnScope ["self", "other", "names", "allowed", "some"] ["self", "other"] (defScope s_Rule___rshift__) := ⟨rfl, rfl, rfl, by decide +kernel, rfl, by decide +kernel, by decide +kernel⟩
theorem sc_Rule___invert__ : FnScope ["self", "allowed", "some"] ["self"] (defScope s_Rule___invert__) := ⟨rfl, rfl, rfl, by decide +kernel, rfl, by decide +kernel, by decide +kernel⟩
theorem sc_Rule___str__ : FnScope ["self"] ["self"] (defScope s_Rule___str__) := ⟨rfl, rfl, rfl, by decide +kernel, rfl, by decide +kernel, by decide +kernel⟩
theorem sc_Rule_records : FnScope ["self"] ["self"] (defScope s_Rule_records) := ⟨rfl, rfl, rfl, by decide +kernel, rfl, by decide +kernel, by decide +kernel⟩
theorem sc_law_eight : FnScope ["w"] ["w"] (defScope s_law_eight) := ⟨rfl, rfl, rfl, by decide +kernel, rfl, by decide +kernel, by decide +kernel⟩
theorem sc_law_made : FnScope ["make", "rule", "e"] ["make"] (defScope s_law_made) := ⟨rfl, rfl, rfl, by decide +kernel, rfl, by decide +kernel, by decide +kernel⟩
theorem sc_law_conjunction : FnScope ["words", "rule", "word"] ["words"] (defScope s_law_conjunction) := ⟨rfl, rfl, rfl, by decide +kernel, rfl, by decide +kernel, by decide +kernel⟩
theorem sc_law_odd : FnScope ["pool", "word"] ["pool"] (defScope s_law_odd) := ⟨rfl, rfl, rfl, by decide +kernel, rfl, by decide +kernel, by decide +kernel⟩
theorem sc_Rule_always : FnScope [] [] (defScope s_Rule_always) := ⟨rfl, rfl, rfl, by decide +kernel, rfl, by decide +kernel, by decide +kernel⟩
theorem sc_Rule___call__ : FnScope ["self", "kept"] ["self", "kept"] (defScope s_Rule___call__) := ⟨rfl, rfl, rfl, by decide +kernel, rfl, by decide +kernel, by decide +kernel⟩
theorem sc_law : FnScope ["script", "at", "pool", "words", "odd", "k", "given", "told", "many", "start", "one", "size", "other", "both", "due", "before", "makes", "make"] ["script"] (defScope s_law) := ⟨rfl, rfl, rfl, by decide +kernel, rfl, by decide +kernel, by decide +kernel⟩
/-- the built-in names that no line of the text binds -/
structure Bn (mg : Str → Option Value) : Prop where
  int : mg "int" = none
  len : mg "len" = none
  abs : mg "abs" = none
  range : mg "range" = none
  max : mg "max" = none
  min : mg "min" = none
  isi : mg "isinstance" = none
  str : mg "str" = none
  all : mg "all" = none
  repr : mg "repr" = none
  list : mg "list" = none
  tuple : mg "tuple" = none
  set : mg "set" = none
  sorted : mg "sorted" = none
end IC
namespace IC
open PySem L2 TL
section
variable {P : Program} {w : World} {K : PySem.W.Frag} {mg : Str → Option Value} {base : Heap}
theorem ok_BadWord {f C : Addr} {fd : FuncData} (F : Fun K "__init__" "BadWord.__init__" s_BadWord___init__ f fd) (O : OexC K C) (n1 : PySem.W.findIn K (.ref C) "word" = some none) : FnOk P w K mg base CX0 1 f fd ["self", "word"] (spErr C fsB) := by
  refine F.ok sc_BadWord___init__ (fun vs H Q E h => ?_) (fun cdv A outer s H vs Q E hr h => ?_)
  · obtain ⟨a, v, rfl, _⟩ := h
    rfl
  · obtain ⟨a, v, rfl, ea, k⟩ := h
    refine ⟨_, (pss_one (ps_ost (pv 0) (pv 1))), ?_⟩
    refine ⟨_, rfl, _, rfl, a, C, rfl, O, n1, .inl ⟨ea, fun d nd ne => ?_⟩⟩
    exact k d _ nd ne upd_same (by rw [upd_ne ne, upd_same]) (fun b h1 h2 => by rw [upd_ne h1, upd_ne h2])
end
end IC
namespace IC
open PySem L2 TL
section
variable {P : Program} {w : World} {K : PySem.W.Frag} {mg : Str → Option Value} {base : Heap}
theorem ok_TooMany {f C : Addr} {fd : FuncData} (F : Fun K "__init__" "TooMany.__init__" s_TooMany___init__ f fd) (O : OexC K C) (n1 : PySem.W.findIn K (.ref C) "what" = some none) : FnOk P w K mg base CX0 1 f fd ["self", "what"] (spErr C fsTM) := by
  refine F.ok sc_TooMany___init__ (fun vs H Q E h => ?_) (fun cdv A outer s H vs Q E hr h => ?_)
  · obtain ⟨a, v, rfl, _⟩ := h
    rfl
  · obtain ⟨a, v, rfl, ea, k⟩ := h
    refine ⟨_, (pss_one (ps_ost (pv 0) (pv 1))), ?_⟩
    refine ⟨_, rfl, _, rfl, a, C, rfl, O, n1, .inl ⟨ea, fun d nd ne => ?_⟩⟩
    exact k d _ nd ne upd_same (by rw [upd_ne ne, upd_same]) (fun b h1 h2 => by rw [upd_ne h1, upd_ne h2])
end
end IC
namespace IC
open PySem L2 TL
section
variable {P : Program} {w : World} {K : PySem.W.Frag} {mg : Str → Option Value} {base : Heap}
theorem ok_draw {f : Addr} {fd : FuncData} (F : Fun K "_law_draw" "_law_draw" s_law_draw f fd) (T : Bn mg) : FnOk P w K mg base CX0 1 f fd ["pool", "many"] spDraw := by
  refine F.ok sc_law_draw (fun vs H Q E h => ?_) (fun cdv A outer s H vs Q E hr h => ?_)
  · obtain ⟨p, m, n, rfl, _⟩ := h
    rfl
  · obtain ⟨p, m, n, rfl, ⟨a, b, c, hp, a0, b0, b1, c0, c1⟩, hn, m0, m1, k⟩ := h
    refine ⟨_, (pss_cons (ps_if (pt_cmpR op_gt (pe_ix ix_list (pv 0) pe_int (fun _ _ => rfl)) pe_int (nomark _))
  (pss_cons (ps_set (i := 2) sc_law_draw.nd rfl (Or.inl rfl) (pe_op op_mod (pe_callTy call_int1 (by rfl) T.int (by decide +kernel) (pa_cons (pe_ix ix_list (pv 0) pe_int (fun _ _ => rfl)) pa_nil)) (pv 1)))
  (pss_cons (ps_asg (pe_op op_fdivW (pe_ix ix_list (pv 0) pe_int (fun _ _ => rfl)) (pv 1)) (pg_sub (pv 0) pe_int set_list))
  (pss_one (ps_ret (pv 2)))))
  pss_nil)
  (pss_cons (ps_set (i := 3) sc_law_draw.nd rfl (Or.inl rfl) (pe_op op_add (pe_ix ix_list (pv 0) pe_int (fun _ _ => rfl)) pe_int))
  (pss_cons (ps_asg (pv 3) (pg_sub (pv 0) pe_int set_list))
  (pss_cons (ps_set (i := 4) sc_law_draw.nd rfl (Or.inl rfl) (pe_op op_mod (pe_callTy call_int1 (by rfl) T.int (by decide +kernel) (pa_cons (pe_op op_add (pe_op op_pow (pe_op op_add (pe_ix ix_list (pv 0) pe_int (fun _ _ => rfl)) (pe_op op_mul pe_int (pv 3))) pe_int) (pe_op op_mul pe_int (pv 3))) pa_nil)) pe_int))
  (pss_cons (ps_set (i := 4) sc_law_draw.nd rfl (Or.inl rfl) (pe_op op_mod (pe_callTy call_int1 (by rfl) T.int (by decide +kernel) (pa_cons (pe_op op_pow (pe_op op_add (pv 4) (pe_op op_mul pe_int (pv 3))) pe_int) pa_nil)) pe_int))
  (pss_one (ps_ret (pe_op op_mod (pe_callTy call_int1 (by rfl) T.int (by decide +kernel) (pa_cons (pe_op op_fdiv (pv 4) pe_int) pa_nil)) (pv 1))))))))), ?_⟩
    have g0 : atI (pl a b c) 0 = some (.int a) := rfl
    have g1 : atI (pl a b c) 1 = some (.int b) := rfl
    have g2 : atI (pl a b c) 2 = some (.int c) := rfl
    refine ⟨_, rfl, p, pl a b c, 0, _, rfl, rfl, SqL.of hp, g0, a, 0, rfl, rfl, _, rfl, ?_⟩
    refine ite2 (fun hpos => ?_) (fun hneg => ?_)
    · refine ⟨_, rfl, p, pl a b c, 0, _, rfl, rfl, SqL.of hp, g0, .inl ⟨a, rfl, _, rfl, a, m, rfl, rfl, m0, ?_⟩⟩
      refine ⟨_, rfl, p, pl a b c, 0, _, rfl, rfl, SqL.of hp, g0, _, rfl, a, m, rfl, rfl, wide_div m0 m1 (by decide) (by decide), _, rfl, p, pl a b c, 0, 0, rfl, rfl, hp, rfl, ?_⟩
      refine ⟨_, rfl, ?_⟩
      refine k (a % m) _ (Int.emod_nonneg _ (by omega)) (Int.emod_lt_of_pos _ m0) ⟨a / m, b, c, upd_same, Int.ediv_nonneg a0 (by omega), b0, b1, c0, by omega⟩
    · refine ⟨_, rfl, p, pl a b c, 2, _, rfl, rfl, SqL.of hp, g2, c, 1, rfl, rfl, ?_⟩
      refine ⟨_, rfl, _, rfl, p, pl a b c, 2, 2, rfl, rfl, hp, rfl, ?_⟩
      have g1' : atI ((pl a b c).set 2 (.int (c + 1))) 1 = some (.int b) := rfl
      refine ⟨_, rfl, p, _, 1, _, rfl, rfl, SqL.of upd_same, g1', _, rfl, 48611, c + 1, rfl, rfl, .inl (by decide), b, _, rfl, rfl, _, 3, rfl, rfl, ⟨by decide, by decide, by omega⟩, _, rfl, 17, c + 1, rfl, rfl, .inl (by decide), _, _, rfl, rfl, .inl ⟨_, rfl, _, _, rfl, rfl, (by show (0 : Int) < 2305843009213693921; decide), ?_⟩⟩
      have hX : 0 ≤ ((b + 48611 * (c + 1)) ^ Int.toNat 3 + 17 * (c + 1)) % 2305843009213693921 ∧ ((b + 48611 * (c + 1)) ^ Int.toNat 3 + 17 * (c + 1)) % 2305843009213693921 < 2305843009213693921 :=
        ⟨Int.emod_nonneg _ (by decide), Int.emod_lt_of_pos _ (by decide)⟩
      dsimp only
      generalize ((b + 48611 * (c + 1)) ^ Int.toNat 3 + 17 * (c + 1)) % 2305843009213693921 = X at hX ⊢
      obtain ⟨x0, x1⟩ := hX
      refine ⟨_, rfl, _, rfl, 104729, c + 1, rfl, rfl, .inl (by decide), X, _, rfl, rfl, _, 3, rfl, rfl, ⟨by decide, by decide, by omega⟩, .inl ⟨_, rfl, _, _, rfl, rfl, (by show (0 : Int) < 1000000000000000003; decide), ?_⟩⟩
      have hY : 0 ≤ (X + 104729 * (c + 1)) ^ Int.toNat 3 % 1000000000000000003 := Int.emod_nonneg _ (by decide)
      refine ⟨_, rfl, _, _, rfl, rfl, ⟨by decide, by decide⟩, .inl ⟨_, rfl, _, rfl, _, m, rfl, rfl, m0, ?_⟩⟩
      refine k _ _ (Int.emod_nonneg _ (by omega)) (Int.emod_lt_of_pos _ m0) ⟨a, b, c + 1, upd_same, a0, b0, b1, by omega, by omega⟩
theorem ok_pool {f : Addr} {fd : FuncData} (F : Fun K "_law_pool" "_law_pool" s_law_pool f fd) (T : Bn mg) : FnOk P w K mg base CX0 1 f fd ["script", "at"] (spPool K) := by
  refine F.ok sc_law_pool (fun vs H Q E h => ?_) (fun cdv A outer s H vs Q E hr h => ?_)
  · obtain ⟨a, ns, j, rfl, _⟩ := h
    rfl
  · obtain ⟨a, ns, j, rfl, hS, hj, k⟩ := h
    refine ⟨_, (Evl.pss_cut (ps_set (i := 2) sc_law_pool.nd rfl (Or.inl rfl) (pe_ifExp (pt_cmpR op_lt (pv 1) (pe_callB call_len_seq (by rfl) T.len PySem.boot_len (pa_cons (pv 0) pa_nil)) (nomark _)) (pe_ix ix_list (pv 0) (pv 1) (fun _ _ => rfl)) pe_int))
  (pss_cons (ps_set (i := 3) sc_law_pool.nd rfl (Or.inl rfl) (pe_callB call_abs (by rfl) T.abs PyProof.Rows.boot_abs (pa_cons (pv 2) pa_nil)))
  (pss_cons (ps_set (i := 4) sc_law_pool.nd rfl (Or.inl rfl) (pe_op op_mod (pe_callTy call_int1 (by rfl) T.int (by decide +kernel) (pa_cons (pe_op op_add (pe_op op_add (pe_op op_mul (pv 3) pe_int) (pe_op op_mul pe_int (pv 1))) (pe_callTy call_int1 (by rfl) T.int (by decide +kernel) (pa_cons (pe_cmpR op_lt (pv 2) pe_int (nomark _)) pa_nil))) pa_nil)) pe_int))
  (pss_one (ps_ret (pe_lst (pa_cons (pe_ifExp (pt_cmpR op_ge (pv 3) (pe_op op_pow pe_int pe_int) (nomark _)) (pv 3) pe_int) (pa_cons (pe_op op_add (pv 4) pe_int) (pa_cons pe_int pa_nil))))))))), ?_⟩
    have hj' : (j : Int) < 64 := by omega
    refine ⟨fun σ H' => H' = H ∧ ∃ c : Int, σ = [some (.ref a), some (.int j), some (.int c), none, none], ?_, ?_⟩
    · refine ⟨_, rfl, _, rfl, a, _, rfl, .inl hS, _, _, rfl, rfl, _, rfl, ?_⟩
      refine ite2 (fun hlt => ?_) (fun _ => ⟨rfl, 0, rfl⟩)
      have hlt := of_decide_eq_true hlt
      have hl : j < ns.length := by
        rw [List.length_map] at hlt
        exact Int.ofNat_lt.mp hlt
      have hz : (ns.map V.int)[j]? = some (V.int ns[j]) := by
        rw [List.getElem?_map, List.getElem?_eq_getElem hl]
        rfl
      exact ⟨_, rfl, _, rfl, a, _, _, _, rfl, rfl, hS, atI_nat hz, rfl, _, rfl⟩
    · rintro σ H' ⟨rfl, c, rfl⟩
      refine ⟨_, rfl, c, rfl, ?_⟩
      refine ⟨_, rfl, _, 6, rfl, rfl, .inr (by decide), _, rfl, 2, j, rfl, rfl, .inl (by decide), _, _, rfl, rfl, _, rfl, c, 0, rfl, rfl, .inr ⟨_, rfl, _, _, rfl, rfl, .inl ⟨_, rfl, _, _, rfl, rfl, (by show (0 : Int) < 2305843009213693951; decide), ?_⟩⟩⟩
      refine ⟨_, rfl, 10, 18, rfl, rfl, ⟨by decide, by decide, by decide⟩, _, _, rfl, rfl, _, rfl, ?_⟩
      have h0 : (0 : Int) ≤ if c < 0 then -c else c := by split <;> omega
      have fin : ∀ x y : Int, 0 ≤ x → ∀ p, H' p = none → Q (.ref p) (upd H' p (.lst [.int x, .int (y % 2305843009213693951 + 12345), .int 0])) := fun x y hx p hp => by
        have e1 := Int.emod_nonneg y (show (2305843009213693951 : Int) ≠ 0 by decide)
        have e2 := Int.emod_lt_of_pos y (show (0 : Int) < 2305843009213693951 by decide)
        exact k p _ hp ⟨x, _, 0, upd_same, hx, by omega, by omega, by omega, by omega⟩
      refine ite2 (fun _ => ?_) (fun _ => ?_)
      · exact ⟨_, rfl, _, rfl, _, _, rfl, rfl, (by show 3 ≤ sizeLine; decide), fun p hp => fin _ _ h0 p hp⟩
      · exact ⟨_, rfl, _, _, rfl, rfl, (by show 3 ≤ sizeLine; decide), fun p hp => fin 0 _ (by decide) p hp⟩
end
end IC
namespace IC
open PySem L2 TL
section
variable {P : Program} {w : World} {K : PySem.W.Frag} {mg : Str → Option Value} {base : Heap}
theorem ok_word {f : Addr} {fd : FuncData} (F : Fun K "_law_word" "_law_word" s_law_word f fd) (T : Bn mg) (D_law_draw : Df P w K mg base 1 "_law_draw" ["pool", "many"] spDraw) : FnOk P w K mg base CX0 2 f fd ["pool"] spWord := by
  refine F.ok sc_law_word (fun vs H Q E h => ?_) (fun cdv A outer s H vs Q E hr h => ?_)
  · obtain ⟨p, n, rfl, _⟩ := h
    rfl
  · obtain ⟨p, n, rfl, hp, hn, k⟩ := h
    refine ⟨_, (pss_cons (ps_set (i := 1) sc_law_word.nd rfl (Or.inr rfl) pe_str)
  (pss_one (ps_ret (pe_join pe_str (pe_lc (own := [("k", 2)]) (g := gName 2) (tt := tYes) rfl sc_law_word.nd (pi_range1 rfl T.range (pa_cons (pe_op op_add pe_int (pe_df D_law_draw hr (by first | decide | omega) rfl (pa_cons (pv 0) (pa_cons pe_int pa_nil)))) pa_nil)) (blkOk_by (N := ["pool", "letters", "k"]) (sc := defScope s_law_word) (by decide +kernel)) (fun _ _ _ _ _ => pg_name (i := 2) sc_law_word.nd rfl (Or.inl rfl)) (fun _ _ _ _ _ => pts_nil) (fun _ _ _ _ _ => (pe_ix ix_str (pv 1) (pe_df D_law_draw hr (by first | decide | omega) rfl (pa_cons (pv 0) (pa_cons pe_int pa_nil))) (fun _ _ => rfl)))))))), ?_⟩
    refine ⟨⟨_, rfl⟩, _, rfl, p, 8, n, rfl, hp, by omega, by decide, by decide, fun d o d0 d8 hp1 => ⟨_, _, rfl, rfl, _, rfl, by omega, by omega, fun D hD => ?_⟩⟩
    obtain ⟨hpD, hDn⟩ := none_of hD
    refine lc_range (lo := 0) (n := (1 + d).toNat) (fun i H' => ∃ cs : List Nat, cs.length = i ∧ (∀ c ∈ cs, Lt c) ∧ H' D = some (.lst ((cs.map sgn).map V.str)) ∧ PoolAt H' p (n + 1 + i) ∧ Kp [p] H H')
      ⟨[], rfl, by simp, upd_same, (hp1.mv fun u e => by rw [upd_ne hpD]; exact e).up (by omega), (Kp.at_ (by simp)).trans (Kp.new hD)⟩ ?_ ?_
    · rintro i H' hi ⟨cs, hl, hc, hcD, hp2, kp⟩
      refine ⟨rfl, ?_⟩
      refine ⟨_, rfl, _, rfl, p, 26, n + 1 + i, rfl, hp2, by omega, by decide, by decide, fun e o2 e0 e1 hp3 => ?_⟩
      obtain ⟨c, hat, hL⟩ := abc_at e e0 e1
      refine ⟨_, e, c, rfl, rfl, by decide +kernel, hat, ?_⟩
      refine ⟨_, (by rw [upd_ne hpD.symm]; exact hcD), small1000 (by rw [List.length_map, List.length_map]; omega), cs ++ [c], by simp [hl], ?_, ?_, ?_, (kp.mutAt (by simp)).mut hDn⟩
      · intro x hx
        rcases List.mem_append.mp hx with hx | hx
        · exact hc x hx
        · rw [List.mem_singleton.mp hx]; exact hL
      · rw [upd_same, List.map_append, List.map_append]
        rfl
      · exact (hp3.mv fun u q => by rw [upd_ne hpD]; exact q).up (by omega)
    · rintro H' ⟨cs, hl, hc, hcD, hp2, kp⟩
      refine ⟨_, D, cs.map sgn, rfl, rfl, .inl (SqL.of hcD), ?_, ?_⟩
      · have e : (List.map (fun z : Str => z.length) (cs.map sgn)).sum = cs.length := by
          rw [List.map_map]
          clear hl hc hcD hp2 kp
          induction cs with
          | nil => rfl
          | cons c r ih => rw [List.map_cons, List.sum_cons, ih, List.length_cons]; show 1 + r.length = r.length + 1; omega
        rw [e, List.length_map, hl]
        show (1 + d).toNat + (1 + d).toNat * 0 ≤ 16777216
        omega
      · have et := tl_joined cs
        refine k _ H' ⟨?_, ?_, ?_⟩ (hp2.up (by omega)) kp
        · rw [et, hl]; omega
        · rw [et, hl]; omega
        · rw [et]; exact hc
end
end IC
namespace IC
open PySem L2 TL
section
variable {P : Program} {w : World} {K : PySem.W.Frag} {mg : Str → Option Value} {base : Heap}
theorem ok_is_word {f : Addr} {fd : FuncData} (F : Fun K "is_word" "is_word" s_is_word f fd) (T : Bn mg) : FnOk P w K mg base CX0 1 f fd ["thing"] (spIsWord K) := by
  refine F.ok sc_is_word (fun vs H Q E h => ?_) (fun cdv A outer s H vs Q E hr h => ?_)
  · obtain ⟨v, rfl, _⟩ := h
    rfl
  · obtain ⟨v, rfl, h⟩ := h
    refine ⟨_, (pss_cons (ps_if (PW.pt (pw_or (pt_not (pt_val (pe_callB call_isi (by rfl) T.isi PyProof.Rows.boot_isinstance (pa_cons (pv 0) (pa_cons (pe_bltn (v := .ty "str") (by rfl) T.str (by decide +kernel) rfl) pa_nil))))) (pw_or1 (pt_not (pt_chain op_le op_le pe_int (pe_callB call_len_str (by rfl) T.len PySem.boot_len (pa_cons (pv 0) pa_nil)) pe_int)))))
  (pss_one (ps_ret pe_bl))
  pss_nil)
  (pss_one (ps_ret (pe_callB (cr_all rfl) (by rfl) T.all (by decide +kernel) (pa_cons (pe_lc (own := [("letter", 1)]) (g := gName 1) (tt := tYes) rfl sc_is_word.nd (pi_str (pv 0)) (blkOk_by (N := ["thing", "letter"]) (sc := defScope s_is_word) (by decide +kernel)) (fun _ _ _ _ _ => pg_name (i := 1) sc_is_word.nd rfl (Or.inl rfl)) (fun _ _ _ _ _ => pts_nil) (fun _ _ _ _ _ => (pe_chain op_le_str op_le_str pe_str (pv 1) pe_str))) pa_nil))))), ?_⟩
    rcases h with ⟨z, rfl, hl, k⟩ | ⟨⟨T', ty, kb⟩, k⟩
    · refine ⟨_, rfl, .str z, .ty "str", .type "str", .type "str", true, rfl, .ty "str", .base (.str z), kit_ty (by decide +kernel), true, rfl, ?_⟩
      refine ⟨_, rfl, z, rfl, len_le hl, 1, z.length, rfl, rfl, _, rfl, ?_⟩
      refine ite2 (fun h1 => ?_) (fun h1 => ?_)
      · have h1 := of_decide_eq_true h1
        refine ⟨_, _, rfl, rfl, _, rfl, ?_⟩
        cases hd : decide ((z.length : Int) ≤ 8) with
        | true =>
          refine ⟨_, rfl, z, rfl, fun D hD => ?_⟩
          have hz : z.cps.size = (tl z).length := by simp [tl]
          refine lc_it (walk_str (z := z)) (fun i H' => H' D = some (.lst (((tl z).take i).map fun c => V.bl (lB c))) ∧ Same H H') ⟨upd_same, Same.new hD⟩ (fun _ _ _ _ => trivial) ?_ ?_
          · rintro i x _ H' hi ⟨hcD, sm⟩ ⟨rfl, c, hc, rfl⟩
            have hc' : (tl z)[i]? = some c := by simpa [tl] using hc
            have fin : ∃ acc, H' D = some (.lst acc) ∧ acc.length < sizeLine ∧ upd H' D (.lst (acc ++ [V.bl (lB c)])) D = some (.lst (((tl z).take (i + 1)).map fun c => V.bl (lB c))) ∧ Same H (upd H' D (.lst (acc ++ [V.bl (lB c)]))) := by
              refine ⟨_, hcD, small1000 (by rw [List.length_map, List.length_take]; omega), ?_, ?_⟩
              · rw [upd_same, List.take_add_one, hc', List.map_append]
                rfl
              · exact fun b o e => by rw [upd_ne (ne_of_none e hD)]; exact sm b o e
            refine ⟨rfl, ?_⟩
            refine ⟨_, rfl, _, _, rfl, rfl, _, rfl, ?_⟩
            rw [lt_a c]
            unfold lB at fin
            cases h97 : decide (97 ≤ c) with
            | true =>
              rw [h97] at fin
              refine ⟨_, _, rfl, rfl, ?_⟩
              rw [z_lt c, Bool.not_not]
              exact fin
            | false =>
              rw [h97] at fin
              exact fin
          · rintro H' ⟨hcD, sm⟩
            have e : wB z = (((tl z).map lB).all id) := by
              have h8 := of_decide_eq_true hd
              rw [len_tl] at h1 h8
              unfold wB
              rw [decide_eq_true (by omega), decide_eq_true (by omega), Bool.true_and, Bool.true_and, List.all_map]
              rfl
            refine ⟨D, (tl z).map lB, rfl, SqL.of ?_, ?_⟩
            · rw [hcD, hz, List.take_length, List.map_map]
              rfl
            · have q := k H' sm
              rw [e] at q
              exact q
        | false =>
          have e : wB z = false := by
            have q := of_decide_eq_false hd
            rw [len_tl] at q
            unfold wB
            rw [decide_eq_false (p := (tl z).length ≤ 8) (by omega), Bool.false_and, Bool.and_false]
          have q := k H (Same.refl H)
          rw [e] at q
          exact q
      · rw [Bool.not_eq_true] at h1
        have e : wB z = false := by
          have q := of_decide_eq_false h1
          rw [len_tl] at q
          unfold wB
          rw [decide_eq_false (by omega)]
          rfl
        have q := k H (Same.refl H)
        rw [e] at q
        exact ⟨_, rfl, q⟩
    · refine ⟨_, rfl, v, .ty "str", .type T', .type "str", false, rfl, .ty "str", ty, kit_ty kb, false, rfl, ?_⟩
      exact k H (Same.refl H)
end
end IC
namespace IC
open PySem L2 TL
section
variable {P : Program} {w : World} {K : PySem.W.Frag} {mg : Str → Option Value} {base : Heap} {C : Addr}
theorem dict_take {al : List (List Str)} {i : Nat} {k : List Str} (h : al[i]? = some k) : putK (dictR (al.take i)) (k.map Sum.inr) (.bl true) = dictR (al.take (i + 1)) := by
  unfold dictR
  rw [List.take_add_one, h, List.foldl_append]
  rfl
theorem dict_small (al : List (List Str)) : (dictR al).length ≤ al.length := by
  have all : ∀ (al : List (List Str)) (kvs : List (List Key × V)), (al.foldl (fun kvs k => putK kvs (k.map Sum.inr) (.bl true)) kvs).length ≤ kvs.length + al.length := by
    intro al
    induction al with
    | nil => intro kvs; exact Nat.le_refl _
    | cons a al ih =>
      intro kvs
      rw [List.foldl_cons]
      refine Nat.le_trans (ih _) ?_
      have z := length_putK kvs (a.map Sum.inr : List Key) (.bl true)
      rw [List.length_cons]
      omega
  have z := all al []
  simpa [dictR] using z
theorem ok_rinit {f : Addr} {fd : FuncData} (F : Fun K "__init__" "Rule.__init__" s_Rule___init__ f fd) (R : RTxt K mg C) : FnOk P w K mg base CX0 1 f fd ["self", "names", "allowed", "text"] (spRInit C) := by
  refine F.ok sc_Rule___init__ (fun vs H Q E h => ?_) (fun cdv A outer s H vs Q E hr h => ?_)
  · obtain ⟨x, dx, t, l, ns, al, rs, z, rfl, _⟩ := h
    rfl
  · obtain ⟨x, dx, t, l, ns, al, rs, z, rfl, hx, ht, hl, tu, few, k⟩ := h
    refine ⟨_, (pss_cons (ps_fld (pv 0) (pv 1) rfl)
  (pss_cons (ps_fld (pv 0) (pe_dct (own := [("some", 4)]) (g := gName 4) (tt := tYes) rfl sc_Rule___init__.nd (room_units hr) (pi_list (pv 2)) (blkOk_by (N := ["self", "names", "allowed", "text", "some"]) (sc := defScope s_Rule___init__) (by decide +kernel)) (fun _ _ _ _ _ => pg_name (i := 4) sc_Rule___init__.nd rfl (Or.inl rfl)) (fun _ _ _ _ _ => pts_nil) (fun _ _ _ _ _ => (pv 4)) (fun _ _ _ _ _ => pe_bl)) rfl)
  (pss_one (ps_fld (pv 0) (pv 3) rfl)))), ?_⟩
    have kx : ∀ {o : HO}, Kp [x] H (upd H x o) := Kp.at_ (List.mem_singleton.mpr rfl)
    have nx : ∀ {b : Addr} {o : HO}, H b = some o → (∀ C dx fs, o ≠ .ins C dx fs) → b ≠ x := fun e n eq => by
      rw [eq, hx] at e
      cases e
      exact n _ _ _ rfl
    refine ⟨_, rfl, _, rfl, x, C, dx, [], rfl, hx, R.c, R.n, (by show 0 < 1000; decide), ?_⟩
    have hl1 : upd H x (.ins C dx [("_names", .ref t)]) l = some (.lst (rs.map V.ref)) := by
      rw [upd_ne (nx hl fun _ _ _ z => by cases z)]
      exact hl
    refine ⟨_, rfl, l, rfl, ⟨_, SqL.of hl1⟩, fun D nD => ?_⟩
    have sD := Same.new (o := .dT []) nD
    refine dct_list (K := K) (a := l) (xs := rs.map V.ref) (fun i G => Same (upd H x (.ins C dx [("_names", .ref t)])) G ∧ G D = some (.dT (dictR (al.take i)))) ⟨Same.new nD, upd_same⟩ (fun i G _ h => SqL.of (h.1 _ _ hl1)) (fun i y G hi h => ?_) (fun G h => ?_)
    · rw [List.getElem?_map] at hi
      cases er : rs[i]? with
      | none =>
        rw [er] at hi
        cases hi
      | some r =>
        rw [er] at hi
        cases hi
        have li : i < al.length := by
          rw [← tu.1]
          exact (List.getElem?_eq_some_iff.mp er).1
        have ek : al[i]? = some al[i] := List.getElem?_eq_getElem li
        have hr1 := tu.2 i r _ er ek
        have ne : r ≠ x := nx hr1 fun _ _ _ z => by cases z
        have hG : G r = some (.tup ((al[i].map Sum.inr : List Key).map kV)) := by
          rw [kv_inr]
          exact h.1 _ _ (by rw [upd_ne ne]; exact hr1)
        refine ⟨by simp [wipe], ?_⟩
        refine ⟨_, rfl, dictR (al.take i), al[i].map Sum.inr, r, rfl, hG, h.2, ?_, ?_, ?_⟩
        · have z1 := dict_small (al.take i)
          have z2 : (al.take i).length ≤ al.length := by rw [List.length_take]; omega
          exact small1000 (by omega)
        · exact fun b o e => by
            have ne : b ≠ D := ne_of_none e nD
            rw [upd_ne ne]
            exact h.1 b o e
        · rw [upd_same, dict_take ek]
    · have er : rs.length = al.length := tu.1
      have hG := h.2
      rw [List.length_map, er, List.take_length] at hG
      have xD : x ≠ D := ne_of_none upd_same nD
      have gx : G x = some (.ins C dx [("_names", .ref t)]) := h.1 _ _ upd_same
      refine ⟨_, rfl, x, C, dx, _, rfl, gx, R.c, R.a, (by show 1 < 1000; decide), ?_⟩
      refine ⟨_, rfl, _, rfl, x, C, dx, _, rfl, upd_same, R.c, R.t, (by show 2 < 1000; decide), ?_⟩
      refine k _ (((kx.trans (Kp.same h.1)).mutAt (List.mem_singleton.mpr rfl)).mutAt (List.mem_singleton.mpr rfl)) ⟨dx, t, D, upd_same, ?_, ?_⟩
      · have ne : t ≠ x := nx ht fun _ _ _ z => by cases z
        rw [upd_ne ne, upd_ne ne]
        exact h.1 _ _ (by rw [upd_ne ne]; exact ht)
      · rw [upd_ne xD.symm, upd_ne xD.symm]
        exact hG
theorem ok_few {f : Addr} {fd : FuncData} (F : Fun K "check_few" "check_few" s_check_few f fd) (T : Bn mg) (R : RTxt K mg C) : FnOk P w K mg base CX0 1 f fd ["names"] spFew := by
  refine F.ok sc_check_few (fun vs H Q E h => ?_) (fun cdv A outer s H vs Q E hr h => ?_)
  · obtain ⟨t, ns, rfl, _⟩ := h
    rfl
  · obtain ⟨t, ns, rfl, ht, few, k⟩ := h
    refine ⟨_, (pss_one (ps_if (pt_cmpR op_gt (pe_callB call_len_seq (by rfl) T.len PySem.boot_len (pa_cons (pv 0) pa_nil)) (pe_gv2 R.gM rfl) (nomark _))
  pss_dead
  pss_nil)), ?_⟩
    refine ⟨_, rfl, t, _, rfl, .inr (SqT.of ht), _, _, rfl, rfl, _, rfl, ?_⟩
    have e : decide ((6 : Int) < ((ns.map V.str).length : Int)) = false := by
      rw [List.length_map]
      exact decide_eq_false (by omega)
    dsimp only
    rw [show decide (((ns.map V.str).length : Int) > 6) = false from e]
    exact iteF k
theorem ok_has {f : Addr} {fd : FuncData} (F : Fun K "has" "Rule.has" s_Rule_has f fd) (R : RTxt K mg C) (D_is_word : Df P w K mg base 1 "is_word" ["thing"] (spIsWord K)) (C_R : RDf P w K mg base 1 C) : FnOk P w K mg base CX0 3 f fd ["record"] (spHas C) := by
  refine F.ok sc_Rule_has (fun vs H Q E h => ?_) (fun cdv A outer s H vs Q E hr h => ?_)
  · obtain ⟨z, rfl, _⟩ := h
    rfl
  · obtain ⟨z, rfl, hz, k⟩ := h
    refine ⟨_, (pss_cons (ps_if (pt_not (pt_val (pe_df D_is_word hr (by first | decide | omega) rfl (pa_cons (pv 0) pa_nil))))
  pss_dead
  pss_nil)
  (pss_one (ps_ret (pe_mkR C_R hr (by first | decide | omega) rfl (pa_cons (pe_tup (pa_cons (pv 0) pa_nil)) (pa_cons (pe_lst (pa_cons (pe_tup (pa_cons (pv 0) pa_nil)) pa_nil)) (pa_cons (pv 0) pa_nil))))))), ?_⟩
    have one : ∀ {v : V}, [v].length ≤ sizeLine := by intro v; show 1 ≤ sizeLine; decide
    refine ⟨_, rfl, .str z, rfl, .inl ⟨z, rfl, by have := hz.2.1; omega, fun H1 s1 => ⟨_, rfl, ?_⟩⟩⟩
    rw [wB_of hz]
    refine iteF ?_
    refine ⟨_, rfl, one, fun t nt => ⟨_, rfl, one, fun t2 nt2 => ⟨one, fun l nl => ⟨_, rfl, ?_⟩⟩⟩⟩
    have sa : Same H1 (upd H1 t (.tup [.str z])) := Same.new nt
    have sb : Same (upd H1 t (.tup [.str z])) (upd (upd H1 t (.tup [.str z])) t2 (.tup [.str z])) := Same.new nt2
    have sc : Same (upd (upd H1 t (.tup [.str z])) t2 (.tup [.str z])) (upd (upd (upd H1 t (.tup [.str z])) t2 (.tup [.str z])) l (.lst [.ref t2])) := Same.new nl
    refine make_rule (ns := [z]) (al := [[z]]) (rs := [t2]) (z := z) (sc _ _ (sb _ _ upd_same)) upd_same ⟨rfl, fun i r k e1 e2 => ?_⟩ (by show 1 ≤ 100; decide) (k.same (((s1.trans sa).trans sb).trans sc))
    cases i with
    | zero =>
      cases e1
      cases e2
      exact sc _ _ upd_same
    | succ i => cases e1
theorem ok_always {f : Addr} {fd : FuncData} (F : Fun K "always" "Rule.always" s_Rule_always f fd) (C_R : RDf P w K mg base 1 C) : FnOk P w K mg base CX0 3 f fd [] (spAlways C) := by
  refine F.ok sc_Rule_always (fun vs H Q E h => ?_) (fun cdv A outer s H vs Q E hr h => ?_)
  · obtain ⟨rfl, _⟩ := h
    rfl
  · obtain ⟨rfl, k⟩ := h
    refine ⟨_, (pss_one (ps_ret (pe_mkR C_R hr (by first | decide | omega) rfl (pa_cons (pe_tup pa_nil) (pa_cons (pe_lst (pa_cons (pe_tup pa_nil) pa_nil)) (pa_cons pe_str pa_nil)))))), ?_⟩
    refine ⟨by show 0 ≤ sizeLine; decide, fun t nt => ⟨by show 0 ≤ sizeLine; decide, fun t2 nt2 => ⟨by show 1 ≤ sizeLine; decide, fun l nl => ?_⟩⟩⟩
    have sa : Same H (upd H t (.tup [])) := Same.new nt
    have sb : Same (upd H t (.tup [])) (upd (upd H t (.tup [])) t2 (.tup [])) := Same.new nt2
    have sc : Same (upd (upd H t (.tup [])) t2 (.tup [])) (upd (upd (upd H t (.tup [])) t2 (.tup [])) l (.lst [.ref t2])) := Same.new nl
    refine make_rule (ns := []) (al := [[]]) (rs := [t2]) (sc _ _ (sb _ _ upd_same)) upd_same ⟨rfl, fun i r k e1 e2 => ?_⟩ (by decide) (k.same ((sa.trans sb).trans sc))
    cases i with
    | zero =>
      cases e1
      cases e2
      exact sc _ _ upd_same
    | succ i => cases e1
theorem ok_recs {f : Addr} {fd : FuncData} (F : Fun K "records" "Rule.records" s_Rule_records f fd) (T : Bn mg) (R : RTxt K mg C) : FnOk P w K mg base CX0 1 f fd ["self"] (spRecs C) := by
  refine F.ok sc_Rule_records (fun vs H Q E h => ?_) (fun cdv A outer s H vs Q E hr h => ?_)
  · obtain ⟨r, ns, al, z, rfl, _⟩ := h
    rfl
  · obtain ⟨r, ns, al, z, rfl, ⟨dx, t, d, h1, h2, h3⟩, k⟩ := h
    refine ⟨_, (pss_one (ps_ret (pe_callTy call_list_of (by rfl) T.list (by decide +kernel) (pa_cons (pe_fld (pv 0) rfl) pa_nil)))), ?_⟩
    exact ⟨_, rfl, r, C, dx, _, _, rfl, h1, R.c, R.n, rfl, t, _, rfl, .inr (SqT.of h2), k⟩
theorem ok_allows {f : Addr} {fd : FuncData} (F : Fun K "_allows" "Rule._allows" s_Rule__allows f fd) (T : Bn mg) (R : RTxt K mg C) : FnOk P w K mg base CX0 1 f fd ["self", "kept"] (spAsk C) := by
  refine F.ok sc_Rule__allows (fun vs H Q E h => ?_) (fun cdv A outer s H vs Q E hr h => ?_)
  · obtain ⟨r, a, ns, ks, al, z, rfl, _⟩ := h
    rfl
  · obtain ⟨r, a, ns, ks, al, z, rfl, ⟨dx, t, d, h1, h2, h3⟩, hk, few, k⟩ := h
    have hu := hu_of hr
    refine ⟨_, (pss_one (ps_ret (pe_cmp (pc_din hu (pe_callTy call_tuple_of (by rfl) T.tuple (by decide +kernel) (pa_cons (pe_lc (own := [("name", 2)]) (g := gName 2) rfl sc_Rule__allows.nd (pi_tup (pe_fld (pv 0) rfl)) (blkOk_by (N := ["self", "kept", "name"]) (sc := defScope s_Rule__allows) (by decide +kernel)) (fun _ _ _ _ _ => pg_name (i := 2) sc_Rule__allows.nd rfl (Or.inl rfl)) (fun _ _ _ _ _ => pts_one (pt_cmpR (show OpR _ _ (rIn K false) from op_in_seq) (pv 2) (pv 1) (by rfl))) (fun _ _ _ _ _ => (pv 2))) pa_nil)) (pe_fld (pv 0) rfl)) rfl))), ?_⟩
    refine ⟨_, rfl, r, C, dx, _, _, rfl, h1, R.c, R.n, rfl, t, rfl, ⟨_, SqT.of h2⟩, fun D nD => ?_⟩
    refine lc_tup (K := K) (a := t) (xs := ns.map V.str) (fun i G => Same H G ∧ G D = some (.lst (((ns.take i).filter (fun n => decide (n ∈ ks))).map V.str))) ⟨Same.new nD, upd_same⟩ (fun i G _ h => SqT.of (h.1 _ _ h2)) (fun i y G hi h => ?_) (fun G h => ?_)
    · rw [List.getElem?_map] at hi
      cases en : ns[i]? with
      | none =>
        rw [en] at hi
        cases hi
      | some n =>
        rw [en] at hi
        cases hi
        have li : i < ns.length := (List.getElem?_eq_some_iff.mp en).1
        have et : (ns.take (i + 1)).filter (fun n => decide (n ∈ ks)) = (ns.take i).filter (fun n => decide (n ∈ ks)) ++ [n].filter (fun n => decide (n ∈ ks)) := by
          rw [List.take_add_one, en, List.filter_append]
          rfl
        refine ⟨by simp [wipe], ?_⟩
        have hk2 := hk.same h.1
        have small : (((ns.take i).filter (fun n => decide (n ∈ ks))).map V.str).length < sizeLine := by
          rw [List.length_map]
          have z1 := List.length_filter_le (fun n => decide (n ∈ ks)) (ns.take i)
          have z2 : (ns.take i).length ≤ ns.length := by rw [List.length_take]; omega
          exact small1000 (by omega)
        refine ⟨_, rfl, _, rfl, a, ks.map V.str, rfl, hk2.imp SqL.of SqT.of, rfl, flat_ks ks, _, rfl, ?_⟩
        rw [if_neg (by decide), inV_strs]
        cases ec : decide (n ∈ ks) with
        | false =>
          refine iteF ⟨h.1, ?_⟩
          rw [et]
          simp [ec, h.2]
        | true =>
          refine iteT ⟨_, rfl, _, h.2, small, fun b o e => ?_, ?_⟩
          · rw [upd_ne (ne_of_none e nD)]
            exact h.1 b o e
          · rw [upd_same, et]
            simp [ec]
    · rw [List.length_map, List.take_length] at h
      refine ⟨D, _, rfl, .inl ⟨SqL.of h.2, fun p np => ?_⟩⟩
      have s2 : Same G (upd G p (.tup ((ns.filter (fun n => decide (n ∈ ks))).map V.str))) := Same.new np
      refine ⟨_, rfl, r, C, dx, _, _, rfl, (h.1.trans s2) _ _ h1, R.c, R.a, rfl, d, _, rfl, DGet.t (k := (ns.filter (fun n => decide (n ∈ ks))).map Sum.inr) ((h.1.trans s2) _ _ h3) (by rw [kv_inr]; exact upd_same), ?_⟩
      have e : (valV (dictR al) ((ns.filter (fun n => decide (n ∈ ks))).map Sum.inr)).isSome = may ns al ks := by
        rw [dictR_get]
        unfold may
        by_cases hm : ns.filter (fun n => decide (n ∈ ks)) ∈ al
        · rw [if_pos hm, decide_eq_true hm]
          rfl
        · rw [if_neg hm, decide_eq_false hm]
          rfl
      rw [e]
      exact k _ (h.1.trans s2)
theorem ok_call {f : Addr} {fd : FuncData} (F : Fun K "__call__" "Rule.__call__" s_Rule___call__ f fd) (R : RTxt K mg C) (M_allows : MDf P w K mg base CX0 1 C "_allows" ["self", "kept"] [] (spAsk C)) : FnOk P w K mg base CX0 2 f fd ["self", "kept"] (spAsk C) := by
  refine F.ok sc_Rule___call__ (fun vs H Q E h => ?_) (fun cdv A outer s H vs Q E hr h => ?_)
  · obtain ⟨r, a, ns, ks, al, z, rfl, _⟩ := h
    rfl
  · obtain ⟨r, a, ns, ks, al, z, rfl, ra, hk, few, k⟩ := h
    refine ⟨_, (pss_one (ps_ret (pe_md M_allows R.c hr (by first | decide | omega) (pv 0) (pa_cons (pv 1) pa_nil)))), ?_⟩
    obtain ⟨dx, t, d, h1, h2, h3⟩ := ra
    refine ⟨_, rfl, r, dx, _, rfl, h1, rfl, _, rfl, ?_⟩
    exact ⟨r, a, ns, ks, al, z, rfl, ⟨dx, t, d, h1, h2, h3⟩, hk, few, k⟩
end
end IC
namespace IC
open PySem L2 TL
section
variable {P : Program} {w : World} {K : PySem.W.Frag} {mg : Str → Option Value} {base : Heap} {C : Addr}
theorem sum_le8 : ∀ l : List Str, (∀ z ∈ l, z.length ≤ 8) → (l.map (·.length)).sum ≤ 8 * l.length
  | [], _ => Nat.le_refl _
  | x :: r, h => by
    have z1 := h x (List.mem_cons_self ..)
    have z2 := sum_le8 r fun z hz => h z (List.mem_cons_of_mem _ hz)
    rw [List.map_cons, List.sum_cons, List.length_cons]
    omega
theorem len_app (x y : Str) : (x ++ y).length = x.length + y.length := by
  rw [len_tl, len_tl, len_tl, tl_append, List.length_append]
theorem join_len0 (y : Str) : ∀ l : List Str, (Str.join y l).length ≤ (l.map (·.length)).sum + l.length * y.length
  | [] => Nat.zero_le _
  | [x] => by
    show x.length ≤ _
    simp
  | x :: z :: r => by
    have ih := join_len0 y (z :: r)
    show (x ++ y ++ Str.join y (z :: r)).length ≤ _
    rw [len_app, len_app]
    rw [List.map_cons, List.sum_cons, List.length_cons, Nat.succ_mul]
    omega
theorem join_len (y : Str) (l : List Str) : (Txt.join y l).length ≤ (l.map (·.length)).sum + l.length * y.length := by
  rw [join_eq]
  exact join_len0 y l
theorem ok_together {f : Addr} {fd : FuncData} (F : Fun K "together" "Rule.together" s_Rule_together f fd) (T : Bn mg) (D_is_word : Df P w K mg base 1 "is_word" ["thing"] (spIsWord K)) (D_check_few : Df P w K mg base 1 "check_few" ["names"] spFew) (C_R : RDf P w K mg base 1 C) : FnR P w K mg base CX0 4 f (fun vs H Q E => vs.length ≤ sizeLine ∧ ∀ p, H p = none → spTog C [.ref p] (upd H p (.tup vs)) Q E) := by
  refine Fun.star (n := 3) (sp := spTog C) (v := "records") F sc_Rule_together (fun oc kV doc pm an cdv ct rest => by cases rest <;> rfl) (fun cdv A outer s H vs Q E hr h => ?_)
  obtain ⟨t, zs, rfl, ht, hw, few, k⟩ := h
  refine ⟨_, PSs.nox (pss_cons (ps_for PassesOwn.never rfl (pi_tup (pv 0)) (pg_name (i := 1) sc_Rule_together.nd rfl (Or.inl rfl))
  (pss_one (ps_if (pt_not (pt_val (pe_df D_is_word hr (by first | decide | omega) rfl (pa_cons (pv 1) pa_nil))))
  pss_dead
  pss_nil)))
  (pss_cons (ps_set (i := 2) sc_Rule_together.nd rfl (Or.inl rfl) (pe_callTy call_tuple_of (by rfl) T.tuple (by decide +kernel) (pa_cons (pe_callB (cr_sortTx rfl) (by rfl) T.sorted (by decide +kernel) (pa_cons (pe_callTy (cr_setTx rfl) (by rfl) T.set (by decide +kernel) (pa_cons (pv 0) pa_nil)) pa_nil)) pa_nil)))
  (pss_cons (ps_expr (pe_df D_check_few hr (by first | decide | omega) rfl (pa_cons (pv 2) pa_nil)))
  (pss_cons (ps_set (i := 3) sc_Rule_together.nd rfl (Or.inl rfl) (pe_join pe_str (pv 2)))
  (pss_one (ps_ret (pe_mkR C_R hr (by first | decide | omega) rfl (pa_cons (pv 2) (pa_cons (pe_lst (pa_cons (pe_tup pa_nil) (pa_cons (pv 2) pa_nil))) (pa_cons (pe_joined (PJ.cons pe_str (PJ.cons (pe_fmt (pv 3)) (PJ.cons pe_str PJ.nil)))) pa_nil)))))))))), ?_⟩
  refine ⟨_, rfl, t, rfl, ⟨_, SqT.of ht⟩, for_tup (K := K) (a := t) (xs := zs.map V.str) (fun i σ H' => ∃ o : Option V, σ = [some (.ref t), o, none, none] ∧ Same H H') ⟨_, rfl, Same.refl H⟩ (fun i σ H' _ e => ?_) (fun i x σ H' hi e => ?_) (fun σ H' e => ?_)⟩
  · obtain ⟨o, rfl, s1⟩ := e
    exact SqT.of (s1 _ _ ht)
  · obtain ⟨o, rfl, s1⟩ := e
    rw [List.getElem?_map] at hi
    cases ez : zs[i]? with
    | none =>
      rw [ez] at hi
      cases hi
    | some z =>
      rw [ez] at hi
      cases hi
      have hz := hw z (List.mem_of_getElem? ez)
      refine ⟨_, rfl, .str z, rfl, .inl ⟨z, rfl, by have := hz.2.1; omega, fun H1 s2 => ⟨_, rfl, ?_⟩⟩⟩
      rw [wB_of hz]
      exact iteF ⟨_, rfl, s1.trans s2⟩
  · obtain ⟨o, rfl, s1⟩ := e
    refine ⟨_, rfl, t, zs, rfl, .inr (SqT.of (s1 _ _ ht)), by omega, fun p M np ml mem nd => ⟨p, M, rfl, upd_same, fun ys q perm so nq => ⟨q, _, rfl, .inl ⟨SqL.of upd_same, fun l nl => ?_⟩⟩⟩⟩
    have sp : Same H' (upd H' p (TxO w p M)) := Same.new np
    have sq : Same (upd H' p (TxO w p M)) (upd (upd H' p (TxO w p M)) q (.lst (ys.map V.str))) := Same.new nq
    have sl : Same (upd (upd H' p (TxO w p M)) q (.lst (ys.map V.str))) (upd (upd (upd H' p (TxO w p M)) q (.lst (ys.map V.str))) l (.tup (ys.map V.str))) := Same.new nl
    have s2 := ((s1.trans sp).trans sq).trans sl
    have at_ : upd (upd (upd H' p (TxO w p M)) q (.lst (ys.map V.str))) l (.tup (ys.map V.str)) l = some (.tup (ys.map V.str)) := upd_same
    have ylen : ys.length ≤ 6 := by
      have z := perm.length_eq
      omega
    have y8 : ∀ z ∈ ys, z.length ≤ 8 := fun z hz => by
      have q := hw z ((mem z).mp (perm.mem_iff.mp hz))
      rw [len_tl]
      exact q.2.1
    have ysum := sum_le8 ys y8
    have jl := join_len " " ys
    have e1 : (" " : Str).length = 1 := by decide +kernel
    rw [e1] at jl
    refine ⟨_, rfl, l, ys, rfl, at_, ylen, ?_⟩
    refine ⟨⟨_, rfl⟩, _, rfl, _, l, ys, rfl, rfl, .inr (SqT.of at_), by rw [e1]; omega, ?_⟩
    refine ⟨_, rfl, by show 0 ≤ sizeLine; decide, fun t2 n2 => ⟨_, rfl, by show 2 ≤ sizeLine; decide, fun lb nlb => ?_⟩⟩
    refine ⟨_, rfl, by decide +kernel, _, rfl, .inl ⟨_, rfl, Nat.le_of_lt (small1000 (by omega)), _, rfl, ?_, _, rfl, ?_, ?_⟩⟩
    · have e2 : (Str.empty ++ Str.ofString "together(").length = 9 := by decide +kernel
      rw [len_app, e2]
      exact Nat.le_of_lt (small1000 (by omega))
    · have e2 : (Str.empty ++ Str.ofString "together(").length = 9 := by decide +kernel
      have e3 : (Str.ofString ")").length = 1 := by decide +kernel
      rw [len_app, len_app, e2, e3]
      exact Nat.le_of_lt (small1000 (by omega))
    · have sa := Same.new (o := HO.tup []) n2
      have sb := Same.new (o := HO.lst [.ref t2, .ref l]) nlb
      refine make_rule (ns := ys) (al := [[], ys]) (rs := [t2, l]) ((sa.trans sb) _ _ at_) upd_same ⟨rfl, fun i r k e1 e2 => ?_⟩ (by show 2 ≤ 100; decide) ((k M ys nd ml mem perm so).same ((s2.trans sa).trans sb))
      match i with
      | 0 =>
        cases e1
        cases e2
        exact sb _ _ upd_same
      | 1 =>
        cases e1
        cases e2
        exact (sa.trans sb) _ _ at_
      | i + 2 => cases e1
end
end IC
namespace IC
open PySem L2 TL
/-- the sublists of ns, in the order of the program -/
def subs (ns : List Str) : List (List Str) := ns.foldl (fun acc n => acc ++ acc.map (· ++ [n])) [[]]
theorem subs_take {ns : List Str} {i : Nat} {n : Str} (h : ns[i]? = some n) : subs (ns.take (i + 1)) = subs (ns.take i) ++ (subs (ns.take i)).map (· ++ [n]) := by
  unfold subs
  rw [List.take_add_one, h, List.foldl_append]
  rfl
theorem subs_len (ns : List Str) : (subs ns).length = 2 ^ ns.length := by
  have all : ∀ (ns : List Str) (acc : List (List Str)), (ns.foldl (fun acc n => acc ++ acc.map (· ++ [n])) acc).length = acc.length * 2 ^ ns.length := by
    intro ns
    induction ns with
    | nil => intro acc; simp
    | cons n ns ih =>
      intro acc
      rw [List.foldl_cons, ih, List.length_append, List.length_map, List.length_cons, Nat.pow_succ]
      rw [← Nat.two_mul, Nat.mul_comm 2, Nat.mul_assoc, Nat.mul_comm 2]
  have z := all ns [[]]
  simpa [subs] using z
theorem subs_few {ns : List Str} (h : ns.length ≤ 6) : (subs ns).length ≤ 64 := by
  rw [subs_len]
  exact Nat.pow_le_pow_right (by decide) h
theorem subs_few8 {ns : List Str} (h : ns.length ≤ 8) : (subs ns).length ≤ 256 := by
  rw [subs_len]
  exact Nat.pow_le_pow_right (by decide) h
theorem subs_snoc (ns : List Str) (n : Str) : subs (ns ++ [n]) = subs ns ++ (subs ns).map (· ++ [n]) := by
  unfold subs
  rw [List.foldl_append]
  rfl
theorem subs_all : ∀ (m : Nat) (ns : List Str), ns.length = m → ∀ k, k ∈ subs ns ↔ k.Sublist ns
  | 0, [], _, k => by
    show k ∈ [[]] ↔ _
    rw [List.mem_singleton, List.sublist_nil]
  | m + 1, ns, h, k => by
    rcases List.eq_nil_or_concat ns with rfl | ⟨ms, n, rfl⟩
    · cases h
    · rw [List.concat_eq_append] at *
      rw [List.length_append, List.length_singleton] at h
      have ih := subs_all m ms (by omega)
      rw [subs_snoc, List.mem_append, List.mem_map, List.sublist_append_iff, ih k]
      constructor
      · rintro (q | ⟨k2, q, rfl⟩)
        · exact ⟨k, [], (List.append_nil k).symm, q, List.nil_sublist _⟩
        · exact ⟨k2, [n], rfl, (ih k2).mp q, List.Sublist.refl _⟩
      · rintro ⟨k1, k2, rfl, q1, q2⟩
        cases q2 with
        | cons _ q =>
          rw [List.sublist_nil.mp q, List.append_nil]
          exact .inl q1
        | cons_cons _ q =>
          rw [List.sublist_nil.mp q]
          exact .inr ⟨k1, (subs_all m ms (by omega) k1).mpr q1, rfl⟩
theorem subs_iff {ns k : List Str} : k ∈ subs ns ↔ k.Sublist ns := subs_all _ ns rfl k
theorem Tups.same {H H' : Hp} {rs : List Addr} {al : List (List Str)} (h : Tups H rs al) (s : Same H H') : Tups H' rs al := ⟨h.1, fun i r k e1 e2 => s _ _ (h.2 i r k e1 e2)⟩
theorem Tups.snoc {H : Hp} {rs : List Addr} {al : List (List Str)} {r : Addr} {k : List Str} (h : Tups H rs al) (hr : H r = some (.tup (k.map V.str))) : Tups H (rs ++ [r]) (al ++ [k]) := by
  refine ⟨by rw [List.length_append, List.length_append, h.1]; rfl, fun i r2 k2 e1 e2 => ?_⟩
  rcases Nat.lt_trichotomy i rs.length with lt | eq | gt
  · rw [List.getElem?_append_left lt] at e1
    rw [List.getElem?_append_left (by rw [← h.1]; exact lt)] at e2
    exact h.2 i r2 k2 e1 e2
  · subst eq
    rw [List.getElem?_append_right (Nat.le_refl _), Nat.sub_self] at e1
    rw [List.getElem?_append_right (by rw [← h.1]; exact Nat.le_refl _), ← h.1, Nat.sub_self] at e2
    cases e1
    cases e2
    exact hr
  · rw [List.getElem?_eq_none (by rw [List.length_append]; exact gt)] at e1
    cases e1
theorem Tups.append {H : Hp} {rs ss : List Addr} {al bl : List (List Str)} (h : Tups H rs al) (g : Tups H ss bl) : Tups H (rs ++ ss) (al ++ bl) := by
  refine ⟨by rw [List.length_append, List.length_append, h.1, g.1], fun i r k e1 e2 => ?_⟩
  rcases Nat.lt_or_ge i rs.length with lt | ge
  · rw [List.getElem?_append_left lt] at e1
    rw [List.getElem?_append_left (by rw [← h.1]; exact lt)] at e2
    exact h.2 i r k e1 e2
  · rw [List.getElem?_append_right ge] at e1
    rw [List.getElem?_append_right (by rw [← h.1]; exact ge), ← h.1] at e2
    exact g.2 _ r k e1 e2
theorem Tups.atL {H : Hp} {rs : List Addr} {al : List (List Str)} {D : Addr} {xs ys : List V} (h : Tups H rs al) (hD : H D = some (.lst xs)) : Tups (upd H D (.lst ys)) rs al := ⟨h.1, fun i r k e1 e2 => by
  have q := h.2 i r k e1 e2
  have ne : r ≠ D := fun e => by
    rw [e, hD] at q
    cases q
  rw [upd_ne ne]
  exact q⟩
def spSubs : Sp := fun vs H Q _ => ∃ (t : Addr) (ns : List Str), vs = [.ref t] ∧ H t = some (.tup (ns.map V.str)) ∧ ns.length ≤ 8 ∧
  ∀ (H' : Hp) (l : Addr) (rs : List Addr), Same H H' → H' l = some (.lst (rs.map V.ref)) → Tups H' rs (subs ns) → Q (.ref l) H'
section
variable {P : Program} {w : World} {K : PySem.W.Frag} {mg : Str → Option Value} {base : Heap} {C : Addr}
theorem ok_subsets {f : Addr} {fd : FuncData} (F : Fun K "subsets" "subsets" s_subsets f fd) : FnOk P w K mg base CX0 1 f fd ["names"] spSubs := by
  refine F.ok sc_subsets (fun vs H Q E h => ?_) (fun cdv A outer s H vs Q E hr h => ?_)
  · obtain ⟨t, ns, rfl, _⟩ := h
    rfl
  · obtain ⟨t, ns, rfl, ht, few, k⟩ := h
    refine ⟨_, (pss_cons (ps_set (i := 1) sc_subsets.nd rfl (Or.inl rfl) (pe_lst (pa_cons (pe_tup pa_nil) pa_nil)))
  (pss_cons (ps_for PassesOwn.never rfl (pi_tup (pv 0)) (pg_name (i := 2) sc_subsets.nd rfl (Or.inr rfl))
  (pss_one (ps_set (i := 1) sc_subsets.nd rfl (Or.inl rfl) (pe_op op_cat (pv 1) (pe_lc (own := [("some", 3)]) (g := gName 3) (tt := tYes) rfl sc_subsets.nd (pi_list (pv 1)) (blkOk_by (N := ["names", "found", "name", "some"]) (sc := defScope s_subsets) (by decide +kernel)) (fun _ _ _ _ _ => pg_name (i := 3) sc_subsets.nd rfl (Or.inl rfl)) (fun _ _ _ _ _ => pts_nil) (fun _ _ _ _ _ => (pe_op (show OpR _ _ (rCatA K) from op_catA) (pv 3) (pe_tup (pa_cons (pv 2) pa_nil)))))))))
  (pss_one (ps_ret (pv 1))))), ?_⟩
    refine ⟨by show 0 ≤ sizeLine; decide, fun u nu => ⟨by show 1 ≤ sizeLine; decide, fun l nl => ?_⟩⟩
    have su := Same.new (o := HO.tup []) nu
    have sl := Same.new (o := HO.lst [.ref u]) nl
    have t0 : Tups (upd (upd H u (.tup [])) l (.lst [.ref u])) [u] (subs []) := ⟨rfl, fun i r k e1 e2 => by
      cases i with
      | zero =>
        cases e1
        cases e2
        exact sl _ _ upd_same
      | succ i => cases e1⟩
    refine ⟨_, rfl, t, rfl, ⟨_, SqT.of ((su.trans sl) _ _ ht)⟩, for_tup (K := K) (a := t) (xs := ns.map V.str) (fun i σ H' => ∃ (l : Addr) (rs : List Addr) (o : Option V), σ = [some (.ref t), some (.ref l), o, none] ∧ Same H H' ∧ H' l = some (.lst (rs.map V.ref)) ∧ Tups H' rs (subs (ns.take i))) ⟨l, [u], _, rfl, su.trans sl, upd_same, t0⟩ (fun i σ H' _ e => ?_) (fun i x σ H' hi e => ?_) (fun σ H' e => ?_)⟩
    · obtain ⟨l, rs, o, rfl, s1, _⟩ := e
      exact SqT.of (s1 _ _ ht)
    · obtain ⟨l, rs, o, rfl, s1, hl, tu⟩ := e
      rw [List.getElem?_map] at hi
      cases en : ns[i]? with
      | none =>
        rw [en] at hi
        cases hi
      | some n =>
        rw [en] at hi
        cases hi
        have li : i < ns.length := (List.getElem?_eq_some_iff.mp en).1
        have m64 : (subs (ns.take i)).length ≤ 256 := subs_few8 (by rw [List.length_take]; omega)
        have rl := tu.1
        refine ⟨_, rfl, _, rfl, l, rfl, ⟨_, SqL.of hl⟩, fun D nD => ?_⟩
        refine lc_list (K := K) (a := l) (xs := rs.map V.ref) (fun j G => Same H' G ∧ ∃ ss : List Addr, G D = some (.lst (ss.map V.ref)) ∧ Tups G ss (((subs (ns.take i)).take j).map (· ++ [n]))) ⟨Same.new nD, [], upd_same, rfl, fun i r k e1 e2 => by cases e1⟩ (fun j G _ h => SqL.of (h.1 _ _ hl)) (fun j y G hj h => ?_) (fun G h => ?_)
        · obtain ⟨s2, ss, hD, ts⟩ := h
          rw [List.getElem?_map] at hj
          cases er : rs[j]? with
          | none =>
            rw [er] at hj
            cases hj
          | some r =>
            rw [er] at hj
            cases hj
            have lj : j < (subs (ns.take i)).length := by
              rw [← rl]
              exact (List.getElem?_eq_some_iff.mp er).1
            have ek : (subs (ns.take i))[j]? = some (subs (ns.take i))[j] := List.getElem?_eq_getElem lj
            generalize (subs (ns.take i))[j] = key at ek
            have hr1 := s2 _ _ (tu.2 j r key er ek)
            have et : ((subs (ns.take i)).take (j + 1)).map (· ++ [n]) = ((subs (ns.take i)).take j).map (· ++ [n]) ++ [key ++ [n]] := by
              rw [List.take_add_one, ek, List.map_append]
              rfl
            have put : ∀ {G2 : Hp} {p : Addr}, Same G G2 → G2 p = some (.tup ((key ++ [n]).map V.str)) → ∃ acc, G2 D = some (.lst acc) ∧ acc.length < sizeLine ∧ Same H' (upd G2 D (.lst (acc ++ [.ref p]))) ∧ ∃ ss : List Addr, upd G2 D (.lst (acc ++ [.ref p])) D = some (.lst (ss.map V.ref)) ∧ Tups (upd G2 D (.lst (acc ++ [.ref p]))) ss (((subs (ns.take i)).take (j + 1)).map (· ++ [n])) := fun {G2 p} s3 hp => by
              have hD2 := s3 _ _ hD
              refine ⟨_, hD2, small1000 ?_, fun b o e => ?_, ss ++ [p], ?_, ?_⟩
              · rw [List.length_map, ts.1, List.length_map, List.length_take]
                omega
              · rw [upd_ne (ne_of_none e nD)]
                exact (s2.trans s3) _ _ e
              · rw [upd_same, List.map_append]
                rfl
              · rw [et]
                exact ((ts.same s3).snoc hp).atL hD2
            refine ⟨by simp [wipe], ?_⟩
            refine ⟨_, rfl, _, rfl, by show 1 ≤ sizeLine; decide, fun b nb => ?_⟩
            have sb := Same.new (o := HO.tup [.str n]) nb
            have kl : key.length ≤ 8 := by
              have q := (subs_iff.mp (List.mem_of_getElem? ek)).length_le
              rw [List.length_take] at q
              omega
            refine ⟨r, b, key.map V.str, [.str n], rfl, rfl, SqT.of (sb _ _ hr1), SqT.of upd_same, Nat.le_of_lt (small1000 (by rw [List.length_map]; show key.length + 1 ≤ 1000; omega)), fun e => ?_, (fun _ e => by cases e), fun _ _ p np => ?_⟩
            · have e0 : key = [] := List.map_eq_nil_iff.mp e
              subst e0
              exact put sb upd_same
            · refine put (sb.trans (Same.new np)) ?_
              rw [upd_same, List.map_append]
              rfl
        · obtain ⟨s2, ss, hD, ts⟩ := h
          rw [List.length_map, rl, List.take_length] at ts
          refine ⟨l, D, _, _, rfl, rfl, s2 _ _ hl, hD, Nat.le_of_lt (small1000 ?_), fun p np => ?_⟩
          · rw [List.length_map, List.length_map, rl, ts.1, List.length_map]
            omega
          · have sp := Same.new (o := HO.lst (rs.map V.ref ++ ss.map V.ref)) np
            refine ⟨p, rs ++ ss, _, rfl, (s1.trans s2).trans sp, ?_, ?_⟩
            · rw [upd_same, List.map_append]
            · rw [subs_take en]
              exact ((tu.same s2).append ts).same sp
    · obtain ⟨l, rs, o, rfl, s1, hl, tu⟩ := e
      rw [List.length_map, List.take_length] at tu
      exact ⟨_, rfl, k H' l rs s1 hl tu⟩
end
end IC
namespace IC
open PySem L2 TL
theorem wipe_len {σ : L2.St} {gi : Nat} : List.length (wipe σ [gi]) = σ.length := by
  show (σ.set gi none).length = σ.length
  rw [List.length_set]
/-- a comprehension that keeps the tuples of texts for which c holds -/
theorem lc_keep {K : PySem.W.Frag} {tt : TT} {gi : Nat} {σ : L2.St} {H1 : Hp} {D l : Addr} {rs : List Addr} {al : List (List Str)} {Qd : Hp → Prop} (c : List Str → Bool) (hg : gi < σ.length) (hl : H1 l = some (.lst (rs.map V.ref))) (tu : Tups H1 rs al) (few : al.length ≤ 100) (nD : H1 D = none)
    (test : ∀ (r : Addr) (key : List Str) (G : Hp) (Q : Bool → Hp → Prop), key ∈ al → Same H1 G → G r = some (.tup (key.map V.str)) → (∀ G', Same G G' → Q (c key) G') → tt ((σ.set gi none).set gi (some (.ref r))) G Q)
    (fin : ∀ (G : Hp) (ss : List Addr), Same H1 G → G D = some (.lst (ss.map V.ref)) → Tups G ss (al.filter c) → Qd G) :
    ∃ W : Nat → Nat → Hp → Prop, (∃ m, W 0 m (upd H1 D (.lst []))) ∧ ∀ i m H, W i m H →
      ((Itl K l).stop i H ∧ Qd H) ∨ ((Itl K l).go i H ∧ ∃ Nx : Hp → Prop, (∀ H', Nx H' → ∃ m', m' < m ∧ W (i + 1) m' H') ∧ ∀ x H', (Itl K l).yld i H x H' → gName gi x (wipe σ [gi]) H' fun σ2 H2 => wipe σ2 [gi] = wipe σ [gi] ∧ tt σ2 H2 fun b H3 =>
        if b = true then tVar gi σ2 H3 fun y H4 => ∃ acc, H4 D = some (.lst acc) ∧ acc.length < sizeLine ∧ Nx (upd H4 D (.lst (acc ++ [y]))) else Nx H3) := by
  have rl := tu.1
  refine lc_list (K := K) (a := l) (xs := rs.map V.ref) (fun j G => Same H1 G ∧ ∃ ss : List Addr, G D = some (.lst (ss.map V.ref)) ∧ Tups G ss ((al.take j).filter c)) ⟨Same.new nD, [], upd_same, rfl, fun i r k e1 e2 => by cases e1⟩ (fun j G _ h => SqL.of (h.1 _ _ hl)) (fun j y G hj h => ?_) (fun G h => ?_)
  · obtain ⟨s2, ss, hD, ts⟩ := h
    rw [List.getElem?_map] at hj
    cases er : rs[j]? with
    | none =>
      rw [er] at hj
      cases hj
    | some r =>
      rw [er] at hj
      cases hj
      have lj : j < al.length := by
        rw [← rl]
        exact (List.getElem?_eq_some_iff.mp er).1
      have ek : al[j]? = some al[j] := List.getElem?_eq_getElem lj
      generalize al[j] = key at ek
      have hr1 := s2 _ _ (tu.2 j r key er ek)
      have et : (al.take (j + 1)).filter c = (al.take j).filter c ++ [key].filter c := by
        rw [List.take_add_one, ek, List.filter_append]
        rfl
      refine ⟨by simp [wipe], ?_⟩
      refine test r key G _ (List.mem_of_getElem? ek) s2 hr1 fun G2 s3 => ?_
      cases ec : c key with
      | false =>
        refine iteF ⟨s2.trans s3, ss, s3 _ _ hD, ?_⟩
        rw [et]
        simp only [List.filter_cons, ec, List.filter_nil]
        have q := ts.same s3
        simpa using q
      | true =>
        have hD2 := s3 _ _ hD
        refine iteT ⟨.ref r, ?_, _, hD2, small1000 ?_, fun b o e => ?_, ss ++ [r], ?_, ?_⟩
        · exact List.getElem?_set_self (by rw [wipe_len]; exact hg)
        · have q1 := List.length_filter_le c (al.take j)
          have q2 : (al.take j).length ≤ al.length := by rw [List.length_take]; omega
          rw [List.length_map, ts.1]
          omega
        · rw [upd_ne (ne_of_none e nD)]
          exact (s2.trans s3) _ _ e
        · rw [upd_same, List.map_append]
          rfl
        · rw [et]
          simp only [List.filter_cons, ec, List.filter_nil, if_true]
          exact ((ts.same s3).snoc (s3 _ _ hr1)).atL hD2
  · obtain ⟨s2, ss, hD, ts⟩ := h
    rw [List.length_map, rl, List.take_length] at ts
    exact fin G ss s2 hD ts
def spUnited : Sp := fun vs H Q _ => ∃ (a b : Addr) (ns ms : List Str), vs = [.ref a, .ref b] ∧ H a = some (.tup (ns.map V.str)) ∧ H b = some (.tup (ms.map V.str)) ∧ ns.length ≤ 100 ∧ ms.length ≤ 100 ∧
  ∀ (M ys : List Str), M.Nodup → (∀ z, z ∈ M ↔ z ∈ ns ∨ z ∈ ms) → ys.Perm M → PyProof.Rows.sortedS ys = true → ∀ (H' : Hp) (p : Addr), Same H H' → H' p = some (.tup (ys.map V.str)) → Q (.ref p) H'
/-- self._names_with(other) -/
def spWith (C : Addr) : Sp := fun vs H Q _ => ∃ (r s : Addr) (ns ms : List Str) (al bl : List (List Str)) (z y : Str), vs = [.ref r, .ref s] ∧ RuleAt C H r ns al z ∧ RuleAt C H s ms bl y ∧ ns.length ≤ 100 ∧ ms.length ≤ 100 ∧ (∀ M : List Str, M.Nodup → (∀ z ∈ M, z ∈ ns ∨ z ∈ ms) → M.length ≤ 6) ∧
  ∀ (M ys : List Str), M.Nodup → (∀ z, z ∈ M ↔ z ∈ ns ∨ z ∈ ms) → ys.Perm M → PyProof.Rows.sortedS ys = true → ∀ (H' : Hp) (p : Addr), Same H H' → H' p = some (.tup (ys.map V.str)) → Q (.ref p) H'
section
variable {P : Program} {w : World} {K : PySem.W.Frag} {mg : Str → Option Value} {base : Heap} {C : Addr}
theorem ok_united {f : Addr} {fd : FuncData} (F : Fun K "united" "united" s_united f fd) (T : Bn mg) : FnOk P w K mg base CX0 1 f fd ["names", "others"] spUnited := by
  refine F.ok sc_united (fun vs H Q E h => ?_) (fun cdv A outer s H vs Q E hr h => ?_)
  · obtain ⟨a, b, ns, ms, rfl, _⟩ := h
    rfl
  · obtain ⟨a, b, ns, ms, rfl, ha, hb, l1, l2, k⟩ := h
    refine ⟨_, (pss_one (ps_ret (pe_callTy call_tuple_of (by rfl) T.tuple (by decide +kernel) (pa_cons (pe_callB (cr_sortTx rfl) (by rfl) T.sorted (by decide +kernel) (pa_cons (pe_callTy (cr_setTx rfl) (by rfl) T.set (by decide +kernel) (pa_cons (pe_op op_catA (pv 0) (pv 1)) pa_nil)) pa_nil)) pa_nil)))), ?_⟩
    have put : ∀ (G : Hp) (c : Addr), Same H G → G c = some (.tup ((ns ++ ms).map V.str)) → rSetTx K w [.ref c] G (fun x H1 => rSortTx w [x] H1 fun y H2 => ∃ p ys, [y] = [V.ref p] ∧ ((SqL K H2 p ys ∧ ∀ l, H2 l = none → Q (.ref l) (upd H2 l (.tup ys))) ∨ (SqT K H2 p ys ∧ Q (.ref p) H2))) := fun G c s1 hc =>
      ⟨c, ns ++ ms, rfl, .inr (SqT.of hc), by rw [List.length_append]; omega, fun p M np ml mem nd => ⟨p, M, rfl, upd_same, fun ys q perm so nq => ⟨q, _, rfl, .inl ⟨SqL.of upd_same, fun l nl => k M ys nd (fun z => (mem z).trans List.mem_append) perm so _ l (((s1.trans (Same.new np)).trans (Same.new nq)).trans (Same.new nl)) upd_same⟩⟩⟩⟩
    refine ⟨_, rfl, _, rfl, a, b, _, _, rfl, rfl, SqT.of ha, SqT.of hb, Nat.le_of_lt (small1000 (by rw [List.length_map, List.length_map]; omega)), fun e => ?_, fun _ e => ?_, fun _ _ p np => ?_⟩
    · have e0 : ns = [] := List.map_eq_nil_iff.mp e
      subst e0
      exact put H b (Same.refl H) hb
    · have e0 : ms = [] := List.map_eq_nil_iff.mp e
      subst e0
      exact put H a (Same.refl H) (by rw [List.append_nil]; exact ha)
    · exact put _ p (Same.new np) (by rw [upd_same, List.map_append])
theorem ok_with {f : Addr} {fd : FuncData} (F : Fun K "_names_with" "Rule._names_with" s_Rule__names_with f fd) (T : Bn mg) (R : RTxt K mg C) (D_united : Df P w K mg base 1 "united" ["names", "others"] spUnited) (D_check_few : Df P w K mg base 1 "check_few" ["names"] spFew) : FnOk P w K mg base CX0 2 f fd ["self", "other"] (spWith C) := by
  refine F.ok sc_Rule__names_with (fun vs H Q E h => ?_) (fun cdv A outer s H vs Q E hr h => ?_)
  · obtain ⟨r, q, ns, ms, al, bl, z, y, rfl, _⟩ := h
    rfl
  · obtain ⟨r, q, ns, ms, al, bl, z, y, rfl, ⟨dx, t, d, h1, h2, h3⟩, ⟨dy, u, e, g1, g2, g3⟩, l1, l2, few, k⟩ := h
    refine ⟨_, (pss_cons (ps_set (i := 2) sc_Rule__names_with.nd rfl (Or.inl rfl) (pe_df D_united hr (by first | decide | omega) rfl (pa_cons (pe_fld (pv 0) rfl) (pa_cons (pe_fld (pv 1) rfl) pa_nil))))
  (pss_cons (ps_expr (pe_df D_check_few hr (by first | decide | omega) rfl (pa_cons (pv 2) pa_nil)))
  (pss_one (ps_ret (pv 2))))), ?_⟩
    refine ⟨_, rfl, r, C, dx, _, _, rfl, h1, R.c, R.n, rfl, _, rfl, q, C, dy, _, _, rfl, g1, R.c, R.n, rfl, t, u, ns, ms, rfl, h2, g2, l1, l2, fun M ys nd mem perm so H' p s1 hp => ?_⟩
    refine ⟨_, rfl, p, ys, rfl, hp, ?_, ?_⟩
    · rw [perm.length_eq]
      exact few M nd fun z hz => (mem z).mp hz
    · exact ⟨_, rfl, k M ys nd mem perm so H' p s1 hp⟩
end
end IC
namespace IC
open PySem L2 TL
def opT (w z y : Str) : Str := Str.empty ++ Str.ofString "(" ++ z ++ w ++ y ++ Str.ofString ")"
def notT (z : Str) : Str := Str.empty ++ Str.ofString "not " ++ z
/-- an operator of two rules -/
def spOp2 (C : Addr) (c : Bool → Bool → Bool) (w : Str) : Sp := fun vs H Q _ => ∃ (r s : Addr) (ns ms : List Str) (al bl : List (List Str)) (z y : Str), vs = [.ref r, .ref s] ∧ RuleAt C H r ns al z ∧ RuleAt C H s ms bl y ∧ ns.length ≤ 100 ∧ ms.length ≤ 100 ∧ (∀ M : List Str, M.Nodup → (∀ z ∈ M, z ∈ ns ∨ z ∈ ms) → M.length ≤ 6) ∧ z.length ≤ 40000 ∧ y.length ≤ 40000 ∧
  ∀ (M ys : List Str), M.Nodup → (∀ z, z ∈ M ↔ z ∈ ns ∨ z ∈ ms) → ys.Perm M → PyProof.Rows.sortedS ys = true → NewR C H ys ((subs ys).filter fun k => c (may ns al k) (may ms bl k)) (opT w z y) Q
def spNot (C : Addr) : Sp := fun vs H Q _ => ∃ (r : Addr) (ns : List Str) (al : List (List Str)) (z : Str), vs = [.ref r] ∧ RuleAt C H r ns al z ∧ ns.length ≤ 6 ∧ z.length ≤ 40000 ∧ NewR C H ns ((subs ns).filter fun k => !may ns al k) (notT z) Q
theorem big {n : Nat} (h : n ≤ 100000) : n ≤ sizeLine := Nat.le_trans h (by decide)
section
variable {P : Program} {w : World} {K : PySem.W.Frag} {mg : Str → Option Value} {base : Heap} {C : Addr}
theorem ok_and {f : Addr} {fd : FuncData} (F : Fun K "__and__" "Rule.__and__" s_Rule___and__ f fd) (R : RTxt K mg C) (D_subsets : Df P w K mg base 1 "subsets" ["names"] spSubs) (M_allows : MDf P w K mg base CX0 1 C "_allows" ["self", "kept"] [] (spAsk C)) (M_with : MDf P w K mg base CX0 2 C "_names_with" ["self", "other"] [] (spWith C)) (C_R : RDf P w K mg base 1 C) : FnOk P w K mg base CX0 3 f fd ["self", "other"] (spOp2 C (fun a b => a && b) (Str.ofString " and ")) := by
  refine F.ok sc_Rule___and__ (fun vs H Q E h => ?_) (fun cdv A outer s H vs Q E hr h => ?_)
  · obtain ⟨r, q, ns, ms, al, bl, z, y, rfl, _⟩ := h
    rfl
  · obtain ⟨r, q, ns, ms, al, bl, z, y, rfl, ra, rb, l1, l2, few, lz, ly, k⟩ := h
    refine ⟨_, (pss_cons (ps_set (i := 2) sc_Rule___and__.nd rfl (Or.inl rfl) (pe_md M_with R.c hr (by first | decide | omega) (pv 0) (pa_cons (pv 1) pa_nil)))
  (pss_cons (ps_setLc (i := 3) (own := [("some", 4)]) (g := gName 4) rfl sc_Rule___and__.nd rfl rfl rfl (pi_list (pe_df D_subsets hr (by first | decide | omega) rfl (pa_cons (pv 2) pa_nil))) (blkOk_by (N := ["self", "other", "names", "allowed", "some"]) (sc := defScope s_Rule___and__) (by decide +kernel)) (fun _ _ _ _ _ => pg_name (i := 4) sc_Rule___and__.nd rfl (Or.inl rfl)) (fun _ _ _ _ _ => pts_one (PW.pt (pw_and (pt_val (pe_md M_allows R.c hr (by first | decide | omega) (pv 0) (pa_cons (pv 4) pa_nil))) (pw_and1 (pt_val (pe_md M_allows R.c hr (by first | decide | omega) (pv 1) (pa_cons (pv 4) pa_nil))))))) (fun _ _ _ _ _ => (pv 4)))
  (pss_one (ps_ret (pe_mkR C_R hr (by first | decide | omega) rfl (pa_cons (pv 2) (pa_cons (pv 3) (pa_cons (pe_joined (PJ.cons pe_str (PJ.cons (pe_fmt (pe_fld (pv 0) rfl)) (PJ.cons pe_str (PJ.cons (pe_fmt (pe_fld (pv 1) rfl)) (PJ.cons pe_str PJ.nil)))))) pa_nil)))))))), ?_⟩
    have ins : ∀ {G : Hp} {r : Addr} {ns : List Str} {al : List (List Str)} {z : Str}, RuleAt C G r ns al z → ∃ dx fs, G r = some (.ins C dx fs) ∧ fs.lookup (Str.ofString "_names_with") = none ∧ fs.lookup (Str.ofString "_allows") = none ∧ ∃ t d, fs = rlf t d z := fun h => by
      obtain ⟨dx, t, d, h1, _⟩ := h
      exact ⟨dx, _, h1, rfl, rfl, t, d, rfl⟩
    obtain ⟨dx, fs, e1, e2, _⟩ := ins ra
    refine ⟨_, rfl, r, dx, fs, rfl, e1, e2, _, rfl, r, q, ns, ms, al, bl, z, y, rfl, ra, rb, l1, l2, few, fun M ys nd mem perm so H1 t s1 ht => ?_⟩
    have y6 : ys.length ≤ 6 := by
      rw [perm.length_eq]
      exact few M nd fun z hz => (mem z).mp hz
    refine ⟨_, rfl, t, ys, rfl, ht, Nat.le_trans y6 (by decide), fun H2 l rs s2 hl tu => ?_⟩
    refine ⟨l, rfl, ⟨_, SqL.of hl⟩, fun D nD => ?_⟩
    have sH : Same H H2 := s1.trans s2
    refine lc_keep (K := K) (gi := 4) (fun k => (fun a b => a && b) (may ns al k) (may ms bl k)) (by show 4 < 5; decide) hl tu (Nat.le_trans (subs_few y6) (by decide)) nD (fun x key G Q2 hin s3 hx cont => ?_) (fun G ss s3 hD ts => ?_)
    · have ra3 := ra.same (sH.trans s3)
      have rb3 := rb.same (sH.trans s3)
      obtain ⟨da, fa, a1, _, a2, _⟩ := ins ra3
      obtain ⟨db, fb, b1, _, b2, _⟩ := ins rb3
      refine ⟨_, rfl, r, da, fa, rfl, a1, a2, _, rfl, r, x, ns, key, al, z, rfl, ra3, .inr hx, l1, fun G2 s4 => ⟨_, rfl, ?_⟩⟩
      cases ea : may ns al key with
      | false =>
        refine iteF ?_
        have u := cont G2 s4
        simpa [ea] using u
      | true =>
        refine iteT ⟨_, rfl, q, db, fb, rfl, s4 _ _ b1, b2, _, rfl, q, x, ms, key, bl, y, rfl, rb3.same s4, .inr (s4 _ _ hx), l2, fun G3 s5 => ⟨_, rfl, ?_⟩⟩
        have u := cont G3 (s4.trans s5)
        simpa [ea] using u
    · have ra3 := ra.same (sH.trans s3)
      have rb3 := rb.same (sH.trans s3)
      obtain ⟨da, fa, a1, _, _, ta, ea, rfl⟩ := ins ra3
      obtain ⟨db, fb, b1, _, _, tb, eb, rfl⟩ := ins rb3
      have c1 : (Str.empty ++ Str.ofString "(").length = 1 := by decide +kernel
      have c2 : (Str.ofString " and ").length = 5 := by decide +kernel
      have c3 : (Str.ofString ")").length = 1 := by decide +kernel
      refine ⟨_, rfl, _, rfl, _, rfl, by decide +kernel, _, rfl, r, C, da, _, _, rfl, a1, R.c, R.t, rfl, .inl ⟨z, rfl, big (by omega), z, rfl, big (by rw [len_app, c1]; omega), _, rfl, big (by rw [len_app, len_app, c1, c2]; omega), _, rfl, q, C, db, _, _, rfl, b1, R.c, R.t, rfl, .inl ⟨y, rfl, big (by omega), y, rfl, big (by rw [len_app, len_app, len_app, c1, c2]; omega), _, rfl, big (by rw [len_app, len_app, len_app, len_app, c1, c2, c3]; omega), ?_⟩⟩⟩
      have fl := List.length_filter_le (fun k => (fun a b => a && b) (may ns al k) (may ms bl k)) (subs ys)
      exact make_rule ((s2.trans s3) _ _ ht) hD ts (Nat.le_trans fl (Nat.le_trans (subs_few y6) (by decide))) ((k M ys nd mem perm so).same (sH.trans s3))
theorem ok_or {f : Addr} {fd : FuncData} (F : Fun K "__or__" "Rule.__or__" s_Rule___or__ f fd) (R : RTxt K mg C) (D_subsets : Df P w K mg base 1 "subsets" ["names"] spSubs) (M_allows : MDf P w K mg base CX0 1 C "_allows" ["self", "kept"] [] (spAsk C)) (M_with : MDf P w K mg base CX0 2 C "_names_with" ["self", "other"] [] (spWith C)) (C_R : RDf P w K mg base 1 C) : FnOk P w K mg base CX0 3 f fd ["self", "other"] (spOp2 C (fun a b => a || b) (Str.ofString " or ")) := by
  refine F.ok sc_Rule___or__ (fun vs H Q E h => ?_) (fun cdv A outer s H vs Q E hr h => ?_)
  · obtain ⟨r, q, ns, ms, al, bl, z, y, rfl, _⟩ := h
    rfl
  · obtain ⟨r, q, ns, ms, al, bl, z, y, rfl, ra, rb, l1, l2, few, lz, ly, k⟩ := h
    refine ⟨_, (pss_cons (ps_set (i := 2) sc_Rule___or__.nd rfl (Or.inl rfl) (pe_md M_with R.c hr (by first | decide | omega) (pv 0) (pa_cons (pv 1) pa_nil)))
  (pss_cons (ps_setLc (i := 3) (own := [("some", 4)]) (g := gName 4) rfl sc_Rule___or__.nd rfl rfl rfl (pi_list (pe_df D_subsets hr (by first | decide | omega) rfl (pa_cons (pv 2) pa_nil))) (blkOk_by (N := ["self", "other", "names", "allowed", "some"]) (sc := defScope s_Rule___or__) (by decide +kernel)) (fun _ _ _ _ _ => pg_name (i := 4) sc_Rule___or__.nd rfl (Or.inl rfl)) (fun _ _ _ _ _ => pts_one (PW.pt (pw_or (pt_val (pe_md M_allows R.c hr (by first | decide | omega) (pv 0) (pa_cons (pv 4) pa_nil))) (pw_or1 (pt_val (pe_md M_allows R.c hr (by first | decide | omega) (pv 1) (pa_cons (pv 4) pa_nil))))))) (fun _ _ _ _ _ => (pv 4)))
  (pss_one (ps_ret (pe_mkR C_R hr (by first | decide | omega) rfl (pa_cons (pv 2) (pa_cons (pv 3) (pa_cons (pe_joined (PJ.cons pe_str (PJ.cons (pe_fmt (pe_fld (pv 0) rfl)) (PJ.cons pe_str (PJ.cons (pe_fmt (pe_fld (pv 1) rfl)) (PJ.cons pe_str PJ.nil)))))) pa_nil)))))))), ?_⟩
    have ins : ∀ {G : Hp} {r : Addr} {ns : List Str} {al : List (List Str)} {z : Str}, RuleAt C G r ns al z → ∃ dx fs, G r = some (.ins C dx fs) ∧ fs.lookup (Str.ofString "_names_with") = none ∧ fs.lookup (Str.ofString "_allows") = none ∧ ∃ t d, fs = rlf t d z := fun h => by
      obtain ⟨dx, t, d, h1, _⟩ := h
      exact ⟨dx, _, h1, rfl, rfl, t, d, rfl⟩
    obtain ⟨dx, fs, e1, e2, _⟩ := ins ra
    refine ⟨_, rfl, r, dx, fs, rfl, e1, e2, _, rfl, r, q, ns, ms, al, bl, z, y, rfl, ra, rb, l1, l2, few, fun M ys nd mem perm so H1 t s1 ht => ?_⟩
    have y6 : ys.length ≤ 6 := by
      rw [perm.length_eq]
      exact few M nd fun z hz => (mem z).mp hz
    refine ⟨_, rfl, t, ys, rfl, ht, Nat.le_trans y6 (by decide), fun H2 l rs s2 hl tu => ?_⟩
    refine ⟨l, rfl, ⟨_, SqL.of hl⟩, fun D nD => ?_⟩
    have sH : Same H H2 := s1.trans s2
    refine lc_keep (K := K) (gi := 4) (fun k => (fun a b => a || b) (may ns al k) (may ms bl k)) (by show 4 < 5; decide) hl tu (Nat.le_trans (subs_few y6) (by decide)) nD (fun x key G Q2 hin s3 hx cont => ?_) (fun G ss s3 hD ts => ?_)
    · have ra3 := ra.same (sH.trans s3)
      have rb3 := rb.same (sH.trans s3)
      obtain ⟨da, fa, a1, _, a2, _⟩ := ins ra3
      obtain ⟨db, fb, b1, _, b2, _⟩ := ins rb3
      refine ⟨_, rfl, r, da, fa, rfl, a1, a2, _, rfl, r, x, ns, key, al, z, rfl, ra3, .inr hx, l1, fun G2 s4 => ⟨_, rfl, ?_⟩⟩
      cases ea : may ns al key with
      | true =>
        refine iteT ?_
        have u := cont G2 s4
        simpa [ea] using u
      | false =>
        refine iteF ⟨_, rfl, q, db, fb, rfl, s4 _ _ b1, b2, _, rfl, q, x, ms, key, bl, y, rfl, rb3.same s4, .inr (s4 _ _ hx), l2, fun G3 s5 => ⟨_, rfl, ?_⟩⟩
        have u := cont G3 (s4.trans s5)
        simpa [ea] using u
    · have ra3 := ra.same (sH.trans s3)
      have rb3 := rb.same (sH.trans s3)
      obtain ⟨da, fa, a1, _, _, ta, ea, rfl⟩ := ins ra3
      obtain ⟨db, fb, b1, _, _, tb, eb, rfl⟩ := ins rb3
      have c1 : (Str.empty ++ Str.ofString "(").length = 1 := by decide +kernel
      have c2 : (Str.ofString " or ").length = 4 := by decide +kernel
      have c3 : (Str.ofString ")").length = 1 := by decide +kernel
      refine ⟨_, rfl, _, rfl, _, rfl, by decide +kernel, _, rfl, r, C, da, _, _, rfl, a1, R.c, R.t, rfl, .inl ⟨z, rfl, big (by omega), z, rfl, big (by rw [len_app, c1]; omega), _, rfl, big (by rw [len_app, len_app, c1, c2]; omega), _, rfl, q, C, db, _, _, rfl, b1, R.c, R.t, rfl, .inl ⟨y, rfl, big (by omega), y, rfl, big (by rw [len_app, len_app, len_app, c1, c2]; omega), _, rfl, big (by rw [len_app, len_app, len_app, len_app, c1, c2, c3]; omega), ?_⟩⟩⟩
      have fl := List.length_filter_le (fun k => (fun a b => a || b) (may ns al k) (may ms bl k)) (subs ys)
      exact make_rule ((s2.trans s3) _ _ ht) hD ts (Nat.le_trans fl (Nat.le_trans (subs_few y6) (by decide))) ((k M ys nd mem perm so).same (sH.trans s3))
theorem ok_needs {f : Addr} {fd : FuncData} (F : Fun K "__rshift__" "Rule.__rshift__" s_Rule___rshift__ f fd) (R : RTxt K mg C) (D_subsets : Df P w K mg base 1 "subsets" ["names"] spSubs) (M_allows : MDf P w K mg base CX0 1 C "_allows" ["self", "kept"] [] (spAsk C)) (M_with : MDf P w K mg base CX0 2 C "_names_with" ["self", "other"] [] (spWith C)) (C_R : RDf P w K mg base 1 C) : FnOk P w K mg base CX0 3 f fd ["self", "other"] (spOp2 C (fun a b => b || !a) (Str.ofString " needs ")) := by
  refine F.ok sc_Rule___rshift__ (fun vs H Q E h => ?_) (fun cdv A outer s H vs Q E hr h => ?_)
  · obtain ⟨r, q, ns, ms, al, bl, z, y, rfl, _⟩ := h
    rfl
  · obtain ⟨r, q, ns, ms, al, bl, z, y, rfl, ra, rb, l1, l2, few, lz, ly, k⟩ := h
    refine ⟨_, (pss_cons (ps_set (i := 2) sc_Rule___rshift__.nd rfl (Or.inl rfl) (pe_md M_with R.c hr (by first | decide | omega) (pv 0) (pa_cons (pv 1) pa_nil)))
  (pss_cons (ps_setLc (i := 3) (own := [("some", 4)]) (g := gName 4) rfl sc_Rule___rshift__.nd rfl rfl rfl (pi_list (pe_df D_subsets hr (by first | decide | omega) rfl (pa_cons (pv 2) pa_nil))) (blkOk_by (N := ["self", "other", "names", "allowed", "some"]) (sc := defScope s_Rule___rshift__) (by decide +kernel)) (fun _ _ _ _ _ => pg_name (i := 4) sc_Rule___rshift__.nd rfl (Or.inl rfl)) (fun _ _ _ _ _ => pts_one (PW.pt (pw_or (pt_val (pe_md M_allows R.c hr (by first | decide | omega) (pv 1) (pa_cons (pv 4) pa_nil))) (pw_or1 (pt_not (pt_val (pe_md M_allows R.c hr (by first | decide | omega) (pv 0) (pa_cons (pv 4) pa_nil)))))))) (fun _ _ _ _ _ => (pv 4)))
  (pss_one (ps_ret (pe_mkR C_R hr (by first | decide | omega) rfl (pa_cons (pv 2) (pa_cons (pv 3) (pa_cons (pe_joined (PJ.cons pe_str (PJ.cons (pe_fmt (pe_fld (pv 0) rfl)) (PJ.cons pe_str (PJ.cons (pe_fmt (pe_fld (pv 1) rfl)) (PJ.cons pe_str PJ.nil)))))) pa_nil)))))))), ?_⟩
    have ins : ∀ {G : Hp} {r : Addr} {ns : List Str} {al : List (List Str)} {z : Str}, RuleAt C G r ns al z → ∃ dx fs, G r = some (.ins C dx fs) ∧ fs.lookup (Str.ofString "_names_with") = none ∧ fs.lookup (Str.ofString "_allows") = none ∧ ∃ t d, fs = rlf t d z := fun h => by
      obtain ⟨dx, t, d, h1, _⟩ := h
      exact ⟨dx, _, h1, rfl, rfl, t, d, rfl⟩
    obtain ⟨dx, fs, e1, e2, _⟩ := ins ra
    refine ⟨_, rfl, r, dx, fs, rfl, e1, e2, _, rfl, r, q, ns, ms, al, bl, z, y, rfl, ra, rb, l1, l2, few, fun M ys nd mem perm so H1 t s1 ht => ?_⟩
    have y6 : ys.length ≤ 6 := by
      rw [perm.length_eq]
      exact few M nd fun z hz => (mem z).mp hz
    refine ⟨_, rfl, t, ys, rfl, ht, Nat.le_trans y6 (by decide), fun H2 l rs s2 hl tu => ?_⟩
    refine ⟨l, rfl, ⟨_, SqL.of hl⟩, fun D nD => ?_⟩
    have sH : Same H H2 := s1.trans s2
    refine lc_keep (K := K) (gi := 4) (fun k => (fun a b => b || !a) (may ns al k) (may ms bl k)) (by show 4 < 5; decide) hl tu (Nat.le_trans (subs_few y6) (by decide)) nD (fun x key G Q2 hin s3 hx cont => ?_) (fun G ss s3 hD ts => ?_)
    · have ra3 := ra.same (sH.trans s3)
      have rb3 := rb.same (sH.trans s3)
      obtain ⟨da, fa, a1, _, a2, _⟩ := ins ra3
      obtain ⟨db, fb, b1, _, b2, _⟩ := ins rb3
      refine ⟨_, rfl, q, db, fb, rfl, b1, b2, _, rfl, q, x, ms, key, bl, y, rfl, rb3, .inr hx, l2, fun G2 s4 => ⟨_, rfl, ?_⟩⟩
      cases ea : may ms bl key with
      | true =>
        refine iteT ?_
        have u := cont G2 s4
        simpa [ea] using u
      | false =>
        refine iteF ⟨_, rfl, r, da, fa, rfl, s4 _ _ a1, a2, _, rfl, r, x, ns, key, al, z, rfl, ra3.same s4, .inr (s4 _ _ hx), l1, fun G3 s5 => ⟨_, rfl, ?_⟩⟩
        have u := cont G3 (s4.trans s5)
        simpa [ea] using u
    · have ra3 := ra.same (sH.trans s3)
      have rb3 := rb.same (sH.trans s3)
      obtain ⟨da, fa, a1, _, _, ta, ea, rfl⟩ := ins ra3
      obtain ⟨db, fb, b1, _, _, tb, eb, rfl⟩ := ins rb3
      have c1 : (Str.empty ++ Str.ofString "(").length = 1 := by decide +kernel
      have c2 : (Str.ofString " needs ").length = 7 := by decide +kernel
      have c3 : (Str.ofString ")").length = 1 := by decide +kernel
      refine ⟨_, rfl, _, rfl, _, rfl, by decide +kernel, _, rfl, r, C, da, _, _, rfl, a1, R.c, R.t, rfl, .inl ⟨z, rfl, big (by omega), z, rfl, big (by rw [len_app, c1]; omega), _, rfl, big (by rw [len_app, len_app, c1, c2]; omega), _, rfl, q, C, db, _, _, rfl, b1, R.c, R.t, rfl, .inl ⟨y, rfl, big (by omega), y, rfl, big (by rw [len_app, len_app, len_app, c1, c2]; omega), _, rfl, big (by rw [len_app, len_app, len_app, len_app, c1, c2, c3]; omega), ?_⟩⟩⟩
      have fl := List.length_filter_le (fun k => (fun a b => b || !a) (may ns al k) (may ms bl k)) (subs ys)
      exact make_rule ((s2.trans s3) _ _ ht) hD ts (Nat.le_trans fl (Nat.le_trans (subs_few y6) (by decide))) ((k M ys nd mem perm so).same (sH.trans s3))
theorem ok_invert {f : Addr} {fd : FuncData} (F : Fun K "__invert__" "Rule.__invert__" s_Rule___invert__ f fd) (R : RTxt K mg C) (D_subsets : Df P w K mg base 1 "subsets" ["names"] spSubs) (M_allows : MDf P w K mg base CX0 1 C "_allows" ["self", "kept"] [] (spAsk C)) (C_R : RDf P w K mg base 1 C) : FnOk P w K mg base CX0 3 f fd ["self"] (spNot C) := by
  refine F.ok sc_Rule___invert__ (fun vs H Q E h => ?_) (fun cdv A outer s H vs Q E hr h => ?_)
  · obtain ⟨r, ns, al, z, rfl, _⟩ := h
    rfl
  · obtain ⟨r, ns, al, z, rfl, ra, n6, lz, k⟩ := h
    refine ⟨_, (pss_cons (ps_setLc (i := 1) (own := [("some", 2)]) (g := gName 2) rfl sc_Rule___invert__.nd rfl rfl rfl (pi_list (pe_df D_subsets hr (by first | decide | omega) rfl (pa_cons (pe_fld (pv 0) rfl) pa_nil))) (blkOk_by (N := ["self", "allowed", "some"]) (sc := defScope s_Rule___invert__) (by decide +kernel)) (fun _ _ _ _ _ => pg_name (i := 2) sc_Rule___invert__.nd rfl (Or.inl rfl)) (fun _ _ _ _ _ => pts_one (pt_not (pt_val (pe_md M_allows R.c hr (by first | decide | omega) (pv 0) (pa_cons (pv 2) pa_nil))))) (fun _ _ _ _ _ => (pv 2)))
  (pss_one (ps_ret (pe_mkR C_R hr (by first | decide | omega) rfl (pa_cons (pe_fld (pv 0) rfl) (pa_cons (pv 1) (pa_cons (pe_joined (PJ.cons pe_str (PJ.cons (pe_fmt (pe_fld (pv 0) rfl)) PJ.nil))) pa_nil))))))), ?_⟩
    obtain ⟨dx, t, d, h1, h2, h3⟩ := ra
    refine ⟨_, rfl, r, C, dx, _, _, rfl, h1, R.c, R.n, rfl, t, ns, rfl, h2, Nat.le_trans n6 (by decide), fun H2 l rs s2 hl tu => ?_⟩
    refine ⟨l, rfl, ⟨_, SqL.of hl⟩, fun D nD => ?_⟩
    refine lc_keep (K := K) (gi := 2) (fun k => !may ns al k) (by show 2 < 3; decide) hl tu (Nat.le_trans (subs_few n6) (by decide)) nD (fun x key G Q2 hin s3 hx cont => ?_) (fun G ss s3 hD ts => ?_)
    · have sG := s2.trans s3
      exact ⟨_, rfl, r, dx, _, rfl, sG _ _ h1, rfl, _, rfl, r, x, ns, key, al, z, rfl, ⟨dx, t, d, sG _ _ h1, sG _ _ h2, sG _ _ h3⟩, .inr hx, by omega, fun G2 s4 => ⟨_, rfl, cont G2 s4⟩⟩
    · have sG := s2.trans s3
      have c1 : (Str.empty ++ Str.ofString "not ").length = 4 := by decide +kernel
      refine ⟨_, rfl, r, C, dx, _, _, rfl, sG _ _ h1, R.c, R.n, rfl, _, rfl, _, rfl, by decide +kernel, _, rfl, r, C, dx, _, _, rfl, sG _ _ h1, R.c, R.t, rfl, .inl ⟨z, rfl, big (by omega), z, rfl, big (by rw [len_app, c1]; omega), ?_⟩⟩
      have fl := List.length_filter_le (fun k => !may ns al k) (subs ns)
      exact make_rule (sG _ _ h2) hD ts (Nat.le_trans fl (Nat.le_trans (subs_few n6) (by decide))) (k.same sG)
end
end IC
namespace IC
open PySem L2 TL
def spStr (C : Addr) : Sp := fun vs H Q _ => ∃ (r : Addr) (ns : List Str) (al : List (List Str)) (z : Str), vs = [.ref r] ∧ RuleAt C H r ns al z ∧ Q (.str z) H
theorem cr_strS {X : Cx} : CallR X (.type "str") (fun vs H Q => ∃ z : Str, vs = [.str z] ∧ Q (.str z) H) := by
  rintro pins s σ H vs us Q I rel ⟨z, rfl, q⟩
  rcases vals1 rel with ⟨u, rfl, tk, rfl⟩
  exact PySem.P.str_of_str ⟨.str z, H, I, ⟨tk, rfl⟩, q⟩
section
variable {P : Program} {w : World} {K : PySem.W.Frag} {mg : Str → Option Value} {base : Heap} {C : Addr}
theorem ok_str {f : Addr} {fd : FuncData} (F : Fun K "__str__" "Rule.__str__" s_Rule___str__ f fd) (T : Bn mg) (R : RTxt K mg C) : FnOk P w K mg base CX0 1 f fd ["self"] (spStr C) := by
  refine F.ok sc_Rule___str__ (fun vs H Q E h => ?_) (fun cdv A outer s H vs Q E hr h => ?_)
  · obtain ⟨r, ns, al, z, rfl, _⟩ := h
    rfl
  · obtain ⟨r, ns, al, z, rfl, ⟨dx, t, d, h1, h2, h3⟩, k⟩ := h
    refine ⟨_, (pss_one (ps_ret (pe_callTy cr_strS (by rfl) T.str (by decide +kernel) (pa_cons (pe_fld (pv 0) rfl) pa_nil)))), ?_⟩
    exact ⟨_, rfl, r, C, dx, _, _, rfl, h1, R.c, R.t, rfl, z, rfl, k⟩
end
end IC
namespace IC
open PySem L2 TL
/-! ### what a rule was built of -/
inductive Nd where
  | has (z : Str)
  | tog (zs : List Str)
  | alw
  | no (a : Nd)
  | two (k : Fin 3) (a b : Nd)
def opW : Fin 3 → Str
  | 0 => Str.ofString "and"
  | 1 => Str.ofString "or"
  | 2 => Str.ofString "needs"
def opS : Fin 3 → Str
  | 0 => Str.ofString " and "
  | 1 => Str.ofString " or "
  | 2 => Str.ofString " needs "
def opB : Fin 3 → Bool → Bool → Bool
  | 0 => fun a b => a && b
  | 1 => fun a b => a || b
  | 2 => fun a b => b || !a
def Nd.sat (ks : List Str) : Nd → Bool
  | .has z => decide (z ∈ ks)
  | .tog zs => decide (zs.filter (fun n => decide (n ∈ ks)) = []) || decide (zs.filter (fun n => decide (n ∈ ks)) = zs)
  | .alw => true
  | .no a => !a.sat ks
  | .two k a b => opB k (a.sat ks) (b.sat ks)
def Nd.hgt : Nd → Nat
  | .has _ => 0
  | .tog _ => 0
  | .alw => 0
  | .no a => a.hgt + 1
  | .two _ a b => max a.hgt b.hgt + 1
/-- the words of it -/
def Nd.wds (recs : List Str) : Nd → Prop
  | .has z => z ∈ recs
  | .tog zs => (∀ z ∈ zs, z ∈ recs) ∧ zs.length ≤ 3
  | .alw => True
  | .no a => a.wds recs
  | .two _ a b => a.wds recs ∧ b.wds recs
/-- the words of it, as they are mentioned -/
def Nd.recs : Nd → List Str
  | .has z => [z]
  | .tog zs => zs
  | .alw => []
  | .no a => a.recs
  | .two _ a b => a.recs ++ b.recs
def Nd.txt : Nd → Str → Prop
  | .has z, t => t = z
  | .tog zs, t => ∃ M ys : List Str, M.Nodup ∧ (∀ z, z ∈ M ↔ z ∈ zs) ∧ ys.Perm M ∧ PyProof.Rows.sortedS ys = true ∧ t = togT ys
  | .alw, t => t = Str.ofString "always()"
  | .no a, t => ∃ s, a.txt s ∧ t = notT s
  | .two k a b, t => ∃ s u, a.txt s ∧ b.txt u ∧ t = opT (opS k) s u
theorem Nd.txt_one : ∀ (n : Nd) {s t : Str}, n.txt s → n.txt t → s = t
  | .has _, _, _, h1, h2 => h1.trans h2.symm
  | .alw, _, _, h1, h2 => h1.trans h2.symm
  | .tog zs, _, _, ⟨M, ys, a1, a2, a3, a4, a5⟩, ⟨N, xs, b1, b2, b3, b4, b5⟩ => by
    have e : ys = xs := sorted_one (a3.trans ((perm_mem a1 b1 fun z => (a2 z).trans (b2 z).symm).trans b3.symm)) a4 b4
    rw [a5, b5, e]
  | .no a, _, _, ⟨s, a1, a2⟩, ⟨u, b1, b2⟩ => by rw [a2, b2, Nd.txt_one a a1 b1]
  | .two k a b, _, _, ⟨s, u, a1, a2, a3⟩, ⟨s', u', b1, b2, b3⟩ => by rw [a3, b3, Nd.txt_one a a1 b1, Nd.txt_one b a2 b2]
/-- the node v in the heap -/
def Nd.at_ (H : Hp) : Nd → V → Prop
  | .has z, v => ∃ p : Addr, v = .ref p ∧ H p = some (.tup [.str (Str.ofString "has"), .str z])
  | .tog zs, v => ∃ p l : Addr, v = .ref p ∧ H p = some (.tup [.str (Str.ofString "together"), .ref l]) ∧ H l = some (.lst (zs.map V.str))
  | .alw, v => ∃ p : Addr, v = .ref p ∧ H p = some (.tup [.str (Str.ofString "always")])
  | .no a, v => ∃ (p : Addr) (x : V), v = .ref p ∧ H p = some (.tup [.str (Str.ofString "not"), x]) ∧ a.at_ H x
  | .two k a b, v => ∃ (p : Addr) (x y : V), v = .ref p ∧ H p = some (.tup [.str (opW k), x, y]) ∧ a.at_ H x ∧ b.at_ H y
theorem Nd.keep {H H' : Hp} {q : Addr} {a b c : Int} (hq : H q = some (.lst (pl a b c))) (k : Kp [q] H H') : ∀ (n : Nd) {v : V}, n.at_ H v → n.at_ H' v := by
  have kt : ∀ {p : Addr} {xs : List V}, H p = some (.tup xs) → H' p = some (.tup xs) := fun {p xs} h => k _ _ h fun e => by
    rw [List.mem_singleton.mp e, hq] at h
    cases h
  intro n
  induction n with
  | has z =>
    rintro v ⟨p, e, h⟩
    exact ⟨p, e, kt h⟩
  | tog zs =>
    rintro v ⟨p, l, e, h, h2⟩
    refine ⟨p, l, e, kt h, k _ _ h2 fun e => ?_⟩
    rw [List.mem_singleton.mp e, hq] at h2
    cases zs with
    | nil => cases h2
    | cons z zs => cases h2
  | alw =>
    rintro v ⟨p, e, h⟩
    exact ⟨p, e, kt h⟩
  | no a ih =>
    rintro v ⟨p, x, e, h, h2⟩
    exact ⟨p, x, e, kt h, ih h2⟩
  | two o a b iha ihb =>
    rintro v ⟨p, x, y, e, h, h2, h3⟩
    exact ⟨p, x, y, e, kt h, iha h2, ihb h3⟩
theorem Nd.same {H H' : Hp} (s : Same H H') : ∀ (n : Nd) {v : V}, n.at_ H v → n.at_ H' v := by
  intro n
  induction n with
  | has z =>
    rintro v ⟨p, e, h⟩
    exact ⟨p, e, s _ _ h⟩
  | tog zs =>
    rintro v ⟨p, l, e, h, h2⟩
    exact ⟨p, l, e, s _ _ h, s _ _ h2⟩
  | alw =>
    rintro v ⟨p, e, h⟩
    exact ⟨p, e, s _ _ h⟩
  | no a ih =>
    rintro v ⟨p, x, e, h, h2⟩
    exact ⟨p, x, e, s _ _ h, ih h2⟩
  | two o a b iha ihb =>
    rintro v ⟨p, x, y, e, h, h2, h3⟩
    exact ⟨p, x, y, e, s _ _ h, iha h2, ihb h3⟩
theorem nodup_len : ∀ (L M : List Str), M.Nodup → (∀ z ∈ M, z ∈ L) → M.length ≤ L.length
  | [], M, _, h => by
    cases M with
    | nil => exact Nat.le_refl _
    | cons x M => exact absurd (h x (List.mem_cons_self ..)) (by simp)
  | x :: L, M, nd, h => by
    have q := nodup_len L (M.filter fun z => decide (z ≠ x)) (nd.sublist List.filter_sublist) fun z hz => by
      have hz := List.mem_filter.mp hz
      rcases List.mem_cons.mp (h z hz.1) with e | e
      · exact absurd e (of_decide_eq_true hz.2)
      · exact e
    have one : ∀ M : List Str, M.Nodup → M.length ≤ (M.filter fun z => decide (z ≠ x)).length + 1 := by
      intro M
      induction M with
      | nil => intro _; exact Nat.zero_le _
      | cons y M ih =>
        intro nd
        rw [List.nodup_cons] at nd
        by_cases e : y = x
        · subst e
          have all : M.filter (fun z => decide (z ≠ y)) = M := by
            rw [List.filter_eq_self]
            intro z hz
            exact decide_eq_true fun e => nd.1 (e ▸ hz)
          rw [List.filter_cons, all, List.length_cons]
          by_cases u : decide (y ≠ y) = true
          · rw [if_pos u, List.length_cons]
            omega
          · rw [if_neg u]
            omega
        · have := ih nd.2
          rw [List.filter_cons, if_pos (decide_eq_true e), List.length_cons, List.length_cons]
          omega
    have z := one M nd
    rw [List.length_cons]
    omega
theorem may_part {ns ys ks : List Str} {al : List (List Str)} (h : ∀ z ∈ ns, z ∈ ys) : may ns al (ys.filter fun n => decide (n ∈ ks)) = may ns al ks := by
  unfold may
  have e : ns.filter (fun n => decide (n ∈ ys.filter fun n => decide (n ∈ ks))) = ns.filter fun n => decide (n ∈ ks) := by
    refine List.filter_congr fun z hz => ?_
    rw [decide_eq_decide, List.mem_filter, decide_eq_true_iff]
    exact ⟨fun q => q.2, fun q => ⟨h z hz, q⟩⟩
  rw [e]
theorem may_of {ys ks : List Str} (c : List Str → Bool) : may ys ((subs ys).filter c) ks = c (ys.filter fun n => decide (n ∈ ks)) := by
  unfold may
  rw [Bool.eq_iff_iff, decide_eq_true_iff, List.mem_filter, subs_iff]
  exact ⟨fun q => q.2, fun q => ⟨List.filter_sublist, q⟩⟩
end IC
namespace IC
open PySem L2 TL
/-- what the operators of the class keep -/
structure ROps (P : Program) (w : World) (K : PySem.W.Frag) (mg : Str → Option Value) (base : Heap) (C : Addr) : Prop where
  first : PySem.W.selfFirst K C = true
  a : ∃ g, PySem.W.findIn K (.ref C) "__and__" = some (some (.ref g)) ∧ PySem.W.isFn K (.ref g) = true ∧ FnR P w K mg base CX0 3 g (spOp2 C (opB 0) (opS 0))
  o : ∃ g, PySem.W.findIn K (.ref C) "__or__" = some (some (.ref g)) ∧ PySem.W.isFn K (.ref g) = true ∧ FnR P w K mg base CX0 3 g (spOp2 C (opB 1) (opS 1))
  n : ∃ g, PySem.W.findIn K (.ref C) "__rshift__" = some (some (.ref g)) ∧ PySem.W.isFn K (.ref g) = true ∧ FnR P w K mg base CX0 3 g (spOp2 C (opB 2) (opS 2))
  i : ∃ g, PySem.W.findIn K (.ref C) "__invert__" = some (some (.ref g)) ∧ PySem.W.isFn K (.ref g) = true ∧ FnR P w K mg base CX0 3 g (spNot C)
  s : ∃ g, PySem.W.findIn K (.ref C) "__str__" = some (some (.ref g)) ∧ PySem.W.isFn K (.ref g) = true ∧ FnR P w K mg base CX0 1 g (spStr C)
section
variable {X : Cx} {C : Addr} {j : Nat} {a b : Expr} {ta tb : TE} {pos : Pos}
theorem pe_and2 (O : ROps X.prog X.w X.K X.mg X.base C) (hr : Room j X.A) (hk : 3 ≤ j) (ha : PE X a ta) (hb : PE X b tb) : PE X (.BinOp a .BitAnd b pos) (tOp (rOwn C (spOp2 C (opB 0) (opS 0))) ta tb) := by
  rcases O.a with ⟨g, h1, h2, F⟩
  exact pe_op (op_own O.first h1 h2 F (hr.mono hk)) ha hb
theorem pe_or2 (O : ROps X.prog X.w X.K X.mg X.base C) (hr : Room j X.A) (hk : 3 ≤ j) (ha : PE X a ta) (hb : PE X b tb) : PE X (.BinOp a .BitOr b pos) (tOp (rOwn C (spOp2 C (opB 1) (opS 1))) ta tb) := by
  rcases O.o with ⟨g, h1, h2, F⟩
  exact pe_op (op_own O.first h1 h2 F (hr.mono hk)) ha hb
theorem pe_needs2 (O : ROps X.prog X.w X.K X.mg X.base C) (hr : Room j X.A) (hk : 3 ≤ j) (ha : PE X a ta) (hb : PE X b tb) : PE X (.BinOp a .RShift b pos) (tOp (rOwn C (spOp2 C (opB 2) (opS 2))) ta tb) := by
  rcases O.n with ⟨g, h1, h2, F⟩
  exact pe_op (op_own O.first h1 h2 F (hr.mono hk)) ha hb
theorem pe_no (O : ROps X.prog X.w X.K X.mg X.base C) (hr : Room j X.A) (hk : 3 ≤ j) (ha : PE X a ta) : PE X (.UnaryOp .Invert a pos) (tUn (rOwn1 C (spNot C)) ta) := by
  rcases O.i with ⟨g, h1, h2, F⟩
  exact pe_un (un_own h1 h2 F (hr.mono hk)) ha
end
end IC
namespace IC
open PySem L2 TL
theorem cr_str2 {X : Cx} {C : Addr} {j : Nat} (O : ROps X.prog X.w X.K X.mg X.base C) (hr : Room j X.A) (hk : 3 ≤ j) : CallR X (.type "str") (rStrOwn C (spStr C)) := by
  rcases O.s with ⟨g, h1, h2, F⟩
  exact cr_strOwn h1 h2 F (hr.mono hk)
end IC
namespace IC
open PySem L2 TL
theorem NoW.same {K : PySem.W.Frag} {H H' : Hp} {v : V} (h : NoW K H v) (s : Same H H') : NoW K H' v := h.imp id fun ⟨T, a, b⟩ => Oth.mv ⟨T, a, b⟩ s
def tooM : List (Str × V) := fsTM (.str "records")
def spFewX (ET : Addr) : Sp := fun vs H Q E => ∃ (t : Addr) (ns : List Str), vs = [.ref t] ∧ H t = some (.tup (ns.map V.str)) ∧ ((ns.length ≤ 6 ∧ Q .non H) ∨ (7 ≤ ns.length ∧ ErrQ ET tooM H E))
def spHasBad (K : PySem.W.Frag) (EB : Addr) : Sp := fun vs H _ E => ∃ v : V, vs = [v] ∧ NoW K H v ∧ ErrQ EB (fsB v) H E
def spTogX (K : PySem.W.Frag) (C EB ET : Addr) : Sp := fun vs H Q E => ∃ (t : Addr) (xs : List V), vs = [.ref t] ∧ H t = some (.tup xs) ∧ xs.length ≤ 100 ∧
  ((∃ (k : Nat) (v : V), xs[k]? = some v ∧ (∀ i, i < k → ∃ z, xs[i]? = some (.str z) ∧ IsW z) ∧ NoW K H v ∧ ErrQ EB (fsB v) H E) ∨
   (∃ zs : List Str, xs = zs.map V.str ∧ (∀ z ∈ zs, IsW z) ∧ ∀ M ys : List Str, M.Nodup → (∀ z, z ∈ M ↔ z ∈ zs) → ys.Perm M → PyProof.Rows.sortedS ys = true → (ys.length ≤ 6 ∧ NewR C H ys [[], ys] (togT ys) Q) ∨ (7 ≤ ys.length ∧ ErrQ ET tooM H E)))
/-- self._names_with(other) -/
def spWithX (C ET : Addr) : Sp := fun vs H _ E => ∃ (r s : Addr) (ns ms : List Str) (al bl : List (List Str)) (z y : Str), vs = [.ref r, .ref s] ∧ RuleAt C H r ns al z ∧ RuleAt C H s ms bl y ∧ ns.length ≤ 100 ∧ ms.length ≤ 100 ∧ (∀ M : List Str, M.Nodup → (∀ z, z ∈ M ↔ z ∈ ns ∨ z ∈ ms) → 7 ≤ M.length) ∧ ErrQ ET tooM H E
section
variable {P : Program} {w : World} {K : PySem.W.Frag} {mg : Str → Option Value} {base : Heap} {C EB ET : Addr}
theorem ok_fewX {f : Addr} {fd : FuncData} (F : Fun K "check_few" "check_few" s_check_few f fd) (T : Bn mg) (R : RTxt K mg C) (E_TM : EDf P w K mg base 1 "TooMany" ET "what" fsTM) (kTM : PySem.W.keepIn K (.ref ET) = true) : FnOk P w K mg base (L2.CX P w) 3 f fd ["names"] (spFewX ET) := by
  refine F.okX sc_check_few (fun vs H Q E h => ?_) (fun cdv A outer s H vs Q E hr h => ?_)
  · obtain ⟨t, ns, rfl, _⟩ := h
    rfl
  · obtain ⟨t, ns, rfl, ht, k⟩ := h
    refine ⟨_, (pss_one (ps_if (pt_cmpR op_gt (pe_callB call_len_seq (by rfl) T.len PySem.boot_len (pa_cons (pv 0) pa_nil)) (pe_gv2 R.gM rfl) (nomark _))
  (pss_one (ps_raise rfl (takes_of rfl rfl rfl rfl) (pmk_ed E_TM kTM hr (by first | decide | omega) rfl (pa_cons pe_str pa_nil))))
  pss_nil)), ?_⟩
    refine ⟨_, rfl, t, _, rfl, .inr (SqT.of ht), _, _, rfl, rfl, _, rfl, ?_⟩
    rcases k with ⟨few, k⟩ | ⟨many, k⟩
    · have e : decide ((6 : Int) < ((ns.map V.str).length : Int)) = false := by
        rw [List.length_map]
        exact decide_eq_false (by omega)
      dsimp only
      rw [show decide (((ns.map V.str).length : Int) > 6) = false from e]
      exact iteF k
    · have e : decide ((6 : Int) < ((ns.map V.str).length : Int)) = true := by
        rw [List.length_map]
        exact decide_eq_true (by omega)
      dsimp only
      rw [show decide (((ns.map V.str).length : Int) > 6) = true from e]
      exact iteT (mke _ rfl fun x hx => k x _ (Same.new hx) upd_same)
theorem ok_hasBad {f : Addr} {fd : FuncData} (F : Fun K "has" "Rule.has" s_Rule_has f fd) (R : RTxt K mg C) (D_is_word : Df P w K mg base 1 "is_word" ["thing"] (spIsWord K)) (C_R : RDf P w K mg base 1 C) (E_B : EDf P w K mg base 1 "BadWord" EB "word" fsB) (kB : PySem.W.keepIn K (.ref EB) = true) : FnOk P w K mg base (L2.CX P w) 3 f fd ["record"] (spHasBad K EB) := by
  refine F.okX sc_Rule_has (fun vs H Q E h => ?_) (fun cdv A outer s H vs Q E hr h => ?_)
  · obtain ⟨z, rfl, _⟩ := h
    rfl
  · obtain ⟨v, rfl, nw, k⟩ := h
    refine ⟨_, (pss_cons (ps_if (pt_not (pt_val (pe_df D_is_word hr (by first | decide | omega) rfl (pa_cons (pv 0) pa_nil))))
  (pss_one (ps_raise rfl (takes_of rfl rfl rfl rfl) (pmk_ed E_B kB hr (by first | decide | omega) rfl (pa_cons (pv 0) pa_nil))))
  pss_nil)
  (pss_one (ps_ret (pe_mkR C_R hr (by first | decide | omega) rfl (pa_cons (pe_tup (pa_cons (pv 0) pa_nil)) (pa_cons (pe_lst (pa_cons (pe_tup (pa_cons (pv 0) pa_nil)) pa_nil)) (pa_cons (pv 0) pa_nil))))))), ?_⟩
    refine ⟨_, rfl, _, rfl, ?_⟩
    rcases nw with ⟨z, rfl, hl, hz⟩ | ot
    · refine .inl ⟨z, rfl, hl, fun H1 s1 => ⟨_, rfl, ?_⟩⟩
      rw [hz]
      exact iteT ⟨_, rfl, mke _ rfl fun x hx => k x _ (s1.trans (Same.new hx)) upd_same⟩
    · exact .inr ⟨ot, fun H1 s1 => ⟨_, rfl, iteT ⟨_, rfl, mke _ rfl fun x hx => k x _ (s1.trans (Same.new hx)) upd_same⟩⟩⟩
theorem Fun.starX {x qual v : Str} {st : Stmt} {fa : Addr} {fd : FuncData} {M : List Str} {n : Nat} {sp : Sp} (D : Fun K x qual st fa fd) (S : FnScope M [v] (defScope st))
    (bind : ∀ (oc : Value) (kV doc pm : Value) (an : Option Addr) (cdv ct : Value) (rest : List Value), bindArgs (PySem.W.fnOf x qual (defArgs st) (defBody st) (defScope st) .none kV doc pm an cdv ct) ⟨rest, []⟩ = (newTuple rest >>= fun t => pure [(v, t)]))
    (walk : ∀ (cdv : Value) (B : Around) (out : List Env) (s : Shared) (H : Hp) (vs : List V) (Q : VK) (E : XK), Room n (B.deeper (PyProof.Rows.envOfC qual (defScope st) s.heap.objs.size fa cdv)) → sp vs H Q E →
      ∃ t, PSs (cxOf (L2.CX P w) P w K mg base M qual (defScope st) fa cdv B out s H E) (defBody st) t ∧ t { nx := fun _ G => Q .non G, rt := Q } (L2.start M vs) H) :
    FnR P w K mg base (L2.CX P w) (n + 1) fa (fun vs H Q E => vs.length ≤ sizeLine ∧ ∀ p, H p = none → sp [.ref p] (upd H p (.tup vs)) Q E) := by
  rcases D.ex with ⟨oc, _, kV, doc, pm, an, cv, ct, _, rfl, at_, code⟩
  refine FnR.imp (StX.fn_star (ps := []) (pv := v) (sp := sp) at_ code S StX.cxUp (fun us rest e => ?_) (fun B out s H vs Q E room h => walk cv B out s H vs Q E room h)) fun vs H Q E h => ⟨[], vs, rfl, rfl, h.1, h.2⟩
  have e0 : us = [] := List.length_eq_zero_iff.mp e
  subst e0
  exact bind oc kV doc pm an cv ct rest
theorem ok_togX {f : Addr} {fd : FuncData} (F : Fun K "together" "Rule.together" s_Rule_together f fd) (T : Bn mg) (D_is_word : Df P w K mg base 1 "is_word" ["thing"] (spIsWord K)) (D_fewX : DfX P w K mg base 3 "check_few" ["names"] (spFewX ET)) (C_R : RDf P w K mg base 1 C) (E_B : EDf P w K mg base 1 "BadWord" EB "word" fsB) (kB : PySem.W.keepIn K (.ref EB) = true) :
    FnR P w K mg base (L2.CX P w) 4 f (fun vs H Q E => vs.length ≤ sizeLine ∧ ∀ p, H p = none → spTogX K C EB ET [.ref p] (upd H p (.tup vs)) Q E) := by
  refine Fun.starX (n := 3) (sp := spTogX K C EB ET) (v := "records") F sc_Rule_together (fun oc kV doc pm an cdv ct rest => by cases rest <;> rfl) (fun cdv A outer s H vs Q E hr h => ?_)
  obtain ⟨t, xs, rfl, ht, few, h⟩ := h
  refine ⟨_, (pss_cons (ps_for (passes_of rfl) rfl (pi_tup (pv 0)) (pg_name (i := 1) sc_Rule_together.nd rfl (Or.inl rfl))
  (pss_one (ps_if (pt_not (pt_val (pe_df D_is_word hr (by first | decide | omega) rfl (pa_cons (pv 1) pa_nil))))
  (pss_one (ps_raise rfl (takes_of rfl rfl rfl rfl) (pmk_ed E_B kB hr (by first | decide | omega) rfl (pa_cons (pv 1) pa_nil))))
  pss_nil)))
  (pss_cons (ps_set (i := 2) sc_Rule_together.nd rfl (Or.inl rfl) (pe_callTy call_tuple_of (by rfl) T.tuple (by decide +kernel) (pa_cons (pe_callB (cr_sortTx rfl) (by rfl) T.sorted (by decide +kernel) (pa_cons (pe_callTy (cr_setTx rfl) (by rfl) T.set (by decide +kernel) (pa_cons (pv 0) pa_nil)) pa_nil)) pa_nil)))
  (pss_cons (ps_expr (pe_dfX D_fewX (takes_of rfl rfl rfl rfl) hr (by first | decide | omega) rfl (pa_cons (pv 2) pa_nil)))
  (pss_cons (ps_set (i := 3) sc_Rule_together.nd rfl (Or.inl rfl) (pe_join pe_str (pv 2)))
  (pss_one (ps_ret (pe_mkR C_R hr (by first | decide | omega) rfl (pa_cons (pv 2) (pa_cons (pe_lst (pa_cons (pe_tup pa_nil) (pa_cons (pv 2) pa_nil))) (pa_cons (pe_joined (PJ.cons pe_str (PJ.cons (pe_fmt (pv 3)) (PJ.cons pe_str PJ.nil)))) pa_nil)))))))))), ?_⟩
  rcases h with ⟨kk, v, hv, hb, nw, k⟩ | ⟨zs, rfl, hw, k⟩
  · refine ⟨_, rfl, t, rfl, ⟨_, SqT.of ht⟩, for_tup (K := K) (a := t) (xs := xs) (fun i σ H' => ∃ o : Option V, σ = [some (.ref t), o, none, none] ∧ Same H H' ∧ i ≤ kk) ⟨_, rfl, Same.refl H, Nat.zero_le _⟩ (fun i σ H' _ e => ?_) (fun i x σ H' hi e => ?_) (fun σ H' e => ?_)⟩
    · obtain ⟨o, rfl, s1, _⟩ := e
      exact SqT.of (s1 _ _ ht)
    · obtain ⟨o, rfl, s1, hk⟩ := e
      by_cases q : i < kk
      · obtain ⟨z, hz, wz⟩ := hb i q
        rw [hz] at hi
        cases hi
        refine ⟨_, rfl, .str z, rfl, .inl ⟨z, rfl, by have := wz.2.1; omega, fun H1 s2 => ⟨_, rfl, ?_⟩⟩⟩
        rw [wB_of wz]
        exact iteF ⟨_, rfl, s1.trans s2, by omega⟩
      · have e : i = kk := by omega
        subst e
        rw [hv] at hi
        cases hi
        refine ⟨_, rfl, _, rfl, ?_⟩
        have nw := nw.same s1
        have k := k.same s1
        rcases nw with ⟨z, rfl, hl, hz⟩ | ot
        · refine .inl ⟨z, rfl, hl, fun H1 s1 => ⟨_, rfl, ?_⟩⟩
          rw [hz]
          exact iteT ⟨_, rfl, mke _ rfl fun x hx => k x _ (s1.trans (Same.new hx)) upd_same⟩
        · exact .inr ⟨ot, fun H1 s1 => ⟨_, rfl, iteT ⟨_, rfl, mke _ rfl fun x hx => k x _ (s1.trans (Same.new hx)) upd_same⟩⟩⟩
    · obtain ⟨o, rfl, s1, hk⟩ := e
      have := (List.getElem?_eq_some_iff.mp hv).1
      omega
  · rw [List.length_map] at few
    refine ⟨_, rfl, t, rfl, ⟨_, SqT.of ht⟩, for_tup (K := K) (a := t) (xs := zs.map V.str) (fun i σ H' => ∃ o : Option V, σ = [some (.ref t), o, none, none] ∧ Same H H') ⟨_, rfl, Same.refl H⟩ (fun i σ H' _ e => ?_) (fun i x σ H' hi e => ?_) (fun σ H' e => ?_)⟩
    · obtain ⟨o, rfl, s1⟩ := e
      exact SqT.of (s1 _ _ ht)
    · obtain ⟨o, rfl, s1⟩ := e
      rw [List.getElem?_map] at hi
      cases ez : zs[i]? with
      | none =>
        rw [ez] at hi
        cases hi
      | some z =>
        rw [ez] at hi
        cases hi
        have hz := hw z (List.mem_of_getElem? ez)
        refine ⟨_, rfl, .str z, rfl, .inl ⟨z, rfl, by have := hz.2.1; omega, fun H1 s2 => ⟨_, rfl, ?_⟩⟩⟩
        rw [wB_of hz]
        exact iteF ⟨_, rfl, s1.trans s2⟩
    · obtain ⟨o, rfl, s1⟩ := e
      refine ⟨_, rfl, t, zs, rfl, .inr (SqT.of (s1 _ _ ht)), by omega, fun p M np ml mem nd => ⟨p, M, rfl, upd_same, fun ys q perm so nq => ⟨q, _, rfl, .inl ⟨SqL.of upd_same, fun l nl => ?_⟩⟩⟩⟩
      have sp := Same.new (o := TxO w p M) np
      have sq := Same.new (o := .lst (ys.map V.str)) nq
      have sl := Same.new (o := .tup (ys.map V.str)) nl
      have s2 := ((s1.trans sp).trans sq).trans sl
      have at_ : upd (upd (upd H' p (TxO w p M)) q (.lst (ys.map V.str))) l (.tup (ys.map V.str)) l = some (.tup (ys.map V.str)) := upd_same
      rcases k M ys nd mem perm so with ⟨ylen, k⟩ | ⟨ylen, k⟩
      · refine ⟨_, rfl, l, ys, rfl, at_, .inl ⟨ylen, ?_⟩⟩
        have y8 : ∀ z ∈ ys, z.length ≤ 8 := fun z hz => by
          have q := hw z ((mem z).mp (perm.mem_iff.mp hz))
          rw [len_tl]
          exact q.2.1
        have ysum := sum_le8 ys y8
        have jl := join_len " " ys
        have e1 : (" " : Str).length = 1 := by decide +kernel
        rw [e1] at jl
        refine ⟨⟨_, rfl⟩, _, rfl, _, l, ys, rfl, rfl, .inr (SqT.of at_), by rw [e1]; omega, ?_⟩
        refine ⟨_, rfl, by show 0 ≤ sizeLine; decide, fun t2 n2 => ⟨_, rfl, by show 2 ≤ sizeLine; decide, fun lb nlb => ?_⟩⟩
        refine ⟨_, rfl, by decide +kernel, _, rfl, .inl ⟨_, rfl, Nat.le_of_lt (small1000 (by omega)), _, rfl, ?_, _, rfl, ?_, ?_⟩⟩
        · have e2 : (Str.empty ++ Str.ofString "together(").length = 9 := by decide +kernel
          rw [len_app, e2]
          exact Nat.le_of_lt (small1000 (by omega))
        · have e2 : (Str.empty ++ Str.ofString "together(").length = 9 := by decide +kernel
          have e3 : (Str.ofString ")").length = 1 := by decide +kernel
          rw [len_app, len_app, e2, e3]
          exact Nat.le_of_lt (small1000 (by omega))
        · have sa := Same.new (o := HO.tup []) n2
          have sb := Same.new (o := HO.lst [.ref t2, .ref l]) nlb
          refine make_rule (ns := ys) (al := [[], ys]) (rs := [t2, l]) ((sa.trans sb) _ _ at_) upd_same ⟨rfl, fun i r k e1 e2 => ?_⟩ (by show 2 ≤ 100; decide) (k.same ((s2.trans sa).trans sb))
          match i with
          | 0 =>
            cases e1
            cases e2
            exact sb _ _ upd_same
          | 1 =>
            cases e1
            cases e2
            exact (sa.trans sb) _ _ at_
          | i + 2 => cases e1
      · exact ⟨_, rfl, l, ys, rfl, at_, .inr ⟨ylen, k.same s2⟩⟩
theorem ok_withX {f : Addr} {fd : FuncData} (F : Fun K "_names_with" "Rule._names_with" s_Rule__names_with f fd) (T : Bn mg) (R : RTxt K mg C) (D_united : Df P w K mg base 1 "united" ["names", "others"] spUnited) (D_fewX : DfX P w K mg base 3 "check_few" ["names"] (spFewX ET)) : FnOk P w K mg base (L2.CX P w) 4 f fd ["self", "other"] (spWithX C ET) := by
  refine F.okX sc_Rule__names_with (fun vs H Q E h => ?_) (fun cdv A outer s H vs Q E hr h => ?_)
  · obtain ⟨r, q, ns, ms, al, bl, z, y, rfl, _⟩ := h
    rfl
  · obtain ⟨r, q, ns, ms, al, bl, z, y, rfl, ⟨dx, t, d, h1, h2, h3⟩, ⟨dy, u, e, g1, g2, g3⟩, l1, l2, many, k⟩ := h
    refine ⟨_, (pss_cons (ps_set (i := 2) sc_Rule__names_with.nd rfl (Or.inl rfl) (pe_df D_united hr (by first | decide | omega) rfl (pa_cons (pe_fld (pv 0) rfl) (pa_cons (pe_fld (pv 1) rfl) pa_nil))))
  (pss_cons (ps_expr (pe_dfX D_fewX (takes_of rfl rfl rfl rfl) hr (by first | decide | omega) rfl (pa_cons (pv 2) pa_nil)))
  (pss_one (ps_ret (pv 2))))), ?_⟩
    refine ⟨_, rfl, r, C, dx, _, _, rfl, h1, R.c, R.n, rfl, _, rfl, q, C, dy, _, _, rfl, g1, R.c, R.n, rfl, t, u, ns, ms, rfl, h2, g2, l1, l2, fun M ys nd mem perm so H' p s1 hp => ?_⟩
    refine ⟨_, rfl, p, ys, rfl, hp, .inr ⟨?_, k.same s1⟩⟩
    rw [perm.length_eq]
    exact many M nd mem
theorem ok_andX {f : Addr} {fd : FuncData} (F : Fun K "__and__" "Rule.__and__" s_Rule___and__ f fd) (R : RTxt K mg C) (M_withX : MDf P w K mg base (L2.CX P w) 4 C "_names_with" ["self", "other"] [] (spWithX C ET)) : FnOk P w K mg base (L2.CX P w) 5 f fd ["self", "other"] (spWithX C ET) := by
  refine F.okX sc_Rule___and__ (fun vs H Q E h => ?_) (fun cdv A outer s H vs Q E hr h => ?_)
  · obtain ⟨r, q, ns, ms, al, bl, z, y, rfl, _⟩ := h
    rfl
  · obtain ⟨r, q, ns, ms, al, bl, z, y, rfl, ⟨dx, t, d, h1, h2, h3⟩, rest⟩ := h
    refine ⟨_, (pss_cons (ps_set (i := 2) sc_Rule___and__.nd rfl (Or.inl rfl) (pe_mdX M_withX R.c (takes_of rfl rfl rfl rfl) hr (by decide) (pv 0) (pa_cons (pv 1) pa_nil))) pss_dead), ?_⟩
    exact ⟨_, rfl, r, dx, _, rfl, h1, rfl, _, rfl, r, q, ns, ms, al, bl, z, y, rfl, ⟨dx, t, d, h1, h2, h3⟩, rest⟩
theorem ok_orX {f : Addr} {fd : FuncData} (F : Fun K "__or__" "Rule.__or__" s_Rule___or__ f fd) (R : RTxt K mg C) (M_withX : MDf P w K mg base (L2.CX P w) 4 C "_names_with" ["self", "other"] [] (spWithX C ET)) : FnOk P w K mg base (L2.CX P w) 5 f fd ["self", "other"] (spWithX C ET) := by
  refine F.okX sc_Rule___or__ (fun vs H Q E h => ?_) (fun cdv A outer s H vs Q E hr h => ?_)
  · obtain ⟨r, q, ns, ms, al, bl, z, y, rfl, _⟩ := h
    rfl
  · obtain ⟨r, q, ns, ms, al, bl, z, y, rfl, ⟨dx, t, d, h1, h2, h3⟩, rest⟩ := h
    refine ⟨_, (pss_cons (ps_set (i := 2) sc_Rule___or__.nd rfl (Or.inl rfl) (pe_mdX M_withX R.c (takes_of rfl rfl rfl rfl) hr (by decide) (pv 0) (pa_cons (pv 1) pa_nil))) pss_dead), ?_⟩
    exact ⟨_, rfl, r, dx, _, rfl, h1, rfl, _, rfl, r, q, ns, ms, al, bl, z, y, rfl, ⟨dx, t, d, h1, h2, h3⟩, rest⟩
theorem ok_needsX {f : Addr} {fd : FuncData} (F : Fun K "__rshift__" "Rule.__rshift__" s_Rule___rshift__ f fd) (R : RTxt K mg C) (M_withX : MDf P w K mg base (L2.CX P w) 4 C "_names_with" ["self", "other"] [] (spWithX C ET)) : FnOk P w K mg base (L2.CX P w) 5 f fd ["self", "other"] (spWithX C ET) := by
  refine F.okX sc_Rule___rshift__ (fun vs H Q E h => ?_) (fun cdv A outer s H vs Q E hr h => ?_)
  · obtain ⟨r, q, ns, ms, al, bl, z, y, rfl, _⟩ := h
    rfl
  · obtain ⟨r, q, ns, ms, al, bl, z, y, rfl, ⟨dx, t, d, h1, h2, h3⟩, rest⟩ := h
    refine ⟨_, (pss_cons (ps_set (i := 2) sc_Rule___rshift__.nd rfl (Or.inl rfl) (pe_mdX M_withX R.c (takes_of rfl rfl rfl rfl) hr (by decide) (pv 0) (pa_cons (pv 1) pa_nil))) pss_dead), ?_⟩
    exact ⟨_, rfl, r, dx, _, rfl, h1, rfl, _, rfl, r, q, ns, ms, al, bl, z, y, rfl, ⟨dx, t, d, h1, h2, h3⟩, rest⟩
end
end IC
namespace IC
open PySem PySem.Spec PyProof.Rows L2 TL NdefX LamV
open LamX hiding takes0
/-! ### the lambdas of the law -/
def lawB (i : Nat) : Stmt := match (defBody s_law).head? with
  | some (.For _ _ b _ _) => b.getD i (.Pass ⟨0, 0, 0, 0⟩)
  | _ => .Pass ⟨0, 0, 0, 0⟩
def arg0 : Expr → Expr
  | .Call _ (a :: _) _ _ => a
  | e => e
def lamS : Stmt → Expr
  | .If (.Compare l _ _ _) _ _ _ => arg0 l
  | .Assign _ (.List (a :: _) _) _ => a
  | .Assign _ v _ => arg0 v
  | .Expr v _ => arg0 v
  | _ => .Name "" ⟨0, 0, 0, 0⟩
def lamP : Expr → Arguments
  | .Lambda a _ _ _ => a
  | _ => defArgs s_law
def lamE : Expr → Expr
  | .Lambda _ e _ _ => e
  | e => e
def lamC : Expr → Scope
  | .Lambda _ _ s _ => s
  | _ => defScope s_law
abbrev lamQ : Str := "law.<locals>.<lambda>"
def lamF (e : Expr) (cl : List (Str × Addr)) (c' : Addr) : LF := ⟨lamQ, lamP e, lamE e, lamC e, cl, c'⟩
abbrev Lm (i : Nat) : Expr := lamS (lawB i)
theorem ns5 : NScope ["odd"] [] ["odd"] (lamC (Lm 5)) := nscope_by (by decide +kernel)
theorem ns6 : NScope ["given"] [] ["given"] (lamC (Lm 6)) := nscope_by (by decide +kernel)
theorem ns7 : NScope ["words"] [] ["words"] (lamC (Lm 7)) := nscope_by (by decide +kernel)
theorem ns9 : NScope ["words"] [] ["words"] (lamC (Lm 9)) := nscope_by (by decide +kernel)
theorem ns17 : NScope ["one", "other"] [] ["one", "other"] (lamC (Lm 17)) := nscope_by (by decide +kernel)
theorem ns18 : NScope ["one", "other"] [] ["one", "other"] (lamC (Lm 18)) := nscope_by (by decide +kernel)
theorem ns19 : NScope ["one", "other"] [] ["one", "other"] (lamC (Lm 19)) := nscope_by (by decide +kernel)
/-- how a call ends: BadWord of a thing, TooMany of records, a rule about these -/
inductive Out where
  | bad (v : V)
  | many
  | rule (ys : List Str)
def endO (C EB ET : Addr) (H : Hp) (Q : VK) (E : XK) : Out → Prop
  | .bad v => ErrQ EB (fsB v) H E
  | .many => ErrQ ET tooM H E
  | .rule ys => ∀ (H' : Hp) (r : Addr) (al : List (List Str)) (z : Str), Same H H' → RuleAt C H' r ys al z → Q (.ref r) H'
theorem endO.same {C EB ET : Addr} {H H1 : Hp} {Q : VK} {E : XK} {o : Out} (h : endO C EB ET H Q E o) (s : Same H H1) : endO C EB ET H1 Q E o := by
  cases o with
  | bad v => exact ErrQ.same h s
  | many => exact ErrQ.same h s
  | rule ys => exact fun H' r al z s2 ra => h H' r al z (s.trans s2) ra
abbrev PreL := List (Option V) → Hp → Out → Prop
def spLam (C EB ET : Addr) (Pre : PreL) : List (Option V) → Sp := fun ws vs H Q E => vs = [] ∧ ∃ o, Pre ws H o ∧ endO C EB ET H Q E o
def TellO (H : Hp) (t : Addr) : Out → Prop
  | .bad v => H t = some (.tup [.str "badword", v])
  | .many => H t = some (.tup [.str "toomany", .str "records"])
  | .rule ys => ∃ l, H t = some (.tup [.str "rule", .ref l]) ∧ H l = some (.lst (ys.map V.str))
/-- _law_made(make), make the lambda e of the law -/
def spMade (e : Expr) (Pre : PreL) : SpC := fun cl ws vs H Q _ => ∃ (f c' : Addr) (o : Out), vs = [.ref f] ∧ H f = some (FnL f (lamF e cl c')) ∧ H c' = some (CodeO c' lamQ) ∧ Pre ws H o ∧ ∀ (H' : Hp) (t : Addr), Same H H' → TellO H' t o → Q (.ref t) H'
structure Cl18 (K : PySem.W.Frag) (mg : Str → Option Value) (EB ET CI : Addr) : Prop where
  gB : mg "BadWord" = some (.ref EB)
  gT : mg "TooMany" = some (.ref ET)
  gI : mg "InnercommitsError" = some (.ref CI)
  xB : XfC K EB
  xT : XfC K ET
  nBw : PySem.W.findIn K (.ref EB) "word" = some none
  nTw : PySem.W.findIn K (.ref ET) "what" = some none
  bb : PySem.W.exmOne K (.ref EB) (.ref EB) = some true
  tb : PySem.W.exmOne K (.ref ET) (.ref EB) = some false
  tt : PySem.W.exmOne K (.ref ET) (.ref ET) = some true
theorem RuleAt.recs {C : Addr} {H : Hp} {r : Addr} {ns : List Str} {al : List (List Str)} {z : Str} (h : RuleAt C H r ns al z) : ∃ dx fs, H r = some (.ins C dx fs) ∧ fs.lookup (Str.ofString "records") = none := by
  rcases h with ⟨dx, t, d, h1, _⟩
  exact ⟨dx, _, h1, rfl⟩
/-- _law_eight(w) -/
def spEight (K : PySem.W.Frag) (C EB ET : Addr) : Sp := fun vs H Q E => ∃ (w : Addr) (xs : List V), vs = [.ref w] ∧ H w = some (.lst xs) ∧ xs.length = 8 ∧ ∀ p, H p = none → spTogX K C EB ET [.ref p] (upd H p (.tup xs)) Q E
/-- a text that may be laid -/
def TxtN (n : Nat) (z : Str) : Prop := z.length ≤ n ∧ ∀ c ∈ tl z, Okc c
theorem sorted_of : ∀ l : List Str, l.Pairwise leS → PyProof.Rows.sortedS l = true
  | [], _ => rfl
  | x :: r, h => by
    obtain ⟨h1, h2⟩ := List.pairwise_cons.mp h
    have ih := sorted_of r h2
    have all : ∀ (r : List Str) (p : Str), (∀ y ∈ r, leS p y) → PyProof.Rows.sortedS r = true → PyProof.Rows.risingS p r = true := fun r p q s => by
      cases r with
      | nil => rfl
      | cons y r =>
        show (!PySem.Spec.ltCps y.cps.toList p.cps.toList && PyProof.Rows.risingS y r) = true
        have e : PySem.Spec.ltCps y.cps.toList p.cps.toList = false := q y (List.mem_cons_self ..)
        rw [e]
        exact s
    exact all r x h1 ih
theorem sorted_take {l : List Str} (h : PyProof.Rows.sortedS l = true) (n : Nat) : PyProof.Rows.sortedS (l.take n) = true := sorted_of _ ((sorted_pw l h).sublist (List.take_sublist n l))
theorem sorted_drop {l : List Str} (h : PyProof.Rows.sortedS l = true) (n : Nat) : PyProof.Rows.sortedS (l.drop n) = true := sorted_of _ ((sorted_pw l h).sublist (List.drop_sublist n l))
def spConj (C : Addr) : Sp := fun vs H Q _ => ∃ (wl : Addr) (ws : List Str), vs = [.ref wl] ∧ H wl = some (.lst (ws.map V.str)) ∧ 1 ≤ ws.length ∧ ws.length ≤ 6 ∧ (∀ z ∈ ws, IsW z) ∧ ws.Nodup ∧ PyProof.Rows.sortedS ws = true ∧
  ∀ (H' : Hp) (r : Addr) (al : List (List Str)) (z : Str), Same H H' → RuleAt C H' r ws al z → TxtN 1000 z → Q (.ref r) H'
section
variable {P : Program} {w : World} {K : PySem.W.Frag} {mg : Str → Option Value} {base : Heap} {C EB ET CI pT fT pH fH : Addr}
theorem ok_eight {f : Addr} {fd : FuncData} (F : Fun K "_law_eight" "_law_eight" s_law_eight f fd) (R : RTxt K mg C) (S_t : SMet K C (.type "type") "together" pT fT) (F_tX : FnR P w K mg base (L2.CX P w) 4 fT (fun vs H Q E => vs.length ≤ sizeLine ∧ ∀ p, H p = none → spTogX K C EB ET [.ref p] (upd H p (.tup vs)) Q E)) :
    FnOk P w K mg base (L2.CX P w) 5 f fd ["w"] (spEight K C EB ET) := by
  refine F.okX sc_law_eight (fun vs H Q E h => ?_) (fun cdv A outer s H vs Q E hr h => ?_)
  · obtain ⟨l, zs, rfl, _⟩ := h
    rfl
  · obtain ⟨l, xs, rfl, hl, h8, k⟩ := h
    refine ⟨_, (pss_one (ps_ret (pe_smRX (pe_glob (v := .ref _) rfl R.gC rfl) S_t F_tX (takes_of rfl rfl rfl rfl) hr (by first | decide | omega) (pa_cons (pe_ix ix_list (pv 0) pe_int (fun _ _ => rfl)) (pa_cons (pe_ix ix_list (pv 0) pe_int (fun _ _ => rfl)) (pa_cons (pe_ix ix_list (pv 0) pe_int (fun _ _ => rfl)) (pa_cons (pe_ix ix_list (pv 0) pe_int (fun _ _ => rfl)) (pa_cons (pe_ix ix_list (pv 0) pe_int (fun _ _ => rfl)) (pa_cons (pe_ix ix_list (pv 0) pe_int (fun _ _ => rfl)) (pa_cons (pe_ix ix_list (pv 0) pe_int (fun _ _ => rfl)) (pa_cons (pe_ix ix_list (pv 0) pe_int (fun _ _ => rfl)) pa_nil))))))))))), ?_⟩
    match xs, h8 with
    | [_, _, _, _, _, _, _, _], _ =>
      have e : ∀ i : Nat, i < 8 → True := fun _ _ => trivial
      exact ⟨rfl, _, rfl, l, _, 0, _, rfl, rfl, SqL.of hl, rfl, _, rfl, l, _, 1, _, rfl, rfl, SqL.of hl, rfl, _, rfl, l, _, 2, _, rfl, rfl, SqL.of hl, rfl, _, rfl, l, _, 3, _, rfl, rfl, SqL.of hl, rfl, _, rfl, l, _, 4, _, rfl, rfl, SqL.of hl, rfl, _, rfl, l, _, 5, _, rfl, rfl, SqL.of hl, rfl, _, rfl, l, _, 6, _, rfl, rfl, SqL.of hl, rfl, _, rfl, l, _, 7, _, rfl, rfl, SqL.of hl, rfl, (by show 8 ≤ sizeLine; decide), k⟩
theorem ok_made {f : Addr} {fd : FuncData} (F : Fun K "_law_made" "_law_made" s_law_made f fd) (R : RTxt K mg C) (Z : Cl18 K mg EB ET CI) (M_records : MDf P w K mg base CX0 1 C "records" ["self"] [] (spRecs C)) {fr : List Str} {e : Expr} {Pre : PreL} (Fn : ∀ cl fl c', LOk P w K mg base (L2.CX P w) 7 fl (lamF e cl c') [] fr (spLam C EB ET Pre)) :
    FnS P w K mg base CX0 8 f fd ["make"] fr (spMade e Pre) := by
  refine Fun.okS F sc_law_made (fun cl ws vs H Q E h => ?_) (fun cdv A outer s H vs Q E cl ws hr CA h => ?_)
  · obtain ⟨fl, c', o, rfl, _⟩ := h
    rfl
  · obtain ⟨fl, c', o, rfl, hf, hc, pre, k⟩ := h
    refine ⟨_, (pss_cons (ps_try_cl rfl rfl sc_law_made.nd takes0 (fun W pn xe tk _ => (pss_one (ps_set (i := 1) sc_law_made.nd rfl (Or.inl rfl) (pe_callL (mk := lamF e) (cl := cl) (ws := ws) (i := 0) (Fn cl) (fun c' pins σ H s I => late_of I CA rfl) tk hr (by first | decide | omega) rfl (Or.inl rfl)))))
  (.nm (i := 2) rfl rfl ⟨rfl, by decide, .inl Z.gB⟩ (fun a oe cls d pn hz hf => (pss_one (ps_ret (pe_tup (pa_cons pe_str (pa_cons (pe_xf Z.xB Z.nBw hz hf (pv 2)) pa_nil))))))
  (.nm (i := 2) rfl rfl ⟨rfl, by decide, .inl Z.gT⟩ (fun a oe cls d pn hz hf => (pss_one (ps_ret (pe_tup (pa_cons pe_str (pa_cons (pe_xf Z.xT Z.nTw hz hf (pv 2)) pa_nil))))))
  (.no ⟨rfl, by decide, .inl Z.gI⟩ (fun a oe cls d pn hz hf => (pss_one (ps_ret (pe_tup (pa_cons pe_str (pa_cons pe_non pa_nil))))))
  .nil))))
  (pss_one (ps_ret (pe_tup (pa_cons pe_str (pa_cons (pe_md0 M_records R.c hr (by first | decide | omega) (pv 1)) pa_nil)))))), ?_⟩
    refine ⟨fl, c', rfl, hf, hc, rfl, o, pre, ?_⟩
    cases o with
    | bad v =>
      intro x H' s1 ex
      exact ⟨true, Z.bb, fun _ e1 ne => ⟨_, rfl, rfl, rfl, x, _, _, rfl, ex, rfl, (by show 2 ≤ sizeLine; decide), fun t nt => k _ t (s1.trans (Same.new nt)) upd_same⟩, nofun⟩
    | many =>
      intro x H' s1 ex
      exact ⟨false, Z.tb, nofun, fun _ => ⟨true, Z.tt, fun _ e1 ne => ⟨_, rfl, rfl, rfl, x, _, _, rfl, ex, rfl, (by show 2 ≤ sizeLine; decide), fun t nt => k _ t (s1.trans (Same.new nt)) upd_same⟩, nofun⟩⟩
    | rule ys =>
      intro H' r al z s1 ra
      obtain ⟨dx, fs, h1, h2⟩ := ra.recs
      refine ⟨_, rfl, r, dx, fs, rfl, h1, h2, r, ys, al, z, rfl, ra, fun p np => ⟨(by show 2 ≤ sizeLine; decide), fun t nt => k _ t ((s1.trans (Same.new np)).trans (Same.new nt)) ⟨p, upd_same, ?_⟩⟩⟩
      exact Same.new nt _ _ upd_same
theorem opT_ok {o : Str} {z y : Str} {n m : Nat} (ho : o.length ≤ 7) (oo : ∀ c ∈ tl o, Okc c) (hz : TxtN n z) (hy : TxtN m y) : TxtN (n + m + 9) (opT o z y) := by
  have e1 : (Str.empty ++ Str.ofString "(").length = 1 := by decide +kernel
  have e3 : (Str.ofString ")").length = 1 := by decide +kernel
  have c1 : ∀ c ∈ tl (Str.empty ++ Str.ofString "("), Okc c := by
    have e : tl (Str.empty ++ Str.ofString "(") = [40] := by decide +kernel
    rw [e]
    intro c hc
    rw [List.mem_singleton.mp hc]
    show 40 < 1114112
    decide
  have c3 : ∀ c ∈ tl (Str.ofString ")"), Okc c := by
    have e : tl (Str.ofString ")") = [41] := by decide +kernel
    rw [e]
    intro c hc
    rw [List.mem_singleton.mp hc]
    show 41 < 1114112
    decide
  have l1 := hz.1
  have l2 := hy.1
  unfold opT
  refine ⟨by rw [len_app, len_app, len_app, len_app, e1, e3]; omega, fun c hc => ?_⟩
  rw [tl_append, tl_append, tl_append, tl_append] at hc
  rcases List.mem_append.mp hc with hc | hc
  · rcases List.mem_append.mp hc with hc | hc
    · rcases List.mem_append.mp hc with hc | hc
      · rcases List.mem_append.mp hc with hc | hc
        · exact c1 c hc
        · exact hz.2 c hc
      · exact oo c hc
    · exact hy.2 c hc
  · exact c3 c hc
theorem ok_conj {f : Addr} {fd : FuncData} (F : Fun K "_law_conjunction" "_law_conjunction" s_law_conjunction f fd) (R : RTxt K mg C) (S_h : SMet K C (.type "type") "has" pH fH) (F_h : FnR P w K mg base CX0 3 fH (spHas C)) (O : ROps P w K mg base C) : FnOk P w K mg base CX0 4 f fd ["words"] (spConj C) := by
  refine F.ok sc_law_conjunction (fun vs H Q E h => ?_) (fun cdv A outer s H vs Q E hr h => ?_)
  · obtain ⟨l, zs, rfl, _⟩ := h
    rfl
  · obtain ⟨l, zs, rfl, hl, h1, h6, hw, nd, so, k⟩ := h
    refine ⟨_, (pss_cons (ps_set (i := 1) sc_law_conjunction.nd rfl (Or.inl rfl) (pe_smR (pe_glob (v := .ref _) rfl R.gC rfl) S_h F_h hr (by first | decide | omega) (pa_cons (pe_ix ix_list (pv 0) pe_int (fun _ _ => rfl)) pa_nil)))
  (pss_cons (ps_for PassesOwn.never rfl (pi_list (pe_slice sl_list (pv 0) (po_some pe_int) po_none)) (pg_name (i := 2) sc_law_conjunction.nd rfl (Or.inl rfl))
  (pss_one (ps_set (i := 1) sc_law_conjunction.nd rfl (Or.inl rfl) (pe_and2 O hr (by first | decide | omega) (pv 1) (pe_smR (pe_glob (v := .ref _) rfl R.gC rfl) S_h F_h hr (by first | decide | omega) (pa_cons (pv 2) pa_nil))))))
  (pss_one (ps_ret (pv 1))))), ?_⟩
    match zs, h1 with
    | z0 :: zs, _ =>
      have w0 := hw z0 (List.mem_cons_self ..)
      have h6s : zs.length + 1 ≤ 6 := h6
      have tx : ∀ {z : Str}, IsW z → TxtN 8 z := fun q => ⟨by rw [len_tl]; exact q.2.1, fun c hc => (q.2.2 c hc).ok⟩
      have a0 : atI ((z0 :: zs).map V.str) 0 = some (.str z0) := by
        rw [show (0 : Int) = ((0 : Nat) : Int) from rfl]
        exact atI_nat rfl
      refine ⟨rfl, _, rfl, l, _, 0, _, rfl, rfl, SqL.of hl, a0, z0, rfl, w0, fun H1 r s1 ra => ?_⟩
      have hl1 := s1 _ _ hl
      refine ⟨_, rfl, _, rfl, l, _, rfl, SqL.of hl1, fun q nq => ?_⟩
      have sq := Same.new (o := .lst (cutV ((z0 :: zs).map V.str) (some 1) none)) nq
      have ec : cutV ((z0 :: zs).map V.str) (some 1) none = zs.map V.str := by
        rw [show (1 : Int) = ((1 : Nat) : Int) from rfl, cutV_R]
        rfl
      have hq : upd H1 q (.lst (cutV ((z0 :: zs).map V.str) (some 1) none)) q = some (.lst (zs.map V.str)) := by rw [upd_same, ec]
      refine ⟨q, rfl, ⟨_, SqL.of hq⟩, for_list (K := K) (a := q) (xs := zs.map V.str) (fun i σ H' => ∃ (r : Addr) (al : List (List Str)) (z : Str) (o : Option V), σ = [some (.ref l), some (.ref r), o] ∧ Same H H' ∧ H' q = some (.lst (zs.map V.str)) ∧ RuleAt C H' r ((z0 :: zs).take (i + 1)) al z ∧ TxtN (20 + 20 * i) z) ?_ ?_ ?_ ?_⟩
      · exact ⟨r, _, z0, none, rfl, s1.trans sq, hq, ra.same sq, Nat.le_trans (tx w0).1 (by omega), (tx w0).2⟩
      · rintro i σ H' _ ⟨r, al, z, o, rfl, s2, e, _⟩
        exact SqL.of e
      · rintro i x σ H' hi ⟨r, al, z, o, rfl, s2, e, ra, tz⟩
        rw [List.getElem?_map] at hi
        cases ez : zs[i]? with
        | none =>
          rw [ez] at hi
          cases hi
        | some y =>
          rw [ez] at hi
          cases hi
          have ym : y ∈ zs := List.mem_of_getElem? ez
          have wy := hw y (List.mem_cons_of_mem _ ym)
          have il := (List.getElem?_eq_some_iff.mp ez).1
          have e1 : (z0 :: zs)[i + 1]? = some y := by rw [List.getElem?_cons_succ]; exact ez
          have et : (z0 :: zs).take (i + 1 + 1) = (z0 :: zs).take (i + 1) ++ [y] := by
            rw [List.take_add_one, e1]
            rfl
          have lt : ((z0 :: zs).take (i + 1)).length ≤ 6 := by
            rw [List.length_take]
            omega
          have nd2 : ((z0 :: zs).take (i + 1 + 1)).Nodup := nd.sublist (List.take_sublist ..)
          have so2 := sorted_take so (i + 1 + 1)
          refine ⟨_, rfl, rfl, _, rfl, y, rfl, wy, fun H2 r2 s3 ra2 => ?_⟩
          have ra1 := ra.same s3
          obtain ⟨dx, t, d, g1, g2, g3⟩ := id ra1
          obtain ⟨dy, u, e', f1, f2, f3⟩ := id ra2
          refine ⟨r, r2, dx, dy, _, _, rfl, rfl, g1, f1, r, r2, (z0 :: zs).take (i + 1), [y], al, _, z, y, rfl, ra1, ra2, by omega, by show 1 ≤ 100; decide, fun M nd mem => ?_, by have := tz.1; omega, by have := (tx wy).1; omega, fun M ys nm mem perm soy H3 r3 s4 ra3 => ?_⟩
          · refine Nat.le_trans (nodup_len ((z0 :: zs).take (i + 1 + 1)) M nd fun z hz => ?_) ?_
            · rw [et, List.mem_append, List.mem_singleton]
              exact (mem z hz).imp id List.mem_singleton.mp
            · rw [List.length_take]
              omega
          · have ey : ys = (z0 :: zs).take (i + 1 + 1) := sorted_one (perm.trans (perm_mem nm nd2 fun z => by rw [mem, et, List.mem_append])) soy so2
            rw [ey] at ra3
            refine ⟨r3, _, _, _, rfl, (s2.trans s3).trans s4, s4 _ _ (s3 _ _ e), ra3, ?_⟩
            have q := opT_ok (o := opS 0) (by decide +kernel) (by
              have e : tl (opS 0) = [32, 97, 110, 100, 32] := by decide +kernel
              rw [e]
              intro c hc
              have : c < 200 := by
                simp only [List.mem_cons, List.not_mem_nil, or_false] at hc
                omega
              show c < 1114112
              omega) tz (tx wy)
            exact ⟨Nat.le_trans q.1 (by omega), q.2⟩
      · rintro σ H' ⟨r, al, z, o, rfl, s2, e, ra, tz⟩
        rw [List.length_map] at ra tz
        rw [List.length_cons] at h6
        rw [List.take_of_length_le (by rw [List.length_cons]; exact Nat.le_refl _)] at ra
        exact ⟨_, rfl, k H' r al z s2 ra ⟨Nat.le_trans tz.1 (by omega), tz.2⟩⟩
end
end IC
namespace IC
open PySem PySem.Spec PyProof.Rows L2 TL NdefX LamV
open LamX hiding takes0
theorem lc_strsI {te : TE} {gi : Nat} {σ : L2.St} {H1 : Hp} {D p : Addr} {Qd : Hp → Prop} (Ok : Nat → Str → Prop) (n : Nat) (m : Int) (hn : n ≤ 1000) (hp : PoolAt H1 p m) (hD : H1 D = none)
    (hte : ∀ (i : Nat) (m' : Int) (H : Hp) (Q : VK), i < n → PoolAt H p m' → m' ≤ m + 9 * n → Kp [p] H1 H → (∀ z H', Ok i z → PoolAt H' p (m' + 9) → Kp [p] H H' → Q (.str z) H') → te ((σ.set gi none).set gi (some (.int (0 + (i : Int))))) H Q)
    (hd : ∀ (zs : List Str) (H' : Hp), zs.length = n → (∀ i z, zs[i]? = some z → Ok i z) → H' D = some (.lst (zs.map V.str)) → PoolAt H' p (m + 9 * n) → Kp [p] H1 H' → Qd H') :
    ∃ W : Nat → Nat → Hp → Prop, (∃ m, W 0 m (upd H1 D (.lst []))) ∧ ∀ i m H, W i m H →
      ((Itr 0 n).stop i H ∧ Qd H) ∨ ((Itr 0 n).go i H ∧ ∃ Nx : Hp → Prop, (∀ H', Nx H' → ∃ m', m' < m ∧ W (i + 1) m' H') ∧ ∀ x H', (Itr 0 n).yld i H x H' → gName gi x (wipe σ [gi]) H' fun σ2 H2 => wipe σ2 [gi] = wipe σ [gi] ∧ tYes σ2 H2 fun b H3 =>
        if b = true then te σ2 H3 fun y H4 => ∃ acc, H4 D = some (.lst acc) ∧ acc.length < sizeLine ∧ Nx (upd H4 D (.lst (acc ++ [y]))) else Nx H3) := by
  have hpD : p ≠ D := by
    obtain ⟨a, b, c, e, _⟩ := hp
    exact ne_of_none e hD
  have Dp : D ∉ [p] := fun h => hpD (List.mem_singleton.mp h).symm
  refine lc_range (lo := 0) (n := n) (fun i H' => ∃ zs : List Str, zs.length = i ∧ (∀ i z, zs[i]? = some z → Ok i z) ∧ H' D = some (.lst (zs.map V.str)) ∧ PoolAt H' p (m + 9 * i) ∧ Kp [p] H1 H')
    ⟨[], rfl, (fun i z h => by cases h), upd_same, (hp.mv fun u e => by rw [upd_ne hpD]; exact e).up (by omega), Kp.new hD⟩ ?_ ?_
  · rintro i H' hi ⟨zs, hl, hz, hzD, hp2, kp⟩
    refine ⟨by simp [wipe], ?_⟩
    refine hte i (m + 9 * i) H' _ (by omega) hp2 (by omega) kp fun z H2 hOk hp3 k2 => ?_
    refine ⟨_, k2 _ _ hzD Dp, small1000 (by rw [List.length_map]; omega), zs ++ [z], by simp [hl], ?_, ?_, ?_, ((kp.trans k2).mut hD)⟩
    · intro j x hx
      by_cases q : j < zs.length
      · rw [List.getElem?_append_left q] at hx
        exact hz j x hx
      · have e : j = i := by
          have := (List.getElem?_eq_some_iff.mp hx).1
          rw [List.length_append, List.length_singleton] at this
          omega
        rw [e, ← hl, List.getElem?_append_right (Nat.le_refl _), Nat.sub_self] at hx
        cases hx
        rw [e]
        exact hOk
    · rw [upd_same, List.map_append]
      rfl
    · exact (hp3.mv fun u q => by rw [upd_ne hpD]; exact q).up (by omega)
  · rintro H' ⟨zs, hl, hz, hzD, hp2, kp⟩
    exact hd zs H' hl hz hzD hp2 kp
/-! ### what is no word -/
def Odd (p : Addr) (H : Hp) (v : V) (d : PyData) : Prop := (∃ z : Str, v = .str z ∧ d = .str z ∧ (tl z).length ≤ 100 ∧ wB z = false ∧ ∀ c ∈ tl z, Okc c) ∨ (v = .non ∧ d = .none) ∨ (v = .int 5 ∧ d = .int 5) ∨ (v = .bl true ∧ d = .bool true) ∨
  (∃ a y, v = .ref a ∧ H a = some (.tup [.str y]) ∧ d = .tuple [.str y] ∧ IsW y) ∨ (∃ a y, v = .ref a ∧ H a = some (.lst [.str y]) ∧ a ≠ p ∧ d = .list [.str y] ∧ IsW y)
/-- all but the tables and the pool stands as it stood -/
def Kq (p : Addr) (H H' : Hp) : Prop := ∀ y o, H y = some o → (∀ ps, o ≠ .tbl ps) → y ≠ p → H' y = some o
section
variable {p : Addr} {H H1 H' : Hp}
theorem Kq.same (s : Same H H') : Kq p H H' := fun y o e _ _ => s y o e
theorem Kq.ext (s : ExtN H H') : Kq p H H' := fun y o e n _ => s y o e n
theorem Kq.kp (s : Kp [p] H H') : Kq p H H' := fun y o e _ n => s y o e fun q => n (List.mem_singleton.mp q)
theorem Kq.trans (a : Kq p H H1) (b : Kq p H1 H') : Kq p H H' := fun y o e n q => b y o (a y o e n q) n q
theorem PoolAt.nlst {m : Int} (h : PoolAt H p m) : ∃ xs, H p = some (.lst xs) := by
  obtain ⟨a, b, c, e, _⟩ := h
  exact ⟨_, e⟩
theorem Kq.no {y : Addr} {o : HO} {xs : List V} (k : Kq p H H') (hp : H p = some (.lst xs)) (h : H y = some o) (n1 : ∀ ps, o ≠ .tbl ps) (n2 : ∀ ys, o ≠ .lst ys) : H' y = some o := k y o h n1 fun e => by
  rw [e, hp] at h
  exact n2 _ (Option.some.inj h).symm
theorem RuleAt.kq {C r : Addr} {ns : List Str} {al : List (List Str)} {z : Str} {xs : List V} (h : RuleAt C H r ns al z) (k : Kq p H H') (hp : H p = some (.lst xs)) : RuleAt C H' r ns al z := by
  rcases h with ⟨dx, t, d, h1, h2, h3⟩
  exact ⟨dx, t, d, k.no hp h1 nofun nofun, k.no hp h2 nofun nofun, k.no hp h3 nofun nofun⟩
theorem Odd.kq {v : V} {d : PyData} {xs : List V} (h : Odd p H v d) (k : Kq p H H') (hp : H p = some (.lst xs)) : Odd p H' v d := by
  rcases h with h | h | h | h | ⟨a, y, e1, e2, e3⟩ | ⟨a, y, e1, e2, e3, e4⟩
  · exact .inl h
  · exact .inr (.inl h)
  · exact .inr (.inr (.inl h))
  · exact .inr (.inr (.inr (.inl h)))
  · exact .inr (.inr (.inr (.inr (.inl ⟨a, y, e1, k.no hp e2 nofun nofun, e3⟩))))
  · exact .inr (.inr (.inr (.inr (.inr ⟨a, y, e1, k _ _ e2 nofun e3, e3, e4⟩))))
theorem Odd.now {K : PySem.W.Frag} {v : V} {d : PyData} (h : Odd p H v d) : NoW K H v := by
  rcases h with ⟨z, rfl, _, l, w, _⟩ | ⟨rfl, _⟩ | ⟨rfl, _⟩ | ⟨rfl, _⟩ | ⟨a, y, rfl, e, _⟩ | ⟨a, y, rfl, e, _⟩
  · exact .inl ⟨z, rfl, by omega, w⟩
  · exact .inr oth_non
  · exact .inr oth_int
  · exact .inr oth_bl
  · exact .inr (oth_tup e)
  · exact .inr (oth_lst e)
theorem Odd.dp {K : PySem.W.Frag} {v : V} {d : PyData} (h : Odd p H v d) : Dp K H v d := by
  rcases h with ⟨z, rfl, rfl, _⟩ | ⟨rfl, rfl⟩ | ⟨rfl, rfl⟩ | ⟨rfl, rfl⟩ | ⟨a, y, rfl, e, rfl, _⟩ | ⟨a, y, rfl, e, _, rfl, _⟩
  · exact .str _
  · exact .non
  · exact .int _
  · exact .bl _
  · exact .tup (SqT.of e) (.cons (.str _) .nil)
  · exact .lst (SqL.of e) (.cons (.str _) .nil)
theorem Odd.data {v : V} {d : PyData} (h : Odd p H v d) : PyData.canLay0 d = true ∧ PyData.depth d ≤ 2 := by
  have one : ∀ {y : Str}, IsW y → PyData.canLayAll0 [PyData.str y] = true ∧ PyData.depthAll [PyData.str y] ≤ 1 := fun {y} wy => by
    have e := strOk_of (z := y) fun c hc => (wy.2.2 c hc).ok
    refine ⟨?_, by show max 0 0 ≤ 1; decide⟩
    show (PyData.strOk y && PyData.canLayAll0 []) = true
    rw [e]
    rfl
  rcases h with ⟨z, _, rfl, _, _, ok⟩ | ⟨_, rfl⟩ | ⟨_, rfl⟩ | ⟨_, rfl⟩ | ⟨_, y, _, _, rfl, wy⟩ | ⟨_, y, _, _, _, rfl, wy⟩
  · exact ⟨strOk_of ok, Nat.zero_le _⟩
  · exact ⟨rfl, Nat.zero_le _⟩
  · exact ⟨by decide +kernel, Nat.zero_le _⟩
  · exact ⟨rfl, Nat.zero_le _⟩
  · exact ⟨(one wy).1, by have := (one wy).2; show PyData.depthAll [.str y] + 1 ≤ 2; omega⟩
  · exact ⟨(one wy).1, by have := (one wy).2; show PyData.depthAll [.str y] + 1 ≤ 2; omega⟩
end
theorem wB_odd {z : Str} {c : Nat} (h : c ∈ tl z) (e : lB c = false) : wB z = false := by
  cases q : wB z with
  | false => rfl
  | true =>
    unfold wB at q
    rw [Bool.and_eq_true, Bool.and_eq_true] at q
    have := List.all_eq_true.mp q.2.2 c h
    rw [e] at this
    cases this
theorem wB_long {z : Str} (h : 8 < (tl z).length) : wB z = false := by
  unfold wB
  rw [decide_eq_false (p := (tl z).length ≤ 8) (by omega), Bool.false_and, Bool.and_false]
theorem tl_upper {z : Str} (h : IsW z) : tl (Txt.upper z) = (tl z).map up1 := by
  rw [PyProof.Rows.upper_ascii fun c hc => by have := (h.2.2 c hc).2; omega]
  show (z.cps.map up1).toList = _
  rw [Array.toList_map]
theorem up1_lt {c : Nat} (h : Lt c) : lB (up1 c) = false ∧ up1 c < 200 := by
  have e : up1 c = c - 32 := if_pos h
  have := h.1
  have := h.2
  rw [e]
  unfold lB
  rw [decide_eq_false (p := 97 ≤ c - 32) (by omega)]
  exact ⟨rfl, by omega⟩
def spOdd : Sp := fun vs H Q _ => ∃ (p : Addr) (n : Int), vs = [.ref p] ∧ PoolAt H p n ∧ n < 800000000 ∧ ∀ (v : V) (d : PyData) (H' : Hp), Odd p H' v d → PoolAt H' p (n + 20) → Kp [p] H H' → Q v H'
section
variable {P : Program} {w : World} {K : PySem.W.Frag} {mg : Str → Option Value} {base : Heap}
theorem ok_odd {f : Addr} {fd : FuncData} (F : Fun K "_law_odd" "_law_odd" s_law_odd f fd) (T : Bn mg) (D_law_draw : Df P w K mg base 1 "_law_draw" ["pool", "many"] spDraw) (D_law_word : Df P w K mg base 2 "_law_word" ["pool"] spWord) : FnOk P w K mg base CX0 3 f fd ["pool"] spOdd := by
  refine F.ok sc_law_odd (fun vs H Q E h => ?_) (fun cdv A outer s H vs Q E hr h => ?_)
  · obtain ⟨p, n, rfl, _⟩ := h
    rfl
  · obtain ⟨p, n, rfl, hp, hn, k⟩ := h
    refine ⟨_, (pss_cons (ps_set (i := 1) sc_law_odd.nd rfl (Or.inl rfl) (pe_df D_law_word hr (by first | decide | omega) rfl (pa_cons (pv 0) pa_nil)))
  (pss_one (ps_ret (pe_ix ix_list (pe_lst (pa_cons pe_non (pa_cons pe_str (pa_cons (pe_op op_add_str (pv 1) pe_str) (pa_cons (pe_upper (pv 1)) (pa_cons pe_int (pa_cons pe_bl (pa_cons (pe_tup (pa_cons (pv 1) pa_nil)) (pa_cons (pe_lst (pa_cons (pv 1) pa_nil)) (pa_cons (pe_op op_add_str (pv 1) pe_str) pa_nil)))))))))) (pe_df D_law_draw hr (by first | decide | omega) rfl (pa_cons (pv 0) (pa_cons pe_int pa_nil))) (fun _ _ => rfl))))), ?_⟩
    refine ⟨_, rfl, p, n, rfl, hp, by omega, fun z H1 wz hp1 kp1 => ?_⟩
    have zl : z.length ≤ 8 := by rw [len_tl]; exact wz.2.1
    have e8 : (Str.ofString "abcdefgh").length = 8 := by decide +kernel
    have e1 : (Str.ofString " ").length = 1 := by decide +kernel
    refine ⟨_, rfl, _, _, rfl, rfl, by rw [e8]; exact Nat.le_of_lt (small1000 (by omega)), ?_⟩
    refine ⟨_, rfl, ⟨_, rfl⟩, z, rfl, rfl, by omega, ?_⟩
    refine ⟨_, rfl, (by show 1 ≤ sizeLine; decide), fun a1 n1 => ⟨_, rfl, (by show 1 ≤ sizeLine; decide), fun a2 n2 => ?_⟩⟩
    refine ⟨_, rfl, _, _, rfl, rfl, by rw [e1]; exact Nat.le_of_lt (small1000 (by omega)), (by show 9 ≤ sizeLine; decide), fun L nL => ?_⟩
    have s1 := Same.new (o := .tup [.str z]) n1
    have s2 := Same.new (o := .lst [.str z]) n2
    have s3 := Same.new (o := .lst [.non, .str Str.empty, .str (z ++ Str.ofString "abcdefgh"), .str (Txt.upper z), .int 5, .bl true, .ref a1, .ref a2, .str (z ++ Str.ofString " ")]) nL
    have sm := (s1.trans s2).trans s3
    have pn : ∀ q, H1 q = none → q ≠ p := fun q h e => by
      obtain ⟨_, _, _, q2, _⟩ := hp1
      rw [e, q2] at h
      cases h
    have b2 : a2 ≠ p := pn _ (s1.free n2)
    have b4 : L ≠ p := pn _ (s1.free (s2.free nL))
    have hpp := hp1.mv fun o e => sm p o e
    refine ⟨_, rfl, p, 9, _, rfl, hpp, by omega, by decide, by decide, fun x o4 x0 x1 hp4 => ?_⟩
    have g1 := s3 _ _ (s2 a1 _ (upd_same (H := H1) (a := a1) (o := .tup [.str z])))
    have g2 := s3 a2 _ upd_same
    have kp' := kp1.trans ((Kp.same sm).mutAt (o := o4) (List.mem_singleton.mpr rfl))
    have po : ∀ {b : Addr} {u : HO}, b ≠ p → upd (upd (upd H1 a1 (.tup [.str z])) a2 (.lst [.str z])) L (.lst [.non, .str Str.empty, .str (z ++ Str.ofString "abcdefgh"), .str (Txt.upper z), .int 5, .bl true, .ref a1, .ref a2, .str (z ++ Str.ofString " ")]) b = some u → upd (upd (upd (upd H1 a1 (.tup [.str z])) a2 (.lst [.str z])) L (.lst [.non, .str Str.empty, .str (z ++ Str.ofString "abcdefgh"), .str (Txt.upper z), .int 5, .bl true, .ref a1, .ref a2, .str (z ++ Str.ofString " ")])) p o4 b = some u := fun {b u} ne e => by
      rw [upd_ne ne]
      exact e
    have b1 : a1 ≠ p := pn _ n1
    obtain ⟨i, rfl⟩ : ∃ i : Nat, x = i := ⟨x.toNat, by omega⟩
    have hi : i < 9 := by omega
    have fin : ∀ (v : V) (d : PyData), Odd p _ v d → Q v _ := fun v d ho => k v d _ ho (hp4.up (by omega)) kp'
    refine ⟨L, _, i, _, rfl, rfl, SqL.of (po b4 upd_same), atI_nat (List.getElem?_eq_getElem (by simpa using hi)), ?_⟩
    have okz : ∀ c ∈ tl z, Okc c := fun c hc => (wz.2.2 c hc).ok
    match i, hi with
    | 0, _ => exact fin _ _ (.inr (.inl ⟨rfl, rfl⟩))
    | 1, _ => exact fin _ _ (.inl ⟨_, rfl, rfl, by decide +kernel, by decide +kernel, fun c hc => by
        have e : tl Str.empty = [] := by decide +kernel
        rw [e] at hc
        cases hc⟩)
    | 2, _ =>
      have e : tl (z ++ Str.ofString "abcdefgh") = tl z ++ [97, 98, 99, 100, 101, 102, 103, 104] := by
        rw [tl_append]
        exact congrArg (tl z ++ ·) (by decide +kernel)
      refine fin _ _ (.inl ⟨_, rfl, rfl, ?_, wB_long ?_, fun c hc => ?_⟩)
      · rw [e, List.length_append]
        have := wz.2.1
        show _ + 8 ≤ 100
        omega
      · rw [e, List.length_append]
        have := wz.1
        show 8 < _ + 8
        omega
      · rw [e] at hc
        rcases List.mem_append.mp hc with hc | hc
        · exact okz c hc
        · have : c < 200 := by
            simp only [List.mem_cons, List.not_mem_nil, or_false] at hc
            omega
          show c < 1114112
          omega
    | 3, _ =>
      have e := tl_upper wz
      refine fin _ _ (.inl ⟨_, rfl, rfl, ?_, ?_, fun c hc => ?_⟩)
      · rw [e, List.length_map]
        have := wz.2.1
        omega
      · cases q : tl z with
        | nil =>
          have := wz.1
          rw [q] at this
          cases this
        | cons c r =>
          exact wB_odd (c := up1 c) (by rw [e, q]; exact List.mem_cons_self ..) (up1_lt (wz.2.2 c (by rw [q]; exact List.mem_cons_self ..))).1
      · rw [e] at hc
        obtain ⟨b, hb, rfl⟩ := List.mem_map.mp hc
        have := (up1_lt (wz.2.2 b hb)).2
        show _ < 1114112
        omega
    | 4, _ => exact fin _ _ (.inr (.inr (.inl ⟨rfl, rfl⟩)))
    | 5, _ => exact fin _ _ (.inr (.inr (.inr (.inl ⟨rfl, rfl⟩))))
    | 6, _ => exact fin _ _ (.inr (.inr (.inr (.inr (.inl ⟨a1, z, rfl, po b1 g1, rfl, wz⟩)))))
    | 7, _ => exact fin _ _ (.inr (.inr (.inr (.inr (.inr ⟨a2, z, rfl, po b2 g2, b2, rfl, wz⟩)))))
    | 8, _ =>
      have e : tl (z ++ Str.ofString " ") = tl z ++ [32] := by
        rw [tl_append]
        exact congrArg (tl z ++ ·) (by decide +kernel)
      refine fin _ _ (.inl ⟨_, rfl, rfl, ?_, wB_odd (c := 32) ?_ (by decide), fun c hc => ?_⟩)
      · rw [e, List.length_append]
        have := wz.2.1
        show _ + 1 ≤ 100
        omega
      · rw [e]
        exact List.mem_append.mpr (.inr (List.mem_singleton.mpr rfl))
      · rw [e] at hc
        rcases List.mem_append.mp hc with hc | hc
        · exact okz c hc
        · rw [List.mem_singleton.mp hc]
          show 32 < 1114112
          decide
end
end IC
namespace IC
open PySem PySem.Spec PyProof.Rows L2 TL NdefX LamV
open LamX hiding takes0
/-! ### the lambdas' promises -/
abbrev nmL : Nat → Nat → Str := fun _ _ => lamQ
theorem nB5 : ndefB (defScope s_law) (lamC (Lm 5)) ["odd"] = true := by decide +kernel
theorem nB6 : ndefB (defScope s_law) (lamC (Lm 6)) ["given"] = true := by decide +kernel
theorem nB7 : ndefB (defScope s_law) (lamC (Lm 7)) ["words"] = true := by decide +kernel
theorem nB9 : ndefB (defScope s_law) (lamC (Lm 9)) ["words"] = true := by decide +kernel
theorem nB17 : ndefB (defScope s_law) (lamC (Lm 17)) ["one", "other"] = true := by decide +kernel
theorem nB18 : ndefB (defScope s_law) (lamC (Lm 18)) ["one", "other"] = true := by decide +kernel
theorem nB19 : ndefB (defScope s_law) (lamC (Lm 19)) ["one", "other"] = true := by decide +kernel
def P5 (K : PySem.W.Frag) : PreL := fun ws H o => ∃ v, ws = [some v] ∧ NoW K H v ∧ o = .bad v
def P6 (K : PySem.W.Frag) : PreL := fun ws H o => ∃ (g : Addr) (xs : List V) (k : Nat) (v : V), ws = [some (.ref g)] ∧ H g = some (.lst xs) ∧ xs.length = 8 ∧ xs[k]? = some v ∧ (∀ i, i < k → ∃ z, xs[i]? = some (.str z) ∧ IsW z) ∧ NoW K H v ∧ o = .bad v
structure Ws13 (ws : List Str) : Prop where
  len : ws.length = 13
  ok : ∀ z ∈ ws, IsW z
  nd : ws.Nodup
  so : PyProof.Rows.sortedS ws = true
def P7 : PreL := fun ws H o => ∃ (g : Addr) (zs : List Str), ws = [some (.ref g)] ∧ H g = some (.lst (zs.map V.str)) ∧ Ws13 zs ∧ o = .many
def P9 : PreL := fun ws H o => ∃ (g : Addr) (zs : List Str), ws = [some (.ref g)] ∧ H g = some (.lst (zs.map V.str)) ∧ Ws13 zs ∧ o = .rule (zs.take 6)
def P17 (C : Addr) : PreL := fun ws H o => ∃ (r s : Addr) (ns ms ys : List Str) (al bl : List (List Str)) (z y : Str), ws = [some (.ref r), some (.ref s)] ∧ RuleAt C H r ns al z ∧ RuleAt C H s ms bl y ∧ ns.length ≤ 6 ∧ ms.length ≤ 6 ∧ z.length ≤ 2000 ∧ y.length ≤ 2000 ∧
  ys.Nodup ∧ PyProof.Rows.sortedS ys = true ∧ (∀ z, z ∈ ys ↔ z ∈ ns ∨ z ∈ ms) ∧ o = if ys.length < 7 then .rule ys else .many
section
variable {P : Program} {w : World} {K : PySem.W.Frag} {mg : Str → Option Value} {base : Heap} {C EB ET pH fH gA : Addr}
theorem lok5 (R : RTxt K mg C) (S_h : SMet K C (.type "type") "has" pH fH) (F_hX : FnR P w K mg base (L2.CX P w) 3 fH (fun vs H Q E => spHas C vs H Q E0 ∨ spHasBad K EB vs H Q E)) (cl : List (Str × Addr)) (f c' : Addr) : LOk P w K mg base (L2.CX P w) 7 f (lamF (Lm 5) cl c') [] ["odd"] (spLam C EB ET (P5 K)) := by
  refine lok_of (N := ["odd"]) (k := 6) ns5 (fun pm ctv us hl => match us, hl with | [], _ => rfl) (fun ws vs H Q E h => by rw [h.1]; rfl) (fun A outer s H vs ws Q E hr hf hc hl h => ?_)
  obtain ⟨rfl, o, ⟨v, rfl, nw, rfl⟩, k⟩ := h
  refine ⟨_, (pe_smRX (pe_glob (v := .ref _) rfl R.gC rfl) S_h F_hX (takes_of rfl rfl rfl rfl) hr (by decide) (pa_cons (pv 0) pa_nil)), ?_⟩
  exact ⟨rfl, _, rfl, .inr ⟨v, rfl, nw, k⟩⟩
theorem lok6 (D_eight : DfX P w K mg base 5 "_law_eight" ["w"] (spEight K C EB ET)) (cl : List (Str × Addr)) (f c' : Addr) : LOk P w K mg base (L2.CX P w) 7 f (lamF (Lm 6) cl c') [] ["given"] (spLam C EB ET (P6 K)) := by
  refine lok_of (N := ["given"]) (k := 6) ns6 (fun pm ctv us hl => match us, hl with | [], _ => rfl) (fun ws vs H Q E h => by rw [h.1]; rfl) (fun A outer s H vs ws Q E hr hf hc hl h => ?_)
  obtain ⟨rfl, o, ⟨g, xs, kk, v, rfl, hg, h8, hv, hb, nw, rfl⟩, k⟩ := h
  refine ⟨_, (pe_dfX D_eight (takes_of rfl rfl rfl rfl) hr (by decide) rfl (pa_cons (pv 0) pa_nil)), ?_⟩
  refine ⟨_, rfl, g, xs, rfl, hg, h8, fun p np => ?_⟩
  have s1 := Same.new (o := .tup xs) np
  exact ⟨p, xs, rfl, upd_same, by omega, .inl ⟨kk, v, hv, hb, nw.same s1, ErrQ.same k s1⟩⟩
theorem lok7 (D_eight : DfX P w K mg base 5 "_law_eight" ["w"] (spEight K C EB ET)) (cl : List (Str × Addr)) (f c' : Addr) : LOk P w K mg base (L2.CX P w) 7 f (lamF (Lm 7) cl c') [] ["words"] (spLam C EB ET P7) := by
  refine lok_of (N := ["words"]) (k := 6) ns7 (fun pm ctv us hl => match us, hl with | [], _ => rfl) (fun ws vs H Q E h => by rw [h.1]; rfl) (fun A outer s H vs ws Q E hr hf hc hl h => ?_)
  obtain ⟨rfl, o, ⟨g, zs, rfl, hg, w13, rfl⟩, k⟩ := h
  refine ⟨_, (pe_dfX D_eight (takes_of rfl rfl rfl rfl) hr (by decide) rfl (pa_cons (pe_op op_cat (pe_op op_cat (pe_lst (pa_cons (pe_ix ix_list (pv 0) pe_int (fun _ _ => rfl)) pa_nil)) (pe_slice sl_list (pv 0) (po_some pe_int) (po_some pe_int))) (pe_lst (pa_cons (pe_ix ix_list (pv 0) pe_int (fun _ _ => rfl)) (pa_cons (pe_ix ix_list (pv 0) pe_int (fun _ _ => rfl)) pa_nil)))) pa_nil)), ?_⟩
  obtain ⟨len, ok, nd, so⟩ := w13
  match zs, len with
  | [a0, a1, a2, a3, a4, a5, a6, a7, a8, a9, a10, a11, a12], _ =>
    refine ⟨_, rfl, g, _, 6, _, rfl, rfl, SqL.of hg, rfl, (by show 1 ≤ sizeLine; decide), fun p1 n1 => ?_⟩
    have s1 := Same.new (o := .lst [.str a6]) n1
    refine ⟨_, rfl, _, rfl, _, rfl, g, _, rfl, SqL.of (s1 _ _ hg), fun p2 n2 => ?_⟩
    have ec : cutV ([a0, a1, a2, a3, a4, a5, a6, a7, a8, a9, a10, a11, a12].map V.str) (some 1) (some 6) = [.str a1, .str a2, .str a3, .str a4, .str a5] := by
      rw [show (1 : Int) = ((1 : Nat) : Int) from rfl, show (6 : Int) = ((6 : Nat) : Int) from rfl, cutV_M]
      rfl
    rw [ec] at *
    have s2 := Same.new (o := .lst [.str a1, .str a2, .str a3, .str a4, .str a5]) n2
    refine ⟨p1, p2, _, _, rfl, rfl, s2 _ _ upd_same, upd_same, (by show 6 ≤ sizeLine; decide), fun p3 n3 => ?_⟩
    have s3 := Same.new (o := .lst ([.str a6] ++ [.str a1, .str a2, .str a3, .str a4, .str a5])) n3
    have hg3 := s3 _ _ (s2 _ _ (s1 _ _ hg))
    refine ⟨_, rfl, g, _, 0, _, rfl, rfl, SqL.of hg3, rfl, _, rfl, g, _, 1, _, rfl, rfl, SqL.of hg3, rfl, (by show 2 ≤ sizeLine; decide), fun p4 n4 => ?_⟩
    have s4 := Same.new (o := .lst [.str a0, .str a1]) n4
    refine ⟨p3, p4, _, _, rfl, rfl, s4 _ _ upd_same, upd_same, (by show 8 ≤ sizeLine; decide), fun p5 n5 => ?_⟩
    have s5 := Same.new (o := .lst (([.str a6] ++ [.str a1, .str a2, .str a3, .str a4, .str a5]) ++ [.str a0, .str a1])) n5
    refine ⟨p5, _, rfl, upd_same, rfl, fun p np => ?_⟩
    have s6 := (((((s1.trans s2).trans s3).trans s4).trans s5).trans (Same.new (o := .tup (([.str a6] ++ [.str a1, .str a2, .str a3, .str a4, .str a5]) ++ [.str a0, .str a1])) np))
    refine ⟨p, _, rfl, upd_same, (by show 8 ≤ 100; decide), .inr ⟨[a6, a1, a2, a3, a4, a5, a0, a1], rfl, fun z hz => ok z (by
      simp only [List.mem_cons, List.not_mem_nil, or_false] at hz
      rcases hz with h | h | h | h | h | h | h | h <;> rw [h] <;> simp), fun M ys nm mem perm soy => .inr ⟨?_, ErrQ.same k s6⟩⟩⟩
    rw [perm.length_eq]
    refine nodup_len M ([a0, a1, a2, a3, a4, a5, a6, a7, a8, a9, a10, a11, a12].take 7) (nd.sublist (List.take_sublist ..)) fun z hz => (mem z).mpr ?_
    have hz : z ∈ [a0, a1, a2, a3, a4, a5, a6] := hz
    simp only [List.mem_cons, List.not_mem_nil, or_false] at hz
    rcases hz with h | h | h | h | h | h | h <;> rw [h] <;> simp
theorem lok9 (D_eight : DfX P w K mg base 5 "_law_eight" ["w"] (spEight K C EB ET)) (cl : List (Str × Addr)) (f c' : Addr) : LOk P w K mg base (L2.CX P w) 7 f (lamF (Lm 9) cl c') [] ["words"] (spLam C EB ET P9) := by
  refine lok_of (N := ["words"]) (k := 6) ns9 (fun pm ctv us hl => match us, hl with | [], _ => rfl) (fun ws vs H Q E h => by rw [h.1]; rfl) (fun A outer s H vs ws Q E hr hf hc hl h => ?_)
  obtain ⟨rfl, o, ⟨g, zs, rfl, hg, w13, rfl⟩, k⟩ := h
  refine ⟨_, (pe_dfX D_eight (takes_of rfl rfl rfl rfl) hr (by decide) rfl (pa_cons (pe_op op_cat (pe_op op_cat (pe_op op_cat (pe_lst (pa_cons (pe_ix ix_list (pv 0) pe_int (fun _ _ => rfl)) (pa_cons (pe_ix ix_list (pv 0) pe_int (fun _ _ => rfl)) pa_nil))) (pe_slice sl_list (pv 0) (po_some pe_int) (po_some pe_int))) (pe_slice sl_list (pv 0) (po_some pe_int) (po_some pe_int))) (pe_lst (pa_cons (pe_ix ix_list (pv 0) pe_int (fun _ _ => rfl)) (pa_cons (pe_ix ix_list (pv 0) pe_int (fun _ _ => rfl)) pa_nil)))) pa_nil)), ?_⟩
  obtain ⟨len, ok, nd, so⟩ := w13
  match zs, len with
  | [a0, a1, a2, a3, a4, a5, a6, a7, a8, a9, a10, a11, a12], _ =>
    refine ⟨_, rfl, g, _, 1, _, rfl, rfl, SqL.of hg, rfl, _, rfl, g, _, 0, _, rfl, rfl, SqL.of hg, rfl, (by show 2 ≤ sizeLine; decide), fun p1 n1 => ?_⟩
    have s1 := Same.new (o := .lst [.str a1, .str a0]) n1
    refine ⟨_, rfl, _, rfl, _, rfl, g, _, rfl, SqL.of (s1 _ _ hg), fun p2 n2 => ?_⟩
    have ec : cutV ([a0, a1, a2, a3, a4, a5, a6, a7, a8, a9, a10, a11, a12].map V.str) (some 2) (some 4) = [.str a2, .str a3] := by
      rw [show (2 : Int) = ((2 : Nat) : Int) from rfl, show (4 : Int) = ((4 : Nat) : Int) from rfl, cutV_M]
      rfl
    rw [ec] at *
    have s2 := Same.new (o := .lst [.str a2, .str a3]) n2
    refine ⟨p1, p2, _, _, rfl, rfl, s2 _ _ upd_same, upd_same, (by show 4 ≤ sizeLine; decide), fun p3 n3 => ?_⟩
    have s3 := Same.new (o := .lst ([.str a1, .str a0] ++ [.str a2, .str a3])) n3
    have hg3 := s3 _ _ (s2 _ _ (s1 _ _ hg))
    refine ⟨_, rfl, _, rfl, _, rfl, g, _, rfl, SqL.of hg3, fun p4 n4 => ?_⟩
    have ed : cutV ([a0, a1, a2, a3, a4, a5, a6, a7, a8, a9, a10, a11, a12].map V.str) (some 1) (some 3) = [.str a1, .str a2] := by
      rw [show (1 : Int) = ((1 : Nat) : Int) from rfl, show (3 : Int) = ((3 : Nat) : Int) from rfl, cutV_M]
      rfl
    rw [ed] at *
    have s4 := Same.new (o := .lst [.str a1, .str a2]) n4
    refine ⟨p3, p4, _, _, rfl, rfl, s4 _ _ upd_same, upd_same, (by show 6 ≤ sizeLine; decide), fun p5 n5 => ?_⟩
    have s5 := Same.new (o := .lst (([.str a1, .str a0] ++ [.str a2, .str a3]) ++ [.str a1, .str a2])) n5
    have hg5 := s5 _ _ (s4 _ _ hg3)
    refine ⟨_, rfl, g, _, 5, _, rfl, rfl, SqL.of hg5, rfl, _, rfl, g, _, 4, _, rfl, rfl, SqL.of hg5, rfl, (by show 2 ≤ sizeLine; decide), fun p6 n6 => ?_⟩
    have s6 := Same.new (o := .lst [.str a5, .str a4]) n6
    refine ⟨p5, p6, _, _, rfl, rfl, s6 _ _ upd_same, upd_same, (by show 8 ≤ sizeLine; decide), fun p7 n7 => ?_⟩
    have s7 := Same.new (o := .lst ((([.str a1, .str a0] ++ [.str a2, .str a3]) ++ [.str a1, .str a2]) ++ [.str a5, .str a4])) n7
    refine ⟨p7, _, rfl, upd_same, rfl, fun p np => ?_⟩
    have s8 := (((((((s1.trans s2).trans s3).trans s4).trans s5).trans s6).trans s7).trans (Same.new (o := .tup ((([.str a1, .str a0] ++ [.str a2, .str a3]) ++ [.str a1, .str a2]) ++ [.str a5, .str a4])) np))
    refine ⟨p, _, rfl, upd_same, (by show 8 ≤ 100; decide), .inr ⟨[a1, a0, a2, a3, a1, a2, a5, a4], rfl, fun z hz => ok z (by
      simp only [List.mem_cons, List.not_mem_nil, or_false] at hz
      rcases hz with h | h | h | h | h | h | h | h <;> rw [h] <;> simp), fun M ys nm mem perm soy => .inl ?_⟩⟩
    have nd6 : [a0, a1, a2, a3, a4, a5].Nodup := nd.sublist (List.take_sublist 6 [a0, a1, a2, a3, a4, a5, a6, a7, a8, a9, a10, a11, a12])
    have ey : ys = [a0, a1, a2, a3, a4, a5] := sorted_one (perm.trans (perm_mem nm nd6 fun z => (mem z).trans (by
      simp only [List.mem_cons, List.not_mem_nil, or_false]
      constructor
      · rintro (h | h | h | h | h | h | h | h) <;> rw [h] <;> simp
      · rintro (h | h | h | h | h | h) <;> rw [h] <;> simp))) soy (sorted_take so 6)
    rw [ey]
    exact ⟨by show 6 ≤ 6; decide, fun H' r s9 ra => k H' r _ _ (s8.trans s9) ra⟩
theorem endP17 {ns ms ys : List Str} {al bl : List (List Str)} {z y : Str} {r s : Addr} {H : Hp} {Q : VK} {E : XK} {n : Fin 3} (ra : RuleAt C H r ns al z) (rb : RuleAt C H s ms bl y) (l1 : ns.length ≤ 6) (l2 : ms.length ≤ 6) (lz : z.length ≤ 2000) (ly : y.length ≤ 2000) (nd : ys.Nodup) (so : PyProof.Rows.sortedS ys = true) (mem : ∀ z, z ∈ ys ↔ z ∈ ns ∨ z ∈ ms)
    (k : endO C EB ET H Q E (if ys.length < 7 then .rule ys else .many)) : spOp2 C (opB n) (opS n) [.ref r, .ref s] H Q E0 ∨ spWithX C ET [.ref r, .ref s] H Q E := by
  by_cases q : ys.length < 7
  · rw [if_pos q] at k
    refine .inl ⟨r, s, ns, ms, al, bl, z, y, rfl, ra, rb, by omega, by omega, fun M nm hm => ?_, by omega, by omega, fun M ys1 nm mm perm so1 H' r' s1 ra' => ?_⟩
    · have := nodup_len ys M nm fun z hz => (mem z).mpr (hm z hz)
      omega
    · have ey : ys1 = ys := sorted_one (perm.trans (perm_mem nm nd fun z => (mm z).trans (mem z).symm)) so1 so
      rw [ey] at ra'
      exact k H' r' _ _ s1 ra'
  · rw [if_neg q] at k
    refine .inr ⟨r, s, ns, ms, al, bl, z, y, rfl, ra, rb, by omega, by omega, fun M nm hm => ?_, k⟩
    have := nodup_len M ys nd fun z hz => (hm z).mpr ((mem z).mp hz)
    omega
theorem lok17 (fs : PySem.W.selfFirst K C = true) (has : PySem.W.findIn K (.ref C) "__and__" = some (some (.ref gA))) (fn : PySem.W.isFn K (.ref gA) = true) (G : FnR P w K mg base (L2.CX P w) 5 gA (fun vs H Q E => spOp2 C (opB 0) (opS 0) vs H Q E0 ∨ spWithX C ET vs H Q E)) (cl : List (Str × Addr)) (f c' : Addr) : LOk P w K mg base (L2.CX P w) 7 f (lamF (Lm 17) cl c') [] ["one", "other"] (spLam C EB ET (P17 C)) := by
  refine lok_of (N := ["one", "other"]) (k := 6) ns17 (fun pm ctv us hl => match us, hl with | [], _ => rfl) (fun ws vs H Q E h => by rw [h.1]; rfl) (fun A outer s H vs ws Q E hr hf hc hl h => ?_)
  obtain ⟨rfl, o, ⟨r, s', ns, ms, ys, al, bl, z, y, rfl, ra, rb, l1, l2, lz, ly, nd, so, mem, rfl⟩, k⟩ := h
  refine ⟨_, (pe_op (op_ownE (E := E) fs has fn G (takes_of rfl rfl rfl rfl) (hr.mono (by decide))) (pv 0) (pv 1)), ?_⟩
  obtain ⟨dx, t, d, h1, h2, h3⟩ := id ra
  obtain ⟨dy, u, e, g1, g2, g3⟩ := id rb
  exact ⟨_, rfl, _, rfl, r, s', dx, dy, _, _, rfl, rfl, h1, g1, endP17 ra rb l1 l2 lz ly nd so mem k⟩
theorem lok18 (fs : PySem.W.selfFirst K C = true) (has : PySem.W.findIn K (.ref C) "__or__" = some (some (.ref gA))) (fn : PySem.W.isFn K (.ref gA) = true) (G : FnR P w K mg base (L2.CX P w) 5 gA (fun vs H Q E => spOp2 C (opB 1) (opS 1) vs H Q E0 ∨ spWithX C ET vs H Q E)) (cl : List (Str × Addr)) (f c' : Addr) : LOk P w K mg base (L2.CX P w) 7 f (lamF (Lm 18) cl c') [] ["one", "other"] (spLam C EB ET (P17 C)) := by
  refine lok_of (N := ["one", "other"]) (k := 6) ns18 (fun pm ctv us hl => match us, hl with | [], _ => rfl) (fun ws vs H Q E h => by rw [h.1]; rfl) (fun A outer s H vs ws Q E hr hf hc hl h => ?_)
  obtain ⟨rfl, o, ⟨r, s', ns, ms, ys, al, bl, z, y, rfl, ra, rb, l1, l2, lz, ly, nd, so, mem, rfl⟩, k⟩ := h
  refine ⟨_, (pe_op (op_ownE (E := E) fs has fn G (takes_of rfl rfl rfl rfl) (hr.mono (by decide))) (pv 0) (pv 1)), ?_⟩
  obtain ⟨dx, t, d, h1, h2, h3⟩ := id ra
  obtain ⟨dy, u, e, g1, g2, g3⟩ := id rb
  exact ⟨_, rfl, _, rfl, r, s', dx, dy, _, _, rfl, rfl, h1, g1, endP17 ra rb l1 l2 lz ly nd so mem k⟩
theorem lok19 (fs : PySem.W.selfFirst K C = true) (has : PySem.W.findIn K (.ref C) "__rshift__" = some (some (.ref gA))) (fn : PySem.W.isFn K (.ref gA) = true) (G : FnR P w K mg base (L2.CX P w) 5 gA (fun vs H Q E => spOp2 C (opB 2) (opS 2) vs H Q E0 ∨ spWithX C ET vs H Q E)) (cl : List (Str × Addr)) (f c' : Addr) : LOk P w K mg base (L2.CX P w) 7 f (lamF (Lm 19) cl c') [] ["one", "other"] (spLam C EB ET (P17 C)) := by
  refine lok_of (N := ["one", "other"]) (k := 6) ns19 (fun pm ctv us hl => match us, hl with | [], _ => rfl) (fun ws vs H Q E h => by rw [h.1]; rfl) (fun A outer s H vs ws Q E hr hf hc hl h => ?_)
  obtain ⟨rfl, o, ⟨r, s', ns, ms, ys, al, bl, z, y, rfl, ra, rb, l1, l2, lz, ly, nd, so, mem, rfl⟩, k⟩ := h
  refine ⟨_, (pe_op (op_ownE (E := E) fs has fn G (takes_of rfl rfl rfl rfl) (hr.mono (by decide))) (pv 0) (pv 1)), ?_⟩
  obtain ⟨dx, t, d, h1, h2, h3⟩ := id ra
  obtain ⟨dy, u, e, g1, g2, g3⟩ := id rb
  exact ⟨_, rfl, _, rfl, r, s', dx, dy, _, _, rfl, rfl, h1, g1, endP17 ra rb l1 l2 lz ly nd so mem k⟩
end
end IC
namespace IC
open PySem L2 TL
def rLenK (K : PySem.W.Frag) : List V → Hp → VK → Prop := fun xs H Q => ∃ p ys, xs = [V.ref p] ∧ (SqL K H p ys ∨ SqT K H p ys) ∧ Q (V.int ys.length) H
/-- a comprehension over range(n) whose elements are texts that come from the pool -/
theorem lc_strs {te : TE} {gi : Nat} {σ : L2.St} {H1 : Hp} {D p : Addr} {Qd : Hp → Prop} (Ok : Str → Prop) (n : Nat) (m : Int) (hn : n ≤ 1000) (hp : PoolAt H1 p m) (hD : H1 D = none)
    (hte : ∀ (x : V) (m' : Int) (H : Hp) (Q : VK), PoolAt H p m' → m' ≤ m + 9 * n → Kp [p] H1 H → (∀ z H', Ok z → PoolAt H' p (m' + 9) → Kp [p] H H' → Q (.str z) H') → te ((σ.set gi none).set gi (some x)) H Q)
    (hd : ∀ (zs : List Str) (H' : Hp), zs.length = n → (∀ z ∈ zs, Ok z) → H' D = some (.lst (zs.map V.str)) → PoolAt H' p (m + 9 * n) → Kp [p] H1 H' → Qd H') :
    ∃ W : Nat → Nat → Hp → Prop, (∃ m, W 0 m (upd H1 D (.lst []))) ∧ ∀ i m H, W i m H →
      ((Itr 0 n).stop i H ∧ Qd H) ∨ ((Itr 0 n).go i H ∧ ∃ Nx : Hp → Prop, (∀ H', Nx H' → ∃ m', m' < m ∧ W (i + 1) m' H') ∧ ∀ x H', (Itr 0 n).yld i H x H' → gName gi x (wipe σ [gi]) H' fun σ2 H2 => wipe σ2 [gi] = wipe σ [gi] ∧ tYes σ2 H2 fun b H3 =>
        if b = true then te σ2 H3 fun y H4 => ∃ acc, H4 D = some (.lst acc) ∧ acc.length < sizeLine ∧ Nx (upd H4 D (.lst (acc ++ [y]))) else Nx H3) := by
  have hpD : p ≠ D := by
    obtain ⟨a, b, c, e, _⟩ := hp
    exact ne_of_none e hD
  have Dp : D ∉ [p] := fun h => hpD (List.mem_singleton.mp h).symm
  refine lc_range (lo := 0) (n := n) (fun i H' => ∃ zs : List Str, zs.length = i ∧ (∀ z ∈ zs, Ok z) ∧ H' D = some (.lst (zs.map V.str)) ∧ PoolAt H' p (m + 9 * i) ∧ Kp [p] H1 H')
    ⟨[], rfl, by simp, upd_same, (hp.mv fun u e => by rw [upd_ne hpD]; exact e).up (by omega), Kp.new hD⟩ ?_ ?_
  · rintro i H' hi ⟨zs, hl, hz, hzD, hp2, kp⟩
    refine ⟨by simp [wipe], ?_⟩
    refine hte _ (m + 9 * i) H' _ hp2 (by omega) kp fun z H2 hOk hp3 k2 => ?_
    refine ⟨_, k2 _ _ hzD Dp, small1000 (by rw [List.length_map]; omega), zs ++ [z], by simp [hl], ?_, ?_, ?_, ((kp.trans k2).mut hD)⟩
    · intro x hx
      rcases List.mem_append.mp hx with hx | hx
      · exact hz x hx
      · rw [List.mem_singleton.mp hx]; exact hOk
    · rw [upd_same, List.map_append]
      rfl
    · exact (hp3.mv fun u q => by rw [upd_ne hpD]; exact q).up (by omega)
  · rintro H' ⟨zs, hl, hz, hzD, hp2, kp⟩
    exact hd zs H' hl hz hzD hp2 kp
theorem at_strs {ws : List Str} {d : Int} (h0 : 0 ≤ d) (h1 : d < ws.length) : ∃ z ∈ ws, atI (ws.map V.str) d = some (.str z) := by
  have lt : d.toNat < ws.length := by omega
  refine ⟨ws[d.toNat], List.getElem_mem lt, ?_⟩
  have z := atI_nat (xs := ws.map V.str) (j := d.toNat) (v := .str ws[d.toNat]) (by rw [List.getElem?_map, List.getElem?_eq_getElem lt]; rfl)
  rwa [Int.toNat_of_nonneg h0] at z
def spStar (C : Addr) : Sp := fun vs H Q E => vs.length ≤ sizeLine ∧ ∀ p, H p = none → spTog C [.ref p] (upd H p (.tup vs)) Q E
end IC
namespace IC
open PySem L2 TL
theorem eqv_strs : ∀ xs ys : List Str, PyData.eqvAll (xs.map PyData.str) (ys.map PyData.str) = decide (xs = ys)
  | [], [] => rfl
  | [], _ :: _ => rfl
  | _ :: _, [] => rfl
  | x :: xs, y :: ys => by
    show (x == y && PyData.eqvAll (xs.map PyData.str) (ys.map PyData.str)) = _
    rw [eqv_strs xs ys, Bool.eq_iff_iff, Bool.and_eq_true, beq_iff_eq, decide_eq_true_iff, decide_eq_true_iff, List.cons.injEq]
theorem eqv_lists (xs ys : List Str) : PyData.eqv (.list (xs.map PyData.str)) (.list (ys.map PyData.str)) = decide (xs = ys) := eqv_strs xs ys
theorem shaped_ws {zs : List Str} (h : ∀ z ∈ zs, IsW z) : SeqAt.shaped (.list (zs.map PyData.str)) = true := shaped_strs zs fun z hz c hc => ((h z hz).2.2 c hc).ok
theorem dp_ws {K : PySem.W.Frag} {H : Hp} {a : Addr} {zs : List Str} (h : H a = some (.lst (zs.map V.str))) : Dp K H (.ref a) (.list (zs.map PyData.str)) := .lst (SqL.of h) (dpAll_strs zs)
theorem may_one (z : Str) (ks : List Str) : may [z] [[z]] ks = decide (z ∈ ks) := by
  unfold may
  by_cases h : z ∈ ks <;> simp [h]
theorem may_all (ks : List Str) : may [] [[]] ks = true := by
  unfold may
  simp
theorem may_tog {ls ys ks : List Str} (mem : ∀ z, z ∈ ys ↔ z ∈ ls) : may ys [[], ys] ks = (decide (ls.filter (fun n => decide (n ∈ ks)) = []) || decide (ls.filter (fun n => decide (n ∈ ks)) = ls)) := by
  unfold may
  rw [Bool.eq_iff_iff, decide_eq_true_iff, Bool.or_eq_true, decide_eq_true_iff, decide_eq_true_iff, List.mem_cons, List.mem_singleton]
  rw [List.filter_eq_nil_iff, List.filter_eq_nil_iff, List.filter_eq_self, List.filter_eq_self]
  constructor
  · rintro (h | h)
    · exact .inl fun a ha => h a ((mem a).mpr ha)
    · exact .inr fun a ha => h a ((mem a).mpr ha)
  · rintro (h | h)
    · exact .inl fun a ha => h a ((mem a).mp ha)
    · exact .inr fun a ha => h a ((mem a).mp ha)
/-- what stands while the law asks its three rules -/
structure LSt (C p wl ll r1 r2 r3 : Addr) (ws ls : List Str) (w0 : Str) (ys : List Str) (H : Hp) : Prop where
  w : H wl = some (.lst (ws.map V.str))
  l : H ll = some (.lst (ls.map V.str))
  a : ∃ z, RuleAt C H r1 [w0] [[w0]] z
  b : ∃ z, RuleAt C H r2 ys [[], ys] z
  c : ∃ z, RuleAt C H r3 [] [[]] z
theorem LSt.same {C p wl ll r1 r2 r3 : Addr} {ws ls : List Str} {w0 : Str} {ys : List Str} {H H' : Hp} (h : LSt C p wl ll r1 r2 r3 ws ls w0 ys H) (s : Same H H') : LSt C p wl ll r1 r2 r3 ws ls w0 ys H' :=
  ⟨s _ _ h.w, s _ _ h.l, h.a.elim fun z q => ⟨z, q.same s⟩, h.b.elim fun z q => ⟨z, q.same s⟩, h.c.elim fun z q => ⟨z, q.same s⟩⟩
theorem LSt.mv {C p wl ll r1 r2 r3 : Addr} {ws ls : List Str} {w0 : Str} {ys : List Str} {H H' : Hp} {n : Int} (h : LSt C p wl ll r1 r2 r3 ws ls w0 ys H) (k : Kp [p] H H') (hp : PoolAt H p n) (nw : wl ≠ p) (nl : ll ≠ p) : LSt C p wl ll r1 r2 r3 ws ls w0 ys H' := by
  rcases hp with ⟨a, b, c, hp, _⟩
  exact ⟨k _ _ h.w fun e => nw (List.mem_singleton.mp e), k _ _ h.l fun e => nl (List.mem_singleton.mp e), h.a.elim fun z q => ⟨z, q.mv k hp⟩, h.b.elim fun z q => ⟨z, q.mv k hp⟩, h.c.elim fun z q => ⟨z, q.mv k hp⟩⟩
theorem RuleAt.ins {C : Addr} {H : Hp} {r : Addr} {ns : List Str} {al : List (List Str)} {z : Str} (h : RuleAt C H r ns al z) : ∃ dx fs, H r = some (.ins C dx fs) ∧ fs.lookup (Str.ofString "records") = none := by
  rcases h with ⟨dx, t, d, h1, _⟩
  exact ⟨dx, _, h1, rfl⟩
end IC
namespace IC
open PySem PySem.Spec PyProof.Rows L2 TL NdefX LamV
open LamX hiding takes0
section
variable {P : Program} {w : World} {K : PySem.W.Frag} {mg : Str → Option Value} {base : Heap} {CX : CXT} {k : Nat} {f : Addr} {fd : FuncData} {ps fr : List Str} {sp sp' : SpC}
theorem FnS.or (F : FnS P w K mg base CX k f fd ps fr sp) (G : FnS P w K mg base CX k f fd ps fr sp') : FnS P w K mg base CX k f fd ps fr (fun cl ws vs H Q E => sp cl ws vs H Q E ∨ sp' cl ws vs H Q E) :=
  ⟨fun cl ws vs H Q E h => h.elim (F.many _ _ _ _ _ _) (G.many _ _ _ _ _ _), fun A outer s H args us vs Q E cl ws hr e0 b r c h => h.elim (F.run A outer s H args us vs Q E cl ws hr e0 b r c) (G.run A outer s H args us vs Q E cl ws hr e0 b r c)⟩
end
def spMade3 (C : Addr) : SpC := fun cl ws vs H Q E => spMade (Lm 17) (P17 C) cl ws vs H Q E ∨ spMade (Lm 18) (P17 C) cl ws vs H Q E ∨ spMade (Lm 19) (P17 C) cl ws vs H Q E
theorem nm18 : (lamC (Lm 18)).names = (lamC (Lm 17)).names := by decide +kernel
theorem nm19 : (lamC (Lm 19)).names = (lamC (Lm 17)).names := by decide +kernel
/-- all but the tables stands as it stood -/
def Kt (H H' : Hp) : Prop := ∀ y o, H y = some o → (∀ ps, o ≠ .tbl ps) → H' y = some o
theorem Kt.seq {K : PySem.W.Frag} {H H' : Hp} {a : Addr} {xs : List V} (k : Kt H H') (h : SqL K H a xs) : SqL K H' a xs := by
  rcases h with h | h
  · refine .inl ?_
    rcases h with h | ⟨o, h⟩
    · exact .inl (k _ _ h nofun)
    · exact .inr ⟨o, k _ _ h nofun⟩
  · exact .inr h
theorem TabN.kp {H H' : Hp} {p Pt : Addr} {nm : Nat → Nat → Str} {xs : List V} (t : TabN H Pt nm) (k : Kp [p] H H') (hp : H p = some (.lst xs)) : TabN H' Pt nm := by
  obtain ⟨ps, h1, h2, h3⟩ := t
  have ne : ∀ {y : Addr} {o : HO}, H y = some o → (∀ ys, o ≠ .lst ys) → y ∉ [p] := fun {y o} e n z => by
    rw [List.mem_singleton.mp z, hp] at e
    exact n _ (Option.some.inj e).symm
  refine ⟨ps, k _ _ h1 (ne h1 nofun), h2, fun pos cv hc => ?_⟩
  obtain ⟨c, e1, e2⟩ := h3 pos cv hc
  exact ⟨c, e1, k _ _ e2 (ne e2 nofun)⟩
structure S18 (p Pt W : Addr) (ws : List Str) (H0 H : Hp) (m : Int) : Prop where
  k : Kq p H0 H
  po : PoolAt H p m
  tb : TabN H Pt nmL
  w : H W = some (.lst (ws.map V.str))
  ne : W ≠ p
section
variable {p Pt W : Addr} {ws : List Str} {H0 H H1 : Hp} {m n : Int}
theorem S18.up (h : S18 p Pt W ws H0 H m) (e : m ≤ n) : S18 p Pt W ws H0 H n := ⟨h.k, h.po.up e, h.tb, h.w, h.ne⟩
theorem S18.same (h : S18 p Pt W ws H0 H m) (s : Same H H1) : S18 p Pt W ws H0 H1 m := ⟨h.k.trans (.same s), h.po.mv fun o e => s p o e, h.tb.ext s, s _ _ h.w, h.ne⟩
theorem S18.kp (h : S18 p Pt W ws H0 H m) (s : Kp [p] H H1) (q : PoolAt H1 p n) : S18 p Pt W ws H0 H1 n := by
  obtain ⟨xs, hx⟩ := h.po.nlst
  exact ⟨h.k.trans (.kp s), q, IC.TabN.kp h.tb s hx, s _ _ h.w fun z => h.ne (List.mem_singleton.mp z), h.ne⟩
theorem S18.ext (h : S18 p Pt W ws H0 H m) (s : ExtN H H1) (t : TabN H1 Pt nmL) : S18 p Pt W ws H0 H1 m := ⟨h.k.trans (.ext s), h.po.mv fun o e => by
    obtain ⟨_, _, _, q, _⟩ := h.po
    rw [q] at e
    cases e
    exact s _ _ q nofun, t, s _ _ h.w nofun, h.ne⟩
theorem S18.tabs (h : S18 p Pt W ws H0 H m) : TabsN [(Pt, nmL)] H := fun q hq => by
  rw [List.mem_singleton.mp hq]
  exact h.tb
theorem S18.lst (h : S18 p Pt W ws H0 H m) : ∃ xs, H p = some (.lst xs) := h.po.nlst
end
theorem S18.mut {p Pt W ml : Addr} {ws : List Str} {H0 H : Hp} {m : Int} {xs ys : List V} (h : S18 p Pt W ws H0 H m) (hl : H ml = some (.lst xs)) (nH : ∀ y o, H0 y = some o → (∀ ps, o ≠ .tbl ps) → y ≠ p → y ≠ ml) (pml : p ≠ ml) (Wml : W ≠ ml) : S18 p Pt W ws H0 (upd H ml (.lst ys)) m :=
  ⟨fun y o e n q => by
    rw [upd_ne (nH y o e n q)]
    exact h.k y o e n q, h.po.mv fun o e => by
    rw [upd_ne pml]
    exact e, IC.TabN.kp h.tb (Kp.at_ (List.mem_singleton.mpr rfl)) hl, by
    rw [upd_ne Wml]
    exact h.w, h.ne⟩
theorem RuleAt.kt {C r : Addr} {H H' : Hp} {ns : List Str} {al : List (List Str)} {z : Str} (h : RuleAt C H r ns al z) (k : Kt H H') : RuleAt C H' r ns al z := by
  rcases h with ⟨dx, t, d, h1, h2, h3⟩
  exact ⟨dx, t, d, k _ _ h1 nofun, k _ _ h2 nofun, k _ _ h3 nofun⟩
theorem TellO.kt {H H' : Hp} {t : Addr} {o : Out} (h : TellO H t o) (k : Kt H H') : TellO H' t o := by
  cases o with
  | bad v => exact k _ _ h nofun
  | many => exact k _ _ h nofun
  | rule ys =>
    obtain ⟨l, h1, h2⟩ := h
    exact ⟨l, k _ _ h1 nofun, k _ _ h2 nofun⟩
theorem tl_cutL (z : Str) (k : Nat) : tl (cutS z none (some (k : Int))) = (tl z).take k := by
  show ((z.cps.toList.drop (HT.sIx z.length 0 none)).take (HT.sIx z.length z.length (some (k : Int)) - HT.sIx z.length 0 none)).toArray.toList = _
  rw [HT.sIx_nat, HT.sIx_none, List.drop_zero, Nat.sub_zero]
  show z.cps.toList.take (min k z.length) = z.cps.toList.take k
  have e : z.length = z.cps.toList.length := by simp [Str.length]
  rw [e]
  rcases Nat.le_total k z.cps.toList.length with h | h
  · rw [Nat.min_eq_left h]
  · rw [Nat.min_eq_right h, List.take_length, List.take_of_length_le h]
theorem abcAt {j : Nat} (h : j < 13) : atI (Str.ofString "abcdefghijklm").cps.toList (0 + (j : Int)) = some (97 + j) := by
  have e : (Str.ofString "abcdefghijklm").cps.toList = [97, 98, 99, 100, 101, 102, 103, 104, 105, 106, 107, 108, 109] := by decide +kernel
  rw [e, Int.zero_add]
  have all : ∀ k : Fin 13, ([97, 98, 99, 100, 101, 102, 103, 104, 105, 106, 107, 108, 109] : List Nat)[k.val]? = some (97 + k.val) := by decide
  exact atI_nat (all ⟨j, h⟩)
theorem cut_word {z : Str} {n j : Nat} (wz : IsW z) (hn : 1 ≤ n) (hn7 : n ≤ 7) (hj : j < 13) : IsW (cutS z none (some (n : Int)) ++ sgn (97 + j)) ∧ (tl (cutS z none (some (n : Int)) ++ sgn (97 + j))).getLast? = some (97 + j) := by
  have e : tl (cutS z none (some (n : Int)) ++ sgn (97 + j)) = (tl z).take n ++ [97 + j] := by
    rw [tl_append, tl_cutL]
    rfl
  refine ⟨⟨?_, ?_, fun c hc => ?_⟩, ?_⟩
  · rw [e, List.length_append]
    show 1 ≤ _ + 1
    omega
  · rw [e, List.length_append, List.length_take]
    show _ + 1 ≤ 8
    omega
  · rw [e] at hc
    rcases List.mem_append.mp hc with hc | hc
    · exact wz.2.2 c (List.mem_of_mem_take hc)
    · rw [List.mem_singleton.mp hc]
      exact ⟨by omega, by omega⟩
  · rw [e, List.getLast?_append]
    rfl
def dueD : Out → PyData
  | .rule ys => .tuple [.str "rule", .list (ys.map PyData.str)]
  | .many => .tuple [.str "toomany", .str "records"]
  | .bad _ => .none
def OutOk : Out → Prop
  | .rule ys => ∀ z ∈ ys, IsW z
  | .many => True
  | .bad _ => False
theorem tell_dp {K : PySem.W.Frag} {H : Hp} {t : Addr} {o : Out} (h : TellO H t o) (q : OutOk o) : Dp K H (.ref t) (dueD o) := by
  cases o with
  | bad v => exact q.elim
  | many => exact .tup (SqT.of h) (.cons (.str _) (.cons (.str _) .nil))
  | rule ys =>
    obtain ⟨l, h1, h2⟩ := h
    exact .tup (SqT.of h1) (.cons (.str _) (.cons (dp_ws h2) .nil))
theorem tup_ok {x y : PyData} (hx : PyData.canLay0 x = true ∧ PyData.depth x ≤ 20) (hy : PyData.canLay0 y = true ∧ PyData.depth y ≤ 20) : SeqAt.shaped (.tuple [x, y]) = true ∧ PyData.eqv (.tuple [x, y]) (.tuple [x, y]) = true := by
  have sh : SeqAt.shaped (.tuple [x, y]) = true := shaped_list (xs := [x, y]) fun u hu => by
    rcases List.mem_cons.mp hu with rfl | hu
    · exact hx
    · rw [List.mem_singleton.mp hu]
      exact hy
  exact ⟨sh, SeqAt.eqv_refl _ (SeqAt.canLay_of_shaped sh)⟩
theorem lay_ws {zs : List Str} (h : ∀ z ∈ zs, IsW z) : PyData.canLay0 (.list (zs.map PyData.str)) = true ∧ PyData.depth (.list (zs.map PyData.str)) ≤ 20 := by
  have q := shaped_all (xs := zs.map PyData.str) fun x hx => by
    obtain ⟨z, hz, rfl⟩ := List.mem_map.mp hx
    exact ⟨strOk_of fun c hc => ((h z hz).2.2 c hc).ok, Nat.zero_le _⟩
  have d : ∀ zs : List Str, PyData.depthAll (zs.map PyData.str) ≤ 0 := by
    intro zs
    induction zs with
    | nil => exact Nat.le_refl _
    | cons z zs ih =>
      show max 0 (PyData.depthAll (zs.map PyData.str)) ≤ 0
      omega
  refine ⟨q.1, ?_⟩
  have := d zs
  show PyData.depthAll (zs.map PyData.str) + 1 ≤ 20
  omega
theorem lay_str {z : Str} (h : ∀ c ∈ tl z, Okc c) : PyData.canLay0 (.str z) = true ∧ PyData.depth (.str z) ≤ 20 := ⟨strOk_of h, Nat.zero_le _⟩
theorem ofB {n : String} (h : (Str.ofString n).cps.toList.all (fun c => decide (c < 1114112)) = true) : ∀ c ∈ tl (Str.ofString n), Okc c := fun c hc => show c < 1114112 from of_decide_eq_true (List.all_eq_true.mp h c hc)
theorem due_ok {o : Out} (q : OutOk o) : SeqAt.shaped (dueD o) = true ∧ PyData.eqv (dueD o) (dueD o) = true := by
  cases o with
  | bad v => exact q.elim
  | many => exact tup_ok (lay_str (ofB (by decide +kernel))) (lay_str (ofB (by decide +kernel)))
  | rule ys => exact tup_ok (lay_str (ofB (by decide +kernel))) (lay_ws q)
theorem bad_ok {p : Addr} {H : Hp} {v : V} {d : PyData} (h : Odd p H v d) : SeqAt.shaped (.tuple [.str "badword", d]) = true ∧ PyData.eqv (.tuple [.str "badword", d]) (.tuple [.str "badword", d]) = true :=
  tup_ok (lay_str (ofB (by decide +kernel))) ⟨h.data.1, by have := h.data.2; omega⟩
def spLaw18 (K : PySem.W.Frag) (Pt : Addr) : Sp := fun vs H Q _ => ∃ (a : Addr) (ns : List Int), vs = [.ref a] ∧ SqL K H a (ns.map V.int) ∧ ns.length ≤ 63 ∧ TabN H Pt nmL ∧ ∀ H', Q (.bl true) H'
theorem nodup_last {zs : List Str} (hl : zs.length = 13) (h : ∀ i z, zs[i]? = some z → (tl z).getLast? = some (97 + i)) : zs.Nodup := by
  have e : zs.map (fun z => (tl z).getLast?) = (List.range 13).map fun j => some (97 + j) := by
    refine List.ext_getElem? fun i => ?_
    rw [List.getElem?_map, List.getElem?_map]
    by_cases q : i < 13
    · have q2 : i < zs.length := by omega
      rw [List.getElem?_eq_getElem q2, List.getElem?_range q]
      exact congrArg some (h i _ (List.getElem?_eq_getElem q2))
    · rw [List.getElem?_eq_none (by omega), List.getElem?_eq_none (by rw [List.length_range]; omega)]
      rfl
  have nd : (zs.map (fun z => (tl z).getLast?)).Nodup := by
    rw [e]
    decide
  exact List.Pairwise.of_map _ (fun a b hab e => hab (by rw [e])) nd
section
variable {P : Program} {w : World} {K : PySem.W.Frag} {mg : Str → Option Value} {base : Heap} {C EB ET Pt C1 : Addr}
theorem ok_law18 {f : Addr} {dV kV doc pm ct oc : Value} {an od : Option Addr} {osl : Array (Option Value)} (lk : K.lookup f = some ⟨oc, od, .func (PySem.W.fnOf "law" "law" (defArgs s_law) (defBody s_law) (defScope s_law) dV kV doc pm an (.ref C1) ct), osl⟩) (hcd : PySem.W.codeIn K (.ref C1) "law" = true)
    (TB : LamX.TabB base mg C1 Pt) (T : Bn mg) (R : RTxt K mg C) (O : ROps P w K mg base C) (D_law_pool : Df P w K mg base 1 "_law_pool" ["script", "at"] (spPool K)) (D_law_draw : Df P w K mg base 1 "_law_draw" ["pool", "many"] spDraw) (D_law_word : Df P w K mg base 2 "_law_word" ["pool"] spWord) (D_law_odd : Df P w K mg base 3 "_law_odd" ["pool"] spOdd)
    (D_law_conjunction : Df P w K mg base 4 "_law_conjunction" ["words"] (spConj C)) (M_records : MDf P w K mg base CX0 1 C "records" ["self"] [] (spRecs C)) (D_made5 : DfS P w K mg base 8 "_law_made" ["make"] ["odd"] (spMade (Lm 5) (P5 K))) (D_made6 : DfS P w K mg base 8 "_law_made" ["make"] ["given"] (spMade (Lm 6) (P6 K)))
    (D_made7 : DfS P w K mg base 8 "_law_made" ["make"] ["words"] (spMade (Lm 7) P7)) (D_made9 : DfS P w K mg base 8 "_law_made" ["make"] ["words"] (spMade (Lm 9) P9)) (D_made17 : DfS P w K mg base 8 "_law_made" ["make"] ["one", "other"] (spMade3 C)) :
    FnOk P w K mg base CX0 9 f (PySem.W.fnOf "law" "law" (defArgs s_law) (defBody s_law) (defScope s_law) dV kV doc pm an (.ref C1) ct) ["script"] (spLaw18 K Pt) := by
  refine fn_of lk hcd sc_law (fun vs H Q E h => ?_) (fun A outer s H vs Q E hr h => ?_)
  · obtain ⟨a, ns, rfl, _⟩ := h
    rfl
  · obtain ⟨a, ns, rfl, hS, hlen, tn, k⟩ := h
    refine ⟨_, PSs.nox (pss_cons (ps_for PassesOwn.never rfl (pi_range1 rfl T.range (pa_cons (pe_callB (call_max2 rfl) (by rfl) T.max PyProof.Rows.boot_max (pa_cons pe_int (pa_cons (pe_callB (call_min2 rfl) (by rfl) T.min PyProof.Rows.boot_min (pa_cons pe_int (pa_cons (pe_callB call_len_seq (by rfl) T.len PySem.boot_len (pa_cons (pv 0) pa_nil)) pa_nil))) pa_nil))) pa_nil)) (pg_name (i := 1) sc_law.nd rfl (Or.inl rfl))
  (pss_cons (ps_set (i := 2) sc_law.nd rfl (Or.inr rfl) (pe_df D_law_pool hr (by first | decide | omega) rfl (pa_cons (pv 0) (pa_cons (pv 1) pa_nil))))
  (pss_cons (ps_set (i := 3) sc_law.nd rfl (Or.inr rfl) (pe_lc (own := [("k", 5)]) (g := gName 5) (tt := tYes) rfl sc_law.nd (pi_range1 rfl T.range (pa_cons pe_int pa_nil)) (blkOk_by (N := ["script", "at", "pool", "words", "odd", "k", "given", "told", "many", "start", "one", "size", "other", "both", "due", "before", "makes", "make"]) (sc := defScope s_law) (by decide +kernel)) (fun _ _ _ _ _ => pg_name (i := 5) sc_law.nd rfl (Or.inl rfl)) (fun _ _ _ _ _ => pts_nil) (fun _ _ _ _ _ => (pe_op op_add_str (pe_slice sl_str (pe_df D_law_word hr (by first | decide | omega) rfl (pa_cons (pv 2) pa_nil)) po_none (po_some pe_int)) (pe_ix ix_str pe_str (pv 5) (fun _ _ => rfl))))))
  (pss_cons (ps_set (i := 3) sc_law.nd rfl (Or.inr rfl) (pe_callB (cr_sortTx rfl) (by rfl) T.sorted (by decide +kernel) (pa_cons (pe_callTy (cr_setTx rfl) (by rfl) T.set (by decide +kernel) (pa_cons (pe_lc (own := [("k", 5)]) (g := gName 5) (tt := tYes) rfl sc_law.nd (pi_range1 rfl T.range (pa_cons pe_int pa_nil)) (blkOk_by (N := ["script", "at", "pool", "words", "odd", "k", "given", "told", "many", "start", "one", "size", "other", "both", "due", "before", "makes", "make"]) (sc := defScope s_law) (by decide +kernel)) (fun _ _ _ _ _ => pg_name (i := 5) sc_law.nd rfl (Or.inl rfl)) (fun _ _ _ _ _ => pts_nil) (fun _ _ _ _ _ => (pe_op op_add_str (pe_slice sl_str (pe_ix (show IxR _ (rIxL K) from ix_list) (pv 3) (pv 5) (fun _ _ => rfl)) po_none (po_some pe_int)) (pe_ix ix_str pe_str (pv 5) (fun _ _ => rfl))))) pa_nil)) pa_nil)))
  (pss_cons (ps_asg (pe_tup (pa_cons (pe_df D_law_odd hr (by first | decide | omega) rfl (pa_cons (pv 2) pa_nil)) (pa_cons (pe_df D_law_draw hr (by first | decide | omega) rfl (pa_cons (pv 2) (pa_cons pe_int pa_nil))) pa_nil))) (pg_tup rfl (pgs_cons (pg_name (i := 4) sc_law.nd rfl (Or.inr rfl)) (pgs_cons (pg_name (i := 5) sc_law.nd rfl (Or.inl rfl)) pgs_nil))))
  (pss_cons (ps_set (i := 6) sc_law.nd rfl (Or.inr rfl) (pe_op op_cat (pe_op op_cat (pe_slice sl_list (pv 3) po_none (po_some (pv 5))) (pe_lst (pa_cons (pv 4) pa_nil))) (pe_slice sl_list (pv 3) (po_some (pv 5)) (po_some pe_int))))
  (pss_cons (ps_if (pt_cmpR (op_neD hr.units) (pe_dfS (js := [4]) D_made5 (fun ok => Caps.made ok (ndef_free nB5) (ndef_fr nB5) rfl) hr (by first | decide | omega) rfl (pa_cons (pe_lamV (T := [(Pt, nmL)]) (nm := nmL) TB rfl (List.mem_singleton.mpr rfl) rfl (fun p hp _ => by rw [List.mem_singleton.mp hp]) (ndef_free nB5) rfl) pa_nil)) (pe_tup (pa_cons pe_str (pa_cons (pv 4) pa_nil))) (nomark _))
  (pss_one (ps_ret pe_bl))
  pss_nil)
  (pss_cons (ps_if (pt_cmpR (op_neD hr.units) (pe_dfS (js := [6]) D_made6 (fun ok => Caps.made ok (ndef_free nB6) (ndef_fr nB6) rfl) hr (by first | decide | omega) rfl (pa_cons (pe_lamV (T := [(Pt, nmL)]) (nm := nmL) TB rfl (List.mem_singleton.mpr rfl) rfl (fun p hp _ => by rw [List.mem_singleton.mp hp]) (ndef_free nB6) rfl) pa_nil)) (pe_tup (pa_cons pe_str (pa_cons (pv 4) pa_nil))) (nomark _))
  (pss_one (ps_ret pe_bl))
  pss_nil)
  (pss_cons (ps_set (i := 7) sc_law.nd rfl (Or.inl rfl) (pe_dfS (js := [3]) D_made7 (fun ok => Caps.made ok (ndef_free nB7) (ndef_fr nB7) rfl) hr (by first | decide | omega) rfl (pa_cons (pe_lamV (T := [(Pt, nmL)]) (nm := nmL) TB rfl (List.mem_singleton.mpr rfl) rfl (fun p hp _ => by rw [List.mem_singleton.mp hp]) (ndef_free nB7) rfl) pa_nil)))
  (pss_cons (ps_if (pt_cmpR (op_neD hr.units) (pv 7) (pe_tup (pa_cons pe_str (pa_cons pe_str pa_nil))) (nomark _))
  (pss_one (ps_ret pe_bl))
  pss_nil)
  (pss_cons (ps_set (i := 7) sc_law.nd rfl (Or.inl rfl) (pe_dfS (js := [3]) D_made9 (fun ok => Caps.made ok (ndef_free nB9) (ndef_fr nB9) rfl) hr (by first | decide | omega) rfl (pa_cons (pe_lamV (T := [(Pt, nmL)]) (nm := nmL) TB rfl (List.mem_singleton.mpr rfl) rfl (fun p hp _ => by rw [List.mem_singleton.mp hp]) (ndef_free nB9) rfl) pa_nil)))
  (pss_cons (ps_if (pt_cmpR (op_neD hr.units) (pv 7) (pe_tup (pa_cons pe_str (pa_cons (pe_slice sl_list (pv 3) po_none (po_some pe_int)) pa_nil))) (nomark _))
  (pss_one (ps_ret pe_bl))
  pss_nil)
  (pss_cons (ps_par (i := 8) (j := 9) (by rfl) sc_law.nd rfl rfl (by decide) rfl rfl (pa_cons (pe_op op_add pe_int (pe_df D_law_draw hr (by first | decide | omega) rfl (pa_cons (pv 2) (pa_cons pe_int pa_nil)))) (pa_cons (pe_df D_law_draw hr (by first | decide | omega) rfl (pa_cons (pv 2) (pa_cons pe_int pa_nil))) pa_nil)) (by rfl))
  (pss_cons (ps_asg (pe_tup (pa_cons (pe_df D_law_conjunction hr (by first | decide | omega) rfl (pa_cons (pe_slice sl_list (pv 3) po_none (po_some (pv 8))) pa_nil)) (pa_cons (pe_op op_add pe_int (pe_df D_law_draw hr (by first | decide | omega) rfl (pa_cons (pv 2) (pa_cons pe_int pa_nil)))) pa_nil))) (pg_tup rfl (pgs_cons (pg_name (i := 10) sc_law.nd rfl (Or.inr rfl)) (pgs_cons (pg_name (i := 11) sc_law.nd rfl (Or.inl rfl)) pgs_nil))))
  (pss_cons (ps_set (i := 12) sc_law.nd rfl (Or.inr rfl) (pe_df D_law_conjunction hr (by first | decide | omega) rfl (pa_cons (pe_slice sl_list (pv 3) (po_some (pv 9)) (po_some (pe_op op_add (pv 9) (pv 11)))) pa_nil)))
  (pss_cons (ps_set (i := 13) sc_law.nd rfl (Or.inl rfl) (pe_callB (cr_sortTx rfl) (by rfl) T.sorted (by decide +kernel) (pa_cons (pe_callTy (cr_setTx rfl) (by rfl) T.set (by decide +kernel) (pa_cons (pe_op op_cat (pe_md0 M_records R.c hr (by first | decide | omega) (pv 10)) (pe_md0 M_records R.c hr (by first | decide | omega) (pv 12))) pa_nil)) pa_nil)))
  (Evl.pss_cut (ps_set (i := 14) sc_law.nd rfl (Or.inl rfl) (pe_ifExp (pt_cmpR op_lt (pe_callB call_len_seq (by rfl) T.len PySem.boot_len (pa_cons (pv 13) pa_nil)) pe_int (nomark _)) (pe_tup (pa_cons pe_str (pa_cons (pv 13) pa_nil))) (pe_tup (pa_cons pe_str (pa_cons pe_str pa_nil)))))
  (pss_cons (ps_set (i := 15) sc_law.nd rfl (Or.inl rfl) (pe_lst (pa_cons (pe_md0 M_records R.c hr (by first | decide | omega) (pv 10)) (pa_cons (pe_md0 M_records R.c hr (by first | decide | omega) (pv 12)) (pa_cons (pe_callTy (cr_str2 O hr (by first | decide | omega)) (by rfl) T.str (by decide +kernel) (pa_cons (pv 10) pa_nil)) (pa_cons (pe_callTy (cr_str2 O hr (by first | decide | omega)) (by rfl) T.str (by decide +kernel) (pa_cons (pv 12) pa_nil)) pa_nil))))))
  (pss_cons (ps_set (i := 16) sc_law.nd rfl (Or.inl rfl) (pe_lst (pa_cons (pe_lamV (T := [(Pt, nmL)]) (nm := nmL) TB rfl (List.mem_singleton.mpr rfl) rfl (fun p hp _ => by rw [List.mem_singleton.mp hp]) (ndef_free nB17) rfl) pa_nil)))
  (pss_cons (ps_expr (pe_bm PySem.F.plainAttrs_list PySem.F.slot_list_append PySem.F.type_list_append mt_append (pv 16) (pa_cons (pe_lamV (T := [(Pt, nmL)]) (nm := nmL) TB rfl (List.mem_singleton.mpr rfl) rfl (fun p hp _ => by rw [List.mem_singleton.mp hp]) (ndef_free nB18) rfl) pa_nil)))
  (pss_cons (ps_expr (pe_bm PySem.F.plainAttrs_list PySem.F.slot_list_append PySem.F.type_list_append mt_append (pv 16) (pa_cons (pe_lamV (T := [(Pt, nmL)]) (nm := nmL) TB rfl (List.mem_singleton.mpr rfl) rfl (fun p hp _ => by rw [List.mem_singleton.mp hp]) (ndef_free nB19) rfl) pa_nil)))
  (pss_cons (ps_for PassesOwn.never rfl (pi_list (pv 16)) (pg_name (i := 17) sc_law.nd rfl (Or.inl rfl))
  (pss_one (ps_if (pt_cmpR (op_neD hr.units) (pe_dfS (js := [10, 12]) D_made17 (fun ok => Caps.made ok (ndef_free nB17) (ndef_fr nB17) rfl) hr (by first | decide | omega) rfl (pa_cons (pv 17) pa_nil)) (pv 14) (nomark _))
  (pss_one (ps_ret pe_bl))
  pss_nil)))
  (pss_one (ps_if (PW.pt (pw_or (pt_cmpR (op_neD hr.units) (pe_lst (pa_cons (pe_md0 M_records R.c hr (by first | decide | omega) (pv 10)) (pa_cons (pe_md0 M_records R.c hr (by first | decide | omega) (pv 12)) (pa_cons (pe_callTy (cr_str2 O hr (by first | decide | omega)) (by rfl) T.str (by decide +kernel) (pa_cons (pv 10) pa_nil)) (pa_cons (pe_callTy (cr_str2 O hr (by first | decide | omega)) (by rfl) T.str (by decide +kernel) (pa_cons (pv 12) pa_nil)) pa_nil))))) (pv 15) (nomark _)) (pw_or1 (pt_cmpR (op_neD hr.units) (pe_md0 M_records R.c hr (by first | decide | omega) (pe_no O hr (by first | decide | omega) (pv 10))) (pe_slice sl_list (pv 3) po_none (po_some (pv 8))) (nomark _)))))
  (pss_one (ps_ret pe_bl))
  pss_nil))))))))))))))))))))))))
  (pss_one (ps_ret pe_bl))), ?_⟩
    have hlm : (ns.map V.int).length = ns.length := List.length_map ..
    obtain ⟨N, hN, hN2⟩ : ∃ N : Int, N = (if (if ((ns.map V.int).length : Int) < 10 then ((ns.map V.int).length : Int) else 10) > 1 then (if ((ns.map V.int).length : Int) < 10 then ((ns.map V.int).length : Int) else 10) else 1) ∧ 0 ≤ N ∧ N ≤ 10 := by
      refine ⟨_, rfl, ?_, ?_⟩ <;> (repeat' split) <;> omega
    refine ⟨_, rfl, a, _, rfl, .inl hS, _, _, rfl, _, _, rfl, N, (by rw [hN]), by omega, by omega, for_range (lo := 0) (n := N.toNat) (fun i σ H1 => ∃ v1 v2 v3 v4 v5 v6 v7 v8 v9 v10 v11 v12 v13 v14 v15 v16 v17, σ = [some (.ref a), v1, v2, v3, v4, v5, v6, v7, v8, v9, v10, v11, v12, v13, v14, v15, v16, v17] ∧ Kt H H1 ∧ TabN H1 Pt nmL) ⟨_, _, _, _, _, _, _, _, _, _, _, _, _, _, _, _, _, rfl, fun _ _ e _ => e, tn⟩ ?_ ?_⟩
    · rintro i σ H1 hi ⟨v1, v2, v3, v4, v5, v6, v7, v8, v9, v10, v11, v12, v13, v14, v15, v16, v17, rfl, kt, t1⟩
      refine ⟨_, rfl, _, rfl, a, ns, i, (by rw [Int.zero_add]; rfl), kt.seq hS, by omega, fun p o hp hp1 => ?_⟩
      have s1 := Same.new (o := o) hp
      have t1 := t1.ext s1
      obtain ⟨H0, eH0⟩ : ∃ H0, H0 = upd H1 p o := ⟨_, rfl⟩
      have k0 : Kt H H0 := by rw [eH0]; exact fun y u e n => s1 _ _ (kt y u e n)
      rw [← eH0] at hp1 t1
      rw [← eH0]
      have hp0 : ∀ y u, H y = some u → (∀ ps, u ≠ .tbl ps) → y ≠ p := fun y u e n => ne_of_none (kt y u e n) hp
      have done : ∀ {G : Hp}, Kq p H0 G → Kt H G := fun k y u e n => k _ _ (k0 y u e n) n (hp0 y u e n)
      clear eH0 s1 kt
      -- the words
      refine ⟨_, rfl, by decide, by decide, fun D hD => ?_⟩
      refine lc_strsI (p := p) (gi := 5) (fun _ z => IsW z) 13 0 (by decide) hp1 hD (fun j m' G Q2 hj hq hm kq cont => ?_) (fun ws1 G1 lw okw hw hp2 kp2 => ?_)
      · refine ⟨_, rfl, p, m', rfl, hq, by omega, fun z G' wz hp' kp' => ?_⟩
        have zl : z.length ≤ 8 := by rw [len_tl]; exact wz.2.1
        have e13 : (Str.ofString "abcdefghijklm").length = 13 := by decide +kernel
        obtain ⟨c1, _⟩ := cut_word (n := 7) wz (by decide) (by decide) hj
        refine ⟨_, rfl, z, rfl, big (by omega), _, rfl, _, _, 97 + j, rfl, rfl, big (by rw [e13]; decide), abcAt hj, _, _, rfl, rfl, ?_, cont _ G' c1 hp' kp'⟩
        have l8 := c1.2.1
        rw [← len_tl, len_app] at l8
        exact big (Nat.le_trans l8 (by decide))
      have kW : ∀ {G : Hp}, Kp [p] G1 G → G D = some (.lst (ws1.map V.str)) := fun kq => kq _ _ hw fun z => by
        obtain ⟨_, _, _, e, _⟩ := hp1
        exact (ne_of_none e hD).symm (List.mem_singleton.mp z)
      refine ⟨_, rfl, by decide, by decide, fun D2 hD2 => ?_⟩
      refine lc_strsI (p := p) (gi := 5) (fun j z => IsW z ∧ (tl z).getLast? = some (97 + j)) 13 _ (by decide) hp2 hD2 (fun j m' G Q2 hj hq hm kq cont => ?_) (fun ws2 G2 lw2 okw2 hw2 hp3 kp3 => ?_)
      · have hj1 : j < ws1.length := by omega
        have ez : ws1[j]? = some ws1[j] := List.getElem?_eq_getElem hj1
        have wz := okw j _ ez
        generalize ws1[j] = z at ez wz
        have zl : z.length ≤ 8 := by rw [len_tl]; exact wz.2.1
        have e13 : (Str.ofString "abcdefghijklm").length = 13 := by decide +kernel
        have c1 := cut_word (n := 6) wz (by decide) (by decide) hj
        have at_ : atI (ws1.map V.str) (0 + (j : Int)) = some (.str z) := by
          rw [Int.zero_add]
          exact atI_nat (by rw [List.getElem?_map, ez]; rfl)
        refine ⟨_, rfl, _, rfl, D, _, _, _, rfl, rfl, SqL.of (kW kq), at_, _, rfl, z, rfl, big (by omega), _, rfl, _, _, 97 + j, rfl, rfl, big (by rw [e13]; decide), abcAt hj, _, _, rfl, rfl, ?_, cont _ G c1 (hq.up (by omega)) (Kp.refl _ _)⟩
        have l8 := c1.1.2.1
        rw [← len_tl, len_app] at l8
        exact big (Nat.le_trans l8 (by decide))
      refine ⟨D2, ws2, rfl, .inl (SqL.of hw2), by omega, fun e1 M1 n1 m1 mem1 nd1 => ⟨e1, M1, rfl, upd_same, fun ws W perm so nW => ?_⟩⟩
      have nd2 := nodup_last lw2 fun i z hz => (okw2 i z hz).2
      have okA : ∀ z ∈ ws2, IsW z := fun z hz => by
        obtain ⟨i, hi⟩ := List.getElem?_of_mem hz
        exact (okw2 i z hi).1
      have W13 : Ws13 ws := ⟨by rw [perm.length_eq, (perm_mem nd1 nd2 mem1).length_eq, lw2], fun z hz => okA z ((mem1 z).mp (perm.mem_iff.mp hz)), perm.nodup_iff.mpr nd1, so⟩
      have S0 : S18 p Pt W ws H0 (upd (upd G2 e1 (TxO w e1 M1)) W (.lst (ws.map V.str))) 300 := by
        have sa := Same.new (o := TxO w e1 M1) n1
        have sb := Same.new (o := .lst (ws.map V.str)) nW
        obtain ⟨xs, hx⟩ := hp1.nlst
        have kk := (((kp2.trans kp3)).trans (Kp.same sa)).trans (Kp.same sb)
        obtain ⟨ys, hy⟩ := hp3.nlst
        have ne : W ≠ p := (ne_of_none (sa _ _ hy) nW).symm
        exact ⟨Kq.kp kk, (hp3.mv fun o e => sb _ _ (sa _ _ e)).up (by omega), IC.TabN.kp t1 kk hx, upd_same, ne⟩
      clear kW kp3 kp2 hp3 hp2 hw hw2 okw okw2 lw lw2 perm mem1 nd1 nd2 okA m1 n1 nW hD hD2
      -- odd, k
      refine ⟨_, rfl, p, _, rfl, S0.po, by decide, fun v d G4 od hp4 kp4 => ?_⟩
      have S1 := S0.kp kp4 hp4
      clear kp4 hp4 S0
      refine ⟨_, rfl, p, 8, _, rfl, S1.po, by decide, by decide, by decide, fun kk o5 kk0 kk8 hp5 => ⟨(by show 2 ≤ sizeLine; decide), fun t nt => ?_⟩⟩
      obtain ⟨kn, rfl⟩ : ∃ kn : Nat, kk = kn := ⟨kk.toNat, by omega⟩
      refine ⟨t, _, rfl, SqT.of upd_same, rfl, _, _, rfl, _, _, rfl, rfl, ?_⟩
      obtain ⟨xs1, hx1⟩ := S1.lst
      have S2 := (S1.kp (Kp.at_ (o := o5) (List.mem_singleton.mpr rfl)) hp5).same (Same.new (o := .tup [v, .int (kn : Int)]) nt)
      have od2 := (od.kq (Kq.kp (Kp.at_ (o := o5) (List.mem_singleton.mpr rfl))) hx1).kq (Kq.same (Same.new (o := .tup [v, .int (kn : Int)]) nt)) (S1.kp (Kp.at_ (o := o5) (List.mem_singleton.mpr rfl)) hp5).lst.choose_spec
      generalize upd (upd G4 p o5) t (.tup [v, .int (kn : Int)]) = G5 at S2 od2
      clear S1 od hp5 nt hx1
      -- given
      refine ⟨_, rfl, _, rfl, _, rfl, W, _, rfl, SqL.of S2.w, fun p1 n1 => ?_⟩
      rw [cutV_L]
      have s1 := Same.new (o := .lst ((ws.map V.str).take kn)) n1
      refine ⟨_, rfl, (by show 1 ≤ sizeLine; decide), fun p2 n2 => ?_⟩
      have s2 := Same.new (o := .lst [v]) n2
      have wl : (ws.map V.str).length = 13 := by rw [List.length_map]; exact W13.len
      refine ⟨p1, p2, _, _, rfl, rfl, s2 _ _ upd_same, upd_same, big (by rw [List.length_take]; show _ + 1 ≤ _; omega), fun p3 n3 => ?_⟩
      have s3 := Same.new (o := .lst ((ws.map V.str).take kn ++ [v])) n3
      have S3 := ((S2.same s1).same s2).same s3
      refine ⟨_, rfl, _, rfl, _, rfl, _, rfl, W, _, rfl, SqL.of S3.w, fun p4 n4 => ?_⟩
      rw [show (7 : Int) = ((7 : Nat) : Int) from rfl, cutV_M]
      have s4 := Same.new (o := .lst (((ws.map V.str).drop kn).take (7 - kn))) n4
      refine ⟨p3, p4, _, _, rfl, rfl, s4 _ _ upd_same, upd_same, big (by rw [List.length_append, List.length_take, List.length_take]; show _ + 1 + _ ≤ _; omega), fun gv n5 => ?_⟩
      have s5 := Same.new (o := .lst (((ws.map V.str).take kn ++ [v]) ++ ((ws.map V.str).drop kn).take (7 - kn))) n5
      have S4 := (S3.same s4).same s5
      have od3 := od2.kq (Kq.same ((((s1.trans s2).trans s3).trans s4).trans s5)) S2.lst.choose_spec
      have hgv : upd (upd (upd (upd (upd G5 p1 (.lst ((ws.map V.str).take kn))) p2 (.lst [v])) p3 (.lst ((ws.map V.str).take kn ++ [v]))) p4 (.lst (((ws.map V.str).drop kn).take (7 - kn)))) gv (.lst (((ws.map V.str).take kn ++ [v]) ++ ((ws.map V.str).drop kn).take (7 - kn))) gv = some (.lst (((ws.map V.str).take kn ++ [v]) ++ ((ws.map V.str).drop kn).take (7 - kn))) := upd_same
      have ngv : gv ≠ p := by
        obtain ⟨xs, hx⟩ := (S3.same s4).lst
        exact (ne_of_none hx n5).symm
      generalize upd (upd (upd (upd (upd G5 p1 (.lst ((ws.map V.str).take kn))) p2 (.lst [v])) p3 (.lst ((ws.map V.str).take kn ++ [v]))) p4 (.lst (((ws.map V.str).drop kn).take (7 - kn)))) gv (.lst (((ws.map V.str).take kn ++ [v]) ++ ((ws.map V.str).drop kn).take (7 - kn))) = G6 at S4 od3 hgv
      clear s1 s2 s3 s4 s5 S3 S2 od2 n1 n2 n3 n4 n5
      have gl : (((ws.map V.str).take kn ++ [v]) ++ ((ws.map V.str).drop kn).take (7 - kn)).length = 8 := by
        rw [List.length_append, List.length_append, List.length_take, List.length_take, List.length_drop, wl]
        show _ + 1 + _ = 8
        omega
      have gk : (((ws.map V.str).take kn ++ [v]) ++ ((ws.map V.str).drop kn).take (7 - kn))[kn]? = some v := by
        have tl_ : ((ws.map V.str).take kn).length = kn := by rw [List.length_take]; omega
        rw [List.getElem?_append_left (by rw [List.length_append, tl_]; show kn < kn + 1; omega), List.getElem?_append_right (by rw [tl_]; exact Nat.le_refl _), tl_, Nat.sub_self]
        rfl
      have gb : ∀ i, i < kn → ∃ z, (((ws.map V.str).take kn ++ [v]) ++ ((ws.map V.str).drop kn).take (7 - kn))[i]? = some (.str z) ∧ IsW z := fun i hi => by
        have tl_ : ((ws.map V.str).take kn).length = kn := by rw [List.length_take]; omega
        rw [List.getElem?_append_left (by rw [List.length_append, tl_]; show i < kn + 1; omega), List.getElem?_append_left (by rw [tl_]; exact hi), List.getElem?_take_of_lt hi, List.getElem?_map]
        have hi2 : i < ws.length := by rw [W13.len]; omega
        rw [List.getElem?_eq_getElem hi2]
        exact ⟨_, rfl, W13.ok _ (List.getElem_mem hi2)⟩
      generalize ((ws.map V.str).take kn ++ [v]) ++ ((ws.map V.str).drop kn).take (7 - kn) = gx at hgv gl gk gb
      -- lambda: Rule.has(odd)
      refine ⟨S4.tabs, fun f5 c5 G7 eN bk tn7 nf hf hc => ?_⟩
      have S5 := S4.ext eN (tn7 _ (List.mem_singleton.mpr rfl))
      have od4 := od3.kq (Kq.ext eN) S4.lst.choose_spec
      have hgv1 := eN _ _ hgv nofun
      clear S4 od3 hgv bk tn7 nf
      refine ⟨f5, c5, .bad v, rfl, hf, hc, ⟨v, rfl, od4.now, rfl⟩, fun G8 t8 s8 tell => ?_⟩
      have S6 := S5.same s8
      have od5 := od4.kq (Kq.same s8) S5.lst.choose_spec
      have hgv2 := s8 _ _ hgv1
      clear S5 od4 hgv1 s8 hf hc eN
      refine ⟨_, rfl, (by show 2 ≤ sizeLine; decide), fun t9 n9 => ?_⟩
      have s9 := Same.new (o := .tup [.str "badword", v]) n9
      have S7 := S6.same s9
      have od6 := od5.kq (Kq.same s9) S6.lst.choose_spec
      have hgv3 := s9 _ _ hgv2
      obtain ⟨sh, ev⟩ := bad_ok od5
      refine ⟨.tuple [.str "badword", d], .tuple [.str "badword", d], .tup (SqT.of (s9 _ _ tell)) (.cons (.str _) (.cons od6.dp .nil)), .tup (SqT.of upd_same) (.cons (.str _) (.cons od6.dp .nil)), sh, sh, ?_⟩
      rw [ev]
      refine ⟨_, rfl, iteF ?_⟩
      clear S6 od5 hgv2 tell
      -- lambda: _law_eight(given)
      refine ⟨S7.tabs, fun f6 c6 G10 eN bk tn10 nf hf hc => ?_⟩
      have S8 := S7.ext eN (tn10 _ (List.mem_singleton.mpr rfl))
      have od7 := od6.kq (Kq.ext eN) S7.lst.choose_spec
      have hgv4 := eN _ _ hgv3 nofun
      clear S7 od6 hgv3 bk tn10 nf s9
      refine ⟨f6, c6, .bad v, rfl, hf, hc, ⟨gv, gx, kn, v, rfl, hgv4, gl, gk, gb, od7.now, rfl⟩, fun G11 t11 s11 tell => ?_⟩
      have S9 := S8.same s11
      have od8 := od7.kq (Kq.same s11) S8.lst.choose_spec
      refine ⟨_, rfl, (by show 2 ≤ sizeLine; decide), fun t12 n12 => ?_⟩
      have s12 := Same.new (o := .tup [.str "badword", v]) n12
      have S10 := S9.same s12
      have od9 := od8.kq (Kq.same s12) S9.lst.choose_spec
      obtain ⟨sh, ev⟩ := bad_ok od8
      refine ⟨.tuple [.str "badword", d], .tuple [.str "badword", d], .tup (SqT.of (s12 _ _ tell)) (.cons (.str _) (.cons od9.dp .nil)), .tup (SqT.of upd_same) (.cons (.str _) (.cons od9.dp .nil)), sh, sh, ?_⟩
      rw [ev]
      refine ⟨_, rfl, iteF ?_⟩
      clear S8 S9 od7 od8 od9 hgv4 tell s11 eN hf hc gl gk gb
      generalize upd G11 t12 (.tup [.str "badword", v]) = G12 at S10
      clear s12 n12
      -- together of seven
      refine ⟨S10.tabs, fun f7 c7 G13 eN bk tn13 nf hf hc => ?_⟩
      have S11 := S10.ext eN (tn13 _ (List.mem_singleton.mpr rfl))
      refine ⟨f7, c7, .many, rfl, hf, hc, ⟨W, ws, rfl, S11.w, W13, rfl⟩, fun G14 t14 s14 tell => ?_⟩
      have S12 := S11.same s14
      refine ⟨_, rfl, (by show 2 ≤ sizeLine; decide), fun t15 n15 => ?_⟩
      have s15 := Same.new (o := .tup [.str "toomany", .str "records"]) n15
      obtain ⟨sh, ev⟩ := due_ok (o := .many) trivial
      refine ⟨dueD .many, dueD .many, .tup (SqT.of (s15 _ _ tell)) (.cons (.str _) (.cons (.str _) .nil)), .tup (SqT.of upd_same) (.cons (.str _) (.cons (.str _) .nil)), sh, sh, ?_⟩
      rw [ev]
      refine ⟨_, rfl, iteF ?_⟩
      have S13 := S12.same s15
      generalize upd G14 t15 (.tup [.str "toomany", .str "records"]) = G15 at S13
      clear S10 S11 S12 s14 s15 n15 tell eN bk tn13 nf hf hc
      -- together of six
      have ok6 : ∀ z ∈ ws.take 6, IsW z := fun z hz => W13.ok z (List.mem_of_mem_take hz)
      refine ⟨S13.tabs, fun f9 c9 G16 eN bk tn16 nf hf hc => ?_⟩
      have S14 := S13.ext eN (tn16 _ (List.mem_singleton.mpr rfl))
      refine ⟨f9, c9, .rule (ws.take 6), rfl, hf, hc, ⟨W, ws, rfl, S14.w, W13, rfl⟩, fun G17 t17 s17 tell => ?_⟩
      have S15 := S14.same s17
      refine ⟨_, rfl, _, rfl, _, rfl, W, _, rfl, SqL.of S15.w, fun q18 n18 => ?_⟩
      rw [show (6 : Int) = ((6 : Nat) : Int) from rfl, cutV_L]
      have s18 := Same.new (o := .lst ((ws.map V.str).take 6)) n18
      refine ⟨(by show 2 ≤ sizeLine; decide), fun t19 n19 => ?_⟩
      have s19 := Same.new (o := .tup [.str "rule", .ref q18]) n19
      have S16 := (S15.same s18).same s19
      obtain ⟨sh, ev⟩ := due_ok (o := .rule (ws.take 6)) ok6
      have d1 := tell_dp (K := K) tell ok6
      obtain ⟨l17, tl1, tl2⟩ := tell
      refine ⟨dueD (.rule (ws.take 6)), dueD (.rule (ws.take 6)), tell_dp ⟨l17, s19 _ _ (s18 _ _ tl1), s19 _ _ (s18 _ _ tl2)⟩ ok6, tell_dp ⟨q18, upd_same, s19 _ _ (by rw [upd_same, List.map_take])⟩ ok6, sh, sh, ?_⟩
      rw [ev]
      refine ⟨_, rfl, iteF ?_⟩
      generalize upd (upd G17 q18 (.lst ((ws.map V.str).take 6))) t19 (.tup [.str "rule", .ref q18]) = G19 at S16
      clear S13 S14 S15 s17 s18 s19 n18 n19 tl1 tl2 d1 eN bk tn16 nf hf hc
      -- many, start
      refine ⟨_, rfl, p, 6, _, rfl, S16.po, by decide, by decide, by decide, fun x o20 x0 x6 hp20 => ⟨_, _, rfl, rfl, ?_⟩⟩
      have S17 := S16.kp (Kp.at_ (o := o20) (List.mem_singleton.mpr rfl)) hp20
      refine ⟨_, rfl, p, 7, _, rfl, S17.po, by decide, by decide, by decide, fun y o21 y0 y7 hp21 => ⟨_, _, rfl, ?_⟩⟩
      have S18a := S17.kp (Kp.at_ (o := o21) (List.mem_singleton.mpr rfl)) hp21
      obtain ⟨mn, em⟩ : ∃ mn : Nat, (1 + x : Int) = (mn : Int) := ⟨(1 + x).toNat, by omega⟩
      obtain ⟨sn, rfl⟩ : ∃ sn : Nat, y = (sn : Int) := ⟨y.toNat, by omega⟩
      have m1 : 1 ≤ mn := by omega
      have m6 : mn ≤ 6 := by omega
      clear x0 x6 S16 S17 hp20 hp21
      generalize upd (upd G19 p o20) p o21 = G21 at S18a
      -- one, size
      have okT : ∀ {zs : List Str}, zs.Sublist ws → ∀ z ∈ zs, IsW z := fun q z hz => W13.ok z (q.subset hz)
      refine ⟨_, rfl, _, rfl, (mn : Int), congrArg V.int em, W, _, rfl, SqL.of S18a.w, fun q22 n22 => ?_⟩
      rw [cutV_L, ← List.map_take]
      have s22 := Same.new (o := .lst ((ws.take mn).map V.str)) n22
      have lmn : (ws.take mn).length = mn := by rw [List.length_take, W13.len]; omega
      refine ⟨q22, ws.take mn, rfl, upd_same, by omega, by omega, okT (List.take_sublist ..), W13.nd.sublist (List.take_sublist ..), sorted_take W13.so mn, fun G23 r1 al z s23 ra tz => ?_⟩
      have S19 := (S18a.same s22).same s23
      refine ⟨_, rfl, p, 6, _, rfl, S19.po, by decide, by decide, by decide, fun x2 o24 x20 x26 hp24 => ⟨_, _, rfl, rfl, (by show 2 ≤ sizeLine; decide), fun t25 n25 => ?_⟩⟩
      have S20 := S19.kp (Kp.at_ (o := o24) (List.mem_singleton.mpr rfl)) hp24
      have ra2 := ra.kq (Kq.kp (Kp.at_ (o := o24) (List.mem_singleton.mpr rfl))) S19.lst.choose_spec
      refine ⟨t25, _, rfl, SqT.of upd_same, rfl, _, _, rfl, _, _, rfl, rfl, ?_⟩
      have s25 := Same.new (o := .tup [.ref r1, .int (1 + x2)]) n25
      have S21 := S20.same s25
      have ra3 := ra2.same s25
      obtain ⟨zn, ez⟩ : ∃ zn : Nat, (1 + x2 : Int) = (zn : Int) := ⟨(1 + x2).toNat, by omega⟩
      have z1 : 1 ≤ zn := by omega
      have z6 : zn ≤ 6 := by omega
      clear S18a S19 S20 ra ra2 s22 s23 s25 hp24 n22 n25
      generalize upd (upd G23 p o24) t25 (.tup [.ref r1, .int (1 + x2)]) = G25 at S21 ra3
      -- other
      refine ⟨_, rfl, _, rfl, _, rfl, _, rfl, _, rfl, _, _, rfl, rfl, ((sn + zn : Nat) : Int), congrArg V.int (by omega), W, _, rfl, SqL.of S21.w, fun q26 n26 => ?_⟩
      rw [cutV_M, show sn + zn - sn = zn by omega, ← List.map_drop, ← List.map_take]
      have s26 := Same.new (o := .lst (((ws.drop sn).take zn).map V.str)) n26
      have lzn : ((ws.drop sn).take zn).length = zn := by rw [List.length_take, List.length_drop, W13.len]; omega
      have sub2 : ((ws.drop sn).take zn).Sublist ws := (List.take_sublist ..).trans (List.drop_sublist ..)
      refine ⟨q26, (ws.drop sn).take zn, rfl, upd_same, by omega, by omega, okT sub2, W13.nd.sublist sub2, sorted_take (sorted_drop W13.so sn) zn, fun G27 r2 bl y s27 rb ty => ?_⟩
      have S22 := (S21.same s26).same s27
      have ra4 := (ra3.same s26).same s27
      obtain ⟨ns', en⟩ : ∃ ns', ns' = ws.take mn := ⟨_, rfl⟩
      obtain ⟨ms', em'⟩ : ∃ ms', ms' = (ws.drop sn).take zn := ⟨_, rfl⟩
      have ln : ns'.length ≤ 6 := by rw [en, lmn]; exact m6
      have lm : ms'.length ≤ 6 := by rw [em', lzn]; exact z6
      have okn : ∀ z ∈ ns', IsW z := by rw [en]; exact okT (List.take_sublist ..)
      have okm : ∀ z ∈ ms', IsW z := by rw [em']; exact okT sub2
      rw [← en] at ra4
      rw [← em'] at rb
      clear S21 ra3 s26 s27 n26 lzn sub2
      have recI : ∀ {G : Hp} {r : Addr} {ns : List Str} {al : List (List Str)} {z : Str}, RuleAt C G r ns al z → ∃ dx fs, G r = some (.ins C dx fs) ∧ fs.lookup (Str.ofString "records") = none := fun h => h.recs
      -- both
      obtain ⟨dx1, fs1, i1, i2⟩ := recI ra4
      refine ⟨_, rfl, r1, dx1, fs1, rfl, i1, i2, r1, ns', al, z, rfl, ra4, fun p28 n28 => ?_⟩
      have s28 := Same.new (o := .lst (ns'.map V.str)) n28
      obtain ⟨dx2, fs2, j1, j2⟩ := recI (rb.same s28)
      refine ⟨_, rfl, r2, dx2, fs2, rfl, j1, j2, r2, ms', bl, y, rfl, rb.same s28, fun p29 n29 => ?_⟩
      have s29 := Same.new (o := .lst (ms'.map V.str)) n29
      refine ⟨p28, p29, _, _, rfl, rfl, s29 _ _ upd_same, upd_same, big (by rw [List.length_map, List.length_map]; omega), fun p30 n30 => ?_⟩
      have s30 := Same.new (o := .lst (ns'.map V.str ++ ms'.map V.str)) n30
      refine ⟨p30, ns' ++ ms', rfl, .inl (SqL.of (by rw [upd_same, List.map_append])), by rw [List.length_append]; omega, fun e31 M n31 ml31 mem nd => ⟨e31, M, rfl, upd_same, fun ys q32 perm soy n32 => ?_⟩⟩
      have s31 := Same.new (o := TxO w e31 M) n31
      have s32 := Same.new (o := .lst (ys.map V.str)) n32
      have sAll := (((s28.trans s29).trans s30).trans s31).trans s32
      have S23 := S22.same sAll
      have ra5 := ra4.same sAll
      have rb5 := rb.same sAll
      have memY : ∀ z, z ∈ ys ↔ z ∈ ns' ∨ z ∈ ms' := fun z => ((perm.mem_iff).trans (mem z)).trans List.mem_append
      have ndY := perm.nodup_iff.mpr nd
      have okY : ∀ z ∈ ys, IsW z := fun z hz => ((memY z).mp hz).elim (okn z) (okm z)
      obtain ⟨oo, eo⟩ : ∃ oo : Out, oo = if ys.length < 7 then .rule ys else .many := ⟨_, rfl⟩
      have okO : OutOk oo := by
        rw [eo]
        split
        · exact okY
        · trivial
      have hq32 : ∀ {G : Hp}, Same (upd (upd (upd (upd (upd G27 p28 (.lst (ns'.map V.str))) p29 (.lst (ms'.map V.str))) p30 (.lst (ns'.map V.str ++ ms'.map V.str))) e31 (TxO w e31 M)) q32 (.lst (ys.map V.str))) G → G q32 = some (.lst (ys.map V.str)) := fun s => s _ _ upd_same
      refine ⟨fun σ' H' => ∃ u1 u2 u4 u5 u6 u7 u9 u11 u13 u15 u16 u17 td, σ' = [some (.ref a), u1, u2, some (.ref W), u4, u5, u6, u7, some (.int (1 + x)), u9, some (.ref r1), u11, some (.ref r2), u13, some (.ref td), u15, u16, u17] ∧ S18 p Pt W ws H0 H' 400 ∧ RuleAt C H' r1 ns' al z ∧ RuleAt C H' r2 ms' bl y ∧ TellO H' td oo, ?_, ?_⟩
      · refine ⟨_, rfl, q32, _, rfl, .inl (SqL.of upd_same), _, _, rfl, rfl, _, rfl, ?_⟩
        rw [List.length_map]
        refine ite2 (fun c => ?_) (fun c => ?_)
        · have c : ys.length < 7 := by have := of_decide_eq_true c; omega
          refine ⟨_, rfl, (by show 2 ≤ sizeLine; decide), fun td nd_ => ?_⟩
          have s33 := Same.new (o := .tup [.str "rule", .ref q32]) nd_
          refine ⟨_, _, _, _, _, _, _, _, _, _, _, _, td, rfl, (S23.same s33).up (by decide), ra5.same s33, rb5.same s33, ?_⟩
          rw [eo, if_pos c]
          exact ⟨q32, upd_same, s33 _ _ upd_same⟩
        · have c : ¬ ys.length < 7 := fun h => c (decide_eq_true (by omega))
          refine ⟨(by show 2 ≤ sizeLine; decide), fun td nd_ => ?_⟩
          have s33 := Same.new (o := .tup [.str "toomany", .str "records"]) nd_
          refine ⟨_, _, _, _, _, _, _, _, _, _, _, _, td, rfl, (S23.same s33).up (by decide), ra5.same s33, rb5.same s33, ?_⟩
          rw [eo, if_neg c]
          exact upd_same
      clear S22 S23 ra4 ra5 rb rb5 sAll s28 s29 s30 s31 s32 hq32 i1 i2 j1 j2 n28 n29 n30 n31 n32 ml31
      rintro σ' G33 ⟨u1, u2, u4, u5, u6, u7, u9, u11, u13, u15, u16, u17, td, rfl, S24, ra6, rb6, htd⟩
      have lz : z.length ≤ 2000 := Nat.le_trans tz.1 (by decide)
      have ly : y.length ≤ 2000 := Nat.le_trans ty.1 (by decide)
      -- before
      have rows : ∀ {G : Hp}, RuleAt C G r1 ns' al z → RuleAt C G r2 ms' bl y → ∀ {Q' : VK}, (∀ (pa pb B : Addr) (G' : Hp), Same G G' → G' pa = some (.lst (ns'.map V.str)) → G' pb = some (.lst (ms'.map V.str)) → G' B = some (.lst [.ref pa, .ref pb, .str z, .str y]) → Q' (.ref B) G') →
          ∃ dx fs, G r1 = some (.ins C dx fs) ∧ fs.lookup (Str.ofString "records") = none ∧ True := fun h _ _ _ => by
        obtain ⟨dx, fs, h1, h2⟩ := h.recs
        exact ⟨dx, fs, h1, h2, trivial⟩
      clear rows
      obtain ⟨dx3, fs3, i1, i2⟩ := ra6.recs
      refine ⟨_, rfl, r1, dx3, fs3, rfl, i1, i2, r1, ns', al, z, rfl, ra6, fun pa npa => ?_⟩
      have sa := Same.new (o := .lst (ns'.map V.str)) npa
      obtain ⟨dx4, fs4, j1, j2⟩ := (rb6.same sa).recs
      refine ⟨_, rfl, r2, dx4, fs4, rfl, j1, j2, r2, ms', bl, y, rfl, rb6.same sa, fun pb npb => ?_⟩
      have sb := Same.new (o := .lst (ms'.map V.str)) npb
      have ra7 := (ra6.same sa).same sb
      have rb7 := (rb6.same sa).same sb
      obtain ⟨dx5, t5, d5, g1, _⟩ := id ra7
      obtain ⟨dx6, t6, d6, g2, _⟩ := id rb7
      refine ⟨_, rfl, r1, dx5, _, rfl, g1, r1, ns', al, z, rfl, ra7, z, rfl, ?_⟩
      refine ⟨_, rfl, r2, dx6, _, rfl, g2, r2, ms', bl, y, rfl, rb7, y, rfl, (by show 4 ≤ sizeLine; decide), fun Bf nBf => ?_⟩
      have sc := Same.new (o := .lst [.ref pa, .ref pb, .str z, .str y]) nBf
      have S25 := ((S24.same sa).same sb).same sc
      have ra8 := ra7.same sc
      have rb8 := rb7.same sc
      have htd1 : TellO _ td oo := (show ∀ {H H' : Hp}, TellO H td oo → Same H H' → TellO H' td oo from fun h s => by
        cases oo with
        | bad v => exact s _ _ h
        | many => exact s _ _ h
        | rule ys =>
          obtain ⟨l, h1, h2⟩ := h
          exact ⟨l, s _ _ h1, s _ _ h2⟩) htd ((sa.trans sb).trans sc)
      have hB : ∃ G : Hp, G = upd (upd (upd G33 pa (.lst (ns'.map V.str))) pb (.lst (ms'.map V.str))) Bf (.lst [.ref pa, .ref pb, .str z, .str y]) := ⟨_, rfl⟩
      obtain ⟨G34, e34⟩ := hB
      have hBf : G34 Bf = some (.lst [.ref pa, .ref pb, .str z, .str y]) := by rw [e34]; exact upd_same
      have hpa : G34 pa = some (.lst (ns'.map V.str)) := by rw [e34]; exact sc _ _ (sb _ _ upd_same)
      have hpb : G34 pb = some (.lst (ms'.map V.str)) := by rw [e34]; exact sc _ _ upd_same
      rw [← e34] at S25 ra8 rb8 htd1 ⊢
      clear e34 S24 ra6 rb6 ra7 rb7 htd sa sb sc npa npb nBf i1 i2 j1 j2 g1 g2
      -- makes
      refine ⟨S25.tabs, fun f17 c17 G35 eN17 bk17 tn17 nf17 hf17 hc17 => ⟨(by show 1 ≤ sizeLine; decide), fun ml nml => ?_⟩⟩
      have S26 := S25.ext eN17 (tn17 _ (List.mem_singleton.mpr rfl))
      have sml := Same.new (o := .lst [.ref f17]) nml
      have S27 := S26.same sml
      have ra9 := (ra8.kq (Kq.ext eN17) S25.lst.choose_spec).same sml
      have rb9 := (rb8.kq (Kq.ext eN17) S25.lst.choose_spec).same sml
      have nx : ∀ {y : Addr} {o : HO}, G34 y = some o → (∀ ps, o ≠ .tbl ps) → y ≠ ml := fun e n => ne_of_none (eN17 _ _ e n) nml
      have nH : ∀ y o, H0 y = some o → (∀ ps, o ≠ .tbl ps) → y ≠ p → y ≠ ml := fun y o e n q => nx (S25.k _ _ e n q) n
      have pml : p ≠ ml := nx S25.lst.choose_spec nofun
      have Wml : W ≠ ml := nx S25.w nofun
      have Bml : Bf ≠ ml := nx hBf nofun
      have paml : pa ≠ ml := nx hpa nofun
      have pbml : pb ≠ ml := nx hpb nofun
      have hBf1 := sml _ _ (eN17 _ _ hBf nofun)
      have hpa1 := sml _ _ (eN17 _ _ hpa nofun)
      have hpb1 := sml _ _ (eN17 _ _ hpb nofun)
      have kt17 : ∀ {y o}, G34 y = some o → (∀ ps, o ≠ .tbl ps) → upd G35 ml (.lst [.ref f17]) y = some o := fun e n => sml _ _ (eN17 _ _ e n)
      have hf17' := sml _ _ hf17
      have hc17' := sml _ _ hc17
      clear ra9 rb9 hBf1 hpa1 hpb1
      have kt27 : Kt G34 (upd G35 ml (.lst [.ref f17])) := fun y o e n => kt17 e n
      have hml := (upd_same : upd G35 ml (.lst [.ref f17]) ml = _)
      have km : ∀ {G : Hp} {y : Addr} {o : HO} {xs ys : List V}, G ml = some (.lst xs) → G y = some o → (∀ zs, o ≠ .lst zs) → upd G ml (.lst ys) y = some o := fun {G y o xs ys} h e n => by
        rw [upd_ne fun q => by
          rw [q, h] at e
          exact n _ (Option.some.inj e).symm]
        exact e
      have kt_m : ∀ {G : Hp} {ys : List V}, Kt G34 G → Kt G34 (upd G ml (.lst ys)) := fun k y o e n => by
        rw [upd_ne (nx e n)]
        exact k y o e n
      generalize upd G35 ml (.lst [.ref f17]) = G36 at S27 kt27 hml hf17' hc17' ⊢
      clear hf17 hc17 sml S26 kt17 eN17 tn17 bk17 nf17 nml S25
      refine ⟨_, rfl, .inl ⟨rfl, _, SqL.of hml⟩, S27.tabs, fun f18 c18 G37 eN18 bk18 tn18 nf18 hf18 hc18 => ⟨ml, _, _, rfl, rfl, eN18 _ _ hml nofun, (by show 1 < sizeLine; decide), ?_⟩⟩
      have hml2 := eN18 _ _ hml nofun
      have S28 := (S27.ext eN18 (tn18 _ (List.mem_singleton.mpr rfl))).mut (ys := [.ref f17] ++ [.ref f18]) hml2 nH pml Wml
      have kt28 : Kt G34 (upd G37 ml (.lst ([.ref f17] ++ [.ref f18]))) := kt_m fun y o e n => eN18 _ _ (kt27 y o e n) n
      have hf17b := km (ys := [.ref f17] ++ [.ref f18]) hml2 (eN18 _ _ hf17' nofun) nofun
      have hc17b := km (ys := [.ref f17] ++ [.ref f18]) hml2 (eN18 _ _ hc17' nofun) nofun
      have hf18b := km (ys := [.ref f17] ++ [.ref f18]) hml2 hf18 nofun
      have hc18b := km (ys := [.ref f17] ++ [.ref f18]) hml2 hc18 nofun
      have hml3 := (upd_same : upd G37 ml (.lst ([.ref f17] ++ [.ref f18])) ml = _)
      generalize upd G37 ml (.lst ([.ref f17] ++ [.ref f18])) = G38 at S28 kt28 hml3 hf17b hc17b hf18b hc18b ⊢
      clear hf17' hc17' hf18 hc18 S27 kt27 hml hml2 eN18 tn18 bk18 nf18
      refine ⟨_, rfl, .inl ⟨rfl, _, SqL.of hml3⟩, S28.tabs, fun f19 c19 G39 eN19 bk19 tn19 nf19 hf19 hc19 => ⟨ml, _, _, rfl, rfl, eN19 _ _ hml3 nofun, (by show 2 < sizeLine; decide), ?_⟩⟩
      have hml4 := eN19 _ _ hml3 nofun
      have S29 := (S28.ext eN19 (tn19 _ (List.mem_singleton.mpr rfl))).mut (ys := ([.ref f17] ++ [.ref f18]) ++ [.ref f19]) hml4 nH pml Wml
      have kt29 : Kt G34 (upd G39 ml (.lst (([.ref f17] ++ [.ref f18]) ++ [.ref f19]))) := kt_m fun y o e n => eN19 _ _ (kt28 y o e n) n
      have hf17c := km (ys := ([.ref f17] ++ [.ref f18]) ++ [.ref f19]) hml4 (eN19 _ _ hf17b nofun) nofun
      have hc17c := km (ys := ([.ref f17] ++ [.ref f18]) ++ [.ref f19]) hml4 (eN19 _ _ hc17b nofun) nofun
      have hf18c := km (ys := ([.ref f17] ++ [.ref f18]) ++ [.ref f19]) hml4 (eN19 _ _ hf18b nofun) nofun
      have hc18c := km (ys := ([.ref f17] ++ [.ref f18]) ++ [.ref f19]) hml4 (eN19 _ _ hc18b nofun) nofun
      have hf19c := km (ys := ([.ref f17] ++ [.ref f18]) ++ [.ref f19]) hml4 hf19 nofun
      have hc19c := km (ys := ([.ref f17] ++ [.ref f18]) ++ [.ref f19]) hml4 hc19 nofun
      have hml5 := (upd_same : upd G39 ml (.lst (([.ref f17] ++ [.ref f18]) ++ [.ref f19])) ml = _)
      generalize upd G39 ml (.lst (([.ref f17] ++ [.ref f18]) ++ [.ref f19])) = G40 at S29 kt29 hml5 hf17c hc17c hf18c hc18c hf19c hc19c ⊢
      clear hf17b hc17b hf18b hc18b hf19 hc19 S28 kt28 hml3 hml4 eN19 tn19 bk19 nf19
      have ra10 := ra8.kt kt29
      have rb10 := rb8.kt kt29
      have htd2 := htd1.kt kt29
      obtain ⟨sh, ev⟩ := due_ok okO
      have hdue : ∀ {G : Hp} {t : Addr}, Same G40 G → TellO G t oo → ∀ {Q' : VK}, Q' (.bl false) G → rNeD K (.ref t) (.ref td) G Q' := fun {G t} s tell {Q'} q => ⟨dueD oo, dueD oo, tell_dp tell okO, tell_dp (htd2.kt fun y o e _ => s y o e) okO, sh, sh, by rw [ev]; exact q⟩
      refine ⟨_, rfl, ml, rfl, ⟨_, SqL.of hml5⟩, for_list (K := K) (a := ml) (xs := [.ref f17, .ref f18, .ref f19]) (fun i σ G => ∃ u17', σ = [some (.ref a), u1, u2, some (.ref W), u4, u5, u6, u7, some (.int (1 + x)), u9, some (.ref r1), u11, some (.ref r2), u13, some (.ref td), some (.ref Bf), some (.ref ml), u17'] ∧ Same G40 G) ⟨_, rfl, Same.refl _⟩ ?_ ?_ ?_⟩
      · rintro i σ G _ ⟨_, rfl, s⟩
        exact SqL.of (s _ _ hml5)
      · rintro i v σ G hv ⟨_, rfl, s⟩
        have pre : P17 C [some (.ref r1), some (.ref r2)] G oo := ⟨r1, r2, ns', ms', ys, al, bl, z, y, rfl, ra10.same s, rb10.same s, ln, lm, lz, ly, ndY, soy, memY, eo⟩
        refine ⟨_, rfl, ?_⟩
        match i, hv with
        | 0, hv =>
          cases hv
          exact .inl ⟨f17, c17, oo, rfl, s _ _ hf17c, s _ _ hc17c, pre, fun G' t s' tell => ⟨_, rfl, hdue (s.trans s') tell ⟨_, rfl, iteF ⟨_, rfl, s.trans s'⟩⟩⟩⟩
        | 1, hv =>
          cases hv
          exact .inr (.inl ⟨f18, c18, oo, rfl, (by rw [← nm18]; exact s _ _ hf18c), s _ _ hc18c, pre, fun G' t s' tell => ⟨_, rfl, hdue (s.trans s') tell ⟨_, rfl, iteF ⟨_, rfl, s.trans s'⟩⟩⟩⟩)
        | 2, hv =>
          cases hv
          exact .inr (.inr ⟨f19, c19, oo, rfl, (by rw [← nm19]; exact s _ _ hf19c), s _ _ hc19c, pre, fun G' t s' tell => ⟨_, rfl, hdue (s.trans s') tell ⟨_, rfl, iteF ⟨_, rfl, s.trans s'⟩⟩⟩⟩)
        | i + 3, hv => cases hv
      · rintro σ G41 ⟨u17', rfl, s41⟩
        have S30 := S29.same s41
        have ra11 := ra10.same s41
        have rb11 := rb10.same s41
        have hB1 := s41 _ _ (kt29 _ _ hBf nofun)
        have hp1' := s41 _ _ (kt29 _ _ hpa nofun)
        have hp2' := s41 _ _ (kt29 _ _ hpb nofun)
        clear S29 ra10 rb10 htd2 hdue sh ev hf17c hc17c hf18c hc18c hf19c hc19c hml5
        obtain ⟨dx7, fs7, i1, i2⟩ := ra11.recs
        refine ⟨_, rfl, r1, dx7, fs7, rfl, i1, i2, r1, ns', al, z, rfl, ra11, fun qa nqa => ?_⟩
        have sa := Same.new (o := .lst (ns'.map V.str)) nqa
        obtain ⟨dx8, fs8, j1, j2⟩ := (rb11.same sa).recs
        refine ⟨_, rfl, r2, dx8, fs8, rfl, j1, j2, r2, ms', bl, y, rfl, rb11.same sa, fun qb nqb => ?_⟩
        have sb := Same.new (o := .lst (ms'.map V.str)) nqb
        have ra12 := (ra11.same sa).same sb
        have rb12 := (rb11.same sa).same sb
        obtain ⟨dx5, t5, d5, g1, _⟩ := id ra12
        obtain ⟨dx6, t6, d6, g2, _⟩ := id rb12
        refine ⟨_, rfl, r1, dx5, _, rfl, g1, r1, ns', al, z, rfl, ra12, z, rfl, ?_⟩
        refine ⟨_, rfl, r2, dx6, _, rfl, g2, r2, ms', bl, y, rfl, rb12, y, rfl, (by show 4 ≤ sizeLine; decide), fun Bg nBg => ?_⟩
        have sc := Same.new (o := .lst [.ref qa, .ref qb, .str z, .str y]) nBg
        have s42 := (sa.trans sb).trans sc
        have S31 := S30.same s42
        have ra13 := ra12.same sc
        have lay : SeqAt.shaped (.list [.list (ns'.map PyData.str), .list (ms'.map PyData.str), .str z, .str y]) = true := shaped_list (xs := [.list (ns'.map PyData.str), .list (ms'.map PyData.str), .str z, .str y]) fun u hu => by
          rcases List.mem_cons.mp hu with rfl | hu
          · exact lay_ws okn
          rcases List.mem_cons.mp hu with rfl | hu
          · exact lay_ws okm
          rcases List.mem_cons.mp hu with rfl | hu
          · exact lay_str tz.2
          · rw [List.mem_singleton.mp hu]
            exact lay_str ty.2
        refine ⟨_, rfl, .list [.list (ns'.map PyData.str), .list (ms'.map PyData.str), .str z, .str y], .list [.list (ns'.map PyData.str), .list (ms'.map PyData.str), .str z, .str y], .lst (SqL.of upd_same) (.cons (dp_ws (sc _ _ (sb _ _ upd_same))) (.cons (dp_ws (sc _ _ upd_same)) (.cons (.str _) (.cons (.str _) .nil)))), .lst (SqL.of (s42 _ _ hB1)) (.cons (dp_ws (s42 _ _ hp1')) (.cons (dp_ws (s42 _ _ hp2')) (.cons (.str _) (.cons (.str _) .nil)))), lay, lay, ?_⟩
        rw [SeqAt.eqv_refl _ (SeqAt.canLay_of_shaped lay)]
        refine ⟨_, rfl, iteF ?_⟩
        obtain ⟨dx9, t9, d9, g3, _⟩ := id ra13
        refine ⟨_, rfl, r1, dx9, _, rfl, g3, r1, ns', al, z, rfl, ra13, ln, by omega, fun G43 rn s43 rn' => ?_⟩
        have S32 := S31.same s43
        obtain ⟨dxa, fsa, k1, k2⟩ := rn'.recs
        refine ⟨rn, dxa, fsa, rfl, k1, k2, rn, ns', _, _, rfl, rn', fun pn npn => ?_⟩
        have s44 := Same.new (o := .lst (ns'.map V.str)) npn
        have S33 := S32.same s44
        refine ⟨_, rfl, _, rfl, (mn : Int), congrArg V.int em, W, _, rfl, SqL.of S33.w, fun qz nqz => ?_⟩
        rw [cutV_L, ← List.map_take, ← en]
        have s45 := Same.new (o := .lst (ns'.map V.str)) nqz
        refine ⟨.list (ns'.map PyData.str), .list (ns'.map PyData.str), dp_ws (s45 _ _ upd_same), dp_ws upd_same, shaped_ws okn, shaped_ws okn, ?_⟩
        rw [eqv_lists, decide_eq_true rfl]
        have S34 := S33.same s45
        exact ⟨_, rfl, iteF ⟨_, _, _, _, _, _, _, _, _, _, _, _, _, _, _, _, _, rfl, done S34.k, S34.tb⟩⟩
    · rintro σ H1 ⟨v1, v2, v3, v4, v5, v6, v7, v8, v9, v10, v11, v12, v13, v14, v15, v16, v17, rfl, s1⟩
      exact k _
end
end IC
namespace IC
open PySem L2 TL
theorem all_mk {l : PySem.W.OpenLaw} {w : World} {K : PySem.W.Frag} {h : Heap} {mg : Str → Option Value} {fa f0 f1 f2 f3 f4 f5 f6 f7 f8 f9 f10 f11 f12 f13 f14 f15 f16 f17 f18 f19 f20 f21 f22 f23 f24 : Addr} (X : K.In h) (G : h.Ns mainGlobals mg) (hfa : mg "law" = some (.ref fa))
    {od0 an0 od1 an1 od2 an2 od3 an3 od4 an4 od5 an5 od6 an6 od7 an7 od8 an8 od9 an9 od10 an10 od11 an11 od12 an12 od13 an13 od14 an14 od15 an15 od16 an16 od17 an17 od18 an18 od19 an19 od20 an20 od21 an21 od22 an22 od23 an23 od24 an24 : Option Addr} {sl0 sl1 sl2 sl3 sl4 sl5 sl6 sl7 sl8 sl9 sl10 sl11 sl12 sl13 sl14 sl15 sl16 sl17 sl18 sl19 sl20 sl21 sl22 sl23 sl24 : Array (Option Value)} {oc0 dc0 pm0 ct0 kV0 cd0 oc1 dc1 pm1 ct1 kV1 cd1 oc2 dc2 pm2 ct2 kV2 cd2 oc3 dc3 pm3 ct3 kV3 cd3 oc4 dc4 pm4 ct4 kV4 cd4 oc5 dc5 pm5 ct5 kV5 cd5 oc6 dc6 pm6 ct6 kV6 cd6 oc7 dc7 pm7 ct7 kV7 cd7 oc8 dc8 pm8 ct8 kV8 cd8 oc9 dc9 pm9 ct9 kV9 cd9 oc10 dc10 pm10 ct10 kV10 cd10 oc11 dc11 pm11 ct11 kV11 cd11 oc12 dc12 pm12 ct12 kV12 cd12 oc13 dc13 pm13 ct13 kV13 cd13 oc14 dc14 pm14 ct14 kV14 cd14 oc15 dc15 pm15 ct15 kV15 cd15 oc16 dc16 pm16 ct16 kV16 cd16 oc17 dc17 pm17 ct17 kV17 cd17 oc18 dc18 pm18 ct18 kV18 cd18 oc19 dc19 pm19 ct19 kV19 cd19 oc20 dc20 pm20 ct20 kV20 cd20 oc21 dc21 pm21 ct21 kV21 cd21 oc22 dc22 pm22 ct22 kV22 cd22 oc23 dc23 pm23 ct23 kV23 cd23 oc24 dc24 pm24 ct24 kV24 : Value} {CR pH pT CI : Addr} {rsH rsT : List Value} {tkR : Tok} {EB : Addr} {nm0 q0 : Str} {N0 : Addr} {bs0 : List Value} {sn0 : List Str} {su0 : List Value} {ab0 : Bool} {co0 : Option Bool} {dd0 : Option Addr} {ka0 kb0 kc0 kd0 ke0 : Option Value} {ET : Addr} {nm1 q1 : Str} {N1 : Addr} {bs1 : List Value} {sn1 : List Str} {su1 : List Value} {ab1 : Bool} {co1 : Option Bool} {dd1 : Option Addr} {ka1 kb1 kc1 kd1 ke1 : Option Value} {C1 Pt : Addr} {ddC : Option Addr} {vsC : Array Value} {slC : Array (Option Value)}
    (a0 : PySem.W.nsIn K mainGlobals "_law_pool" = some (some (.ref f0))) (l0 : K.lookup f0 = some ⟨oc0, od0, .func (PySem.W.fnOf "_law_pool" "_law_pool" (defArgs s_law_pool) (defBody s_law_pool) (defScope s_law_pool) .none kV0 dc0 pm0 an0 cd0 ct0), sl0⟩) (c0 : PySem.W.codeIn K cd0 "_law_pool" = true) (k0 : PySem.W.keepIn K (.ref f0) = true)
    (a1 : PySem.W.nsIn K mainGlobals "_law_draw" = some (some (.ref f1))) (l1 : K.lookup f1 = some ⟨oc1, od1, .func (PySem.W.fnOf "_law_draw" "_law_draw" (defArgs s_law_draw) (defBody s_law_draw) (defScope s_law_draw) .none kV1 dc1 pm1 an1 cd1 ct1), sl1⟩) (c1 : PySem.W.codeIn K cd1 "_law_draw" = true) (k1 : PySem.W.keepIn K (.ref f1) = true)
    (a2 : PySem.W.nsIn K mainGlobals "_law_word" = some (some (.ref f2))) (l2 : K.lookup f2 = some ⟨oc2, od2, .func (PySem.W.fnOf "_law_word" "_law_word" (defArgs s_law_word) (defBody s_law_word) (defScope s_law_word) .none kV2 dc2 pm2 an2 cd2 ct2), sl2⟩) (c2 : PySem.W.codeIn K cd2 "_law_word" = true) (k2 : PySem.W.keepIn K (.ref f2) = true)
    (a3 : PySem.W.nsIn K mainGlobals "is_word" = some (some (.ref f3))) (l3 : K.lookup f3 = some ⟨oc3, od3, .func (PySem.W.fnOf "is_word" "is_word" (defArgs s_is_word) (defBody s_is_word) (defScope s_is_word) .none kV3 dc3 pm3 an3 cd3 ct3), sl3⟩) (c3 : PySem.W.codeIn K cd3 "is_word" = true) (k3 : PySem.W.keepIn K (.ref f3) = true)
    (a4 : PySem.W.findIn K (.ref EB) "__init__" = some (some (.ref f4))) (l4 : K.lookup f4 = some ⟨oc4, od4, .func (PySem.W.fnOf "__init__" "BadWord.__init__" (defArgs s_BadWord___init__) (defBody s_BadWord___init__) (defScope s_BadWord___init__) .none kV4 dc4 pm4 an4 cd4 ct4), sl4⟩) (c4 : PySem.W.codeIn K cd4 "BadWord.__init__" = true) (k4 : PySem.W.keepIn K (.ref f4) = true) (t4 : PySem.W.typeIn K (.ref f4) = some (.type "function"))
    (a5 : PySem.W.findIn K (.ref ET) "__init__" = some (some (.ref f5))) (l5 : K.lookup f5 = some ⟨oc5, od5, .func (PySem.W.fnOf "__init__" "TooMany.__init__" (defArgs s_TooMany___init__) (defBody s_TooMany___init__) (defScope s_TooMany___init__) .none kV5 dc5 pm5 an5 cd5 ct5), sl5⟩) (c5 : PySem.W.codeIn K cd5 "TooMany.__init__" = true) (k5 : PySem.W.keepIn K (.ref f5) = true) (t5 : PySem.W.typeIn K (.ref f5) = some (.type "function"))
    (a6 : PySem.W.nsIn K mainGlobals "subsets" = some (some (.ref f6))) (l6 : K.lookup f6 = some ⟨oc6, od6, .func (PySem.W.fnOf "subsets" "subsets" (defArgs s_subsets) (defBody s_subsets) (defScope s_subsets) .none kV6 dc6 pm6 an6 cd6 ct6), sl6⟩) (c6 : PySem.W.codeIn K cd6 "subsets" = true) (k6 : PySem.W.keepIn K (.ref f6) = true)
    (a7 : PySem.W.nsIn K mainGlobals "united" = some (some (.ref f7))) (l7 : K.lookup f7 = some ⟨oc7, od7, .func (PySem.W.fnOf "united" "united" (defArgs s_united) (defBody s_united) (defScope s_united) .none kV7 dc7 pm7 an7 cd7 ct7), sl7⟩) (c7 : PySem.W.codeIn K cd7 "united" = true) (k7 : PySem.W.keepIn K (.ref f7) = true)
    (a8 : PySem.W.nsIn K mainGlobals "check_few" = some (some (.ref f8))) (l8 : K.lookup f8 = some ⟨oc8, od8, .func (PySem.W.fnOf "check_few" "check_few" (defArgs s_check_few) (defBody s_check_few) (defScope s_check_few) .none kV8 dc8 pm8 an8 cd8 ct8), sl8⟩) (c8 : PySem.W.codeIn K cd8 "check_few" = true) (k8 : PySem.W.keepIn K (.ref f8) = true)
    (a9 : PySem.W.findIn K (.ref CR) "__init__" = some (some (.ref f9))) (l9 : K.lookup f9 = some ⟨oc9, od9, .func (PySem.W.fnOf "__init__" "Rule.__init__" (defArgs s_Rule___init__) (defBody s_Rule___init__) (defScope s_Rule___init__) .none kV9 dc9 pm9 an9 cd9 ct9), sl9⟩) (c9 : PySem.W.codeIn K cd9 "Rule.__init__" = true) (k9 : PySem.W.keepIn K (.ref f9) = true) (i9 : PySem.W.isFn K (.ref f9) = true)
    (a10 : PySem.W.recIn K pH "staticmethod" = some (.ref f10 :: rsH)) (l10 : K.lookup f10 = some ⟨oc10, od10, .func (PySem.W.fnOf "has" "Rule.has" (defArgs s_Rule_has) (defBody s_Rule_has) (defScope s_Rule_has) .none kV10 dc10 pm10 an10 cd10 ct10), sl10⟩) (c10 : PySem.W.codeIn K cd10 "Rule.has" = true) (k10 : PySem.W.keepIn K (.ref f10) = true)
    (a11 : PySem.W.recIn K pT "staticmethod" = some (.ref f11 :: rsT)) (l11 : K.lookup f11 = some ⟨oc11, od11, .func (PySem.W.fnOf "together" "Rule.together" (defArgs s_Rule_together) (defBody s_Rule_together) (defScope s_Rule_together) .none kV11 dc11 pm11 an11 cd11 ct11), sl11⟩) (c11 : PySem.W.codeIn K cd11 "Rule.together" = true) (k11 : PySem.W.keepIn K (.ref f11) = true)
    (a12 : PySem.W.findIn K (.ref CR) "_allows" = some (some (.ref f12))) (l12 : K.lookup f12 = some ⟨oc12, od12, .func (PySem.W.fnOf "_allows" "Rule._allows" (defArgs s_Rule__allows) (defBody s_Rule__allows) (defScope s_Rule__allows) .none kV12 dc12 pm12 an12 cd12 ct12), sl12⟩) (c12 : PySem.W.codeIn K cd12 "Rule._allows" = true) (k12 : PySem.W.keepIn K (.ref f12) = true) (i12 : PySem.W.isFn K (.ref f12) = true)
    (a13 : PySem.W.findIn K (.ref CR) "_names_with" = some (some (.ref f13))) (l13 : K.lookup f13 = some ⟨oc13, od13, .func (PySem.W.fnOf "_names_with" "Rule._names_with" (defArgs s_Rule__names_with) (defBody s_Rule__names_with) (defScope s_Rule__names_with) .none kV13 dc13 pm13 an13 cd13 ct13), sl13⟩) (c13 : PySem.W.codeIn K cd13 "Rule._names_with" = true) (k13 : PySem.W.keepIn K (.ref f13) = true) (i13 : PySem.W.isFn K (.ref f13) = true)
    (a14 : PySem.W.findIn K (.ref CR) "__and__" = some (some (.ref f14))) (l14 : K.lookup f14 = some ⟨oc14, od14, .func (PySem.W.fnOf "__and__" "Rule.__and__" (defArgs s_Rule___and__) (defBody s_Rule___and__) (defScope s_Rule___and__) .none kV14 dc14 pm14 an14 cd14 ct14), sl14⟩) (c14 : PySem.W.codeIn K cd14 "Rule.__and__" = true) (k14 : PySem.W.keepIn K (.ref f14) = true) (i14 : PySem.W.isFn K (.ref f14) = true)
    (a15 : PySem.W.findIn K (.ref CR) "__or__" = some (some (.ref f15))) (l15 : K.lookup f15 = some ⟨oc15, od15, .func (PySem.W.fnOf "__or__" "Rule.__or__" (defArgs s_Rule___or__) (defBody s_Rule___or__) (defScope s_Rule___or__) .none kV15 dc15 pm15 an15 cd15 ct15), sl15⟩) (c15 : PySem.W.codeIn K cd15 "Rule.__or__" = true) (k15 : PySem.W.keepIn K (.ref f15) = true) (i15 : PySem.W.isFn K (.ref f15) = true)
    (a16 : PySem.W.findIn K (.ref CR) "__rshift__" = some (some (.ref f16))) (l16 : K.lookup f16 = some ⟨oc16, od16, .func (PySem.W.fnOf "__rshift__" "Rule.__rshift__" (defArgs s_Rule___rshift__) (defBody s_Rule___rshift__) (defScope s_Rule___rshift__) .none kV16 dc16 pm16 an16 cd16 ct16), sl16⟩) (c16 : PySem.W.codeIn K cd16 "Rule.__rshift__" = true) (k16 : PySem.W.keepIn K (.ref f16) = true) (i16 : PySem.W.isFn K (.ref f16) = true)
    (a17 : PySem.W.findIn K (.ref CR) "__invert__" = some (some (.ref f17))) (l17 : K.lookup f17 = some ⟨oc17, od17, .func (PySem.W.fnOf "__invert__" "Rule.__invert__" (defArgs s_Rule___invert__) (defBody s_Rule___invert__) (defScope s_Rule___invert__) .none kV17 dc17 pm17 an17 cd17 ct17), sl17⟩) (c17 : PySem.W.codeIn K cd17 "Rule.__invert__" = true) (k17 : PySem.W.keepIn K (.ref f17) = true) (i17 : PySem.W.isFn K (.ref f17) = true)
    (a18 : PySem.W.findIn K (.ref CR) "__str__" = some (some (.ref f18))) (l18 : K.lookup f18 = some ⟨oc18, od18, .func (PySem.W.fnOf "__str__" "Rule.__str__" (defArgs s_Rule___str__) (defBody s_Rule___str__) (defScope s_Rule___str__) .none kV18 dc18 pm18 an18 cd18 ct18), sl18⟩) (c18 : PySem.W.codeIn K cd18 "Rule.__str__" = true) (k18 : PySem.W.keepIn K (.ref f18) = true) (i18 : PySem.W.isFn K (.ref f18) = true)
    (a19 : PySem.W.findIn K (.ref CR) "records" = some (some (.ref f19))) (l19 : K.lookup f19 = some ⟨oc19, od19, .func (PySem.W.fnOf "records" "Rule.records" (defArgs s_Rule_records) (defBody s_Rule_records) (defScope s_Rule_records) .none kV19 dc19 pm19 an19 cd19 ct19), sl19⟩) (c19 : PySem.W.codeIn K cd19 "Rule.records" = true) (k19 : PySem.W.keepIn K (.ref f19) = true) (i19 : PySem.W.isFn K (.ref f19) = true)
    (a20 : PySem.W.nsIn K mainGlobals "_law_eight" = some (some (.ref f20))) (l20 : K.lookup f20 = some ⟨oc20, od20, .func (PySem.W.fnOf "_law_eight" "_law_eight" (defArgs s_law_eight) (defBody s_law_eight) (defScope s_law_eight) .none kV20 dc20 pm20 an20 cd20 ct20), sl20⟩) (c20 : PySem.W.codeIn K cd20 "_law_eight" = true) (k20 : PySem.W.keepIn K (.ref f20) = true)
    (a21 : PySem.W.nsIn K mainGlobals "_law_made" = some (some (.ref f21))) (l21 : K.lookup f21 = some ⟨oc21, od21, .func (PySem.W.fnOf "_law_made" "_law_made" (defArgs s_law_made) (defBody s_law_made) (defScope s_law_made) .none kV21 dc21 pm21 an21 cd21 ct21), sl21⟩) (c21 : PySem.W.codeIn K cd21 "_law_made" = true) (k21 : PySem.W.keepIn K (.ref f21) = true)
    (a22 : PySem.W.nsIn K mainGlobals "_law_conjunction" = some (some (.ref f22))) (l22 : K.lookup f22 = some ⟨oc22, od22, .func (PySem.W.fnOf "_law_conjunction" "_law_conjunction" (defArgs s_law_conjunction) (defBody s_law_conjunction) (defScope s_law_conjunction) .none kV22 dc22 pm22 an22 cd22 ct22), sl22⟩) (c22 : PySem.W.codeIn K cd22 "_law_conjunction" = true) (k22 : PySem.W.keepIn K (.ref f22) = true)
    (a23 : PySem.W.nsIn K mainGlobals "_law_odd" = some (some (.ref f23))) (l23 : K.lookup f23 = some ⟨oc23, od23, .func (PySem.W.fnOf "_law_odd" "_law_odd" (defArgs s_law_odd) (defBody s_law_odd) (defScope s_law_odd) .none kV23 dc23 pm23 an23 cd23 ct23), sl23⟩) (c23 : PySem.W.codeIn K cd23 "_law_odd" = true) (k23 : PySem.W.keepIn K (.ref f23) = true)
    (a24 : PySem.W.nsIn K mainGlobals "law" = some (some (.ref f24))) (l24 : K.lookup f24 = some ⟨oc24, od24, .func (PySem.W.fnOf "law" "law" (defArgs s_law) (defBody s_law) (defScope s_law) .none kV24 dc24 pm24 an24 (.ref C1) ct24), sl24⟩) (c24 : PySem.W.codeIn K (.ref C1) "law" = true) (k24 : PySem.W.keepIn K (.ref f24) = true)
    (z_int : PySem.W.nsIn K mainGlobals "int" = some none)
    (z_len : PySem.W.nsIn K mainGlobals "len" = some none)
    (z_abs : PySem.W.nsIn K mainGlobals "abs" = some none)
    (z_range : PySem.W.nsIn K mainGlobals "range" = some none)
    (z_max : PySem.W.nsIn K mainGlobals "max" = some none)
    (z_min : PySem.W.nsIn K mainGlobals "min" = some none)
    (z_isi : PySem.W.nsIn K mainGlobals "isinstance" = some none)
    (z_str : PySem.W.nsIn K mainGlobals "str" = some none)
    (z_all : PySem.W.nsIn K mainGlobals "all" = some none)
    (z_repr : PySem.W.nsIn K mainGlobals "repr" = some none)
    (z_list : PySem.W.nsIn K mainGlobals "list" = some none)
    (z_tuple : PySem.W.nsIn K mainGlobals "tuple" = some none)
    (z_set : PySem.W.nsIn K mainGlobals "set" = some none)
    (z_sorted : PySem.W.nsIn K mainGlobals "sorted" = some none)
    (gR : PySem.W.nsIn K mainGlobals "Rule" = some (some (.ref CR)))
    (rrd : PySem.W.readsIn K CR (.type "type") = true)
    (rga : PySem.W.specialIn K (.ref CR) "__getattribute__" = some (some (.builtin "type.__getattribute__")))
    (smH : PySem.W.findCls K (.ref CR) (.type "type") "has" = some (.get (.builtin "staticmethod.__get__") (.ref pH) .none (.ref CR)))
    (smT : PySem.W.findCls K (.ref CR) (.type "type") "together" = some (.get (.builtin "staticmethod.__get__") (.ref pT) .none (.ref CR)))
    (pgR : PySem.W.plainGet K CR Str.empty = true)
    (hdR : PySem.W.hasDictIn K CR = true)
    (poR : PySem.W.plainOver K CR = true)
    (saR : PySem.W.findIn K (.ref CR) "__setattr__" = some (some (.builtin "object.__setattr__")))
    (mkR : PySem.W.makesIn K CR = true)
    (kpR : PySem.W.keepIn K (.ref CR) = true)
    (nR0 : PySem.W.findIn K (.ref CR) "_names" = some none)
    (nR1 : PySem.W.findIn K (.ref CR) "_allowed" = some none)
    (nR2 : PySem.W.findIn K (.ref CR) "_text" = some none)
    (gMR : PySem.W.nsIn K mainGlobals "MOST_RECORDS" = some (some (.int 6 tkR)))
    (fsR : PySem.W.selfFirst K CR = true)
    (gI : PySem.W.nsIn K mainGlobals "InnercommitsError" = some (some (.ref CI)))
    (gEB : PySem.W.nsIn K mainGlobals "BadWord" = some (some (.ref EB)))
    (xEB : K.lookup EB = some (excClassObj nm0 q0 EB N0 bs0 [.ref CI, .type "ValueError", .type "Exception", .type "BaseException", .type "object"] true sn0 su0 ab0 co0 dd0 ka0 kb0 kc0 kd0 ke0 "ValueError.__new__"))
    (saEB : PySem.W.findIn K (.ref EB) "__setattr__" = some (some (.builtin "object.__setattr__")))
    (sgEB : PySem.W.findIn K (.ref EB) "__getattribute__" = some (some (.builtin "BaseException.__getattribute__")))
    (shEB : PySem.W.findIn K (.ref EB) "__getattr__" = some none)
    (n1EB : PySem.W.findIn K (.ref EB) "word" = some none)
    (kEB : PySem.W.keepIn K (.ref EB) = true)
    (ebEB : PySem.W.subIn K (.ref EB) (.type "BaseException") = some true)
    (etEB : PySem.W.typeIn K (.ref EB) = some (.type "type"))
    (ehEB : PySem.W.hasDictIn K EB = true)
    (ecEB : PySem.W.isClsIn K EB = true)
    (gET : PySem.W.nsIn K mainGlobals "TooMany" = some (some (.ref ET)))
    (xET : K.lookup ET = some (excClassObj nm1 q1 ET N1 bs1 [.ref CI, .type "ValueError", .type "Exception", .type "BaseException", .type "object"] true sn1 su1 ab1 co1 dd1 ka1 kb1 kc1 kd1 ke1 "ValueError.__new__"))
    (saET : PySem.W.findIn K (.ref ET) "__setattr__" = some (some (.builtin "object.__setattr__")))
    (sgET : PySem.W.findIn K (.ref ET) "__getattribute__" = some (some (.builtin "BaseException.__getattribute__")))
    (shET : PySem.W.findIn K (.ref ET) "__getattr__" = some none)
    (n1ET : PySem.W.findIn K (.ref ET) "what" = some none)
    (kET : PySem.W.keepIn K (.ref ET) = true)
    (ebET : PySem.W.subIn K (.ref ET) (.type "BaseException") = some true)
    (etET : PySem.W.typeIn K (.ref ET) = some (.type "type"))
    (ehET : PySem.W.hasDictIn K ET = true)
    (ecET : PySem.W.isClsIn K ET = true)
    (uEB_EB : PySem.W.subIn K (.ref EB) (.ref EB) = some true)
    (uET_EB : PySem.W.subIn K (.ref ET) (.ref EB) = some false)
    (uET_ET : PySem.W.subIn K (.ref ET) (.ref ET) = some true)
    (lC1 : K.lookup C1 = some ⟨.type "code", ddC, .fields vsC, slC⟩)
    (pC : (vsC[11]? : Option Value) = some (.ref Pt))
    (cH : PySem.W.codeHdIn K C1 Pt = true)
    (nT : K.lookup Pt = none)
    (hT0 : h.get? Pt = some { cls := .none, data := .fields #[] })
    : LamX.LawAtS l w K CX0 9 63 "script" mg fa h := by
  have e := hfa.symm.trans (PySem.W.mg_of X G a24)
  cases e
  have T : Bn mg := ⟨PySem.W.mg_none_of X G z_int, PySem.W.mg_none_of X G z_len, PySem.W.mg_none_of X G z_abs, PySem.W.mg_none_of X G z_range, PySem.W.mg_none_of X G z_max, PySem.W.mg_none_of X G z_min, PySem.W.mg_none_of X G z_isi, PySem.W.mg_none_of X G z_str, PySem.W.mg_none_of X G z_all, PySem.W.mg_none_of X G z_repr, PySem.W.mg_none_of X G z_list, PySem.W.mg_none_of X G z_tuple, PySem.W.mg_none_of X G z_set, PySem.W.mg_none_of X G z_sorted⟩
  have F0 := fun_mk (st := s_law_pool) l0 c0 k0
  have b0 := F0.binds (ps := ["script", "at"]) fun _ _ _ _ _ _ us hl => match us, hl with | [_, _], _ => rfl
  have F1 := fun_mk (st := s_law_draw) l1 c1 k1
  have b1 := F1.binds (ps := ["pool", "many"]) fun _ _ _ _ _ _ us hl => match us, hl with | [_, _], _ => rfl
  have F2 := fun_mk (st := s_law_word) l2 c2 k2
  have b2 := F2.binds (ps := ["pool"]) fun _ _ _ _ _ _ us hl => match us, hl with | [_], _ => rfl
  have F3 := fun_mk (st := s_is_word) l3 c3 k3
  have b3 := F3.binds (ps := ["thing"]) fun _ _ _ _ _ _ us hl => match us, hl with | [_], _ => rfl
  have F4 := fun_mk (st := s_BadWord___init__) l4 c4 k4
  have b4 := F4.binds (ps := ["self", "word"]) fun _ _ _ _ _ _ us hl => match us, hl with | [_, _], _ => rfl
  have F5 := fun_mk (st := s_TooMany___init__) l5 c5 k5
  have b5 := F5.binds (ps := ["self", "what"]) fun _ _ _ _ _ _ us hl => match us, hl with | [_, _], _ => rfl
  have F6 := fun_mk (st := s_subsets) l6 c6 k6
  have b6 := F6.binds (ps := ["names"]) fun _ _ _ _ _ _ us hl => match us, hl with | [_], _ => rfl
  have F7 := fun_mk (st := s_united) l7 c7 k7
  have b7 := F7.binds (ps := ["names", "others"]) fun _ _ _ _ _ _ us hl => match us, hl with | [_, _], _ => rfl
  have F8 := fun_mk (st := s_check_few) l8 c8 k8
  have b8 := F8.binds (ps := ["names"]) fun _ _ _ _ _ _ us hl => match us, hl with | [_], _ => rfl
  have F9 := fun_mk (st := s_Rule___init__) l9 c9 k9
  have b9 := F9.binds (ps := ["self", "names", "allowed", "text"]) fun _ _ _ _ _ _ us hl => match us, hl with | [_, _, _, _], _ => rfl
  have F10 := fun_mk (st := s_Rule_has) l10 c10 k10
  have b10 := F10.binds (ps := ["record"]) fun _ _ _ _ _ _ us hl => match us, hl with | [_], _ => rfl
  have F11 := fun_mk (st := s_Rule_together) l11 c11 k11
  have F12 := fun_mk (st := s_Rule__allows) l12 c12 k12
  have b12 := F12.binds (ps := ["self", "kept"]) fun _ _ _ _ _ _ us hl => match us, hl with | [_, _], _ => rfl
  have F13 := fun_mk (st := s_Rule__names_with) l13 c13 k13
  have b13 := F13.binds (ps := ["self", "other"]) fun _ _ _ _ _ _ us hl => match us, hl with | [_, _], _ => rfl
  have F14 := fun_mk (st := s_Rule___and__) l14 c14 k14
  have b14 := F14.binds (ps := ["self", "other"]) fun _ _ _ _ _ _ us hl => match us, hl with | [_, _], _ => rfl
  have F15 := fun_mk (st := s_Rule___or__) l15 c15 k15
  have b15 := F15.binds (ps := ["self", "other"]) fun _ _ _ _ _ _ us hl => match us, hl with | [_, _], _ => rfl
  have F16 := fun_mk (st := s_Rule___rshift__) l16 c16 k16
  have b16 := F16.binds (ps := ["self", "other"]) fun _ _ _ _ _ _ us hl => match us, hl with | [_, _], _ => rfl
  have F17 := fun_mk (st := s_Rule___invert__) l17 c17 k17
  have b17 := F17.binds (ps := ["self"]) fun _ _ _ _ _ _ us hl => match us, hl with | [_], _ => rfl
  have F18 := fun_mk (st := s_Rule___str__) l18 c18 k18
  have b18 := F18.binds (ps := ["self"]) fun _ _ _ _ _ _ us hl => match us, hl with | [_], _ => rfl
  have F19 := fun_mk (st := s_Rule_records) l19 c19 k19
  have b19 := F19.binds (ps := ["self"]) fun _ _ _ _ _ _ us hl => match us, hl with | [_], _ => rfl
  have F20 := fun_mk (st := s_law_eight) l20 c20 k20
  have b20 := F20.binds (ps := ["w"]) fun _ _ _ _ _ _ us hl => match us, hl with | [_], _ => rfl
  have F21 := fun_mk (st := s_law_made) l21 c21 k21
  have b21 := F21.binds (ps := ["make"]) fun _ _ _ _ _ _ us hl => match us, hl with | [_], _ => rfl
  have F22 := fun_mk (st := s_law_conjunction) l22 c22 k22
  have b22 := F22.binds (ps := ["words"]) fun _ _ _ _ _ _ us hl => match us, hl with | [_], _ => rfl
  have F23 := fun_mk (st := s_law_odd) l23 c23 k23
  have b23 := F23.binds (ps := ["pool"]) fun _ _ _ _ _ _ us hl => match us, hl with | [_], _ => rfl
  have F24 := fun_mk (st := s_law) l24 c24 k24
  refine ⟨PySem.W.fnOf "law" "law" (defArgs s_law) (defBody s_law) (defScope s_law) .none kV24 dc24 pm24 an24 (.ref C1) ct24, [(C1, Pt)], spLaw18 K Pt, fun q hq => by rw [List.mem_singleton.mp hq]; exact hT0, fun q hq => by rw [List.mem_singleton.mp hq]; exact nT, fun q hq => by rw [List.mem_singleton.mp hq]; exact PySem.W.codeHd_of_K X cH, fun s v => .of_eq rfl, fun H a ns hn _ hT hS => ⟨a, ns, rfl, hS, hn, NdefX.TabN.nil (hT (C1, Pt) (List.mem_singleton.mpr rfl)), fun _ => rfl⟩, fun base hbK hbG hTB => ?_⟩
  have R : RTxt K mg CR := ⟨⟨pgR, hdR, poR, saR⟩, nR0, nR1, nR2, PySem.W.mg_of X G gR, ⟨_, PySem.W.mg_of X G gMR, ⟨_, rfl⟩⟩⟩
  have S_h : SMet K CR (.type "type") "has" pH f10 := ⟨⟨rrd, rga⟩, smH, ⟨_, a10⟩, k10⟩
  have S_t : SMet K CR (.type "type") "together" pT f11 := ⟨⟨rrd, rga⟩, smT, ⟨_, a11⟩, k11⟩
  have OEB : OexC K EB := ⟨⟨_, _, _, _, _, _, _, _, _, _, _, _, _, _, _, xEB, by rfl⟩, saEB, ebEB, etEB, kEB⟩
  have XEB : XfC K EB := ⟨sgEB, shEB, ebEB, ehEB⟩
  have OET : OexC K ET := ⟨⟨_, _, _, _, _, _, _, _, _, _, _, _, _, _, _, xET, by rfl⟩, saET, ebET, etET, kET⟩
  have XET : XfC K ET := ⟨sgET, shET, ebET, ehET⟩
  have yEB_EB := exm_pair ebEB ecEB etEB uEB_EB
  have yET_EB := exm_pair ebEB ecEB etEB uET_EB
  have yET_ET := exm_pair ebET ecET etET uET_ET
  have Z : Cl18 K mg EB ET CI := ⟨PySem.W.mg_of X G gEB, PySem.W.mg_of X G gET, PySem.W.mg_of X G gI, XEB, XET, n1EB, n1ET, yEB_EB, yET_EB, yET_ET⟩
  have D_law_pool : Df l.prog w K mg base 1 "_law_pool" ["script", "at"] (spPool K) := ⟨f0, _, ok_pool F0 T, PySem.W.mg_of X G a0, k0, b0⟩
  have D_law_draw : Df l.prog w K mg base 1 "_law_draw" ["pool", "many"] spDraw := ⟨f1, _, ok_draw F1 T, PySem.W.mg_of X G a1, k1, b1⟩
  have D_law_word : Df l.prog w K mg base 2 "_law_word" ["pool"] spWord := ⟨f2, _, ok_word F2 T D_law_draw, PySem.W.mg_of X G a2, k2, b2⟩
  have D_is_word : Df l.prog w K mg base 1 "is_word" ["thing"] (spIsWord K) := ⟨f3, _, ok_is_word F3 T, PySem.W.mg_of X G a3, k3, b3⟩
  have E_B : EDf l.prog w K mg base 1 "BadWord" EB "word" fsB := ⟨f4, _, ⟨PySem.W.mg_of X G gEB, OEB, XEB, a4, t4⟩, ok_BadWord F4 OEB n1EB, b4⟩
  have E_TM : EDf l.prog w K mg base 1 "TooMany" ET "what" fsTM := ⟨f5, _, ⟨PySem.W.mg_of X G gET, OET, XET, a5, t5⟩, ok_TooMany F5 OET n1ET, b5⟩
  have D_subsets : Df l.prog w K mg base 1 "subsets" ["names"] spSubs := ⟨f6, _, ok_subsets F6, PySem.W.mg_of X G a6, k6, b6⟩
  have D_united : Df l.prog w K mg base 1 "united" ["names", "others"] spUnited := ⟨f7, _, ok_united F7 T, PySem.W.mg_of X G a7, k7, b7⟩
  have D_check_few : Df l.prog w K mg base 1 "check_few" ["names"] spFew := ⟨f8, _, ok_few F8 T R, PySem.W.mg_of X G a8, k8, b8⟩
  have D_fewX : DfX l.prog w K mg base 3 "check_few" ["names"] (spFewX ET) := ⟨f8, _, ok_fewX F8 T R E_TM kET, PySem.W.mg_of X G a8, k8, b8⟩
  have C_R : RDf l.prog w K mg base 1 CR := ⟨f9, _, ⟨mkR, a9, i9, kpR⟩, ok_rinit F9 R, b9, PySem.W.mg_of X G gR⟩
  have F_h : FnR l.prog w K mg base CX0 3 f10 (spHas CR) := ((ok_has F10 R D_is_word C_R).raw b10 .nil).imp fun vs H Q E h => by
    rw [List.append_nil]
    exact h
  have F_hX : FnR l.prog w K mg base (L2.CX l.prog w) 3 f10 (fun vs H Q E => spHas CR vs H Q E0 ∨ spHasBad K EB vs H Q E) := FnR.or (FnR.up F_h) (((ok_hasBad F10 R D_is_word C_R E_B kEB).raw b10 .nil).imp fun vs H Q E h => by
    rw [List.append_nil]
    exact h)
  have F_tX : FnR l.prog w K mg base (L2.CX l.prog w) 4 f11 (fun vs H Q E => vs.length ≤ sizeLine ∧ ∀ p, H p = none → spTogX K CR EB ET [.ref p] (upd H p (.tup vs)) Q E) := ok_togX F11 T D_is_word D_fewX C_R E_B kEB
  have M_allows : MDf l.prog w K mg base CX0 1 CR "_allows" ["self", "kept"] [] (spAsk CR) := ⟨f12, _, [], ok_allows F12 T R, ⟨a12, i12, k12⟩, b12, .nil⟩
  have M_with : MDf l.prog w K mg base CX0 2 CR "_names_with" ["self", "other"] [] (spWith CR) := ⟨f13, _, [], ok_with F13 T R D_united D_check_few, ⟨a13, i13, k13⟩, b13, .nil⟩
  have M_withX : MDf l.prog w K mg base (L2.CX l.prog w) 4 CR "_names_with" ["self", "other"] [] (spWithX CR ET) := ⟨f13, _, [], ok_withX F13 T R D_united D_fewX, ⟨a13, i13, k13⟩, b13, .nil⟩
  have F_and : FnR l.prog w K mg base CX0 3 f14 (spOp2 CR (opB 0) (opS 0)) := ((ok_and F14 R D_subsets M_allows M_with C_R).raw b14 .nil).imp fun vs H Q E h => by
    rw [List.append_nil]
    exact h
  have G_and : FnR l.prog w K mg base (L2.CX l.prog w) 5 f14 (fun vs H Q E => spOp2 CR (opB 0) (opS 0) vs H Q E0 ∨ spWithX CR ET vs H Q E) := FnR.or (L2.FnR.mono (FnR.up F_and) (by decide)) (((ok_andX F14 R M_withX).raw b14 .nil).imp fun vs H Q E h => by
    rw [List.append_nil]
    exact h)
  have F_or : FnR l.prog w K mg base CX0 3 f15 (spOp2 CR (opB 1) (opS 1)) := ((ok_or F15 R D_subsets M_allows M_with C_R).raw b15 .nil).imp fun vs H Q E h => by
    rw [List.append_nil]
    exact h
  have G_or : FnR l.prog w K mg base (L2.CX l.prog w) 5 f15 (fun vs H Q E => spOp2 CR (opB 1) (opS 1) vs H Q E0 ∨ spWithX CR ET vs H Q E) := FnR.or (L2.FnR.mono (FnR.up F_or) (by decide)) (((ok_orX F15 R M_withX).raw b15 .nil).imp fun vs H Q E h => by
    rw [List.append_nil]
    exact h)
  have F_needs : FnR l.prog w K mg base CX0 3 f16 (spOp2 CR (opB 2) (opS 2)) := ((ok_needs F16 R D_subsets M_allows M_with C_R).raw b16 .nil).imp fun vs H Q E h => by
    rw [List.append_nil]
    exact h
  have G_needs : FnR l.prog w K mg base (L2.CX l.prog w) 5 f16 (fun vs H Q E => spOp2 CR (opB 2) (opS 2) vs H Q E0 ∨ spWithX CR ET vs H Q E) := FnR.or (L2.FnR.mono (FnR.up F_needs) (by decide)) (((ok_needsX F16 R M_withX).raw b16 .nil).imp fun vs H Q E h => by
    rw [List.append_nil]
    exact h)
  have F_inv : FnR l.prog w K mg base CX0 3 f17 (spNot CR) := ((ok_invert F17 R D_subsets M_allows C_R).raw b17 .nil).imp fun vs H Q E h => by
    rw [List.append_nil]
    exact h
  have F_str : FnR l.prog w K mg base CX0 1 f18 (spStr CR) := ((ok_str F18 T R).raw b18 .nil).imp fun vs H Q E h => by
    rw [List.append_nil]
    exact h
  have O : ROps l.prog w K mg base CR := ⟨fsR, ⟨_, a14, i14, F_and⟩, ⟨_, a15, i15, F_or⟩, ⟨_, a16, i16, F_needs⟩, ⟨_, a17, i17, F_inv⟩, ⟨_, a18, i18, F_str⟩⟩
  have M_records : MDf l.prog w K mg base CX0 1 CR "records" ["self"] [] (spRecs CR) := ⟨f19, _, [], ok_recs F19 T R, ⟨a19, i19, k19⟩, b19, .nil⟩
  have D_eight : DfX l.prog w K mg base 5 "_law_eight" ["w"] (spEight K CR EB ET) := ⟨f20, _, ok_eight F20 R S_t F_tX, PySem.W.mg_of X G a20, k20, b20⟩
  have D_made5 : DfS l.prog w K mg base 8 "_law_made" ["make"] ["odd"] (spMade (Lm 5) (P5 K)) := ⟨f21, _, ok_made F21 R Z M_records (fun cl fl c' => lok5 R S_h F_hX cl fl c'), PySem.W.mg_of X G a21, k21, b21⟩
  have D_made6 : DfS l.prog w K mg base 8 "_law_made" ["make"] ["given"] (spMade (Lm 6) (P6 K)) := ⟨f21, _, ok_made F21 R Z M_records (fun cl fl c' => lok6 D_eight cl fl c'), PySem.W.mg_of X G a21, k21, b21⟩
  have D_made7 : DfS l.prog w K mg base 8 "_law_made" ["make"] ["words"] (spMade (Lm 7) P7) := ⟨f21, _, ok_made F21 R Z M_records (fun cl fl c' => lok7 D_eight cl fl c'), PySem.W.mg_of X G a21, k21, b21⟩
  have D_made9 : DfS l.prog w K mg base 8 "_law_made" ["make"] ["words"] (spMade (Lm 9) P9) := ⟨f21, _, ok_made F21 R Z M_records (fun cl fl c' => lok9 D_eight cl fl c'), PySem.W.mg_of X G a21, k21, b21⟩
  have D_made17 : DfS l.prog w K mg base 8 "_law_made" ["make"] ["one", "other"] (spMade3 CR) := ⟨f21, _, FnS.or (ok_made F21 R Z M_records (fun cl fl c' => lok17 fsR a14 i14 G_and cl fl c')) (FnS.or (ok_made F21 R Z M_records (fun cl fl c' => lok18 fsR a15 i15 G_or cl fl c')) (ok_made F21 R Z M_records (fun cl fl c' => lok19 fsR a16 i16 G_needs cl fl c'))), PySem.W.mg_of X G a21, k21, b21⟩
  have D_law_conjunction : Df l.prog w K mg base 4 "_law_conjunction" ["words"] (spConj CR) := ⟨f22, _, ok_conj F22 R S_h F_h O, PySem.W.mg_of X G a22, k22, b22⟩
  have D_law_odd : Df l.prog w K mg base 3 "_law_odd" ["pool"] spOdd := ⟨f23, _, ok_odd F23 T D_law_draw D_law_word, PySem.W.mg_of X G a23, k23, b23⟩
  exact ok_law18 l24 c24 (hTB (C1, Pt) (List.mem_singleton.mpr rfl)) T R O D_law_pool D_law_draw D_law_word D_law_odd D_law_conjunction M_records D_made5 D_made6 D_made7 D_made9 D_made17
theorem walk {l : PySem.W.OpenLaw} {q : Program} {loose : List Str} {XP : (Str → Option Value) → Heap → Prop} {YP : World → Heap → Prop} {d : DefRec} {K : Params → PySem.W.Frag} (hn : l.most = some 63) (hdf : d.params.defaults = [])
    (hY : ∀ (w : World) (h : Heap), YP w h → (K w.params).In h)
    (F : ∀ (w : World) (mg : Str → Option Value) (fa : Addr) (h : Heap), YP w h → (K w.params).In h → h.Ns mainGlobals mg → mg d.name = some (.ref fa) → LamX.LawAtS l w (K w.params) CX0 9 63 "script" mg fa h) :
    PySem.W.WalkO q loose XP YP l.row.toRowW d [] (fun f vs => PySem.call f vs) :=
  LamX.walk_ofTs (n := 63) (k := 9) (x := "script") (CX := fun _ => CX0) hn (by decide) hdf ⟨rfl, by decide, by decide⟩ hY F fun _ _ _ _ _ z => z
end IC
open PySem PySem.W PyProof.Rows
set_option maxRecDepth 100000 in
set_option maxHeartbeats 0 in
theorem PySem.Challenge.cw_innercommits_k18_rules_refused_holds : PySem.Challenge.rw_innercommits_k18_rules_refused.Holds := by
  w_on; o_law; k_head; (case hw => w_witness2)
  k_fill
  refine IC.walk (l := PySem.Challenge.rw_innercommits_k18_rules_refused) rfl rfl (fun w h Y => PySem.W.km_in_of Y) ?F
  case F =>
    intro w mg fa h Y KX G hmg
    refine' IC.all_mk KX G hmg ?a0 ?l0 ?c0 ?k0 ?a1 ?l1 ?c1 ?k1 ?a2 ?l2 ?c2 ?k2 ?a3 ?l3 ?c3 ?k3 ?a4 ?l4 ?c4 ?k4 ?t4 ?a5 ?l5 ?c5 ?k5 ?t5 ?a6 ?l6 ?c6 ?k6 ?a7 ?l7 ?c7 ?k7 ?a8 ?l8 ?c8 ?k8 ?a9 ?l9 ?c9 ?k9 ?i9 ?a10 ?l10 ?c10 ?k10 ?a11 ?l11 ?c11 ?k11 ?a12 ?l12 ?c12 ?k12 ?i12 ?a13 ?l13 ?c13 ?k13 ?i13 ?a14 ?l14 ?c14 ?k14 ?i14 ?a15 ?l15 ?c15 ?k15 ?i15 ?a16 ?l16 ?c16 ?k16 ?i16 ?a17 ?l17 ?c17 ?k17 ?i17 ?a18 ?l18 ?c18 ?k18 ?i18 ?a19 ?l19 ?c19 ?k19 ?i19 ?a20 ?l20 ?c20 ?k20 ?a21 ?l21 ?c21 ?k21 ?a22 ?l22 ?c22 ?k22 ?a23 ?l23 ?c23 ?k23 ?a24 ?l24 ?c24 ?k24 ?z_int ?z_len ?z_abs ?z_range ?z_max ?z_min ?z_isi ?z_str ?z_all ?z_repr ?z_list ?z_tuple ?z_set ?z_sorted ?gR ?rrd ?rga ?smH ?smT ?pgR ?hdR ?poR ?saR ?mkR ?kpR ?nR0 ?nR1 ?nR2 ?gMR ?fsR ?gI ?gEB ?xEB ?saEB ?sgEB ?shEB ?n1EB ?kEB ?ebEB ?etEB ?ehEB ?ecEB ?gET ?xET ?saET ?sgET ?shET ?n1ET ?kET ?ebET ?etET ?ehET ?ecET ?uEB_EB ?uET_EB ?uET_ET ?lC1 ?pC ?cH ?nT ?hT0
    (case gR => k_is)
    (case rrd => k_is)
    (case rga => k_is)
    (case smH => k_is)
    (case smT => k_is)
    (case pgR => k_is)
    (case hdR => k_is)
    (case poR => k_is)
    (case saR => k_is)
    (case mkR => k_is)
    (case kpR => k_is)
    (case nR0 => k_is)
    (case nR1 => k_is)
    (case nR2 => k_is)
    (case gMR => k_is)
    (case fsR => k_is)
    (case gI => k_is)
    (case gEB => k_is)
    (case xEB => k_is)
    (case saEB => k_is)
    (case sgEB => k_is)
    (case shEB => k_is)
    (case n1EB => k_is)
    (case kEB => k_is)
    (case ebEB => k_is)
    (case etEB => k_is)
    (case ehEB => k_is)
    (case ecEB => k_is)
    (case gET => k_is)
    (case xET => k_is)
    (case saET => k_is)
    (case sgET => k_is)
    (case shET => k_is)
    (case n1ET => k_is)
    (case kET => k_is)
    (case ebET => k_is)
    (case etET => k_is)
    (case ehET => k_is)
    (case ecET => k_is)
    (case uEB_EB => k_is)
    (case uET_EB => k_is)
    (case uET_ET => k_is)
    (case a0 => k_is)
    (case l0 => k_is)
    (case c0 => k_is)
    (case k0 => k_is)
    (case a1 => k_is)
    (case l1 => k_is)
    (case c1 => k_is)
    (case k1 => k_is)
    (case a2 => k_is)
    (case l2 => k_is)
    (case c2 => k_is)
    (case k2 => k_is)
    (case a3 => k_is)
    (case l3 => k_is)
    (case c3 => k_is)
    (case k3 => k_is)
    (case a4 => k_is)
    (case l4 => k_is)
    (case c4 => k_is)
    (case k4 => k_is)
    (case t4 => k_is)
    (case a5 => k_is)
    (case l5 => k_is)
    (case c5 => k_is)
    (case k5 => k_is)
    (case t5 => k_is)
    (case a6 => k_is)
    (case l6 => k_is)
    (case c6 => k_is)
    (case k6 => k_is)
    (case a7 => k_is)
    (case l7 => k_is)
    (case c7 => k_is)
    (case k7 => k_is)
    (case a8 => k_is)
    (case l8 => k_is)
    (case c8 => k_is)
    (case k8 => k_is)
    (case a9 => k_is)
    (case l9 => k_is)
    (case c9 => k_is)
    (case k9 => k_is)
    (case i9 => k_is)
    (case a10 => k_is)
    (case l10 => k_is)
    (case c10 => k_is)
    (case k10 => k_is)
    (case a11 => k_is)
    (case l11 => k_is)
    (case c11 => k_is)
    (case k11 => k_is)
    (case a12 => k_is)
    (case l12 => k_is)
    (case c12 => k_is)
    (case k12 => k_is)
    (case i12 => k_is)
    (case a13 => k_is)
    (case l13 => k_is)
    (case c13 => k_is)
    (case k13 => k_is)
    (case i13 => k_is)
    (case a14 => k_is)
    (case l14 => k_is)
    (case c14 => k_is)
    (case k14 => k_is)
    (case i14 => k_is)
    (case a15 => k_is)
    (case l15 => k_is)
    (case c15 => k_is)
    (case k15 => k_is)
    (case i15 => k_is)
    (case a16 => k_is)
    (case l16 => k_is)
    (case c16 => k_is)
    (case k16 => k_is)
    (case i16 => k_is)
    (case a17 => k_is)
    (case l17 => k_is)
    (case c17 => k_is)
    (case k17 => k_is)
    (case i17 => k_is)
    (case a18 => k_is)
    (case l18 => k_is)
    (case c18 => k_is)
    (case k18 => k_is)
    (case i18 => k_is)
    (case a19 => k_is)
    (case l19 => k_is)
    (case c19 => k_is)
    (case k19 => k_is)
    (case i19 => k_is)
    (case a20 => k_is)
    (case l20 => k_is)
    (case c20 => k_is)
    (case k20 => k_is)
    (case a21 => k_is)
    (case l21 => k_is)
    (case c21 => k_is)
    (case k21 => k_is)
    (case a22 => k_is)
    (case l22 => k_is)
    (case c22 => k_is)
    (case k22 => k_is)
    (case a23 => k_is)
    (case l23 => k_is)
    (case c23 => k_is)
    (case k23 => k_is)
    (case a24 => k_is)
    (case l24 => k_is)
    (case c24 => k_is)
    (case k24 => k_is)
    (case z_int => k_is)
    (case z_len => k_is)
    (case z_abs => k_is)
    (case z_range => k_is)
    (case z_max => k_is)
    (case z_min => k_is)
    (case z_isi => k_is)
    (case z_str => k_is)
    (case z_all => k_is)
    (case z_repr => k_is)
    (case z_list => k_is)
    (case z_tuple => k_is)
    (case z_set => k_is)
    (case z_sorted => k_is)
    (case lC1 => k_is)
    (case pC => exact rfl)
    (case cH => kernel_rfl)
    (case nT => kernel_rfl)
    (case hT0 => exact PySem.W.km_tabs_of Y _ (by k_mem))
#print axioms PySem.Challenge.cw_innercommits_k18_rules_refused_holds
