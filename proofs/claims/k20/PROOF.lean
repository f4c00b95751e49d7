import PyProof.Rows.All
import Wide.All
import OpenK.AllK
import Wide.FinOn
import HandS.ForMost
import HandS.Wide
import HandS.IsInst
import HandS.Style
import HandS.Flow
import HandS.Evl
import HandS.Walk
import HandS.Codes
import PyProof.Rows.ReprR
import HandS.Exc
import HandS.ExcInit
import HandS.ExcField
import HandS.Property
import HandS.Defaults
import HandS.ClsMeth
import PyProof.ListStr
import HandS.CallSlots
import HandS.WordsExc
import PyProof.ReprBulk
import HandS.Set
import HandS.Strs
import HandS.Zip
import HandS.SetFor
import PyProof.Rows.SortShellAny
import HandS.DictComp
import HandS.Star
import HandS.More
import HandS.FStr
import HandS.Conv
import HandS.TryMany
import KE.KOpsOwn
import HandS.TupAny
import KE.KCallOwn
import HandS.SetBool
import KE.KRevSl
import HandS.RaiseMore
import HandS.HotCalls
import HandS.SetKeys
import HandS.NoneIn
import HandS.GenList
import HandS.ListItems
import HandS.NestedHot
import HandS.NestedK
import HandS.Finally
import HandS.SuiteRaise
import HandS.RaiseFrom
import HandS.ExcInitHot
import HandS.Nested
import HandS.EndTab
import HandS.MakeKwOnly
import HandS.TryElse
import KE.KFinally
import KE.KExcRaise
import HandS.Deep
import HandS.StrMore
import HandS.Iter
import PyProof.InstNe
import PySem.Challenge.RW_innercommits_k20_parts_of_libraries
set_option Elab.async false
set_option linter.all false
set_option maxRecDepth 100000
set_option maxHeartbeats 4000000
namespace IC
open PySem L2 TL
/-! ### heaps: all but the addresses of l stand as they stood -/
def Kp (l : List Addr) (H H' : Hp) : Prop := ∀ b o, H b = some o → b ∉ l → H' b = some o
theorem Kp.refl (l : List Addr) (H : Hp) : Kp l H H := fun _ _ e _ => e
theorem Kp.trans {l : List Addr} {H H1 H2 : Hp} (a : Kp l H H1) (b : Kp l H1 H2) : Kp l H H2 := fun c o e h => b c o (a c o e h) h
theorem Kp.same {l : List Addr} {H H' : Hp} (a : Same H H') : Kp l H H' := fun b o e _ => a b o e
theorem Kp.at_ {l : List Addr} {H : Hp} {p : Addr} {o : HO} (h : p ∈ l) : Kp l H (upd H p o) := fun b u e hb => by
  have q : b ≠ p := fun z => hb (by rw [z]; exact h)
  rw [upd_ne q]; exact e
theorem Kp.new {l : List Addr} {H : Hp} {p : Addr} {o : HO} (h : H p = none) : Kp l H (upd H p o) := fun b u e _ => by
  rw [upd_ne (ne_of_none e h)]; exact e
theorem Kp.mut {l : List Addr} {H H' : Hp} {p : Addr} {o : HO} (a : Kp l H H') (h : H p = none) : Kp l H (upd H' p o) := fun b u e hb => by
  rw [upd_ne (ne_of_none e h)]; exact a b u e hb
theorem Kp.mutAt {l : List Addr} {H H' : Hp} {p : Addr} {o : HO} (a : Kp l H H') (h : p ∈ l) : Kp l H (upd H' p o) := a.trans (Kp.at_ h)
theorem none_of {H : Hp} {p D : Addr} {o : HO} (h : upd H p o D = none) : p ≠ D ∧ H D = none := by
  have q : p ≠ D := ne_of_none upd_same h
  rw [upd_ne q.symm] at h
  exact ⟨q, h⟩
theorem Same.new {H : Hp} {p : Addr} {o : HO} (h : H p = none) : Same H (upd H p o) := fun b u e => by
  rw [upd_ne (ne_of_none e h)]; exact e

/-! ### the pool of numbers -/
def pl (a b c : Int) : List V := [.int a, .int b, .int c]
def PoolAt (H : Hp) (p : Addr) (n : Int) : Prop := ∃ a b c : Int, H p = some (.lst (pl a b c)) ∧ 0 ≤ a ∧ 0 ≤ b ∧ b < 2 ^ 63 ∧ 0 ≤ c ∧ c ≤ n
theorem PoolAt.up {H : Hp} {p : Addr} {n m : Int} (h : PoolAt H p n) (e : n ≤ m) : PoolAt H p m := by
  obtain ⟨a, b, c, h1, h2, h3, h4, h5, h6⟩ := h
  exact ⟨a, b, c, h1, h2, h3, h4, h5, Int.le_trans h6 e⟩
theorem PoolAt.mv {H H' : Hp} {p : Addr} {n : Int} (h : PoolAt H p n) (e : ∀ o, H p = some o → H' p = some o) : PoolAt H' p n := by
  obtain ⟨a, b, c, h1, h⟩ := h
  exact ⟨a, b, c, e _ h1, h⟩
/-- _law_draw(pool, many): a number below many; only the pool changes -/
def spDraw : Sp := fun vs H Q _ => ∃ (p : Addr) (m n : Int), vs = [.ref p, .int m] ∧ PoolAt H p n ∧ n < 1000000000 ∧ 0 < m ∧ m.natAbs < 2 ^ 200 ∧
  ∀ (d : Int) (o : HO), 0 ≤ d → d < m → PoolAt (upd H p o) p (n + 1) → Q (.int d) (upd H p o)
/-- _law_pool(script, at): a new pool -/
def spPool (K : PySem.W.Frag) : Sp := fun vs H Q _ => ∃ (a : Addr) (ns : List Int) (j : Nat), vs = [.ref a, .int j] ∧ SqL K H a (ns.map V.int) ∧ j < 64 ∧
  ∀ (p : Addr) (o : HO), H p = none → PoolAt (upd H p o) p 0 → Q (.ref p) (upd H p o)

/-- a def of the text by its name: it keeps the promise sp -/
structure Df (P : Program) (w : World) (K : PySem.W.Frag) (mg : Str → Option Value) (base : Heap) (k : Nat) (x : Str) (ps : List Str) (sp : Sp) : Prop where
  ex : ∃ (f : Addr) (fd : FuncData), FnOk P w K mg base CX0 k f fd ps sp ∧ mg x = some (.ref f) ∧ PySem.W.keepIn K (.ref f) = true ∧ Binds K fd ps []
theorem pe_df {X : Cx} {k j : Nat} {x : Str} {ps : List Str} {sp : Sp} {e : Expr} {es : List Expr} {t : TA} {p pos : Pos} (D : Df X.prog X.w X.K X.mg X.base k x ps sp) (hr : Room j X.A) (hk : k ≤ j) (hg : Gl X x)
    (ha : PA X (e :: es) t) (hdb : (x == ("__debug__" : Str)) = false := by decide) (he : starEach (e :: es) X.env = (false, eval e X.env) :: starEach es X.env := by rfl) (hpl : (backTo pos (starEach es X.env)).any (·.1) = false := by rfl) :
    PE X (.Call (.Name x p) (e :: es) [] pos) (tCall sp [] E0 t) := by
  obtain ⟨f, fd, F, hm, hkp, hb⟩ := D.ex
  exact pe_call F (hr.mono hk) hg hm hkp hb .nil pass0 ha hdb he hpl

/-! ### words -/
def Lt (c : Nat) : Prop := 97 ≤ c ∧ c ≤ 122
def IsW (z : Str) : Prop := 1 ≤ (tl z).length ∧ (tl z).length ≤ 8 ∧ ∀ c ∈ tl z, Lt c
def sgn (c : Nat) : Str := ⟨#[c]⟩
theorem joinL_one : ∀ cs : List Nat, joinL [] (cs.map fun c => [c]) = cs
  | [] => rfl
  | [c] => rfl
  | c :: d :: r => by
    show [c] ++ ([] ++ joinL [] ((d :: r).map fun c => [c])) = c :: d :: r
    rw [joinL_one (d :: r)]
    rfl
theorem tl_joined (cs : List Nat) : tl (Txt.join (Str.ofString "") (cs.map sgn)) = cs := by
  rw [join_eq, tl_join, List.map_map]
  exact joinL_one cs
def spWord : Sp := fun vs H Q _ => ∃ (p : Addr) (n : Int), vs = [.ref p] ∧ PoolAt H p n ∧ n < 900000000 ∧
  ∀ (z : Str) (H' : Hp), IsW z → PoolAt H' p (n + 9) → Kp [p] H H' → Q (.str z) H'
theorem abc_at (d : Int) (h0 : 0 ≤ d) (h1 : d < 26) : ∃ c, atI (Str.ofString "abcdefghijklmnopqrstuvwxyz").cps.toList d = some c ∧ Lt c := by
  have e : (Str.ofString "abcdefghijklmnopqrstuvwxyz").cps.toList = [97,98,99,100,101,102,103,104,105,106,107,108,109,110,111,112,113,114,115,116,117,118,119,120,121,122] := by decide +kernel
  rw [e]
  obtain ⟨j, rfl⟩ : ∃ j : Nat, d = j := ⟨d.toNat, by omega⟩
  have hj : j < 26 := by omega
  refine ⟨97 + j, atI_nat ?_, by unfold Lt; omega⟩
  have all : ∀ k : Fin 26, ([97,98,99,100,101,102,103,104,105,106,107,108,109,110,111,112,113,114,115,116,117,118,119,120,121,122] : List Nat)[k.val]? = some (97 + k.val) := by decide
  exact all ⟨j, hj⟩
/-- no text: a value of another type -/
def Oth (K : PySem.W.Frag) (H : Hp) (v : V) : Prop := ∃ T : String, TyX K H v (.type T) ∧ kitB T "str" = some false
def lB (c : Nat) : Bool := decide (97 ≤ c) && decide (c ≤ 122)
/-- is the text a word -/
def wB (z : Str) : Bool := decide (1 ≤ (tl z).length) && (decide ((tl z).length ≤ 8) && (tl z).all lB)
def spIsWord (K : PySem.W.Frag) : Sp := fun vs H Q _ => ∃ v : V, vs = [v] ∧ ((∃ z : Str, v = .str z ∧ (tl z).length ≤ 1000 ∧ ∀ H', Same H H' → Q (.bl (wB z)) H') ∨ (Oth K H v ∧ ∀ H', Same H H' → Q (.bl false) H'))
theorem len_le {z : Str} (h : (tl z).length ≤ 1000) : z.length ≤ sizeLine := by
  rw [len_tl]; exact Nat.le_of_lt (small1000 h)
theorem tl_one (c : Nat) : tl (⟨#[c]⟩ : Str) = [c] := rfl
theorem one_lt (c d : Nat) : ([c] < [d]) ↔ ¬ d ≤ c := by
  rw [List.cons_lt_cons_iff]
  simp
theorem lt_a (c : Nat) : decide ((⟨#[c]⟩ : Str).cps.toList < (Str.ofString "a").cps.toList) = !decide (97 ≤ c) := by
  have e : (Str.ofString "a").cps.toList = [97] := by decide +kernel
  rw [e]
  show decide ([c] < [97]) = _
  rw [Bool.eq_iff_iff, decide_eq_true_iff, Bool.not_eq_true', decide_eq_false_iff_not]
  exact one_lt c 97
theorem z_lt (c : Nat) : decide ((Str.ofString "z").cps.toList < (⟨#[c]⟩ : Str).cps.toList) = !decide (c ≤ 122) := by
  have e : (Str.ofString "z").cps.toList = [122] := by decide +kernel
  rw [e]
  show decide ([122] < [c]) = _
  rw [Bool.eq_iff_iff, decide_eq_true_iff, Bool.not_eq_true', decide_eq_false_iff_not]
  exact one_lt 122 c
theorem abc_mem (c : Nat) : decide (c ∈ (Str.ofString "abcdefghijklmnopqrstuvwxyz").cps.toList) = lB c := by
  have e : (Str.ofString "abcdefghijklmnopqrstuvwxyz").cps.toList = [97,98,99,100,101,102,103,104,105,106,107,108,109,110,111,112,113,114,115,116,117,118,119,120,121,122] := by decide +kernel
  rw [e]
  unfold lB
  rw [Bool.eq_iff_iff]
  simp
  omega
theorem shaped_all {xs : List PyData} (h : ∀ x ∈ xs, PyData.canLay0 x = true ∧ PyData.depth x ≤ 20) : PyData.canLayAll0 xs = true ∧ PyData.depthAll xs ≤ 20 := by
  induction xs with
  | nil => exact ⟨rfl, Nat.zero_le _⟩
  | cons x r ih =>
    have h1 := h x List.mem_cons_self
    have h2 := ih fun y hy => h y (List.mem_cons_of_mem _ hy)
    refine ⟨?_, ?_⟩
    · show (PyData.canLay0 x && PyData.canLayAll0 r) = true
      rw [h1.1, h2.1]
      rfl
    · show max (PyData.depth x) (PyData.depthAll r) ≤ 20
      omega
theorem shaped_list {xs : List PyData} (h : ∀ x ∈ xs, PyData.canLay0 x = true ∧ PyData.depth x ≤ 20) : SeqAt.shaped (.list xs) = true := by
  obtain ⟨h1, h2⟩ := shaped_all h
  show (PyData.canLay0 (.list xs) && decide (PyData.depth (.list xs) ≤ 64)) = true
  have e1 : PyData.canLay0 (.list xs) = true := h1
  have e2 : PyData.depth (.list xs) = PyData.depthAll xs + 1 := rfl
  rw [e1, e2, decide_eq_true (by omega)]
  rfl
theorem dpAll_strs {K : PySem.W.Frag} {H : Hp} : ∀ zs : List Str, DpAll K H (zs.map V.str) (zs.map PyData.str)
  | [] => .nil
  | z :: r => .cons (.str z) (dpAll_strs r)
def Okc (c : Nat) : Prop := c < 1114112
theorem strOk_of {z : Str} (h : ∀ c ∈ tl z, Okc c) : PyData.strOk z = true := by
  unfold PyData.strOk
  rw [Array.all_eq_true_iff_forall_mem]
  intro c hc
  exact decide_eq_true (h c (by simpa [tl] using hc))
theorem shaped_strs (zs : List Str) (h : ∀ z ∈ zs, ∀ c ∈ tl z, Okc c) : SeqAt.shaped (.list (zs.map PyData.str)) = true := shaped_list fun x hx => by
  obtain ⟨z, hz, rfl⟩ := List.mem_map.mp hx
  exact ⟨strOk_of (h z hz), Nat.zero_le _⟩
/-- a comprehension over range(n) whose element is a drawn letter -/
theorem lc_draw {te : TE} {gi : Nat} {σ : L2.St} {H1 : Hp} {D p : Addr} {Qd : Hp → Prop} (n : Nat) (m : Int) (hn : n ≤ 1000) (hp : PoolAt H1 p m) (hD : H1 D = none)
    (hte : ∀ (x : V) (m' : Int) (H : Hp) (Q : VK), PoolAt H p m' → m' ≤ m + n → (∀ c o, Lt c → PoolAt (upd H p o) p (m' + 1) → Q (.str (sgn c)) (upd H p o)) → te ((σ.set gi none).set gi (some x)) H Q)
    (hd : ∀ (cs : List Nat) (H' : Hp), cs.length = n → (∀ c ∈ cs, Lt c) → H' D = some (.lst ((cs.map sgn).map V.str)) → PoolAt H' p (m + n) → Kp [p] H1 H' → Qd H') :
    ∃ W : Nat → Nat → Hp → Prop, (∃ m, W 0 m (upd H1 D (.lst []))) ∧ ∀ i m H, W i m H →
      ((Itr 0 n).stop i H ∧ Qd H) ∨ ((Itr 0 n).go i H ∧ ∃ Nx : Hp → Prop, (∀ H', Nx H' → ∃ m', m' < m ∧ W (i + 1) m' H') ∧ ∀ x H', (Itr 0 n).yld i H x H' → gName gi x (wipe σ [gi]) H' fun σ2 H2 => wipe σ2 [gi] = wipe σ [gi] ∧ tYes σ2 H2 fun b H3 =>
        if b = true then te σ2 H3 fun y H4 => ∃ acc, H4 D = some (.lst acc) ∧ acc.length < sizeLine ∧ Nx (upd H4 D (.lst (acc ++ [y]))) else Nx H3) := by
  have hpD : p ≠ D := by
    obtain ⟨a, b, c, e, _⟩ := hp
    exact ne_of_none e hD
  refine lc_range (lo := 0) (n := n) (fun i H' => ∃ cs : List Nat, cs.length = i ∧ (∀ c ∈ cs, Lt c) ∧ H' D = some (.lst ((cs.map sgn).map V.str)) ∧ PoolAt H' p (m + i) ∧ Kp [p] H1 H')
    ⟨[], rfl, by simp, upd_same, (hp.mv fun u e => by rw [upd_ne hpD]; exact e).up (by omega), Kp.new hD⟩ ?_ ?_
  · rintro i H' hi ⟨cs, hl, hc, hcD, hp2, kp⟩
    refine ⟨by simp [wipe], ?_⟩
    refine hte _ (m + i) H' _ hp2 (by omega) fun c o hL hp3 => ?_
    refine ⟨_, (by rw [upd_ne hpD.symm]; exact hcD), small1000 (by rw [List.length_map, List.length_map]; omega), cs ++ [c], by simp [hl], ?_, ?_, ?_, (kp.mutAt (by simp)).mut hD⟩
    · intro x hx
      rcases List.mem_append.mp hx with hx | hx
      · exact hc x hx
      · rw [List.mem_singleton.mp hx]; exact hL
    · rw [upd_same, List.map_append, List.map_append]
      rfl
    · exact (hp3.mv fun u q => by rw [upd_ne hpD]; exact q).up (by omega)
  · rintro H' ⟨cs, hl, hc, hcD, hp2, kp⟩
    exact hd cs H' hl hc hcD hp2 kp
theorem sum_sgn (cs : List Nat) : (List.map (fun z : Str => z.length) (cs.map sgn)).sum = cs.length := by
  rw [List.map_map]
  induction cs with
  | nil => rfl
  | cons c r ih => rw [List.map_cons, List.sum_cons, ih, List.length_cons]; show 1 + r.length = r.length + 1; omega
theorem Lt.ok {c : Nat} (h : Lt c) : Okc c := by
  have := h.2
  unfold Okc
  omega
/-- a text of few signs, or a thing of another kind -/
def Txt1 (z : Str) : Prop := (tl z).length ≤ 1000 ∧ ∀ c ∈ tl z, Okc c
def Thing (K : PySem.W.Frag) (H : Hp) (v : V) : Prop := (∃ z : Str, v = .str z ∧ Txt1 z) ∨ Oth K H v
theorem cutS_mem (z : Str) (lo hi : Option Int) : ∀ c ∈ tl (cutS z lo hi), c ∈ tl z := by
  intro c hc
  exact List.mem_of_mem_drop (List.mem_of_mem_take hc)
theorem oth_int {K : PySem.W.Frag} {H : Hp} {i : Int} : Oth K H (.int i) := ⟨"int", .base (.int i), by decide +kernel⟩
theorem oth_bl {K : PySem.W.Frag} {H : Hp} {b : Bool} : Oth K H (.bl b) := ⟨"bool", .base (.bl b), by decide +kernel⟩
theorem oth_non {K : PySem.W.Frag} {H : Hp} : Oth K H .non := ⟨"NoneType", .base .non, by decide +kernel⟩
theorem oth_lst {K : PySem.W.Frag} {H : Hp} {a : Addr} {xs : List V} (h : H a = some (.lst xs)) : Oth K H (.ref a) := ⟨"list", .base (.lst h), by decide +kernel⟩
theorem oth_tup {K : PySem.W.Frag} {H : Hp} {a : Addr} {xs : List V} (h : H a = some (.tup xs)) : Oth K H (.ref a) := ⟨"tuple", .base (.tup h), by decide +kernel⟩
theorem Kp.newAt {l : List Addr} {H H' : Hp} {p : Addr} {o : HO} (a : Kp l H H') (h : H' p = none) : Kp l H (upd H' p o) := a.trans (Kp.new h)
theorem Same.kp {H0 H H' : Hp} {p : Addr} (a : Same H0 H) (k : Kp [p] H H') (h : H0 p = none) : Same H0 H' := fun b o e => k b o (a b o e) (by
  intro z
  have q := List.mem_singleton.mp z
  rw [q, h] at e
  cases e)
theorem Oth.mv {K : PySem.W.Frag} {H H' : Hp} {v : V} (h : Oth K H v) (s : Same H H') : Oth K H' v := by
  obtain ⟨T, ty, kb⟩ := h
  refine ⟨T, ?_, kb⟩
  cases ty with
  | base b =>
    generalize ht : Value.type T = t at b
    cases b with
    | non => injection ht with ht; subst ht; exact .base .non
    | bl x => injection ht with ht; subst ht; exact .base (.bl x)
    | int i => injection ht with ht; subst ht; exact .base (.int i)
    | str x => injection ht with ht; subst ht; exact .base (.str x)
    | flt x => injection ht with ht; subst ht; exact .base (.flt x)
    | lst e => injection ht with ht; subst ht; exact .base (.lst (s _ _ e))
    | frz e => injection ht with ht; subst ht; exact .base (.frz (s _ _ e))
    | tup e => injection ht with ht; subst ht; exact .base (.tup (s _ _ e))
    | dK e => injection ht with ht; subst ht; exact .base (.dK (s _ _ e))
    | dT e => injection ht with ht; subst ht; exact .base (.dT (s _ _ e))
    | ins e => cases ht
  | byt b => exact .byt b
  | set e => exact .set (s _ _ e)
  | kList e c => exact .kList e c
  | kTuple e c => exact .kTuple e c
  | kDict e c => exact .kDict e c
  | fTuple e => exact .fTuple (s _ _ e)
  | fDict e => exact .fDict (s _ _ e)
def spLaw (K : PySem.W.Frag) : Sp := fun vs H Q _ => ∃ (a : Addr) (ns : List Int), vs = [.ref a] ∧ SqL K H a (ns.map V.int) ∧ ns.length ≤ 63 ∧ ∀ H', Q (.bl true) H'
end IC
namespace IC
open PySem L2 TL
/-! ### a static method called by its class; list(text) -/
/-- C.m is a static method: its record at p, its def at g -/
structure SMet (K : PySem.W.Frag) (C : Addr) (mc : Value) (m : Str) (p g : Addr) : Prop where
  rd : ClX.CRead K C mc
  fnd : PySem.W.findCls K (.ref C) mc m = some (.get (.builtin "staticmethod.__get__") (.ref p) .none (.ref C))
  rec_ : ∃ rest, PySem.W.recIn K p "staticmethod" = some (.ref g :: rest)
  kp : PySem.W.keepIn K (.ref g) = true
def tSM (C : Addr) (sp : Sp) (ta : TE) (t : TA) : TE := fun σ H Q => ta σ H fun x H1 => x = .ref C ∧ t σ H1 fun vs H2 => sp vs H2 Q E0
theorem pe_smeth {X : Cx} {k j : Nat} {C p g : Addr} {mc : Value} {fd : FuncData} {ps : List Str} {sp : Sp} {o e : Expr} {es : List Expr} {m : Str} {pos apos : Pos} {ta : TE} {t : TA} {pl : Sem Bool}
    (ho : PE X o ta) (S : SMet X.K C mc m p g) (F : FnOk X.prog X.w X.K X.mg X.base CX0 k g fd ps sp) (hb : Binds X.K fd ps []) (hr : Room j X.A) (hk : k ≤ j) (ha : PA X (e :: es) t)
    (he : starEach (e :: es) X.env = (false, eval e X.env) :: starEach es X.env := by rfl) (hpl : (backTo pos (starEach es X.env)).any (·.1) = false := by rfl)
    (ht : eval (.Call (.Attribute o m apos) (e :: es) [] pos) X.env = (do
      let ov ← eval o X.env; standAt apos.atName
      let (f, first) ← holding [ov] (getMethod ov m pl); callWith pos f first (backTo pos (starEach (e :: es) X.env)) (backToKw pos (keywordEach [] X.env))) := by rfl) :
    PE X (.Call (.Attribute o m apos) (e :: es) [] pos) (tSM C sp ta t) := by
  refine ⟨fun pins s σ H Q I h => PySem.W.methodCall_KW (pl := pl) (thn (ho.run pins s σ H _ I h) fun u s1 ⟨x, H1, I1, rx, ex, q⟩ => ?_) ht⟩
  subst ex
  obtain rfl : u = Value.ref C := rx
  obtain ⟨rest, hrc⟩ := S.rec_
  refine PySem.W.method_cls I1.kIn S.rd.ga (PySem.W.cls_bind I1.kIn S.rd.rd S.fnd ?_)
  refine wpAny_call (PySem.W.sm_get (s := { s1 with toks := s1.toks + 1 }) I1.kIn hrc (PySem.W.handed_on rfl ?_))
  have I2 : Inv X pins σ H1 { s1 with toks := s1.toks + 1 } := I1.tok _
  exact PySem.W.callWith_K (h₀ := X.base) I2.ok.mod.kin S.kp (thn (ha.run pos pins _ σ H1 _ I2 q) fun us s3 ⟨vs, H3, I3, rv, q3⟩ => ⟨I3.kIn, run_fn F (hr.mono hk) hb .nil pass0 I3 rv (by rw [List.append_nil]; exact q3)⟩) he hpl
theorem vals_some : ∀ (its : List Value), (∀ u ∈ its, ∃ y, RelV y u) → ∃ ys, Vals ys its
  | [], _ => ⟨[], .nil⟩
  | u :: r, h => by
    obtain ⟨y, hy⟩ := h u List.mem_cons_self
    obtain ⟨ys, hys⟩ := vals_some r fun v hv => h v (List.mem_cons_of_mem _ hv)
    exact ⟨y :: ys, .cons hy hys⟩
/-- list(text): a new list -/
theorem call_list_txt {X : Cx} (hc : X.A.handled = none) : CallR X (.type "list") (fun xs H Q => ∃ z : Str, xs = [.str z] ∧ z.length ≤ sizeLine ∧ ∀ l ys, H l = none → Q (.ref l) (upd H l (.lst ys))) := by
  intro pins s σ H xs us Q I r h
  obtain ⟨z, rfl, hz, q⟩ := h
  obtain ⟨u, rfl, rx⟩ := vals1 r
  obtain ⟨t, rfl⟩ := rx
  refine call_list_str hc z t (fun h' tk acc c' kp e it => ?_) hz
  obtain ⟨ys, hys⟩ := vals_some acc.toList fun u hu => by
    obtain ⟨j, hj, e1⟩ := List.getElem_of_mem hu
    obtain ⟨c, w, _, rfl⟩ := it.2 j u (by
      rw [← e1]
      simp)
    exact ⟨.str ⟨#[c]⟩, w, rfl⟩
  have hl := hys.length
  refine ⟨.ref s.heap.objs.size, _, I.laid (t' := tk) kp (Nat.le_refl _) (show ObjOk X.prog X.w _ h' _ (.lst ys) from ⟨?_, acc.toList, c', hys, by simpa using e⟩), rfl, q _ ys (I.hok.fresh (Nat.le_refl _))⟩
  have h1 : acc.size = z.cps.size := it.1
  have h2 : acc.toList.length = acc.size := Array.length_toList
  rw [hl, h2, h1]
  exact hz
end IC
namespace IC
open PySem L2 TL
open PyProof.Rows (envOfC)
/-! ### defs that ask repr: no repr may be under way around them -/
structure FnG (P : Program) (w : World) (K : PySem.W.Frag) (mg : Str → Option Value) (base : Heap) (k : Nat) (f : Addr) (fd : FuncData) (ps : List Str) (sp : Sp) : Prop where
  len : ∀ vs H Q E, sp vs H Q E → vs.length = ps.length
  run : ∀ (B : Around) (outer : List Env) (s : Shared) (H : Hp) (args : Args) (us : List Value) (vs : List V) (Q : VK) (E : XK), B.guards = some [] → Room k B → Env0 P w K mg base B outer s H → BindsTo s fd args (ps.zip us) → Vals vs us →
    sp vs H Q E → codeAny (model P w) B (.call (.ref f) args) (CR CX0 outer P w H s Q E) s
section
variable {P : Program} {w : World} {K : PySem.W.Frag} {mg : Str → Option Value} {base : Heap}
theorem FnOk.g {k : Nat} {f : Addr} {fd : FuncData} {ps : List Str} {sp : Sp} (F : FnOk P w K mg base CX0 k f fd ps sp) : FnG P w K mg base k f fd ps sp :=
  ⟨F.len, fun B outer s H args us vs Q E _ => F.run B outer s H args us vs Q E⟩
theorem FnG.mono {j k : Nat} {f : Addr} {fd : FuncData} {ps : List Str} {sp : Sp} (F : FnG P w K mg base j f fd ps sp) (h : j ≤ k) : FnG P w K mg base k f fd ps sp :=
  ⟨F.len, fun B outer s H args us vs Q E hg hr => F.run B outer s H args us vs Q E hg (hr.mono h)⟩
theorem Fun.okG {x qual : Str} {st : Stmt} {f : Addr} {fd : FuncData} {N ps : List Str} {k : Nat} {sp : Sp} (F : Fun K x qual st f fd) (S : FnScope N ps (defScope st)) (len : ∀ vs H Q E, sp vs H Q E → vs.length = ps.length)
    (hbody : ∀ (cdv : Value) (B : Around) (outer : List Env) (s : Shared) (H : Hp) (vs : List V) (Q : VK) (E : XK), (B.deeper (envOfC qual (defScope st) s.heap.objs.size f cdv)).guards = some [] →
      Room k (B.deeper (envOfC qual (defScope st) s.heap.objs.size f cdv)) → sp vs H Q E →
      ∃ t, PSs (cxOf CX0 P w K mg base N qual (defScope st) f cdv B outer s H E).nox (defBody st) t ∧ t { nx := fun _ H' => Q .non H', rt := Q } (start N vs) H) : FnG P w K mg base (k + 1) f fd ps sp := by
  obtain ⟨oc, od, kV, doc, pm, an, cdv, ct, osl, rfl, lk, hcd⟩ := F.ex
  refine ⟨len, fun B outer s H args us vs Q E hg hr e0 hb r hsp => ?_⟩
  have inK : K.In s.heap := e0.mod.kin.keeps fun b o e => And.left (e0.bs b o e)
  have noL : s.heap.NoLimit := e0.mod.nolimit.keeps fun b o e => And.left (e0.bs b o e)
  have kinds : ∀ y ∈ ps.zip us, (defScope st).names.lookup y.1 = some .local ∨ ((defScope st).names.lookup y.1 = some .cell ∧ ((cellsFrom (s.heap.objs.size + 1) (defScope st).names []).lookup y.1).isSome = true) := by
    rintro ⟨n, v⟩ hy
    cases S.par n (And.left (List.of_mem_zip hy)) with
    | inl q => exact Or.inl q
    | inr q => exact Or.inr (And.intro q (PySem.W.cellsFrom_some _ _ _ (Or.inl q)))
  refine codeAny_call_function (Room.depth hr) (inK _ _ lk) rfl S.co S.gen rfl (PySem.W.codeRec_of inK hcd) (hb _ _ _ _ (wpAny_newFunctionEnv_cells S.kind kinds fun env he s1 x => ?_))
  subst he
  obtain ⟨t, ht, hq⟩ := hbody cdv B outer s H vs Q E hg (Room.deeper hr _) hsp
  have I0 := inv_start (CX := CX0) (E := E) S (Room.hd hr) e0 (len _ _ _ _ hsp) r x
  refine And.intro (noL.keeps (And.left (And.intro x.toInCall.keep trivial))) (codeAny_func (wpAny_mono (ht.nox.run [] s1 (start N vs) H _ I0 hq) (fun fl s' hs => ?_) fun _ _ z => z))
  cases fl with
  | ret u =>
    obtain ⟨v, σ', H', J, rv, q⟩ := hs
    exact Exists.intro v (Exists.intro H' ⟨J.os, J.bare, J.base, J.hok, rv, q⟩)
  | next =>
    obtain ⟨σ', H', J, q⟩ := hs
    exact Exists.intro V.non (Exists.intro H' ⟨J.os, J.bare, J.base, J.hok, rfl, q⟩)
  | brk =>
    obtain ⟨_, _, _, q⟩ := hs
    exact q.elim
  | cont =>
    obtain ⟨_, _, _, q⟩ := hs
    exact q.elim
/-- a def of the text by its name, for a caller around which no repr is under way -/
structure DfG (P : Program) (w : World) (K : PySem.W.Frag) (mg : Str → Option Value) (base : Heap) (k : Nat) (x : Str) (ps : List Str) (sp : Sp) : Prop where
  ex : ∃ (f : Addr) (fd : FuncData), FnG P w K mg base k f fd ps sp ∧ mg x = some (.ref f) ∧ PySem.W.keepIn K (.ref f) = true ∧ Binds K fd ps []
theorem pe_dfG {X : Cx} {k j : Nat} {x : Str} {ps : List Str} {sp : Sp} {e : Expr} {es : List Expr} {t : TA} {p pos : Pos} (D : DfG X.prog X.w X.K X.mg X.base k x ps sp) (hgd : X.A.guards = some []) (hr : Room j X.A) (hk : k ≤ j) (hg : Gl X x)
    (ha : PA X (e :: es) t) (hdb : (x == ("__debug__" : Str)) = false := by decide) (he : starEach (e :: es) X.env = (false, eval e X.env) :: starEach es X.env := by rfl) (hpl : (backTo pos (starEach es X.env)).any (·.1) = false := by rfl) :
    PE X (.Call (.Name x p) (e :: es) [] pos) (tCall sp [] E0 t) := by
  obtain ⟨f, fd, F, hm, hkp, hb⟩ := D.ex
  refine ⟨fun pins s σ H Q I h => wpAny_Call_Name_kw (ld_glob I hg hm (PySem.W.callWith_K (h₀ := X.base) I.ok.mod.kin hkp (thn (ha.run pos pins s σ H _ I h) fun us s1 hh => ?_) he hpl) hdb)⟩
  obtain ⟨vs, H1, I1, r, q⟩ := hh
  refine And.intro I1.kIn ?_
  rw [List.append_nil] at q
  have hl : us.length = ps.length := by rw [← r.length]; exact F.len _ _ _ _ q
  refine wpAny_call (codeAny_mono (F.run X.A X.stack s1 H1 ⟨us, []⟩ us vs Q E0 hgd (hr.mono hk) I1.env0 (by have z := hb s1 us I1.kIn (by rw [List.append_nil]; exact hl); rw [List.append_nil] at z; exact z) r q) fun r s' hq => ?_)
  cases r with
  | error er => exact False.elim hq
  | ok fl =>
    cases fl with
    | ret u => exact I1.after hq
    | next => exact False.elim hq
    | brk => exact False.elim hq
    | cont => exact False.elim hq
/-- repr of data -/
theorem call_reprD {X : Cx} (hgd : X.A.guards = some []) (hu : X.A.units + 64 < cLine) : CallR X (.builtin "repr") (fun xs H Q => ∃ (a : Addr) (d : PyData), xs = [.ref a] ∧ Dp X.K H (.ref a) d ∧ d.showable = true ∧ d.hasDict = false ∧ d.depth ≤ 20 ∧ d.shown.length ≤ sizeLine ∧ Q (.str d.shown) H) := by
  intro pins s σ H xs us Q I r h
  obtain ⟨a, d, rfl, hd, h1, h2, h3, h4, q⟩ := h
  obtain ⟨u, rfl, ru⟩ := vals1 r
  obtain rfl : u = Value.ref a := ru
  obtain ⟨as, rd⟩ := hd.reads I _ _ _ rfl
  refine repr_of_reads' rd h1 (fun e => by rw [h2] at e; cases e) hgd (by omega) (fun _ _ e => e) (fun h' w' tk kp => ⟨.str d.shown, H, I.kept (t' := tk) kp, ⟨_, rfl⟩, q⟩) h4
end
end IC
namespace IC
open PySem L2 TL PyProof.Rows
/-- the law's own call, where its def is an FnG -/
theorem call_law {P : Program} {w : World} {K : PySem.W.Frag} {mg mb : Str → Option Value} {k : Nat} {fa a : Addr} {fd : FuncData} {s0 : Shared} {vs : List Value} {ns : List Int}
    (inK : K.In s0.heap) (gl : s0.heap.Ns mainGlobals mg) (bl : s0.heap.Ns builtinsNs mb) (bo : ∀ x : Str, x ≠ "__name__" → mb x = bootBuiltins x) (noL : s0.heap.NoLimit) (gn : s0.gens = #[])
    (at_ : s0.heap.get? a = some { cls := .type "list", data := .seq vs.toArray }) (are : IntsAre vs ns) (small : ns.length ≤ sizeLine) (hr : Room k callerA) (hg : callerA.guards = some [])
    (F : ∀ base : Heap, K.In base → base.Ns mainGlobals mg → FnG P w K mg base k fa fd ["script"] (spLaw K)) (bnd : ∀ (s : Shared) (u : Value), BindsTo s fd ⟨[u], []⟩ [("script", u)]) (few : ns.length ≤ 63) :
    codeAny (model P w) callerA (.call (.ref fa) ⟨[.ref a], []⟩) (fun r s' => r = .ok (.ret (.bool true)) ∧ OldK s0.heap s'.heap ∧ s'.os = s0.os ∧ AllBare s'.gens) s0 := by
  have rel := vals_ints are
  have main : ∀ G : Hp, Only G → SqL K G a (ns.map V.int) → HOk P w G s0.heap → (∀ b, G b ≠ none → b = a ∧ K.lookup a = none) →
      codeAny (model P w) callerA (.call (.ref fa) ⟨[.ref a], []⟩) (fun r s' => r = .ok (.ret (.bool true)) ∧ OldK s0.heap s'.heap ∧ s'.os = s0.os ∧ AllBare s'.gens) s0 := by
    intro G only sq hok one
    have down : ∀ {b : Addr} {o : Obj}, s0.heap.get? b = some o → G b = none → (hidT s0.heap G).get? b = some o := fun {b o} e n => hidT_get e n
    have free : ∀ {b : Addr} {o : Obj} {es : Array DictEntry} {ep : Nat}, s0.heap.get? b = some o → o.data = .dict es ep → G b = none := by
      intro b o es ep e d
      cases q : G b with
      | none => rfl
      | some u =>
        obtain ⟨rfl, _⟩ := one b (by rw [q]; simp)
        rw [at_] at e
        cases e
        cases d
    have names : ∀ {b : Addr} {m : Str → Option Value}, s0.heap.Ns b m → (hidT s0.heap G).Ns b m := by
      rintro b m ⟨o, es, ep, e, d, r⟩
      exact ⟨o, es, ep, down e (free e d), d, r⟩
    have inB : K.In (hidT s0.heap G) := by
      intro b o e
      refine down (inK b o e) ?_
      cases q : G b with
      | none => rfl
      | some u =>
        obtain ⟨rfl, n⟩ := one b (by rw [q]; simp)
        rw [n] at e
        cases e
    obtain ⟨mc, c1, c2⟩ := noL
    have env : Env0 P w K mg (hidT s0.heap G) callerA [] s0 G := ⟨rfl, ⟨inB, names gl, ⟨mb, names bl, bo⟩, ⟨mc, names c1, c2⟩⟩, fun b o e => of_hidT e, Nat.le_of_eq (hidT_size _ _), trivial, fun b hb => absurd (show b ∈ ([] : List Addr) from hb) (by simp), hok, .of_eq gn⟩
    have go := (F _ inB (names gl)).run callerA [] s0 G ⟨[.ref a], []⟩ [.ref a] [.ref a] (fun v _ => v = .bl true) (fun _ _ _ => False) hg hr env (bnd s0 (.ref a)) (.cons rfl .nil) ⟨a, ns, rfl, sq, few, fun _ => rfl⟩
    refine codeAny_mono go (fun r s' h => ?_)
    match r, h with
    | .error e, h => exact False.elim h
    | .ok .next, h => exact False.elim h
    | .ok .brk, h => exact False.elim h
    | .ok .cont, h => exact False.elim h
    | .ok (.ret u), ⟨v, G', o1, o2, un, hok', r', q⟩ =>
      have q : v = V.bl true := q
      subst q
      obtain rfl : u = Value.bool true := r'
      refine And.intro rfl (And.intro (OldK.of_keep fun b o e => ?_) (And.intro o1 o2))
      cases q : G b with
      | none => exact un.keep b o e q (fun z => absurd (show b ∈ ([] : List Addr) from z) (by simp)) (by simp)
      | some u =>
        rcases only b with z | ⟨ob, xs, z⟩
        · rw [q] at z
          cases z
        · have t1 := And.left (hok b _ z)
          have t2 := And.left (hok' b _ (un.frzs b ob _ z))
          rw [e] at t1
          cases t1
          exact t2
  cases hk : K.lookup a with
  | some o =>
    have e := inK a o hk
    rw [at_] at e
    cases e
    exact main (fun _ => none) (fun _ => Or.inl rfl) (Or.inr ⟨_, vs.toArray, _, hk, rfl, rfl, rfl, by rw [List.size_toArray, are.length]; exact small, by simpa using rel⟩) (fun b u z => nomatch (show (none : Option HO) = some u from z)) (fun b z => absurd rfl z)
  | none =>
    have only1 : ∀ b, (if b = a then some (HO.frz { cls := .type "list", data := .seq vs.toArray } (.lst (ns.map V.int))) else none) ≠ none → b = a := by
      intro b z
      by_cases hb : b = a
      · exact hb
      · rw [if_neg hb] at z
        exact absurd rfl z
    refine main (fun b => if b = a then some (.frz { cls := .type "list", data := .seq vs.toArray } (.lst (ns.map V.int))) else none) (fun b => ?_) (Or.inl (Or.inr ⟨_, if_pos rfl⟩)) (fun b u z => ?_) (fun b z => And.intro (only1 b z) hk)
    · by_cases hb : b = a
      · exact Or.inr ⟨_, _, if_pos hb⟩
      · exact Or.inl (if_neg hb)
    · have hb := only1 b (by rw [show (if b = a then some (HO.frz { cls := .type "list", data := .seq vs.toArray } (.lst (ns.map V.int))) else none) = some u from z]; simp)
      subst hb
      have z2 := (if_pos rfl).symm.trans z
      cases z2
      exact And.intro at_ (And.intro (by rw [List.length_map]; exact small) ⟨vs, _, rel, at_⟩)
theorem walkG {l : PySem.W.OpenLaw} {k : Nat} {q : Program} {loose : List Str} {XP : (Str → Option Value) → Heap → Prop} {YP : World → Heap → Prop} {d : DefRec} {K : Params → PySem.W.Frag} (hn : l.most = some 63) (hdf : d.params.defaults = []) (hr : Room k callerA)
    (hY : ∀ (w : World) (h : Heap), YP w h → (K w.params).In h)
    (F : ∀ (w : World) (mg : Str → Option Value) (fa : Addr) (h : Heap), (K w.params).In h → h.Ns mainGlobals mg → mg d.name = some (.ref fa) →
      ∃ fd : FuncData, (∀ (s : Shared) (u : Value), BindsTo s fd ⟨[u], []⟩ [("script", u)]) ∧ ∀ base : Heap, (K w.params).In base → base.Ns mainGlobals mg → FnG l.prog w (K w.params) mg base k fa fd ["script"] (spLaw (K w.params))) :
    PySem.W.WalkO q loose XP YP l.row.toRowW d [] (fun f vs => PySem.call f vs) := by
  refine Att.attach_call hn hdf fun w s₀ s₁ mg mb fa o pm cd doc a vs ns G Y ho hd hcd hmg hobj hints hlen hg => ?_
  obtain ⟨fd, hb, hF⟩ := F w mg fa _ (hY w _ Y) G.T.g hmg
  exact call_law (hY w _ Y) G.T.g G.T.b G.T.builtins G.T.nolimit hg hobj hints (Nat.le_trans hlen (by decide)) hr rfl hF hb hlen
end IC
namespace IC
open PySem L2 TL
/-! ### what is never come to -/
section
variable {X : Cx}
theorem ps_dead {st : Stmt} : PS X st (fun _ _ _ => False) := ⟨fun _ _ _ _ _ _ h => h.elim⟩
theorem pss_dead {ss : List Stmt} : PSs X ss (fun _ _ _ => False) := ⟨fun _ _ _ _ _ _ h => h.elim⟩
theorem pt_dead {e : Expr} : PT X e (fun _ _ _ => False) := ⟨fun _ _ _ _ _ _ h => h.elim⟩
theorem pe_dead {e : Expr} : PE X e (fun _ _ _ => False) := ⟨fun _ _ _ _ _ _ h => h.elim⟩
end
/-! ### methods by their class -/
structure MDf (P : Program) (w : World) (K : PySem.W.Frag) (mg : Str → Option Value) (base : Heap) (CX : CXT) (k : Nat) (C : Addr) (m : Str) (ps : List Str) (dvs : List V) (sp : Sp) : Prop where
  ex : ∃ (f : Addr) (fd : FuncData) (ds : List Value), FnOk P w K mg base CX k f fd ps sp ∧ Meth K C m f ∧ Binds K fd ps ds ∧ Vals dvs ds
/-- o.m(..), what is raised is wished for at the caller's slots -/
def tMethS (C : Addr) (m : Str) (sp : Sp) (dvs : List V) (E : L2.St → XK) (ta : TE) (t : TA) : TE := fun σ H Q => ta σ H fun x H1 => ∃ a dx fs, x = .ref a ∧ H1 a = some (.ins C dx fs) ∧ fs.lookup m = none ∧
  t σ H1 fun vs H2 => sp (x :: (vs ++ dvs)) H2 Q (E σ)
section
variable {X : Cx} {k j : Nat} {C : Addr} {m : Str} {ps : List Str} {dvs : List V} {sp : Sp} {o e : Expr} {es : List Expr} {pos apos : Pos} {ta : TE} {t : TA} {pl : Sem Bool} {W : WX}
theorem pe_md (D : MDf X.prog X.w X.K X.mg X.base CX0 k C m ps dvs sp) (c : Cls X.K C) (hr : Room j X.A) (hk : k ≤ j) (he : PE X o ta) (ha : PA X (e :: es) t)
    (hst : starEach (e :: es) X.env = (false, eval e X.env) :: starEach es X.env := by rfl) (hpl : (backTo pos (starEach es X.env)).any (·.1) = false := by rfl)
    (ht : eval (.Call (.Attribute o m apos) (e :: es) [] pos) X.env = (do
      let ov ← eval o X.env; standAt apos.atName
      let (f, first) ← holding [ov] (getMethod ov m pl); callWith pos f first (backTo pos (starEach (e :: es) X.env)) (backToKw pos (keywordEach [] X.env))) := by rfl) :
    PE X (.Call (.Attribute o m apos) (e :: es) [] pos) (tMeth C m sp dvs E0 ta t) := by
  obtain ⟨f, fd, ds, F, hm, hb, hd⟩ := D.ex
  exact pe_meth he c hm F (hr.mono hk) hb hd pass0 ha hst hpl ht
theorem pe_md0 (D : MDf X.prog X.w X.K X.mg X.base CX0 k C m ps dvs sp) (c : Cls X.K C) (hr : Room j X.A) (hk : k ≤ j) (he : PE X o ta)
    (ht : eval (.Call (.Attribute o m apos) [] [] pos) X.env = (do
      let ov ← eval o X.env; standAt apos.atName
      let (f, first) ← holding [ov] (getMethod ov m pl); callWith pos f first (backTo pos (starEach [] X.env)) (backToKw pos (keywordEach [] X.env))) := by rfl) :
    PE X (.Call (.Attribute o m apos) [] [] pos) (tMeth C m sp dvs E0 ta tNil) := by
  obtain ⟨f, fd, ds, F, hm, hb, hd⟩ := D.ex
  exact pe_meth0 he c hm F (hr.mono hk) hb hd pass0 ht
theorem pe_mdX (D : MDf X.prog X.w X.K X.mg X.base (L2.CX X.prog X.w) k C m ps dvs sp) (c : Cls X.K C) (tk : Takes X W) (hr : Room j X.A) (hk : k ≤ j) (he : PE X o ta) (ha : PA X (e :: es) t)
    (hst : starEach (e :: es) X.env = (false, eval e X.env) :: starEach es X.env := by rfl) (hpl : (backTo pos (starEach es X.env)).any (·.1) = false := by rfl)
    (ht : eval (.Call (.Attribute o m apos) (e :: es) [] pos) X.env = (do
      let ov ← eval o X.env; standAt apos.atName
      let (f, first) ← holding [ov] (getMethod ov m pl); callWith pos f first (backTo pos (starEach (e :: es) X.env)) (backToKw pos (keywordEach [] X.env))) := by rfl) :
    PE X (.Call (.Attribute o m apos) (e :: es) [] pos) (tMethS C m sp dvs (WE W) ta t) := by
  obtain ⟨f, fd, ds, F, hm, hb, hd⟩ := D.ex
  refine ⟨fun pins s σ H Q I h => PySem.W.methodCall_KW (pl := pl) (thn (he.run pins s σ H _ I h) fun u s1 ⟨x, H1, I1, rx, a, dx, fs, ex, ea, l, q⟩ => ?_) ht⟩
  subst ex
  obtain rfl : u = Value.ref a := rx
  refine getmeth_ok I1 ea c hm l (PySem.W.callWith_K (first := [.ref a]) (h₀ := X.base) I1.ok.mod.kin hm.kp (thn (ha.run pos pins s1 σ H1 _ I1 q) fun us s2 ⟨vs, H2, I2, r, q2⟩ => ⟨I2.kIn, ?_⟩) hst hpl)
  exact run_fnSD (us := .ref a :: us) (vs := .ref a :: vs) F (hr.mono hk) hb hd (passAt tk σ) I2 (.cons rfl r) q2
theorem pe_mdX0 (D : MDf X.prog X.w X.K X.mg X.base (L2.CX X.prog X.w) k C m ps dvs sp) (c : Cls X.K C) (tk : Takes X W) (hr : Room j X.A) (hk : k ≤ j) (he : PE X o ta)
    (ht : eval (.Call (.Attribute o m apos) [] [] pos) X.env = (do
      let ov ← eval o X.env; standAt apos.atName
      let (f, first) ← holding [ov] (getMethod ov m pl); callWith pos f first (backTo pos (starEach [] X.env)) (backToKw pos (keywordEach [] X.env))) := by rfl) :
    PE X (.Call (.Attribute o m apos) [] [] pos) (tMethS C m sp dvs (WE W) ta tNil) := by
  obtain ⟨f, fd, ds, F, hm, hb, hd⟩ := D.ex
  refine ⟨fun pins s σ H Q I h => PySem.W.methodCall_KW (pl := pl) (thn (he.run pins s σ H _ I h) fun u s1 ⟨x, H1, I1, rx, a, dx, fs, ex, ea, l, q⟩ => ?_) ht⟩
  subst ex
  obtain rfl : u = Value.ref a := rx
  refine getmeth_ok I1 ea c hm l ?_
  exact PySem.W.callWith_K0 (first := [.ref a]) I1.kIn hm.kp (run_fnSD (us := [.ref a]) (vs := [.ref a]) F (hr.mono hk) hb hd (passAt tk σ) I1 (.cons rfl .nil) q)
end
/-- a property by its class -/
structure PDf (P : Program) (w : World) (K : PySem.W.Frag) (mg : Str → Option Value) (base : Heap) (k : Nat) (C : Addr) (f : Str) (sp : Sp) : Prop where
  ex : ∃ (p g : Addr) (fd : FuncData), PropOf K C f p g ∧ FnOk P w K mg base CX0 k g fd ["self"] sp ∧ Binds K fd ["self"] []
theorem pe_pd {X : Cx} {k j : Nat} {C : Addr} {f : Str} {sp : Sp} {e : Expr} {ta : TE} {pos : Pos} (D : PDf X.prog X.w X.K X.mg X.base k C f sp) (c : Cls X.K C) (hr : Room j X.A) (hk : k + 1 ≤ j) (he : PE X e ta)
    (hab : attributeBase e f X.env (eval e X.env) = eval e X.env := by rfl) : PE X (.Attribute e f pos) (tProp C sp [] E0 ta) := by
  obtain ⟨p, g, fd, hp, F, hb⟩ := D.ex
  exact pe_prop he c hp F (hr.mono hk) hb .nil pass0 hab
/-! ### own errors with fields -/
structure ErrC (K : PySem.W.Frag) (mg : Str → Option Value) (x : Str) (C fI : Addr) : Prop where
  gC : mg x = some (.ref C)
  ox : OexC K C
  xf : XfC K C
  iC : PySem.W.findIn K (.ref C) "__init__" = some (some (.ref fI))
  tI : PySem.W.typeIn K (.ref fI) = some (.type "function")
/-- __init__(self, v): the fields fs v are laid -/
def spErr (C : Addr) (fs : V → List (Str × V)) : Sp := fun vs H Q _ => ∃ (a : Addr) (v : V), vs = [.ref a, v] ∧ H a = some (exo a C none) ∧
  ∀ (d : Addr) (H' : Hp), H d = none → d ≠ a → H' a = some (exo a C (some d)) → H' d = some (exd d (fs v)) → (∀ b, b ≠ a → b ≠ d → H' b = H b) → Q .non H'
structure EDf (P : Program) (w : World) (K : PySem.W.Frag) (mg : Str → Option Value) (base : Heap) (k : Nat) (x : Str) (C : Addr) (p : Str) (fs : V → List (Str × V)) : Prop where
  ex : ∃ (fI : Addr) (fd : FuncData), ErrC K mg x C fI ∧ FnOk P w K mg base CX0 k fI fd ["self", p] (spErr C fs) ∧ Binds K fd ["self", p] []
def tMkE (C : Addr) (fs : V → List (Str × V)) (ta : TA) : L2.St → Hp → XK → Prop := tMkO C (spErr C fs) [] ta
theorem pmk_ed {X : Cx} {k j : Nat} {x q : Str} {C : Addr} {fs : V → List (Str × V)} {e : Expr} {ta : TA} {p pos : Pos} (D : EDf X.prog X.w X.K X.mg X.base k x C q fs) (kC : PySem.W.keepIn X.K (.ref C) = true) (hr : Room j X.A) (hk : k + 1 ≤ j) (hg : Gl X x) (ha : PA X [e] ta)
    (hdb : (x == ("__debug__" : Str)) = false := by decide) (he : starEach [e] X.env = (false, eval e X.env) :: starEach [] X.env := by rfl) (hpl : (backTo pos (starEach [] X.env)).any (·.1) = false := by rfl) :
    PMk X (.Call (.Name x p) [e] [] pos) (tMkE C fs ta) := by
  obtain ⟨fI, fd, T, F, hb⟩ := D.ex
  exact pmk_oex T.ox T.iC T.tI F (hr.mono hk) hb .nil pass0 hg T.gC ha hdb he hpl
theorem upd_del {H1 H2 : Hp} {a d : Addr} {o : HO} (ha : H1 a = none) (e : ∀ b, b ≠ a → b ≠ d → H2 b = H1 b) (hd : d ≠ a) : upd (del H2 a) d o = upd H1 d o := by
  funext b
  by_cases h1 : b = d
  · rw [h1, upd_same, upd_same]
  · rw [upd_ne h1, upd_ne h1]
    by_cases h2 : b = a
    · rw [h2, del_same, ha]
    · rw [del_ne h2]
      exact e b h2 h1
/-- what the making of such an error asks -/
theorem mke {C : Addr} {fs : V → List (Str × V)} {vs : List V} {H1 : Hp} {Q : XK} (v : V) (hv : vs = [v]) (h : ∀ d, H1 d = none → Q (.ref C) (some d) (upd H1 d (.xd (fs v)))) :
    vs.length ≤ 1000 ∧ ∀ a, H1 a = none → spErr C fs (.ref a :: (vs ++ [])) (upd H1 a (exo a C none))
      (fun v H2 => v = .non ∧ ∃ (d : Addr) (fs : List (Str × V)), H2 a = some (exo a C (some d)) ∧ H2 d = some (exd d fs) ∧ H1 d = none ∧ Q (.ref C) (some d) (upd (del H2 a) d (.xd fs))) (fun _ _ _ => False) := by
  subst hv
  refine ⟨by show 1 ≤ 1000; omega, fun a ha => ⟨a, v, rfl, upd_same, fun d H' hd hda e1 e2 e3 => ⟨rfl, d, fs v, e1, e2, ?_, ?_⟩⟩⟩
  · rw [upd_ne hda] at hd
    exact hd
  · rw [upd_ne hda] at hd
    rw [upd_del ha (fun b h1 h2 => by rw [e3 b h1 h2, upd_ne h1]) hda]
    exact h d hd
end IC
namespace IC
open PySem L2 TL PyProof.Rows
/-! ### try: several except clauses, each with a name for the error or without -/
abbrev Cl := Value × Option Nat × (Addr → Value → Option Addr → TS)
/-- the slot i is emptied behind the suite -/
def emptied (i : Nat) (D : Ends) : Ends := { nx := fun τ G => D.nx (τ.set i none) G, rt := D.rt, bk := fun τ G => D.bk (τ.set i none) G, ct := fun τ G => D.ct (τ.set i none) G }
def wCl (K : PySem.W.Frag) (out : WX) (D : Ends) : List Cl → WX
  | [] => out
  | (c, some i, ts) :: r => fun cls d σ H => ∃ b, PySem.W.exmOne K cls c = some b ∧ (b = true → ∀ a, H a = none → ts a cls d (emptied i D) (σ.set i (some (.ref a))) H) ∧ (b = false → wCl K out D r cls d σ H)
  | (c, none, ts) :: r => fun cls d σ H => ∃ b, PySem.W.exmOne K cls c = some b ∧ (b = true → ∀ a, H a = none → ts a cls d D σ H) ∧ (b = false → wCl K out D r cls d σ H)
inductive ClOk (X : Cx) : List ExceptHandler → List Cl → Prop
  | nil : ClOk X [] []
  | nm {x n : Str} {c : Value} {i : Nat} {ts : Addr → Value → Option Addr → TS} {b0 : Stmt} {st : List Stmt} {np pos : Pos} {hs : List ExceptHandler} {l : List Cl} (hi : X.N[i]? = some n) (hl : X.env.kindOf n = some .local) (hc : Names X x c)
      (su : ∀ (a : Addr) (oe : Obj) (cls : Value) (d : Option Addr) (pn : List (Addr × Obj)), Zc cls d oe → (∃ vs, oe.data = .fields vs) → PSs (X.suite a ((a, oe) :: pn)) (b0 :: st) (ts a cls d)) (r : ClOk X hs l) :
      ClOk X (.ExceptHandler (some (.Name x np)) (some n) (b0 :: st) pos :: hs) ((c, some i, ts) :: l)
  | no {x : Str} {c : Value} {ts : Addr → Value → Option Addr → TS} {b0 : Stmt} {st : List Stmt} {np pos : Pos} {hs : List ExceptHandler} {l : List Cl} (hc : Names X x c)
      (su : ∀ (a : Addr) (oe : Obj) (cls : Value) (d : Option Addr) (pn : List (Addr × Obj)), Zc cls d oe → (∃ vs, oe.data = .fields vs) → PSs (X.suite a ((a, oe) :: pn)) (b0 :: st) (ts a cls d)) (r : ClOk X hs l) :
      ClOk X (.ExceptHandler (some (.Name x np)) none (b0 :: st) pos :: hs) ((c, none, ts) :: l)
/-- the name of a clause is asked: its class -/
theorem clause_name {X : Cx} {Y : Cx} {x : Str} {c : Value} {np : Pos} {pins : List (Addr × Obj)} {σ : L2.St} {H : Hp} {s : Shared} {Q E : Value → Shared → Prop} (hc : Names X x c) (J : Inv Y pins σ H s) (e1 : Y.env = X.env) (e2 : Y.mg = X.mg) (q : Q c s) :
    wpAny (model Y.prog Y.w) Y.A (eval (.Name x np) X.env) Q E s := by
  obtain ⟨h1, h2, h3⟩ := hc
  rw [← e1]
  have g : Gl Y x := by unfold Gl at h1 ⊢; rw [e1]; exact h1
  cases h3 with
  | inl h => exact ld_glob J g (by rw [e2]; exact h) q h2
  | inr h => exact ld_blt J g (by rw [e2]; exact And.left h) (And.left (And.right h)) q (And.right (And.right h)) h2
section
variable {X : Cx} {body : List Stmt} {h0 : ExceptHandler} {hs : List ExceptHandler} {l : List Cl} {pos : Pos} {tb : WX → TS} {out : WX}
theorem ps_try_cl (es : X.stack = X.env :: X.outer) (ef : X.env.frame = some X.env.locals) (nd : X.N.Nodup) (tk : Takes X out)
    (hb : ∀ (W : WX) (pn : List (Addr × Obj)) (xe : Value → Shared → Prop), Takes (X.tr pn xe) W → PassesOwn (model X.prog X.w) X.A X.env xe → PSs (X.tr pn xe) body (tb W))
    (hh : ClOk X (h0 :: hs) l) : PS X (.Try body (h0 :: hs) [] [] pos) (fun D σ H => tb (wCl X.K out D l) D σ H) := by
  refine ⟨fun pins s σ H D I h => wpAny_Try_except ?_⟩
  have ok := I.ok
  have fr : X.A.frames = some (X.env :: X.outer) := by rw [ok.frames, es]
  have bod := hb (wCl X.K out D l) (X.pn ++ pins) (fun e s₁ => wpAny (model X.prog X.w) X.A (noteFrame e X.env) (fun _ s₂ => wpAny (model X.prog X.w) X.A (setFlight e none) (fun _ s₃ => wpAny (model X.prog X.w) X.A (handleBy e X.env (h0 :: hs)) (SP X pins D) X.xe s₃) X.xe s₂) X.xe s₁)
  refine wpAny_mono ((bod (fun u s' air => ?_) PassesOwn.looking).run [] s σ H D (I.toTry _) h) (fun f s1 hsp => ?_) (fun _ _ z => z)
  · obtain ⟨a, B, sI, pins', τ, G, cls, d, rfl, J1, nb, up, sky, na, os, ag, wish⟩ := air
    have J : Inv X pins τ G sI := J1.ofTry ok
    rw [show (X.tr (X.pn ++ pins) _).stack = X.env :: X.outer from es] at sky
    refine Sky.land Zc.steady fr ef sky fun h3 fly up3 => ?_
    have J3 : Inv X pins τ G { s' with heap := h3 } := J.landed nb fly.1 (up.trans up3) os ag
    obtain ⟨oe, fv, at3, zc3, fd3⟩ := fly.there
    have off : a ∉ frs (X.env :: X.outer) := fun hm => by
      obtain ⟨_, o, e, nf⟩ := fly.2.2.1.mem hm
      rw [at3] at e
      cases e
      exact nf _ fd3
    have nL : a ≠ X.env.locals := fun z => off (List.mem_filterMap.mpr ⟨X.env, List.mem_cons_self, by rw [ef, z]⟩)
    have nF : a ∉ X.fs := fun hm => by
      obtain ⟨e, he, q⟩ := List.mem_filterMap.mp hm
      exact off (List.mem_filterMap.mpr ⟨e, List.mem_cons_of_mem _ he, q⟩)
    have typ : PySem.W.Looks (model X.prog X.w) h3 (typeOf (.ref a)) cls := fun A Q E s k q => wpAny_typeOf_ref (k _ _ at3) (by rw [And.left zc3]; exact q)
    have su0 := J3.suite at3 fd3 na nL nF
    have all : ∀ {hs' : List ExceptHandler} {l' : List Cl}, ClOk X hs' l' → wCl X.K out D l' cls d τ G → wpAny (model X.prog X.w) X.A (handleBy (.ref a) X.env hs') (SP X pins D) X.xe { s' with heap := h3 } := by
      intro hs' l' ck
      induction ck with
      | nil =>
        intro w
        obtain ⟨k1, k2, k3, oo, ov, T, oT, ts', e1, e2, e3, e4, e5⟩ := id fly
        refine wpAny_handleBy_nil ?_
        unfold PySem.passOn
        refine wpAny_bind (wpAny_field e1 e3 e4 ?_)
        rw [if_neg (show ¬ ((Value.ref T == Value.none) = true) from by simp)]
        have go : wpAny (model X.prog X.w) X.A (setFlight (.ref a) X.env.frame) (fun _ s4 => wpAny (model X.prog X.w) X.A (throw (.ref a) : Sem Flow) (SP X pins D) X.xe s4) X.xe { s' with heap := h3 } := by
          rw [ef]
          exact HandSPX.setFlight_upZ fly fun h4 held up4 => wpAny_throw (tk _ _ ⟨a, B, sI, pins, τ, G, cls, d, rfl, J, nb, (up.trans up3).trans up4, Or.inr (Or.inr (by rw [es]; exact held)), na, os, ag, w⟩)
        first
          | exact wpAny_bind (wpAny_pure (wpAny_bind go))
          | exact wpAny_bind go
      | @nm x n c i ts b0 st np pos hs2 l2 hi hl hc su r ih =>
        rintro ⟨b, hb1, yes, no⟩
        refine wpAny_handleBy_cons (codeAny_handlers_test ?_) (by intro q; cases q)
        refine clause_name (Y := X.suite a ((a, oe) :: (X.pn ++ pins))) hc su0 rfl rfl ((PySem.W.exm_one (M := model X.prog X.w) J3.kIn typ hb1).here ?_)
        match b, yes, no with
        | false, _, no => exact ih (no rfl)
        | true, yes, _ =>
          refine codeAny_handlers_suite_as (HandSPX.lands_againZ fly fun h4 fly4 up4 => ?_)
          obtain ⟨o4, v4, at4, zc4, fd4⟩ := fly4.there
          have su4 := (J.landed (s' := { s' with heap := h4 }) nb fly4.1 ((up.trans up3).trans up4) os ag).suite at4 fd4 na nL nF
          refine store_ok (X := X.suite a ((a, o4) :: (X.pn ++ pins))) (v := .ref a) su4 nd hi (Or.inl hl) rfl (fun s5 S5 => ?_) (Or.inr hl)
          refine wpAny_mono ((su a o4 cls d (X.pn ++ pins) zc4 ⟨_, fd4⟩).run [] s5 _ G _ S5 (yes rfl a na)) (fun f s6 fin => ?_) (fun _ _ z => z.elim)
          cases f with
          | next =>
            obtain ⟨τ6, G6, S6, q6⟩ := fin
            exact gone_ok (S6.unsuite ok) nd hi hl fun s7 J7 => ⟨_, _, J7, q6⟩
          | brk =>
            obtain ⟨τ6, G6, S6, q6⟩ := fin
            exact gone_ok (S6.unsuite ok) nd hi hl fun s7 J7 => ⟨_, _, J7, q6⟩
          | cont =>
            obtain ⟨τ6, G6, S6, q6⟩ := fin
            exact gone_ok (S6.unsuite ok) nd hi hl fun s7 J7 => ⟨_, _, J7, q6⟩
          | ret u =>
            obtain ⟨v6, τ6, G6, S6, r6, q6⟩ := fin
            exact gone_ok (S6.unsuite ok) nd hi hl fun s7 J7 => ⟨_, _, _, J7, r6, q6⟩
      | @no x c ts b0 st np pos hs2 l2 hc su r ih =>
        rintro ⟨b, hb1, yes, no⟩
        refine wpAny_handleBy_cons (codeAny_handlers_test ?_) (by intro q; cases q)
        refine clause_name (Y := X.suite a ((a, oe) :: (X.pn ++ pins))) hc su0 rfl rfl ((PySem.W.exm_one (M := model X.prog X.w) J3.kIn typ hb1).here ?_)
        match b, yes, no with
        | false, _, no => exact ih (no rfl)
        | true, yes, _ =>
          refine codeAny_handlers_suite (HandSPX.lands_againZ fly fun h4 fly4 up4 => ?_)
          obtain ⟨o4, v4, at4, zc4, fd4⟩ := fly4.there
          have su4 := (J.landed (s' := { s' with heap := h4 }) nb fly4.1 ((up.trans up3).trans up4) os ag).suite at4 fd4 na nL nF
          refine wpAny_mono ((su a o4 cls d (X.pn ++ pins) zc4 ⟨_, fd4⟩).run [] _ _ G _ su4 (yes rfl a na)) (fun f s6 fin => ?_) (fun _ _ z => z.elim)
          cases f with
          | next =>
            obtain ⟨τ6, G6, S6, q6⟩ := fin
            exact Exists.intro τ6 (Exists.intro G6 (And.intro (S6.unsuite ok) q6))
          | brk =>
            obtain ⟨τ6, G6, S6, q6⟩ := fin
            exact Exists.intro τ6 (Exists.intro G6 (And.intro (S6.unsuite ok) q6))
          | cont =>
            obtain ⟨τ6, G6, S6, q6⟩ := fin
            exact Exists.intro τ6 (Exists.intro G6 (And.intro (S6.unsuite ok) q6))
          | ret u =>
            obtain ⟨v6, τ6, G6, S6, r6, q6⟩ := fin
            exact Exists.intro v6 (Exists.intro τ6 (Exists.intro G6 (And.intro (S6.unsuite ok) (And.intro r6 q6))))
    exact all hh wish
  · cases f with
    | next =>
      obtain ⟨τ, G, J, q⟩ := hsp
      exact wpAny_execs_nil (Exists.intro τ (Exists.intro G (And.intro (J.ofTry ok) q)))
    | brk =>
      obtain ⟨τ, G, J, q⟩ := hsp
      exact Exists.intro τ (Exists.intro G (And.intro (J.ofTry ok) q))
    | cont =>
      obtain ⟨τ, G, J, q⟩ := hsp
      exact Exists.intro τ (Exists.intro G (And.intro (J.ofTry ok) q))
    | ret u =>
      obtain ⟨v, τ, G, J, r, q⟩ := hsp
      exact Exists.intro v (Exists.intro τ (Exists.intro G (And.intro (J.ofTry ok) (And.intro r q))))
end
end IC
namespace IC
open PySem PySem.Spec PyProof.Rows L2
/-! ### sets of texts that can be walked -/
def tk (e : Int × Value) : Str := match e.2 with
  | .str z _ => z
  | _ => Str.empty
def TxE (w : World) (e : Int × Value) : Prop := ∃ z k, e.2 = Value.str z k ∧ e.1 = hashStr w z
/-- at a a set of the texts L, none of them twice -/
def TxS (w : World) (h : Heap) (a : Addr) (L : List Str) : Prop :=
  ∃ o es ep t, h.get? a = some o ∧ o.ExactSet ∧ o.data = .set es ep t ∧ (∀ e ∈ es.toList, TxE w e) ∧ (es.toList.map tk).Perm L ∧ L.Nodup ∧ es.size < scanBound ∧ t.fits es.size = true ∧ Ris t.place.toList ∧ (w.params.followText "set-order" = true ∨ t.led = true)
section
variable {P : Program} {w : World} {h h' : Heap} {a : Addr} {L M : List Str}
theorem TxS.keep (R : TxS w h a L) (k : ∀ o, h.get? a = some o → h'.get? a = some o) : TxS w h' a L := by
  rcases R with ⟨o, es, ep, t, at_, r⟩
  exact ⟨o, es, ep, t, k o at_, r⟩
theorem TxS.perm (R : TxS w h a L) (p : L.Perm M) : TxS w h a M := by
  rcases R with ⟨o, es, ep, t, r1, r2, r3, r4, r5, r6, r7⟩
  exact ⟨o, es, ep, t, r1, r2, r3, r4, r5.trans p, p.nodup_iff.mp r6, r7⟩
theorem tx_elems {l : List (Int × Value)} (g : ∀ e ∈ l, TxE w e) : ElemsOf (PySem.strKind P w) l := fun e he => by
  rcases g e he with ⟨z, k, e1, e2⟩
  refine ⟨⟨z, ?_, e2⟩, ?_⟩
  · rw [e1]
    exact strKind_is P w z k
  · rw [e1]
    rfl
theorem tx_is {e : Int × Value} (g : TxE w e) (z : Str) : (PySem.strKind P w).is z e.2 = true ↔ tk e = z := by
  rcases g with ⟨y, k, e1, _⟩
  unfold tk
  rw [e1]
  show ((y == z) = true) ↔ y = z
  exact beq_iff_eq
end
section
variable {P : Program} {w : World} {A : Around} {E : Value → Shared → Prop} {s : Shared} {a : Addr} {L : List Str}
/-- the table is stored, and laid anew where it is too full -/
theorem tx_store {say : Bool → Sem Unit} (quiet : ∀ (b : Bool) (u : Shared) (R : Unit → Shared → Prop), R () u → wpAny (model P w) A (say b) R E u) {o : Obj} {es es1 : Array (Int × Value)} {ep : Nat} {t t1 : SetTable} (at_ : s.heap.get? a = some o) (ex : o.ExactSet) (dt : o.data = .set es ep t)
    (g : ∀ e ∈ es1.toList, TxE w e) (pm : (es1.toList.map tk).Perm L) (nd : L.Nodup) (few : es1.size < scanBound) (fit : t1.fits es1.size = true) (ris : Ris t1.place.toList) (led : w.params.followText "set-order" = true ∨ t1.led = true) {dummy : Bool} {R : Option Bool → Shared → Prop}
    (fin : ∀ h', Heap.SameBut a s.heap h' → TxS w h' a L → R (some true) { s with heap := h' }) :
    wpAny (model P w) A (do
      storeSet a es1 t1
      if (!dummy && t1.tooFull) = true then do
        say (relayAll t1 es1 (SetTable.grown es1.size)).2.2
        storeSet a (relayAll t1 es1 (SetTable.grown es1.size)).1 (relayAll t1 es1 (SetTable.grown es1.size)).2.1
        pure (some true)
      else pure (some true)) R E s := by
  have at1 := store_at (es' := es1) (t' := t1) at_ dt
  have sb := Heap.SameBut.update s.heap a (Obj.putSet es1 t1)
  refine wpAny_bind (wpAny_storeSet_of at_ dt ?_ (fits_of_scanBound few))
  by_cases full : (!dummy && t1.tooFull) = true
  · rw [if_pos full]
    have q1 := relayAll_perm t1 es1 (SetTable.grown es1.size)
    have q2 := relayAll_fits t1 es1 (SetTable.grown es1.size)
    have q3 := relayAll_ris t1 es1 (SetTable.grown es1.size)
    have q4 := relayAll_led t1 es1 (SetTable.grown es1.size)
    generalize relayAll t1 es1 (SetTable.grown es1.size) = Z at q1 q2 q3 q4 ⊢
    rcases Z with ⟨es2, t2, way⟩
    have size : es2.size = es1.size := by rw [← Array.length_toList, ← Array.length_toList]; exact q1.length_eq
    have few2 : es2.size < scanBound := by rw [size]; exact few
    refine wpAny_bind (quiet _ _ _ (wpAny_bind (wpAny_storeSet_of at1 rfl ?_ (fits_of_scanBound few2))))
    refine wpAny_pure (fin _ (sb.trans (Heap.SameBut.update _ a _)) ⟨_, es2, _, t2, store_at (es' := es2) (t' := t2) at1 rfl, ex, rfl, fun e he => g e (q1.mem_iff.mp he), (q1.map tk).trans pm, nd, few2, q2, q3, led.imp id fun z => ?_⟩)
    exact Eq.trans q4 z
  · rw [if_neg full]
    exact wpAny_pure (fin _ sb ⟨_, es1, _, t1, at1, ex, rfl, g, pm, nd, few, fit, ris, led⟩)
/-- z is added: the members are those of L, and z -/
theorem tx_add {z : Str} {k : Tok} {Q : Bool → Shared → Prop} (R : TxS w s.heap a L) (room : L.length + 1 < scanBound)
    (fin : ∀ h' b M, Heap.SameBut a s.heap h' → TxS w h' a M → M.length ≤ L.length + 1 → (∀ y, y ∈ M ↔ y ∈ L ∨ y = z) → Q b { s with heap := h' }) :
    wpAny (model P w) A (setAddHashed a (.str z k) ((PySem.strKind P w).hash z)) Q E s := by
  rcases R with ⟨o, es, ep, t, at_, ex, dt, g, pm, nd, few, fit, ris, led⟩
  have mine : (PySem.strKind P w).is z (.str z k) = true := strKind_is P w z k
  have scan : (Value.str z k).scannable = true := rfl
  have els : ElemsOf (PySem.strKind P w) es.toList := tx_elems g
  have size : es.size = L.length := by
    rw [← Array.length_toList, ← pm.length_eq, List.length_map]
  unfold setAddHashed setAddHashedIn
  refine wpAny_holding (wpAny_bind (wpAny_setState_of at_ dt fit ?_))
  dsimp only
  rw [byScan_of scan few els, if_pos rfl]
  unfold setAddByScan
  refine wpAny_bind (wpAny_bind (wpAny_rule (wpAny_bind (wpAny_setScan_of mine at_ dt fit els ?_))))
  cases find : List.findIdx? (fun e => (PySem.strKind P w).is z e.2) es.toList with
  | some j =>
    rcases List.findIdx?_eq_some_iff_getElem.mp find with ⟨hj, pj, _⟩
    have there : z ∈ L := pm.mem_iff.mp (List.mem_map.mpr ⟨es.toList[j], List.getElem_mem hj, (tx_is (P := P) (g _ (List.getElem_mem hj)) z).mp pj⟩)
    dsimp only
    refine wpAny_pure (wpAny_pure (fin s.heap _ L (Heap.SameBut.refl a s.heap) ⟨o, es, ep, t, at_, ex, dt, g, pm, nd, few, fit, ris, led⟩ (Nat.le_succ _) fun y => ⟨.inl, fun q => q.elim id fun e => e ▸ there⟩))
  | none =>
    have new : z ∉ L := fun q => by
      rcases List.mem_map.mp (pm.mem_iff.mpr q) with ⟨e, he, q2⟩
      have c := List.findIdx?_eq_none_iff.mp find e he
      rw [(tx_is (P := P) (g e he) z).mpr q2] at c
      cases c
    dsimp only
    have q1 := layNew_perm t es ((PySem.strKind P w).hash z) (.str z k)
    have q2 := layNew_fits t es ((PySem.strKind P w).hash z) (.str z k)
    have q3 := layNew_ris t es ((PySem.strKind P w).hash z) (.str z k) ris
    have q4 := layNew_led t es ((PySem.strKind P w).hash z) (.str z k)
    generalize layNew t es ((PySem.strKind P w).hash z) (.str z k) = Z at q1 q2 q3 q4 ⊢
    rcases Z with ⟨es1, t1, dummy, way⟩
    dsimp only at q1 q2 q3 q4 ⊢
    rw [Array.toList_push] at q1
    have pc : es1.toList.Perm (((PySem.strKind P w).hash z, Value.str z k) :: es.toList) := q1.trans (List.perm_append_singleton _ _)
    have pk : (es1.toList.map tk).Perm (z :: L) := (pc.map tk).trans (pm.cons z)
    have g1 : ∀ e ∈ es1.toList, TxE w e := fun e he => by
      rcases List.mem_cons.mp (pc.mem_iff.mp he) with y | y
      · rw [y]
        exact ⟨z, k, rfl, rfl⟩
      · exact g e y
    have few1 : es1.size < scanBound := by
      have e := pk.length_eq
      rw [List.length_map, Array.length_toList, List.length_cons] at e
      omega
    have led1 : w.params.followText "set-order" = true ∨ t1.led = true := led.imp id fun y => Eq.trans q4 y
    have out : ∀ h', Heap.SameBut a s.heap h' → TxS w h' a (z :: L) → Q true { s with heap := h' } := fun h' sb r => fin h' _ _ sb r (Nat.le_refl _) fun y => by
      rw [List.mem_cons]
      exact Or.comm
    have says : ∀ (b : Bool) (u : Shared) (R : Unit → Shared → Prop), R () u → wpAny (model P w) A (match b with | true => rule "set.scan.the-table-gave-way" | false => pure ()) R E u := fun b u R r => by
      cases b
      · exact wpAny_pure r
      · exact wpAny_rule r
    refine wpAny_bind (says _ _ _ ?_)
    split
    · refine wpAny_bind ?_
      rw [hashByValue_scannable 8 scan]
      refine wpAny_pure ?_
      refine tx_store says at_ ex dt g1 pk (List.nodup_cons.mpr ⟨new, nd⟩) few1 ?_ ?_ ?_ fun h' sb r => ?_
      · first | exact q2 | (split <;> first | exact q2 | exact SetTable.fits_plain_off q2)
      · first | exact q3 | (split <;> exact q3)
      · first | exact led1 | (split <;> exact led1)
      · exact wpAny_pure (out h' sb r)
    · refine wpAny_bind (wpAny_pure ?_)
      rw [if_pos rfl]
      refine tx_store says at_ ex dt g1 pk (List.nodup_cons.mpr ⟨new, nd⟩) few1 q2 q3 led1 fun h' sb r => ?_
      exact wpAny_pure (out h' sb r)
end
end IC
namespace IC
open PySem PySem.Spec PyProof.Rows L2
def new0 (w : World) : Obj := { cls := .type "set", dict := none, data := .set #[] 0 (.fresh 0 0 (!w.params.followText "set-order")) }
theorem tx_new {w : World} {h : Heap} {a : Addr} (e : h.get? a = some (new0 w)) : TxS w h a [] := by
  refine ⟨_, #[], 0, _, e, ⟨rfl, rfl, rfl⟩, rfl, fun e he => by simp at he, by simp, by simp, by decide, by rfl, List.Pairwise.nil, ?_⟩
  show _ ∨ (!w.params.followText "set-order") = true
  cases w.params.followText "set-order" <;> simp
theorem txs_at {us : List Value} {xs : List Str} (h : StrsAre us xs) : ∀ (i : Nat) (v : Value), us[i]? = some v → ∃ t, v = .str (xs.getD i Str.empty) t := by
  induction h with
  | nil => exact fun i v e => by simp at e
  | cons z t _ ih =>
    intro i v e
    cases i with
    | zero =>
      injection e with e
      exact ⟨t, e.symm⟩
    | succ j => exact ih j v e
section
variable {P : Program} {w : World} {A : Around}
/-- the loop that puts the texts xs into the set at S -/
theorem set_loop {I : Addr} {fp wr : List Addr} {G : Array GenState → Array GenState → Prop} {n : Nat} {Pv : Nat → Value → Prop} {St : Nat → Shared → Prop} {R : Result → Shared → Prop} (W : WalksS P w A.in1 I fp wr G n Pv St) (S : Addr) (out : S ∉ fp) (xs : List Str) (many : xs.length = n) (few : xs.length + 1 < scanBound)
    (val : ∀ i v, Pv i v → ∃ t, v = .str (xs.getD i Str.empty) t) (h0 : Heap) (new : ∀ b ∈ S :: wr, h0.get? b = none) : ∀ (k i : Nat) (s : Shared), n - i = k → i ≤ n → St i s →
      (∃ M, TxS w s.heap S M ∧ M.length ≤ i ∧ ∀ z, z ∈ M ↔ z ∈ xs.take i) → (∀ b o, h0.get? b = some o → s.heap.get? b = some o) →
      (∀ t M, Moved (S :: wr) G s t → TxS w t.heap S M → M.length ≤ n → (∀ z, z ∈ M ↔ z ∈ xs.take n) → (∀ b o, h0.get? b = some o → t.heap.get? b = some o) → R (.ok (.ret .none)) t) →
      codeAny (model P w) A (.builtin "set.update.loop" ⟨[.ref S, .ref I], []⟩) R s := by
  have nw : S ∉ wr := fun h => out (W.sub _ h)
  have up : ∀ b ∈ wr, b ∈ S :: wr := fun b hb => List.mem_cons_of_mem _ hb
  intro k
  induction k with
  | zero =>
    rintro i s hk hi st ⟨M, RM, len, mem⟩ old fin
    obtain rfl : i = n := by omega
    refine codeAny_builtin F.entry_set_update_loop ?_
    rw [Around.under_plainId F.plain_set_update_loop _]
    show wpAny _ A.in1 (pyNext (.ref I) >>= _) _ _ s
    refine wpAny_bind (W.done s _ _ st fun t mv => ?_)
    show wpAny _ A.in1 (ret Value.none) _ _ t
    exact wpAny_pure (fin t M (mv.mono up) (RM.keep fun o e => mv.heap S o nw e) len mem fun b o e => mv.heap b o (fun hb => by rw [new b (up b hb)] at e; cases e) (old b o e))
  | succ k ih =>
    rintro i s hk hi st ⟨M, RM, len, mem⟩ old fin
    have lt : i < n := by omega
    refine codeAny_builtin F.entry_set_update_loop ?_
    rw [Around.under_plainId F.plain_set_update_loop _]
    show wpAny _ A.in1 (pyNext (.ref I) >>= _) _ _ s
    refine wpAny_bind (W.item i s _ _ lt st fun v t hv st1 mv => ?_)
    rcases val i v hv with ⟨tok, rfl⟩
    have RM1 : TxS w t.heap S M := RM.keep fun o e => mv.heap S o nw e
    show wpAny _ A.in1 (holding [Value.str (xs.getD i Str.empty) tok] (setAdd S (.str (xs.getD i Str.empty) tok)) >>= _) _ _ t
    refine wpAny_bind (wpAny_holding ?_)
    unfold setAdd
    refine wpAny_holding (wpAny_bind ((PySem.strKind P w).pyHash (k := xs.getD i Str.empty) (strKind_is P w _ _) ?_))
    refine tx_add (s := { t with toks := t.toks + 1 }) RM1 (by omega) fun h' b M' sb R2 len2 mem2 => ?_
    have hx : xs[i]? = some (xs.getD i Str.empty) := by
      have hi2 : i < xs.length := by omega
      rw [List.getD_eq_getElem?_getD, List.getElem?_eq_getElem hi2]
      rfl
    refine wpAny_pure ⟨plainId_quiet F.plain_set_update_loop _, ih (i + 1) _ (by omega) lt (W.frame _ t _ _ st1 (Nat.le_succ _) fun b hb o e => ?_) ⟨M', R2, by omega, fun z => ?_⟩ (fun b o e => ?_) fun t2 M2 mv2 R3 l3 m3 old3 => ?_⟩
    · rw [sb.2 b fun e1 => out (e1 ▸ hb)]
      exact e
    · rw [mem2 z, mem z, List.take_add_one, hx]
      simp
    · have ne : b ≠ S := fun e1 => by
        rw [e1, new S List.mem_cons_self] at e
        cases e
      rw [sb.2 b ne]
      exact mv.heap b o (fun hb => by rw [new b (up b hb)] at e; cases e) (old b o e)
    · refine fin t2 M2 (Moved.trans W.gtrans ((mv.mono up).then_heap (Nat.le_succ _) fun b o hb e => ?_) mv2) R3 l3 m3 old3
      rw [sb.2 b fun e1 => hb (by rw [e1]; exact List.mem_cons_self)]
      exact e
end
section
variable {P : Program} {w : World} {A : Around} {E : Value → Shared → Prop} {s : Shared}
set_option maxHeartbeats 8000000 in
theorem call_set_lst {l : Addr} {items : Array Value} {xs : List Str} {Q : Value → Shared → Prop} (calm : A.handled = none) (isl : s.heap.IsList l items) (are : StrsAre items.toList xs) (few : xs.length + 1 < scanBound)
    (fin : ∀ (h' : Heap) (tk : Nat) (M : List Str), TxS w h' s.heap.objs.size M → M.length ≤ xs.length → (∀ z, z ∈ M ↔ z ∈ xs) → (∀ b o, s.heap.get? b = some o → h'.get? b = some o) → Q (.ref s.heap.objs.size) { s with heap := h', toks := tk }) :
    wpAny (model P w) A (call (.type "set") [.ref l]) Q E s := by
  have many : xs.length = items.size := by rw [← StrsAre.len_eq are, Array.length_toList]
  rcases F.called_set.mro with ⟨_, _, mro⟩
  have made := F.called_set.made
  have sub := F.called_set.sub
  refine wpAny_call (codeAny_of_tree ?_)
  show wpAny _ _ (callAny (.type "set") _) _ _ _
  refine wpAny_pure ⟨Code.quiet_builtin _ (by decide +kernel), codeAny_builtin F.entry_type_call ?_⟩
  rw [Around.under_plain (weight_type_call_type "set" [.ref l] []) rfl]
  have noT := F.called_set.notType
  have can := F.called_set.canCreate
  have one := F.typeCall_set_1 (.ref l)
  repeat (any_goals (first | assumption | wp_step))
  refine codeAny_mono (code_set_led1 (.ref l) (E := E) (Q₁ := fun v t => v = .ref s.heap.objs.size ∧ t = { s with heap := s.heap.push (new0 w) }) ⟨rfl, rfl⟩) fun r t made1 => ?_
  cases r with
  | error e => exact made1
  | ok fl =>
    cases fl with
    | next => exact made1.elim
    | brk => exact made1.elim
    | cont => exact made1.elim
    | ret v =>
    rcases made1 with ⟨rfl, rfl⟩
    have at_ : (s.heap.push (new0 w)).get? s.heap.objs.size = some (new0 w) := Heap.get?_push_size _ rfl
    have isT : Shared.TypeIs { s with heap := s.heap.push (new0 w) } (.ref s.heap.objs.size) "set" := ⟨_, at_, rfl⟩
    have look := F.called_set.init.lookup
    have bind := F.called_set.init.bind (.ref s.heap.objs.size)
    repeat (any_goals (first | assumption | wp_step))
    refine codeAny_mono (codeAny_call_builtin (R := wants (fun r t => r = .none ∧ ∃ h' tk M, t = { s with heap := h', toks := tk } ∧ TxS w h' s.heap.objs.size M ∧ M.length ≤ xs.length ∧ (∀ z, z ∈ M ↔ z ∈ xs) ∧ ∀ b o, s.heap.get? b = some o → h'.get? b = some o) E)
      F.called_set.init.plain F.entry_set_init (check_set_init_1 isT ?_)) fun r2 t2 filled => ?_
    · rcases isl with ⟨⟨kl, dl, xl, sl⟩, atl, rfl, nl, dt⟩
      have dt : xl = .seq items nl := dt
      subst dt
      have atl1 : (s.heap.push (new0 w)).get? l = some _ := Heap.get?_push_of_some _ atl
      have no1 := F.sub_list_set
      have no2 := F.sub_list_frozenset
      have no3 : (Value.type "list" == Value.type "dict") = false := by decide
      have isl1 : (s.heap.push (new0 w)).IsList l items := ⟨_, atl1, rfl, nl, rfl⟩
      unfold Builtin.«set.__init__» noKeywords Builtin.Frozenset.updateFrom
      generalize it : pyIter = IT
      wp_walk
      subst it
      refine wpAny_pyIter_list isl1 (wpAny_bind (wpAny_runValue ?_))
      have size : (s.heap.push (new0 w)).objs.size = s.heap.objs.size + 1 := Heap.size_push ..
      have ltl : l < s.heap.objs.size := Heap.lt_size atl
      have calm3 : A.in1.in1.in1.handled = none := calm
      have neI : l ≠ (s.heap.push (new0 w)).objs.size := fun e => by
        rw [e, size] at ltl
        exact absurd ltl (Nat.not_lt.mpr (Nat.le_succ _))
      refine set_loop ((Walks.list calm3 _ l neI items).toS) s.heap.objs.size ?_ xs many few (fun i v hv => txs_at are i v (by rw [Array.getElem?_toList]; exact hv)) s.heap ?_ (items.size - 0) 0 _ (by omega) (Nat.zero_le _)
        ⟨⟨_, Heap.get?_push_size _ rfl, rfl, rfl⟩, isl1.push _⟩ ⟨[], tx_new (Heap.get?_push_of_some _ at_), Nat.le_refl _, fun z => by simp⟩ (fun b o e => Heap.get?_push_of_some _ (Heap.get?_push_of_some _ e)) fun t3 M mv R len mem old => ?_
      · rw [size]
        simp only [List.mem_cons, List.not_mem_nil, or_false, not_or]
        exact ⟨Nat.ne_of_lt (Nat.lt_succ_self _), fun e => Nat.lt_irrefl _ (e ▸ ltl)⟩
      · intro b hb
        rw [size] at hb
        have lt : s.heap.objs.size ≤ b := by
          simp only [List.mem_cons, List.not_mem_nil, or_false] at hb
          rcases hb with e | e
          · rw [e]
            exact Nat.le_refl _
          · rw [e]
            exact Nat.le_succ _
        cases e : s.heap.get? b with
        | none => rfl
        | some o => exact absurd (Heap.lt_size e) (Nat.not_lt.mpr lt)
      · rcases t3 with ⟨h3, g3, d3, k3, o3⟩
        have e1 : g3 = s.gens := mv.gens
        have e2 : d3 = s.drawn := mv.drawn
        have e3 : o3 = s.os := mv.os
        subst e1
        subst e2
        subst e3
        show wpAny _ _ _ _ _ _
        refine wpAny_pure ?_
        show wpAny _ _ (ret Value.none) _ _ _
        rw [← many] at len
        refine wpAny_pure ⟨rfl, h3, k3, M, rfl, R, len, fun z => ?_, old⟩
        rw [mem z, ← many, List.take_length]
    · cases r2 with
      | error e => exact filled
      | ok fl2 =>
        cases fl2 with
        | next => exact filled.elim
        | brk => exact filled.elim
        | cont => exact filled.elim
        | ret v =>
        rcases filled with ⟨rfl, h', tk, M, rfl, R, len, mem, old⟩
        repeat (any_goals (first | assumption | wp_step))
        exact fin h' tk M R len mem old
set_option maxHeartbeats 8000000 in
theorem call_set_tup {l : Addr} {items : Array Value} {xs : List Str} {Q : Value → Shared → Prop} (calm : A.handled = none) (isl : s.heap.IsTuple l items) (are : StrsAre items.toList xs) (few : xs.length + 1 < scanBound)
    (fin : ∀ (h' : Heap) (tk : Nat) (M : List Str), TxS w h' s.heap.objs.size M → M.length ≤ xs.length → (∀ z, z ∈ M ↔ z ∈ xs) → (∀ b o, s.heap.get? b = some o → h'.get? b = some o) → Q (.ref s.heap.objs.size) { s with heap := h', toks := tk }) :
    wpAny (model P w) A (call (.type "set") [.ref l]) Q E s := by
  have many : xs.length = items.size := by rw [← StrsAre.len_eq are, Array.length_toList]
  rcases F.called_set.mro with ⟨_, _, mro⟩
  have made := F.called_set.made
  have sub := F.called_set.sub
  refine wpAny_call (codeAny_of_tree ?_)
  show wpAny _ _ (callAny (.type "set") _) _ _ _
  refine wpAny_pure ⟨Code.quiet_builtin _ (by decide +kernel), codeAny_builtin F.entry_type_call ?_⟩
  rw [Around.under_plain (weight_type_call_type "set" [.ref l] []) rfl]
  have noT := F.called_set.notType
  have can := F.called_set.canCreate
  have one := F.typeCall_set_1 (.ref l)
  repeat (any_goals (first | assumption | wp_step))
  refine codeAny_mono (code_set_led1 (.ref l) (E := E) (Q₁ := fun v t => v = .ref s.heap.objs.size ∧ t = { s with heap := s.heap.push (new0 w) }) ⟨rfl, rfl⟩) fun r t made1 => ?_
  cases r with
  | error e => exact made1
  | ok fl =>
    cases fl with
    | next => exact made1.elim
    | brk => exact made1.elim
    | cont => exact made1.elim
    | ret v =>
    rcases made1 with ⟨rfl, rfl⟩
    have at_ : (s.heap.push (new0 w)).get? s.heap.objs.size = some (new0 w) := Heap.get?_push_size _ rfl
    have isT : Shared.TypeIs { s with heap := s.heap.push (new0 w) } (.ref s.heap.objs.size) "set" := ⟨_, at_, rfl⟩
    have look := F.called_set.init.lookup
    have bind := F.called_set.init.bind (.ref s.heap.objs.size)
    repeat (any_goals (first | assumption | wp_step))
    refine codeAny_mono (codeAny_call_builtin (R := wants (fun r t => r = .none ∧ ∃ h' tk M, t = { s with heap := h', toks := tk } ∧ TxS w h' s.heap.objs.size M ∧ M.length ≤ xs.length ∧ (∀ z, z ∈ M ↔ z ∈ xs) ∧ ∀ b o, s.heap.get? b = some o → h'.get? b = some o) E)
      F.called_set.init.plain F.entry_set_init (check_set_init_1 isT ?_)) fun r2 t2 filled => ?_
    · rcases isl with ⟨⟨kl, dl, xl, sl⟩, atl, rfl, nl, dt⟩
      have dt : xl = .seq items nl := dt
      subst dt
      have atl1 : (s.heap.push (new0 w)).get? l = some _ := Heap.get?_push_of_some _ atl
      have no1 := F.sub_tuple_set
      have no2 := F.sub_tuple_frozenset
      have no3 : (Value.type "tuple" == Value.type "dict") = false := by decide
      have isl1 : (s.heap.push (new0 w)).IsTuple l items := ⟨_, atl1, rfl, nl, rfl⟩
      unfold Builtin.«set.__init__» noKeywords Builtin.Frozenset.updateFrom
      generalize it : pyIter = IT
      wp_walk
      subst it
      refine wpAny_pyIter_tuple isl1 (wpAny_bind (wpAny_runValue ?_))
      have size : (s.heap.push (new0 w)).objs.size = s.heap.objs.size + 1 := Heap.size_push ..
      have ltl : l < s.heap.objs.size := Heap.lt_size atl
      have calm3 : A.in1.in1.in1.handled = none := calm
      have neI : l ≠ (s.heap.push (new0 w)).objs.size := fun e => by
        rw [e, size] at ltl
        exact absurd ltl (Nat.not_lt.mpr (Nat.le_succ _))
      refine set_loop ((Walks.tuple calm3 _ l neI items).toS) s.heap.objs.size ?_ xs many few (fun i v hv => txs_at are i v (by rw [Array.getElem?_toList]; exact hv)) s.heap ?_ (items.size - 0) 0 _ (by omega) (Nat.zero_le _)
        ⟨⟨_, Heap.get?_push_size _ rfl, rfl, rfl⟩, isl1.push _⟩ ⟨[], tx_new (Heap.get?_push_of_some _ at_), Nat.le_refl _, fun z => by simp⟩ (fun b o e => Heap.get?_push_of_some _ (Heap.get?_push_of_some _ e)) fun t3 M mv R len mem old => ?_
      · rw [size]
        simp only [List.mem_cons, List.not_mem_nil, or_false, not_or]
        exact ⟨Nat.ne_of_lt (Nat.lt_succ_self _), fun e => Nat.lt_irrefl _ (e ▸ ltl)⟩
      · intro b hb
        rw [size] at hb
        have lt : s.heap.objs.size ≤ b := by
          simp only [List.mem_cons, List.not_mem_nil, or_false] at hb
          rcases hb with e | e
          · rw [e]
            exact Nat.le_refl _
          · rw [e]
            exact Nat.le_succ _
        cases e : s.heap.get? b with
        | none => rfl
        | some o => exact absurd (Heap.lt_size e) (Nat.not_lt.mpr lt)
      · rcases t3 with ⟨h3, g3, d3, k3, o3⟩
        have e1 : g3 = s.gens := mv.gens
        have e2 : d3 = s.drawn := mv.drawn
        have e3 : o3 = s.os := mv.os
        subst e1
        subst e2
        subst e3
        show wpAny _ _ _ _ _ _
        refine wpAny_pure ?_
        show wpAny _ _ (ret Value.none) _ _ _
        rw [← many] at len
        refine wpAny_pure ⟨rfl, h3, k3, M, rfl, R, len, fun z => ?_, old⟩
        rw [mem z, ← many, List.take_length]
    · cases r2 with
      | error e => exact filled
      | ok fl2 =>
        cases fl2 with
        | next => exact filled.elim
        | brk => exact filled.elim
        | cont => exact filled.elim
        | ret v =>
        rcases filled with ⟨rfl, h', tk, M, rfl, R, len, mem, old⟩
        repeat (any_goals (first | assumption | wp_step))
        exact fin h' tk M R len mem old
end
end IC
namespace IC
open PySem PySem.Spec PyProof.Rows L2
def TxO (w : World) (a : Addr) (L : List Str) : HO := .ext fun h => TxS w h a L
section
variable {X : Cx}
theorem txO_ok {P : Program} {w : World} {H : Hp} {h : Heap} {a : Addr} {L : List Str} (R : TxS w h a L) : ObjOk P w H h a (TxO w a L) := by
  have R2 := R
  rcases R2 with ⟨o, _, _, _, e, _⟩
  exact ⟨R, ⟨o, e⟩, fun h1 h2 p k => TxS.keep p k⟩
/-- set(xs), xs a list or a tuple of texts -/
def rSetTx (K : PySem.W.Frag) (w : World) : List V → Hp → VK → Prop := fun vs H Q => ∃ (a : Addr) (xs : List Str), vs = [.ref a] ∧ (SqL K H a (xs.map V.str) ∨ SqT K H a (xs.map V.str)) ∧ xs.length ≤ 4000 ∧
  ∀ (p : Addr) (M : List Str), H p = none → M.length ≤ xs.length → (∀ z, z ∈ M ↔ z ∈ xs) → M.Nodup → Q (.ref p) (upd H p (TxO w p M))
theorem cr_setTx (calm : X.calm = true) : CallR X (.type "set") (rSetTx X.K X.w) := by
  rintro pins s σ H vs us Q I rel ⟨a, xs, rfl, sq, few, q⟩
  rcases vals1 rel with ⟨u, rfl, ru⟩
  cases ru
  have few2 : xs.length + 1 < scanBound := by
    show xs.length + 1 < 4096
    omega
  have fin : ∀ (h' : Heap) (tk : Nat) (M : List Str), TxS X.w h' s.heap.objs.size M → M.length ≤ xs.length → (∀ z, z ∈ M ↔ z ∈ xs) → (∀ b o, s.heap.get? b = some o → h'.get? b = some o) → EP X pins σ Q (.ref s.heap.objs.size) { s with heap := h', toks := tk } := fun h' tk M R len mem old => by
    have nd : M.Nodup := by
      rcases R with ⟨_, _, _, _, _, _, _, _, _, nd, _⟩
      exact nd
    exact ⟨.ref s.heap.objs.size, _, I.laid (t' := tk) old (Nat.le_refl _) (txO_ok R), rfl, q _ M (I.hok.fresh (Nat.le_refl _)) len mem nd⟩
  rcases sq with sq | sq
  · rcases I.list sq with ⟨its, rv, pl, _⟩
    exact call_set_lst (I.ok.hd calm) pl.isList (by simpa using rv.strs) few2 fin
  · rcases I.tuple sq with ⟨its, rv, pl, _⟩
    exact call_set_tup (I.ok.hd calm) pl (by simpa using rv.strs) few2 fin
/-- sorted(a set of texts) -/
def rSortTx (w : World) : List V → Hp → VK → Prop := fun vs H Q => ∃ (a : Addr) (M : List Str), vs = [.ref a] ∧ H a = some (TxO w a M) ∧ ∀ (ys : List Str) (p : Addr), ys.Perm M → sortedS ys = true → H p = none → Q (.ref p) (upd H p (.lst (ys.map V.str)))
theorem txs_of {w : World} : ∀ {vs : List Value} {es : List (Int × Value)}, (∀ e ∈ es, TxE w e) → vs = es.map (·.2) → StrsAre vs (es.map tk)
  | _, [], _, e => by
    subst e
    exact .nil
  | _, p :: es, g, e => by
    subst e
    rcases g p List.mem_cons_self with ⟨z, k, e1, _⟩
    have r := txs_of (vs := es.map (·.2)) (fun x hx => g x (List.mem_cons_of_mem _ hx)) rfl
    have e2 : tk p = z := by
      unfold tk
      rw [e1]
    rw [List.map_cons, List.map_cons, e1, e2]
    exact .cons z k r
theorem perm_lift {α β : Type} {f : α → β} : ∀ {ys xs : List β} (_ : ys.Perm xs) {l : List α}, xs = l.map f → ∃ l' : List α, l'.Perm l ∧ ys = l'.map f := by
  intro ys xs p
  induction p with
  | nil =>
    intro l e
    have e : l = [] := List.map_eq_nil_iff.mp e.symm
    subst e
    exact ⟨[], .nil, rfl⟩
  | cons x _ ih =>
    intro l e
    cases l with
    | nil => cases e
    | cons y l =>
      injection e with e1 e2
      rcases ih e2 with ⟨l', p', e'⟩
      exact ⟨y :: l', p'.cons y, by rw [List.map_cons, ← e', e1]⟩
  | swap x y r =>
    intro l e
    match l, e with
    | u :: v :: l, e =>
      injection e with e1 e2
      injection e2 with e2 e3
      exact ⟨v :: u :: l, .swap .., by rw [List.map_cons, List.map_cons, e1, e2, e3]⟩
  | trans _ _ ih1 ih2 =>
    intro l e
    rcases ih2 e with ⟨l2, p2, e2⟩
    rcases ih1 e2 with ⟨l1, p1, e1⟩
    exact ⟨l1, p1.trans p2, e1⟩
theorem cr_sortTx (calm : X.calm = true) : CallR X (.builtin "sorted") (rSortTx X.w) := by
  rintro pins s σ H vs us Q I rel ⟨a, M, rfl, at_, q⟩
  have R : TxS X.w s.heap a M := (I.hok a _ at_).1
  rcases vals1 rel with ⟨u, rfl, ru⟩
  cases ru
  rcases R with ⟨o, es, ep, t, ho, ex, dt, g, pm, nd, few, fit, ris, led⟩
  refine Calls.call_function_entry kind_sorted plain_sorted entry_sorted (args_sorted1 _) ?_
  unfold Builtin.«sorted»
  refine wpAny_bind (m := checkCount "sorted" 1 1 _) (wpAny_pure ?_)
  refine wpAny_bind (collect_set (A := X.A.in1) (I.ok.hd calm) ⟨o, ho, ex.1, dt⟩ fit few ris led fun t1 out old grow gens os pm2 => ?_)
  rcases perm_lift pm2 rfl with ⟨es2, p2, e2⟩
  have are : StrsAre out (es2.map tk) := txs_of (fun e he => g e (p2.mem_iff.mp he)) e2
  have pM : (es2.map tk).Perm M := (p2.map tk).trans pm
  have len : out.length ≤ sizeLine := by
    have e := p2.length_eq
    rw [e2, List.length_map, e, Array.length_toList, sizeLine_eq]
    have : es.size < 4096 := few
    omega
  refine wpAny_bind (wpAny_newList ?_ len)
  have at1 : (t1.heap.push (seqObj "list" out.toArray 0)).get? t1.heap.objs.size = some (seqObj "list" out.toArray 0) := Heap.get?_push_size _ rfl
  refine wpAny_bind (wpAny_holding (wpAny_call_entry slot_list_sort ⟨_, at1, rfl⟩ entry_list_sort (list_sort_treeKAny strKind_oneLt at1 are.keysOf (fun v1 v2 rest e => keyKind_strs (by rw [← e]; exact are)) len fun st hp hs => ⟨_, rfl, ?_⟩) (args_list_sort _)))
  rcases sorted_out_str are hp hs with ⟨ys, g1, g2, g3⟩
  rcases sortedHeap_at (vs := out) (out := (arrOf st).map (·.2)) at1 with ⟨c, hc⟩
  have lenY : (ys.map V.str).length ≤ sizeLine := by
    rw [List.length_map, g2.length_eq, ← StrsAre.length are]
    exact len
  have keep : ∀ b u, s.heap.get? b = some u → (sortedHeap (t1.heap.push (seqObj "list" out.toArray 0)) t1.heap.objs.size out ((arrOf st).map (·.2))).get? b = some u := fun b u e => by
    have e1 := old b u e
    have lt := Heap.lt_size e1
    rw [sortedHeap_old (Nat.ne_of_lt lt) (by rw [size_push']; exact Nat.lt_succ_of_lt lt)]
    exact Heap.get?_push_of_some _ e1
  have J : Inv X pins σ (upd H t1.heap.objs.size (.lst (ys.map V.str))) { s with heap := sortedHeap (t1.heap.push (seqObj "list" out.toArray 0)) t1.heap.objs.size out ((arrOf st).map (·.2)), gens := t1.gens, drawn := t1.drawn, toks := t1.toks } :=
    I.call (ch := []) (Un.laid keep grow (I.hok.fresh grow)) (I.hok.laid keep grow ⟨lenY, ((arrOf st).map (·.2)).toList, c, vals_of_strs g1, by rw [Array.toArray_toList]; exact hc⟩) (by rw [gens]; exact I.bare) (fun _ z => nomatch z)
  refine wpAny_pure ⟨_, rfl, ?_⟩
  rcases t1 with ⟨h1, g1', d1, k1, o1⟩
  have os : o1 = s.os := os
  subst os
  exact ⟨.ref h1.objs.size, _, J, rfl, q ys _ (g2.trans pM) g3 (I.hok.fresh grow)⟩
/-- sorted(a list of texts), however many -/
theorem cr_sortLT : CallR X (.builtin "sorted") (fun vs H Q => ∃ (a : Addr) (xs : List Str), vs = [.ref a] ∧ SqL X.K H a (xs.map V.str) ∧ ∀ (ys : List Str) (p : Addr), ys.Perm xs → sortedS ys = true → H p = none → Q (.ref p) (upd H p (.lst (ys.map V.str)))) := by
  rintro pins s σ H vs us Q I rel ⟨a, xs, rfl, sq, q⟩
  rcases vals1 rel with ⟨u, rfl, ru⟩
  cases ru
  rcases I.list sq with ⟨its, rv, pl, small⟩
  have e0 := rv.length
  rw [List.length_map] at e0
  rw [List.length_map] at small
  refine sorted_strsAny pl.isList rv.strs (by rw [← e0]; exact small) fun out ys h1 h2 h3 => ?_
  rcases sortedAll_at s.heap its out with ⟨ep, he⟩
  have len : (ys.map V.str).length ≤ sizeLine := by
    rw [List.length_map, h2.length_eq]
    exact small
  exact ⟨.ref _, upd H (s.heap.objs.size + 1) (.lst (ys.map V.str)), I.laid (t' := s.toks) (fun _ _ => sortedAll_old) (Nat.le_succ _) ⟨len, out.toList, ep, vals_of_strs h1, he⟩, rfl, q ys _ h2 h3 (I.hok.fresh (Nat.le_succ _))⟩
end
end IC
namespace IC
open PySem PySem.Spec PyProof.Rows L2
abbrev VSt := List (Option V)
/-! ### {k: v for x in xs}, the keys tuples of texts and numbers -/
theorem put_tup {X : Cx} {pins : List (Addr × Obj)} {σ : VSt} {H : Hp} {s : Shared} {B : Value → Shared → Prop} {D b : Addr} {kvs : List (List Key × V)} {k : List Key} {v : V} {r : Value} {Q : Unit → Shared → Prop} (room : X.A.units < cLine) (I : Inv X pins σ H s) (at_ : H D = some (.dT kvs))
    (key : H b = some (.tup (k.map kV))) (few : kvs.length < sizeLine) (rel : RelV v r) (fin : ∀ t, Inv X pins σ (upd H D (.dT (putK kvs k v))) t → Q () t) : wpAny (model X.prog X.w) X.A (dictSet D (.ref b) r) Q B s := by
  rcases dt_of I.hok at_ with ⟨z, sys, xs, kt, dd⟩
  have many : xs.length ≤ sizeLine := by
    rw [← Paired.length kt]
    exact z
  have more : (putK kvs k v).length ≤ sizeLine := Nat.le_trans (length_putK kvs k v) few
  refine wpAny_dictSet_heap (hsz := many) (show (tupleKind (mixKind X.prog X.w)).room X.A from room) (key_of I.hok key) dd fun h' dd' sb => fin _ ?_
  rcases dd' with ⟨o, es, ep, e1, e2, e3, e4, _, e5⟩
  refine d_write I (by rw [at_]; exact True.intro) sb ⟨o, e1⟩ ⟨more, sys, _, (kt.put k key rel).keeps fun c ys ec => ?_, o, es, ep, e1, e2, e3, e4, e5⟩
  rw [upd_ne (ne_of ec at_ (fun z => nomatch z))]
  exact ec
section
variable {X : Cx}
def tDct (wi : TI) (g : TG) (tt : TT) (tk tv : TE) (vs : List Nat) : TE := fun σ H Q => wi σ H fun J H1 => ∀ D, H1 D = none → ∃ W : Nat → Nat → Hp → Prop, (∃ m, W 0 m (upd H1 D (.dT []))) ∧ ∀ i m G, W i m G →
  (J.stop i G ∧ Q (.ref D) G) ∨ (J.go i G ∧ ∃ Nx : Hp → Prop, (∀ G', Nx G' → ∃ m', m' < m ∧ W (i + 1) m' G') ∧ ∀ x G', J.yld i G x G' → g x (wipe σ vs) G' fun τ G2 => wipe τ vs = wipe σ vs ∧ tt τ G2 fun b G3 =>
    if b = true then tk τ G3 fun y G4 => tv τ G4 fun z G5 => ∃ (kvs : List (List Key × V)) (k : List Key) (b : Addr), y = .ref b ∧ G5 b = some (.tup (k.map kV)) ∧ G5 D = some (.dT kvs) ∧ kvs.length < sizeLine ∧ Nx (upd G5 D (.dT (putK kvs k z))) else Nx G3)
theorem pe_dct {kx vx tg iter : Expr} {ifs : List Expr} {sc : Scope} {own : List (Str × Nat)} {pos : Pos} {wi : TI} {g : TG} {tt : TT} {tk tv : TE} (calm : X.calm = true) (nd : X.N.Nodup) (room : X.A.units < cLine) (walk : PI X tg iter wi) (blk : BlkOk X.N X.env.scope sc own)
    (hg : ∀ (s : Shared) (H : Hp) (C : Addr) (cl : List (Str × Addr)) (fp : List Addr), PG (X.blk s H sc (compEnvC sc cl C X.env) fp) tg g) (ht : ∀ (s : Shared) (H : Hp) (C : Addr) (cl : List (Str × Addr)) (fp : List Addr), PTs (X.blk s H sc (compEnvC sc cl C X.env) fp) ifs tt)
    (hk : ∀ (s : Shared) (H : Hp) (C : Addr) (cl : List (Str × Addr)) (fp : List Addr), PE (X.blk s H sc (compEnvC sc cl C X.env) fp) kx tk) (hv : ∀ (s : Shared) (H : Hp) (C : Addr) (cl : List (Str × Addr)) (fp : List Addr), PE (X.blk s H sc (compEnvC sc cl C X.env) fp) vx tv)
    (noset : ∀ x, foldedSetIterable iter X.env x = pure x := by intro _; rfl) : PE X (.DictComp kx vx [⟨tg, iter, ifs, 0⟩] sc pos) (tDct wi g tt tk tv (own.map (·.2))) := by
  constructor
  intro pins s σ H Q I wish
  rw [arm_eval_DictComp]
  have frees : ∀ y ∈ sc.names, y.2 = .free → ∃ c, X.env.cells.lookup y.1 = some c := fun y hy e => (blk.free y hy e).elim (fun q => I.ok.has _ (.inl q)) fun q => I.ok.has _ (.inr q)
  refine wpAny_comprehension_free (use := _) rfl noset (closure_ok frees) blk.kind (fun y hy e => by rw [blk.uniq y hy, e]) (thn (walk.run pins s σ H _ I wish) fun xv s1 h1 => thn h1 fun itv s2 h2 => ?_)
  rcases h2 with ⟨it, fp, tn, J, H2, rfl, I2, T, st2, out2, q⟩
  refine wpAny_newObj_type (newEnv_comp ?_)
  obtain ⟨D, hD⟩ : ∃ D, s2.heap.objs.size = D := ⟨_, rfl⟩
  rw [hD]
  rcases q D (I2.hok.fresh (Nat.le_of_eq hD)) with ⟨W, ⟨m0, w0⟩, turn⟩
  obtain ⟨s3, hs3⟩ : ∃ t : Shared, t = { s2 with heap := s2.heap.push { cls := .type "dict", data := .dict #[] } } := ⟨_, rfl⟩
  rw [← hs3]
  have up3 : s3.heap = s2.heap.push { cls := .type "dict", data := .dict #[] } := by rw [hs3]
  have I3 : Inv X pins σ (upd H2 D (.dT [])) s3 := by
    rw [hs3]
    refine I2.laid (t' := s2.toks) (fun b o e => Heap.get?_push_of_some _ e) (Nat.le_of_eq hD) ?_
    rw [← hD]
    exact dt_empty s2.heap I2.big
  have low : ∀ b ∈ fp, b < s2.heap.objs.size := fun b hb => (T.obj _ _ st2 b hb).elim fun o e => Heap.lt_size e.1
  have out3 : ∀ b ∈ fp, FpOk X pins (upd H2 D (.dT [])) b ∧ b < s3.heap.objs.size := fun b hb => by
    have lt := low b hb
    have ne : b ≠ D := by
      rw [← hD]
      exact Nat.ne_of_lt lt
    refine ⟨⟨(upd_ne ne).trans (out2 b hb).1, (out2 b hb).2⟩, ?_⟩
    rw [up3, Heap.size_push]
    exact Nat.lt_succ_of_lt lt
  have st3 : tn 0 s3.heap := T.keep _ _ _ st2 fun b _ o e => by
    rw [up3]
    exact Heap.get?_push_of_some _ e
  have I4 := block_start I3 blk nd out3
  obtain ⟨cl, hcl⟩ : ∃ l, l = cellsFrom (s3.heap.objs.size + 1) sc.names (cloFrom X.env.cells sc.names []) := ⟨_, rfl⟩
  rw [← hcl] at I4 ⊢
  obtain ⟨G3, hG3⟩ : ∃ G, G = upd H2 D (.dT []) := ⟨_, rfl⟩
  rw [← hG3] at I3 I4 out3 w0
  have pg := hg s3 G3 s3.heap.objs.size cl fp
  have pt := ht s3 G3 s3.heap.objs.size cl fp
  have pk := hk s3 G3 s3.heap.objs.size cl fp
  have pv := hv s3 G3 s3.heap.objs.size cl fp
  have loc : (compEnvC sc cl s3.heap.objs.size X.env).locals = s3.heap.objs.size := rfl
  have fp0 : ∀ b ∈ fp, G3 b = none := fun b hb => (out3 b hb).1.1
  obtain ⟨s4, hs4⟩ : ∃ t : Shared, t = { s3 with heap := pushCells (s3.heap.push { cls := .type "dict", data := .dict #[] }) sc.names } := ⟨_, rfl⟩
  show codeAny _ _ (.compStart (.DictComp kx vx [⟨tg, iter, ifs, 0⟩] sc pos) 0 (.ref it) (.ref D) (compEnvC sc cl s3.heap.objs.size X.env)) (compPost (model X.prog X.w) X.A X.xe none (EP X pins σ Q) (.ref D) s3.heap.objs.size) { s3 with heap := pushCells (s3.heap.push { cls := .type "dict", data := .dict #[] }) sc.names }
  generalize compEnvC sc cl s3.heap.objs.size X.env = ce at I4 pg pt pk pv loc ⊢
  rw [← hs4] at I4 ⊢
  have st4 : tn 0 s4.heap := T.keep _ _ _ st3 fun b _ o e => by
    rw [hs4]
    exact pushCells_keeps _ _ _ _ (Heap.get?_push_of_some _ e)
  have still : ∀ {τ : VSt} {G : Hp} {t : Shared}, Inv (X.blk s3 G3 sc ce fp) [] τ G t → (∀ b ∈ fp, G b = none) → ∀ b ∈ fp, FpOk (X.blk s3 G3 sc ce fp) [] G b := fun J n b hb => ⟨n b hb, (J.ok.exf b hb).1, J.ok.exfs b hb, .inl hb, fun x c e => (J.ok.exf b hb).2 x c e, fun p hp => by cases hp⟩
  refine codeAny_compStart_dict ?loop (T.self X.A 0 _ _ _ st4 ?loop)
  refine compLoop_anyD (fun n t => ∃ i G, Inv (X.blk s3 G3 sc ce fp) [] (wipe σ (own.map (·.2))) G t ∧ tn i t.heap ∧ (∀ b ∈ fp, G b = none) ∧ W i n G) ?_ m0 ⟨0, G3, I4, st4, fp0, w0⟩
  rintro n s5 ⟨i, G5, I5, st5, n5, w5⟩
  rcases turn i n G5 w5 with ⟨stop, done⟩ | ⟨go, Nx, next, step⟩
  · refine thnF (T.done (X.blk s3 G3 sc ce fp) rfl rfl rfl calm i [] s5 _ G5 (fun _ _ => False) I5 (still I5 n5) st5 stop) fun r s6 ⟨hr, I6⟩ => ?_
    subst hr
    have I7 : Inv X pins σ G5 s6 := I3.call' (ch := fp) I6.os I6.base I6.hok I6.bare fun b hb => ⟨(out3 b hb).1.2.2.2.1, (out3 b hb).1.2.1, (out3 b hb).1.2.2.2.2.1, (out3 b hb).1.2.2.2.2.2⟩
    have no : G5 ce.locals = none := I6.free
    rcases I6.loc with ⟨m, ns, _⟩
    have ns : s6.heap.Ns ce.locals m := ns
    rw [loc] at no ns
    rcases I3.fpOk (Nat.le_refl _) no with ⟨f0, f1, f2, f3, f4, f5⟩
    exact ⟨m, ns, fun h'' sb => ⟨.ref D, G5, I7.turned (t' := s6.toks) (fun b o hb e => (sb.2 b hb).trans e) f0 f1 f3 f4 f5, rfl, done⟩⟩
  · refine thnF (T.item (X.blk s3 G3 sc ce fp) rfl rfl rfl calm i [] s5 _ G5 (fun _ _ => False) I5 (still I5 n5) st5 go) fun r s6 ⟨u, hr, h6⟩ => ?_
    subst hr
    refine thnF h6 fun _ s7 ⟨x, G7, I7, r7, y7, st7, n7⟩ => ?_
    refine thnF (pg.run _ s7 _ G7 x u _ (I7.pinned (still I7 n7) (T.obj _ _ st7)) r7 (step x G7 y7)) fun _ s8 ⟨τ, G8, I8, same, q8⟩ => ?_
    refine thnF (pt.run _ s8 τ G8 _ I8 q8) fun b s9 ⟨G9, I9, q9⟩ => ?_
    have back : ∀ {t : Shared} {G : Hp}, Inv (X.blk s3 G3 sc ce fp) ([] ++ pinsAt fp s7.heap) τ G t → Nx G → ∃ m, m < n ∧ ∃ i G', Inv (X.blk s3 G3 sc ce fp) [] (wipe σ (own.map (·.2))) G' t ∧ tn i t.heap ∧ (∀ b ∈ fp, G' b = none) ∧ W i m G' := fun {t G} J nx => by
      rcases next G nx with ⟨m', lt, w'⟩
      have pinned : ∀ b ∈ fp, ∀ o, s7.heap.get? b = some o → t.heap.get? b = some o ∧ G b = none := fun b hb o e => by
        have z := J.pin (b, o) (List.mem_append_right _ (List.mem_append_right _ (mem_pinsAt hb e)))
        exact ⟨z.1, z.2.1⟩
      refine ⟨m', lt, i + 1, G, (J.unpinned (pins := [])).weak (by rw [← same, wipe_length]) fun j v e => ?_, T.keep _ _ _ st7 fun b hb o e => (pinned b hb o e).1, fun b hb => ?_, w'⟩
      · rw [← same] at e
        exact (wipe_some e).1
      · rcases T.obj _ _ st7 b hb with ⟨o, e, _⟩
        exact (pinned b hb o e).2
    cases b with
    | false => exact back I9 q9
    | true =>
      refine thnF (pk.run _ s9 τ G9 _ I9 q9) fun z s10 ⟨yk, G10, I10, r10, q10⟩ => ?_
      refine thnF (pv.run _ s10 τ G10 _ I10 q10) fun z2 s11 ⟨yv, G11, I11, r11, kvs, k, c, ek, hc, hD11, few, nx⟩ => ?_
      subst ek
      cases r10
      exact put_tup (X := X.blk s3 G3 sc ce fp) room I11 hD11 hc few r11 fun t J => back J nx
/-- over a list that stays -/
theorem dct_list {K : PySem.W.Frag} {a : Addr} {xs : List V} {g : TG} {tt : TT} {tk tv : TE} {vs : List Nat} {σ : VSt} {H1 : Hp} {D : Addr} {Qd : Hp → Prop} (Pv : Nat → Hp → Prop) (h0 : Pv 0 (upd H1 D (.dT []))) (stays : ∀ i G, i ≤ xs.length → Pv i G → SqL K G a xs)
    (one : ∀ i x G, xs[i]? = some x → Pv i G → g x (wipe σ vs) G fun τ G2 => wipe τ vs = wipe σ vs ∧ tt τ G2 fun b G3 =>
      if b = true then tk τ G3 fun y G4 => tv τ G4 fun z G5 => ∃ (kvs : List (List Key × V)) (k : List Key) (c : Addr), y = .ref c ∧ G5 c = some (.tup (k.map kV)) ∧ G5 D = some (.dT kvs) ∧ kvs.length < sizeLine ∧ Pv (i + 1) (upd G5 D (.dT (putK kvs k z))) else Pv (i + 1) G3) (fin : ∀ G, Pv xs.length G → Qd G) :
    ∃ W : Nat → Nat → Hp → Prop, (∃ m, W 0 m (upd H1 D (.dT []))) ∧ ∀ i m G, W i m G →
      ((Itl K a).stop i G ∧ Qd G) ∨ ((Itl K a).go i G ∧ ∃ Nx : Hp → Prop, (∀ G', Nx G' → ∃ m', m' < m ∧ W (i + 1) m' G') ∧ ∀ x G', (Itl K a).yld i G x G' → g x (wipe σ vs) G' fun τ G2 => wipe τ vs = wipe σ vs ∧ tt τ G2 fun b G3 =>
        if b = true then tk τ G3 fun y G4 => tv τ G4 fun z G5 => ∃ (kvs : List (List Key × V)) (k : List Key) (c : Addr), y = .ref c ∧ G5 c = some (.tup (k.map kV)) ∧ G5 D = some (.dT kvs) ∧ kvs.length < sizeLine ∧ Nx (upd G5 D (.dT (putK kvs k z))) else Nx G3) := by
  refine ⟨fun i m G => m = xs.length - i ∧ i ≤ xs.length ∧ Pv i G, ⟨xs.length, rfl, Nat.zero_le _, h0⟩, ?_⟩
  rintro i m G ⟨rfl, le, p⟩
  have sq := stays i G le p
  rcases Nat.lt_or_ge i xs.length with lt | ge
  · refine .inr ⟨⟨xs, xs[i], sq, List.getElem?_eq_getElem lt⟩, Pv (i + 1), fun G' p' => ⟨xs.length - (i + 1), by omega, rfl, lt, p'⟩, fun x G' y => ?_⟩
    rcases y with ⟨e, y⟩
    subst e
    exact one i x _ (y xs sq) p
  · obtain rfl : i = xs.length := Nat.le_antisymm le ge
    exact .inl ⟨⟨xs, sq, Nat.le_refl _⟩, fin G p⟩
end
end IC
namespace IC
open PySem L2 TL
/-! ### the modes -/
def modesS : List Str := ["join", "inner", "apart", "must", "either", "never", "outside", "alone"]
def modesV : List V := modesS.map V.str
theorem mode_at (d : Int) (h0 : 0 ≤ d) (h1 : d < 8) : ∃ z : Str, atI modesV d = some (.str z) ∧ z ∈ modesS ∧ 4 ≤ (tl z).length ∧ (tl z).length ≤ 7 := by
  obtain ⟨j, rfl⟩ : ∃ j : Nat, d = j := ⟨d.toNat, by omega⟩
  have hj : j < 8 := by omega
  have all : ∀ k : Fin 8, ∃ z : Str, modesS[k.val]? = some z ∧ 4 ≤ (tl z).length ∧ (tl z).length ≤ 7 := by
    intro k
    match k with
    | 0 => exact ⟨"join", rfl, by decide +kernel, by decide +kernel⟩
    | 1 => exact ⟨"inner", rfl, by decide +kernel, by decide +kernel⟩
    | 2 => exact ⟨"apart", rfl, by decide +kernel, by decide +kernel⟩
    | 3 => exact ⟨"must", rfl, by decide +kernel, by decide +kernel⟩
    | 4 => exact ⟨"either", rfl, by decide +kernel, by decide +kernel⟩
    | 5 => exact ⟨"never", rfl, by decide +kernel, by decide +kernel⟩
    | 6 => exact ⟨"outside", rfl, by decide +kernel, by decide +kernel⟩
    | 7 => exact ⟨"alone", rfl, by decide +kernel, by decide +kernel⟩
  obtain ⟨z, h2, h3, h4⟩ := all ⟨j, hj⟩
  refine ⟨z, atI_nat ?_, List.mem_of_getElem? h2, h3, h4⟩
  unfold modesV
  rw [List.getElem?_map, h2]
  rfl
theorem modes_flat : modesV.all flatV = true := by decide +kernel
/-- what stands of the class Mode in the text -/
structure ModeTxt (K : PySem.W.Frag) (mg : Str → Option Value) (C p g t : Addr) (mc : Value) : Prop where
  mo : mg "Mode" = some (.ref C)
  rd : ClX.CRead K C mc
  all : ClX.CVal K C mc "ALL" (.ref t) (.ref t)
  tup : ∃ (o : Obj) (its : Array Value) (n : Nat), K.lookup t = some o ∧ o.cls = .type "tuple" ∧ o.data = .seq its n ∧ its.size ≤ sizeLine ∧ Vals modesV its.toList
  con : ∀ nm z : Str, (nm, z) ∈ ([("JOIN", "join"), ("INNER", "inner"), ("APART", "apart"), ("MUST", "must"), ("EITHER", "either"), ("NEVER", "never"), ("OUTSIDE", "outside"), ("ALONE", "alone")] : List (Str × Str)) → ∃ u, ClX.CVal K C mc nm (.str z) u
  sm : SMet K C mc "is_mode" p g
theorem ModeTxt.seq {K : PySem.W.Frag} {mg : Str → Option Value} {C p g t : Addr} {mc : Value} (M : ModeTxt K mg C p g t mc) (H : Hp) : SqT K H t modesV := .inr M.tup
/-- Mode.is_mode(thing), any value -/
def spIsMode (K : PySem.W.Frag) : Sp := fun vs H Q _ => ∃ v : V, vs = [v] ∧ ((∃ z : Str, v = .str z ∧ Q (.bl (inV v modesV)) H) ∨ (Oth K H v ∧ Q (.bl false) H))
end IC
namespace IC
open PySem PySem.W PySem.Calls PyProof.Rows PySem.Spec
/-! ### == of plain instances: the same object -/
section
variable {prog : Program} {w : World} {A : Around} {E : Value → Shared → Prop} {s : Shared} {K : Frag} {x C : Addr} {ox : Obj} {od : Option Obj}
theorem same_self {M : Model} {R : Bool → Shared → Prop} (h : R true s) : wpAny M A (isSame (.ref x) (.ref x)) R E s := wpAny_of_eq (show isSame (.ref x) (.ref x) = pure true by simp [isSame]) h
theorem eq_self_body {Q : Fin → Shared → Prop} (hq : Q (.done (.ret (.bool true))) s) : wpAny (model prog w) A (Builtin.«object.__eq__» ⟨[.ref x, .ref x], []⟩) Q E s := by
  unfold Builtin.«object.__eq__»
  repeat (first | with_reducible refine same_self ?_ | wp_step)
  exact hq
theorem own_eq_self {Q : Value → Shared → Prop} (hu : A.units < cLine) (X : K.In s.heap) (I : InstAt s.heap x ox C od) (hm : mroIn K C (.type "object") = some true) (hs : findIn K (.ref C) "__eq__" = some (some (.builtin "object.__eq__"))) (h : Q (.bool true) s) :
    wpAny (model prog w) A (richCompare .Eq (.ref x) (.ref x)) Q E s := by
  have one : wpAny (model prog w) A (tryCompare (.ref x) "__eq__" (.ref x)) (fun r s' => r = some (.bool true) ∧ s' = s) E s := by
    unfold tryCompare
    refine wpAny_bind (HN.ifBound_objEq X I hs (wpAny_call (codeAny_call_builtin F.cmp_object.eq.plain F.cmpEntry_eq (check_slot F.cmpKind_eq F.cmpSplit_eq (I.type.andThen (looks_mroIn X hm)) (F.cmpArgs_eq _ _) (eq_self_body ?_)))))
    exact wpAny_pure ⟨rfl, rfl⟩
  simp only [richCompare, cmpInfo_Eq, oneThing_ref]
  refine wpAny_holding (wpAny_bind (wpAny_cRoomFor hu (wpAny_bind (I.type.here (wpAny_bind (I.type.here ?_))))))
  have eqC : (Value.ref C != Value.ref C) = false := by simp
  rw [eqC]
  simp only [Bool.false_eq_true, if_false]
  refine wpAny_bind (wpAny_pure ?_)
  simp only [Bool.false_eq_true, if_false]
  refine wpAny_bind (wpAny_mono one (fun r s' z => ?_) fun _ _ e => e)
  rcases z with ⟨rfl, rfl⟩
  exact wpAny_pure h
end
end IC
namespace IC
open PySem L2 TL
section
variable {X : Cx}
def rEqSelf (C : Addr) : R2 := fun x y H Q => ∃ (p dx : Addr) (fs : List (Str × V)), x = .ref p ∧ y = .ref p ∧ H p = some (.ins C dx fs) ∧ Q (.bl true) H
theorem op_eqSelf {C : Addr} (hm : PySem.W.mroIn X.K C (.type "object") = some true) (hs : PySem.W.findIn X.K (.ref C) "__eq__" = some (some (.builtin "object.__eq__"))) (hu : X.A.units < cLine) : OpR X (compareOp .Eq) (rEqSelf C) := by
  rintro pins s σ H x y v u Q I rx ry ⟨p, dx, fs, rfl, rfl, hp, q⟩
  cases rx
  cases ry
  rcases StX.insC_at I (.inr ⟨dx, fs, hp⟩) with ⟨ox, od, J, _⟩
  show wpAny (model X.prog X.w) X.A (richCompare .Eq (.ref p) (.ref p)) (EP X pins σ Q) X.xe s
  exact own_eq_self hu I.kIn J hm hs ⟨.bl true, H, I, rfl, q⟩
/-- x in o, o has its own __contains__ -/
def rInOwn (C : Addr) (sp : Sp) : R2 := fun x y H Q => ∃ (p dx : Addr) (fs : List (Str × V)), y = .ref p ∧ H p = some (.ins C dx fs) ∧ sp [.ref p, x] H (fun v H' => ∃ b : Bool, v = .bl b ∧ Q (.bl b) H') E0
theorem op_inOwn {C g : Addr} {k : Nat} {sp : Sp} (has : PySem.W.findIn X.K (.ref C) "__contains__" = some (some (.ref g))) (fn : PySem.W.isFn X.K (.ref g) = true) (F : FnR X.prog X.w X.K X.mg X.base CX0 k g sp) (hr : Room k X.A) : OpR X (compareOp .In) (rInOwn C sp) := by
  rintro pins s σ H x y v u Q I rx ry ⟨p, dx, fs, rfl, hp, h⟩
  cases ry
  rcases StX.insC_at I (.inr ⟨dx, fs, hp⟩) with ⟨ox, od, J, _⟩
  rcases I.fr with ⟨m, hF⟩
  refine PySem.W.in_K hF I.ok.mod.kin J has fn (wpAny_mono (wpAny_call (run_fnR F hr pass0 I (.cons (show RelV (V.ref p) (Value.ref p) from rfl) (.cons rx .nil)) h)) (fun r s' e => ?_) fun _ _ e => e)
  rcases e with ⟨y, H2, I2, ry, b, rfl, q⟩
  have ry : r = Value.bool b := ry
  subst ry
  exact wpAny_truthy_bool ⟨.bl b, H2, I2, rfl, q⟩
/-- o[i] = v, o has its own __setitem__ -/
def rSetOwn (C : Addr) (sp : Sp) : TSet := fun o i v H Q => ∃ (p dx : Addr) (fs : List (Str × V)), o = .ref p ∧ H p = some (.ins C dx fs) ∧ sp [.ref p, i, v] H (fun _ H' => Q H') E0
theorem set_own {C g : Addr} {k : Nat} {sp : Sp} (hq : PySem.W.noSeq X.K C = true) (has : PySem.W.findIn X.K (.ref C) "__setitem__" = some (some (.ref g))) (fn : PySem.W.isFn X.K (.ref g) = true) (F : FnR X.prog X.w X.K X.mg X.base CX0 k g sp) (hr : Room k X.A) : PSet X (rSetOwn C sp) := by
  rintro pins s σ H o i v ov iv u Q I ro ri rv ⟨p, dx, fs, rfl, hp, h⟩
  cases ro
  rcases StX.insC_at I (.inr ⟨dx, fs, hp⟩) with ⟨ox, od, J, _⟩
  rcases I.fr with ⟨m, hF⟩
  refine PySem.W.ksp_setItem hF I.ok.mod.kin J hq has fn (wpAny_mono (wpAny_call (run_fnR F hr pass0 I (.cons (show RelV (V.ref p) (Value.ref p) from rfl) (.cons ri (.cons rv .nil))) h)) (fun r s' e => ?_) fun _ _ e => e)
  rcases e with ⟨y, H2, I2, ry, q⟩
  exact ⟨H2, I2, q⟩
/-- o[i], o has its own __getitem__; what is raised is wished for at the caller's slots -/
def tIxOwn (C : Addr) (sp : Sp) (E : L2.St → XK) (ta tb : TE) : TE := fun σ H Q => ta σ H fun x H1 => tb σ H1 fun y H2 => ∃ (p dx : Addr) (fs : List (Str × V)), x = .ref p ∧ H2 p = some (.ins C dx fs) ∧ sp [.ref p, y] H2 Q (E σ)
theorem pe_ixOwn {C g : Addr} {k : Nat} {sp : Sp} {W : WX} {a b : Expr} {ta tb : TE} {pos : Pos} (has : PySem.W.findIn X.K (.ref C) "__getitem__" = some (some (.ref g))) (fn : PySem.W.isFn X.K (.ref g) = true) (fi : PySem.W.fnIn X.K g = true) (F : FnR X.prog X.w X.K X.mg X.base (L2.CX X.prog X.w) k g sp) (hr : Room (k + 1) X.A) (tk : Takes X W)
    (ha : PE X a ta) (hb : PE X b tb) (hs : ∀ x i, subscripted b true (.ref x) i = runValue (.builtin "lifetime.subscript" ⟨[.ref x, i], []⟩) := by intro _ _; with_unfolding_all rfl) : PE X (.Subscript a b pos) (tIxOwn C sp (WE W) ta tb) := by
  refine ⟨fun pins s σ H Q I h => ?_⟩
  refine PyProof.Rows.Subscript_ (binT ha hb I h fun v u s2 x y H2 I2 rx ry q => ?_)
  rcases q with ⟨p, dx, fs, rfl, hp, h⟩
  cases rx
  rcases StX.insC_at I2 (.inr ⟨dx, fs, hp⟩) with ⟨ox, od, J, _⟩
  rcases I2.fr with ⟨m, hF⟩
  have run := F X.A.in1 X.stack s2 H2 [Value.ref p, u] [V.ref p, y] _ (WE W σ) hr.in1 I2.env0.in1 (.cons (show RelV (V.ref p) (Value.ref p) from rfl) (.cons ry .nil)) h
  refine PySem.W.sub_K hF I2.ok.mod.kin J has fi fn (wpAny_call (codeAny_mono run fun r s' z => ?_)) (hs _ _)
  match r, z with
  | .error er, z => exact passAt tk σ pins H2 s2 er s' I2 z
  | .ok (.ret w), z => exact I2.after z
  | .ok .next, z => exact False.elim z
  | .ok .brk, z => exact False.elim z
  | .ok .cont, z => exact False.elim z
end
end IC
namespace IC
open PySem L2 TL
/-- a special method by its class -/
structure SpD (P : Program) (w : World) (K : PySem.W.Frag) (mg : Str → Option Value) (base : Heap) (CX : CXT) (k : Nat) (C : Addr) (m : Str) (sp : Sp) : Prop where
  ex : ∃ g : Addr, PySem.W.findIn K (.ref C) m = some (some (.ref g)) ∧ PySem.W.isFn K (.ref g) = true ∧ PySem.W.fnIn K g = true ∧ FnR P w K mg base CX k g sp
section
variable {X : Cx} {C : Addr} {k j : Nat} {sp : Sp}
theorem op_inD (D : SpD X.prog X.w X.K X.mg X.base CX0 k C "__contains__" sp) (hr : Room j X.A) (hk : k ≤ j) : OpR X (compareOp .In) (rInOwn C sp) := by
  obtain ⟨g, h1, h2, _, F⟩ := D.ex
  exact op_inOwn h1 h2 F (hr.mono hk)
theorem set_D (D : SpD X.prog X.w X.K X.mg X.base CX0 k C "__setitem__" sp) (hq : PySem.W.noSeq X.K C = true) (hr : Room j X.A) (hk : k ≤ j) : PSet X (rSetOwn C sp) := by
  obtain ⟨g, h1, h2, _, F⟩ := D.ex
  exact set_own hq h1 h2 F (hr.mono hk)
theorem pe_ixD {W : WX} {a b : Expr} {ta tb : TE} {pos : Pos} (D : SpD X.prog X.w X.K X.mg X.base (L2.CX X.prog X.w) k C "__getitem__" sp) (hr : Room j X.A) (hk : k + 1 ≤ j) (tk : Takes X W) (ha : PE X a ta) (hb : PE X b tb)
    (hs : ∀ x i, subscripted b true (.ref x) i = runValue (.builtin "lifetime.subscript" ⟨[.ref x, i], []⟩) := by intro _ _; with_unfolding_all rfl) : PE X (.Subscript a b pos) (tIxOwn C sp (WE W) ta tb) := by
  obtain ⟨g, h1, h2, h3, F⟩ := D.ex
  exact pe_ixOwn h1 h2 h3 F (hr.mono hk) tk ha hb hs
end
theorem exm_pair {S C : Addr} {b : Bool} (h1 : PySem.W.subIn K (.ref C) (.type "BaseException") = some true) (h2 : PySem.W.isClsIn K C = true) (h3 : PySem.W.typeIn K (.ref C) = some (.type "type")) (h4 : PySem.W.subIn K (.ref S) (.ref C) = some b) :
    PySem.W.exmOne K (.ref S) (.ref C) = some b := by
  have z1 : (PySem.W.subIn K (.ref C) (.type "BaseException") == some true) = true := by rw [h1] <;> rfl
  have z2 : ((PySem.W.clsIn K C).isSome && PySem.W.typeIn K (.ref C) == some (.type "type")) = true := by
    rw [show (PySem.W.clsIn K C).isSome = true from h2, h3] <;> rfl
  unfold PySem.W.exmOne
  rw [if_pos z1]
  unfold PySem.W.kitCls
  exact Eq.trans (if_pos z2) h4
end IC
namespace IC
open PySem PySem.W PySem.Calls PyProof.Rows
/-! ### an operator of an own class, both sides its instances -/
section
variable {prog : Program} {w : World} {A : Around} {E : Value → Shared → Prop} {s : Shared} {K : Frag} {x y C f : Addr} {ox oy : Obj} {od oe : Option Obj}
theorem own_bin {op : Operator} {Q : Value → Shared → Prop} (X : K.In s.heap) (I : InstAt s.heap x ox C od) (J : InstAt s.heap y oy C oe) (first : selfFirst K C = true) (has : findIn K (.ref C) (PySem.dunder op.info.2) = some (some (.ref f))) (fn : isFn K (.ref f) = true)
    (h : wpAny (model prog w) A (call (.ref f) [.ref x, .ref y]) (PySem.W.CmpBack Q) E s) : wpAny (model prog w) A (binaryOp op (.ref x) (.ref y)) Q E s := by
  rcases ksp_first first with ⟨cd, rest, hcd, hm⟩
  cases info : op.info with
  | mk sign nm =>
    rw [info] at has
    dsimp only at has
    have go := ksp_try X I has fn h
    have tx : Looks (model prog w) s.heap (typeOf (.ref x)) (.ref C) := I.type
    have ty : Looks (model prog w) s.heap (typeOf (.ref y)) (.ref C) := J.type
    have left : Looks (model prog w) s.heap (fillsNumberSlot (.ref C) nm) true := fills_K X hcd hm has
    obtain ⟨hp, g, dr, tk, os⟩ := s
    have eqC : (Value.ref C == Value.ref C) = true := beq_self_eq_true _
    simp only [binaryOp, info]
    refine wpAny_holding (wpAny_bind ?_)
    unfold binaryOp1
    refine wpAny_bind (tx.at (wpAny_bind (ty.at (wpAny_bind (left.at ?_)))))
    simp only [eqC, if_true]
    ksp_lk
    refine wpAny_mono go (fun r s' e => ?_) fun _ _ e => e
    rcases e with ⟨v, rfl, q⟩
    ksp_lk
    exact q
theorem own_inv {M : Model} {Q : Value → Shared → Prop} (X : K.In s.heap) (I : InstAt s.heap x ox C od) (has : findIn K (.ref C) "__invert__" = some (some (.ref f))) (fn : isFn K (.ref f) = true) (go : wpAny M A (call (.ref f) [.ref x]) Q E s) :
    wpAny M A (unaryOp .Invert (.ref x)) Q E s := by
  unfold unaryOp
  have plain := beq_iff_eq.mp fn
  exact wpAny_holding (wpAny_bind (special_fn X I has plain (wpAny_mono go (fun _ _ q => wpAny_pure q) fun _ _ q => q)))
end
end IC
namespace IC
open PySem L2 TL
section
variable {X : Cx}
theorem no_ni {v : V} : ¬ RelV v Value.notImplemented := fun h => by
  cases v <;> first | exact (nomatch h) | (rcases h with ⟨_, h⟩; exact (nomatch h))
def rOwn (C : Addr) (sp : Sp) : R2 := fun x y H Q => ∃ (p q dx dy : Addr) (fs gs : List (Str × V)), x = .ref p ∧ y = .ref q ∧ H p = some (.ins C dx fs) ∧ H q = some (.ins C dy gs) ∧ sp [.ref p, .ref q] H Q E0
theorem op_own {op : Operator} {C g : Addr} {k : Nat} {sp : Sp} (first : PySem.W.selfFirst X.K C = true) (has : PySem.W.findIn X.K (.ref C) (PySem.dunder op.info.2) = some (some (.ref g))) (fn : PySem.W.isFn X.K (.ref g) = true) (F : FnR X.prog X.w X.K X.mg X.base CX0 k g sp) (hr : Room k X.A) :
    OpR X (binaryOp op) (rOwn C sp) := by
  rintro pins s σ H x y v u Q I rx ry ⟨p, q, dx, dy, fs, gs, rfl, rfl, hp, hq, h⟩
  cases rx
  cases ry
  rcases StX.insC_at I (.inr ⟨dx, fs, hp⟩) with ⟨ox, od, J1, _⟩
  rcases StX.insC_at I (.inr ⟨dy, gs, hq⟩) with ⟨oy, oe, J2, _⟩
  refine own_bin I.kIn J1 J2 first has fn (wpAny_mono (wpAny_call (run_fnR F hr pass0 I (.cons (show RelV (V.ref p) (Value.ref p) from rfl) (.cons (show RelV (V.ref q) (Value.ref q) from rfl) .nil)) h)) (fun r s' e => ?_) fun _ _ e => e)
  have e2 := e
  rcases e2 with ⟨y, H2, I2, ry, _⟩
  cases r <;> first | exact e | exact absurd ry no_ni
def rOwn1 (C : Addr) (sp : Sp) : V → Hp → VK → Prop := fun x H Q => ∃ (p dx : Addr) (fs : List (Str × V)), x = .ref p ∧ H p = some (.ins C dx fs) ∧ sp [.ref p] H Q E0
theorem un_own {C g : Addr} {k : Nat} {sp : Sp} (has : PySem.W.findIn X.K (.ref C) "__invert__" = some (some (.ref g))) (fn : PySem.W.isFn X.K (.ref g) = true) (F : FnR X.prog X.w X.K X.mg X.base CX0 k g sp) (hr : Room k X.A) : UnR X (unaryOp .Invert) (rOwn1 C sp) := by
  rintro pins s σ H x v Q I rx ⟨p, dx, fs, rfl, hp, h⟩
  cases rx
  rcases StX.insC_at I (.inr ⟨dx, fs, hp⟩) with ⟨ox, od, J1, _⟩
  exact own_inv I.kIn J1 has fn (wpAny_call (run_fnR F hr pass0 I (.cons (show RelV (V.ref p) (Value.ref p) from rfl) .nil) h))
/-- str(x), x an instance of C that has its own __str__ -/
def rStrOwn (C : Addr) (sp : Sp) : List V → Hp → VK → Prop := fun vs H Q => ∃ (p dx : Addr) (fs : List (Str × V)), vs = [.ref p] ∧ H p = some (.ins C dx fs) ∧ sp [.ref p] H (fun v H' => ∃ z : Str, v = .str z ∧ Q v H') E0
theorem cr_strOwn {C g : Addr} {k : Nat} {sp : Sp} (has : PySem.W.findIn X.K (.ref C) "__str__" = some (some (.ref g))) (fn : PySem.W.isFn X.K (.ref g) = true) (F : FnR X.prog X.w X.K X.mg X.base CX0 k g sp) (hr : Room (k + 2) X.A) : CallR X (.type "str") (rStrOwn C sp) := by
  rintro pins s σ H vs us Q I rel ⟨p, dx, fs, rfl, hp, h⟩
  rcases vals1 rel with ⟨u, rfl, ru⟩
  cases ru
  rcases StX.insC_at I (.inr ⟨dx, fs, hp⟩) with ⟨ox, od, J, _⟩
  have run := F X.A.in1.in1 X.stack s H [Value.ref p] [V.ref p] _ E0 hr.in1.in1 I.env0.in1.in1 (.cons (show RelV (V.ref p) (Value.ref p) from rfl) .nil) h
  refine PySem.W.kso_call hr.in1.in1.units0 I.kIn J has fn (wpAny_call (codeAny_mono run fun r s' hq => ?_))
  match r, hq with
  | .error er, z => exact pass0 pins σ H s er s' I z
  | .ok .next, z => exact False.elim z
  | .ok .brk, z => exact False.elim z
  | .ok .cont, z => exact False.elim z
  | .ok (.ret u), z =>
    rcases I.after z with ⟨y, H2, I2, ry, t, rfl, q⟩
    rcases ry with ⟨tk, rfl⟩
    exact ⟨.str t, H2, I2, ⟨tk, rfl⟩, q⟩
end
end IC
namespace IC
open PySem PySem.W PySem.Calls PyProof.Rows
/-! ### != where the class has its own == and no other != than that of object -/
section
variable {prog : Program} {w : World} {A : Around} {E : Value → Shared → Prop} {s : Shared} {K : Frag} {x y C f : Addr} {ox : Obj} {od : Option Obj}
theorem ne_body {Q : Fin → Shared → Prop} (X : K.In s.heap) (I : InstAt s.heap x ox C od) (has : findIn K (.ref C) "__eq__" = some (some (.ref f))) (fn : isFn K (.ref f) = true) (hu : A.units < cLine)
    (go : wpAny (model prog w) A (call (.ref f) [.ref x, .ref y]) (fun v s' => ∃ b, v = .bool b ∧ Q (.done (.ret (.bool (!b)))) s') E s) :
    wpAny (model prog w) A (Builtin.«object.__ne__» ⟨[.ref x, .ref y], []⟩) Q E s := by
  unfold Builtin.«object.__ne__»
  repeat (first
    | with_reducible refine wpAny_cRoomFor hu ?_
    | (refine wpAny_bind (m := callSpecialIfBound? (.ref x) (Str.ofString "__eq__") [.ref y]) (ifBound_K X I has fn (wpAny_mono go (fun r s' z => by
        rcases z with ⟨b, rfl, q⟩
        repeat (first | exact q | exact wpAny_pure q | exact wpAny_truthy_bool q | (refine wpAny_bind (m := truthy (.bool _)) (wpAny_truthy_bool ?_)) | wp_step)) fun _ _ e => e)))
    | wp_step)
theorem ne_bound {M : Model} {B : Around} {args : List Value} {Q : Option Value → Shared → Prop} (X : K.In s.heap) (I : InstAt s.heap x ox C od) (hs : findIn K (.ref C) "__ne__" = some (some (.builtin "object.__ne__")))
    (go : wpAny M B (call (.builtin "object.__ne__") (.ref x :: args)) (fun v => Q (some v)) E s) : wpAny M B (callSpecialIfBound? (.ref x) "__ne__" args) Q E s := by
  simp only [callSpecialIfBound?, bindSpecialIfBound?]
  have last : wpAny M B (call (.builtin "object.__ne__") ([.ref x] ++ args) >>= fun v => pure (some v)) Q E s := wpAny_bind (wpAny_mono go (fun v s' q => wpAny_pure q) fun _ _ q => q)
  refine wpAny_holding (wpAny_bind (wpAny_bind (wpAny_bind (I.type.here ((looks_findIn X hs).here (wpAny_bind (wpAny_askSetting (wpAny_ite ?_))))))))
  split
  · exact wpAny_bind (wpAny_of_eq (F.cmp_object.ne.bind _) (wpAny_pure (by exact last)))
  · exact wpAny_tryCatch (wpAny_bind (wpAny_of_eq (F.cmp_object.ne.bind _) (wpAny_pure (by exact last))))
theorem own_ne {oy : Obj} {oe : Option Obj} {Q : Value → Shared → Prop} (hu : A.units + 1 < cLine) (X : K.In s.heap) (I : InstAt s.heap x ox C od) (J : InstAt s.heap y oy C oe) (hm : mroIn K C (.type "object") = some true)
    (hne : findIn K (.ref C) "__ne__" = some (some (.builtin "object.__ne__"))) (has : findIn K (.ref C) "__eq__" = some (some (.ref f))) (fn : isFn K (.ref f) = true)
    (go : wpAny (model prog w) A.in1 (call (.ref f) [.ref x, .ref y]) (fun v s' => ∃ b, v = .bool b ∧ Q (.bool (!b)) s') E s) : wpAny (model prog w) A (richCompare .NotEq (.ref x) (.ref y)) Q E s := by
  have one : wpAny (model prog w) A (tryCompare (.ref x) "__ne__" (.ref y)) (fun r s' => ∃ b, r = some (.bool b) ∧ Q (.bool b) s') E s := by
    unfold tryCompare
    refine wpAny_bind (ne_bound X I hne (wpAny_call (codeAny_call_builtin F.cmp_object.ne.plain F.cmpEntry_ne (check_slot F.cmpKind_ne F.cmpSplit_ne (I.type.andThen (looks_mroIn X hm)) (F.cmpArgs_ne _ _) (ne_body X I has fn (A := A.in1) hu (wpAny_mono go (fun v s' z => ?_) fun _ _ e => e))))))
    rcases z with ⟨b, rfl, q⟩
    exact ⟨b, rfl, wpAny_pure ⟨_, rfl, q⟩⟩
  unfold richCompare
  simp only [oneThing_ref]
  refine wpAny_holding (wpAny_bind (wpAny_cRoomFor (Nat.lt_of_succ_lt hu) (wpAny_bind (I.type.here (wpAny_bind (J.type.here ?_))))))
  have eqC : (Value.ref C != Value.ref C) = false := by simp
  rw [eqC]
  simp only [Bool.false_eq_true, if_false]
  refine wpAny_bind (wpAny_pure ?_)
  simp only [Bool.false_eq_true, if_false]
  refine wpAny_bind (wpAny_mono one (fun r s' z => ?_) fun _ _ e => e)
  rcases z with ⟨b, rfl, q⟩
  exact wpAny_pure q
end
end IC
namespace IC
open PySem L2 TL
section
variable {X : Cx}
/-- an instance of C with its own == and the != of object -/
structure EqTxt (K : PySem.W.Frag) (C : Addr) (g : Addr) : Prop where
  eq : PySem.W.findIn K (.ref C) "__eq__" = some (some (.ref g))
  fn : PySem.W.isFn K (.ref g) = true
  ne : PySem.W.findIn K (.ref C) "__ne__" = some (some (.builtin "object.__ne__"))
  obj : PySem.W.mroIn K C (.type "object") = some true
  icl : PySem.W.isClsIn K C = true
  tyc : PySem.W.typeIn K (.ref C) = some (.type "type")
  gcl : PySem.W.findIn K (.ref C) "__class__" = some (some (.builtin "object.__class__"))
  cget : PySem.W.specialIn K (.builtin "object.__class__") "__get__" = some (some (.builtin "getset_descriptor.__get__"))
  ctk : PySem.W.takesIn K (.builtin "object.__class__") = some true
  cls : Cls K C
theorem EqTxt.ty {K : PySem.W.Frag} {C g : Addr} (E : EqTxt K C g) {H : Hp} {p d : Addr} {fs : List (Str × V)} (h : H p = some (.ins C d fs)) : TyX K H (.ref p) (.ref C) := .base (.ins h E.cls E.gcl E.cget E.ctk E.obj)
theorem sub_far {K : PySem.W.Frag} {C : Addr} {T : String} {l : List String} (h : PySem.fastBuiltinMro T = some (l.map Value.type)) : PySem.W.subIn K (.type T) (.ref C) = some false := by
  have no : ∀ l : List String, (l.map Value.type).contains (Value.ref C) = false := by
    intro l
    induction l with
    | nil => rfl
    | cons x l ih =>
      rw [List.map_cons, List.contains_cons, ih]
      simp
  show (PySem.fastBuiltinMro T).map (·.contains (.ref C)) = some false
  rw [h]
  exact congrArg some (no l)
theorem far_of {K : PySem.W.Frag} {C : Addr} {T : String} (e : PySem.W.subIn K (.type T) (.ref C) = some false) : PySem.W.notFirst K C (.type T) = true := by
  unfold PySem.W.notFirst
  rw [e]
  simp
theorem EqTxt.kit {K : PySem.W.Frag} {C g : Addr} (E : EqTxt K C g) {T : String} (e : PySem.W.subIn K (.type T) (.ref C) = some false) : PySem.W.kitOne K (.type T) (.ref C) = some false := by
  unfold PySem.W.kitOne
  rw [if_neg (by simp)]
  show (if ((PySem.W.clsIn K C).isSome && PySem.W.typeIn K (.ref C) == some (.type "type")) = true then PySem.W.subIn K (.type T) (.ref C) else none) = some false
  rw [if_pos (by
    rw [Bool.and_eq_true, E.tyc]
    exact ⟨E.icl, by simp⟩)]
  exact e
theorem EqTxt.self {K : PySem.W.Frag} {C g : Addr} (_ : EqTxt K C g) : PySem.W.kitOne K (.ref C) (.ref C) = some true := by
  unfold PySem.W.kitOne
  exact if_pos (by simp)
theorem sub_tup {K : PySem.W.Frag} {C : Addr} : PySem.W.subIn K (.type "tuple") (.ref C) = some false := sub_far (l := ["tuple", "object"]) (by decide +kernel)
theorem sub_str {K : PySem.W.Frag} {C : Addr} : PySem.W.subIn K (.type "str") (.ref C) = some false := sub_far (l := ["str", "object"]) (by decide +kernel)
theorem sub_non {K : PySem.W.Frag} {C : Addr} : PySem.W.subIn K (.type "NoneType") (.ref C) = some false := sub_far (l := ["NoneType", "object"]) (by decide +kernel)
theorem far_own {K : PySem.W.Frag} {C : Addr} : PySem.W.notFirst K C (.ref C) = true := by simp [PySem.W.notFirst]
def rEqOwn (K : PySem.W.Frag) (C : Addr) (sp : Sp) : R2 := fun x y H Q => ∃ (p dx : Addr) (fs : List (Str × V)) (t : Value), x = .ref p ∧ H p = some (.ins C dx fs) ∧ TyX K H y t ∧ PySem.W.notFirst K C t = true ∧ sp [.ref p, y] H Q E0
theorem op_eqOwn {C g : Addr} {k : Nat} {sp : Sp} (T : EqTxt X.K C g) (F : FnR X.prog X.w X.K X.mg X.base CX0 k g sp) (hr : Room k X.A) : OpR X (compareOp .Eq) (rEqOwn X.K C sp) := by
  rintro pins s σ H x y v u Q I rx ry ⟨p, dx, fs, t, rfl, hp, ty, far, h⟩
  cases rx
  rcases StX.insC_at I (.inr ⟨dx, fs, hp⟩) with ⟨ox, od, J1, _⟩
  rcases kit_of I ry ty with ⟨P, kx, px, _⟩
  rcases I.fr with ⟨m, hF⟩
  show wpAny (model X.prog X.w) X.A (richCompare .Eq (.ref p) u) (EP X pins σ Q) X.xe s
  refine PySem.W.cmp_K (op := .Eq) (tb := t) hr.units0 hF I.ok.mod.kin J1 (kx.ty _ _ I.kIn px) far T.eq T.fn ?_
  refine wpAny_mono (wpAny_call (run_fnR F hr pass0 I (.cons (show RelV (V.ref p) (Value.ref p) from rfl) (.cons ry .nil)) h)) (fun r s' e => ?_) fun _ _ e => e
  have e2 := e
  rcases e2 with ⟨y, H2, I2, ry, _⟩
  cases r <;> first | exact e | exact absurd ry no_ni
def rNeOwn (C : Addr) (sp : Sp) : R2 := fun x y H Q => ∃ (p q dx dy : Addr) (fs gs : List (Str × V)), x = .ref p ∧ y = .ref q ∧ H p = some (.ins C dx fs) ∧ H q = some (.ins C dy gs) ∧ sp [.ref p, .ref q] H (fun v H' => ∃ b : Bool, v = .bl b ∧ Q (.bl (!b)) H') E0
theorem op_neOwn {C g : Addr} {k : Nat} {sp : Sp} (T : EqTxt X.K C g) (F : FnR X.prog X.w X.K X.mg X.base CX0 k g sp) (hr : Room (k + 1) X.A) : OpR X (compareOp .NotEq) (rNeOwn C sp) := by
  rintro pins s σ H x y v u Q I rx ry ⟨p, q, dx, dy, fs, gs, rfl, rfl, hp, hq, h⟩
  cases rx
  cases ry
  rcases StX.insC_at I (.inr ⟨dx, fs, hp⟩) with ⟨ox, od, J1, _⟩
  rcases StX.insC_at I (.inr ⟨dy, gs, hq⟩) with ⟨oy, oe, J2, _⟩
  have run := F X.A.in1 X.stack s H [Value.ref p, Value.ref q] [V.ref p, V.ref q] _ E0 hr.in1 I.env0.in1 (.cons (show RelV (V.ref p) (Value.ref p) from rfl) (.cons (show RelV (V.ref q) (Value.ref q) from rfl) .nil)) h
  show wpAny (model X.prog X.w) X.A (richCompare .NotEq (.ref p) (.ref q)) (EP X pins σ Q) X.xe s
  refine own_ne hr.in1.units0 I.kIn J1 J2 T.obj T.ne T.eq T.fn (wpAny_call (codeAny_mono run fun r s' z => ?_))
  match r, z with
  | .error er, z => exact pass0 pins σ H s er s' I z
  | .ok .next, z => exact False.elim z
  | .ok .brk, z => exact False.elim z
  | .ok .cont, z => exact False.elim z
  | .ok (.ret u), z =>
    rcases I.after z with ⟨y, H2, I2, ry, b, rfl, q⟩
    have ry : u = Value.bool b := ry
    subst ry
    exact ⟨b, rfl, .bl (!b), H2, I2, rfl, q⟩
end
end IC
namespace IC
open PySem L2 TL
theorem cutV_M (xs : List V) (a b : Nat) : cutV xs (some (a : Int)) (some (b : Int)) = (xs.drop a).take (b - a) := by
  show (xs.drop (HT.sIx xs.length 0 (some (a : Int)))).take (HT.sIx xs.length xs.length (some (b : Int)) - HT.sIx xs.length 0 (some (a : Int))) = _
  rw [HT.sIx_nat, HT.sIx_nat]
  rcases Nat.le_total a xs.length with h | h
  · rw [Nat.min_eq_left h]
    rcases Nat.le_total b xs.length with h2 | h2
    · rw [Nat.min_eq_left h2]
    · rw [Nat.min_eq_right h2, List.take_of_length_le (by rw [List.length_drop]; omega), List.take_of_length_le (by rw [List.length_drop]; omega)]
  · rw [Nat.min_eq_right h, List.drop_eq_nil_of_le (Nat.le_refl _), List.drop_eq_nil_of_le h, List.take_nil, List.take_nil]
theorem cutV_R (xs : List V) (a : Nat) : cutV xs (some (a : Int)) none = xs.drop a := by
  show (xs.drop (HT.sIx xs.length 0 (some (a : Int)))).take (HT.sIx xs.length xs.length none - HT.sIx xs.length 0 (some (a : Int))) = _
  rw [HT.sIx_nat, HT.sIx_none]
  rcases Nat.le_total a xs.length with h | h
  · rw [Nat.min_eq_left h]
    exact List.take_of_length_le (by rw [List.length_drop]; exact Nat.le_refl _)
  · rw [Nat.min_eq_right h, Nat.sub_self, List.take_zero, List.drop_eq_nil_of_le h]
theorem cutV_L (xs : List V) (b : Nat) : cutV xs none (some (b : Int)) = xs.take b := by
  show (xs.drop (HT.sIx xs.length 0 none)).take (HT.sIx xs.length xs.length (some (b : Int)) - HT.sIx xs.length 0 none) = _
  rw [HT.sIx_nat, HT.sIx_none, List.drop_zero, Nat.sub_zero]
  rcases Nat.le_total b xs.length with h | h
  · rw [Nat.min_eq_left h]
  · rw [Nat.min_eq_right h, List.take_length, List.take_of_length_le h]
end IC
namespace IC
open PySem PySem.Spec PyProof.Rows L2 TL PySem.SeqAt
/-! ### xs == [], xs != [], whatever xs holds -/
def rEqNil (K : PySem.W.Frag) (ne : Bool) : R2 := fun x y H Q => ∃ (a b : Addr) (xs : List V), x = .ref a ∧ y = .ref b ∧ SqL K H a xs ∧ SqL K H b [] ∧ Q (.bl (if ne = true then !xs.isEmpty else xs.isEmpty)) H
theorem op_eqNil {X : Cx} (hu : X.A.units + 64 < cLine) : OpR X (compareOp .Eq) (rEqNil X.K false) := by
  rintro pins s σ H x y v u Q I rx ry ⟨a, b, xs, rfl, rfl, ha, hb, q⟩
  cases rx
  cases ry
  obtain ⟨its, rv, ⟨o, n, ho, hc, _, hd⟩, _⟩ := I.list ha
  obtain ⟨its2, rv2, ⟨o2, n2, ho2, hc2, _, hd2⟩, _⟩ := I.list hb
  have l1 := rv.length
  have l2 : its2.length = 0 := rv2.length.symm
  rw [if_neg (by decide)] at q
  cases xs with
  | nil =>
    have l1 : its.length = 0 := l1.symm
    refine eq_listAt (e := fun _ => true) ⟨o, ho, hc, n, hd⟩ ⟨o2, ho2, hc2, n2, hd2⟩ (by simp [l1, l2]) (by omega) (fun j h1 h2 => ?_) ?_
    · exact absurd h1 (by simp [l1])
    · have e : (List.range its.toArray.size).all (fun _ => true) = true := by rw [List.all_eq_true]; exact fun _ _ => rfl
      have q2 : EP X pins σ Q (.bool ((List.range its.toArray.size).all fun _ => true)) s := by rw [e]; exact ⟨.bl true, H, I, rfl, q⟩
      exact q2
  | cons y ys =>
    have l1 : its.length = ys.length + 1 := l1.symm
    refine eq_list_lengthsAt ⟨o, ho, hc, n, hd⟩ ⟨o2, ho2, hc2, n2, hd2⟩ (by simp [l1, l2]) (by omega) ?_
    exact ⟨.bl false, H, I, rfl, q⟩
theorem op_neNil {X : Cx} (hu : X.A.units + 64 < cLine) : OpR X (compareOp .NotEq) (rEqNil X.K true) := by
  rintro pins s σ H x y v u Q I rx ry ⟨a, b, xs, rfl, rfl, ha, hb, q⟩
  cases rx
  cases ry
  obtain ⟨its, rv, ⟨o, n, ho, hc, _, hd⟩, _⟩ := I.list ha
  obtain ⟨its2, rv2, ⟨o2, n2, ho2, hc2, _, hd2⟩, _⟩ := I.list hb
  have l1 := rv.length
  have l2 : its2.length = 0 := rv2.length.symm
  rw [if_pos rfl] at q
  cases xs with
  | nil =>
    have l1 : its.length = 0 := l1.symm
    refine RcNeAt.lists (e := fun _ => true) ⟨o, ho, hc, n, hd⟩ ⟨o2, ho2, hc2, n2, hd2⟩ (by simp [l1, l2]) (by omega) (fun j h1 h2 => ?_) _ _ _ _ ?_
    · exact absurd h1 (by simp [l1])
    · have e : (List.range its.toArray.size).all (fun _ => true) = true := by rw [List.all_eq_true]; exact fun _ _ => rfl
      have q2 : EP X pins σ Q (.bool (!(List.range its.toArray.size).all fun _ => true)) s := by rw [e]; exact ⟨.bl false, H, I, rfl, q⟩
      exact q2
  | cons y ys =>
    have l1 : its.length = ys.length + 1 := l1.symm
    refine RcNeAt.lists_lengths ⟨o, ho, hc, n, hd⟩ ⟨o2, ho2, hc2, n2, hd2⟩ (by simp [l1, l2]) (by omega) _ _ _ _ ?_
    exact ⟨.bl true, H, I, rfl, q⟩
end IC
namespace IC
open PySem PySem.W PySem.Calls PyProof.Rows
/-! ### len(x), x an instance of a class with its own __len__ -/
section
variable {prog : Program} {w : World} {A : Around} {E : Value → Shared → Prop} {s : Shared} {K : Frag} {x C f : Addr} {ox : Obj} {od : Option Obj}
theorem own_len {Q : Value → Shared → Prop} (X : K.In s.heap) (I : InstAt s.heap x ox C od) (has : findIn K (.ref C) "__len__" = some (some (.ref f))) (fn : isFn K (.ref f) = true)
    (go : wpAny (model prog w) A.in1 (call (.ref f) [.ref x]) (fun r s' => ∃ (n : Nat) (t : Tok), r = .int n t ∧ n < 1000000 ∧ ∀ u k, Q (.int n u) { s' with toks := k }) E s) : wpAny (model prog w) A (call (.builtin "len") [.ref x]) Q E s := by
  refine Calls.call_function_entry kind_len plain_len entry_len (args_len1 _) ?_
  unfold Builtin.«len»
  refine wpAny_bind (m := oneArg "len" _) (wpAny_pure ?_)
  refine wpAny_bind (m := callSpecial? (.ref x) (PySem.Str.ofString "__len__")) (special_fn X I has (beq_iff_eq.mp fn) (wpAny_mono go (fun r s' hr => ?_) fun _ _ q => q))
  obtain ⟨n, t, rfl, hn, q⟩ := hr
  refine wpAny_bind (wpAny_holding (wpAny_pure ?_))
  refine wpAny_bind (wpAny_letGo ?_)
  show wpAny _ _ (if ((n : Nat) : Int) < 0 then _ else _) _ _ _
  rw [if_neg (by omega)]
  show wpAny _ _ (if ((n : Nat) : Int) ≥ 2 ^ 63 then _ else _) _ _ _
  rw [if_neg (by omega)]
  exact wpAny_bind (wpAny_mkInt (wpAny_pure ⟨_, rfl, q _ _⟩))
end
end IC
namespace IC
open PySem L2 TL
section
variable {X : Cx}
def rLenOwn (C : Addr) (sp : Sp) : List V → Hp → VK → Prop := fun vs H Q => ∃ (p dx : Addr) (fs : List (Str × V)), vs = [.ref p] ∧ H p = some (.ins C dx fs) ∧ sp [.ref p] H (fun v H' => ∃ n : Nat, v = .int n ∧ n < 1000000 ∧ Q (.int n) H') E0
theorem cr_lenOwn {C g : Addr} {k : Nat} {sp : Sp} (has : PySem.W.findIn X.K (.ref C) "__len__" = some (some (.ref g))) (fn : PySem.W.isFn X.K (.ref g) = true) (F : FnR X.prog X.w X.K X.mg X.base CX0 k g sp) (hr : Room (k + 1) X.A) : CallR X (.builtin "len") (rLenOwn C sp) := by
  rintro pins s σ H vs us Q I rel ⟨p, dx, fs, rfl, hp, h⟩
  rcases vals1 rel with ⟨u, rfl, ru⟩
  cases ru
  rcases StX.insC_at I (.inr ⟨dx, fs, hp⟩) with ⟨ox, od, J, _⟩
  have run := F X.A.in1 X.stack s H [Value.ref p] [V.ref p] _ E0 hr.in1 I.env0.in1 (.cons (show RelV (V.ref p) (Value.ref p) from rfl) .nil) h
  refine own_len I.kIn J has fn (wpAny_call (codeAny_mono run fun r s' hq => ?_))
  match r, hq with
  | .error er, z => exact pass0 pins σ H s er s' I z
  | .ok .next, z => exact False.elim z
  | .ok .brk, z => exact False.elim z
  | .ok .cont, z => exact False.elim z
  | .ok (.ret u), z =>
    rcases I.after z with ⟨y, H2, I2, ry, n, rfl, hn, q⟩
    rcases ry with ⟨tk, rfl⟩
    exact ⟨n, tk, rfl, hn, fun u k => ⟨.int n, H2, I2.tok k, ⟨u, rfl⟩, q⟩⟩
end
end IC
namespace IC
open PySem L2 TL
/-! two sorted lists of the same texts, none twice, are one -/
def leS (a b : Str) : Prop := PySem.Spec.ltCps b.cps.toList a.cps.toList = false
theorem rise_all : ∀ (l : List Str) (p : Str), PyProof.Rows.risingS p l = true → leS p (l.headD p) ∧ PyProof.Rows.sortedS l = true
  | [], p, _ => ⟨by
      show PySem.Spec.ltCps p.cps.toList p.cps.toList = false
      rw [PyProof.Rows.ltCps_eq]
      exact decide_eq_false (List.lt_irrefl _), rfl⟩
  | x :: r, p, h => by
    have h : (!PySem.Spec.ltCps x.cps.toList p.cps.toList && PyProof.Rows.risingS x r) = true := h
    rw [Bool.and_eq_true, Bool.not_eq_true'] at h
    exact ⟨h.1, h.2⟩
theorem leS_iff {a b : Str} : leS a b ↔ ¬ b.cps.toList < a.cps.toList := by
  unfold leS
  rw [PyProof.Rows.ltCps_eq, decide_eq_false_iff_not]
theorem leS_trans {a b c : Str} (h1 : leS a b) (h2 : leS b c) : leS a c := by
  rw [leS_iff] at *
  exact fun h => h1 (List.lt_of_le_of_lt (List.not_lt.mp h2) h)
theorem leS_anti {a b : Str} (h1 : leS a b) (h2 : leS b a) : a = b := by
  rw [leS_iff] at *
  have e : a.cps.toList = b.cps.toList := List.le_antisymm (List.not_lt.mp h1) (List.not_lt.mp h2)
  rcases a with ⟨⟨a⟩⟩
  rcases b with ⟨⟨b⟩⟩
  have e : a = b := e
  rw [e]
theorem sorted_pw : ∀ l : List Str, PyProof.Rows.sortedS l = true → l.Pairwise leS
  | [], _ => .nil
  | x :: r, h => by
    have z := rise_all r x h
    have ih := sorted_pw r z.2
    refine List.pairwise_cons.mpr ⟨fun y hy => ?_, ih⟩
    cases r with
    | nil => cases hy
    | cons u r =>
      have hu : leS x u := z.1
      rcases List.mem_cons.mp hy with rfl | hy
      · exact hu
      · exact leS_trans hu ((List.pairwise_cons.mp ih).1 y hy)
theorem sorted_one {l m : List Str} (p : l.Perm m) (h1 : PyProof.Rows.sortedS l = true) (h2 : PyProof.Rows.sortedS m = true) : l = m :=
  p.eq_of_pairwise (le := leS) (fun a b _ _ => leS_anti) (sorted_pw l h1) (sorted_pw m h2)
theorem perm_mem {l m : List Str} (h1 : l.Nodup) (h2 : m.Nodup) (h : ∀ z, z ∈ l ↔ z ∈ m) : l.Perm m := (List.perm_ext_iff_of_nodup h1 h2).mpr h
theorem same_srt {ys zs : List Str} (s1 : PyProof.Rows.sortedS ys = true) (s2 : PyProof.Rows.sortedS zs = true) (n1 : ys.Nodup) (n2 : zs.Nodup) (m : ∀ z, z ∈ ys ↔ z ∈ zs) : ys = zs := sorted_one (perm_mem n1 n2 m) s1 s2
end IC
namespace IC
open PySem L2 TL
theorem sum_le8 : ∀ l : List Str, (∀ z ∈ l, z.length ≤ 8) → (l.map (·.length)).sum ≤ 8 * l.length
  | [], _ => Nat.le_refl _
  | x :: r, h => by
    have z1 := h x (List.mem_cons_self ..)
    have z2 := sum_le8 r fun z hz => h z (List.mem_cons_of_mem _ hz)
    rw [List.map_cons, List.sum_cons, List.length_cons]
    omega
theorem len_app (x y : Str) : (x ++ y).length = x.length + y.length := by
  rw [len_tl, len_tl, len_tl, tl_append, List.length_append]
theorem join_len0 (y : Str) : ∀ l : List Str, (Str.join y l).length ≤ (l.map (·.length)).sum + l.length * y.length
  | [] => Nat.zero_le _
  | [x] => by
    show x.length ≤ _
    simp
  | x :: z :: r => by
    have ih := join_len0 y (z :: r)
    show (x ++ y ++ Str.join y (z :: r)).length ≤ _
    rw [len_app, len_app]
    rw [List.map_cons, List.sum_cons, List.length_cons, Nat.succ_mul]
    omega
theorem join_len (y : Str) (l : List Str) : (Txt.join y l).length ≤ (l.map (·.length)).sum + l.length * y.length := by
  rw [join_eq]
  exact join_len0 y l
theorem big {n : Nat} (h : n ≤ 100000) : n ≤ sizeLine := Nat.le_trans h (by decide)
theorem pe_gv2 {X : Cx} {x : Str} {v : V} {pos : Pos} (h : ∃ u, X.mg x = some u ∧ RelV v u) (hg : Gl X x) (hdb : (x == ("__debug__" : Str)) = false := by decide) : PE X (.Name x pos) (tC v) := by
  rcases h with ⟨u, e, r⟩
  exact pe_glob hg e r hdb
theorem room_units {k : Nat} {A : Around} (hr : Room k A) : A.units < cLine := by
  have := hr.un
  omega
end IC
namespace IC
open PySem L2 TL PyProof.Rows
theorem iteT' {c A B : Prop} [Decidable c] (hc : c) (h : A) : if c then A else B := by
  rw [if_pos hc]
  exact h
theorem iteF' {c A B : Prop} [Decidable c] (hc : ¬ c) (h : B) : if c then A else B := by
  rw [if_neg hc]
  exact h
/-! ### rows of a library's text -/
/-- the text of a row -/
def rowT (n : Nat) (ws : List Str) : Str := ⟨(List.replicate (2 * n) 32 ++ tl (Txt.join (Str.ofString " ") ws)).toArray⟩
theorem tl_row (n : Nat) (ws : List Str) : tl (rowT n ws) = List.replicate (2 * n) 32 ++ tl (Txt.join (Str.ofString " ") ws) := rfl
theorem tl_sp : tl (Str.ofString " ") = [32] := by decide +kernel
theorem IsW.no {z : Str} (h : IsW z) {c : Nat} (hc : c < 97) : c ∉ tl z := fun m => by
  have := (h.2.2 c m).1
  omega
theorem IsW.ne {z : Str} (h : IsW z) : ∃ c r, tl z = c :: r ∧ 97 ≤ c := by
  cases e : tl z with
  | nil =>
    have := h.1
    rw [e] at this
    cases this
  | cons c r => exact ⟨c, r, rfl, (h.2.2 c (by rw [e]; exact List.mem_cons_self ..)).1⟩
theorem tl_joinW : ∀ ws : List Str, tl (Txt.join (Str.ofString " ") ws) = joinL [32] (ws.map tl) := fun ws => by
  rw [join_eq, tl_join, tl_sp]
theorem join_head {w : Str} {ws : List Str} (h : IsW w) : ∃ c r, tl (Txt.join (Str.ofString " ") (w :: ws)) = c :: r ∧ 97 ≤ c := by
  obtain ⟨c, r, e, hc⟩ := h.ne
  rw [tl_joinW]
  cases ws with
  | nil => exact ⟨c, r, e, hc⟩
  | cons y ws => exact ⟨c, _, (by show tl w ++ ([32] ++ joinL [32] ((y :: ws).map tl)) = _; rw [e]; rfl), hc⟩
theorem str_ext {a b : Str} (h : tl a = tl b) : a = b := by
  rcases a with ⟨⟨a⟩⟩
  rcases b with ⟨⟨b⟩⟩
  have h : a = b := h
  rw [h]
theorem take_rep {n : Nat} {l : List Nat} (p : Nat → Bool) (hp : p 32 = true) (h : ∀ c r, l = c :: r → p c = false) : (List.replicate n 32 ++ l).takeWhile p = List.replicate n 32 := by
  induction n with
  | zero =>
    show l.takeWhile p = []
    cases l with
    | nil => rfl
    | cons c r => rw [List.takeWhile_cons, h c r rfl]; rfl
  | succ n ih =>
    rw [List.replicate_succ, List.cons_append, List.takeWhile_cons, hp, ih]
    rfl
theorem lstrip_row {n : Nat} {w : Str} {ws : List Str} (h : IsW w) : Txt.lstripChars (rowT n (w :: ws)) (Str.ofString " ") = Txt.join (Str.ofString " ") (w :: ws) := by
  obtain ⟨c, r, e, hc⟩ := join_head (ws := ws) h
  have e32 : (Str.ofString " ").cps = #[32] := by decide +kernel
  have lo : stripLo (Str.ofString " ").cps.contains true (rowT n (w :: ws)) = 2 * n := by
    show ((tl (rowT n (w :: ws))).takeWhile _).length = _
    rw [tl_row, take_rep _ (by rw [e32]; decide +kernel) (fun c' r' e' => ?_), List.length_replicate]
    rw [e] at e'
    cases e'
    rw [e32]
    show (#[32] : Array Nat).contains c = false
    rw [Array.contains_eq_mem]
    exact decide_eq_false fun m => by
      have : c = 32 := by simpa using m
      omega
  refine str_ext ?_
  unfold Txt.lstripChars
  rw [stripBy_eq, lo]
  show ((rowT n (w :: ws)).cps.extract (2 * n) (rowT n (w :: ws)).length).toList = _
  rw [Array.toList_extract]
  show ((tl (rowT n (w :: ws))).drop (2 * n)).take ((rowT n (w :: ws)).length - 2 * n) = _
  rw [len_tl, tl_row, List.drop_left' (List.length_replicate ..), List.length_append, List.length_replicate]
  exact List.take_of_length_le (by omega)
theorem split_row {ws : List Str} (ne : ws ≠ []) (h : ∀ z ∈ ws, IsW z) : Txt.split (Txt.join (Str.ofString " ") ws) (Str.ofString " ") = ws := split_join tl_sp (by decide +kernel) ne fun p hp => (h p hp).no (by decide)
theorem row_len (n : Nat) (ws : List Str) : (rowT n ws).length = 2 * n + (Txt.join (Str.ofString " ") ws).length := by
  rw [len_tl, tl_row, List.length_append, List.length_replicate, len_tl]
def w0 : List Str → Str
  | [] => Str.empty
  | w :: _ => w
def w1 : List Str → Str
  | _ :: w :: _ => w
  | _ => Str.empty
theorem iteS {a b : Str} {A B : Prop} (h1 : a = b → A) (h2 : ¬ a = b → B) : if decide (V.str a = V.str b) = true then A else B := by
  by_cases e : a = b
  · rw [if_pos (decide_eq_true (by rw [e]))]
    exact h1 e
  · rw [if_neg (by simp [e])]
    exact h2 e
/-! ### which words make a row -/
def keepB (ws : List Str) : Bool := decide (ws = []) || (decide (w0 ws = Str.ofString "keep") && decide (1 < ws.length))
def fixA : List Str := ["function", "write", "raise", "call"]
def fixB : List Str := ["pass", "doom", "maybe", "repeat", "try", "finally"]
def formB (ms : List Str) (ws : List Str) : Bool :=
  if decide (w0 ws ∈ fixA) then decide (ws.length = 2)
  else if decide (w0 ws = Str.ofString "block") then decide (1 < ws.length) && (decide (w1 ws ∈ ms) && keepB (ws.drop 2))
  else if decide (w0 ws = Str.ofString "except") then true
  else decide (w0 ws ∈ fixB) && decide (ws.length = 1)
def leadS : List Str := ["block", "maybe", "repeat", "try"]
def follS : List Str := ["except", "finally"]
def nestB (z : Str) (n : Nat) : Bool := if decide (z = Str.ofString "function") then decide (n = 0) else decide (1 ≤ n) && decide (n ≤ if decide (z ∈ leadS ++ follS) then 7 else 8)
/-- a tuple of texts that stands in the text -/
structure TupG (K : PySem.W.Frag) (mg : Str → Option Value) (x : Str) (t : Addr) (zs : List Str) : Prop where
  m : mg x = some (.ref t)
  tup : ∃ (o : Obj) (its : Array Value) (n : Nat), K.lookup t = some o ∧ o.cls = .type "tuple" ∧ o.data = .seq its n ∧ its.size ≤ sizeLine ∧ Vals (zs.map V.str) its.toList
theorem TupG.seq {K : PySem.W.Frag} {mg : Str → Option Value} {x : Str} {t : Addr} {zs : List Str} (h : TupG K mg x t zs) (H : Hp) : SqT K H t (zs.map V.str) := .inr h.tup
theorem shaped_s {zs : List Str} (h : ∀ z ∈ zs, IsW z) : SeqAt.shaped (.list (zs.map PyData.str)) = true := shaped_strs zs fun z hz c hc => ((h z hz).2.2 c hc).ok
theorem eqv_s : ∀ xs ys : List Str, PyData.eqvAll (xs.map PyData.str) (ys.map PyData.str) = decide (xs = ys)
  | [], [] => rfl
  | [], _ :: _ => rfl
  | _ :: _, [] => rfl
  | x :: xs, y :: ys => by
    show (x == y && PyData.eqvAll (xs.map PyData.str) (ys.map PyData.str)) = _
    rw [eqv_s xs ys, Bool.eq_iff_iff, Bool.and_eq_true, beq_iff_eq, decide_eq_true_iff, decide_eq_true_iff, List.cons.injEq]
theorem eqvL (xs ys : List Str) : PyData.eqv (.list (xs.map PyData.str)) (.list (ys.map PyData.str)) = decide (xs = ys) := eqv_s xs ys
theorem dpL {K : PySem.W.Frag} {H : Hp} {a : Addr} {zs : List Str} (h : H a = some (.lst (zs.map V.str))) : Dp K H (.ref a) (.list (zs.map PyData.str)) := .lst (SqL.of h) (dpAll_strs zs)
theorem inV_s (z : Str) (ks : List Str) : inV (.str z) (ks.map V.str) = decide (z ∈ ks) := by
  unfold inV
  induction ks with
  | nil => rfl
  | cons y ks ih =>
    rw [List.map_cons, List.any_cons, ih]
    have e : eqV (.str y) (.str z) = decide (z = y) := by
      show (y == z) = decide (z = y)
      rw [Bool.eq_iff_iff, beq_iff_eq, decide_eq_true_iff]
      exact eq_comm
    rw [e, Bool.eq_iff_iff, Bool.or_eq_true, decide_eq_true_iff, decide_eq_true_iff, decide_eq_true_iff, List.mem_cons]
theorem inq (z : Str) (ks : List Str) : (if false = true then !inV (V.str z) (ks.map V.str) else inV (V.str z) (ks.map V.str)) = decide (z ∈ ks) := by
  rw [if_neg (by decide), inV_s]
theorem ninq (z : Str) (ks : List Str) : (if true = true then !inV (V.str z) (ks.map V.str) else inV (V.str z) (ks.map V.str)) = !decide (z ∈ ks) := by
  rw [if_pos rfl, inV_s]
theorem wB_ofW {z : Str} (h : IsW z) : wB z = true := by
  obtain ⟨h1, h2, h3⟩ := h
  unfold wB
  rw [decide_eq_true h1, decide_eq_true h2]
  show (tl z).all lB = true
  rw [List.all_eq_true]
  intro x hx
  have q := h3 x hx
  unfold lB
  rw [decide_eq_true q.1, decide_eq_true q.2]
  rfl
theorem flatS (ks : List Str) : (ks.map V.str).all flatV = true := by
  rw [List.all_eq_true]
  intro x hx
  rcases List.mem_map.mp hx with ⟨y, _, rfl⟩
  rfl
theorem at0 {ws : List Str} (ne : ws ≠ []) : atI (ws.map V.str) 0 = some (.str (w0 ws)) := by
  cases ws with
  | nil => exact absurd rfl ne
  | cons w ws => exact atI_nat (j := 0) rfl
theorem at1 {ws : List Str} (h : 1 < ws.length) : atI (ws.map V.str) 1 = some (.str (w1 ws)) := by
  match ws, h with
  | _ :: y :: _, _ => exact atI_nat (j := 1) rfl
theorem cutR (ws : List Str) (k : Nat) : cutV (ws.map V.str) (some (k : Int)) none = (ws.drop k).map V.str := by
  rw [cutV_R, List.map_drop]
end IC
namespace IC
open PySem L2 TL PyProof.Rows
/-! ### a library that is read: its rows, where they stand -/
structure LC where
  S : Addr
  Hd : Addr
  R : Addr
/-- a row: its nesting and words, the words' list, its body, for a statement its own places and the body that it is of; for except and finally the statement they belong to -/
structure LR where
  n : Nat
  ws : List Str
  wl : Addr
  b : Addr
  a : Addr
  dx : Addr
  kt : Addr
  h : Addr
  ht : Addr
  hw : Addr
  par : Addr
  st : Addr
  num : Nat
def LR.isF (r : LR) : Bool := decide (w0 r.ws = Str.ofString "function")
def LR.isX (r : LR) : Bool := decide (w0 r.ws = Str.ofString "except")
def LR.isL (r : LR) : Bool := decide (w0 r.ws = Str.ofString "finally")
def LR.isS (r : LR) : Bool := !(r.isF || (r.isX || r.isL))
structure Hd where
  r : LR
  o : Addr
  od : Addr
def Hd.sv (p : Hd) : V := if p.r.isF = true then .non else if p.r.isS = true then .ref p.r.a else .ref p.r.st
def kids (R : List LR) (b : Addr) : List LR := R.filter fun r => r.isS && decide (r.par = b)
def exs (R : List LR) (a : Addr) : List LR := R.filter fun r => r.isX && decide (r.st = a)
def las (R : List LR) (a : Addr) : List LR := R.filter fun r => r.isL && decide (r.st = a)
def lastV (R : List LR) (a : Addr) : V := match (las R a).getLast? with
  | some r => .ref r.b
  | none => .non
def stf (r : LR) (lv : V) : List (Str × V) := [("kind", .str (w0 r.ws)), ("number", .int r.num), ("word", .str (w1 r.ws)), ("kept", .ref r.kt), ("body", .ref r.b), ("handlers", .ref r.h), ("last", lv)]
def hdf (p : Hd) : List (Str × V) := [("words", .ref p.r.wl), ("statement", p.sv), ("body", .ref p.r.b)]
structure RdP where
  rd : Addr
  dx : Addr
  rl : Addr
  bd : Addr
  hl : Addr
def rdf (q : RdP) (k : Nat) : List (Str × V) := [("rows", .ref q.rl), ("bodies", .ref q.bd), ("_headers", .ref q.hl), ("_many_blocks", .int k)]
def LR.ls (r : LR) : List Addr := if r.isS = true then [r.wl, r.b, r.h] else [r.wl, r.b]
def LA (q : RdP) (R : List LR) : List Addr := q.rl :: R.flatMap LR.ls
def fnB (R : List LR) : List (Key × V) := (R.filter LR.isF).map fun r => (Sum.inr (w1 r.ws), V.ref r.b)
structure RdG (c : LC) (H : Hp) (F : Addr → Prop) (q : RdP) (R : List LR) (P : List Hd) (k : Nat) (xs : List V) : Prop where
  o : H q.rd = some (.ins c.R q.dx (rdf q k))
  rl : H q.rl = some (.lst xs)
  bd : H q.bd = some (.dK (fnB R))
  hl : H q.hl = some (.lst (P.map fun p => .ref p.o))
  w : ∀ r ∈ R, H r.wl = some (.lst (r.ws.map V.str))
  b : ∀ r ∈ R, H r.b = some (.lst ((kids R r.b).map fun s => .ref s.a))
  s : ∀ r ∈ R, r.isS = true → H r.a = some (.ins c.S r.dx (stf r (lastV R r.a))) ∧ H r.kt = some (.tup ((r.ws.drop 3).map V.str)) ∧ H r.h = some (.lst ((exs R r.a).map fun s => .ref s.ht))
  x : ∀ r ∈ R, r.isX = true → H r.ht = some (.tup [.ref r.hw, .ref r.b]) ∧ H r.hw = some (.tup ((r.ws.drop 1).map V.str))
  hd : ∀ p ∈ P, H p.o = some (.ins c.Hd p.od (hdf p))
  hr : ∀ p ∈ P, p.r ∈ R
  nl : (LA q R).Nodup
  nh : q.hl ∉ LA q R
  na : ((R.filter LR.isS).map LR.a).Nodup
  nf : ((R.filter LR.isF).map fun r => w1 r.ws).Nodup
  par : ∀ r ∈ R, r.isS = true → ∃ p ∈ R, p.b = r.par
  stx : ∀ r ∈ R, r.isF = false → r.isS = false → ∃ s ∈ R, s.isS = true ∧ s.a = r.st
  ne : ∀ r ∈ R, r.ws ≠ [] ∧ (∀ z ∈ r.ws, IsW z) ∧ r.ws.length ≤ 20
  fo : F q.rd ∧ F q.rl ∧ F q.bd ∧ F q.hl
  fr : ∀ r ∈ R, F r.b ∧ (r.isS = true → F r.a ∧ F r.h)
def lackB (R : List LR) (P : List Hd) : Bool := match P.getLast? with
  | some p => (kids R p.r.b).isEmpty
  | none => false
def bareB (P : List Hd) (n : Nat) : Bool := (P.drop n).any fun p => decide (w0 p.r.ws = Str.ofString "try")
def goB (ws : List Str) (z : Str) : Bool := if z = Str.ofString "except" then decide (w0 ws = Str.ofString "try") || (decide (w0 ws = Str.ofString "except") && decide (1 < ws.length)) else decide (w0 ws = Str.ofString "try") || decide (w0 ws = Str.ofString "except")
section
variable {c : LC} {H H' : Hp} {F F' : Addr → Prop} {q : RdP} {R : List LR} {P : List Hd} {k : Nat} {xs : List V}
theorem RdG.mv (G : RdG c H F q R P k xs) (h : ∀ y o, H y = some o → H' y = some o) (f : ∀ y, F y → F' y) : RdG c H' F' q R P k xs :=
  { G with
    o := h _ _ G.o
    rl := h _ _ G.rl
    bd := h _ _ G.bd
    hl := h _ _ G.hl
    w := fun r hr => h _ _ (G.w r hr)
    b := fun r hr => h _ _ (G.b r hr)
    s := fun r hr e => ⟨h _ _ (G.s r hr e).1, h _ _ (G.s r hr e).2.1, h _ _ (G.s r hr e).2.2⟩
    x := fun r hr e => ⟨h _ _ (G.x r hr e).1, h _ _ (G.x r hr e).2⟩
    hd := fun p hp => h _ _ (G.hd p hp)
    fo := ⟨f _ G.fo.1, f _ G.fo.2.1, f _ G.fo.2.2.1, f _ G.fo.2.2.2⟩
    fr := fun r hr => ⟨f _ (G.fr r hr).1, fun e => ⟨f _ ((G.fr r hr).2 e).1, f _ ((G.fr r hr).2 e).2⟩⟩ }
theorem RdG.same (G : RdG c H F q R P k xs) (s : Same H H') : RdG c H' F q R P k xs := G.mv s fun _ z => z
theorem kids_snoc (R : List LR) (r : LR) (b : Addr) : kids (R ++ [r]) b = kids R b ++ (if (r.isS && decide (r.par = b)) = true then [r] else []) := by
  unfold kids
  rw [List.filter_append, List.filter_cons, List.filter_nil]
theorem exs_snoc (R : List LR) (r : LR) (b : Addr) : exs (R ++ [r]) b = exs R b ++ (if (r.isX && decide (r.st = b)) = true then [r] else []) := by
  unfold exs
  rw [List.filter_append, List.filter_cons, List.filter_nil]
theorem las_snoc (R : List LR) (r : LR) (b : Addr) : las (R ++ [r]) b = las R b ++ (if (r.isL && decide (r.st = b)) = true then [r] else []) := by
  unfold las
  rw [List.filter_append, List.filter_cons, List.filter_nil]
theorem LA_snoc (q : RdP) (R : List LR) (r : LR) : LA q (R ++ [r]) = LA q R ++ r.ls := by
  unfold LA
  rw [List.flatMap_append, List.cons_append]
  simp
theorem LR.b_mem (r : LR) : r.b ∈ r.ls := by
  unfold LR.ls
  split <;> simp
theorem LR.wl_mem (r : LR) : r.wl ∈ r.ls := by
  unfold LR.ls
  split <;> simp
theorem RdG.bm (G : RdG c H F q R P k xs) {r : LR} (h : r ∈ R) : r.b ∈ LA q R := List.mem_cons_of_mem _ (List.mem_flatMap.mpr ⟨r, h, r.b_mem⟩)
theorem RdG.wm (G : RdG c H F q R P k xs) {r : LR} (h : r ∈ R) : r.wl ∈ LA q R := List.mem_cons_of_mem _ (List.mem_flatMap.mpr ⟨r, h, r.wl_mem⟩)
theorem RdG.hm (G : RdG c H F q R P k xs) {r : LR} (h : r ∈ R) (e : r.isS = true) : r.h ∈ LA q R := List.mem_cons_of_mem _ (List.mem_flatMap.mpr ⟨r, h, by unfold LR.ls; rw [if_pos e]; simp⟩)
/-- what the lists' places hold -/
theorem RdG.lsts (G : RdG c H F q R P k xs) {y : Addr} (h : y ∈ LA q R) : ∃ ys, H y = some (.lst ys) := by
  rcases List.mem_cons.mp h with rfl | h
  · exact ⟨_, G.rl⟩
  · obtain ⟨r, hr, h⟩ := List.mem_flatMap.mp h
    unfold LR.ls at h
    split at h
    · rename_i e
      simp only [List.mem_cons, List.not_mem_nil, or_false] at h
      rcases h with rfl | rfl | rfl
      · exact ⟨_, G.w r hr⟩
      · exact ⟨_, G.b r hr⟩
      · exact ⟨_, (G.s r hr e).2.2⟩
    · simp only [List.mem_cons, List.not_mem_nil, or_false] at h
      rcases h with rfl | rfl
      · exact ⟨_, G.w r hr⟩
      · exact ⟨_, G.b r hr⟩
end
end IC
namespace IC
open PySem L2 TL
/-! ### the text by places -/
def top (i : Nat) : Stmt := PySem.Challenge.pw_innercommits_k20_parts_of_libraries.main.body.getD i (.Pass ⟨0, 0, 0, 0⟩)
abbrev s_law_pool : Stmt := top 38
abbrev s_law_draw : Stmt := top 39
abbrev s_law_word : Stmt := top 40
abbrev s_is_word : Stmt := top 18
abbrev s_Mode_is_mode : Stmt := inClass (top 19) 9
abbrev s_are_keeping : Stmt := top 28
abbrev s_are_formed : Stmt := top 27
abbrev s_can_nest : Stmt := top 29
abbrev s_split_line : Stmt := top 26
abbrev s_Statement___init__ : Stmt := inClass (top 24) 0
abbrev s_Header___init__ : Stmt := inClass (top 25) 0
abbrev s_Header_is_bare_try : Stmt := inClass (top 25) 1
abbrev s_Header_can_go_on : Stmt := inClass (top 25) 2
abbrev s_Reader__lacks_body : Stmt := inClass (top 30) 3
abbrev s_Reader__leaves_bare_try : Stmt := inClass (top 30) 4
abbrev s_Reader__can_follow : Stmt := inClass (top 30) 5
abbrev s_Reader__add_function : Stmt := inClass (top 30) 6
abbrev s_Reader__add_following : Stmt := inClass (top 30) 7
abbrev s_Reader__add_statement : Stmt := inClass (top 30) 8
abbrev s_Reader___init__ : Stmt := inClass (top 30) 0
abbrev s_Reader_read : Stmt := inClass (top 30) 1
abbrev s_Reader_finish : Stmt := inClass (top 30) 2
abbrev s_Statement_inner_bodies : Stmt := inClass (top 24) 1
abbrev s_unguarded : Stmt := top 10
abbrev s_guarded_bodies : Stmt := top 11
abbrev s_calls_in : Stmt := top 12
abbrev s_weight : Stmt := top 16
abbrev s_comes_back : Stmt := top 14
abbrev s_weigh : Stmt := top 15
abbrev s_check_calls : Stmt := top 13
abbrev s_mentioned_errors : Stmt := top 35
abbrev s_Library_functions : Stmt := inClass (top 36) 6
abbrev s_Library_records : Stmt := inClass (top 36) 7
abbrev s_Library_errors : Stmt := inClass (top 36) 8
abbrev s_Library_unknown : Stmt := inClass (top 36) 9
abbrev s_Library_blocks : Stmt := inClass (top 36) 10
abbrev s_Library__check_counts : Stmt := inClass (top 36) 2
abbrev s_Library___len__ : Stmt := inClass (top 36) 12
abbrev s_Library__take : Stmt := inClass (top 36) 1
abbrev s_Library___init__ : Stmt := inClass (top 36) 0
abbrev s_law_different : Stmt := top 41
abbrev s_law_pick : Stmt := top 42
abbrev s_law_row : Stmt := top 43
abbrev s_law_body : Stmt := top 44
abbrev s_law_statement : Stmt := top 45
abbrev s_law_try : Stmt := top 46
abbrev s_law_library : Stmt := top 47
abbrev s_NoFunction___init__ : Stmt := inClass (top 6) 0
abbrev s_Library___contains__ : Stmt := inClass (top 36) 13
abbrev s_Library___getitem__ : Stmt := inClass (top 36) 14
abbrev s_Library___eq__ : Stmt := inClass (top 36) 15
abbrev s_Library___str__ : Stmt := inClass (top 36) 16
abbrev s_law_lines : Stmt := top 48
abbrev s_law_due : Stmt := top 50
abbrev s_law_asked : Stmt := top 49
abbrev s_law : Stmt := top 51
theorem sc_law_pool : FnScope ["script", "at", "cell", "size", "seed"] ["script", "at"] (defScope s_law_pool) := ⟨rfl, rfl, rfl, by decide +kernel, rfl, by decide +kernel, by decide +kernel⟩
theorem sc_law_draw : FnScope ["pool", "many", "digit", "count", "mixed"] ["pool", "many"] (defScope s_law_draw) := ⟨rfl, rfl, rfl, by decide +kernel, rfl, by decide +kernel, by decide +kernel⟩
theorem sc_law_word : FnScope ["pool", "letters", "k"] ["pool"] (defScope s_law_word) := ⟨rfl, rfl, rfl, by decide +kernel, rfl, by decide +kernel, by decide +kernel⟩
theorem sc_is_word : FnScope ["thing", "letter"] ["thing"] (defScope s_is_word) := ⟨rfl, rfl, rfl, by decide +kernel, rfl, by decide +kernel, by decide +kernel⟩
theorem sc_Mode_is_mode : FnScope ["thing"] ["thing"] (defScope s_Mode_is_mode) := ⟨rfl, rfl, rfl, by decide +kernel, rfl, by decide +kernel, by decide +kernel⟩
theorem sc_are_keeping : FnScope ["words"] ["words"] (defScope s_are_keeping) := ⟨rfl, rfl, rfl, by decide +kernel, rfl, by decide +kernel, by decide +kernel⟩
theorem sc_are_formed : FnScope ["words", "kind"] ["words"] (defScope s_are_formed) := ⟨rfl, rfl, rfl, by decide +kernel, rfl, by decide +kernel, by decide +kernel⟩
theorem sc_can_nest : FnScope ["kind", "nesting", "deepest"] ["kind", "nesting"] (defScope s_can_nest) := ⟨rfl, rfl, rfl, by decide +kernel, rfl, by decide +kernel, by decide +kernel⟩
theorem sc_split_line : FnScope ["line", "bare", "words", "spaces", "nesting", "word"] ["line"] (defScope s_split_line) := ⟨rfl, rfl, rfl, by decide +kernel, rfl, by decide +kernel, by decide +kernel⟩
theorem sc_Statement___init__ : FnScope ["self", "words", "number"] ["self", "words", "number"] (defScope s_Statement___init__) := ⟨rfl, rfl, rfl, by decide +kernel, rfl, by decide +kernel, by decide +kernel⟩
theorem sc_Header___init__ : FnScope ["self", "words", "statement", "body"] ["self", "words", "statement", "body"] (defScope s_Header___init__) := ⟨rfl, rfl, rfl, by decide +kernel, rfl, by decide +kernel, by decide +kernel⟩
theorem sc_Header_is_bare_try : FnScope ["self"] ["self"] (defScope s_Header_is_bare_try) := ⟨rfl, rfl, rfl, by decide +kernel, rfl, by decide +kernel, by decide +kernel⟩
theorem sc_Header_can_go_on : FnScope ["self", "kind"] ["self", "kind"] (defScope s_Header_can_go_on) := ⟨rfl, rfl, rfl, by decide +kernel, rfl, by decide +kernel, by decide +kernel⟩
theorem sc_Reader__lacks_body : FnScope ["self"] ["self"] (defScope s_Reader__lacks_body) := ⟨rfl, rfl, rfl, by decide +kernel, rfl, by decide +kernel, by decide +kernel⟩
theorem sc_Reader__leaves_bare_try : FnScope ["self", "nesting", "header"] ["self", "nesting"] (defScope s_Reader__leaves_bare_try) := ⟨rfl, rfl, rfl, by decide +kernel, rfl, by decide +kernel, by decide +kernel⟩
theorem sc_Reader__can_follow : FnScope ["self", "nesting", "words", "kind"] ["self", "nesting", "words"] (defScope s_Reader__can_follow) := ⟨rfl, rfl, rfl, by decide +kernel, rfl, by decide +kernel, by decide +kernel⟩
theorem sc_Reader__add_function : FnScope ["self", "words", "body"] ["self", "words"] (defScope s_Reader__add_function) := ⟨rfl, rfl, rfl, by decide +kernel, rfl, by decide +kernel, by decide +kernel⟩
theorem sc_Reader__add_following : FnScope ["self", "nesting", "words", "body", "statement"] ["self", "nesting", "words"] (defScope s_Reader__add_following) := ⟨rfl, rfl, rfl, by decide +kernel, rfl, by decide +kernel, by decide +kernel⟩
theorem sc_Reader__add_statement : FnScope ["self", "nesting", "words", "statement"] ["self", "nesting", "words"] (defScope s_Reader__add_statement) := ⟨rfl, rfl, rfl, by decide +kernel, rfl, by decide +kernel, by decide +kernel⟩
theorem sc_Reader___init__ : FnScope ["self"] ["self"] (defScope s_Reader___init__) := ⟨rfl, rfl, rfl, by decide +kernel, rfl, by decide +kernel, by decide +kernel⟩
theorem sc_Reader_read : FnScope ["self", "line", "nesting", "words"] ["self", "line"] (defScope s_Reader_read) := ⟨rfl, rfl, rfl, by decide +kernel, rfl, by decide +kernel, by decide +kernel⟩
theorem sc_Reader_finish : FnScope ["self"] ["self"] (defScope s_Reader_finish) := ⟨rfl, rfl, rfl, by decide +kernel, rfl, by decide +kernel, by decide +kernel⟩
theorem sc_Statement_inner_bodies : FnScope ["self", "found", "_", "body"] ["self"] (defScope s_Statement_inner_bodies) := ⟨rfl, rfl, rfl, by decide +kernel, rfl, by decide +kernel, by decide +kernel⟩
theorem sc_unguarded : FnScope ["body", "found", "statement", "inner"] ["body"] (defScope s_unguarded) := ⟨rfl, rfl, rfl, by decide +kernel, rfl, by decide +kernel, by decide +kernel⟩
theorem sc_guarded_bodies : FnScope ["body", "found", "statement", "inner"] ["body"] (defScope s_guarded_bodies) := ⟨rfl, rfl, rfl, by decide +kernel, rfl, by decide +kernel, by decide +kernel⟩
theorem sc_calls_in : FnScope ["body", "bodies", "every", "one"] ["body", "bodies"] (defScope s_calls_in) := ⟨rfl, rfl, rfl, by decide +kernel, rfl, by decide +kernel, by decide +kernel⟩
theorem sc_weight : FnScope ["body", "bodies", "weights", "name"] ["body", "bodies", "weights"] (defScope s_weight) := ⟨rfl, rfl, rfl, by decide +kernel, rfl, by decide +kernel, by decide +kernel⟩
theorem sc_comes_back : FnScope ["name", "called", "seen", "waiting", "other"] ["name", "called"] (defScope s_comes_back) := ⟨rfl, rfl, rfl, by decide +kernel, rfl, by decide +kernel, by decide +kernel⟩
theorem sc_weigh : FnScope ["name", "bodies", "weights", "other"] ["name", "bodies", "weights"] (defScope s_weigh) := ⟨rfl, rfl, rfl, by decide +kernel, rfl, by decide +kernel, by decide +kernel⟩
theorem sc_check_calls : FnScope ["bodies", "called", "name", "weights", "body"] ["bodies"] (defScope s_check_calls) := ⟨rfl, rfl, rfl, by decide +kernel, rfl, by decide +kernel, by decide +kernel⟩
theorem sc_mentioned_errors : FnScope ["words"] ["words"] (defScope s_mentioned_errors) := ⟨rfl, rfl, rfl, by decide +kernel, rfl, by decide +kernel, by decide +kernel⟩
theorem sc_Library_functions : FnScope ["self"] ["self"] (defScope s_Library_functions) := ⟨rfl, rfl, rfl, by decide +kernel, rfl, by decide +kernel, by decide +kernel⟩
theorem sc_Library_records : FnScope ["self", "words"] ["self"] (defScope s_Library_records) := ⟨rfl, rfl, rfl, by decide +kernel, rfl, by decide +kernel, by decide +kernel⟩
theorem sc_Library_errors : FnScope ["self", "found", "words"] ["self"] (defScope s_Library_errors) := ⟨rfl, rfl, rfl, by decide +kernel, rfl, by decide +kernel, by decide +kernel⟩
theorem sc_Library_unknown : FnScope ["self", "called", "words", "name"] ["self"] (defScope s_Library_unknown) := ⟨rfl, rfl, rfl, by decide +kernel, rfl, by decide +kernel, by decide +kernel⟩
theorem sc_Library_blocks : FnScope ["self", "words"] ["self"] (defScope s_Library_blocks) := ⟨rfl, rfl, rfl, by decide +kernel, rfl, by decide +kernel, by decide +kernel⟩
theorem sc_Library__check_counts : FnScope ["self", "counts", "what", "many", "most"] ["self"] (defScope s_Library__check_counts) := ⟨rfl, rfl, rfl, by decide +kernel, rfl, by decide +kernel, by decide +kernel⟩
theorem sc_Library___len__ : FnScope ["self"] ["self"] (defScope s_Library___len__) := ⟨rfl, rfl, rfl, by decide +kernel, rfl, by decide +kernel, by decide +kernel⟩
theorem sc_Library__take : FnScope ["self", "text", "reader", "lines", "line", "words"] ["self", "text"] (defScope s_Library__take) := ⟨rfl, rfl, rfl, by decide +kernel, rfl, by decide +kernel, by decide +kernel⟩
theorem sc_Library___init__ : FnScope ["self", "text"] ["self", "text"] (defScope s_Library___init__) := ⟨rfl, rfl, rfl, by decide +kernel, rfl, by decide +kernel, by decide +kernel⟩
theorem sc_law_different : FnScope ["pool", "many", "taken", "found", "k", "word", "turn"] ["pool", "many", "taken"] (defScope s_law_different) := ⟨rfl, rfl, rfl, by decide +kernel, rfl, by decide +kernel, by decide +kernel⟩
theorem sc_law_pick : FnScope ["pool", "some"] ["pool", "some"] (defScope s_law_pick) := ⟨rfl, rfl, rfl, by decide +kernel, rfl, by decide +kernel, by decide +kernel⟩
theorem sc_law_row : FnScope ["nesting", "words"] ["nesting", "words"] (defScope s_law_row) := ⟨rfl, rfl, rfl, by decide +kernel, rfl, by decide +kernel, by decide +kernel⟩
theorem sc_law_body : FnScope ["pool", "nesting", "words", "room", "rows", "turn"] ["pool", "nesting", "words", "room"] (defScope s_law_body) := ⟨rfl, rfl, rfl, by decide +kernel, rfl, by decide +kernel, by decide +kernel⟩
theorem sc_law_statement : FnScope ["pool", "nesting", "words", "room", "sort", "name", "mode", "listed", "guarded", "rows", "k"] ["pool", "nesting", "words", "room"] (defScope s_law_statement) := ⟨rfl, rfl, rfl, by decide +kernel, rfl, by decide +kernel, by decide +kernel⟩
theorem sc_law_try : FnScope ["pool", "nesting", "words", "room", "rows", "many", "is_final", "k", "listed", "more"] ["pool", "nesting", "words", "room"] (defScope s_law_try) := ⟨rfl, rfl, rfl, by decide +kernel, rfl, by decide +kernel, by decide +kernel⟩
theorem sc_law_library : FnScope ["pool", "names", "others", "room", "records", "errors", "rows", "name", "words"] ["pool", "names", "others", "room"] (defScope s_law_library) := ⟨rfl, rfl, rfl, by decide +kernel, rfl, by decide +kernel, by decide +kernel⟩
theorem sc_NoFunction___init__ : FnScope ["self", "name"] ["self", "name"] (defScope s_NoFunction___init__) := ⟨rfl, rfl, rfl, by decide +kernel, rfl, by decide +kernel, by decide +kernel⟩
theorem sc_Library___contains__ : FnScope ["self", "x"] ["self", "x"] (defScope s_Library___contains__) := ⟨rfl, rfl, rfl, by decide +kernel, rfl, by decide +kernel, by decide +kernel⟩
theorem sc_Library___getitem__ : FnScope ["self", "at", "found", "is_inside", "line"] ["self", "at"] (defScope s_Library___getitem__) := ⟨rfl, rfl, rfl, by decide +kernel, rfl, by decide +kernel, by decide +kernel⟩
theorem sc_Library___eq__ : FnScope ["self", "other"] ["self", "other"] (defScope s_Library___eq__) := ⟨rfl, rfl, rfl, by decide +kernel, rfl, by decide +kernel, by decide +kernel⟩
theorem sc_Library___str__ : FnScope ["self"] ["self"] (defScope s_Library___str__) := ⟨rfl, rfl, rfl, by decide +kernel, rfl, by decide +kernel, by decide +kernel⟩
theorem sc_law_lines : FnScope ["library", "name", "told", "e"] ["library", "name"] (defScope s_law_lines) := ⟨rfl, rfl, rfl, by decide +kernel, rfl, by decide +kernel, by decide +kernel⟩
theorem sc_law_due : FnScope ["rows", "name", "starts", "k"] ["rows", "name"] (defScope s_law_due) := ⟨rfl, rfl, rfl, by decide +kernel, rfl, by decide +kernel, by decide +kernel⟩
theorem sc_law_asked : FnScope ["library", "lines", "thing", "due", "told"] ["library", "lines", "thing"] (defScope s_law_asked) := ⟨rfl, rfl, rfl, by decide +kernel, rfl, by decide +kernel, by decide +kernel⟩
theorem sc_law : FnScope ["script", "at", "pool", "names", "others", "rows", "room", "second", "first", "other", "things", "pairs", "thing", "is_same", "library", "lines"] ["script"] (defScope s_law) := ⟨rfl, rfl, rfl, by decide +kernel, rfl, by decide +kernel, by decide +kernel⟩
/-- the built-in names that no line of the text binds -/
structure Bn (mg : Str → Option Value) : Prop where
  int : mg "int" = none
  len : mg "len" = none
  abs : mg "abs" = none
  range : mg "range" = none
  max : mg "max" = none
  min : mg "min" = none
  isi : mg "isinstance" = none
  str : mg "str" = none
  all : mg "all" = none
  any : mg "any" = none
  list : mg "list" = none
  tuple : mg "tuple" = none
  set : mg "set" = none
  sorted : mg "sorted" = none
  sum : mg "sum" = none
  bool : mg "bool" = none
end IC
namespace IC
open PySem L2 TL
section
variable {P : Program} {w : World} {K : PySem.W.Frag} {mg : Str → Option Value} {base : Heap}
theorem ok_draw {f : Addr} {fd : FuncData} (F : Fun K "_law_draw" "_law_draw" s_law_draw f fd) (T : Bn mg) : FnOk P w K mg base CX0 1 f fd ["pool", "many"] spDraw := by
  refine F.ok sc_law_draw (fun vs H Q E h => ?_) (fun cdv A outer s H vs Q E hr h => ?_)
  · obtain ⟨p, m, n, rfl, _⟩ := h
    rfl
  · obtain ⟨p, m, n, rfl, ⟨a, b, c, hp, a0, b0, b1, c0, c1⟩, hn, m0, m1, k⟩ := h
    refine ⟨_, (pss_cons (ps_if (pt_cmpR op_gt (pe_ix ix_list (pv 0) pe_int (fun _ _ => rfl)) pe_int (nomark _))
  (pss_cons (ps_set (i := 2) sc_law_draw.nd rfl (Or.inl rfl) (pe_op op_mod (pe_callTy call_int1 (by rfl) T.int (by decide +kernel) (pa_cons (pe_ix ix_list (pv 0) pe_int (fun _ _ => rfl)) pa_nil)) (pv 1)))
  (pss_cons (ps_asg (pe_op op_fdivW (pe_ix ix_list (pv 0) pe_int (fun _ _ => rfl)) (pv 1)) (pg_sub (pv 0) pe_int set_list))
  (pss_one (ps_ret (pv 2)))))
  pss_nil)
  (pss_cons (ps_set (i := 3) sc_law_draw.nd rfl (Or.inl rfl) (pe_op op_add (pe_ix ix_list (pv 0) pe_int (fun _ _ => rfl)) pe_int))
  (pss_cons (ps_asg (pv 3) (pg_sub (pv 0) pe_int set_list))
  (pss_cons (ps_set (i := 4) sc_law_draw.nd rfl (Or.inl rfl) (pe_op op_mod (pe_callTy call_int1 (by rfl) T.int (by decide +kernel) (pa_cons (pe_op op_add (pe_op op_pow (pe_op op_add (pe_ix ix_list (pv 0) pe_int (fun _ _ => rfl)) (pe_op op_mul pe_int (pv 3))) pe_int) (pe_op op_mul pe_int (pv 3))) pa_nil)) pe_int))
  (pss_cons (ps_set (i := 4) sc_law_draw.nd rfl (Or.inl rfl) (pe_op op_mod (pe_callTy call_int1 (by rfl) T.int (by decide +kernel) (pa_cons (pe_op op_pow (pe_op op_add (pv 4) (pe_op op_mul pe_int (pv 3))) pe_int) pa_nil)) pe_int))
  (pss_one (ps_ret (pe_op op_mod (pe_callTy call_int1 (by rfl) T.int (by decide +kernel) (pa_cons (pe_op op_fdiv (pv 4) pe_int) pa_nil)) (pv 1))))))))), ?_⟩
    have g0 : atI (pl a b c) 0 = some (.int a) := rfl
    have g1 : atI (pl a b c) 1 = some (.int b) := rfl
    have g2 : atI (pl a b c) 2 = some (.int c) := rfl
    refine ⟨_, rfl, p, pl a b c, 0, _, rfl, rfl, SqL.of hp, g0, a, 0, rfl, rfl, _, rfl, ?_⟩
    refine ite2 (fun hpos => ?_) (fun hneg => ?_)
    · refine ⟨_, rfl, p, pl a b c, 0, _, rfl, rfl, SqL.of hp, g0, .inl ⟨a, rfl, _, rfl, a, m, rfl, rfl, m0, ?_⟩⟩
      refine ⟨_, rfl, p, pl a b c, 0, _, rfl, rfl, SqL.of hp, g0, _, rfl, a, m, rfl, rfl, wide_div m0 m1 (by decide) (by decide), _, rfl, p, pl a b c, 0, 0, rfl, rfl, hp, rfl, ?_⟩
      refine ⟨_, rfl, ?_⟩
      refine k (a % m) _ (Int.emod_nonneg _ (by omega)) (Int.emod_lt_of_pos _ m0) ⟨a / m, b, c, upd_same, Int.ediv_nonneg a0 (by omega), b0, b1, c0, by omega⟩
    · refine ⟨_, rfl, p, pl a b c, 2, _, rfl, rfl, SqL.of hp, g2, c, 1, rfl, rfl, ?_⟩
      refine ⟨_, rfl, _, rfl, p, pl a b c, 2, 2, rfl, rfl, hp, rfl, ?_⟩
      have g1' : atI ((pl a b c).set 2 (.int (c + 1))) 1 = some (.int b) := rfl
      refine ⟨_, rfl, p, _, 1, _, rfl, rfl, SqL.of upd_same, g1', _, rfl, 48611, c + 1, rfl, rfl, .inl (by decide), b, _, rfl, rfl, _, 3, rfl, rfl, ⟨by decide, by decide, by omega⟩, _, rfl, 17, c + 1, rfl, rfl, .inl (by decide), _, _, rfl, rfl, .inl ⟨_, rfl, _, _, rfl, rfl, (by show (0 : Int) < 2305843009213693921; decide), ?_⟩⟩
      have hX : 0 ≤ ((b + 48611 * (c + 1)) ^ Int.toNat 3 + 17 * (c + 1)) % 2305843009213693921 ∧ ((b + 48611 * (c + 1)) ^ Int.toNat 3 + 17 * (c + 1)) % 2305843009213693921 < 2305843009213693921 :=
        ⟨Int.emod_nonneg _ (by decide), Int.emod_lt_of_pos _ (by decide)⟩
      dsimp only
      generalize ((b + 48611 * (c + 1)) ^ Int.toNat 3 + 17 * (c + 1)) % 2305843009213693921 = X at hX ⊢
      obtain ⟨x0, x1⟩ := hX
      refine ⟨_, rfl, _, rfl, 104729, c + 1, rfl, rfl, .inl (by decide), X, _, rfl, rfl, _, 3, rfl, rfl, ⟨by decide, by decide, by omega⟩, .inl ⟨_, rfl, _, _, rfl, rfl, (by show (0 : Int) < 1000000000000000003; decide), ?_⟩⟩
      have hY : 0 ≤ (X + 104729 * (c + 1)) ^ Int.toNat 3 % 1000000000000000003 := Int.emod_nonneg _ (by decide)
      refine ⟨_, rfl, _, _, rfl, rfl, ⟨by decide, by decide⟩, .inl ⟨_, rfl, _, rfl, _, m, rfl, rfl, m0, ?_⟩⟩
      refine k _ _ (Int.emod_nonneg _ (by omega)) (Int.emod_lt_of_pos _ m0) ⟨a, b, c + 1, upd_same, a0, b0, b1, by omega, by omega⟩
theorem ok_pool {f : Addr} {fd : FuncData} (F : Fun K "_law_pool" "_law_pool" s_law_pool f fd) (T : Bn mg) : FnOk P w K mg base CX0 1 f fd ["script", "at"] (spPool K) := by
  refine F.ok sc_law_pool (fun vs H Q E h => ?_) (fun cdv A outer s H vs Q E hr h => ?_)
  · obtain ⟨a, ns, j, rfl, _⟩ := h
    rfl
  · obtain ⟨a, ns, j, rfl, hS, hj, k⟩ := h
    refine ⟨_, (Evl.pss_cut (ps_set (i := 2) sc_law_pool.nd rfl (Or.inl rfl) (pe_ifExp (pt_cmpR op_lt (pv 1) (pe_callB call_len_seq (by rfl) T.len PySem.boot_len (pa_cons (pv 0) pa_nil)) (nomark _)) (pe_ix ix_list (pv 0) (pv 1) (fun _ _ => rfl)) pe_int))
  (pss_cons (ps_set (i := 3) sc_law_pool.nd rfl (Or.inl rfl) (pe_callB call_abs (by rfl) T.abs PyProof.Rows.boot_abs (pa_cons (pv 2) pa_nil)))
  (pss_cons (ps_set (i := 4) sc_law_pool.nd rfl (Or.inl rfl) (pe_op op_mod (pe_callTy call_int1 (by rfl) T.int (by decide +kernel) (pa_cons (pe_op op_add (pe_op op_add (pe_op op_mul (pv 3) pe_int) (pe_op op_mul pe_int (pv 1))) (pe_callTy call_int1 (by rfl) T.int (by decide +kernel) (pa_cons (pe_cmpR op_lt (pv 2) pe_int (nomark _)) pa_nil))) pa_nil)) pe_int))
  (pss_one (ps_ret (pe_lst (pa_cons (pe_ifExp (pt_cmpR op_ge (pv 3) (pe_op op_pow pe_int pe_int) (nomark _)) (pv 3) pe_int) (pa_cons (pe_op op_add (pv 4) pe_int) (pa_cons pe_int pa_nil))))))))), ?_⟩
    have hj' : (j : Int) < 64 := by omega
    refine ⟨fun σ H' => H' = H ∧ ∃ c : Int, σ = [some (.ref a), some (.int j), some (.int c), none, none], ?_, ?_⟩
    · refine ⟨_, rfl, _, rfl, a, _, rfl, .inl hS, _, _, rfl, rfl, _, rfl, ?_⟩
      refine ite2 (fun hlt => ?_) (fun _ => ⟨rfl, 0, rfl⟩)
      have hlt := of_decide_eq_true hlt
      have hl : j < ns.length := by
        rw [List.length_map] at hlt
        exact Int.ofNat_lt.mp hlt
      have hz : (ns.map V.int)[j]? = some (V.int ns[j]) := by
        rw [List.getElem?_map, List.getElem?_eq_getElem hl]
        rfl
      exact ⟨_, rfl, _, rfl, a, _, _, _, rfl, rfl, hS, atI_nat hz, rfl, _, rfl⟩
    · rintro σ H' ⟨rfl, c, rfl⟩
      refine ⟨_, rfl, c, rfl, ?_⟩
      refine ⟨_, rfl, _, 6, rfl, rfl, .inr (by decide), _, rfl, 2, j, rfl, rfl, .inl (by decide), _, _, rfl, rfl, _, rfl, c, 0, rfl, rfl, .inr ⟨_, rfl, _, _, rfl, rfl, .inl ⟨_, rfl, _, _, rfl, rfl, (by show (0 : Int) < 2305843009213693951; decide), ?_⟩⟩⟩
      refine ⟨_, rfl, 10, 18, rfl, rfl, ⟨by decide, by decide, by decide⟩, _, _, rfl, rfl, _, rfl, ?_⟩
      have h0 : (0 : Int) ≤ if c < 0 then -c else c := by split <;> omega
      have fin : ∀ x y : Int, 0 ≤ x → ∀ p, H' p = none → Q (.ref p) (upd H' p (.lst [.int x, .int (y % 2305843009213693951 + 12345), .int 0])) := fun x y hx p hp => by
        have e1 := Int.emod_nonneg y (show (2305843009213693951 : Int) ≠ 0 by decide)
        have e2 := Int.emod_lt_of_pos y (show (0 : Int) < 2305843009213693951 by decide)
        exact k p _ hp ⟨x, _, 0, upd_same, hx, by omega, by omega, by omega, by omega⟩
      refine ite2 (fun _ => ?_) (fun _ => ?_)
      · exact ⟨_, rfl, _, rfl, _, _, rfl, rfl, (by show 3 ≤ sizeLine; decide), fun p hp => fin _ _ h0 p hp⟩
      · exact ⟨_, rfl, _, _, rfl, rfl, (by show 3 ≤ sizeLine; decide), fun p hp => fin 0 _ (by decide) p hp⟩
end
end IC
namespace IC
open PySem L2 TL
section
variable {P : Program} {w : World} {K : PySem.W.Frag} {mg : Str → Option Value} {base : Heap}
theorem ok_word {f : Addr} {fd : FuncData} (F : Fun K "_law_word" "_law_word" s_law_word f fd) (T : Bn mg) (D_law_draw : Df P w K mg base 1 "_law_draw" ["pool", "many"] spDraw) : FnOk P w K mg base CX0 2 f fd ["pool"] spWord := by
  refine F.ok sc_law_word (fun vs H Q E h => ?_) (fun cdv A outer s H vs Q E hr h => ?_)
  · obtain ⟨p, n, rfl, _⟩ := h
    rfl
  · obtain ⟨p, n, rfl, hp, hn, k⟩ := h
    refine ⟨_, (pss_cons (ps_set (i := 1) sc_law_word.nd rfl (Or.inr rfl) pe_str)
  (pss_one (ps_ret (pe_join pe_str (pe_lc (own := [("k", 2)]) (g := gName 2) (tt := tYes) rfl sc_law_word.nd (pi_range1 rfl T.range (pa_cons (pe_op op_add pe_int (pe_df D_law_draw hr (by first | decide | omega) rfl (pa_cons (pv 0) (pa_cons pe_int pa_nil)))) pa_nil)) (blkOk_by (N := ["pool", "letters", "k"]) (sc := defScope s_law_word) (by decide +kernel)) (fun _ _ _ _ _ => pg_name (i := 2) sc_law_word.nd rfl (Or.inl rfl)) (fun _ _ _ _ _ => pts_nil) (fun _ _ _ _ _ => (pe_ix ix_str (pv 1) (pe_df D_law_draw hr (by first | decide | omega) rfl (pa_cons (pv 0) (pa_cons pe_int pa_nil))) (fun _ _ => rfl)))))))), ?_⟩
    refine ⟨⟨_, rfl⟩, _, rfl, p, 8, n, rfl, hp, by omega, by decide, by decide, fun d o d0 d8 hp1 => ⟨_, _, rfl, rfl, _, rfl, by omega, by omega, fun D hD => ?_⟩⟩
    obtain ⟨hpD, hDn⟩ := none_of hD
    refine lc_range (lo := 0) (n := (1 + d).toNat) (fun i H' => ∃ cs : List Nat, cs.length = i ∧ (∀ c ∈ cs, Lt c) ∧ H' D = some (.lst ((cs.map sgn).map V.str)) ∧ PoolAt H' p (n + 1 + i) ∧ Kp [p] H H')
      ⟨[], rfl, by simp, upd_same, (hp1.mv fun u e => by rw [upd_ne hpD]; exact e).up (by omega), (Kp.at_ (by simp)).trans (Kp.new hD)⟩ ?_ ?_
    · rintro i H' hi ⟨cs, hl, hc, hcD, hp2, kp⟩
      refine ⟨rfl, ?_⟩
      refine ⟨_, rfl, _, rfl, p, 26, n + 1 + i, rfl, hp2, by omega, by decide, by decide, fun e o2 e0 e1 hp3 => ?_⟩
      obtain ⟨c, hat, hL⟩ := abc_at e e0 e1
      refine ⟨_, e, c, rfl, rfl, by decide +kernel, hat, ?_⟩
      refine ⟨_, (by rw [upd_ne hpD.symm]; exact hcD), small1000 (by rw [List.length_map, List.length_map]; omega), cs ++ [c], by simp [hl], ?_, ?_, ?_, (kp.mutAt (by simp)).mut hDn⟩
      · intro x hx
        rcases List.mem_append.mp hx with hx | hx
        · exact hc x hx
        · rw [List.mem_singleton.mp hx]; exact hL
      · rw [upd_same, List.map_append, List.map_append]
        rfl
      · exact (hp3.mv fun u q => by rw [upd_ne hpD]; exact q).up (by omega)
    · rintro H' ⟨cs, hl, hc, hcD, hp2, kp⟩
      refine ⟨_, D, cs.map sgn, rfl, rfl, .inl (SqL.of hcD), ?_, ?_⟩
      · have e : (List.map (fun z : Str => z.length) (cs.map sgn)).sum = cs.length := by
          rw [List.map_map]
          clear hl hc hcD hp2 kp
          induction cs with
          | nil => rfl
          | cons c r ih => rw [List.map_cons, List.sum_cons, ih, List.length_cons]; show 1 + r.length = r.length + 1; omega
        rw [e, List.length_map, hl]
        show (1 + d).toNat + (1 + d).toNat * 0 ≤ 16777216
        omega
      · have et := tl_joined cs
        refine k _ H' ⟨?_, ?_, ?_⟩ (hp2.up (by omega)) kp
        · rw [et, hl]; omega
        · rw [et, hl]; omega
        · rw [et]; exact hc
end
end IC
namespace IC
open PySem L2 TL
section
variable {P : Program} {w : World} {K : PySem.W.Frag} {mg : Str → Option Value} {base : Heap}
theorem ok_is_mode {f C p t : Addr} {mc : Value} {fd : FuncData} (F : Fun K "is_mode" "Mode.is_mode" s_Mode_is_mode f fd) (T : Bn mg) (M : ModeTxt K mg C p f t mc) : FnOk P w K mg base CX0 1 f fd ["thing"] (spIsMode K) := by
  refine F.ok sc_Mode_is_mode (fun vs H Q E h => ?_) (fun cdv A outer s H vs Q E hr h => ?_)
  · obtain ⟨v, rfl, _⟩ := h
    rfl
  · obtain ⟨v, rfl, h⟩ := h
    refine ⟨_, (pss_one (ps_ret (pe_and (pe_callB call_isi (by rfl) T.isi PyProof.Rows.boot_isinstance (pa_cons (pv 0) (pa_cons (pe_bltn (v := .ty "str") (by rfl) T.str (by decide +kernel) rfl) pa_nil))) (pe_one (pe_cmpR op_in_seq (pv 0) (ClX.pe_cval (pe_glob (v := .ref _) rfl M.mo rfl)) (by rfl)))))), ?_⟩
    rcases h with ⟨z, rfl, k⟩ | ⟨⟨T', ty, kb⟩, k⟩
    · refine ⟨_, rfl, .str z, .ty "str", .type "str", .type "str", true, rfl, .ty "str", .base (.str z), kit_ty (by decide +kernel), true, rfl, ?_⟩
      exact ⟨_, rfl, C, mc, _, _, rfl, M.rd, M.all, t, modesV, rfl, .inr (M.seq H), rfl, modes_flat, k⟩
    · refine ⟨_, rfl, v, .ty "str", .type T', .type "str", false, rfl, .ty "str", ty, kit_ty kb, false, rfl, ?_⟩
      exact k
end
end IC
namespace IC
open PySem L2 TL
section
variable {P : Program} {w : World} {K : PySem.W.Frag} {mg : Str → Option Value} {base : Heap}
theorem ok_is_word {f : Addr} {fd : FuncData} (F : Fun K "is_word" "is_word" s_is_word f fd) (T : Bn mg) : FnOk P w K mg base CX0 1 f fd ["thing"] (spIsWord K) := by
  refine F.ok sc_is_word (fun vs H Q E h => ?_) (fun cdv A outer s H vs Q E hr h => ?_)
  · obtain ⟨v, rfl, _⟩ := h
    rfl
  · obtain ⟨v, rfl, h⟩ := h
    refine ⟨_, (pss_cons (ps_if (PW.pt (pw_or (pt_not (pt_val (pe_callB call_isi (by rfl) T.isi PyProof.Rows.boot_isinstance (pa_cons (pv 0) (pa_cons (pe_bltn (v := .ty "str") (by rfl) T.str (by decide +kernel) rfl) pa_nil))))) (pw_or1 (pt_not (pt_chain op_le op_le pe_int (pe_callB call_len_str (by rfl) T.len PySem.boot_len (pa_cons (pv 0) pa_nil)) pe_int)))))
  (pss_one (ps_ret pe_bl))
  pss_nil)
  (pss_one (ps_ret (pe_callB (cr_all rfl) (by rfl) T.all (by decide +kernel) (pa_cons (pe_lc (own := [("letter", 1)]) (g := gName 1) (tt := tYes) rfl sc_is_word.nd (pi_str (pv 0)) (blkOk_by (N := ["thing", "letter"]) (sc := defScope s_is_word) (by decide +kernel)) (fun _ _ _ _ _ => pg_name (i := 1) sc_is_word.nd rfl (Or.inl rfl)) (fun _ _ _ _ _ => pts_nil) (fun _ _ _ _ _ => (pe_chain op_le_str op_le_str pe_str (pv 1) pe_str))) pa_nil))))), ?_⟩
    rcases h with ⟨z, rfl, hl, k⟩ | ⟨⟨T', ty, kb⟩, k⟩
    · refine ⟨_, rfl, .str z, .ty "str", .type "str", .type "str", true, rfl, .ty "str", .base (.str z), kit_ty (by decide +kernel), true, rfl, ?_⟩
      refine ⟨_, rfl, z, rfl, len_le hl, 1, z.length, rfl, rfl, _, rfl, ?_⟩
      refine ite2 (fun h1 => ?_) (fun h1 => ?_)
      · have h1 := of_decide_eq_true h1
        refine ⟨_, _, rfl, rfl, _, rfl, ?_⟩
        cases hd : decide ((z.length : Int) ≤ 8) with
        | true =>
          refine ⟨_, rfl, z, rfl, fun D hD => ?_⟩
          have hz : z.cps.size = (tl z).length := by simp [tl]
          refine lc_it (walk_str (z := z)) (fun i H' => H' D = some (.lst (((tl z).take i).map fun c => V.bl (lB c))) ∧ Same H H') ⟨upd_same, Same.new hD⟩ (fun _ _ _ _ => trivial) ?_ ?_
          · rintro i x _ H' hi ⟨hcD, sm⟩ ⟨rfl, c, hc, rfl⟩
            have hc' : (tl z)[i]? = some c := by simpa [tl] using hc
            have fin : ∃ acc, H' D = some (.lst acc) ∧ acc.length < sizeLine ∧ upd H' D (.lst (acc ++ [V.bl (lB c)])) D = some (.lst (((tl z).take (i + 1)).map fun c => V.bl (lB c))) ∧ Same H (upd H' D (.lst (acc ++ [V.bl (lB c)]))) := by
              refine ⟨_, hcD, small1000 (by rw [List.length_map, List.length_take]; omega), ?_, ?_⟩
              · rw [upd_same, List.take_add_one, hc', List.map_append]
                rfl
              · exact fun b o e => by rw [upd_ne (ne_of_none e hD)]; exact sm b o e
            refine ⟨rfl, ?_⟩
            refine ⟨_, rfl, _, _, rfl, rfl, _, rfl, ?_⟩
            rw [lt_a c]
            unfold lB at fin
            cases h97 : decide (97 ≤ c) with
            | true =>
              rw [h97] at fin
              refine ⟨_, _, rfl, rfl, ?_⟩
              rw [z_lt c, Bool.not_not]
              exact fin
            | false =>
              rw [h97] at fin
              exact fin
          · rintro H' ⟨hcD, sm⟩
            have e : wB z = (((tl z).map lB).all id) := by
              have h8 := of_decide_eq_true hd
              rw [len_tl] at h1 h8
              unfold wB
              rw [decide_eq_true (by omega), decide_eq_true (by omega), Bool.true_and, Bool.true_and, List.all_map]
              rfl
            refine ⟨D, (tl z).map lB, rfl, SqL.of ?_, ?_⟩
            · rw [hcD, hz, List.take_length, List.map_map]
              rfl
            · have q := k H' sm
              rw [e] at q
              exact q
        | false =>
          have e : wB z = false := by
            have q := of_decide_eq_false hd
            rw [len_tl] at q
            unfold wB
            rw [decide_eq_false (p := (tl z).length ≤ 8) (by omega), Bool.false_and, Bool.and_false]
          have q := k H (Same.refl H)
          rw [e] at q
          exact q
      · rw [Bool.not_eq_true] at h1
        have e : wB z = false := by
          have q := of_decide_eq_false h1
          rw [len_tl] at q
          unfold wB
          rw [decide_eq_false (by omega)]
          rfl
        have q := k H (Same.refl H)
        rw [e] at q
        exact ⟨_, rfl, q⟩
    · refine ⟨_, rfl, v, .ty "str", .type T', .type "str", false, rfl, .ty "str", ty, kit_ty kb, false, rfl, ?_⟩
      exact k H (Same.refl H)
end
end IC
namespace IC
open PySem L2 TL PyProof.Rows
structure LTxt (K : PySem.W.Frag) (mg : Str → Option Value) (tL tF : Addr) : Prop where
  gL : TupG K mg "LEADING" tL leadS
  gF : TupG K mg "FOLLOWING" tF follS
  gD : ∃ u, mg "DEEPEST" = some u ∧ RelV (.int 8) u
section
variable {P : Program} {w : World} {K : PySem.W.Frag} {mg : Str → Option Value} {base : Heap} {tL tF : Addr}
def spKeeping : Sp := fun vs H Q _ => ∃ (l : Addr) (ws : List Str), vs = [.ref l] ∧ H l = some (.lst (ws.map V.str)) ∧ (∀ z ∈ ws, IsW z) ∧ ws.length ≤ 100 ∧ ∀ H', Same H H' → Q (.bl (keepB ws)) H'
theorem ok_keeping {f : Addr} {fd : FuncData} (F : Fun K "_are_keeping" "_are_keeping" s_are_keeping f fd) (T : Bn mg) : FnOk P w K mg base CX0 1 f fd ["words"] spKeeping := by
  refine F.ok sc_are_keeping (fun vs H Q E h => ?_) (fun cdv A outer s H vs Q E hr h => ?_)
  · obtain ⟨l, ws, rfl, _⟩ := h
    rfl
  · obtain ⟨l, ws, rfl, hl, hw, few, k⟩ := h
    refine ⟨_, (pss_one (ps_ret (pe_or (pe_cmpR (op_eqD hr.units) (pv 0) (pe_lst pa_nil) (nomark _)) (pe_one (pe_and (pe_cmpR op_eq (pe_ix ix_list (pv 0) pe_int (fun _ _ => rfl)) pe_str (nomark _)) (pe_one (pe_cmpR op_gt (pe_callB call_len_seq (by rfl) T.len PySem.boot_len (pa_cons (pv 0) pa_nil)) pe_int (nomark _)))))))), ?_⟩
    refine ⟨_, rfl, (by show 0 ≤ sizeLine; decide), fun p np => ?_⟩
    have s1 := Same.new (o := .lst []) np
    have hl1 := s1 _ _ hl
    refine ⟨.list (ws.map PyData.str), .list (([] : List Str).map PyData.str), dpL hl1, dpL (zs := []) upd_same, shaped_s hw, rfl, ?_⟩
    rw [eqvL]
    have kk := k _ s1
    unfold keepB at kk
    refine ⟨_, rfl, ?_⟩
    by_cases e : ws = []
    · rw [decide_eq_true e] at kk ⊢
      exact iteT kk
    · rw [decide_eq_false e, Bool.false_or] at kk
      rw [decide_eq_false e]
      refine iteF ⟨_, rfl, l, _, 0, _, rfl, rfl, SqL.of hl1, at0 e, rfl, _, rfl, iteS (fun e2 => ?_) (fun e2 => ?_)⟩
      · rw [decide_eq_true e2, Bool.true_and] at kk
        refine ⟨_, rfl, l, _, rfl, .inl (SqL.of hl1), _, _, rfl, rfl, ?_⟩
        rw [List.length_map]
        show Q (.bl (decide ((1 : Int) < (ws.length : Int)))) _
        have e3 : decide ((1 : Int) < (ws.length : Int)) = decide (1 < ws.length) := by
          rw [decide_eq_decide]
          omega
        rw [e3]
        exact kk
      · rw [decide_eq_false e2, Bool.false_and] at kk
        exact kk
def spFormed : Sp := fun vs H Q _ => ∃ (l : Addr) (ws : List Str), vs = [.ref l] ∧ H l = some (.lst (ws.map V.str)) ∧ ws ≠ [] ∧ (∀ z ∈ ws, IsW z) ∧ ws.length ≤ 100 ∧ ∀ H', Same H H' → Q (.bl (formB modesS ws)) H'
theorem ok_formed {f : Addr} {fd : FuncData} {fM C p t : Addr} {mc : Value} {fdM : FuncData} (F : Fun K "_are_formed" "_are_formed" s_are_formed f fd) (T : Bn mg) (M : ModeTxt K mg C p fM t mc) (F_is_mode : FnOk P w K mg base CX0 1 fM fdM ["thing"] (spIsMode K)) (b_is_mode : Binds K fdM ["thing"] []) (D_are_keeping : Df P w K mg base 1 "_are_keeping" ["words"] spKeeping) :
    FnOk P w K mg base CX0 2 f fd ["words"] spFormed := by
  refine F.ok sc_are_formed (fun vs H Q E h => ?_) (fun cdv A outer s H vs Q E hr h => ?_)
  · obtain ⟨l, ws, rfl, _⟩ := h
    rfl
  · obtain ⟨l, ws, rfl, hl, ne, hw, few, k⟩ := h
    refine ⟨_, (pss_cons (ps_set (i := 1) sc_are_formed.nd rfl (Or.inl rfl) (pe_ix ix_list (pv 0) pe_int (fun _ _ => rfl)))
  (pss_cons (ps_if (pt_cmpR op_in_seq (pv 1) (pe_tup (pa_cons pe_str (pa_cons pe_str (pa_cons pe_str (pa_cons pe_str pa_nil))))) (by rfl))
  (pss_one (ps_ret (pe_cmpR op_eq (pe_callB call_len_seq (by rfl) T.len PySem.boot_len (pa_cons (pv 0) pa_nil)) pe_int (nomark _))))
  pss_nil)
  (pss_cons (ps_if (pt_cmpR op_eq (pv 1) pe_str (nomark _))
  (pss_one (ps_ret (pe_and (pe_cmpR op_gt (pe_callB call_len_seq (by rfl) T.len PySem.boot_len (pa_cons (pv 0) pa_nil)) pe_int (nomark _)) (pe_and (pe_smeth (pe_glob (v := .ref _) rfl M.mo rfl) M.sm F_is_mode b_is_mode hr (by first | decide | omega) (pa_cons (pe_ix ix_list (pv 0) pe_int (fun _ _ => rfl)) pa_nil)) (pe_one (pe_df D_are_keeping hr (by first | decide | omega) rfl (pa_cons (pe_slice sl_list (pv 0) (po_some pe_int) po_none) pa_nil)))))))
  pss_nil)
  (pss_cons (ps_if (pt_cmpR op_eq (pv 1) pe_str (nomark _))
  (pss_one (ps_ret pe_bl))
  pss_nil)
  (pss_one (ps_ret (pe_and (pe_cmpR op_in_seq (pv 1) (pe_tup (pa_cons pe_str (pa_cons pe_str (pa_cons pe_str (pa_cons pe_str (pa_cons pe_str (pa_cons pe_str pa_nil))))))) (by rfl)) (pe_one (pe_cmpR op_eq (pe_callB call_len_seq (by rfl) T.len PySem.boot_len (pa_cons (pv 0) pa_nil)) pe_int (nomark _)))))))))), ?_⟩
    refine ⟨_, rfl, l, _, 0, _, rfl, rfl, SqL.of hl, at0 ne, ?_⟩
    have four : ∀ {a b c d : V}, [a, b, c, d].length ≤ sizeLine := by intros; show 4 ≤ sizeLine; decide
    have six : ∀ {a b c d e f : V}, [a, b, c, d, e, f].length ≤ sizeLine := by intros; show 6 ≤ sizeLine; decide
    refine ⟨_, rfl, four, fun p np => ?_⟩
    have s1 := Same.new (o := .tup [.str "function", .str "write", .str "raise", .str "call"]) np
    refine ⟨p, fixA.map V.str, rfl, .inr (SqT.of upd_same), rfl, flatS fixA, _, rfl, ?_⟩
    rw [inq]
    have kk := fun H' s => k H' s
    unfold formB at kk
    have ei : ∀ m : Nat, decide ((ws.length : Int) = (m : Int)) = decide (ws.length = m) := fun m => by
      rw [decide_eq_decide]
      omega
    refine ite2 (fun c1 => ?_) (fun c1 => ?_)
    · rw [if_pos c1] at kk
      refine ⟨_, rfl, l, _, rfl, .inl (SqL.of (s1 _ _ hl)), rfl, ?_⟩
      rw [List.length_map]
      show Q (.bl (decide (V.int (ws.length : Int) = V.int 2))) _
      have e : decide (V.int (ws.length : Int) = V.int 2) = decide (ws.length = 2) := by
        rw [decide_eq_decide, V.int.injEq]
        omega
      rw [e]
      exact kk _ s1
    rw [if_neg c1] at kk
    refine ⟨_, rfl, rfl, _, rfl, iteS (fun c2 => ?_) (fun c2 => ?_)⟩
    · rw [if_pos (decide_eq_true c2)] at kk
      refine ⟨_, rfl, l, _, rfl, .inl (SqL.of (s1 _ _ hl)), _, _, rfl, rfl, _, rfl, ?_⟩
      rw [List.length_map]
      have e : decide ((1 : Int) < (ws.length : Int)) = decide (1 < ws.length) := by
        rw [decide_eq_decide]
        omega
      show if decide ((1 : Int) < (ws.length : Int)) = true then _ else _
      rw [e]
      by_cases c3 : 1 < ws.length
      · rw [decide_eq_true c3, Bool.true_and] at kk
        rw [decide_eq_true c3]
        refine iteT ⟨rfl, _, rfl, l, _, 1, _, rfl, rfl, SqL.of (s1 _ _ hl), at1 c3, _, rfl, .inl ⟨_, rfl, _, rfl, ?_⟩⟩
        rw [show modesV = modesS.map V.str from rfl, inV_s]
        cases c4 : decide (w1 ws ∈ modesS) with
        | false =>
          rw [c4] at kk
          exact iteF (kk _ s1)
        | true =>
          rw [c4] at kk
          refine iteT ⟨_, rfl, _, rfl, l, _, rfl, SqL.of (s1 _ _ hl), fun q nq => ?_⟩
          rw [show (2 : Int) = ((2 : Nat) : Int) from rfl, cutR]
          have s2 := Same.new (o := .lst ((ws.drop 2).map V.str)) nq
          exact ⟨q, ws.drop 2, rfl, upd_same, fun z hz => hw z (List.mem_of_mem_drop hz), by rw [List.length_drop]; omega, fun H' s3 => kk _ ((s1.trans s2).trans s3)⟩
      · rw [decide_eq_false c3, Bool.false_and] at kk
        rw [decide_eq_false c3]
        exact iteF (kk _ s1)
    rw [if_neg (fun h => c2 (of_decide_eq_true h))] at kk
    refine ⟨_, rfl, rfl, _, rfl, iteS (fun c3 => ?_) (fun c3 => ?_)⟩
    · rw [if_pos (decide_eq_true c3)] at kk
      exact kk _ s1
    rw [if_neg (fun h => c3 (of_decide_eq_true h))] at kk
    refine ⟨_, rfl, six, fun p2 np2 => ?_⟩
    have s2 := Same.new (o := .tup [.str "pass", .str "doom", .str "maybe", .str "repeat", .str "try", .str "finally"]) np2
    refine ⟨p2, fixB.map V.str, rfl, .inr (SqT.of upd_same), rfl, flatS fixB, _, rfl, ?_⟩
    rw [inq]
    cases c4 : decide (w0 ws ∈ fixB) with
    | false =>
      rw [c4] at kk
      exact iteF (kk _ (s1.trans s2))
    | true =>
      rw [c4, Bool.true_and] at kk
      refine iteT ⟨_, rfl, l, _, rfl, .inl (SqL.of (s2 _ _ (s1 _ _ hl))), rfl, ?_⟩
      rw [List.length_map]
      show Q (.bl (decide (V.int (ws.length : Int) = V.int 1))) _
      have e : decide (V.int (ws.length : Int) = V.int 1) = decide (ws.length = 1) := by
        rw [decide_eq_decide, V.int.injEq]
        omega
      rw [e]
      exact kk _ (s1.trans s2)
theorem ok_can_nest {f : Addr} {fd : FuncData} (F : Fun K "_can_nest" "_can_nest" s_can_nest f fd) (T : Bn mg) (Lx : LTxt K mg tL tF) : FnOk P w K mg base CX0 1 f fd ["kind", "nesting"] (fun vs H Q _ => ∃ (z : Str) (n : Nat), vs = [.str z, .int n] ∧ ∀ H', Same H H' → Q (.bl (nestB z n)) H') := by
  refine F.ok sc_can_nest (fun vs H Q E h => ?_) (fun cdv A outer s H vs Q E hr h => ?_)
  · obtain ⟨z, n, rfl, _⟩ := h
    rfl
  · obtain ⟨z, n, rfl, k⟩ := h
    refine ⟨_, (pss_cons (ps_if (pt_cmpR op_eq (pv 0) pe_str (nomark _))
  (pss_one (ps_ret (pe_cmpR op_eq (pv 1) pe_int (nomark _))))
  pss_nil)
  (pss_cons (ps_set (i := 2) sc_can_nest.nd rfl (Or.inl rfl) (pe_ifExp (pt_cmpR op_in_seq (pv 0) (pe_op op_catT (pe_glob (v := .ref _) rfl Lx.gL.m rfl) (pe_glob (v := .ref _) rfl Lx.gF.m rfl)) (by rfl)) (pe_op op_sub (pe_gv2 Lx.gD rfl) pe_int) (pe_gv2 Lx.gD rfl)))
  (pss_one (ps_ret (pe_chain op_le op_le pe_int (pv 1) (pv 2)))))), ?_⟩
    unfold nestB at k
    refine ⟨_, rfl, rfl, _, rfl, iteS (fun c1 => ?_) (fun c1 => ?_)⟩
    · rw [if_pos (decide_eq_true c1)] at k
      refine ⟨_, rfl, rfl, ?_⟩
      show Q (.bl (decide (V.int (n : Int) = V.int 0))) _
      have e : decide (V.int (n : Int) = V.int 0) = decide (n = 0) := by
        rw [decide_eq_decide, V.int.injEq]
        omega
      rw [e]
      exact k _ (Same.refl H)
    rw [if_neg (fun h => c1 (of_decide_eq_true h))] at k
    refine ⟨_, rfl, tL, tF, _, _, rfl, rfl, Lx.gL.seq H, Lx.gF.seq H, (by simp [leadS]), (by show 6 ≤ sizeLine; decide), (fun e => absurd e (by simp [follS])), fun _ p np => ?_⟩
    have s1 := Same.new (o := .tup (leadS.map V.str ++ follS.map V.str)) np
    refine ⟨p, (leadS ++ follS).map V.str, rfl, .inr (SqT.of (by rw [upd_same, List.map_append])), rfl, flatS _, _, rfl, ?_⟩
    rw [inq]
    have e1 : decide ((1 : Int) ≤ (n : Int)) = decide (1 ≤ n) := by
      rw [decide_eq_decide]
      omega
    have e2 : ∀ m : Nat, decide ((n : Int) ≤ (m : Int)) = decide (n ≤ m) := fun m => by
      rw [decide_eq_decide]
      omega
    refine ite2 (fun c2 => ?_) (fun c2 => ?_)
    · rw [if_pos c2] at k
      refine ⟨_, _, rfl, rfl, _, rfl, _, _, rfl, rfl, _, rfl, ?_⟩
      rw [e1]
      have k1 := k _ s1
      cases c3 : decide (1 ≤ n) with
      | false =>
        rw [c3] at k1
        exact iteF k1
      | true =>
        rw [c3] at k1
        refine iteT ⟨_, rfl, _, _, rfl, rfl, ?_⟩
        show Q (.bl (decide ((n : Int) ≤ ((7 : Nat) : Int)))) _
        rw [e2]
        exact k1
    · rw [if_neg c2] at k
      refine ⟨_, rfl, _, _, rfl, rfl, _, rfl, ?_⟩
      rw [e1]
      have k1 := k _ s1
      cases c3 : decide (1 ≤ n) with
      | false =>
        rw [c3] at k1
        exact iteF k1
      | true =>
        rw [c3] at k1
        refine iteT ⟨_, rfl, _, _, rfl, rfl, ?_⟩
        show Q (.bl (decide ((n : Int) ≤ ((8 : Nat) : Int)))) _
        rw [e2]
        exact k1
/-- split_line(line), a row that is formed -/
def spSplit : Sp := fun vs H Q _ => ∃ (n : Nat) (ws : List Str), vs = [.str (rowT n ws)] ∧ ws ≠ [] ∧ (∀ z ∈ ws, IsW z) ∧ ws.length ≤ 20 ∧ n ≤ 20 ∧ formB modesS ws = true ∧ nestB (w0 ws) n = true ∧
  ∀ (H' : Hp) (t l : Addr), Same H H' → H l = none → H' t = some (.tup [.int n, .ref l]) → H' l = some (.lst (ws.map V.str)) → Q (.ref t) H'
theorem ok_split {f : Addr} {fd : FuncData} (F : Fun K "split_line" "split_line" s_split_line f fd) (T : Bn mg) (D_is_word : Df P w K mg base 1 "is_word" ["thing"] (spIsWord K)) (D_are_formed : Df P w K mg base 2 "_are_formed" ["words"] spFormed) (D_can_nest : Df P w K mg base 1 "_can_nest" ["kind", "nesting"] (fun vs H Q _ => ∃ (z : Str) (n : Nat), vs = [.str z, .int n] ∧ ∀ H', Same H H' → Q (.bl (nestB z n)) H')) :
    FnOk P w K mg base CX0 3 f fd ["line"] spSplit := by
  refine F.ok sc_split_line (fun vs H Q E h => ?_) (fun cdv A outer s H vs Q E hr h => ?_)
  · obtain ⟨n, ws, rfl, _⟩ := h
    rfl
  · obtain ⟨n, ws, rfl, ne, hw, lw, ln, fo, na, k⟩ := h
    refine ⟨_, (pss_cons (ps_set (i := 1) sc_split_line.nd rfl (Or.inl rfl) (pe_m1 PySem.F.slot_str_lstrip PySem.F.type_str_lstrip mt_lstripChars (pv 0) pe_str))
  (pss_cons (ps_set (i := 2) sc_split_line.nd rfl (Or.inl rfl) (pe_split (pv 1) pe_str))
  (pss_cons (ps_set (i := 3) sc_split_line.nd rfl (Or.inl rfl) (pe_op op_sub (pe_callB call_len_str (by rfl) T.len PySem.boot_len (pa_cons (pv 0) pa_nil)) (pe_callB call_len_str (by rfl) T.len PySem.boot_len (pa_cons (pv 1) pa_nil))))
  (pss_cons (ps_set (i := 4) sc_split_line.nd rfl (Or.inl rfl) (pe_op op_fdiv (pv 3) pe_int))
  (pss_cons (ps_if (PW.pt (pw_or (pt_cmpR op_ne (pe_op op_mul (pv 4) pe_int) (pv 3) (nomark _)) (pw_or1 (pt_not (pt_val (pe_callB (cr_all rfl) (by rfl) T.all (by decide +kernel) (pa_cons (pe_lc (own := [("word", 5)]) (g := gName 5) (tt := tYes) rfl sc_split_line.nd (pi_list (pv 2)) (blkOk_by (N := ["line", "bare", "words", "spaces", "nesting", "word"]) (sc := defScope s_split_line) (by decide +kernel)) (fun _ _ _ _ _ => pg_name (i := 5) sc_split_line.nd rfl (Or.inl rfl)) (fun _ _ _ _ _ => pts_nil) (fun _ _ _ _ _ => (pe_df D_is_word hr (by first | decide | omega) rfl (pa_cons (pv 5) pa_nil)))) pa_nil)))))))
  (pss_one (ps_ret (pe_tup (pa_cons (pe_un un_neg pe_int) (pa_cons (pe_lst pa_nil) pa_nil)))))
  pss_nil)
  (pss_cons (ps_if (PW.pt (pw_or (pt_not (pt_val (pe_df D_are_formed hr (by first | decide | omega) rfl (pa_cons (pv 2) pa_nil)))) (pw_or1 (pt_not (pt_val (pe_df D_can_nest hr (by first | decide | omega) rfl (pa_cons (pe_ix ix_list (pv 2) pe_int (fun _ _ => rfl)) (pa_cons (pv 4) pa_nil))))))))
  (pss_one (ps_ret (pe_tup (pa_cons (pe_un un_neg pe_int) (pa_cons (pe_lst pa_nil) pa_nil)))))
  pss_nil)
  (pss_one (ps_ret (pe_tup (pa_cons (pv 4) (pa_cons (pv 2) pa_nil))))))))))), ?_⟩
    have jl := join_len (Str.ofString " ") ws
    have s8 := sum_le8 ws fun z hz => by rw [len_tl]; exact (hw z hz).2.1
    have e1 : (Str.ofString " ").length = 1 := by decide +kernel
    rw [e1] at jl
    have rl := row_len n ws
    obtain ⟨w0', ws', rfl⟩ : ∃ a b, ws = a :: b := by
      cases ws with
      | nil => exact absurd rfl ne
      | cons a b => exact ⟨a, b, rfl⟩
    have h0 : IsW w0' := hw w0' (List.mem_cons_self ..)
    refine ⟨_, rfl, ⟨_, rfl⟩, _, _, rfl, rfl, big (by omega), ?_⟩
    rw [lstrip_row h0]
    refine ⟨_, rfl, ⟨_, rfl⟩, _, _, rfl, rfl, by decide +kernel, big (by omega), fun l nl => ?_⟩
    rw [split_row ne hw]
    have s1 := Same.new (o := .lst ((w0' :: ws').map V.str)) nl
    refine ⟨_, rfl, _, rfl, big (by omega), _, rfl, _, rfl, big (by omega), _, _, rfl, rfl, ?_⟩
    refine ⟨_, rfl, _, _, rfl, rfl, ⟨by decide, by decide⟩, ?_⟩
    have es : ((rowT n (w0' :: ws')).length : Int) - ((Txt.join (Str.ofString " ") (w0' :: ws')).length : Int) = 2 * (n : Int) := by omega
    have eh : (((rowT n (w0' :: ws')).length : Int) - ((Txt.join (Str.ofString " ") (w0' :: ws')).length : Int)) / 2 = (n : Int) := by omega
    refine ⟨_, rfl, _, _, rfl, rfl, .inl ⟨by omega, by omega⟩, _, rfl, rfl, _, rfl, iteNS (congrArg V.int (by omega)) ?_⟩
    refine ⟨_, rfl, l, rfl, ⟨_, SqL.of upd_same⟩, fun D nD => ?_⟩
    refine lc_list (K := K) (a := l) (xs := (w0' :: ws').map V.str) (fun i G => Same (upd H l (.lst ((w0' :: ws').map V.str))) G ∧ G D = some (.lst ((List.replicate i true).map V.bl))) ⟨Same.new nD, upd_same⟩ (fun i G _ h => SqL.of (h.1 _ _ upd_same)) (fun i y G hi h => ?_) (fun G h => ?_)
    · rw [List.getElem?_map] at hi
      cases ez : (w0' :: ws')[i]? with
      | none =>
        rw [ez] at hi
        cases hi
      | some z =>
        rw [ez] at hi
        cases hi
        have hz := hw z (List.mem_of_getElem? ez)
        have il := (List.getElem?_eq_some_iff.mp ez).1
        refine ⟨by simp [wipe], ?_⟩
        refine ⟨_, rfl, .str z, rfl, .inl ⟨z, rfl, by have := hz.2.1; omega, fun G2 s3 => ?_⟩⟩
        rw [wB_ofW hz]
        refine ⟨_, s3 _ _ h.2, small1000 (by rw [List.length_map, List.length_replicate]; omega), fun b o e => ?_, ?_⟩
        · rw [upd_ne (ne_of_none e nD)]
          exact s3 _ _ (h.1 _ _ e)
        · rw [upd_same, List.replicate_succ', List.map_append]
          rfl
    · have hG := h.2
      refine ⟨D, List.replicate ((w0' :: ws').map V.str).length true, rfl, SqL.of hG, _, rfl, ?_⟩
      rw [show (List.replicate ((w0' :: ws').map V.str).length true).all id = true from by rw [List.all_eq_true]; exact fun x hx => (List.mem_replicate.mp hx).2]
      refine iteF ?_
      have hl := h.1 _ _ (upd_same (H := H) (a := l) (o := .lst ((w0' :: ws').map V.str)))
      refine ⟨_, rfl, l, w0' :: ws', rfl, hl, ne, hw, by omega, fun G2 s3 => ⟨_, rfl, ?_⟩⟩
      rw [fo]
      refine iteF ⟨_, rfl, l, _, 0, _, rfl, rfl, SqL.of (s3 _ _ hl), at0 ne, _, rfl, w0 (w0' :: ws'), n, ?_, fun G3 s4 => ⟨_, rfl, ?_⟩⟩
      · exact congrArg (fun i => [V.str (w0 (w0' :: ws')), V.int i]) eh
      rw [na]
      refine iteF ⟨_, rfl, _, rfl, (by show 2 ≤ sizeLine; decide), fun t nt => ?_⟩
      have sN := Same.new (o := .tup [.int ((((rowT n (w0' :: ws')).length : Int) - ((Txt.join (Str.ofString " ") (w0' :: ws')).length : Int)) / 2), .ref l]) nt
      refine k _ t l ((((s1.trans h.1).trans s3).trans s4).trans sN) nl ?_ (sN _ _ (s4 _ _ (s3 _ _ hl)))
      rw [upd_same]
      exact congrArg (fun i => some (HO.tup [V.int i, V.ref l])) eh
end
end IC
namespace IC
open PySem L2 TL PyProof.Rows
structure CTx (K : PySem.W.Frag) (mg : Str → Option Value) (c : LC) : Prop where
  cS : Cls K c.S
  cH : Cls K c.Hd
  cR : Cls K c.R
  sk : NoAttr K c.S "kind"
  sn : NoAttr K c.S "number"
  sw : NoAttr K c.S "word"
  sp : NoAttr K c.S "kept"
  sb : NoAttr K c.S "body"
  sh : NoAttr K c.S "handlers"
  sl : NoAttr K c.S "last"
  hw : NoAttr K c.Hd "words"
  hs : NoAttr K c.Hd "statement"
  hb : NoAttr K c.Hd "body"
  rr : NoAttr K c.R "rows"
  rb : NoAttr K c.R "bodies"
  rh : NoAttr K c.R "_headers"
  rm : NoAttr K c.R "_many_blocks"
structure CDfA (P : Program) (w : World) (K : PySem.W.Frag) (mg : Str → Option Value) (base : Heap) (k : Nat) (x : Str) (C : Addr) (ps : List Str) (sp : Sp) : Prop where
  ex : ∃ (f : Addr) (fd : FuncData), Mk K C f ∧ FnOk P w K mg base CX0 k f fd ps sp ∧ Binds K fd ps [] ∧ mg x = some (.ref C)
theorem pe_mkw {X : Cx} {k j : Nat} {x : Str} {C : Addr} {ps : List Str} {sp : Sp} {p pos : Pos} {e : Expr} {es : List Expr} {t : TA} (D : CDfA X.prog X.w X.K X.mg X.base k x C ps sp) (hr : Room j X.A) (hk : k + 1 ≤ j) (hg : Gl X x) (ha : PA X (e :: es) t)
    (hdb : (x == ("__debug__" : Str)) = false := by decide) (he : starEach (e :: es) X.env = (false, eval e X.env) :: starEach es X.env := by rfl) (hpl : (backTo pos (starEach es X.env)).any (·.1) = false := by rfl) :
    PE X (.Call (.Name x p) (e :: es) [] pos) (tMake C sp [] E0 t) := by
  obtain ⟨f, fd, M, F, hb, hm⟩ := D.ex
  exact pe_make M F (hr.mono hk) hg hm hb .nil pass0 ha hdb he hpl
section
variable {P : Program} {w : World} {K : PySem.W.Frag} {mg : Str → Option Value} {base : Heap} {c : LC} {tL tF : Addr}
/-- Statement(words, number) -/
def spSt (c : LC) : Sp := fun vs H Q _ => ∃ (x dx l : Addr) (ws : List Str) (num : Nat), vs = [.ref x, .ref l, .int num] ∧ H x = some (.ins c.S dx []) ∧ H l = some (.lst (ws.map V.str)) ∧ ws ≠ [] ∧
  ∀ (H' : Hp) (kt b h : Addr), Kp [x] H H' → H kt = none → H b = none → H h = none → b ≠ h → H' x = some (.ins c.S dx [("kind", .str (w0 ws)), ("number", .int num), ("word", .str (w1 ws)), ("kept", .ref kt), ("body", .ref b), ("handlers", .ref h), ("last", .non)]) → H' kt = some (.tup ((ws.drop 3).map V.str)) → H' b = some (.lst []) → H' h = some (.lst []) → Q .non H'
theorem ok_st {f : Addr} {fd : FuncData} (F : Fun K "__init__" "Statement.__init__" s_Statement___init__ f fd) (T : Bn mg) (B : CTx K mg c) : FnOk P w K mg base CX0 1 f fd ["self", "words", "number"] (spSt c) := by
  refine F.ok sc_Statement___init__ (fun vs H Q E h => ?_) (fun cdv A outer s H vs Q E hr h => ?_)
  · obtain ⟨x, dx, l, ws, num, rfl, _⟩ := h
    rfl
  · obtain ⟨x, dx, l, ws, num, rfl, hx, hl, ne, k⟩ := h
    refine ⟨_, (pss_cons (ps_fld (pv 0) (pe_ix ix_list (pv 1) pe_int (fun _ _ => rfl)) rfl)
  (pss_cons (ps_fld (pv 0) (pv 2) rfl)
  (Evl.pss_cut (ps_fld (pv 0) (pe_ifExp (pt_cmpR op_gt (pe_callB call_len_seq (by rfl) T.len PySem.boot_len (pa_cons (pv 1) pa_nil)) pe_int (nomark _)) (pe_ix ix_list (pv 1) pe_int (fun _ _ => rfl)) pe_str) rfl)
  (pss_cons (ps_fld (pv 0) (pe_callTy call_tuple_of (by rfl) T.tuple (by decide +kernel) (pa_cons (pe_slice sl_list (pv 1) (po_some pe_int) po_none) pa_nil)) rfl)
  (pss_cons (ps_fld (pv 0) (pe_lst pa_nil) rfl)
  (pss_cons (ps_fld (pv 0) (pe_lst pa_nil) rfl)
  (pss_one (ps_fld (pv 0) pe_non rfl)))))))), ?_⟩
    have xl : l ≠ x := fun e => by
      rw [e, hx] at hl
      cases hl
    refine ⟨_, rfl, l, _, 0, _, rfl, rfl, SqL.of hl, at0 ne, _, rfl, x, c.S, dx, [], rfl, hx, B.cS, B.sk, (by show 0 < 1000; decide), ?_⟩
    refine ⟨_, rfl, _, rfl, x, c.S, dx, _, rfl, upd_same, B.cS, B.sn, (by show 1 < 1000; decide), ?_⟩
    have hl2 : upd (upd H x (.ins c.S dx (putF "kind" (.str (w0 ws)) []))) x (.ins c.S dx (putF "number" (.int num) (putF "kind" (.str (w0 ws)) []))) l = some (.lst (ws.map V.str)) := by
      rw [upd_ne xl, upd_ne xl]
      exact hl
    have kx : Kp [x] H (upd (upd H x (.ins c.S dx (putF "kind" (.str (w0 ws)) []))) x (.ins c.S dx (putF "number" (.int num) (putF "kind" (.str (w0 ws)) [])))) := (Kp.at_ (List.mem_singleton.mpr rfl)).mutAt (List.mem_singleton.mpr rfl)
    refine ⟨fun σ' H' => σ' = [some (.ref x), some (.ref l), some (.int num)] ∧ Kp [x] H H' ∧ H' l = some (.lst (ws.map V.str)) ∧ H' x = some (.ins c.S dx [("kind", .str (w0 ws)), ("number", .int num), ("word", .str (w1 ws))]), ?_, ?_⟩
    · refine ⟨_, rfl, l, _, rfl, .inl (SqL.of hl2), _, _, rfl, rfl, _, rfl, ?_⟩
      rw [List.length_map]
      have e3 : decide ((1 : Int) < (ws.length : Int)) = decide (1 < ws.length) := by
        rw [decide_eq_decide]
        omega
      show if decide ((1 : Int) < (ws.length : Int)) = true then _ else _
      rw [e3]
      refine ite2 (fun c1 => ?_) (fun c1 => ?_)
      · have c1 : 1 < ws.length := of_decide_eq_true c1
        refine ⟨_, rfl, l, _, 1, _, rfl, rfl, SqL.of hl2, at1 c1, _, rfl, x, c.S, dx, _, rfl, upd_same, B.cS, B.sw, (by show 2 < 1000; decide), rfl, kx.mutAt (List.mem_singleton.mpr rfl), ?_, upd_same⟩
        rw [upd_ne xl]
        exact hl2
      · have e1 : w1 ws = Str.empty := by
          match ws, ne with
          | [_], _ => rfl
          | _ :: _ :: _, _ => exact absurd (decide_eq_true (by simp)) c1
        refine ⟨_, rfl, x, c.S, dx, _, rfl, upd_same, B.cS, B.sw, (by show 2 < 1000; decide), rfl, kx.mutAt (List.mem_singleton.mpr rfl), ?_, ?_⟩
        · rw [upd_ne xl]
          exact hl2
        · rw [upd_same, e1]
          rfl
    · rintro σ' H1 ⟨rfl, k1, hl3, hx3⟩
      have ne_of : ∀ {G : Hp} {y : Addr}, G x = some (.ins c.S dx [("kind", .str (w0 ws)), ("number", .int num), ("word", .str (w1 ws))]) → G y = none → x ≠ y := fun h e => ne_of_none h e
      refine ⟨_, rfl, _, rfl, l, _, rfl, SqL.of hl3, fun p np => ?_⟩
      rw [show (3 : Int) = ((3 : Nat) : Int) from rfl, cutR]
      have s1 := Same.new (o := .lst ((ws.drop 3).map V.str)) np
      refine ⟨p, _, rfl, .inl ⟨SqL.of upd_same, fun kt nkt => ?_⟩⟩
      have s2 := Same.new (o := .tup ((ws.drop 3).map V.str)) nkt
      have hx4 := s2 _ _ (s1 _ _ hx3)
      have k2 := k1.trans (Kp.same (s1.trans s2))
      have hkt : upd (upd H1 p (.lst ((ws.drop 3).map V.str))) kt (.tup ((ws.drop 3).map V.str)) kt = some (.tup ((ws.drop 3).map V.str)) := upd_same
      have nkt0 : H1 kt = none := s1.free nkt
      have kne : kt ≠ x := (ne_of_none (s1 _ _ hx3) nkt).symm
      generalize upd (upd H1 p (.lst ((ws.drop 3).map V.str))) kt (.tup ((ws.drop 3).map V.str)) = H2 at hx4 k2 hkt ⊢
      refine ⟨_, rfl, x, c.S, dx, _, rfl, hx4, B.cS, B.sp, (by show 3 < 1000; decide), ?_⟩
      generalize eH3 : upd H2 x _ = H3
      have hx5 : H3 x = some (.ins c.S dx [("kind", .str (w0 ws)), ("number", .int num), ("word", .str (w1 ws)), ("kept", .ref kt)]) := by rw [← eH3]; exact upd_same
      have k3 : Kp [x] H H3 := by rw [← eH3]; exact k2.mutAt (List.mem_singleton.mpr rfl)
      have hkt3 : H3 kt = some (.tup ((ws.drop 3).map V.str)) := by rw [← eH3, upd_ne kne]; exact hkt
      have free : ∀ {G : Hp} {y : Addr}, Kp [x] H G → G x ≠ none → G y = none → H y = none := fun {G y} kk gx e => by
        cases q : H y with
        | none => rfl
        | some o =>
          by_cases yx : y = x
          · rw [yx] at e
            exact absurd e gx
          · rw [kk y o q (by simpa using yx)] at e
            cases e
      refine ⟨(by show 0 ≤ sizeLine; decide), fun b nb => ⟨_, rfl, x, c.S, dx, _, rfl, (Same.new nb) _ _ hx5, B.cS, B.sb, (by show 4 < 1000; decide), ?_⟩⟩
      have bx : b ≠ x := (ne_of_none hx5 nb).symm
      have nb0 := free k3 (by rw [hx5]; simp) nb
      have s4 := Same.new (o := .lst []) nb
      generalize eH4 : upd (upd H3 b _) x _ = H4
      have hx6 : H4 x = some (.ins c.S dx [("kind", .str (w0 ws)), ("number", .int num), ("word", .str (w1 ws)), ("kept", .ref kt), ("body", .ref b)]) := by rw [← eH4]; exact upd_same
      have k4 : Kp [x] H H4 := by rw [← eH4]; exact (k3.trans (Kp.same s4)).mutAt (List.mem_singleton.mpr rfl)
      have hkt4 : H4 kt = some (.tup ((ws.drop 3).map V.str)) := by rw [← eH4, upd_ne kne]; exact s4 _ _ hkt3
      have hb4 : H4 b = some (.lst []) := by rw [← eH4, upd_ne bx]; exact upd_same
      refine ⟨(by show 0 ≤ sizeLine; decide), fun h nh => ⟨_, rfl, x, c.S, dx, _, rfl, (Same.new nh) _ _ hx6, B.cS, B.sh, (by show 5 < 1000; decide), ?_⟩⟩
      have hx_ : h ≠ x := (ne_of_none hx6 nh).symm
      have nh0 := free k4 (by rw [hx6]; simp) nh
      have s5 := Same.new (o := .lst []) nh
      generalize eH5 : upd (upd H4 h _) x _ = H5
      have hx7 : H5 x = some (.ins c.S dx [("kind", .str (w0 ws)), ("number", .int num), ("word", .str (w1 ws)), ("kept", .ref kt), ("body", .ref b), ("handlers", .ref h)]) := by rw [← eH5]; exact upd_same
      have k5 : Kp [x] H H5 := by rw [← eH5]; exact (k4.trans (Kp.same s5)).mutAt (List.mem_singleton.mpr rfl)
      have hkt5 : H5 kt = some (.tup ((ws.drop 3).map V.str)) := by rw [← eH5, upd_ne kne]; exact s5 _ _ hkt4
      have hb5 : H5 b = some (.lst []) := by rw [← eH5, upd_ne bx]; exact s5 _ _ hb4
      have hh5 : H5 h = some (.lst []) := by rw [← eH5, upd_ne hx_]; exact upd_same
      refine ⟨_, rfl, x, c.S, dx, _, rfl, hx7, B.cS, B.sl, (by show 6 < 1000; decide), ?_⟩
      refine k _ kt b h (k5.mutAt (List.mem_singleton.mpr rfl)) ?_ nb0 nh0 (ne_of_none hb4 nh) upd_same ?_ ?_ ?_
      · exact free k1 (by rw [hx3]; simp) nkt0
      · rw [upd_ne kne]
        exact hkt5
      · rw [upd_ne bx]
        exact hb5
      · rw [upd_ne hx_]
        exact hh5
/-- Header(words, statement, body) -/
def spHdI (c : LC) : Sp := fun vs H Q _ => ∃ (x dx : Addr) (wv sv bv : V), vs = [.ref x, wv, sv, bv] ∧ H x = some (.ins c.Hd dx []) ∧ ∀ H', Kp [x] H H' → H' x = some (.ins c.Hd dx [("words", wv), ("statement", sv), ("body", bv)]) → Q .non H'
theorem ok_hd {f : Addr} {fd : FuncData} (F : Fun K "__init__" "Header.__init__" s_Header___init__ f fd) (B : CTx K mg c) : FnOk P w K mg base CX0 1 f fd ["self", "words", "statement", "body"] (spHdI c) := by
  refine F.ok sc_Header___init__ (fun vs H Q E h => ?_) (fun cdv A outer s H vs Q E hr h => ?_)
  · obtain ⟨x, dx, wv, sv, bv, rfl, _⟩ := h
    rfl
  · obtain ⟨x, dx, wv, sv, bv, rfl, hx, k⟩ := h
    refine ⟨_, (pss_cons (ps_fld (pv 0) (pv 1) rfl)
  (pss_cons (ps_fld (pv 0) (pv 2) rfl)
  (pss_one (ps_fld (pv 0) (pv 3) rfl)))), ?_⟩
    refine ⟨_, rfl, _, rfl, x, c.Hd, dx, [], rfl, hx, B.cH, B.hw, (by show 0 < 1000; decide), ?_⟩
    refine ⟨_, rfl, _, rfl, x, c.Hd, dx, _, rfl, upd_same, B.cH, B.hs, (by show 1 < 1000; decide), ?_⟩
    refine ⟨_, rfl, _, rfl, x, c.Hd, dx, _, rfl, upd_same, B.cH, B.hb, (by show 2 < 1000; decide), ?_⟩
    exact k _ (((Kp.at_ (List.mem_singleton.mpr rfl)).mutAt (List.mem_singleton.mpr rfl)).mutAt (List.mem_singleton.mpr rfl)) upd_same
def HdAt (c : LC) (H : Hp) (x : Addr) (ws : List Str) : Prop := ∃ (dx l : Addr) (sv bv : V), H x = some (.ins c.Hd dx [("words", .ref l), ("statement", sv), ("body", bv)]) ∧ H l = some (.lst (ws.map V.str)) ∧ ws ≠ []
theorem HdAt.same {H H' : Hp} {x : Addr} {ws : List Str} (h : HdAt c H x ws) (s : Same H H') : HdAt c H' x ws := by
  obtain ⟨dx, l, sv, bv, h1, h2, h3⟩ := h
  exact ⟨dx, l, sv, bv, s _ _ h1, s _ _ h2, h3⟩
theorem ok_bare {f : Addr} {fd : FuncData} (F : Fun K "is_bare_try" "Header.is_bare_try" s_Header_is_bare_try f fd) (B : CTx K mg c) : FnOk P w K mg base CX0 1 f fd ["self"] (fun vs H Q _ => ∃ (x : Addr) (ws : List Str), vs = [.ref x] ∧ HdAt c H x ws ∧ Q (.bl (decide (w0 ws = Str.ofString "try"))) H) := by
  refine F.ok sc_Header_is_bare_try (fun vs H Q E h => ?_) (fun cdv A outer s H vs Q E hr h => ?_)
  · obtain ⟨x, ws, rfl, _⟩ := h
    rfl
  · obtain ⟨x, ws, rfl, ⟨dx, l, sv, bv, h1, h2, h3⟩, k⟩ := h
    refine ⟨_, (pss_one (ps_ret (pe_cmpR op_eq (pe_ix ix_list (pe_fld (pv 0) rfl) pe_int (fun _ _ => rfl)) pe_str (nomark _)))), ?_⟩
    refine ⟨_, rfl, x, c.Hd, dx, _, _, rfl, h1, B.cH, B.hw, rfl, l, _, 0, _, rfl, rfl, SqL.of h2, at0 h3, rfl, ?_⟩
    show Q (.bl (decide (V.str (w0 ws) = V.str (Str.ofString "try")))) H
    rw [show decide (V.str (w0 ws) = V.str (Str.ofString "try")) = decide (w0 ws = Str.ofString "try") from by rw [decide_eq_decide, V.str.injEq]]
    exact k
theorem ok_goOn {f : Addr} {fd : FuncData} (F : Fun K "can_go_on" "Header.can_go_on" s_Header_can_go_on f fd) (T : Bn mg) (B : CTx K mg c) : FnOk P w K mg base CX0 1 f fd ["self", "kind"] (fun vs H Q _ => ∃ (x : Addr) (ws : List Str) (z : Str), vs = [.ref x, .str z] ∧ HdAt c H x ws ∧ ∀ H', Same H H' → Q (.bl (goB ws z)) H') := by
  refine F.ok sc_Header_can_go_on (fun vs H Q E h => ?_) (fun cdv A outer s H vs Q E hr h => ?_)
  · obtain ⟨x, ws, z, rfl, _⟩ := h
    rfl
  · obtain ⟨x, ws, z, rfl, ⟨dx, l, sv, bv, h1, h2, h3⟩, k⟩ := h
    refine ⟨_, (pss_cons (ps_if (pt_cmpR op_eq (pv 1) pe_str (nomark _))
  (pss_one (ps_ret (pe_or (pe_cmpR op_eq (pe_ix ix_list (pe_fld (pv 0) rfl) pe_int (fun _ _ => rfl)) pe_str (nomark _)) (pe_one (pe_and (pe_cmpR op_eq (pe_ix ix_list (pe_fld (pv 0) rfl) pe_int (fun _ _ => rfl)) pe_str (nomark _)) (pe_one (pe_cmpR op_gt (pe_callB call_len_seq (by rfl) T.len PySem.boot_len (pa_cons (pe_fld (pv 0) rfl) pa_nil)) pe_int (nomark _))))))))
  pss_nil)
  (pss_one (ps_ret (pe_cmpR op_in_seq (pe_ix ix_list (pe_fld (pv 0) rfl) pe_int (fun _ _ => rfl)) (pe_tup (pa_cons pe_str (pa_cons pe_str pa_nil))) (by rfl))))), ?_⟩
    unfold goB at k
    have sd : ∀ a b : Str, decide (V.str a = V.str b) = decide (a = b) := fun a b => by rw [decide_eq_decide, V.str.injEq]
    refine ⟨_, rfl, rfl, _, rfl, iteS (fun c1 => ?_) (fun c1 => ?_)⟩
    · rw [if_pos c1] at k
      have kk := k H (Same.refl H)
      refine ⟨_, rfl, x, c.Hd, dx, _, _, rfl, h1, B.cH, B.hw, rfl, l, _, 0, _, rfl, rfl, SqL.of h2, at0 h3, rfl, _, rfl, ?_⟩
      rw [sd]
      cases c2 : decide (w0 ws = Str.ofString "try") with
      | true =>
        rw [c2] at kk
        exact iteT kk
      | false =>
        rw [c2] at kk
        refine iteF ⟨_, rfl, x, c.Hd, dx, _, _, rfl, h1, B.cH, B.hw, rfl, l, _, 0, _, rfl, rfl, SqL.of h2, at0 h3, rfl, _, rfl, ?_⟩
        rw [sd]
        cases c3 : decide (w0 ws = Str.ofString "except") with
        | false =>
          rw [c3] at kk
          exact iteF kk
        | true =>
          rw [c3] at kk
          refine iteT ⟨_, rfl, x, c.Hd, dx, _, _, rfl, h1, B.cH, B.hw, rfl, l, _, rfl, .inl (SqL.of h2), _, _, rfl, rfl, ?_⟩
          rw [List.length_map]
          show Q (.bl (decide ((1 : Int) < (ws.length : Int)))) _
          have e3 : decide ((1 : Int) < (ws.length : Int)) = decide (1 < ws.length) := by
            rw [decide_eq_decide]
            omega
          rw [e3]
          exact kk
    · rw [if_neg c1] at k
      refine ⟨_, rfl, x, c.Hd, dx, _, _, rfl, h1, B.cH, B.hw, rfl, l, _, 0, _, rfl, rfl, SqL.of h2, at0 h3, (by show 2 ≤ sizeLine; decide), fun t nt => ?_⟩
      have s1 := Same.new (o := .tup [.str "try", .str "except"]) nt
      refine ⟨t, ([Str.ofString "try", Str.ofString "except"] : List Str).map V.str, rfl, .inr (SqT.of upd_same), rfl, flatS _, ?_⟩
      rw [inq]
      have e : decide (w0 ws ∈ [Str.ofString "try", Str.ofString "except"]) = (decide (w0 ws = Str.ofString "try") || decide (w0 ws = Str.ofString "except")) := by
        rw [Bool.eq_iff_iff, Bool.or_eq_true, decide_eq_true_iff, decide_eq_true_iff, decide_eq_true_iff]
        simp
      rw [e]
      exact k _ s1
end
end IC
namespace IC
open PySem L2 TL PyProof.Rows
section
variable {P : Program} {w : World} {K : PySem.W.Frag} {mg : Str → Option Value} {base : Heap} {c : LC} {tL tF : Addr}
theorem atI_last' {xs : List V} {x : V} (h : xs.getLast? = some x) : atI xs (-1) = some x := by
  obtain ⟨ys, rfl⟩ := List.getLast?_eq_some_iff.mp h
  exact atI_last ys x
def spRdQ (c : LC) (f : List LR → List Hd → Bool) : Sp := fun vs H Q _ => ∃ (F : Addr → Prop) (q : RdP) (R : List LR) (PH : List Hd) (k : Nat) (xs : List V), vs = [.ref q.rd] ∧ RdG c H F q R PH k xs ∧ ∀ H', Same H H' → Q (.bl (f R PH)) H'
theorem RdG.at_ {H : Hp} {F : Addr → Prop} {q : RdP} {R : List LR} {PH : List Hd} {k : Nat} {xs : List V} (G : RdG c H F q R PH k xs) {p : Hd} (h : p ∈ PH) : HdAt c H p.o p.r.ws := ⟨p.od, p.r.wl, p.sv, .ref p.r.b, G.hd p h, G.w _ (G.hr p h), (G.ne _ (G.hr p h)).1⟩
theorem ok_lacks {f : Addr} {fd : FuncData} (F : Fun K "_lacks_body" "Reader._lacks_body" s_Reader__lacks_body f fd) (T : Bn mg) (B : CTx K mg c) : FnOk P w K mg base CX0 1 f fd ["self"] (spRdQ c lackB) := by
  refine F.ok sc_Reader__lacks_body (fun vs H Q E h => ?_) (fun cdv A outer s H vs Q E hr h => ?_)
  · obtain ⟨F, q, R, PH, k, xs, rfl, _⟩ := h
    rfl
  · obtain ⟨F, q, R, PH, k, xs, rfl, G, kk⟩ := h
    refine ⟨_, (pss_one (ps_ret (pe_and (pe_cmpR (op_neNil hr.units) (pe_fld (pv 0) rfl) (pe_lst pa_nil) (nomark _)) (pe_one (pe_cmpR (op_eqNil hr.units) (pe_fld (pe_ix ix_list (pe_fld (pv 0) rfl) (pe_un un_neg pe_int) (fun _ _ => rfl)) rfl) (pe_lst pa_nil) (nomark _)))))), ?_⟩
    refine ⟨_, rfl, q.rd, c.R, q.dx, _, _, rfl, G.o, B.cR, B.rh, rfl, (by show 0 ≤ sizeLine; decide), fun e1 n1 => ?_⟩
    have s1 := Same.new (o := .lst []) n1
    have G1 := G.same s1
    refine ⟨q.hl, e1, _, rfl, rfl, SqL.of G1.hl, SqL.of upd_same, _, rfl, ?_⟩
    have k1 := kk _ s1
    unfold lackB at k1 kk
    rw [if_pos rfl]
    cases hP : PH.getLast? with
    | none =>
      have e : PH = [] := List.getLast?_eq_none_iff.mp hP
      rw [hP] at k1
      rw [e]
      exact iteF k1
    | some p =>
      rw [hP] at k1 kk
      have ne : PH ≠ [] := fun e => by
        rw [e] at hP
        cases hP
      have e2 : (!(PH.map fun p => V.ref p.o).isEmpty) = true := by
        cases PH with
        | nil => exact absurd rfl ne
        | cons a b => rfl
      rw [e2]
      have pm : p ∈ PH := List.mem_of_getLast? hP
      refine iteT ⟨_, rfl, q.rd, c.R, q.dx, _, _, rfl, G1.o, B.cR, B.rh, rfl, _, rfl, q.hl, _, -1, _, rfl, rfl, SqL.of G1.hl, atI_last' (by rw [List.getLast?_map, hP]; rfl), p.o, c.Hd, p.od, _, _, rfl, G1.hd p pm, B.cH, B.hb, rfl, (by show 0 ≤ sizeLine; decide), fun e3 n3 => ?_⟩
      have s3 := Same.new (o := .lst []) n3
      refine ⟨p.r.b, e3, _, rfl, rfl, SqL.of ((G1.same s3).b _ (G.hr p pm)), SqL.of upd_same, ?_⟩
      rw [if_neg (by decide)]
      have e4 : ((kids R p.r.b).map fun s => V.ref s.a).isEmpty = (kids R p.r.b).isEmpty := by
        cases kids R p.r.b <;> rfl
      rw [e4]
      exact kk _ (s1.trans s3)
/-- self._leaves_bare_try(nesting) -/
def spLeaves (c : LC) : Sp := fun vs H Q _ => ∃ (F : Addr → Prop) (q : RdP) (R : List LR) (PH : List Hd) (k n : Nat) (xs : List V), vs = [.ref q.rd, .int n] ∧ RdG c H F q R PH k xs ∧ PH.length ≤ 100 ∧ ∀ H', Same H H' → Q (.bl (bareB PH n)) H'
theorem ok_leaves {f : Addr} {fd : FuncData} (F : Fun K "_leaves_bare_try" "Reader._leaves_bare_try" s_Reader__leaves_bare_try f fd) (T : Bn mg) (B : CTx K mg c) (M_bare : MDf P w K mg base CX0 1 c.Hd "is_bare_try" ["self"] [] (fun vs H Q _ => ∃ (x : Addr) (ws : List Str), vs = [.ref x] ∧ HdAt c H x ws ∧ Q (.bl (decide (w0 ws = Str.ofString "try"))) H)) :
    FnOk P w K mg base CX0 2 f fd ["self", "nesting"] (spLeaves c) := by
  refine F.ok sc_Reader__leaves_bare_try (fun vs H Q E h => ?_) (fun cdv A outer s H vs Q E hr h => ?_)
  · obtain ⟨F, q, R, PH, k, n, xs, rfl, _⟩ := h
    rfl
  · obtain ⟨F, q, R, PH, k, n, xs, rfl, G, few, kk⟩ := h
    refine ⟨_, (pss_one (ps_ret (pe_callB (cr_any rfl) (by rfl) T.any (by decide +kernel) (pa_cons (pe_lc (own := [("header", 2)]) (g := gName 2) (tt := tYes) rfl sc_Reader__leaves_bare_try.nd (pi_list (pe_slice sl_list (pe_fld (pv 0) rfl) (po_some (pv 1)) po_none)) (blkOk_by (N := ["self", "nesting", "header"]) (sc := defScope s_Reader__leaves_bare_try) (by decide +kernel)) (fun _ _ _ _ _ => pg_name (i := 2) sc_Reader__leaves_bare_try.nd rfl (Or.inl rfl)) (fun _ _ _ _ _ => pts_nil) (fun _ _ _ _ _ => (pe_md0 M_bare B.cH hr (by first | decide | omega) (pv 2)))) pa_nil)))), ?_⟩
    refine ⟨_, rfl, q.rd, c.R, q.dx, _, _, rfl, G.o, B.cR, B.rh, rfl, _, rfl, _, rfl, q.hl, _, rfl, SqL.of G.hl, fun p np => ?_⟩
    rw [cutV_R, ← List.map_drop]
    have s1 := Same.new (o := .lst ((PH.drop n).map fun p => V.ref p.o)) np
    have G1 := G.same s1
    refine ⟨p, rfl, ⟨_, SqL.of upd_same⟩, fun D nD => ?_⟩
    refine lc_list (K := K) (a := p) (xs := (PH.drop n).map fun p => V.ref p.o) (fun i G2 => Same (upd H p (.lst ((PH.drop n).map fun p => V.ref p.o))) G2 ∧ G2 D = some (.lst ((((PH.drop n).take i).map fun p => decide (w0 p.r.ws = Str.ofString "try")).map V.bl))) ⟨Same.new nD, upd_same⟩ (fun i G2 _ h => SqL.of (h.1 _ _ upd_same)) (fun i y G2 hi h => ?_) (fun G2 h => ?_)
    · rw [List.getElem?_map] at hi
      cases ez : (PH.drop n)[i]? with
      | none =>
        rw [ez] at hi
        cases hi
      | some p1 =>
        rw [ez] at hi
        cases hi
        have pm : p1 ∈ PH := List.mem_of_mem_drop (List.mem_of_getElem? ez)
        have G3 := G1.same h.1
        refine ⟨by simp [wipe], ?_⟩
        refine ⟨_, rfl, p1.o, p1.od, _, rfl, G3.hd p1 pm, rfl, p1.o, p1.r.ws, rfl, G3.at_ pm, _, h.2, small1000 (by rw [List.length_map, List.length_map, List.length_take, List.length_drop]; omega), fun b o e => ?_, ?_⟩
        · rw [upd_ne (ne_of_none e nD)]
          exact h.1 _ _ e
        · rw [upd_same, List.take_add_one, ez, List.map_append, List.map_append]
          rfl
    · have hG := h.2
      rw [List.length_map, List.take_length] at hG
      refine ⟨D, _, rfl, SqL.of hG, ?_⟩
      have e : ((PH.drop n).map fun p => decide (w0 p.r.ws = Str.ofString "try")).any id = bareB PH n := by
        unfold bareB
        rw [List.any_map]
        rfl
      rw [e]
      exact kk _ (s1.trans h.1)
def names (R : List LR) : List Str := (R.filter LR.isF).map fun r => w1 r.ws
theorem fnB_get (R : List LR) (z : Str) : (valV (fnB R) (Sum.inr z)).isSome = decide (z ∈ names R) := by
  unfold fnB names
  induction R.filter LR.isF with
  | nil => rfl
  | cons r l ih =>
    rw [List.map_cons, List.map_cons]
    by_cases e : w1 r.ws = z
    · rw [valV_pos (by rw [e])]
      exact (decide_eq_true (by rw [e]; exact List.mem_cons_self ..)).symm
    · rw [valV_neg (fun q => e (Sum.inr.inj q)), ih, decide_eq_decide, List.mem_cons]
      exact ⟨.inr, fun h => h.elim (fun q => absurd q.symm e) id⟩
def canB (R : List LR) (PH : List Hd) (n : Nat) (ws : List Str) : Bool :=
  if lackB R PH = true then decide (n = PH.length) && !decide (w0 ws ∈ follS)
  else if PH.length < n then false
  else if w0 ws ∈ follS then (if n = PH.length ∨ bareB PH (n + 1) = true then false else match PH[n]? with
    | some p => goB p.r.ws (w0 ws)
    | none => false)
  else if w0 ws = Str.ofString "function" ∧ w1 ws ∈ names R then false
  else !bareB PH n
/-- self._can_follow(nesting, words) -/
def spCan (c : LC) : Sp := fun vs H Q _ => ∃ (F : Addr → Prop) (q : RdP) (R : List LR) (PH : List Hd) (k n : Nat) (xs : List V) (l : Addr) (ws : List Str), vs = [.ref q.rd, .int n, .ref l] ∧ RdG c H F q R PH k xs ∧ PH.length ≤ 100 ∧ H l = some (.lst (ws.map V.str)) ∧ ws ≠ [] ∧ (w0 ws = Str.ofString "function" → 1 < ws.length) ∧ ∀ H', Same H H' → Q (.bl (canB R PH n ws)) H'
theorem ok_can {f : Addr} {fd : FuncData} (F : Fun K "_can_follow" "Reader._can_follow" s_Reader__can_follow f fd) (T : Bn mg) (B : CTx K mg c) (Lx : LTxt K mg tL tF) (M_lacks : MDf P w K mg base CX0 1 c.R "_lacks_body" ["self"] [] (spRdQ c lackB)) (M_leaves : MDf P w K mg base CX0 2 c.R "_leaves_bare_try" ["self", "nesting"] [] (spLeaves c))
    (M_goOn : MDf P w K mg base CX0 1 c.Hd "can_go_on" ["self", "kind"] [] (fun vs H Q _ => ∃ (x : Addr) (ws : List Str) (z : Str), vs = [.ref x, .str z] ∧ HdAt c H x ws ∧ ∀ H', Same H H' → Q (.bl (goB ws z)) H')) : FnOk P w K mg base CX0 3 f fd ["self", "nesting", "words"] (spCan c) := by
  refine F.ok sc_Reader__can_follow (fun vs H Q E h => ?_) (fun cdv A outer s H vs Q E hr h => ?_)
  · obtain ⟨F, q, R, PH, k, n, xs, l, ws, rfl, _⟩ := h
    rfl
  · obtain ⟨F, q, R, PH, k, n, xs, l, ws, rfl, G, few, hl, ne, hfn, kk⟩ := h
    have hu := hu_of hr
    refine ⟨_, (pss_cons (ps_set (i := 3) sc_Reader__can_follow.nd rfl (Or.inl rfl) (pe_ix ix_list (pv 2) pe_int (fun _ _ => rfl)))
  (pss_cons (ps_if (pt_val (pe_md0 M_lacks B.cR hr (by first | decide | omega) (pv 0)))
  (pss_one (ps_ret (pe_and (pe_cmpR op_eq (pv 1) (pe_callB call_len_seq (by rfl) T.len PySem.boot_len (pa_cons (pe_fld (pv 0) rfl) pa_nil)) (nomark _)) (pe_one (pe_cmpR op_notIn_seq (pv 3) (pe_glob (v := .ref _) rfl Lx.gF.m rfl) (by rfl))))))
  pss_nil)
  (pss_cons (ps_if (pt_cmpR op_gt (pv 1) (pe_callB call_len_seq (by rfl) T.len PySem.boot_len (pa_cons (pe_fld (pv 0) rfl) pa_nil)) (nomark _))
  (pss_one (ps_ret pe_bl))
  pss_nil)
  (pss_cons (ps_if (pt_cmpR op_in_seq (pv 3) (pe_glob (v := .ref _) rfl Lx.gF.m rfl) (by rfl))
  (Evl.pss_cut (ps_if (PW.pt (pw_or (pt_cmpR op_eq (pv 1) (pe_callB call_len_seq (by rfl) T.len PySem.boot_len (pa_cons (pe_fld (pv 0) rfl) pa_nil)) (nomark _)) (pw_or1 (pt_val (pe_md M_leaves B.cR hr (by first | decide | omega) (pv 0) (pa_cons (pe_op op_add (pv 1) pe_int) pa_nil))))))
  (pss_one (ps_ret pe_bl))
  pss_nil)
  (pss_one (ps_ret (pe_md M_goOn B.cH hr (by first | decide | omega) (pe_ix ix_list (pe_fld (pv 0) rfl) (pv 1) (fun _ _ => rfl)) (pa_cons (pv 3) pa_nil)))))
  pss_nil)
  (pss_cons (ps_if (PW.pt (pw_and (pt_cmpR op_eq (pv 3) pe_str (nomark _)) (pw_and1 (pt_cmp (pc_din hu (pe_ix ix_list (pv 2) pe_int (fun _ _ => rfl)) (pe_fld (pv 0) rfl))))))
  (pss_one (ps_ret pe_bl))
  pss_nil)
  (pss_one (ps_ret (pe_not (pe_md M_leaves B.cR hr (by first | decide | omega) (pv 0) (pa_cons (pv 1) pa_nil)))))))))), ?_⟩
    unfold canB at kk
    have di : ∀ a b : Nat, decide (V.int (a : Int) = V.int (b : Int)) = decide (a = b) := fun a b => by
      rw [decide_eq_decide, V.int.injEq]
      omega
    refine ⟨_, rfl, l, _, 0, _, rfl, rfl, SqL.of hl, at0 ne, ?_⟩
    refine ⟨_, rfl, q.rd, q.dx, _, rfl, G.o, rfl, F, q, R, PH, k, xs, rfl, G, fun H1 s1 => ⟨_, rfl, ?_⟩⟩
    have G1 := G.same s1
    have hl1 := s1 _ _ hl
    cases eL : lackB R PH with
    | true =>
      rw [if_pos eL] at kk
      refine iteT ⟨_, rfl, _, rfl, q.rd, c.R, q.dx, _, _, rfl, G1.o, B.cR, B.rh, rfl, q.hl, _, rfl, .inl (SqL.of G1.hl), rfl, _, rfl, ?_⟩
      rw [List.length_map, di]
      have k1 := kk _ s1
      cases e1 : decide (n = PH.length) with
      | false =>
        rw [e1] at k1
        exact iteF k1
      | true =>
        rw [e1] at k1
        refine iteT ⟨_, rfl, tF, follS.map V.str, rfl, .inr (Lx.gF.seq _), rfl, flatS _, ?_⟩
        rw [ninq]
        exact k1
    | false =>
      rw [if_neg (by rw [eL]; decide)] at kk
      refine iteF ⟨_, rfl, _, rfl, q.rd, c.R, q.dx, _, _, rfl, G1.o, B.cR, B.rh, rfl, q.hl, _, rfl, .inl (SqL.of G1.hl), _, _, rfl, rfl, _, rfl, ?_⟩
      rw [List.length_map]
      refine ite2 (fun c1 => ?_) (fun c1 => ?_)
      · have c1 : PH.length < n := by have := of_decide_eq_true c1; omega
        rw [if_pos c1] at kk
        exact kk _ s1
      have c1 : ¬ PH.length < n := fun h => c1 (decide_eq_true (by omega))
      rw [if_neg c1] at kk
      refine ⟨_, rfl, tF, follS.map V.str, rfl, .inr (Lx.gF.seq _), rfl, flatS _, _, rfl, ?_⟩
      rw [inq]
      refine ite2 (fun c2 => ?_) (fun c2 => ?_)
      · rw [if_pos (of_decide_eq_true c2)] at kk
        refine ⟨fun σ' H' => σ' = [some (.ref q.rd), some (.int n), some (.ref l), some (.str (w0 ws))] ∧ Same H H' ∧ ¬ (n = PH.length ∨ bareB PH (n + 1) = true), ?_, ?_⟩
        · refine ⟨_, rfl, _, rfl, q.rd, c.R, q.dx, _, _, rfl, G1.o, B.cR, B.rh, rfl, q.hl, _, rfl, .inl (SqL.of G1.hl), rfl, _, rfl, ?_⟩
          rw [List.length_map, di]
          refine ite2 (fun c3 => ?_) (fun c3 => ?_)
          · rw [if_pos (.inl (of_decide_eq_true c3))] at kk
            exact kk _ s1
          have c3 : ¬ n = PH.length := fun h => c3 (decide_eq_true h)
          refine ⟨_, rfl, q.rd, q.dx, _, rfl, G1.o, rfl, _, rfl, _, _, rfl, rfl, F, q, R, PH, k, n + 1, xs, rfl, G1, few, fun H2 s2 => ⟨_, rfl, ?_⟩⟩
          cases e5 : bareB PH (n + 1) with
          | true =>
            rw [if_pos (.inr e5)] at kk
            exact iteT (kk _ (s1.trans s2))
          | false => exact iteF ⟨rfl, s1.trans s2, fun h => h.elim c3 (by simp)⟩
        · rintro σ' H2 ⟨rfl, s2, nn⟩
          rw [if_neg nn] at kk
          have lt : n < PH.length := by
            have : ¬ n = PH.length := fun h => nn (.inl h)
            omega
          have G2 := G.same s2
          rw [List.getElem?_eq_getElem lt] at kk
          have pm : PH[n] ∈ PH := List.getElem_mem lt
          have eg : PH[n]? = some PH[n] := List.getElem?_eq_getElem lt
          generalize PH[n] = p1 at kk pm eg
          refine ⟨_, rfl, q.rd, c.R, q.dx, _, _, rfl, G2.o, B.cR, B.rh, rfl, _, rfl, q.hl, _, n, _, rfl, rfl, SqL.of G2.hl, atI_nat (by rw [List.getElem?_map, eg]; rfl), p1.o, p1.od, _, rfl, G2.hd p1 pm, rfl, _, rfl, p1.o, p1.r.ws, w0 ws, rfl, G2.at_ pm, fun H3 s3 => ?_⟩
          exact kk _ (s2.trans s3)
      · rw [if_neg (fun h => c2 (decide_eq_true h) : ¬ w0 ws ∈ follS)] at kk
        refine ⟨_, rfl, rfl, _, rfl, iteS (fun c3 => ?_) (fun c3 => ?_)⟩
        · refine ⟨_, rfl, l, _, 1, _, rfl, rfl, SqL.of hl1, at1 (hfn c3), _, rfl, q.rd, c.R, q.dx, _, _, rfl, G1.o, B.cR, B.rb, rfl, q.bd, _, rfl, DGet.k (k := Sum.inr (w1 ws)) G1.bd, _, rfl, ?_⟩
          rw [fnB_get]
          refine ite2 (fun c4 => ?_) (fun c4 => ?_)
          · rw [if_pos (⟨c3, of_decide_eq_true c4⟩ : w0 ws = Str.ofString "function" ∧ w1 ws ∈ names R)] at kk
            exact kk _ s1
          · rw [if_neg (fun h => c4 (decide_eq_true h.2) : ¬ (w0 ws = Str.ofString "function" ∧ w1 ws ∈ names R))] at kk
            exact ⟨_, rfl, q.rd, q.dx, _, rfl, G1.o, rfl, _, rfl, F, q, R, PH, k, n, xs, rfl, G1, few, fun H2 s2 => ⟨_, rfl, kk _ (s1.trans s2)⟩⟩
        · rw [if_neg (fun h => c3 h.1 : ¬ (w0 ws = Str.ofString "function" ∧ w1 ws ∈ names R))] at kk
          exact ⟨_, rfl, q.rd, q.dx, _, rfl, G1.o, rfl, _, rfl, F, q, R, PH, k, n, xs, rfl, G1, few, fun H2 s2 => ⟨_, rfl, kk _ (s1.trans s2)⟩⟩
end
end IC
namespace IC
open PySem L2 TL PyProof.Rows
theorem ne2 {H : Hp} {a b : Addr} {u v : HO} (h1 : H a = some u) (h2 : H b = some v) (n : u ≠ v) : a ≠ b := fun e => by
  rw [e, h2] at h1
  exact n (Option.some.inj h1).symm
theorem LR.kinds (r : LR) : (r.isF = true → r.isX = false ∧ r.isL = false ∧ r.isS = false) ∧ (r.isX = true → r.isF = false ∧ r.isL = false ∧ r.isS = false) ∧ (r.isL = true → r.isF = false ∧ r.isX = false ∧ r.isS = false) ∧ (r.isS = true → r.isF = false ∧ r.isX = false ∧ r.isL = false) := by
  unfold LR.isS LR.isF LR.isX LR.isL
  have n1 : ¬ Str.ofString "function" = Str.ofString "except" := by decide +kernel
  have n2 : ¬ Str.ofString "function" = Str.ofString "finally" := by decide +kernel
  have n3 : ¬ Str.ofString "except" = Str.ofString "finally" := by decide +kernel
  by_cases a : w0 r.ws = Str.ofString "function"
  · rw [a, decide_eq_true rfl, decide_eq_false n1, decide_eq_false n2]
    simp
  by_cases b : w0 r.ws = Str.ofString "except"
  · rw [b, decide_eq_true (rfl : Str.ofString "except" = Str.ofString "except"), decide_eq_false n3, decide_eq_false (fun h => n1 h.symm)]
    simp
  by_cases d : w0 r.ws = Str.ofString "finally"
  · rw [d, decide_eq_true (rfl : Str.ofString "finally" = Str.ofString "finally"), decide_eq_false (fun h => n2 h.symm), decide_eq_false (fun h => n3 h.symm)]
    simp
  · rw [decide_eq_false a, decide_eq_false b, decide_eq_false d]
    simp
section
variable {c : LC} {H H' : Hp} {F F' : Addr → Prop} {q : RdP} {R : List LR} {PH : List Hd} {k : Nat} {xs : List V} {r : LR} {o od hl' : Addr}
theorem RdG.dom (G : RdG c H F q R PH k xs) {y : Addr} (h : H y = none) : y ∉ LA q R := fun m => by
  obtain ⟨ys, e⟩ := G.lsts m
  rw [h] at e
  cases e
theorem RdG.nrd (G : RdG c H F q R PH k xs) {y : Addr} {u : HO} (h : H y = some u) (n : ∀ dx fs, u ≠ .ins c.R dx fs) : y ≠ q.rd := ne2 h G.o (n _ _)
theorem stf_ne {r : LR} {lv : V} {k : Nat} {C D dx dy : Addr} : (HO.ins C dx (stf r lv)) ≠ .ins D dy (rdf q k) := fun h => by
  injection h with _ _ h
  unfold stf rdf at h
  injection h with h
  injection h with h
  exact absurd h (by decide +kernel)
theorem hdf_ne {p : Hd} {k : Nat} {C D dx dy : Addr} : (HO.ins C dx (hdf p)) ≠ .ins D dy (rdf q k) := fun h => by
  injection h with _ _ h
  unfold hdf rdf at h
  injection h with h
  injection h with h
  exact absurd h (by decide +kernel)
theorem hdf_st {p : Hd} {r : LR} {lv : V} {C D dx dy : Addr} : (HO.ins C dx (hdf p)) ≠ .ins D dy (stf r lv) := fun h => by
  injection h with _ _ h
  unfold hdf stf at h
  injection h with h
  injection h with h
  exact absurd h (by decide +kernel)
theorem RdG.addF (G : RdG c H F q R PH k xs) (hF : r.isF = true) (ok : r.ws ≠ [] ∧ (∀ z ∈ r.ws, IsW z) ∧ r.ws.length ≤ 20) (kp : Kp [q.rd, q.bd] H H') (h1 : H' q.rd = some (.ins c.R q.dx (rdf { q with hl := hl' } k))) (h2 : H' q.bd = some (.dK (fnB (R ++ [r])))) (h3 : H' hl' = some (.lst [.ref o]))
    (h4 : H' o = some (.ins c.Hd od (hdf ⟨r, o, od⟩))) (h5 : H' r.b = some (.lst [])) (h6 : H' r.wl = some (.lst (r.ws.map V.str))) (nb : H r.b = none) (nhl : H hl' = none) (bh : r.b ≠ hl') (nw : r.wl ∉ LA q R) (wb : r.wl ≠ r.b) (whl : r.wl ≠ hl') (nf : w1 r.ws ∉ names R) (f' : ∀ y, F y → F' y) (fb : F' r.b) (fh : F' hl') :
    RdG c H' F' { q with hl := hl' } (R ++ [r]) [⟨r, o, od⟩] k xs := by
  obtain ⟨kX, kL, kS⟩ := r.kinds.1 hF
  have kp2 : ∀ {y : Addr} {u : HO}, H y = some u → u ≠ .ins c.R q.dx (rdf q k) → u ≠ .dK (fnB R) → H' y = some u := fun {y u} e n1 n2 => kp y u e fun m => by
    rcases List.mem_cons.mp m with m | m
    · exact ne2 e G.o n1 m
    · exact ne2 e G.bd n2 (List.mem_singleton.mp m)
  have kk : ∀ b, kids (R ++ [r]) b = kids R b := fun b => by
    rw [kids_snoc, kS]
    simp
  have ke : ∀ b, exs (R ++ [r]) b = exs R b := fun b => by
    rw [exs_snoc, kX]
    simp
  have kl : ∀ b, lastV (R ++ [r]) b = lastV R b := fun b => by
    unfold lastV
    rw [las_snoc, kL]
    simp
  have ls : r.ls = [r.wl, r.b] := by
    unfold LR.ls
    rw [kS]
    simp
  have mem : ∀ {x : LR}, x ∈ R ++ [r] → x ∈ R ∨ x = r := fun h => (List.mem_append.mp h).imp id List.mem_singleton.mp
  refine { o := h1, rl := kp2 G.rl nofun nofun, bd := h2, hl := h3, w := fun x hx => ?_, b := fun x hx => ?_, s := fun x hx e => ?_, x := fun x hx e => ?_, hd := fun p hp => ?_, hr := fun p hp => ?_, nl := ?_, nh := ?_, na := ?_, nf := ?_, par := fun x hx e => ?_, stx := fun x hx e1 e2 => ?_, ne := fun x hx => ?_, fo := ⟨f' _ G.fo.1, f' _ G.fo.2.1, f' _ G.fo.2.2.1, fh⟩, fr := fun x hx => ?_ }
  · rcases mem hx with hx | rfl
    · exact kp2 (G.w x hx) nofun nofun
    · exact h6
  · rw [kk]
    rcases mem hx with hx | rfl
    · exact kp2 (G.b x hx) nofun nofun
    · have e : kids R x.b = [] := by
        unfold kids
        rw [List.filter_eq_nil_iff]
        intro y hy h
        rw [Bool.and_eq_true, decide_eq_true_iff] at h
        obtain ⟨p, hp, e⟩ := G.par y hy h.1
        have := G.b p hp
        rw [e, h.2, nb] at this
        cases this
      rw [e]
      exact h5
  · rcases mem hx with hx | rfl
    · obtain ⟨a1, a2, a3⟩ := G.s x hx e
      rw [kl, ke]
      exact ⟨kp2 a1 stf_ne nofun, kp2 a2 nofun nofun, kp2 a3 nofun nofun⟩
    · rw [kS] at e
      cases e
  · rcases mem hx with hx | rfl
    · exact ⟨kp2 (G.x x hx e).1 nofun nofun, kp2 (G.x x hx e).2 nofun nofun⟩
    · rw [kX] at e
      cases e
  · rw [List.mem_singleton.mp hp]
    exact h4
  · rw [List.mem_singleton.mp hp]
    exact List.mem_append.mpr (.inr (List.mem_singleton.mpr rfl))
  · rw [show LA { q with hl := hl' } (R ++ [r]) = LA q (R ++ [r]) from rfl, LA_snoc, ls, List.nodup_append]
    refine ⟨G.nl, by simp [wb], fun y hy z hz => ?_⟩
    rcases List.mem_cons.mp hz with rfl | hz
    · exact fun e => nw (e ▸ hy)
    · rw [List.mem_singleton.mp hz]
      exact fun e => G.dom nb (e ▸ hy)
  · rw [show LA { q with hl := hl' } (R ++ [r]) = LA q (R ++ [r]) from rfl, LA_snoc, ls]
    intro m
    rcases List.mem_append.mp m with m | m
    · exact G.dom nhl m
    · rcases List.mem_cons.mp m with m | m
      · exact whl m.symm
      · exact bh (List.mem_singleton.mp m).symm
  · rw [List.filter_append, List.filter_cons, kS]
    simpa using G.na
  · rw [List.filter_append, List.filter_cons, hF, List.map_append, List.nodup_append]
    refine ⟨G.nf, by simp, fun y hy z hz => ?_⟩
    have hz : z = w1 r.ws := by simpa using hz
    rw [hz]
    exact fun e => nf (e ▸ hy)
  · rcases mem hx with hx | rfl
    · obtain ⟨p, hp, e⟩ := G.par x hx e
      exact ⟨p, List.mem_append.mpr (.inl hp), e⟩
    · rw [kS] at e
      cases e
  · rcases mem hx with hx | rfl
    · obtain ⟨p, hp, e⟩ := G.stx x hx e1 e2
      exact ⟨p, List.mem_append.mpr (.inl hp), e⟩
    · rw [hF] at e1
      cases e1
  · rcases mem hx with hx | rfl
    · exact G.ne x hx
    · exact ok
  · rcases mem hx with hx | rfl
    · exact ⟨f' _ (G.fr x hx).1, fun e => ⟨f' _ ((G.fr x hx).2 e).1, f' _ ((G.fr x hx).2 e).2⟩⟩
    · exact ⟨fb, fun e => by
        rw [kS] at e
        cases e⟩
/-- a row behind the others -/
theorem RdG.addG {PH' : List Hd} {k' : Nat} (G : RdG c H F q R PH k xs) (nF : r.isF = false) (ok : r.ws ≠ [] ∧ (∀ z ∈ r.ws, IsW z) ∧ r.ws.length ≤ 20) (h1 : H' q.rd = some (.ins c.R q.dx (rdf { q with hl := hl' } k'))) (h2 : H' q.bd = some (.dK (fnB R))) (h3 : H' hl' = some (.lst (PH'.map fun p => .ref p.o))) (h4 : H' q.rl = some (.lst xs))
    (hw : ∀ x ∈ R, H' x.wl = some (.lst (x.ws.map V.str))) (hb : ∀ x ∈ R, H' x.b = some (.lst ((kids (R ++ [r]) x.b).map fun s => .ref s.a))) (hs : ∀ x ∈ R, x.isS = true → H' x.a = some (.ins c.S x.dx (stf x (lastV (R ++ [r]) x.a))) ∧ H' x.kt = some (.tup ((x.ws.drop 3).map V.str)) ∧ H' x.h = some (.lst ((exs (R ++ [r]) x.a).map fun s => .ref s.ht)))
    (hx' : ∀ x ∈ R, x.isX = true → H' x.ht = some (.tup [.ref x.hw, .ref x.b]) ∧ H' x.hw = some (.tup ((x.ws.drop 1).map V.str))) (hd : ∀ p ∈ PH', H' p.o = some (.ins c.Hd p.od (hdf p))) (hr : ∀ p ∈ PH', p.r ∈ R ++ [r])
    (gw : H' r.wl = some (.lst (r.ws.map V.str))) (gb : H' r.b = some (.lst [])) (gs : r.isS = true → H' r.a = some (.ins c.S r.dx (stf r .non)) ∧ H' r.kt = some (.tup ((r.ws.drop 3).map V.str)) ∧ H' r.h = some (.lst [])) (gx : r.isX = true → H' r.ht = some (.tup [.ref r.hw, .ref r.b]) ∧ H' r.hw = some (.tup ((r.ws.drop 1).map V.str)))
    (nb : H r.b = none) (nl : (LA q R ++ r.ls).Nodup) (nh : hl' ∉ LA q R ++ r.ls) (na : r.isS = true → H r.a = none) (par : r.isS = true → ∃ p ∈ R, p.b = r.par) (stx : r.isS = false → ∃ s ∈ R, s.isS = true ∧ s.a = r.st) (f' : ∀ y, F y → F' y) (fb : F' r.b) (fh : F' hl') (fs : r.isS = true → F' r.a ∧ F' r.h) :
    RdG c H' F' { q with hl := hl' } (R ++ [r]) PH' k' xs := by
  have mem : ∀ {x : LR}, x ∈ R ++ [r] → x ∈ R ∨ x = r := fun h => (List.mem_append.mp h).imp id List.mem_singleton.mp
  have noA : r.isS = true → ∀ x ∈ R, x.isS = true → x.a ≠ r.a := fun e x hx ex q => by
    have := (G.s x hx ex).1
    rw [q, na e] at this
    cases this
  refine { o := h1, rl := h4, bd := ?_, hl := h3, w := fun x hx => ?_, b := fun x hx => ?_, s := fun x hx e => ?_, x := fun x hx e => ?_, hd := hd, hr := hr, nl := ?_, nh := ?_, na := ?_, nf := ?_, par := fun x hx e => ?_, stx := fun x hx e1 e2 => ?_, ne := fun x hx => ?_, fo := ⟨f' _ G.fo.1, f' _ G.fo.2.1, f' _ G.fo.2.2.1, fh⟩, fr := fun x hx => ?_ }
  · rw [h2]
    unfold fnB
    rw [List.filter_append, List.filter_cons, nF]
    simp
  · exact (mem hx).elim (hw x) fun e => by rw [e]; exact gw
  · rcases mem hx with hx | rfl
    · exact hb x hx
    · have e : kids (R ++ [x]) x.b = [] := by
        have old : ∀ y ∈ R, y.isS = true → ¬ y.par = x.b := fun y hy ys e => by
          obtain ⟨p, hp, e2⟩ := G.par y hy ys
          have := G.b p hp
          rw [e2, e, nb] at this
          cases this
        unfold kids
        rw [List.filter_eq_nil_iff]
        intro y hy h
        rw [Bool.and_eq_true, decide_eq_true_iff] at h
        rcases mem hy with hy | rfl
        · exact old y hy h.1 h.2
        · obtain ⟨p, hp, e2⟩ := par h.1
          have := G.b p hp
          rw [e2, h.2, nb] at this
          cases this
      rw [e]
      exact gb
  · rcases mem hx with hx | rfl
    · exact hs x hx e
    · have noX : ∀ y ∈ R ++ [x], y.isF = false → y.isS = false → ¬ y.st = x.a := fun y hy y1 y2 q => by
        rcases mem hy with hy | rfl
        · obtain ⟨s, hs', s1, s2⟩ := G.stx y hy y1 y2
          exact noA e s hs' s1 (s2.trans q)
        · rw [e] at y2
          cases y2
      have e1 : exs (R ++ [x]) x.a = [] := by
        unfold exs
        rw [List.filter_eq_nil_iff]
        intro y hy h
        rw [Bool.and_eq_true, decide_eq_true_iff] at h
        exact noX y hy (y.kinds.2.1 h.1).1 (y.kinds.2.1 h.1).2.2 h.2
      have e2 : las (R ++ [x]) x.a = [] := by
        unfold las
        rw [List.filter_eq_nil_iff]
        intro y hy h
        rw [Bool.and_eq_true, decide_eq_true_iff] at h
        exact noX y hy (y.kinds.2.2.1 h.1).1 (y.kinds.2.2.1 h.1).2.2 h.2
      have e3 : lastV (R ++ [x]) x.a = .non := by
        unfold lastV
        rw [e2]
        rfl
      rw [e1, e3]
      exact gs e
  · rcases mem hx with hx | rfl
    · exact hx' x hx e
    · exact gx e
  · rw [show LA { q with hl := hl' } (R ++ [r]) = LA q (R ++ [r]) from rfl, LA_snoc]
    exact nl
  · rw [show LA { q with hl := hl' } (R ++ [r]) = LA q (R ++ [r]) from rfl, LA_snoc]
    exact nh
  · rw [List.filter_append, List.filter_cons]
    cases e : r.isS with
    | false => simpa using G.na
    | true =>
      rw [if_pos rfl, List.map_append, List.nodup_append]
      refine ⟨G.na, by simp, fun y hy z hz => ?_⟩
      obtain ⟨x, hx, rfl⟩ := List.mem_map.mp hy
      have hz : z = r.a := by simpa using hz
      rw [hz]
      exact noA e x (List.mem_filter.mp hx).1 (List.mem_filter.mp hx).2
  · rw [List.filter_append, List.filter_cons, nF]
    simpa using G.nf
  · rcases mem hx with hx | rfl
    · obtain ⟨p, hp, e⟩ := G.par x hx e
      exact ⟨p, List.mem_append.mpr (.inl hp), e⟩
    · obtain ⟨p, hp, e⟩ := par e
      exact ⟨p, List.mem_append.mpr (.inl hp), e⟩
  · rcases mem hx with hx | rfl
    · obtain ⟨p, hp, e⟩ := G.stx x hx e1 e2
      exact ⟨p, List.mem_append.mpr (.inl hp), e⟩
    · obtain ⟨p, hp, e⟩ := stx e2
      exact ⟨p, List.mem_append.mpr (.inl hp), e⟩
  · rcases mem hx with hx | rfl
    · exact G.ne x hx
    · exact ok
  · rcases mem hx with hx | rfl
    · exact ⟨f' _ (G.fr x hx).1, fun e => ⟨f' _ ((G.fr x hx).2 e).1, f' _ ((G.fr x hx).2 e).2⟩⟩
    · exact ⟨fb, fs⟩
end
end IC
namespace IC
open PySem L2 TL PyProof.Rows
structure Frl (F F' : Addr → Prop) (H H' : Hp) : Prop where
  k : ∀ y u, H y = some u → ¬ F y → H' y = some u
  s : ∀ y, F y → F' y
  n : ∀ y, F' y → F y ∨ H y = none
theorem Frl.refl (F : Addr → Prop) (H : Hp) : Frl F F H H := ⟨fun _ _ e _ => e, fun _ h => h, fun _ h => .inl h⟩
theorem Frl.same {F : Addr → Prop} {H H' : Hp} (s : Same H H') : Frl F F H H' := ⟨fun y u e _ => s y u e, fun _ h => h, fun _ h => .inl h⟩
theorem Frl.trans {F F1 F2 : Addr → Prop} {H H1 H2 : Hp} (a : Frl F F1 H H1) (b : Frl F1 F2 H1 H2) : Frl F F2 H H2 := by
  refine ⟨fun y u e n => b.k y u (a.k y u e n) fun f => ?_, fun y f => b.s y (a.s y f), fun y f => ?_⟩
  · rcases a.n y f with h | h
    · exact n h
    · rw [h] at e
      cases e
  · rcases b.n y f with h | h
    · exact a.n y h
    · by_cases f0 : F y
      · exact .inl f0
      · cases q : H y with
        | none => exact .inr rfl
        | some u =>
          rw [a.k y u q f0] at h
          cases h
theorem Frl.ofKp {F : Addr → Prop} {L N : List Addr} {H H' : Hp} (k : Kp L H H') (hL : ∀ y ∈ L, F y) (hN : ∀ y ∈ N, H y = none) : Frl F (fun y => F y ∨ y ∈ N) H H' := ⟨fun y u e n => k y u e fun m => n (hL y m), fun _ h => .inl h, fun y h => h.imp id (hN y)⟩
theorem Kp.cut {L : List Addr} {x : Addr} {H H1 H2 : Hp} (a : Kp L H H1) (b : Kp [x] H1 H2) (n : H x = none) : Kp L H H2 := fun y u e m => b y u (a y u e m) fun z => by
  rw [List.mem_singleton.mp z, n] at e
  cases e
section
variable {P : Program} {w : World} {K : PySem.W.Frag} {mg : Str → Option Value} {base : Heap} {c : LC} {tL tF : Addr}
def WsOk (ws : List Str) : Prop := ws ≠ [] ∧ (∀ z ∈ ws, IsW z) ∧ ws.length ≤ 20
/-- self._add_function(words) -/
def spAddF (c : LC) : Sp := fun vs H Q _ => ∃ (F : Addr → Prop) (q : RdP) (R : List LR) (PH : List Hd) (k : Nat) (xs : List V) (l : Addr) (ws : List Str), vs = [.ref q.rd, .ref l] ∧ RdG c H F q R PH k xs ∧ H l = some (.lst (ws.map V.str)) ∧ WsOk ws ∧ w0 ws = Str.ofString "function" ∧ 1 < ws.length ∧ l ∉ LA q R ∧ w1 ws ∉ names R ∧ R.length ≤ 500 ∧
  ∀ (H' : Hp) (F' : Addr → Prop) (q' : RdP) (r : LR) (o od : Addr), r.n = 0 → r.ws = ws → r.wl = l → RdG c H' F' q' (R ++ [r]) [⟨r, o, od⟩] k xs → q'.rd = q.rd → q'.rl = q.rl → Frl F F' H H' → Q .non H'
theorem ok_addF {f : Addr} {fd : FuncData} (F : Fun K "_add_function" "Reader._add_function" s_Reader__add_function f fd) (T : Bn mg) (B : CTx K mg c) (C_H : CDfA P w K mg base 1 "Header" c.Hd ["self", "words", "statement", "body"] (spHdI c)) : FnOk P w K mg base CX0 3 f fd ["self", "words"] (spAddF c) := by
  refine F.ok sc_Reader__add_function (fun vs H Q E h => ?_) (fun cdv A outer s H vs Q E hr h => ?_)
  · obtain ⟨F, q, R, PH, k, xs, l, ws, rfl, _⟩ := h
    rfl
  · obtain ⟨F, q, R, PH, k, xs, l, ws, rfl, G, hl, ok, hw0, hw1, nl, nf, few, kk⟩ := h
    have hu := hu_of hr
    refine ⟨_, (pss_cons (ps_set (i := 2) sc_Reader__add_function.nd rfl (Or.inl rfl) (pe_lst pa_nil))
  (pss_cons (ps_dput hu (pe_fld (pv 0) rfl) (pe_ix ix_list (pv 1) pe_int (fun _ _ => rfl)) (pv 2) rfl)
  (pss_one (ps_fld (pv 0) (pe_lst (pa_cons (pe_mkw C_H hr (by first | decide | omega) rfl (pa_cons (pv 1) (pa_cons pe_non (pa_cons (pv 2) pa_nil)))) pa_nil)) rfl)))), ?_⟩
    refine ⟨(by show 0 ≤ sizeLine; decide), fun b nb => ?_⟩
    have s1 := Same.new (o := .lst []) nb
    have G1 := G.same s1
    have fl : (fnB R).length < sizeLine := by
      unfold fnB
      rw [List.length_map]
      have := List.length_filter_le LR.isF R
      exact small1000 (by omega)
    refine ⟨_, rfl, _, rfl, q.rd, c.R, q.dx, _, _, rfl, G1.o, B.cR, B.rb, rfl, _, rfl, l, _, 1, _, rfl, rfl, SqL.of (s1 _ _ hl), at1 hw1, q.bd, _, rfl, DPut.k (k := Sum.inr (w1 ws)) G1.bd fl, ?_⟩
    have hp : putK (fnB R) (Sum.inr (w1 ws)) (V.ref b) = fnB R ++ [(Sum.inr (w1 ws), V.ref b)] := putK_new _ (by
      have := fnB_get R (w1 ws)
      rw [decide_eq_false nf] at this
      exact Option.not_isSome_iff_eq_none.mp (by rw [this]; decide))
    rw [hp]
    have bbd : b ≠ q.bd := (ne_of_none G.bd nb).symm
    generalize eH2 : upd (upd H b (.lst [])) q.bd _ = H2
    have o2 : H2 q.rd = some (.ins c.R q.dx (rdf q k)) := by
      rw [← eH2, upd_ne (ne2 G1.o G1.bd nofun)]
      exact G1.o
    have bd2 : H2 q.bd = some (.dK (fnB R ++ [(Sum.inr (w1 ws), V.ref b)])) := by rw [← eH2]; exact upd_same
    have b2 : H2 b = some (.lst []) := by
      rw [← eH2, upd_ne bbd]
      exact upd_same
    have k2 : Kp [q.rd, q.bd] H H2 := by
      rw [← eH2]
      exact (Kp.same s1).mutAt (by simp)
    have free : ∀ {G' : Hp} {y : Addr}, Kp [q.rd, q.bd] H G' → G' q.rd ≠ none → G' q.bd ≠ none → G' y = none → H y = none := fun {G' y} kk g1 g2 e => by
      cases z : H y with
      | none => rfl
      | some u =>
        by_cases y1 : y = q.rd
        · rw [y1] at e
          exact absurd e g1
        by_cases y2 : y = q.bd
        · rw [y2] at e
          exact absurd e g2
        rw [kk y u z (by simp [y1, y2])] at e
        cases e
    refine ⟨_, rfl, _, rfl, fun x dx nx nd ne => ⟨x, dx, _, _, _, rfl, upd_same, fun H3 k3 hx3 => ⟨rfl, (by show 1 ≤ sizeLine; decide), fun hl' nhl => ?_⟩⟩⟩
    have nx0 := free k2 (by rw [o2]; simp) (by rw [bd2]; simp) nx
    have s3 : Same H2 (upd (upd H2 dx (.own x)) x (.ins c.Hd dx [])) := fun y u e => by
      rw [upd_ne (ne_of_none e nx), upd_ne (ne_of_none e nd)]
      exact e
    have old : ∀ {y : Addr} {u : HO}, H2 y = some u → H3 y = some u := fun {y u} e => k3 y u (s3 y u e) fun z => by
      rw [List.mem_singleton.mp z, nx] at e
      cases e
    have s23 : Same H2 H3 := fun y u e => old e
    have k3' : Kp [q.rd, q.bd] H H3 := k2.trans (Kp.same s23)
    have nhl0 := free k3' (by rw [old o2]; simp) (by rw [old bd2]; simp) nhl
    have s4 := Same.new (o := .lst [.ref x]) nhl
    refine ⟨_, rfl, q.rd, c.R, q.dx, _, rfl, s4 _ _ (old o2), B.cR, B.rh, (by show 4 < 1000; decide), ?_⟩
    have hd1 : hl' ≠ q.rd := (ne_of_none (old o2) nhl).symm
    have ne1 : ∀ {y : Addr} {u : HO}, H2 y = some u → y ≠ q.rd → upd (upd H3 hl' (.lst [.ref x])) q.rd (.ins c.R q.dx (putF "_headers" (.ref hl') (rdf q k))) y = some u := fun {y u} e n => by
      rw [upd_ne n]
      exact s4 _ _ (old e)
    have hl2 : H2 l = some (.lst (ws.map V.str)) := k2 _ _ hl (by
      have a1 := ne2 hl G.o nofun
      have a2 := ne2 hl G.bd nofun
      simp [a1, a2])
    have bh : b ≠ hl' := ne_of_none (old b2) nhl
    have lb : l ≠ b := ne_of_none hl nb
    have lh : l ≠ hl' := ne_of_none hl nhl0
    have kL : Kp [q.rd, q.bd] H (upd (upd H3 hl' (.lst [.ref x])) q.rd (.ins c.R q.dx (putF "_headers" (.ref hl') (rdf q k)))) := (k3'.trans (Kp.same s4)).mutAt (by simp)
    refine kk _ (fun y => F y ∨ y ∈ [b, hl', x]) { q with hl := hl' } ⟨0, ws, l, b, b, b, b, b, b, b, b, b, 0⟩ x dx rfl rfl rfl ?_ rfl rfl (Frl.ofKp kL (fun y m => ?_) (fun y m => ?_))
    · refine G.addF (r := ⟨0, ws, l, b, b, b, b, b, b, b, b, b, 0⟩) (decide_eq_true hw0) ok kL upd_same ?_ ?_ ?_ (ne1 b2 (ne2 b2 o2 nofun)) (ne1 hl2 (ne2 hl2 o2 nofun)) nb nhl0 bh nl lb lh nf (fun _ h => .inl h) (.inr (by simp)) (.inr (by simp))
      · refine (ne1 bd2 (ne2 bd2 o2 nofun)).trans ?_
        unfold fnB
        rw [List.filter_append, List.map_append, List.filter_cons, if_pos (show LR.isF ⟨0, ws, l, b, b, b, b, b, b, b, b, b, 0⟩ = true from decide_eq_true hw0)]
        rfl
      · rw [upd_ne hd1]
        exact upd_same
      · rw [upd_ne (ne2 hx3 (old o2) (fun h => by
          injection h with _ _ h
          injection h with h
          injection h with h
          exact absurd h (by decide +kernel))), s4 _ _ hx3]
        unfold hdf Hd.sv
        rw [if_pos (show LR.isF ⟨0, ws, l, b, b, b, b, b, b, b, b, b, 0⟩ = true from decide_eq_true hw0)]
    · rcases List.mem_cons.mp m with rfl | m
      · exact G.fo.1
      · rw [List.mem_singleton.mp m]
        exact G.fo.2.2.1
    · simp only [List.mem_cons, List.not_mem_nil, or_false] at m
      rcases m with rfl | rfl | rfl
      · exact nb
      · exact nhl0
      · exact nx0
end
end IC
namespace IC
open PySem L2 TL PyProof.Rows
theorem eq_of_a {R : List LR} (h : ((R.filter LR.isS).map LR.a).Nodup) {x y : LR} (hx : x ∈ R) (hy : y ∈ R) (sx : x.isS = true) (sy : y.isS = true) (e : x.a = y.a) : x = y := by
  have hx : x ∈ R.filter LR.isS := List.mem_filter.mpr ⟨hx, sx⟩
  have hy : y ∈ R.filter LR.isS := List.mem_filter.mpr ⟨hy, sy⟩
  generalize R.filter LR.isS = L at h hx hy
  induction L with
  | nil => cases hx
  | cons z L ih =>
    rw [List.map_cons, List.nodup_cons] at h
    rcases List.mem_cons.mp hx with h1 | h1
    · rcases List.mem_cons.mp hy with h2 | h2
      · rw [h1, h2]
      · refine absurd ?_ h.1
        rw [← h1, e]
        exact List.mem_map_of_mem (f := LR.a) h2
    · rcases List.mem_cons.mp hy with h2 | h2
      · refine absurd ?_ h.1
        rw [← h2, ← e]
        exact List.mem_map_of_mem (f := LR.a) h1
      · exact ih h.2 h1 h2
theorem nodup_split {q : RdP} {R : List LR} {x : LR} (nl : (LA q R).Nodup) (hx : x ∈ R) : ∃ A B, R = A ++ x :: B ∧ (∀ y ∈ A ++ B, ∀ u ∈ x.ls, u ∉ y.ls) ∧ x.ls.Nodup := by
  obtain ⟨A, B, rfl⟩ := List.append_of_mem hx
  refine ⟨A, B, rfl, fun y hy u hu hv => ?_, ?_⟩
  · unfold LA at nl
    rw [List.nodup_cons, List.flatMap_append, List.flatMap_cons, List.nodup_append] at nl
    obtain ⟨_, _, n2, n3⟩ := nl
    rw [List.nodup_append] at n2
    rcases List.mem_append.mp hy with hy | hy
    · exact n3 u (List.mem_flatMap.mpr ⟨y, hy, hv⟩) u (List.mem_append.mpr (.inl hu)) rfl
    · exact n2.2.2 u hu u (List.mem_flatMap.mpr ⟨y, hy, hv⟩) rfl
  · unfold LA at nl
    rw [List.nodup_cons, List.flatMap_append, List.flatMap_cons, List.nodup_append] at nl
    obtain ⟨_, _, n2, n3⟩ := nl
    rw [List.nodup_append] at n2
    exact n2.1
theorem ls_ne {q : RdP} {R : List LR} {x y : LR} (nl : (LA q R).Nodup) (hx : x ∈ R) (hy : y ∈ R) (n : y ≠ x) {u v : Addr} (hu : u ∈ x.ls) (hv : v ∈ y.ls) : v ≠ u := fun e => by
  obtain ⟨A, B, rfl, h, _⟩ := nodup_split nl hx
  refine h y ?_ u hu (e ▸ hv)
  rcases List.mem_append.mp hy with hy | hy
  · exact List.mem_append.mpr (.inl hy)
  · rcases List.mem_cons.mp hy with hy | hy
    · exact absurd hy n
    · exact List.mem_append.mpr (.inr hy)
theorem LR.h_mem {r : LR} (h : r.isS = true) : r.h ∈ r.ls := by
  unfold LR.ls
  rw [if_pos h]
  simp
theorem wb_h {q : RdP} {R : List LR} {x y : LR} (nl : (LA q R).Nodup) (hx : x ∈ R) (hy : y ∈ R) (e : x.isS = true) : y.wl ≠ x.h ∧ y.b ≠ x.h := by
  by_cases z : y = x
  · rw [z]
    obtain ⟨_, _, _, _, n⟩ := nodup_split nl hx
    unfold LR.ls at n
    rw [if_pos e] at n
    simp only [List.nodup_cons, List.mem_cons, List.not_mem_nil, or_false, not_or] at n
    exact ⟨n.1.2, n.2.1⟩
  · exact ⟨ls_ne nl hx hy z (LR.h_mem e) y.wl_mem, ls_ne nl hx hy z (LR.h_mem e) y.b_mem⟩
theorem wl_b {q : RdP} {R : List LR} {x y : LR} (nl : (LA q R).Nodup) (hx : x ∈ R) (hy : y ∈ R) : y.wl ≠ x.b := by
  by_cases z : y = x
  · rw [z]
    obtain ⟨_, _, _, _, n⟩ := nodup_split nl hx
    unfold LR.ls at n
    split at n
    · simp only [List.nodup_cons, List.mem_cons, List.not_mem_nil, or_false, not_or] at n
      exact n.1.1
    · simp only [List.nodup_cons, List.mem_cons, List.not_mem_nil, or_false] at n
      exact n.1
  · exact ls_ne nl hx hy z x.b_mem y.wl_mem
theorem Hd.st_of {c : LC} {H : Hp} {F : Addr → Prop} {q : RdP} {R : List LR} {PH : List Hd} {k : Nat} {xs : List V} (G : RdG c H F q R PH k xs) {p : Hd} (hp : p ∈ PH) (e : p.r.isF = false) : ∃ s ∈ R, s.isS = true ∧ p.sv = .ref s.a ∧ (p.r.isS = true → s.a = p.r.a) ∧ (p.r.isS = false → s.a = p.r.st) := by
  unfold Hd.sv
  rw [if_neg (by rw [e]; decide)]
  cases z : p.r.isS with
  | true => exact ⟨p.r, G.hr p hp, z, by rw [if_pos rfl], fun _ => rfl, nofun⟩
  | false =>
    obtain ⟨s, hs, h1, h2⟩ := G.stx p.r (G.hr p hp) e z
    exact ⟨s, hs, h1, by rw [if_neg (by decide), h2], nofun, fun _ => h2⟩
def mkL (n : Nat) (ws : List Str) (l b ht hw sa : Addr) : LR := ⟨n, ws, l, b, b, b, b, b, ht, hw, b, sa, 0⟩
section
variable {P : Program} {w : World} {K : PySem.W.Frag} {mg : Str → Option Value} {base : Heap} {c : LC} {tL tF : Addr}
/-- self._add_following(nesting, words) -/
def spAddL (c : LC) : Sp := fun vs H Q _ => ∃ (F : Addr → Prop) (q : RdP) (R : List LR) (PH : List Hd) (k n : Nat) (xs : List V) (l : Addr) (ws : List Str) (p : Hd), vs = [.ref q.rd, .int n, .ref l] ∧ RdG c H F q R PH k xs ∧ H l = some (.lst (ws.map V.str)) ∧ WsOk ws ∧ (w0 ws = Str.ofString "except" ∨ w0 ws = Str.ofString "finally") ∧ PH[n]? = some p ∧ p.r.isF = false ∧ l ∉ LA q R ∧ R.length ≤ 500 ∧ PH.length ≤ 100 ∧
  ∀ (H' : Hp) (F' : Addr → Prop) (q' : RdP) (r : LR) (o od : Addr), r.n = n → r.ws = ws → r.wl = l → (p.r.isS = true → r.st = p.r.a) → (p.r.isS = false → r.st = p.r.st) → RdG c H' F' q' (R ++ [r]) (PH.take n ++ [⟨r, o, od⟩]) k xs → q'.rd = q.rd → q'.rl = q.rl → Frl F F' H H' → Q .non H'
theorem ok_addL {f : Addr} {fd : FuncData} (F : Fun K "_add_following" "Reader._add_following" s_Reader__add_following f fd) (T : Bn mg) (B : CTx K mg c) (C_H : CDfA P w K mg base 1 "Header" c.Hd ["self", "words", "statement", "body"] (spHdI c)) : FnOk P w K mg base CX0 3 f fd ["self", "nesting", "words"] (spAddL c) := by
  refine F.ok sc_Reader__add_following (fun vs H Q E h => ?_) (fun cdv A outer s H vs Q E hr h => ?_)
  · obtain ⟨F, q, R, PH, k, n, xs, l, ws, p, rfl, _⟩ := h
    rfl
  · obtain ⟨F, q, R, PH, k, n, xs, l, ws, p, rfl, G, hl, ok, hw', hp, pF, nl, few, fewP, kk⟩ := h
    have hu := hu_of hr
    refine ⟨_, (pss_cons (ps_set (i := 3) sc_Reader__add_following.nd rfl (Or.inl rfl) (pe_lst pa_nil))
  (pss_cons (ps_set (i := 4) sc_Reader__add_following.nd rfl (Or.inl rfl) (pe_fld (pe_ix ix_list (pe_fld (pv 0) rfl) (pv 1) (fun _ _ => rfl)) rfl))
  (Evl.pss_cut (ps_if (pt_cmpR op_eq (pe_ix ix_list (pv 2) pe_int (fun _ _ => rfl)) pe_str (nomark _))
  (pss_one (ps_expr (pe_bm PySem.F.plainAttrs_list PySem.F.slot_list_append PySem.F.type_list_append mt_append (pe_fld (pv 4) rfl) (pa_cons (pe_tup (pa_cons (pe_callTy call_tuple_of (by rfl) T.tuple (by decide +kernel) (pa_cons (pe_slice sl_list (pv 2) (po_some pe_int) po_none) pa_nil)) (pa_cons (pv 3) pa_nil))) pa_nil))))
  (pss_one (ps_fld (pv 4) (pv 3) rfl)))
  (pss_one (ps_fld (pv 0) (pe_op op_cat (pe_slice sl_list (pe_fld (pv 0) rfl) po_none (po_some (pv 1))) (pe_lst (pa_cons (pe_mkw C_H hr (by first | decide | omega) rfl (pa_cons (pv 2) (pa_cons (pv 4) (pa_cons (pv 3) pa_nil)))) pa_nil))) rfl))))), ?_⟩
    have pm : p ∈ PH := List.mem_of_getElem? hp
    obtain ⟨st, hst, sS, hsv, sv1, sv2⟩ := Hd.st_of G pm pF
    have g1 := G.s st hst sS
    refine ⟨(by show 0 ≤ sizeLine; decide), fun b nb => ?_⟩
    have s1 := Same.new (o := .lst []) nb
    have G1 := G.same s1
    have hl1 := s1 _ _ hl
    have b1 : upd H b (.lst []) b = some (.lst []) := upd_same
    have free1 : ∀ y, upd H b (.lst []) y = none → H y = none := fun y e => s1.free e
    generalize eH1 : upd H b (.lst []) = H1 at s1 G1 hl1 b1 free1 ⊢
    have g2 := G1.s st hst sS
    refine ⟨_, rfl, q.rd, c.R, q.dx, _, _, rfl, G1.o, B.cR, B.rh, rfl, _, rfl, q.hl, _, n, _, rfl, rfl, SqL.of G1.hl, atI_nat (by rw [List.getElem?_map, hp]; rfl), p.o, c.Hd, p.od, _, _, rfl, G1.hd p pm, B.cH, B.hs, rfl, ?_⟩
    rw [hsv]
    have sh : st.h ≠ st.a := ne2 g2.2.2 g2.1 nofun
    refine ⟨fun σ' H' => σ' = [some (.ref q.rd), some (.int n), some (.ref l), some (.ref b), some (.ref st.a)] ∧ ∃ ht hw, Kp [st.h, st.a] H1 H' ∧ (H' st.a = some (.ins c.S st.dx (stf st (lastV (R ++ [mkL n ws l b ht hw st.a]) st.a)))) ∧ H' st.h = some (.lst ((exs (R ++ [mkL n ws l b ht hw st.a]) st.a).map fun s => .ref s.ht)) ∧ ((mkL n ws l b ht hw st.a).isX = true → H' ht = some (.tup [.ref hw, .ref b]) ∧ H' hw = some (.tup ((ws.drop 1).map V.str))), ?_, ?_⟩
    · refine ⟨_, rfl, l, _, 0, _, rfl, rfl, SqL.of hl1, at0 ok.1, rfl, _, rfl, iteS (fun c1 => ?_) (fun c1 => ?_)⟩
      · refine ⟨_, rfl, st.a, c.S, st.dx, _, _, rfl, g2.1, B.cS, B.sh, rfl, .inl ⟨rfl, _, SqL.of g2.2.2⟩, _, rfl, _, rfl, l, _, rfl, SqL.of hl1, fun p1 np1 => ?_⟩
        rw [show (1 : Int) = ((1 : Nat) : Int) from rfl, cutR]
        refine ⟨p1, _, rfl, .inl ⟨SqL.of upd_same, fun hw nhw => ?_⟩⟩
        refine ⟨_, rfl, (by show 2 ≤ sizeLine; decide), fun ht nht => ?_⟩
        have s2 := Same.new (o := .lst ((ws.drop 1).map V.str)) np1
        have s3 := Same.new (o := .tup ((ws.drop 1).map V.str)) nhw
        have s4 := Same.new (o := .tup [.ref hw, .ref b]) nht
        have hw4 := s4 _ _ (upd_same (H := upd H1 p1 (.lst ((ws.drop 1).map V.str))) (a := hw) (o := .tup ((ws.drop 1).map V.str)))
        have ht4 : upd (upd (upd H1 p1 (.lst ((ws.drop 1).map V.str))) hw (.tup ((ws.drop 1).map V.str))) ht (.tup [.ref hw, .ref b]) ht = some (.tup [.ref hw, .ref b]) := upd_same
        have s24 := (s2.trans s3).trans s4
        have h4 := s24 _ _ g2.2.2
        have a4 := s24 _ _ g2.1
        refine ⟨st.h, _, _, rfl, rfl, h4, small1000 (by rw [List.length_map]; unfold exs; have := List.length_filter_le (fun r => r.isX && decide (r.st = st.a)) R; omega), rfl, ht, hw, (Kp.same s24).mutAt (by simp), ?_, ?_, fun _ => ⟨?_, ?_⟩⟩
        · rw [upd_ne sh.symm, a4]
          have e : lastV (R ++ [mkL n ws l b ht hw st.a]) st.a = lastV R st.a := by
            unfold lastV
            rw [las_snoc, ((mkL n ws l b ht hw st.a).kinds.2.1 (decide_eq_true c1)).2.1]
            simp
          rw [e]
        · rw [upd_same, exs_snoc, show (mkL n ws l b ht hw st.a).isX = true from decide_eq_true c1]
          simp [mkL]
        · rw [upd_ne (ne2 ht4 h4 nofun)]
          exact ht4
        · rw [upd_ne (ne2 hw4 h4 nofun)]
          exact hw4
      · have c2 : w0 ws = Str.ofString "finally" := hw'.resolve_left c1
        refine ⟨_, rfl, _, rfl, st.a, c.S, st.dx, _, rfl, g2.1, B.cS, B.sl, (by show 7 < 1000; decide), rfl, b, b, (Kp.at_ (by simp)), ?_, ?_, fun h => absurd (of_decide_eq_true h) c1⟩
        · have e : lastV (R ++ [mkL n ws l b b b st.a]) st.a = .ref b := by
            unfold lastV
            rw [las_snoc, show (mkL n ws l b b b st.a).isL = true from decide_eq_true c2]
            simp [mkL]
          rw [upd_same, e]
          rfl
        · rw [upd_ne sh, g2.2.2, exs_snoc, show (mkL n ws l b b b st.a).isX = false from decide_eq_false c1]
          simp
    · rintro σ' H2 ⟨rfl, ht, hw, k2, a2, h2, x2⟩
      generalize er : mkL n ws l b ht hw st.a = r at *
      have rws : r.ws = ws := by rw [← er]; rfl
      have rwl : r.wl = l := by rw [← er]; rfl
      have rb : r.b = b := by rw [← er]; rfl
      have rst : r.st = st.a := by rw [← er]; rfl
      have rn : r.n = n := by rw [← er]; rfl
      have rht : r.ht = ht := by rw [← er]; rfl
      have rhw : r.hw = hw := by rw [← er]; rfl
      have rk : r.isF = false ∧ r.isS = false := by
        rcases hw' with h | h
        · have := r.kinds.2.1 (by unfold LR.isX; rw [rws]; exact decide_eq_true h)
          exact ⟨this.1, this.2.2⟩
        · have := r.kinds.2.2.1 (by unfold LR.isL; rw [rws]; exact decide_eq_true h)
          exact ⟨this.1, this.2.2⟩
      clear er
      have old2 : ∀ {y : Addr} {u : HO}, H1 y = some u → y ≠ st.h → y ≠ st.a → H2 y = some u := fun {y u} e n1 n2 => k2 y u e (by simp [n1, n2])
      have o2 := old2 G1.o (ne2 G1.o g2.2.2 nofun) (ne2 G1.o g2.1 (Ne.symm stf_ne))
      have hl2 := old2 G1.hl (fun e => G.nh (e ▸ G.hm hst sS)) (ne2 G1.hl g2.1 nofun)
      refine ⟨_, rfl, q.rd, c.R, q.dx, _, _, rfl, o2, B.cR, B.rh, rfl, _, rfl, _, rfl, q.hl, _, rfl, SqL.of hl2, fun p1 np1 => ?_⟩
      rw [cutV_L, ← List.map_take]
      have s3 := Same.new (o := .lst ((PH.take n).map fun p => V.ref p.o)) np1
      have p13 : upd H2 p1 (.lst ((PH.take n).map fun p => V.ref p.o)) p1 = some (.lst ((PH.take n).map fun p => V.ref p.o)) := upd_same
      generalize upd H2 p1 (.lst ((PH.take n).map fun p => V.ref p.o)) = H3 at s3 p13 ⊢
      refine ⟨_, rfl, _, rfl, _, rfl, fun x dx nx nd ne => ⟨x, dx, _, _, _, rfl, upd_same, fun H4 k4 hx4 => ⟨rfl, (by show 1 ≤ sizeLine; decide), fun l1 nl1 => ?_⟩⟩⟩
      have s4 : Same H3 H4 := fun y u e => k4 y u (by
        rw [upd_ne (ne_of_none e nx), upd_ne (ne_of_none e nd)]
        exact e) fun z => by
          rw [List.mem_singleton.mp z, nx] at e
          cases e
      have s5 := Same.new (o := .lst [.ref x]) nl1
      refine ⟨p1, l1, _, _, rfl, rfl, s5 _ _ (s4 _ _ p13), upd_same, (by rw [List.length_map, List.length_take]; show _ + 1 ≤ sizeLine; exact small1000 (by omega)), fun hl' nhl => ?_⟩
      have s6 := Same.new (o := .lst (((PH.take n).map fun p => V.ref p.o) ++ [.ref x])) nhl
      have s36 := (((s3.trans s4).trans s5).trans s6)
      have hl6 : upd (upd H4 l1 (.lst [.ref x])) hl' (.lst (((PH.take n).map fun p => V.ref p.o) ++ [.ref x])) hl' = some (.lst (((PH.take n).map fun p => V.ref p.o) ++ [.ref x])) := upd_same
      have hx6 := s6 _ _ (s5 _ _ hx4)
      have nhl2 : H2 hl' = none := (((s3.trans s4).trans s5)).free nhl
      have nx2 : H2 x = none := s3.free nx
      have nehl : ∀ {y : Addr} {u : HO}, H2 y = some u → y ≠ hl' := fun {y u} e => ne_of_none (((s3.trans s4).trans s5) _ _ e) nhl
      generalize upd (upd H4 l1 (.lst [.ref x])) hl' (.lst (((PH.take n).map fun p => V.ref p.o) ++ [.ref x])) = H6 at s36 hl6 hx6 ⊢
      refine ⟨_, rfl, q.rd, c.R, q.dx, _, rfl, s36 _ _ o2, B.cR, B.rh, (by show 4 < 1000; decide), ?_⟩
      generalize eH7 : upd H6 q.rd _ = H7
      have up : ∀ {y : Addr} {u : HO}, H6 y = some u → y ≠ q.rd → H7 y = some u := fun {y u} e n => by
        rw [← eH7, upd_ne n]
        exact e
      have old : ∀ {y : Addr} {u : HO}, H1 y = some u → y ≠ st.h → y ≠ st.a → y ≠ q.rd → H7 y = some u := fun {y u} e n1 n2 n3 => up (s36 _ _ (old2 e n1 n2)) n3
      have free2 : ∀ y, H2 y = none → H y = none := fun y e => free1 y (by
        cases z : H1 y with
        | none => rfl
        | some u =>
          by_cases y1 : y = st.h
          · rw [y1, h2] at e
            cases e
          by_cases y2 : y = st.a
          · rw [y2, a2] at e
            cases e
          rw [old2 z y1 y2] at e
          cases e)
      have nsh : b ≠ st.h := (ne_of_none g1.2.2 nb).symm
      have lsh : l ≠ st.h := fun e => nl (e ▸ G.hm hst sS)
      have bb : H7 b = some (.lst []) := old b1 nsh (ne2 b1 g2.1 nofun) (ne2 b1 G1.o nofun)
      have lb : l ≠ b := ne_of_none hl nb
      have nhl0 := free2 _ nhl2
      have lh : l ≠ hl' := ne_of_none hl nhl0
      have bh : b ≠ hl' := nehl (old2 b1 nsh (ne2 b1 g2.1 nofun))
      refine kk H7 (fun y => F y ∨ y ∈ [b, hl']) { q with hl := hl' } r x dx rn rws rwl (fun e => rst.trans (sv1 e)) (fun e => rst.trans (sv2 e)) ?_ rfl rfl (Frl.ofKp (L := [q.rd, st.h, st.a]) (fun y u e m => ?_) (fun y m => ?_) (fun y m => ?_))
      · have ls : r.ls = [l, b] := by
          unfold LR.ls
          rw [rk.2, if_neg (by decide), rwl, rb]
        have noS : ∀ {α : Prop}, r.isS = true → α := fun {α} e => by
          rw [rk.2] at e
          cases e
        refine G.addG (H' := H7) (r := r) rk.1 (by rw [rws]; exact ok) (by rw [← eH7]; exact upd_same) (old G1.bd (ne2 G1.bd g2.2.2 nofun) (ne2 G1.bd g2.1 nofun) (ne2 G1.bd G1.o nofun)) ?_ (old G1.rl (fun e => ?_) (ne2 G1.rl g2.1 nofun) (ne2 G1.rl G1.o nofun)) (fun y hy => ?_) (fun y hy => ?_) (fun y hy e => ?_) (fun y hy e => ?_) (fun y hy => ?_) (fun y hy => ?_) ?_ (by rw [rb]; exact bb) noS (fun e => ?_) (by rw [rb]; exact nb) ?_ ?_ noS noS (fun _ => ⟨st, hst, sS, rst.symm⟩) (fun _ h => .inl h) (by rw [rb]; exact .inr (by simp)) (.inr (by simp)) noS
        · refine (up hl6 (ne2 hl6 (s36 _ _ o2) nofun)).trans ?_
          rw [List.map_append]
          rfl
        · have n0 := (List.nodup_cons.mp G.nl).1
          exact n0 (e ▸ List.mem_flatMap.mpr ⟨st, hst, LR.h_mem sS⟩)
        · have z := wb_h G.nl hst hy sS
          exact old (G1.w y hy) z.1 (ne2 (G1.w y hy) g2.1 nofun) (ne2 (G1.w y hy) G1.o nofun)
        · have z := wb_h G.nl hst hy sS
          rw [kids_snoc, rk.2]
          simp only [Bool.false_and, Bool.false_eq_true, if_false, List.append_nil]
          exact old (G1.b y hy) z.2 (ne2 (G1.b y hy) g2.1 nofun) (ne2 (G1.b y hy) G1.o nofun)
        · have gy := G1.s y hy e
          refine ⟨?_, old gy.2.1 (ne2 gy.2.1 g2.2.2 nofun) (ne2 gy.2.1 g2.1 nofun) (ne2 gy.2.1 G1.o nofun), ?_⟩
          · by_cases z : y = st
            · rw [z]
              exact up (s36 _ _ a2) (ne2 a2 o2 stf_ne)
            · have za : y.a ≠ st.a := fun q => z (eq_of_a G.na hy hst e sS q)
              have e2 : lastV (R ++ [r]) y.a = lastV R y.a := by
                unfold lastV
                rw [las_snoc, rst, decide_eq_false za.symm]
                simp
              rw [e2]
              exact old gy.1 (ne2 gy.1 g2.2.2 nofun) za (ne2 gy.1 G1.o stf_ne)
          · by_cases z : y = st
            · rw [z]
              exact up (s36 _ _ h2) (ne2 h2 o2 nofun)
            · have za : y.a ≠ st.a := fun q => z (eq_of_a G.na hy hst e sS q)
              rw [exs_snoc, rst, decide_eq_false za.symm]
              simp only [Bool.and_false, Bool.false_eq_true, if_false, List.append_nil]
              exact old gy.2.2 (ls_ne G.nl hst hy z (LR.h_mem sS) (LR.h_mem e)) (ne2 gy.2.2 g2.1 nofun) (ne2 gy.2.2 G1.o nofun)
        · have gy := G1.x y hy e
          exact ⟨old gy.1 (ne2 gy.1 g2.2.2 nofun) (ne2 gy.1 g2.1 nofun) (ne2 gy.1 G1.o nofun), old gy.2 (ne2 gy.2 g2.2.2 nofun) (ne2 gy.2 g2.1 nofun) (ne2 gy.2 G1.o nofun)⟩
        · rcases List.mem_append.mp hy with hy | hy
          · have gy := G1.hd y (List.mem_of_mem_take hy)
            exact old gy (ne2 gy g2.2.2 nofun) (ne2 gy g2.1 hdf_st) (ne2 gy G1.o hdf_ne)
          · rw [List.mem_singleton.mp hy]
            refine (up hx6 (ne2 hx6 (s36 _ _ o2) ?_)).trans ?_
            · exact fun h => by
                injection h with _ _ h
                injection h with h
                injection h with h
                exact absurd h (by decide +kernel)
            · unfold hdf Hd.sv
              rw [if_neg (by rw [rk.1]; decide), if_neg (by rw [rk.2]; decide), rst, rwl, rb]
        · rcases List.mem_append.mp hy with hy | hy
          · exact List.mem_append.mpr (.inl (G.hr y (List.mem_of_mem_take hy)))
          · rw [List.mem_singleton.mp hy]
            exact List.mem_append.mpr (.inr (List.mem_singleton.mpr rfl))
        · rw [rwl, rws]
          exact old hl1 lsh (ne2 hl1 g2.1 nofun) (ne2 hl1 G1.o nofun)
        · have z := x2 e
          rw [rht, rhw, rb, rws]
          exact ⟨up (s36 _ _ z.1) (ne2 z.1 o2 nofun), up (s36 _ _ z.2) (ne2 z.2 o2 nofun)⟩
        · rw [ls, List.nodup_append]
          refine ⟨G.nl, by simp [lb], fun y hy z hz => ?_⟩
          rcases List.mem_cons.mp hz with rfl | hz
          · exact fun e => nl (e ▸ hy)
          · rw [List.mem_singleton.mp hz]
            exact fun e => G.dom nb (e ▸ hy)
        · rw [ls]
          intro m
          rcases List.mem_append.mp m with m | m
          · exact G.dom nhl0 m
          · rcases List.mem_cons.mp m with m | m
            · exact lh m.symm
            · exact bh (List.mem_singleton.mp m).symm
      · simp only [List.mem_cons, List.not_mem_nil, or_false, not_or] at m
        exact old (s1 _ _ e) m.2.1 m.2.2 m.1
      · simp only [List.mem_cons, List.not_mem_nil, or_false] at m
        rcases m with rfl | rfl | rfl
        · exact G.fo.1
        · exact ((G.fr st hst).2 sS).2
        · exact ((G.fr st hst).2 sS).1
      · simp only [List.mem_cons, List.not_mem_nil, or_false] at m
        rcases m with rfl | rfl
        · exact nb
        · exact nhl0
end
end IC
namespace IC
open PySem L2 TL PyProof.Rows
section
variable {P : Program} {w : World} {K : PySem.W.Frag} {mg : Str → Option Value} {base : Heap} {c : LC} {tL tF : Addr}
/-- self._add_statement(nesting, words) -/
def spAddS (c : LC) : Sp := fun vs H Q _ => ∃ (F : Addr → Prop) (q : RdP) (R : List LR) (PH : List Hd) (k n : Nat) (xs : List V) (l : Addr) (ws : List Str) (p : Hd), vs = [.ref q.rd, .int (n + 1 : Nat), .ref l] ∧ RdG c H F q R PH k xs ∧ H l = some (.lst (ws.map V.str)) ∧ WsOk ws ∧ w0 ws ≠ Str.ofString "except" ∧ w0 ws ≠ Str.ofString "finally" ∧ w0 ws ≠ Str.ofString "function" ∧ PH[n]? = some p ∧ l ∉ LA q R ∧ R.length ≤ 500 ∧ PH.length ≤ 100 ∧ k ≤ 500 ∧
  ∀ (H' : Hp) (F' : Addr → Prop) (q' : RdP) (r : LR) (o od : Addr), r.n = n + 1 → r.ws = ws → r.wl = l → r.par = p.r.b → r.num = k → RdG c H' F' q' (R ++ [r]) (PH.take (n + 1) ++ (if w0 ws ∈ leadS then [⟨r, o, od⟩] else [])) (if w0 ws = Str.ofString "block" then k + 1 else k) xs → q'.rd = q.rd → q'.rl = q.rl → Frl F F' H H' → Q .non H'
theorem ok_addS {f : Addr} {fd : FuncData} (F : Fun K "_add_statement" "Reader._add_statement" s_Reader__add_statement f fd) (T : Bn mg) (B : CTx K mg c) (Lx : LTxt K mg tL tF) (C_S : CDfA P w K mg base 1 "Statement" c.S ["self", "words", "number"] (spSt c)) (C_H : CDfA P w K mg base 1 "Header" c.Hd ["self", "words", "statement", "body"] (spHdI c)) : FnOk P w K mg base CX0 3 f fd ["self", "nesting", "words"] (spAddS c) := by
  refine F.ok sc_Reader__add_statement (fun vs H Q E h => ?_) (fun cdv A outer s H vs Q E hr h => ?_)
  · obtain ⟨F, q, R, PH, k, n, xs, l, ws, p, rfl, _⟩ := h
    rfl
  · obtain ⟨F, q, R, PH, k, n, xs, l, ws, p, rfl, G, hl, ok, hw1, hw2, hw3, hp, nl, few, fewP, fewk, kk⟩ := h
    have hu := hu_of hr
    refine ⟨_, (pss_cons (ps_set (i := 3) sc_Reader__add_statement.nd rfl (Or.inl rfl) (pe_mkw C_S hr (by first | decide | omega) rfl (pa_cons (pv 2) (pa_cons (pe_fld (pv 0) rfl) pa_nil))))
  (Evl.pss_cut (ps_if (pt_cmpR op_eq (pe_ix ix_list (pv 2) pe_int (fun _ _ => rfl)) pe_str (nomark _))
  (pss_one (ps_fldaug (pv 0) pe_int in_add))
  pss_nil)
  (pss_cons (ps_fld (pv 0) (pe_slice sl_list (pe_fld (pv 0) rfl) po_none (po_some (pv 1))) rfl)
  (pss_cons (ps_expr (pe_bm PySem.F.plainAttrs_list PySem.F.slot_list_append PySem.F.type_list_append mt_append (pe_fld (pe_ix ix_list (pe_fld (pv 0) rfl) (pe_un un_neg pe_int) (fun _ _ => rfl)) rfl) (pa_cons (pv 3) pa_nil)))
  (pss_one (ps_if (pt_cmpR op_in_seq (pe_ix ix_list (pv 2) pe_int (fun _ _ => rfl)) (pe_glob (v := .ref _) rfl Lx.gL.m rfl) (by rfl))
  (pss_one (ps_expr (pe_bm PySem.F.plainAttrs_list PySem.F.slot_list_append PySem.F.type_list_append mt_append (pe_fld (pv 0) rfl) (pa_cons (pe_mkw C_H hr (by first | decide | omega) rfl (pa_cons (pv 2) (pa_cons (pv 3) (pa_cons (pe_fld (pv 3) rfl) pa_nil)))) pa_nil))))
  pss_nil)))))), ?_⟩
    have pm : p ∈ PH := List.mem_of_getElem? hp
    refine ⟨_, rfl, _, rfl, q.rd, c.R, q.dx, _, _, rfl, G.o, B.cR, B.rm, rfl, fun a dx na nd ne => ⟨a, dx, l, ws, k, rfl, upd_same, ?_, ok.1, fun H1 kt b h k1 nkt nb nh bh ea ekt eb eh => ⟨rfl, ?_⟩⟩⟩
    · rw [upd_ne (ne_of_none hl na), upd_ne (ne_of_none hl nd)]
      exact hl
    · have s0 : Same H (upd (upd H dx (.own a)) a (.ins c.S dx [])) := fun y u e => by
        rw [upd_ne (ne_of_none e na), upd_ne (ne_of_none e nd)]
        exact e
      have s1 : Same H H1 := fun y u e => k1 y u (s0 _ _ e) fun z => by
        rw [List.mem_singleton.mp z, na] at e
        cases e
      have nkt0 := s0.free nkt
      have nb0 := s0.free nb
      have nh0 := s0.free nh
      have hb : b ≠ a := ne2 eb ea nofun
      clear nkt nb nh k1 s0 nd ne
      have G1 := G.same s1
      have hl1 := s1 _ _ hl
      have free1 : ∀ y, H1 y = none → H y = none := fun y e => s1.free e
      generalize ek : (if w0 ws = Str.ofString "block" then k + 1 else k) = k' at kk
      refine ⟨fun σ' H' => σ' = [some (.ref q.rd), some (.int (n + 1 : Nat)), some (.ref l), some (.ref a)] ∧ Kp [q.rd] H1 H' ∧ H' q.rd = some (.ins c.R q.dx (rdf q k')), ?_, ?_⟩
      · refine ⟨_, rfl, l, _, 0, _, rfl, rfl, SqL.of hl1, at0 ok.1, rfl, _, rfl, iteS (fun c1 => ?_) (fun c1 => ?_)⟩
        · rw [if_pos c1] at ek
          refine ⟨_, rfl, q.rd, c.R, q.dx, _, _, rfl, G1.o, B.cR, B.rm, rfl, k, 1, rfl, rfl, q.dx, _, G1.o, (by show 4 < 1000; decide), rfl, Kp.at_ (by simp), ?_⟩
          rw [upd_same, ← ek]
          rfl
        · rw [if_neg c1] at ek
          exact ⟨rfl, Kp.refl _ _, by rw [← ek]; exact G1.o⟩
      · rintro σ' H2 ⟨rfl, k2, o2⟩
        have old2 : ∀ {y : Addr} {u : HO}, H1 y = some u → y ≠ q.rd → H2 y = some u := fun {y u} e n1 => k2 y u e (by simp [n1])
        have free2 : ∀ y, H2 y = none → H1 y = none := fun y e => by
          cases z : H1 y with
          | none => rfl
          | some u =>
            by_cases y1 : y = q.rd
            · rw [y1, o2] at e
              cases e
            rw [old2 z y1] at e
            cases e
        have hl2 := old2 G1.hl (ne2 G1.hl G1.o nofun)
        refine ⟨_, rfl, q.rd, c.R, q.dx, _, _, rfl, o2, B.cR, B.rh, rfl, _, rfl, _, rfl, q.hl, _, rfl, SqL.of hl2, fun hl' nhl => ?_⟩
        rw [cutV_L, ← List.map_take]
        have s3 := Same.new (o := .lst ((PH.take (n + 1)).map fun p => V.ref p.o)) nhl
        have hl3 : upd H2 hl' (.lst ((PH.take (n + 1)).map fun p => V.ref p.o)) hl' = some (.lst ((PH.take (n + 1)).map fun p => V.ref p.o)) := upd_same
        have nhl1 := free2 _ nhl
        generalize upd H2 hl' (.lst ((PH.take (n + 1)).map fun p => V.ref p.o)) = H3 at s3 hl3 ⊢
        refine ⟨_, rfl, q.rd, c.R, q.dx, _, rfl, s3 _ _ o2, B.cR, B.rh, (by show 4 < 1000; decide), ?_⟩
        generalize eH4 : upd H3 q.rd _ = H4
        have o4 : H4 q.rd = some (.ins c.R q.dx (rdf { q with hl := hl' } k')) := by rw [← eH4]; exact upd_same
        have up4 : ∀ {y : Addr} {u : HO}, H3 y = some u → y ≠ q.rd → H4 y = some u := fun {y u} e n => by
          rw [← eH4, upd_ne n]
          exact e
        have old4 : ∀ {y : Addr} {u : HO}, H1 y = some u → y ≠ q.rd → H4 y = some u := fun {y u} e n => up4 (s3 _ _ (old2 e n)) n
        have hl4 := up4 hl3 (ne2 hl3 (s3 _ _ o2) nofun)
        have pk : (PH.take (n + 1)).getLast? = some p := by
          rw [List.take_add_one, hp]
          simp
        have gp := G1.hd p pm
        have hb4 := old4 (G1.b p.r (G1.hr p pm)) (ne2 (G1.b p.r (G1.hr p pm)) G1.o nofun)
        have gp4 := old4 gp (ne2 gp G1.o hdf_ne)
        refine ⟨_, rfl, q.rd, c.R, q.dx, _, _, rfl, o4, B.cR, B.rh, rfl, _, rfl, hl', _, -1, _, rfl, rfl, SqL.of hl4, atI_last' (by rw [List.getLast?_map, pk]; rfl), p.o, c.Hd, p.od, _, _, rfl, gp4, B.cH, B.hb, rfl, .inl ⟨rfl, _, SqL.of hb4⟩, _, rfl, p.r.b, _, _, rfl, rfl, hb4, small1000 (by rw [List.length_map]; unfold kids; have := List.length_filter_le (fun s => s.isS && decide (s.par = p.r.b)) R; omega), ?_⟩
        generalize eH5 : upd H4 p.r.b _ = H5
        have bd5 : H5 p.r.b = some (.lst ((kids R p.r.b).map (fun s => V.ref s.a) ++ [.ref a])) := by rw [← eH5]; exact upd_same
        have up5 : ∀ {y : Addr} {u : HO}, H4 y = some u → y ≠ p.r.b → H5 y = some u := fun {y u} e n => by
          rw [← eH5, upd_ne n]
          exact e
        have old5 : ∀ {y : Addr} {u : HO}, H1 y = some u → y ≠ q.rd → y ≠ p.r.b → H5 y = some u := fun {y u} e n m => up5 (old4 e n) m
        have gb1 := G1.b p.r (G1.hr p pm)
        have hlb : hl' ≠ p.r.b := fun e => by
          rw [e, gb1] at nhl1
          cases nhl1
        have hl5 := up5 hl4 hlb
        have o5 := up5 o4 (ne2 o4 hb4 nofun)
        have b5 : H5 b = some (.lst []) := old5 eb (ne2 eb G1.o nofun) (ne_of_none (G.b p.r (G.hr p pm)) nb0).symm
        have h5 : H5 h = some (.lst []) := old5 eh (ne2 eh G1.o nofun) (ne_of_none (G.b p.r (G.hr p pm)) nh0).symm
        have a5 := old5 ea (ne2 ea G1.o (fun h => by
          injection h with _ _ h
          injection h with h
          injection h with h
          exact absurd h (by decide +kernel))) (ne2 ea gb1 nofun)
        have t5 := old5 ekt (ne2 ekt G1.o nofun) (ne2 ekt gb1 nofun)
        have lp : l ≠ p.r.b := fun e => nl (e ▸ G.bm (G.hr p pm))
        have l5 := old5 hl1 (ne2 hl1 G1.o nofun) lp
        generalize er : (⟨n + 1, ws, l, b, a, dx, kt, h, b, b, p.r.b, b, k⟩ : LR) = r at *
        have rn : r.n = n + 1 := by rw [← er]
        have rws : r.ws = ws := by rw [← er]
        have rwl : r.wl = l := by rw [← er]
        have rb : r.b = b := by rw [← er]
        have ra : r.a = a := by rw [← er]
        have rdx : r.dx = dx := by rw [← er]
        have rkt : r.kt = kt := by rw [← er]
        have rh : r.h = h := by rw [← er]
        have rpar : r.par = p.r.b := by rw [← er]
        have rnum : r.num = k := by rw [← er]
        clear er
        have kF : r.isF = false := by unfold LR.isF; rw [rws]; exact decide_eq_false hw3
        have kX : r.isX = false := by unfold LR.isX; rw [rws]; exact decide_eq_false hw1
        have kL : r.isL = false := by unfold LR.isL; rw [rws]; exact decide_eq_false hw2
        have kS : r.isS = true := by unfold LR.isS; rw [kF, kX, kL]; rfl
        have fin : ∀ (H7 : Hp) (o od : Addr), Kp [hl'] H5 H7 → H7 hl' = some (.lst ((PH.take (n + 1) ++ (if w0 ws ∈ leadS then [(⟨r, o, od⟩ : Hd)] else [])).map fun p => .ref p.o)) → (w0 ws ∈ leadS → H7 o = some (.ins c.Hd od (hdf ⟨r, o, od⟩))) → Q .non H7 := by
          intro H7 o od k7 hl7 ho7
          have old : ∀ {y : Addr} {u : HO}, H1 y = some u → y ≠ q.rd → y ≠ p.r.b → H7 y = some u := fun {y u} e n m => k7 y u (old5 e n m) (by
            rw [List.mem_singleton]
            exact ne_of_none e nhl1)
          have up7 : ∀ {y : Addr} {u : HO}, H5 y = some u → y ≠ hl' → H7 y = some u := fun {y u} e n => k7 y u e (by rw [List.mem_singleton]; exact n)
          have nhl0 := free1 _ nhl1
          have lb : l ≠ b := ne_of_none hl nb0
          have lh : l ≠ h := ne_of_none hl nh0
          have ls : r.ls = [l, b, h] := by
            unfold LR.ls
            rw [if_pos kS, rwl, rb, rh]
          have o7 := up7 o5 (ne2 o5 hl5 nofun)
          have b7 := up7 b5 (ne_of_none eb nhl1)
          have h7 := up7 h5 (ne_of_none eh nhl1)
          have a7 := up7 a5 (ne2 a5 hl5 nofun)
          have t7 := up7 t5 (ne2 t5 hl5 nofun)
          have l7 := up7 l5 (ne_of_none hl nhl0)
          have bd7 := up7 bd5 hlb.symm
          refine kk H7 (fun y => F y ∨ y ∈ [b, hl', a, h]) { q with hl := hl' } r o od rn rws rwl rpar rnum ?_ rfl rfl (Frl.ofKp (L := [q.rd, p.r.b]) (fun y u e m => ?_) (fun y m => ?_) (fun y m => ?_))
          · refine G.addG (H' := H7) (r := r) kF (by rw [rws]; exact ok) o7 (old G1.bd (ne2 G1.bd G1.o nofun) (ne2 G1.bd gb1 nofun)) hl7 (old G1.rl (ne2 G1.rl G1.o nofun) (fun e => ?_)) (fun y hy => ?_) (fun y hy => ?_) (fun y hy e => ?_) (fun y hy e => ?_) (fun y hy => ?_) (fun y hy => ?_) ?_ (by rw [rb]; exact b7) (fun _ => ⟨?_, ?_, ?_⟩) (fun e => ?_) (by rw [rb]; exact nb0) ?_ ?_ (fun _ => ?_) (fun _ => ⟨p.r, G.hr p pm, rpar.symm⟩) (fun e => ?_) (fun _ h => .inl h) (by rw [rb]; exact .inr (by simp)) (.inr (by simp)) (fun _ => by rw [ra, rh]; exact ⟨.inr (by simp), .inr (by simp)⟩)
            · have n0 := (List.nodup_cons.mp G.nl).1
              exact n0 (e ▸ List.mem_flatMap.mpr ⟨p.r, G.hr p pm, p.r.b_mem⟩)
            · exact old (G1.w y hy) (ne2 (G1.w y hy) G1.o nofun) (wl_b G.nl (G.hr p pm) hy)
            · rw [kids_snoc, kS, rpar, Bool.true_and]
              by_cases z : p.r.b = y.b
              · rw [decide_eq_true z, if_pos rfl, ← z, List.map_append, bd7]
                show _ = some (HO.lst (_ ++ [V.ref r.a]))
                rw [ra]
              · rw [decide_eq_false z]
                simp only [Bool.false_eq_true, if_false, List.append_nil]
                exact old (G1.b y hy) (ne2 (G1.b y hy) G1.o nofun) (Ne.symm z)
            · have gy := G1.s y hy e
              have e1 : exs (R ++ [r]) y.a = exs R y.a := by
                rw [exs_snoc, kX]
                simp
              have e2 : lastV (R ++ [r]) y.a = lastV R y.a := by
                unfold lastV
                rw [las_snoc, kL]
                simp
              rw [e1, e2]
              refine ⟨old gy.1 (ne2 gy.1 G1.o stf_ne) (ne2 gy.1 gb1 nofun), old gy.2.1 (ne2 gy.2.1 G1.o nofun) (ne2 gy.2.1 gb1 nofun), old gy.2.2 (ne2 gy.2.2 G1.o nofun) ?_⟩
              exact (wb_h G.nl hy (G.hr p pm) e).2.symm
            · have gy := G1.x y hy e
              exact ⟨old gy.1 (ne2 gy.1 G1.o nofun) (ne2 gy.1 gb1 nofun), old gy.2 (ne2 gy.2 G1.o nofun) (ne2 gy.2 gb1 nofun)⟩
            · rcases List.mem_append.mp hy with hy | hy
              · have gy := G1.hd y (List.mem_of_mem_take hy)
                exact old gy (ne2 gy G1.o hdf_ne) (ne2 gy gb1 nofun)
              · by_cases z : w0 ws ∈ leadS
                · rw [if_pos z] at hy
                  rw [List.mem_singleton.mp hy]
                  exact ho7 z
                · rw [if_neg z] at hy
                  cases hy
            · rcases List.mem_append.mp hy with hy | hy
              · exact List.mem_append.mpr (.inl (G.hr y (List.mem_of_mem_take hy)))
              · by_cases z : w0 ws ∈ leadS
                · rw [if_pos z] at hy
                  rw [List.mem_singleton.mp hy]
                  exact List.mem_append.mpr (.inr (List.mem_singleton.mpr rfl))
                · rw [if_neg z] at hy
                  cases hy
            · rw [rwl, rws]
              exact l7
            · rw [ra, rdx, a7]
              unfold stf
              rw [rws, rnum, rkt, rb, rh]
            · rw [rkt, rws]
              exact t7
            · rw [rh]
              exact h7
            · rw [kX] at e
              cases e
            · rw [ls, List.nodup_append]
              refine ⟨G.nl, by simp [lb, lh, bh], fun y hy z hz => ?_⟩
              simp only [List.mem_cons, List.not_mem_nil, or_false] at hz
              rcases hz with rfl | rfl | rfl
              · exact fun e => nl (e ▸ hy)
              · exact fun e => G.dom nb0 (e ▸ hy)
              · exact fun e => G.dom nh0 (e ▸ hy)
            · rw [ls]
              intro m
              rcases List.mem_append.mp m with m | m
              · exact G.dom nhl0 m
              · simp only [List.mem_cons, List.not_mem_nil, or_false] at m
                rcases m with m | m | m
                · exact ne_of_none hl nhl0 m.symm
                · exact ne_of_none eb nhl1 m.symm
                · exact ne_of_none eh nhl1 m.symm
            · rw [ra]
              exact na
            · rw [kS] at e
              cases e
          · simp only [List.mem_cons, List.not_mem_nil, or_false, not_or] at m
            exact old (s1 _ _ e) m.1 m.2
          · simp only [List.mem_cons, List.not_mem_nil, or_false] at m
            rcases m with rfl | rfl
            · exact G.fo.1
            · exact (G.fr _ (G.hr p pm)).1
          · simp only [List.mem_cons, List.not_mem_nil, or_false] at m
            rcases m with rfl | rfl | rfl | rfl
            · exact nb0
            · exact nhl0
            · exact na
            · exact nh0
        refine ⟨_, rfl, l, _, 0, _, rfl, rfl, SqL.of l5, at0 ok.1, tL, leadS.map V.str, rfl, .inr (Lx.gL.seq _), rfl, flatS _, ?_⟩
        rw [inq]
        refine ⟨_, rfl, ite2 (fun c2 => ?_) (fun c2 => ?_)⟩
        · have c2 := of_decide_eq_true c2
          refine ⟨_, rfl, q.rd, c.R, q.dx, _, _, rfl, o5, B.cR, B.rh, rfl, .inl ⟨rfl, _, SqL.of hl5⟩, _, rfl, _, rfl, _, rfl, a, c.S, dx, _, _, rfl, a5, B.cS, B.sb, rfl, fun x d nx nd ne => ⟨x, d, _, _, _, rfl, upd_same, fun H6 k6 hx6 => ⟨rfl, hl', ((PH.take (n + 1)).map fun p => V.ref p.o), _, rfl, rfl, ?_, ?_, fin _ x d ?_ ?_ fun _ => ?_⟩⟩⟩
          · exact k6 _ _ (by
              rw [upd_ne (ne_of_none hl5 nx), upd_ne (ne_of_none hl5 nd)]
              exact hl5) (by rw [List.mem_singleton]; exact ne_of_none hl5 nx)
          · rw [List.length_map, List.length_take]
            exact small1000 (by omega)
          · refine fun y u e m => ?_
            rw [upd_ne (fun z => m (List.mem_singleton.mpr z))]
            exact k6 y u (by
              rw [upd_ne (ne_of_none e nx), upd_ne (ne_of_none e nd)]
              exact e) (by rw [List.mem_singleton]; exact ne_of_none e nx)
          · rw [upd_same, if_pos c2, List.map_append]
            rfl
          · rw [upd_ne (ne_of_none hl5 nx).symm, hx6]
            unfold hdf Hd.sv
            rw [if_neg (by rw [kF]; decide), if_pos kS, rwl, rb, ra]
        · have c2 : ¬ w0 ws ∈ leadS := fun h => c2 (decide_eq_true h)
          exact fin H5 b b (Kp.refl _ _) (by rw [if_neg c2, List.append_nil]; exact hl5) (fun h => absurd h c2)
end
end IC
namespace IC
open PySem L2 TL PyProof.Rows
section
variable {P : Program} {w : World} {K : PySem.W.Frag} {mg : Str → Option Value} {base : Heap} {c : LC} {tL tF : Addr}
/-- Reader() -/
def spRdI (c : LC) : Sp := fun vs H Q _ => ∃ (x dx : Addr), vs = [.ref x] ∧ H x = some (.ins c.R dx []) ∧ ∀ (H' : Hp) (q : RdP), q.rd = x → Kp [x] H H' → RdG c H' (fun y => y ∈ [q.rd, q.rl, q.bd, q.hl]) q [] [] 0 [] → (∀ y ∈ [q.rl, q.bd, q.hl], H y = none) → Q .non H'
theorem ok_rdI {f : Addr} {fd : FuncData} (F : Fun K "__init__" "Reader.__init__" s_Reader___init__ f fd) (B : CTx K mg c) : FnOk P w K mg base CX0 1 f fd ["self"] (spRdI c) := by
  refine F.ok sc_Reader___init__ (fun vs H Q E h => ?_) (fun cdv A outer s H vs Q E hr h => ?_)
  · obtain ⟨x, dx, rfl, _⟩ := h
    rfl
  · obtain ⟨x, dx, rfl, hx, kk⟩ := h
    refine ⟨_, (pss_cons (ps_fld (pv 0) (pe_lst pa_nil) rfl)
  (pss_cons (ps_fld (pv 0) pe_dnewK rfl)
  (pss_cons (ps_fld (pv 0) (pe_lst pa_nil) rfl)
  (pss_one (ps_fld (pv 0) pe_int rfl))))), ?_⟩
    have free : ∀ {G' : Hp} {y : Addr}, Kp [x] H G' → G' x ≠ none → G' y = none → H y = none := fun {G' y} kk gx e => by
      cases z : H y with
      | none => rfl
      | some o =>
        by_cases yx : y = x
        · rw [yx] at e
          exact absurd e gx
        · rw [kk y o z (by simpa using yx)] at e
          cases e
    refine ⟨(by show 0 ≤ sizeLine; decide), fun rl nrl => ⟨_, rfl, x, c.R, dx, [], rfl, (Same.new nrl) _ _ hx, B.cR, B.rr, (by show 0 < 1000; decide), ?_⟩⟩
    have rlx : rl ≠ x := (ne_of_none hx nrl).symm
    generalize eH1 : upd (upd H rl _) x _ = H1
    have hx1 : H1 x = some (.ins c.R dx [("rows", .ref rl)]) := by rw [← eH1]; exact upd_same
    have k1 : Kp [x] H H1 := by rw [← eH1]; exact (Kp.new nrl).mutAt (by simp)
    have rl1 : H1 rl = some (.lst []) := by rw [← eH1, upd_ne rlx]; exact upd_same
    refine fun bd nbd => ⟨_, rfl, x, c.R, dx, _, rfl, (Same.new nbd) _ _ hx1, B.cR, B.rb, (by show 1 < 1000; decide), ?_⟩
    have bdx : bd ≠ x := (ne_of_none hx1 nbd).symm
    have nbd0 := free k1 (by rw [hx1]; simp) nbd
    have s2 := Same.new (o := .dK []) nbd
    generalize eH2 : upd (upd H1 bd _) x _ = H2
    have hx2 : H2 x = some (.ins c.R dx [("rows", .ref rl), ("bodies", .ref bd)]) := by rw [← eH2]; exact upd_same
    have k2 : Kp [x] H H2 := by rw [← eH2]; exact (k1.trans (Kp.same s2)).mutAt (by simp)
    have rl2 : H2 rl = some (.lst []) := by rw [← eH2, upd_ne rlx]; exact s2 _ _ rl1
    have bd2 : H2 bd = some (.dK []) := by rw [← eH2, upd_ne bdx]; exact upd_same
    refine ⟨(by show 0 ≤ sizeLine; decide), fun hl nhl => ⟨_, rfl, x, c.R, dx, _, rfl, (Same.new nhl) _ _ hx2, B.cR, B.rh, (by show 2 < 1000; decide), ?_⟩⟩
    have hlx : hl ≠ x := (ne_of_none hx2 nhl).symm
    have nhl0 := free k2 (by rw [hx2]; simp) nhl
    have s3 := Same.new (o := .lst []) nhl
    generalize eH3 : upd (upd H2 hl _) x _ = H3
    have hx3 : H3 x = some (.ins c.R dx [("rows", .ref rl), ("bodies", .ref bd), ("_headers", .ref hl)]) := by rw [← eH3]; exact upd_same
    have k3 : Kp [x] H H3 := by rw [← eH3]; exact (k2.trans (Kp.same s3)).mutAt (by simp)
    have rl3 : H3 rl = some (.lst []) := by rw [← eH3, upd_ne rlx]; exact s3 _ _ rl2
    have bd3 : H3 bd = some (.dK []) := by rw [← eH3, upd_ne bdx]; exact s3 _ _ bd2
    have hl3 : H3 hl = some (.lst []) := by rw [← eH3, upd_ne hlx]; exact upd_same
    have rlhl : hl ≠ rl := (ne_of_none rl2 nhl).symm
    refine ⟨_, rfl, x, c.R, dx, _, rfl, hx3, B.cR, B.rm, (by show 3 < 1000; decide), ?_⟩
    refine kk _ ⟨x, dx, rl, bd, hl⟩ rfl (k3.mutAt (by simp)) ?_ (fun y m => ?_)
    · refine { o := upd_same, rl := by rw [upd_ne rlx]; exact rl3, bd := by rw [upd_ne bdx]; exact bd3, hl := by rw [upd_ne hlx]; exact hl3, w := nofun, b := nofun, s := nofun, x := nofun, hd := nofun, hr := nofun, nl := by simp [LA], nh := by simpa [LA] using rlhl, na := by simp, nf := by simp, par := nofun, stx := nofun, ne := nofun, fo := by simp, fr := nofun }
    · simp only [List.mem_cons, List.not_mem_nil, or_false] at m
      rcases m with rfl | rfl | rfl
      · exact nrl
      · exact nbd0
      · exact nhl0
theorem RdG.push {H : Hp} {F : Addr → Prop} {q : RdP} {R : List LR} {PH : List Hd} {k : Nat} {xs ys : List V} (G : RdG c H F q R PH k xs) : RdG c (upd H q.rl (.lst ys)) F q R PH k ys := by
  have n0 : ∀ {y : Addr}, y ∈ R.flatMap LR.ls → y ≠ q.rl := fun {y} m e => (List.nodup_cons.mp G.nl).1 (e ▸ m)
  have nh : q.hl ≠ q.rl := fun e => G.nh (e ▸ List.mem_cons_self ..)
  have wm : ∀ r ∈ R, ∀ u ∈ r.ls, u ≠ q.rl := fun r hr u hu => n0 (List.mem_flatMap.mpr ⟨r, hr, hu⟩)
  have up : ∀ {y : Addr} {u : HO}, H y = some u → y ≠ q.rl → upd H q.rl (.lst ys) y = some u := fun {y u} e n => by
    rw [upd_ne n]
    exact e
  exact { G with
    o := up G.o (ne2 G.o G.rl nofun)
    rl := upd_same
    bd := up G.bd (ne2 G.bd G.rl nofun)
    hl := up G.hl nh
    w := fun r hr => up (G.w r hr) (wm r hr _ r.wl_mem)
    b := fun r hr => up (G.b r hr) (wm r hr _ r.b_mem)
    s := fun r hr e => ⟨up (G.s r hr e).1 (ne2 (G.s r hr e).1 G.rl nofun), up (G.s r hr e).2.1 (ne2 (G.s r hr e).2.1 G.rl nofun), up (G.s r hr e).2.2 (wm r hr _ (LR.h_mem e))⟩
    x := fun r hr e => ⟨up (G.x r hr e).1 (ne2 (G.x r hr e).1 G.rl nofun), up (G.x r hr e).2 (ne2 (G.x r hr e).2 G.rl nofun)⟩
    hd := fun p hp => up (G.hd p hp) (ne2 (G.hd p hp) G.rl nofun) }
/-- self.read(line) -/
inductive Stp (ws : List Str) (n : Nat) (PH : List Hd) (k : Nat) : LR → List Hd → Nat → Prop
  | f {r o od} : n = 0 → r.n = 0 → w0 ws = Str.ofString "function" → Stp ws n PH k r [⟨r, o, od⟩] k
  | l {r p o od} : r.n = n → (w0 ws = Str.ofString "except" ∨ w0 ws = Str.ofString "finally") → PH[n]? = some p → p.r.isF = false → (p.r.isS = true → r.st = p.r.a) → (p.r.isS = false → r.st = p.r.st) → Stp ws n PH k r (PH.take n ++ [⟨r, o, od⟩]) k
  | s {r p o od m} : n = m + 1 → r.n = n → w0 ws ≠ Str.ofString "except" → w0 ws ≠ Str.ofString "finally" → w0 ws ≠ Str.ofString "function" → PH[m]? = some p → r.par = p.r.b → r.num = k → Stp ws n PH k r (PH.take (m + 1) ++ (if w0 ws ∈ leadS then [⟨r, o, od⟩] else [])) (if w0 ws = Str.ofString "block" then k + 1 else k)
def spRead (c : LC) : Sp := fun vs H Q _ => ∃ (F : Addr → Prop) (q : RdP) (R : List LR) (PH : List Hd) (k n : Nat) (xs : List V) (ws : List Str), vs = [.ref q.rd, .str (rowT n ws)] ∧ RdG c H F q R PH k xs ∧ WsOk ws ∧ n ≤ 20 ∧ formB modesS ws = true ∧ nestB (w0 ws) n = true ∧ canB R PH n ws = true ∧ xs.length ≤ 500 ∧ R.length ≤ 500 ∧ PH.length ≤ 100 ∧ k ≤ 500 ∧
  ∀ (H' : Hp) (F' : Addr → Prop) (q' : RdP) (r : LR) (PH' : List Hd) (k' : Nat), r.ws = ws → Stp ws n PH k r PH' k' → RdG c H' F' q' (R ++ [r]) PH' k' (xs ++ [.ref r.wl]) → q'.rd = q.rd → q'.rl = q.rl → Frl F F' H H' → Q .non H'
theorem ok_read {f : Addr} {fd : FuncData} (F : Fun K "read" "Reader.read" s_Reader_read f fd) (T : Bn mg) (B : CTx K mg c) (Lx : LTxt K mg tL tF) (D_split_line : Df P w K mg base 3 "split_line" ["line"] spSplit) (M_can : MDf P w K mg base CX0 3 c.R "_can_follow" ["self", "nesting", "words"] [] (spCan c))
    (M_addF : MDf P w K mg base CX0 3 c.R "_add_function" ["self", "words"] [] (spAddF c)) (M_addL : MDf P w K mg base CX0 3 c.R "_add_following" ["self", "nesting", "words"] [] (spAddL c)) (M_addS : MDf P w K mg base CX0 3 c.R "_add_statement" ["self", "nesting", "words"] [] (spAddS c)) : FnOk P w K mg base CX0 4 f fd ["self", "line"] (spRead c) := by
  refine F.ok sc_Reader_read (fun vs H Q E h => ?_) (fun cdv A outer s H vs Q E hr h => ?_)
  · obtain ⟨F, q, R, PH, k, n, xs, ws, rfl, _⟩ := h
    rfl
  · obtain ⟨F, q, R, PH, k, n, xs, ws, rfl, G, ok, hn, hfo, hna, hc, fewX, few, fewP, fewk, kk⟩ := h
    refine ⟨_, (pss_cons (ps_asg (pe_df D_split_line hr (by first | decide | omega) rfl (pa_cons (pv 1) pa_nil)) (pg_tup rfl (pgs_cons (pg_name (i := 2) sc_Reader_read.nd rfl (Or.inl rfl)) (pgs_cons (pg_name (i := 3) sc_Reader_read.nd rfl (Or.inl rfl)) pgs_nil))))
  (Evl.pss_cut (ps_if (PW.pt (pw_or (pt_cmpR (op_eqNil hr.units) (pv 3) (pe_lst pa_nil) (nomark _)) (pw_or1 (pt_not (pt_val (pe_md M_can B.cR hr (by first | decide | omega) (pv 0) (pa_cons (pv 2) (pa_cons (pv 3) pa_nil))))))))
  pss_dead
  pss_nil)
  (pss_cons (ps_expr (pe_bm PySem.F.plainAttrs_list PySem.F.slot_list_append PySem.F.type_list_append mt_append (pe_fld (pv 0) rfl) (pa_cons (pv 3) pa_nil)))
  (pss_one (ps_if (pt_cmpR op_eq (pe_ix ix_list (pv 3) pe_int (fun _ _ => rfl)) pe_str (nomark _))
  (pss_one (ps_expr (pe_md M_addF B.cR hr (by first | decide | omega) (pv 0) (pa_cons (pv 3) pa_nil))))
  (pss_one (ps_if (pt_cmpR op_in_seq (pe_ix ix_list (pv 3) pe_int (fun _ _ => rfl)) (pe_glob (v := .ref _) rfl Lx.gF.m rfl) (by rfl))
  (pss_one (ps_expr (pe_md M_addL B.cR hr (by first | decide | omega) (pv 0) (pa_cons (pv 2) (pa_cons (pv 3) pa_nil)))))
  (pss_one (ps_expr (pe_md M_addS B.cR hr (by first | decide | omega) (pv 0) (pa_cons (pv 2) (pa_cons (pv 3) pa_nil)))))))))))), ?_⟩
    refine ⟨_, rfl, n, ws, rfl, ok.1, ok.2.1, ok.2.2, hn, hfo, hna, fun H1 t l s1 nl ht hl => ?_⟩
    have G1 := G.same s1
    have lnl : l ∉ LA q R := G.dom nl
    refine ⟨t, _, rfl, SqT.of ht, rfl, _, _, rfl, _, _, rfl, rfl, ?_⟩
    refine ⟨fun σ' H' => σ' = [some (.ref q.rd), some (.str (rowT n ws)), some (.int n), some (.ref l)] ∧ Same H1 H', ?_, ?_⟩
    · refine ⟨_, rfl, (by show 0 ≤ sizeLine; decide), fun e1 n1 => ?_⟩
      have s2 := Same.new (o := .lst []) n1
      have G2 := G1.same s2
      have hl2 := s2 _ _ hl
      refine ⟨l, e1, _, rfl, rfl, SqL.of hl2, SqL.of upd_same, _, rfl, ?_⟩
      rw [if_neg (by decide)]
      have e4 : ((ws.map V.str).isEmpty) = false := by
        cases ws with
        | nil => exact absurd rfl ok.1
        | cons a b => rfl
      rw [e4]
      refine iteF ⟨_, rfl, q.rd, q.dx, _, rfl, G2.o, rfl, _, rfl, _, rfl, F, q, R, PH, k, n, xs, l, ws, rfl, G2, fewP, hl2, ok.1, fun h => ?_, fun H3 s3 => ⟨_, rfl, ?_⟩⟩
      · unfold formB at hfo
        rw [h, if_pos (by decide +kernel)] at hfo
        have := of_decide_eq_true hfo
        omega
      · rw [hc]
        exact iteF ⟨rfl, s2.trans s3⟩
    · rintro σ' H2 ⟨rfl, s2⟩
      have G2 := G1.same s2
      have hl2 := s2 _ _ hl
      refine ⟨_, rfl, q.rd, c.R, q.dx, _, _, rfl, G2.o, B.cR, B.rr, rfl, .inl ⟨rfl, _, SqL.of G2.rl⟩, _, rfl, q.rl, _, _, rfl, rfl, G2.rl, small1000 (by omega), ?_⟩
      have lq : l ≠ q.rl := fun e => lnl (e ▸ List.mem_cons_self ..)
      have G3 := G2.push (ys := xs ++ [V.ref l])
      have fl : Frl F F H (upd H2 q.rl (.lst (xs ++ [V.ref l]))) := ⟨fun y u e ny => by
        rw [upd_ne (fun z => ny (by rw [z]; exact G.fo.2.1))]
        exact s2 _ _ (s1 _ _ e), fun _ h => h, fun _ h => .inl h⟩
      have hl3 : upd H2 q.rl (.lst (xs ++ [V.ref l])) l = some (.lst (ws.map V.str)) := by
        rw [upd_ne lq]
        exact hl2
      generalize upd H2 q.rl (.lst (xs ++ [V.ref l])) = H3 at G3 fl hl3 ⊢
      refine ⟨_, rfl, l, _, 0, _, rfl, rfl, SqL.of hl3, at0 ok.1, rfl, _, rfl, iteS (fun c1 => ?_) (fun c1 => ?_)⟩
      · have n0 : n = 0 := by
          unfold nestB at hna
          rw [decide_eq_true c1] at hna
          exact of_decide_eq_true hna
        have nm : w1 ws ∉ names R := fun m => by
          unfold canB at hc
          split at hc
          · rename_i hL
            rw [Bool.and_eq_true, decide_eq_true_iff] at hc
            rw [n0] at hc
            rw [List.eq_nil_of_length_eq_zero hc.1.symm] at hL
            cases hL
          · split at hc
            · cases hc
            · split at hc
              · rename_i h
                rw [c1] at h
                exact absurd h (by decide +kernel)
              · rw [if_pos ⟨c1, m⟩] at hc
                cases hc
        have l2 : 1 < ws.length := by
          unfold formB at hfo
          rw [c1, if_pos (by decide +kernel)] at hfo
          have := of_decide_eq_true hfo
          omega
        refine ⟨_, rfl, q.rd, q.dx, _, rfl, G3.o, rfl, _, rfl, F, q, R, PH, k, _, l, ws, rfl, G3, hl3, ok, c1, l2, lnl, nm, few, fun H4 F' q' r o od rn rws rwl G4 e1 e2 f4 => ?_⟩
        exact kk H4 F' q' r _ _ rws (.f n0 rn c1) (by rw [rwl]; exact G4) e1 e2 (fl.trans f4)
      · refine ⟨_, rfl, l, _, 0, _, rfl, rfl, SqL.of hl3, at0 ok.1, tF, follS.map V.str, rfl, .inr (Lx.gF.seq _), rfl, flatS _, ?_⟩
        rw [inq]
        refine ⟨_, rfl, ite2 (fun c2 => ?_) (fun c2 => ?_)⟩
        · have c2 := of_decide_eq_true c2
          have c3 : w0 ws = Str.ofString "except" ∨ w0 ws = Str.ofString "finally" := by
            rcases List.mem_cons.mp c2 with h | h
            · exact .inl h
            · exact .inr (List.mem_singleton.mp h)
          obtain ⟨p, hp, pF⟩ : ∃ p, PH[n]? = some p ∧ p.r.isF = false := by
            unfold canB at hc
            rw [decide_eq_true c2, if_pos c2] at hc
            split at hc
            · rw [Bool.and_eq_true] at hc
              exact absurd hc.2 (by decide)
            · split at hc
              · cases hc
              · split at hc
                · cases hc
                · split at hc
                  · rename_i p hp
                    refine ⟨p, hp, ?_⟩
                    unfold LR.isF
                    refine decide_eq_false fun h => ?_
                    unfold goB at hc
                    rw [h, show decide (Str.ofString "function" = Str.ofString "try") = false from by decide +kernel, show decide (Str.ofString "function" = Str.ofString "except") = false from by decide +kernel] at hc
                    split at hc <;> simp at hc
                  · cases hc
          refine ⟨_, rfl, q.rd, q.dx, _, rfl, G3.o, rfl, _, rfl, _, rfl, F, q, R, PH, k, n, _, l, ws, p, rfl, G3, hl3, ok, c3, hp, pF, lnl, few, fewP, fun H4 F' q' r o od rn rws rwl r1 r2 G4 e1 e2 f4 => ?_⟩
          exact kk H4 F' q' r _ _ rws (.l rn c3 hp pF r1 r2) (by rw [rwl]; exact G4) e1 e2 (fl.trans f4)
        · have c2 : ¬ w0 ws ∈ follS := fun h => c2 (decide_eq_true h)
          have c3 : w0 ws ≠ Str.ofString "except" := fun h => c2 (h ▸ List.mem_cons_self ..)
          have c4 : w0 ws ≠ Str.ofString "finally" := fun h => c2 (h ▸ List.mem_cons_of_mem _ (List.mem_singleton.mpr rfl))
          obtain ⟨m, rfl⟩ : ∃ m, n = m + 1 := by
            unfold nestB at hna
            rw [decide_eq_false c1] at hna
            simp only [Bool.false_eq_true, if_false, Bool.and_eq_true, decide_eq_true_iff] at hna
            exact ⟨n - 1, by omega⟩
          have lt : m < PH.length := by
            unfold canB at hc
            split at hc
            · rw [Bool.and_eq_true, decide_eq_true_iff] at hc
              omega
            · split at hc
              · cases hc
              · omega
          obtain ⟨p, hp⟩ : ∃ p, PH[m]? = some p := ⟨_, List.getElem?_eq_getElem lt⟩
          refine ⟨_, rfl, q.rd, q.dx, _, rfl, G3.o, rfl, _, rfl, _, rfl, F, q, R, PH, k, m, _, l, ws, p, rfl, G3, hl3, ok, c3, c4, c1, hp, lnl, few, fewP, fewk, fun H4 F' q' r o od rn rws rwl r1 r2 G4 e1 e2 f4 => ?_⟩
          exact kk H4 F' q' r _ _ rws (.s rfl rn c3 c4 c1 hp r1 r2) (by rw [rwl]; exact G4) e1 e2 (fl.trans f4)
/-- reader.finish() -/
theorem ok_finish {f : Addr} {fd : FuncData} (F : Fun K "finish" "Reader.finish" s_Reader_finish f fd) (B : CTx K mg c) (M_lacks : MDf P w K mg base CX0 1 c.R "_lacks_body" ["self"] [] (spRdQ c lackB)) (M_leaves : MDf P w K mg base CX0 2 c.R "_leaves_bare_try" ["self", "nesting"] [] (spLeaves c)) :
    FnOk P w K mg base CX0 3 f fd ["self"] (fun vs H Q _ => ∃ (F : Addr → Prop) (q : RdP) (R : List LR) (PH : List Hd) (k : Nat) (xs : List V), vs = [.ref q.rd] ∧ RdG c H F q R PH k xs ∧ PH.length ≤ 100 ∧ lackB R PH = false ∧ bareB PH 0 = false ∧ ∀ H', Same H H' → Q .non H') := by
  refine F.ok sc_Reader_finish (fun vs H Q E h => ?_) (fun cdv A outer s H vs Q E hr h => ?_)
  · obtain ⟨F, q, R, PH, k, xs, rfl, _⟩ := h
    rfl
  · obtain ⟨F, q, R, PH, k, xs, rfl, G, few, nl, nb, kk⟩ := h
    refine ⟨_, (pss_one (ps_if (PW.pt (pw_or (pt_val (pe_md0 M_lacks B.cR hr (by first | decide | omega) (pv 0))) (pw_or1 (pt_val (pe_md M_leaves B.cR hr (by first | decide | omega) (pv 0) (pa_cons pe_int pa_nil))))))
  pss_dead
  pss_nil)), ?_⟩
    refine ⟨_, rfl, q.rd, q.dx, _, rfl, G.o, rfl, F, q, R, PH, k, xs, rfl, G, fun H1 s1 => ⟨_, rfl, ?_⟩⟩
    rw [nl]
    have G1 := G.same s1
    refine iteF ⟨_, rfl, q.rd, q.dx, _, rfl, G1.o, rfl, F, q, R, PH, k, 0, xs, rfl, G1, few, fun H2 s2 => ⟨_, rfl, ?_⟩⟩
    rw [nb]
    exact iteF (kk _ (s1.trans s2))
end
end IC
namespace IC
open PySem L2 TL PyProof.Rows
/-! ### reading, told without a heap -/
structure PSt where
  nm : List Str
  hs : List (List Str)
  lk : Bool
def bareP (hs : List (List Str)) (n : Nat) : Bool := (hs.drop n).any fun p => decide (w0 p = Str.ofString "try")
def canP (s : PSt) (n : Nat) (ws : List Str) : Bool :=
  if s.lk = true then decide (n = s.hs.length) && !decide (w0 ws ∈ follS)
  else if s.hs.length < n then false
  else if w0 ws ∈ follS then (if n = s.hs.length ∨ bareP s.hs (n + 1) = true then false else match s.hs[n]? with
    | some p => goB p (w0 ws)
    | none => false)
  else if w0 ws = Str.ofString "function" ∧ w1 ws ∈ s.nm then false
  else !bareP s.hs n
def stepP (s : PSt) (n : Nat) (ws : List Str) : PSt :=
  if w0 ws = Str.ofString "function" then ⟨s.nm ++ [w1 ws], [ws], true⟩
  else if w0 ws ∈ follS then ⟨s.nm, s.hs.take n ++ [ws], true⟩
  else ⟨s.nm, s.hs.take n ++ (if w0 ws ∈ leadS then [ws] else []), decide (w0 ws ∈ leadS)⟩
def RowOk (n : Nat) (ws : List Str) : Prop := WsOk ws ∧ n ≤ 20 ∧ formB modesS ws = true ∧ nestB (w0 ws) n = true
inductive Reads : PSt → List (Nat × List Str) → PSt → Prop
  | nil {s} : Reads s [] s
  | cons {s n ws L s'} : RowOk n ws → canP s n ws = true → Reads (stepP s n ws) L s' → Reads s ((n, ws) :: L) s'
theorem Reads.append {s1 s2 s3 : PSt} {L M : List (Nat × List Str)} (a : Reads s1 L s2) (b : Reads s2 M s3) : Reads s1 (L ++ M) s3 := by
  induction a with
  | nil => exact b
  | cons h1 h2 _ ih => exact .cons h1 h2 (ih b)
theorem Reads.snoc {s1 s2 : PSt} {L : List (Nat × List Str)} {n : Nat} {ws : List Str} (a : Reads s1 L s2) (h1 : RowOk n ws) (h2 : canP s2 n ws = true) : Reads s1 (L ++ [(n, ws)]) (stepP s2 n ws) := a.append (.cons h1 h2 .nil)
theorem Reads.ok {s1 s2 : PSt} {L : List (Nat × List Str)} (a : Reads s1 L s2) : ∀ p ∈ L, RowOk p.1 p.2 := by
  induction a with
  | nil => nofun
  | cons h1 _ _ ih =>
    intro p hp
    rcases List.mem_cons.mp hp with rfl | hp
    · exact h1
    · exact ih p hp
/-- what stands of the rows, their headers and the places -/
structure Lnk (R : List LR) (PH : List Hd) (s : PSt) : Prop where
  nm : names R = s.nm
  hs : PH.map (fun p : Hd => p.r.ws) = s.hs
  lk : lackB R PH = s.lk
  hn : ∀ (j : Nat) (p : Hd), PH[j]? = some p → p.r.n = j
  hr : ∀ p ∈ PH, p.r ∈ R
  up : ∀ r ∈ R, r.isS = true → ∃ p ∈ R, p.b = r.par ∧ p.n + 1 = r.n
  st : ∀ r ∈ R, r.isF = false → r.isS = false → ∃ x ∈ R, x.isS = true ∧ x.a = r.st ∧ x.n = r.n
  n8 : ∀ r ∈ R, r.n ≤ 8
theorem Lnk.nil : Lnk [] [] ⟨[], [], false⟩ := ⟨rfl, rfl, rfl, nofun, nofun, nofun, nofun, nofun⟩
theorem bare_eq {PH : List Hd} {hs : List (List Str)} (h : PH.map (fun p => p.r.ws) = hs) (n : Nat) : bareB PH n = bareP hs n := by
  unfold bareB bareP
  rw [← h, ← List.map_drop, List.any_map]
  rfl
theorem Lnk.can {R : List LR} {PH : List Hd} {s : PSt} (h : Lnk R PH s) (n : Nat) (ws : List Str) : canB R PH n ws = canP s n ws := by
  have e1 : s.hs.length = PH.length := by rw [← h.hs, List.length_map]
  have e2 : s.hs[n]? = (PH[n]?).map fun p => p.r.ws := by rw [← h.hs, List.getElem?_map]
  unfold canB canP
  rw [h.lk, h.nm, e1, bare_eq h.hs, bare_eq h.hs, e2]
  cases PH[n]? <;> rfl
theorem kids_new {q : RdP} {R : List LR} {r : LR} (nl : (LA q (R ++ [r])).Nodup) (up : ∀ y ∈ R, y.isS = true → ∃ p ∈ R, p.b = y.par) (hp : r.isS = true → ∃ p ∈ R, p.b = r.par) : kids (R ++ [r]) r.b = [] := by
  unfold kids
  rw [List.filter_eq_nil_iff]
  intro y hy h
  rw [Bool.and_eq_true, decide_eq_true_iff] at h
  have : ∃ p ∈ R, p.b = y.par := by
    rcases List.mem_append.mp hy with hy | hy
    · exact up y hy h.1
    · rw [List.mem_singleton.mp hy] at h ⊢
      exact hp h.1
  obtain ⟨p, hp, e⟩ := this
  rw [LA_snoc, List.nodup_append] at nl
  exact nl.2.2 p.b (List.mem_cons_of_mem _ (List.mem_flatMap.mpr ⟨p, hp, p.b_mem⟩)) r.b r.b_mem (e.trans h.2)
theorem nest8 {z : Str} {n : Nat} (h : nestB z n = true) : n ≤ 8 := by
  unfold nestB at h
  split at h
  · have := of_decide_eq_true h
    omega
  · rw [Bool.and_eq_true, decide_eq_true_iff, decide_eq_true_iff] at h
    have := h.2
    split at this <;> omega
theorem names_snoc (R : List LR) (r : LR) : names (R ++ [r]) = names R ++ (if r.isF = true then [w1 r.ws] else []) := by
  unfold names
  rw [List.filter_append, List.map_append, List.filter_cons]
  cases r.isF <;> rfl
theorem Lnk.step {q : RdP} {R : List LR} {PH PH' : List Hd} {s : PSt} {n k k' : Nat} {ws : List Str} {r : LR} (h : Lnk R PH s) (hs : Stp ws n PH k r PH' k') (hw : r.ws = ws) (nl : (LA q (R ++ [r])).Nodup) (hn : nestB (w0 ws) n = true) : Lnk (R ++ [r]) PH' (stepP s n ws) := by
  have mem : ∀ {x : LR}, x ∈ R ++ [r] → x ∈ R ∨ x = r := fun h => (List.mem_append.mp h).imp id List.mem_singleton.mp
  have inl : ∀ {x : LR}, x ∈ R → x ∈ R ++ [r] := fun h => List.mem_append.mpr (.inl h)
  have inr : r ∈ R ++ [r] := List.mem_append.mpr (.inr (List.mem_singleton.mpr rfl))
  have up0 : ∀ y ∈ R, y.isS = true → ∃ p ∈ R, p.b = y.par := fun y hy e => by
    obtain ⟨p, hp, e1, _⟩ := h.up y hy e
    exact ⟨p, hp, e1⟩
  have new : (r.isS = true → ∃ p ∈ R, p.b = r.par) → kids (R ++ [r]) r.b = [] := kids_new nl up0
  have lkn : ∀ (A : List Hd) (o od : Addr), kids (R ++ [r]) r.b = [] → lackB (R ++ [r]) (A ++ [⟨r, o, od⟩]) = true := fun A o od e => by
    unfold lackB
    rw [List.getLast?_append]
    show (kids (R ++ [r]) r.b).isEmpty = true
    rw [e]
    rfl
  have takeN : ∀ (m j : Nat) (p : Hd), (PH.take m)[j]? = some p → p.r.n = j := fun m j p e => by
    rw [List.getElem?_take] at e
    split at e
    · exact h.hn j p e
    · cases e
  cases hs with
  | @f o od n0 rn c1 =>
    have kF : r.isF = true := by unfold LR.isF; rw [hw]; exact decide_eq_true c1
    have kS := (r.kinds.1 kF).2.2
    have noS : ∀ {α : Prop}, r.isS = true → α := fun {α} e => by
      rw [kS] at e
      cases e
    unfold stepP
    rw [if_pos c1]
    refine ⟨?_, by simp [hw], ?_, fun j p e => ?_, fun p hp => ?_, fun x hx e => ?_, fun x hx e1 e2 => ?_, fun x hx => ?_⟩
    · rw [names_snoc, if_pos kF, h.nm, hw]
    · exact lkn [] o od (new noS)
    · match j, e with
      | 0, e =>
        cases e
        exact rn
    · rw [List.mem_singleton.mp hp]
      exact inr
    · rcases mem hx with hx | rfl
      · obtain ⟨p, hp, e1⟩ := h.up x hx e
        exact ⟨p, inl hp, e1⟩
      · exact noS e
    · rcases mem hx with hx | rfl
      · obtain ⟨p, hp, e1⟩ := h.st x hx e1 e2
        exact ⟨p, inl hp, e1⟩
      · rw [kF] at e1
        cases e1
    · rcases mem hx with hx | rfl
      · exact h.n8 x hx
      · omega
  | @l p o od rn c1 hp pF r1 r2 =>
    have pm : p ∈ PH := List.mem_of_getElem? hp
    have c2 : w0 ws ∈ follS := by
      rcases c1 with h | h
      · rw [h]; exact List.mem_cons_self ..
      · rw [h]; exact List.mem_cons_of_mem _ (List.mem_singleton.mpr rfl)
    have c3 : ¬ w0 ws = Str.ofString "function" := fun h => by
      rw [h] at c2
      exact absurd c2 (by decide +kernel)
    have kk : r.isF = false ∧ r.isS = false := by
      rcases c1 with h | h
      · have := r.kinds.2.1 (by unfold LR.isX; rw [hw]; exact decide_eq_true h)
        exact ⟨this.1, this.2.2⟩
      · have := r.kinds.2.2.1 (by unfold LR.isL; rw [hw]; exact decide_eq_true h)
        exact ⟨this.1, this.2.2⟩
    have noS : ∀ {α : Prop}, r.isS = true → α := fun {α} e => by
      rw [kk.2] at e
      cases e
    have pn := h.hn n p hp
    have ln : (PH.take n).length = n := by
      rw [List.length_take]
      have := (List.getElem?_eq_some_iff.mp hp).1
      omega
    unfold stepP
    rw [if_neg c3, if_pos c2]
    refine ⟨?_, ?_, lkn _ o od (new noS), fun j x e => ?_, fun x hx => ?_, fun x hx e => ?_, fun x hx e1 e2 => ?_, fun x hx => ?_⟩
    · rw [names_snoc, if_neg (by rw [kk.1]; decide), h.nm, List.append_nil]
    · rw [← h.hs, List.map_append, List.map_take, ← hw]
      rfl
    · rcases Nat.lt_or_ge j n with lt | ge
      · rw [List.getElem?_append_left (by omega)] at e
        exact takeN n j x e
      · rw [List.getElem?_append_right (by omega), ln] at e
        match hj : j - n, e with
        | 0, e =>
          cases e
          show r.n = j
          omega
    · rcases List.mem_append.mp hx with hx | hx
      · exact inl (h.hr x (List.mem_of_mem_take hx))
      · rw [List.mem_singleton.mp hx]
        exact inr
    · rcases mem hx with hx | rfl
      · obtain ⟨p, hp, e1⟩ := h.up x hx e
        exact ⟨p, inl hp, e1⟩
      · exact noS e
    · rcases mem hx with hx | rfl
      · obtain ⟨p, hp, e1⟩ := h.st x hx e1 e2
        exact ⟨p, inl hp, e1⟩
      · cases z : p.r.isS with
        | true => exact ⟨p.r, inl (h.hr p pm), z, (r1 z).symm, pn.trans rn.symm⟩
        | false =>
          obtain ⟨y, hy, y1, y2, y3⟩ := h.st p.r (h.hr p pm) pF z
          exact ⟨y, inl hy, y1, y2.trans (r2 z).symm, y3.trans (pn.trans rn.symm)⟩
    · rcases mem hx with hx | rfl
      · exact h.n8 x hx
      · have := nest8 hn
        omega
  | @s p o od m nm rn c1 c2 c3 hp rp rk =>
    have pm : p ∈ PH := List.mem_of_getElem? hp
    have c4 : ¬ w0 ws ∈ follS := fun h => by
      rcases List.mem_cons.mp h with h | h
      · exact c1 h
      · exact c2 (List.mem_singleton.mp h)
    have kS : r.isS = true := by
      unfold LR.isS LR.isF LR.isX LR.isL
      rw [hw, decide_eq_false c1, decide_eq_false c2, decide_eq_false c3]
      rfl
    have kF := (r.kinds.2.2.2 kS).1
    have pn := h.hn m p hp
    have lm : (PH.take (m + 1)).length = m + 1 := by
      rw [List.length_take]
      have := (List.getElem?_eq_some_iff.mp hp).1
      omega
    unfold stepP
    rw [if_neg c3, if_neg c4, nm]
    refine ⟨?_, ?_, ?_, fun j x e => ?_, fun x hx => ?_, fun x hx e => ?_, fun x hx e1 e2 => ?_, fun x hx => ?_⟩
    · rw [names_snoc, if_neg (by rw [kF]; decide), h.nm, List.append_nil]
    · rw [← h.hs, List.map_append, List.map_take, ← hw]
      by_cases z : w0 r.ws ∈ leadS
      · rw [if_pos z, if_pos z]
        rfl
      · rw [if_neg z, if_neg z]
        rfl
    · by_cases z : w0 ws ∈ leadS
      · rw [if_pos z, decide_eq_true z]
        exact lkn _ o od (new fun _ => ⟨p.r, h.hr p pm, rp.symm⟩)
      · rw [if_neg z, decide_eq_false z, List.append_nil]
        unfold lackB
        rw [List.take_add_one, hp, List.getLast?_append]
        show (kids (R ++ [r]) p.r.b).isEmpty = false
        rw [kids_snoc, kS, rp, decide_eq_true rfl]
        simp
    · rcases Nat.lt_or_ge j (m + 1) with lt | ge
      · rw [List.getElem?_append_left (by omega)] at e
        exact takeN (m + 1) j x e
      · rw [List.getElem?_append_right (by omega), lm] at e
        by_cases z : w0 ws ∈ leadS
        · rw [if_pos z] at e
          match hj : j - (m + 1), e with
          | 0, e =>
            cases e
            show r.n = j
            omega
        · rw [if_neg z] at e
          cases e
    · rcases List.mem_append.mp hx with hx | hx
      · exact inl (h.hr x (List.mem_of_mem_take hx))
      · by_cases z : w0 ws ∈ leadS
        · rw [if_pos z] at hx
          rw [List.mem_singleton.mp hx]
          exact inr
        · rw [if_neg z] at hx
          cases hx
    · rcases mem hx with hx | rfl
      · obtain ⟨p, hp, e1⟩ := h.up x hx e
        exact ⟨p, inl hp, e1⟩
      · exact ⟨p.r, inl (h.hr p pm), rp.symm, by rw [pn, rn, nm]⟩
    · rcases mem hx with hx | rfl
      · obtain ⟨p, hp, e1⟩ := h.st x hx e1 e2
        exact ⟨p, inl hp, e1⟩
      · rw [kS] at e2
        cases e2
    · rcases mem hx with hx | rfl
      · exact h.n8 x hx
      · have := nest8 hn
        omega
end IC
namespace IC
open PySem L2 TL PyProof.Rows
/-! ### what stands below a body -/
theorem len_le_of {α : Type} [DecidableEq α] : ∀ (l m : List α), l.Nodup → (∀ x ∈ l, x ∈ m) → l.length ≤ m.length
  | [], m, _, _ => Nat.zero_le _
  | x :: l, m, n, h => by
    have n := List.nodup_cons.mp n
    have hx := h x (List.mem_cons_self ..)
    have := len_le_of l (m.erase x) n.2 fun y hy => by
      refine (List.mem_erase_of_ne (fun e : y = x => n.1 (by rw [← e]; exact hy))).mpr (h y (List.mem_cons_of_mem _ hy))
    rw [List.length_erase_of_mem hx] at this
    have := List.length_pos_of_mem hx
    rw [List.length_cons]
    omega
def guaS : List Str := ["maybe", "repeat"]
def guardB (r : LR) : Bool := decide (w0 r.ws ∈ guaS)
def lasB (R : List LR) (a : Addr) : List Addr := match (las R a).getLast? with
  | some r => [r.b]
  | none => []
def inner (R : List LR) (s : LR) : List Addr := s.b :: ((exs R s.a).map LR.b ++ lasB R s.a)
def Sx (R : List LR) (g : LR → Bool) : Nat → Addr → List LR
  | 0, _ => []
  | d + 1, b => (kids R b).flatMap fun s => s :: (if g s = true then [] else (inner R s).flatMap (Sx R g d))
/-- the rows stand in a tree -/
structure Tre (R : List LR) : Prop where
  nb : (R.map LR.b).Nodup
  na : ((R.filter LR.isS).map LR.a).Nodup
  up : ∀ r ∈ R, r.isS = true → ∃ p ∈ R, p.b = r.par ∧ p.n + 1 = r.n
  st : ∀ r ∈ R, r.isF = false → r.isS = false → ∃ x ∈ R, x.isS = true ∧ x.a = r.st ∧ x.n = r.n
  n8 : ∀ r ∈ R, r.n ≤ 8
theorem nodup_ls0 {R : List LR} (nl : (R.flatMap LR.ls).Nodup) : (R.map LR.b).Nodup := by
  induction R with
  | nil => exact List.nodup_nil
  | cons r R ih =>
    rw [List.flatMap_cons, List.nodup_append] at nl
    rw [List.map_cons, List.nodup_cons]
    refine ⟨fun m => ?_, ih nl.2.1⟩
    obtain ⟨y, hy, e⟩ := List.mem_map.mp m
    exact nl.2.2 r.b r.b_mem r.b (List.mem_flatMap.mpr ⟨y, hy, e ▸ y.b_mem⟩) rfl
theorem nodup_ls {q : RdP} {R : List LR} (nl : (LA q R).Nodup) : (R.map LR.b).Nodup := nodup_ls0 (List.nodup_cons.mp nl).2
theorem Tre.of {c : LC} {H : Hp} {F : Addr → Prop} {q : RdP} {R : List LR} {PH : List Hd} {k : Nat} {xs : List V} {s : PSt} (G : RdG c H F q R PH k xs) (h : Lnk R PH s) : Tre R := ⟨nodup_ls G.nl, G.na, h.up, h.st, h.n8⟩
section
variable {R : List LR}
theorem eq_of_b (h : (R.map LR.b).Nodup) {x y : LR} (hx : x ∈ R) (hy : y ∈ R) (e : x.b = y.b) : x = y := by
  induction R with
  | nil => cases hx
  | cons z L ih =>
    rw [List.map_cons, List.nodup_cons] at h
    rcases List.mem_cons.mp hx with h1 | h1
    · rcases List.mem_cons.mp hy with h2 | h2
      · rw [h1, h2]
      · refine absurd ?_ h.1
        rw [← h1, e]
        exact List.mem_map_of_mem (f := LR.b) h2
    · rcases List.mem_cons.mp hy with h2 | h2
      · refine absurd ?_ h.1
        rw [← h2, ← e]
        exact List.mem_map_of_mem (f := LR.b) h1
      · exact ih h.2 h1 h2
theorem kids_mem {b : Addr} {s : LR} (h : s ∈ kids R b) : s ∈ R ∧ s.isS = true ∧ s.par = b := by
  obtain ⟨h1, h2⟩ := List.mem_filter.mp h
  rw [Bool.and_eq_true, decide_eq_true_iff] at h2
  exact ⟨h1, h2⟩
theorem exs_mem {a : Addr} {s : LR} (h : s ∈ exs R a) : s ∈ R ∧ s.isX = true ∧ s.st = a := by
  obtain ⟨h1, h2⟩ := List.mem_filter.mp h
  rw [Bool.and_eq_true, decide_eq_true_iff] at h2
  exact ⟨h1, h2⟩
theorem las_mem {a : Addr} {s : LR} (h : s ∈ las R a) : s ∈ R ∧ s.isL = true ∧ s.st = a := by
  obtain ⟨h1, h2⟩ := List.mem_filter.mp h
  rw [Bool.and_eq_true, decide_eq_true_iff] at h2
  exact ⟨h1, h2⟩
theorem lasB_mem {a b : Addr} (h : b ∈ lasB R a) : ∃ r ∈ las R a, r.b = b := by
  unfold lasB at h
  cases e : (las R a).getLast? with
  | none =>
    rw [e] at h
    cases h
  | some r =>
    rw [e] at h
    exact ⟨r, List.mem_of_getLast? e, (List.mem_singleton.mp h).symm⟩
/-- the row whose body it is -/
theorem inner_row (T : Tre R) {s : LR} (hs : s ∈ R) (sS : s.isS = true) {b : Addr} (h : b ∈ inner R s) : ∃ r ∈ R, r.b = b ∧ r.n = s.n ∧ (r = s ∨ r.isF = false ∧ r.isS = false ∧ r.st = s.a) := by
  have fol : ∀ r ∈ R, r.isF = false → r.isS = false → r.st = s.a → r.n = s.n := fun r hr k1 k2 e => by
    obtain ⟨x, hx, x1, x2, x3⟩ := T.st r hr k1 k2
    rw [← x3, eq_of_a T.na hx hs x1 sS (x2.trans e)]
  rcases List.mem_cons.mp h with rfl | h
  · exact ⟨s, hs, rfl, rfl, .inl rfl⟩
  · rcases List.mem_append.mp h with h | h
    · obtain ⟨r, hr, e⟩ := List.mem_map.mp h
      obtain ⟨r1, r2, r3⟩ := exs_mem hr
      have kk := r.kinds.2.1 r2
      exact ⟨r, r1, e, fol r r1 kk.1 kk.2.2 r3, .inr ⟨kk.1, kk.2.2, r3⟩⟩
    · obtain ⟨r, hr, e⟩ := lasB_mem h
      obtain ⟨r1, r2, r3⟩ := las_mem hr
      have kk := r.kinds.2.2.1 r2
      exact ⟨r, r1, e, fol r r1 kk.1 kk.2.2 r3, .inr ⟨kk.1, kk.2.2, r3⟩⟩
theorem inner_own (T : Tre R) {s t : LR} (hs : s ∈ R) (sS : s.isS = true) (ht : t ∈ R) (tS : t.isS = true) {b : Addr} (h : b ∈ inner R s) (h' : b ∈ inner R t) : s = t := by
  obtain ⟨r, hr, e, _, k⟩ := inner_row T hs sS h
  obtain ⟨r', hr', e', _, k'⟩ := inner_row T ht tS h'
  have er : r = r' := eq_of_b T.nb hr hr' (e.trans e'.symm)
  rw [← er] at k'
  rcases k with k | k
  · rcases k' with k' | k'
    · exact k.symm.trans k'
    · rw [k, sS] at k'
      cases k'.2.1
  · rcases k' with k' | k'
    · rw [k', tS] at k
      cases k.2.1
    · exact eq_of_a T.na hs ht sS tS (k.2.2.symm.trans k'.2.2)
theorem nodup_inner (T : Tre R) {s : LR} (hs : s ∈ R) (sS : s.isS = true) : (inner R s).Nodup := by
  have sub : ∀ {l : List LR}, List.Sublist l R → (l.map LR.b).Nodup := fun {l} h => (h.map LR.b).nodup T.nb
  unfold inner
  rw [List.nodup_cons, List.nodup_append]
  refine ⟨fun m => ?_, sub List.filter_sublist, ?_, fun y hy z hz e => ?_⟩
  · rcases List.mem_append.mp m with m | m
    · obtain ⟨r, hr, e⟩ := List.mem_map.mp m
      obtain ⟨r1, r2, r3⟩ := exs_mem hr
      have kk := r.kinds.2.1 r2
      rw [eq_of_b T.nb r1 hs e, sS] at kk
      cases kk.2.2
    · obtain ⟨r, hr, e⟩ := lasB_mem m
      obtain ⟨r1, r2, r3⟩ := las_mem hr
      have kk := r.kinds.2.2.1 r2
      rw [eq_of_b T.nb r1 hs e, sS] at kk
      cases kk.2.2
  · unfold lasB
    split <;> simp
  · obtain ⟨r, hr, e1⟩ := List.mem_map.mp hy
    obtain ⟨r', hr', e2⟩ := lasB_mem hz
    obtain ⟨r1, r2, r3⟩ := exs_mem hr
    obtain ⟨r4, r5, r6⟩ := las_mem hr'
    have := eq_of_b T.nb r1 r4 (e1.trans (e.trans e2.symm))
    have kk := r.kinds.2.1 r2
    rw [this, r5] at kk
    cases kk.2.1
/-- the body b' stands j bodies above b -/
inductive Abv (R : List LR) : Nat → Addr → Addr → Prop
  | here {b} : Abv R 0 b b
  | up {j b b' s} : s ∈ R → s.isS = true → b' ∈ inner R s → Abv R j b b' → Abv R (j + 1) b s.par
theorem Abv.one (T : Tre R) {j : Nat} {b x y : Addr} (h : Abv R j b x) (h' : Abv R j b y) : x = y := by
  induction h generalizing y with
  | here => cases h'; rfl
  | up a1 a2 a3 _ ih =>
    cases h' with
    | up c1 c2 c3 c4 =>
      rename_i s _ b2 s2
      have e := ih c4
      rw [← e] at c3
      rw [inner_own T a1 a2 c1 c2 a3 c3]
theorem Sx_mem (T : Tre R) (g : LR → Bool) : ∀ (d : Nat) {b : Addr} {p t : LR}, p ∈ R → p.b = b → t ∈ Sx R g d b → t ∈ R ∧ t.isS = true ∧ ∃ j, Abv R j t.par b ∧ j + p.n + 1 = t.n
  | 0, _, _, _, _, _, h => by cases h
  | d + 1, b, p, t, hp, eb, h => by
    obtain ⟨s, hs, h⟩ := List.mem_flatMap.mp h
    obtain ⟨s1, s2, s3⟩ := kids_mem hs
    have sn : p.n + 1 = s.n := by
      obtain ⟨p', hp', e1, e2⟩ := T.up s s1 s2
      rw [eq_of_b T.nb hp hp' (eb.trans (s3.symm.trans e1.symm)), e2]
    rcases List.mem_cons.mp h with rfl | h
    · exact ⟨s1, s2, 0, by rw [s3]; exact .here, by omega⟩
    · split at h
      · cases h
      · obtain ⟨b', hb', h⟩ := List.mem_flatMap.mp h
        obtain ⟨r, hr, e1, e2, _⟩ := inner_row T s1 s2 hb'
        obtain ⟨t1, t2, j, a, e⟩ := Sx_mem T g d hr e1 h
        refine ⟨t1, t2, j + 1, ?_, by omega⟩
        rw [← s3]
        exact .up s1 s2 hb' a
theorem Sx_nodup (T : Tre R) (g : LR → Bool) : ∀ (d : Nat) {b : Addr} {p : LR}, p ∈ R → p.b = b → (Sx R g d b).Nodup
  | 0, _, _, _, _ => List.nodup_nil
  | d + 1, b, p, hp, eb => by
    have lev : ∀ s ∈ kids R b, s ∈ R ∧ s.isS = true ∧ s.par = b := fun s hs => kids_mem hs
    have piece : ∀ s ∈ kids R b, ∀ t ∈ (if g s = true then [] else (inner R s).flatMap (Sx R g d)), ∃ b' ∈ inner R s, t ∈ Sx R g d b' := fun s hs t h => by
      split at h
      · cases h
      · obtain ⟨b', hb', h⟩ := List.mem_flatMap.mp h
        exact ⟨b', hb', h⟩
    have deep : ∀ s ∈ kids R b, ∀ b' ∈ inner R s, ∀ t ∈ Sx R g d b', t ∈ R ∧ ∃ j, Abv R j t.par b' ∧ j + s.n + 1 = t.n := fun s hs b' hb' t ht => by
      obtain ⟨r, hr, e1, e2, _⟩ := inner_row T (lev s hs).1 (lev s hs).2.1 hb'
      obtain ⟨t1, t2, j, a, e⟩ := Sx_mem T g d hr e1 ht
      exact ⟨t1, j, a, by omega⟩
    have sn : ∀ s ∈ kids R b, p.n + 1 = s.n := fun s hs => by
      obtain ⟨s1, s2, s3⟩ := lev s hs
      obtain ⟨p', hp', e1, e2⟩ := T.up s s1 s2
      rw [eq_of_b T.nb hp hp' (eb.trans (s3.symm.trans e1.symm)), e2]
    have nR : R.Nodup := by
      have := T.nb
      rw [List.Nodup, List.pairwise_map] at this
      exact this.imp fun h e => h (by rw [e])
    show List.Pairwise (· ≠ ·) ((kids R b).flatMap _)
    rw [List.pairwise_flatMap]
    refine ⟨fun s hs => ?_, ?_⟩
    · show (s :: _).Nodup
      rw [List.nodup_cons]
      refine ⟨fun m => ?_, ?_⟩
      · obtain ⟨b', hb', m⟩ := piece s hs s m
        obtain ⟨_, j, _, e⟩ := deep s hs b' hb' s m
        omega
      · split
        · exact List.nodup_nil
        · show List.Pairwise (· ≠ ·) ((inner R s).flatMap _)
          rw [List.pairwise_flatMap]
          refine ⟨fun b' hb' => ?_, ?_⟩
          · obtain ⟨r, hr, e1, _⟩ := inner_row T (lev s hs).1 (lev s hs).2.1 hb'
            exact Sx_nodup T g d hr e1
          · have ni := nodup_inner T (lev s hs).1 (lev s hs).2.1
            refine List.Pairwise.imp_of_mem (fun {b1 b2} h1 h2 ne x hx y hy e => ?_) ni
            obtain ⟨_, j, a, e1⟩ := deep s hs b1 h1 x hx
            obtain ⟨_, j', a', e2⟩ := deep s hs b2 h2 y hy
            rw [← e] at a' e2
            have : j = j' := by omega
            rw [← this] at a'
            exact ne (a.one T a')
    · have nk : (kids R b).Nodup := (List.filter_sublist).nodup nR
      refine List.Pairwise.imp_of_mem (fun {s1 s2} h1 h2 ne x hx y hy e => ?_) nk
      rw [← e] at hy
      have n1 := sn s1 h1
      have n2 := sn s2 h2
      rcases List.mem_cons.mp hx with hx | hx
      · rcases List.mem_cons.mp hy with hy | hy
        · exact ne (hx.symm.trans hy)
        · obtain ⟨b', hb', m⟩ := piece s2 h2 x hy
          obtain ⟨_, j, _, e⟩ := deep s2 h2 b' hb' x m
          rw [hx] at e
          omega
      · obtain ⟨b1, hb1, m1⟩ := piece s1 h1 x hx
        obtain ⟨_, j, a, e1⟩ := deep s1 h1 b1 hb1 x m1
        rcases List.mem_cons.mp hy with hy | hy
        · rw [hy] at e1
          omega
        · obtain ⟨b2, hb2, m2⟩ := piece s2 h2 x hy
          obtain ⟨_, j', a', e2⟩ := deep s2 h2 b2 hb2 x m2
          have : j = j' := by omega
          rw [← this] at a'
          have eb := a.one T a'
          rw [← eb] at hb2
          exact ne (inner_own T (lev s1 h1).1 (lev s1 h1).2.1 (lev s2 h2).1 (lev s2 h2).2.1 hb1 hb2)
theorem Sx_len (T : Tre R) (g : LR → Bool) (d : Nat) {b : Addr} {p : LR} (hp : p ∈ R) (eb : p.b = b) (f : LR → Bool) : ((Sx R g d b).filter f).length ≤ (R.filter fun r => r.isS && f r).length := by
  have : ∀ (α : Type) (l m : List α), l.Nodup → (∀ x ∈ l, x ∈ m) → l.length ≤ m.length := fun α l m n h => by
    classical
    exact len_le_of l m n h
  refine this _ _ _ ((List.filter_sublist).nodup (Sx_nodup T g d hp eb)) fun x hx => ?_
  obtain ⟨x1, x2⟩ := List.mem_filter.mp hx
  obtain ⟨y1, y2, _⟩ := Sx_mem T g d hp eb x1
  exact List.mem_filter.mpr ⟨y1, by rw [y2, x2]; rfl⟩
end
end IC
namespace IC
open PySem L2 TL PyProof.Rows
section
variable {P : Program} {w : World} {K : PySem.W.Frag} {mg : Str → Option Value} {base : Heap} {c : LC} {tG : Addr}
/-- a library that has been read -/
structure Lib (c : LC) (H : Hp) (R : List LR) : Prop where
  w : ∀ r ∈ R, H r.wl = some (.lst (r.ws.map V.str))
  b : ∀ r ∈ R, H r.b = some (.lst ((kids R r.b).map fun s => .ref s.a))
  s : ∀ r ∈ R, r.isS = true → H r.a = some (.ins c.S r.dx (stf r (lastV R r.a))) ∧ H r.kt = some (.tup ((r.ws.drop 3).map V.str)) ∧ H r.h = some (.lst ((exs R r.a).map fun s => .ref s.ht))
  x : ∀ r ∈ R, r.isX = true → H r.ht = some (.tup [.ref r.hw, .ref r.b]) ∧ H r.hw = some (.tup ((r.ws.drop 1).map V.str))
  ne : ∀ r ∈ R, r.ws ≠ [] ∧ (∀ z ∈ r.ws, IsW z) ∧ r.ws.length ≤ 20
  t : Tre R
  few : R.length ≤ 500
theorem Lib.move {H H' : Hp} {R : List LR} (L : Lib c H R) (h : ∀ y u, H y = some u → (∀ kvs, u ≠ .dK kvs) → H' y = some u) : Lib c H' R :=
  { L with
    w := fun r hr => h _ _ (L.w r hr) nofun
    b := fun r hr => h _ _ (L.b r hr) nofun
    s := fun r hr e => ⟨h _ _ (L.s r hr e).1 nofun, h _ _ (L.s r hr e).2.1 nofun, h _ _ (L.s r hr e).2.2 nofun⟩
    x := fun r hr e => ⟨h _ _ (L.x r hr e).1 nofun, h _ _ (L.x r hr e).2 nofun⟩ }
theorem Lib.same {H H' : Hp} {R : List LR} (L : Lib c H R) (s : Same H H') : Lib c H' R := L.move fun y u e _ => s y u e
theorem Lib.of {H : Hp} {F : Addr → Prop} {q : RdP} {R : List LR} {PH : List Hd} {k : Nat} {xs : List V} (G : RdG c H F q R PH k xs) (t : Tre R) (few : R.length ≤ 500) : Lib c H R := ⟨G.w, G.b, G.s, G.x, G.ne, t, few⟩
theorem fm_prefix {α β : Type} {L : List α} {f : α → List β} {i : Nat} {x : α} (h : L[i]? = some x) : ∃ r, L.flatMap f = (L.take i).flatMap f ++ (f x ++ r) := by
  refine ⟨(L.drop (i + 1)).flatMap f, ?_⟩
  have lt := (List.getElem?_eq_some_iff.mp h).1
  have ex : L[i] = x := (List.getElem?_eq_some_iff.mp h).2
  have e : L = L.take i ++ x :: L.drop (i + 1) := by rw [← ex, ← List.drop_eq_getElem_cons lt, List.take_append_drop]
  exact (congrArg (List.flatMap f) e).trans (by rw [List.flatMap_append, List.flatMap_cons])
def spInner (c : LC) : Sp := fun vs H Q _ => ∃ (R : List LR) (s : LR), vs = [.ref s.a] ∧ Lib c H R ∧ s ∈ R ∧ s.isS = true ∧ ∀ (H' : Hp) (l : Addr), Same H H' → H l = none → H' l = some (.lst ((inner R s).map V.ref)) → Q (.ref l) H'
theorem ok_inner {f : Addr} {fd : FuncData} (F : Fun K "inner_bodies" "Statement.inner_bodies" s_Statement_inner_bodies f fd) (B : CTx K mg c) : FnOk P w K mg base CX0 1 f fd ["self"] (spInner c) := by
  refine F.ok sc_Statement_inner_bodies (fun vs H Q E h => ?_) (fun cdv A outer s H vs Q E hr h => ?_)
  · obtain ⟨R, s, rfl, _⟩ := h
    rfl
  · obtain ⟨R, x, rfl, L, hx, xS, kk⟩ := h
    refine ⟨_, (pss_cons (ps_set (i := 1) sc_Statement_inner_bodies.nd rfl (Or.inl rfl) (pe_lst (pa_cons (pe_fld (pv 0) rfl) pa_nil)))
  (Evl.pss_cut (ps_for PassesOwn.never rfl (pi_list (pe_fld (pv 0) rfl)) (pg_tup rfl (pgs_cons (pg_name (i := 2) sc_Statement_inner_bodies.nd rfl (Or.inl rfl)) (pgs_cons (pg_name (i := 3) sc_Statement_inner_bodies.nd rfl (Or.inl rfl)) pgs_nil)))
  (pss_one (ps_expr (pe_bm PySem.F.plainAttrs_list PySem.F.slot_list_append PySem.F.type_list_append mt_append (pv 1) (pa_cons (pv 3) pa_nil)))))
  (pss_cons (ps_if (pt_cmpR op_notN (pe_fld (pv 0) rfl) pe_non (nomark _))
  (pss_one (ps_expr (pe_bm PySem.F.plainAttrs_list PySem.F.slot_list_append PySem.F.type_list_append mt_append (pv 1) (pa_cons (pe_fld (pv 0) rfl) pa_nil))))
  pss_nil)
  (pss_one (ps_ret (pv 1)))))), ?_⟩
    have G := L
    have gx := G.s x hx xS
    have fewx : (exs R x.a).length ≤ 500 := by
      have := List.length_filter_le (fun r => r.isX && decide (r.st = x.a)) R
      have := L.few
      unfold exs
      omega
    refine ⟨_, rfl, x.a, c.S, x.dx, _, _, rfl, gx.1, B.cS, B.sb, rfl, (by show 1 ≤ sizeLine; decide), fun l nl => ?_⟩
    have s1 := Same.new (o := .lst [.ref x.b]) nl
    refine ⟨fun σ' H' => (∃ z1 z2, σ' = [some (.ref x.a), some (.ref l), z1, z2]) ∧ Same H H' ∧ H' l = some (.lst ((x.b :: (exs R x.a).map LR.b).map V.ref)), ?_, ?_⟩
    · refine ⟨_, rfl, x.a, c.S, x.dx, _, _, rfl, s1 _ _ gx.1, B.cS, B.sh, rfl, x.h, rfl, ⟨_, SqL.of (s1 _ _ gx.2.2)⟩, ?_⟩
      refine for_list (K := K) (a := x.h) (xs := (exs R x.a).map fun s => .ref s.ht) (fun i σ' H' => (∃ z1 z2, σ' = [some (.ref x.a), some (.ref l), z1, z2]) ∧ Same H H' ∧ H' l = some (.lst ((x.b :: ((exs R x.a).take i).map LR.b).map V.ref))) ⟨⟨_, _, rfl⟩, s1, upd_same⟩ (fun i σ' H' _ h => SqL.of (h.2.1 _ _ gx.2.2)) (fun i y σ' H' hi h => ?_) (fun σ' H' h => ?_)
      · obtain ⟨⟨z1, z2, rfl⟩, s2, hl2⟩ := h
        rw [List.getElem?_map] at hi
        cases ez : (exs R x.a)[i]? with
        | none =>
          rw [ez] at hi
          cases hi
        | some r =>
          rw [ez] at hi
          cases hi
          obtain ⟨r1, r2, r3⟩ := exs_mem (List.mem_of_getElem? ez)
          have gr := G.x r r1 r2
          refine ⟨r.ht, _, rfl, SqT.of (s2 _ _ gr.1), rfl, _, _, rfl, _, _, rfl, rfl, ?_⟩
          refine ⟨_, rfl, .inl ⟨rfl, _, SqL.of hl2⟩, _, rfl, l, _, _, rfl, rfl, hl2, small1000 (by simp; omega), ⟨_, _, rfl⟩, fun y u e => ?_, ?_⟩
          · rw [upd_ne (ne_of_none e nl)]
            exact s2 _ _ e
          · rw [upd_same, List.take_add_one, ez]
            simp
      · rw [List.length_map, List.take_length] at h
        exact h
    · rintro σ' H2 ⟨⟨z1, z2, rfl⟩, s2, hl2⟩
      have a2 := s2 _ _ gx.1
      refine ⟨_, rfl, x.a, c.S, x.dx, _, _, rfl, a2, B.cS, B.sl, rfl, ?_⟩
      unfold lastV
      have ki : inner R x = (x.b :: (exs R x.a).map LR.b) ++ lasB R x.a := rfl
      have kl := kk
      rw [ki] at kl
      unfold lasB at kl
      cases e : (las R x.a).getLast? with
      | none =>
        rw [e] at kl
        refine ⟨rfl, _, rfl, iteF ⟨_, rfl, kl H2 l s2 nl (by rw [hl2, List.append_nil])⟩⟩
      | some r =>
        rw [e] at kl
        refine ⟨rfl, _, rfl, iteT ⟨_, rfl, .inl ⟨rfl, _, SqL.of hl2⟩, _, rfl, x.a, c.S, x.dx, _, _, rfl, a2, B.cS, B.sl, rfl, ?_⟩⟩
        unfold lastV
        rw [e]
        refine ⟨l, _, _, rfl, rfl, hl2, small1000 (by simp; omega), _, rfl, kl _ l (fun y u e => ?_) nl ?_⟩
        · rw [upd_ne (ne_of_none e nl)]
          exact s2 _ _ e
        · rw [upd_same, List.map_append]
          rfl
def spUng (c : LC) (d : Nat) : Sp := fun vs H Q _ => ∃ (R : List LR) (p : LR), vs = [.ref p.b] ∧ Lib c H R ∧ p ∈ R ∧ 9 ≤ p.n + d ∧ ∀ (H' : Hp) (l : Addr), Same H H' → H l = none → H' l = some (.lst ((Sx R guardB d p.b).map fun s => .ref s.a)) → Q (.ref l) H'
theorem ok_ung {f : Addr} {fd : FuncData} (F : Fun K "unguarded" "unguarded" s_unguarded f fd) (B : CTx K mg c) (T : Bn mg) (gG : TupG K mg "GUARDING" tG guaS) (M_inner : MDf P w K mg base CX0 1 c.S "inner_bodies" ["self"] [] (spInner c)) (d : Nat) (D_unguarded : Df P w K mg base (1 + d) "unguarded" ["body"] (spUng c d)) :
    FnOk P w K mg base CX0 (2 + d) f fd ["body"] (spUng c (d + 1)) := by
  have lv : 2 + d = 1 + d + 1 := by omega
  rw [lv]
  refine F.ok sc_unguarded (fun vs H Q E h => ?_) (fun cdv A outer s H vs Q E hr h => ?_)
  · obtain ⟨R, s, rfl, _⟩ := h
    rfl
  · obtain ⟨R, p, rfl, L, hp, hd, kk⟩ := h
    refine ⟨_, (pss_cons (ps_set (i := 1) sc_unguarded.nd rfl (Or.inl rfl) (pe_lst pa_nil))
  (pss_cons (ps_for PassesOwn.never rfl (pi_list (pv 0)) (pg_name (i := 2) sc_unguarded.nd rfl (Or.inl rfl))
  (pss_cons (ps_expr (pe_bm PySem.F.plainAttrs_list PySem.F.slot_list_append PySem.F.type_list_append mt_append (pv 1) (pa_cons (pv 2) pa_nil)))
  (pss_one (ps_if (pt_cmpR op_notIn_seq (pe_fld (pv 2) rfl) (pe_glob (v := .ref _) rfl gG.m rfl) (by rfl))
  (pss_one (ps_for PassesOwn.never rfl (pi_list (pe_md0 M_inner B.cS hr (by first | decide | omega) (pv 2))) (pg_name (i := 3) sc_unguarded.nd rfl (Or.inl rfl))
  (pss_one (ps_expr (pe_bm PySem.F.plainAttrs_list PySem.F.slot_list_extend PySem.F.type_list_extend mt_extend (pv 1) (pa_cons (pe_df D_unguarded hr (by first | decide | omega) rfl (pa_cons (pv 3) pa_nil)) pa_nil))))))
  pss_nil))))
  (pss_one (ps_ret (pv 1))))), ?_⟩
    have G := L
    have gb := G.b p hp
    have tot : Sx R guardB (d + 1) p.b = (kids R p.b).flatMap fun s => s :: (if guardB s = true then [] else (inner R s).flatMap (Sx R guardB d)) := rfl
    have lenT : (Sx R guardB (d + 1) p.b).length ≤ 500 := by
      have := Sx_len L.t guardB (d + 1) hp rfl (fun _ => true)
      rw [List.filter_eq_self.mpr (by simp)] at this
      have := List.length_filter_le (fun r => r.isS && true) R
      have := L.few
      omega
    refine ⟨(by show 0 ≤ sizeLine; decide), fun l nl => ?_⟩
    have s1 := Same.new (o := .lst []) nl
    refine ⟨_, rfl, p.b, rfl, ⟨_, SqL.of (s1 _ _ gb)⟩, ?_⟩
    refine for_list (K := K) (a := p.b) (xs := (kids R p.b).map fun s => .ref s.a) (fun i σ' H' => (∃ z1 z2, σ' = [some (.ref p.b), some (.ref l), z1, z2]) ∧ Same H H' ∧ H' l = some (.lst ((((kids R p.b).take i).flatMap fun s => s :: (if guardB s = true then [] else (inner R s).flatMap (Sx R guardB d))).map fun s => V.ref s.a))) ⟨⟨_, _, rfl⟩, s1, upd_same⟩ (fun i σ' H' _ h => SqL.of (h.2.1 _ _ gb)) (fun i y σ' H' hi h => ?_) (fun σ' H' h => ?_)
    · obtain ⟨⟨z1, z2, rfl⟩, s2, hl2⟩ := h
      rw [List.getElem?_map] at hi
      cases ez : (kids R p.b)[i]? with
      | none =>
        rw [ez] at hi
        cases hi
      | some x =>
        rw [ez] at hi
        cases hi
        obtain ⟨x1, x2, x3⟩ := kids_mem (List.mem_of_getElem? ez)
        have gx := G.s x x1 x2
        obtain ⟨rest, er⟩ := fm_prefix (f := fun s => s :: (if guardB s = true then [] else (inner R s).flatMap (Sx R guardB d))) ez
        rw [tot, er] at lenT
        simp only [List.length_append, List.length_cons] at lenT
        generalize eA : ((kids R p.b).take i).flatMap (fun s => s :: (if guardB s = true then [] else (inner R s).flatMap (Sx R guardB d))) = A at hl2 lenT
        have nxt : ((kids R p.b).take (i + 1)).flatMap (fun s => s :: (if guardB s = true then [] else (inner R s).flatMap (Sx R guardB d))) = A ++ x :: (if guardB x = true then [] else (inner R x).flatMap (Sx R guardB d)) := by
          rw [List.take_add_one, ez, List.flatMap_append, eA]
          simp
        rw [nxt]
        have nla : ∀ {y : Addr} {u : HO}, H y = some u → y ≠ l := fun {y u} e => ne_of_none e nl
        refine ⟨_, rfl, .inl ⟨rfl, _, SqL.of hl2⟩, _, rfl, l, _, _, rfl, rfl, hl2, small1000 (by rw [List.length_map]; omega), ?_⟩
        have s3 : Same H (upd H' l (.lst (A.map (fun s => V.ref s.a) ++ [.ref x.a]))) := fun y u e => by
          rw [upd_ne (nla e)]
          exact s2 _ _ e
        have hl3 : upd H' l (.lst (A.map (fun s => V.ref s.a) ++ [.ref x.a])) l = some (.lst ((A ++ [x]).map fun s => V.ref s.a)) := by
          rw [upd_same, List.map_append]
          rfl
        generalize upd H' l (.lst (A.map (fun s => V.ref s.a) ++ [.ref x.a])) = H3 at s3 hl3 ⊢
        refine ⟨_, rfl, x.a, c.S, x.dx, _, _, rfl, s3 _ _ gx.1, B.cS, B.sk, rfl, tG, guaS.map V.str, rfl, .inr (gG.seq _), rfl, flatS _, ?_⟩
        rw [ninq]
        show ∃ k, V.bl (!guardB x) = V.bl k ∧ _
        cases eg : guardB x with
        | true => exact ⟨_, rfl, iteF ⟨⟨_, _, rfl⟩, s3, hl3⟩⟩
        | false =>
          rw [eg] at lenT
          simp only [Bool.false_eq_true, if_false] at lenT ⊢
          refine ⟨_, rfl, iteT ?_⟩
          refine ⟨_, rfl, x.a, x.dx, _, rfl, s3 _ _ gx.1, rfl, R, x, rfl, L.same s3, x1, x2, fun H4 li s4 nli hli => ⟨li, rfl, ⟨_, SqL.of hli⟩, ?_⟩⟩
          have lne : li ≠ l := (ne_of_none hl3 nli).symm
          refine for_list (K := K) (a := li) (xs := (inner R x).map V.ref) (fun j σ' H' => (∃ z2, σ' = [some (.ref p.b), some (.ref l), some (.ref x.a), z2]) ∧ Same H H' ∧ H' l = some (.lst ((A ++ x :: ((inner R x).take j).flatMap (Sx R guardB d)).map fun s => V.ref s.a)) ∧ H' li = some (.lst ((inner R x).map V.ref))) ⟨⟨_, rfl⟩, s3.trans s4, s4 _ _ hl3, hli⟩ (fun i σ' H' _ h => SqL.of h.2.2.2) (fun j y σ' H' hj h => ?_) (fun σ' H' h => ?_)
          · obtain ⟨⟨z2, rfl⟩, s5, hl5, hli5⟩ := h
            rw [List.getElem?_map] at hj
            cases ew : (inner R x)[j]? with
            | none =>
              rw [ew] at hj
              cases hj
            | some b' =>
              rw [ew] at hj
              cases hj
              obtain ⟨r, hr', er1, er2, _⟩ := inner_row L.t x1 x2 (List.mem_of_getElem? ew)
              obtain ⟨rest2, er3⟩ := fm_prefix (f := Sx R guardB d) ew
              rw [er3] at lenT
              simp only [List.length_append] at lenT
              have xn : p.n + 1 = x.n := by
                obtain ⟨p', hp', e1, e2⟩ := L.t.up x x1 x2
                rw [eq_of_b L.t.nb hp hp' (x3.symm.trans e1.symm), e2]
              refine ⟨_, rfl, .inl ⟨rfl, _, SqL.of hl5⟩, _, rfl, R, r, by rw [er1]; rfl, L.same s5, hr', by omega, fun H6 lr s6 nlr hlr => ?_⟩
              rw [er1] at hlr
              refine ⟨l, lr, _, _, rfl, rfl, s6 _ _ hl5, hlr, ?_, ⟨_, rfl⟩, ?_, ?_, ?_⟩
              · rw [List.length_map, List.length_map, List.length_append, List.length_cons]
                exact Nat.le_of_lt (small1000 (by omega))
              · intro y u e
                rw [upd_ne (nla e)]
                exact s6 _ _ (s5 _ _ e)
              · rw [upd_same, List.take_add_one, ew, ← List.map_append, List.append_assoc, List.cons_append, List.flatMap_append]
                simp
              · rw [upd_ne lne]
                exact s6 _ _ hli5
          · rw [List.length_map, List.take_length] at h
            exact ⟨⟨_, _, h.1.choose_spec⟩, h.2.1, h.2.2.1⟩
    · obtain ⟨⟨z1, z2, rfl⟩, s2, hl2⟩ := h
      rw [List.length_map, List.take_length] at hl2
      exact ⟨_, rfl, kk H' l s2 nl hl2⟩
end
end IC
namespace IC
open PySem L2 TL PyProof.Rows
def Gx (R : List LR) (d : Nat) (b : Addr) : List Addr := ((Sx R (fun _ => false) d b).filter guardB).map LR.b
theorem Gx_succ (R : List LR) (d : Nat) (b : Addr) : Gx R (d + 1) b = (kids R b).flatMap fun s => (if guardB s = true then [s.b] else []) ++ (inner R s).flatMap (Gx R d) := by
  show (((kids R b).flatMap _).filter guardB).map LR.b = _
  rw [List.filter_flatMap, List.map_flatMap]
  refine congrArg (fun f => (kids R b).flatMap f) (funext fun s => ?_)
  show ((s :: (if false = true then [] else (inner R s).flatMap (Sx R (fun _ => false) d))).filter guardB).map LR.b = _
  rw [if_neg (by decide), List.filter_cons]
  have e : (((inner R s).flatMap (Sx R (fun _ => false) d)).filter guardB).map LR.b = (inner R s).flatMap (Gx R d) := by
    rw [List.filter_flatMap, List.map_flatMap]
    rfl
  cases guardB s
  · simpa using e
  · simpa using e
section
variable {P : Program} {w : World} {K : PySem.W.Frag} {mg : Str → Option Value} {base : Heap} {c : LC} {tG : Addr}
def spGua (c : LC) (d : Nat) : Sp := fun vs H Q _ => ∃ (R : List LR) (p : LR), vs = [.ref p.b] ∧ Lib c H R ∧ p ∈ R ∧ 9 ≤ p.n + d ∧ ∀ (H' : Hp) (l : Addr), Same H H' → H l = none → H' l = some (.lst ((Gx R d p.b).map V.ref)) → Q (.ref l) H'
theorem ok_gua {f : Addr} {fd : FuncData} (F : Fun K "guarded_bodies" "guarded_bodies" s_guarded_bodies f fd) (B : CTx K mg c) (T : Bn mg) (gG : TupG K mg "GUARDING" tG guaS) (M_inner : MDf P w K mg base CX0 1 c.S "inner_bodies" ["self"] [] (spInner c)) (d : Nat) (D_guarded_bodies : Df P w K mg base (1 + d) "guarded_bodies" ["body"] (spGua c d)) :
    FnOk P w K mg base CX0 (2 + d) f fd ["body"] (spGua c (d + 1)) := by
  have lv : 2 + d = 1 + d + 1 := by omega
  rw [lv]
  refine F.ok sc_guarded_bodies (fun vs H Q E h => ?_) (fun cdv A outer s H vs Q E hr h => ?_)
  · obtain ⟨R, s, rfl, _⟩ := h
    rfl
  · obtain ⟨R, p, rfl, L, hp, hd, kk⟩ := h
    refine ⟨_, (pss_cons (ps_set (i := 1) sc_guarded_bodies.nd rfl (Or.inl rfl) (pe_lst pa_nil))
  (pss_cons (ps_for PassesOwn.never rfl (pi_list (pv 0)) (pg_name (i := 2) sc_guarded_bodies.nd rfl (Or.inl rfl))
  (Evl.pss_cut (ps_if (pt_cmpR op_in_seq (pe_fld (pv 2) rfl) (pe_glob (v := .ref _) rfl gG.m rfl) (by rfl))
  (pss_one (ps_expr (pe_bm PySem.F.plainAttrs_list PySem.F.slot_list_append PySem.F.type_list_append mt_append (pv 1) (pa_cons (pe_fld (pv 2) rfl) pa_nil))))
  pss_nil)
  (pss_one (ps_for PassesOwn.never rfl (pi_list (pe_md0 M_inner B.cS hr (by first | decide | omega) (pv 2))) (pg_name (i := 3) sc_guarded_bodies.nd rfl (Or.inl rfl))
  (pss_one (ps_expr (pe_bm PySem.F.plainAttrs_list PySem.F.slot_list_extend PySem.F.type_list_extend mt_extend (pv 1) (pa_cons (pe_df D_guarded_bodies hr (by first | decide | omega) rfl (pa_cons (pv 3) pa_nil)) pa_nil))))))))
  (pss_one (ps_ret (pv 1))))), ?_⟩
    have G := L
    have gb := G.b p hp
    have tot := Gx_succ R d p.b
    have lenT : (Gx R (d + 1) p.b).length ≤ 500 := by
      unfold Gx
      rw [List.length_map]
      have := Sx_len L.t (fun _ => false) (d + 1) hp rfl guardB
      have := List.length_filter_le (fun r => r.isS && guardB r) R
      have := L.few
      omega
    refine ⟨(by show 0 ≤ sizeLine; decide), fun l nl => ?_⟩
    have s1 := Same.new (o := .lst []) nl
    refine ⟨_, rfl, p.b, rfl, ⟨_, SqL.of (s1 _ _ gb)⟩, ?_⟩
    refine for_list (K := K) (a := p.b) (xs := (kids R p.b).map fun s => .ref s.a) (fun i σ' H' => (∃ z1 z2, σ' = [some (.ref p.b), some (.ref l), z1, z2]) ∧ Same H H' ∧ H' l = some (.lst ((((kids R p.b).take i).flatMap fun s => (if guardB s = true then [s.b] else []) ++ (inner R s).flatMap (Gx R d)).map V.ref))) ⟨⟨_, _, rfl⟩, s1, upd_same⟩ (fun i σ' H' _ h => SqL.of (h.2.1 _ _ gb)) (fun i y σ' H' hi h => ?_) (fun σ' H' h => ?_)
    · obtain ⟨⟨z1, z2, rfl⟩, s2, hl2⟩ := h
      rw [List.getElem?_map] at hi
      cases ez : (kids R p.b)[i]? with
      | none =>
        rw [ez] at hi
        cases hi
      | some x =>
        rw [ez] at hi
        cases hi
        obtain ⟨x1, x2, x3⟩ := kids_mem (List.mem_of_getElem? ez)
        have gx := G.s x x1 x2
        obtain ⟨rest, er⟩ := fm_prefix (f := fun s => (if guardB s = true then [s.b] else []) ++ (inner R s).flatMap (Gx R d)) ez
        rw [tot, er] at lenT
        simp only [List.length_append] at lenT
        generalize eA : ((kids R p.b).take i).flatMap (fun s => (if guardB s = true then [s.b] else []) ++ (inner R s).flatMap (Gx R d)) = A at hl2 lenT
        have nxt : ((kids R p.b).take (i + 1)).flatMap (fun s => (if guardB s = true then [s.b] else []) ++ (inner R s).flatMap (Gx R d)) = (A ++ (if guardB x = true then [x.b] else [])) ++ (inner R x).flatMap (Gx R d) := by
          rw [List.take_add_one, ez, List.flatMap_append, eA]
          simp
        rw [nxt]
        have nla : ∀ {y : Addr} {u : HO}, H y = some u → y ≠ l := fun {y u} e => ne_of_none e nl
        refine ⟨fun σ' H3 => σ' = [some (.ref p.b), some (.ref l), some (.ref x.a), z2] ∧ Same H H3 ∧ H3 l = some (.lst ((A ++ (if guardB x = true then [x.b] else [])).map V.ref)), ?_, ?_⟩
        · refine ⟨_, rfl, x.a, c.S, x.dx, _, _, rfl, s2 _ _ gx.1, B.cS, B.sk, rfl, tG, guaS.map V.str, rfl, .inr (gG.seq _), rfl, flatS _, ?_⟩
          rw [inq]
          show ∃ k, V.bl (guardB x) = V.bl k ∧ _
          cases eg : guardB x with
          | false => exact ⟨_, rfl, iteF ⟨rfl, s2, by rw [if_neg (by decide), List.append_nil]; exact hl2⟩⟩
          | true =>
            rw [eg] at lenT
            simp only [if_true, List.length_cons, List.length_nil] at lenT
            refine ⟨_, rfl, iteT ⟨_, rfl, .inl ⟨rfl, _, SqL.of hl2⟩, _, rfl, x.a, c.S, x.dx, _, _, rfl, s2 _ _ gx.1, B.cS, B.sb, rfl, l, _, _, rfl, rfl, hl2, small1000 (by rw [List.length_map]; omega), rfl, fun y u e => ?_, ?_⟩⟩
            · rw [upd_ne (nla e)]
              exact s2 _ _ e
            · rw [upd_same, if_pos rfl, List.map_append]
              rfl
        · rintro σ' H3 ⟨rfl, s3, hl3⟩
          have lenU : (A ++ (if guardB x = true then [x.b] else [])).length + ((inner R x).flatMap (Gx R d)).length ≤ 500 := by
            rw [List.length_append]
            omega
          generalize A ++ (if guardB x = true then [x.b] else []) = A2 at hl3 lenU
          refine ⟨_, rfl, x.a, x.dx, _, rfl, s3 _ _ gx.1, rfl, R, x, rfl, L.same s3, x1, x2, fun H4 li s4 nli hli => ⟨li, rfl, ⟨_, SqL.of hli⟩, ?_⟩⟩
          have lne : li ≠ l := (ne_of_none hl3 nli).symm
          refine for_list (K := K) (a := li) (xs := (inner R x).map V.ref) (fun j σ' H' => (∃ z2, σ' = [some (.ref p.b), some (.ref l), some (.ref x.a), z2]) ∧ Same H H' ∧ H' l = some (.lst ((A2 ++ ((inner R x).take j).flatMap (Gx R d)).map V.ref)) ∧ H' li = some (.lst ((inner R x).map V.ref))) ⟨⟨_, rfl⟩, s3.trans s4, by rw [List.take_zero, List.flatMap_nil, List.append_nil]; exact s4 _ _ hl3, hli⟩ (fun i σ' H' _ h => SqL.of h.2.2.2) (fun j y σ' H' hj h => ?_) (fun σ' H' h => ?_)
          · obtain ⟨⟨z2, rfl⟩, s5, hl5, hli5⟩ := h
            rw [List.getElem?_map] at hj
            cases ew : (inner R x)[j]? with
            | none =>
              rw [ew] at hj
              cases hj
            | some b' =>
              rw [ew] at hj
              cases hj
              obtain ⟨r, hr', er1, er2, _⟩ := inner_row L.t x1 x2 (List.mem_of_getElem? ew)
              obtain ⟨rest2, er3⟩ := fm_prefix (f := Gx R d) ew
              rw [er3] at lenU
              simp only [List.length_append] at lenU
              have xn : p.n + 1 = x.n := by
                obtain ⟨p', hp', e1, e2⟩ := L.t.up x x1 x2
                rw [eq_of_b L.t.nb hp hp' (x3.symm.trans e1.symm), e2]
              refine ⟨_, rfl, .inl ⟨rfl, _, SqL.of hl5⟩, _, rfl, R, r, by rw [er1]; rfl, L.same s5, hr', by omega, fun H6 lr s6 nlr hlr => ?_⟩
              rw [er1] at hlr
              refine ⟨l, lr, _, _, rfl, rfl, s6 _ _ hl5, hlr, ?_, ⟨_, rfl⟩, ?_, ?_, ?_⟩
              · rw [List.length_map, List.length_map, List.length_append]
                exact Nat.le_of_lt (small1000 (by omega))
              · intro y u e
                rw [upd_ne (nla e)]
                exact s6 _ _ (s5 _ _ e)
              · rw [upd_same, List.take_add_one, ew, ← List.map_append, List.append_assoc, List.flatMap_append]
                simp
              · rw [upd_ne lne]
                exact s6 _ _ hli5
          · rw [List.length_map, List.take_length] at h
            exact ⟨⟨_, _, h.1.choose_spec⟩, h.2.1, h.2.2.1⟩
    · obtain ⟨⟨z1, z2, rfl⟩, s2, hl2⟩ := h
      rw [List.length_map, List.take_length, ← tot] at hl2
      exact ⟨_, rfl, kk H' l s2 nl hl2⟩
end
end IC
namespace IC
open PySem L2 TL PyProof.Rows
theorem lc_kept {α : Type} {K : PySem.W.Frag} {a : Addr} {L : List α} {g : TG} {tt : TT} {te : TE} {vs : List Nat} {σ : L2.St} {H1 : Hp} {D : Addr} {Qd : Hp → Prop} (f0 out : α → V) (keep : α → Bool) (few : L.length ≤ 600) (hl : H1 a = some (.lst (L.map f0))) (nD : H1 D = none)
    (step : ∀ x G (Z : V → Hp → Prop) (N : Hp → Prop), x ∈ L → Same H1 G → (∀ G', Same G G' → keep x = true → Z (out x) G') → (∀ G', Same G G' → keep x = false → N G') → g (f0 x) (wipe σ vs) G fun σ2 H2 => wipe σ2 vs = wipe σ vs ∧ tt σ2 H2 fun b H3 => if b = true then te σ2 H3 Z else N H3)
    (hd : ∀ G, Same H1 G → G D = some (.lst ((L.filter keep).map out)) → Qd G) :
    ∃ W : Nat → Nat → Hp → Prop, (∃ m, W 0 m (upd H1 D (.lst []))) ∧ ∀ i m H, W i m H →
      ((Itl K a).stop i H ∧ Qd H) ∨ ((Itl K a).go i H ∧ ∃ Nx : Hp → Prop, (∀ H', Nx H' → ∃ m', m' < m ∧ W (i + 1) m' H') ∧ ∀ x H', (Itl K a).yld i H x H' → g x (wipe σ vs) H' fun σ2 H2 => wipe σ2 vs = wipe σ vs ∧ tt σ2 H2 fun b H3 =>
        if b = true then te σ2 H3 fun y H4 => ∃ acc, H4 D = some (.lst acc) ∧ acc.length < sizeLine ∧ Nx (upd H4 D (.lst (acc ++ [y]))) else Nx H3) := by
  refine lc_list (K := K) (a := a) (xs := L.map f0) (fun i G => Same H1 G ∧ G D = some (.lst (((L.take i).filter keep).map out))) ⟨Same.new nD, upd_same⟩ (fun i G _ h => SqL.of (h.1 _ _ hl)) (fun i y G hi h => ?_) (fun G h => ?_)
  · rw [List.getElem?_map] at hi
    cases ez : L[i]? with
    | none =>
      rw [ez] at hi
      cases hi
    | some x =>
      rw [ez] at hi
      cases hi
      have nx : (L.take (i + 1)).filter keep = (L.take i).filter keep ++ (if keep x = true then [x] else []) := by
        rw [List.take_add_one, ez, List.filter_append]
        show _ ++ List.filter keep [x] = _
        rw [List.filter_cons]
        cases keep x <;> rfl
      refine step x G _ _ (List.mem_of_getElem? ez) h.1 (fun G' s e => ?_) (fun G' s e => ?_)
      · refine ⟨_, s _ _ h.2, small1000 ?_, fun y u e => ?_, ?_⟩
        · rw [List.length_map]
          have := List.length_filter_le keep (L.take i)
          rw [List.length_take] at this
          omega
        · rw [upd_ne (ne_of_none e nD)]
          exact s _ _ (h.1 _ _ e)
        · rw [upd_same, nx, e, if_pos rfl, List.map_append]
          rfl
      · refine ⟨fun y u e => s _ _ (h.1 _ _ e), ?_⟩
        rw [nx, e, if_neg (by decide), List.append_nil]
        exact s _ _ h.2
  · rw [List.length_map, List.take_length] at h
    exact hd G h.1 h.2
section
variable {P : Program} {w : World} {K : PySem.W.Frag} {mg : Str → Option Value} {base : Heap} {c : LC} {tG : Addr}
/-- a library and the dict of its bodies -/
structure Bod (c : LC) (H : Hp) (R : List LR) (bd : Addr) : Prop where
  l : Lib c H R
  d : Rd H bd (.dK (fnB R))
theorem Bod.same {H H' : Hp} {R : List LR} {bd : Addr} (L : Bod c H R bd) (s : Same H H') : Bod c H' R bd := ⟨L.l.same s, L.d.imp (s _ _) fun ⟨o, e⟩ => ⟨o, s _ _ e⟩⟩
theorem Bod.get {H : Hp} {R : List LR} {bd : Addr} (L : Bod c H R bd) (z : Str) : DGet H bd (.str z) (valV (fnB R) (Sum.inr z)) := .inl ⟨_, Sum.inr z, L.d, rfl, rfl⟩
def callB (R : List LR) (r : LR) : Bool := decide (w0 r.ws = Str.ofString "call") && decide (w1 r.ws ∈ names R)
def Cx0 (R : List LR) (b : Addr) : List LR := (Sx R guardB 9 b).filter (callB R)
def spCalls (c : LC) : Sp := fun vs H Q _ => ∃ (R : List LR) (p : LR) (bd : Addr), vs = [.ref p.b, .ref bd] ∧ Bod c H R bd ∧ p ∈ R ∧ ∀ (H' : Hp) (l : Addr), Same H H' → H l = none → H' l = some (.lst ((Cx0 R p.b).map fun r => .str (w1 r.ws))) → Q (.ref l) H'
theorem ok_calls {f : Addr} {fd : FuncData} (F : Fun K "calls_in" "calls_in" s_calls_in f fd) (B : CTx K mg c) (T : Bn mg) (D_unguarded : Df P w K mg base 10 "unguarded" ["body"] (spUng c 9)) : FnOk P w K mg base CX0 11 f fd ["body", "bodies"] (spCalls c) := by
  refine F.ok sc_calls_in (fun vs H Q E h => ?_) (fun cdv A outer s H vs Q E hr h => ?_)
  · obtain ⟨R, s, b, rfl, _⟩ := h
    rfl
  · obtain ⟨R, p, bd, rfl, L, hp, kk⟩ := h
    have hu := hu_of hr
    refine ⟨_, (pss_cons (ps_set (i := 2) sc_calls_in.nd rfl (Or.inl rfl) (pe_df D_unguarded hr (by first | decide | omega) rfl (pa_cons (pv 0) pa_nil)))
  (pss_one (ps_ret (pe_lc (own := [("one", 3)]) (g := gName 3) rfl sc_calls_in.nd (pi_list (pv 2)) (blkOk_by (N := ["body", "bodies", "every", "one"]) (sc := defScope s_calls_in) (by decide +kernel)) (fun _ _ _ _ _ => pg_name (i := 3) sc_calls_in.nd rfl (Or.inl rfl)) (fun _ _ _ _ _ => pts_one (PW.pt (pw_and (pt_cmpR op_eq (show PE _ _ (tFld K (tVar 3) "kind") from pe_fld (pv 3) rfl) pe_str (nomark _)) (pw_and1 (pt_cmp (pc_din hu (show PE _ _ (tFld K (tVar 3) "word") from pe_fld (pv 3) rfl) (pv 1))))))) (fun _ _ _ _ _ => (show PE _ _ (tFld K (tVar 3) "word") from pe_fld (pv 3) rfl)))))), ?_⟩
    have G := L.l
    have lenT : (Sx R guardB 9 p.b).length ≤ 500 := by
      have := Sx_len L.l.t guardB 9 hp rfl (fun _ => true)
      rw [List.filter_eq_self.mpr (by simp)] at this
      have := List.length_filter_le (fun r => r.isS && true) R
      have := L.l.few
      omega
    refine ⟨_, rfl, R, p, rfl, L.l, hp, by omega, fun H1 l s1 nl hl => ?_⟩
    refine ⟨_, rfl, l, rfl, ⟨_, SqL.of hl⟩, fun D nD => ?_⟩
    refine lc_kept (K := K) (a := l) (L := Sx R guardB 9 p.b) (fun s => .ref s.a) (fun r => .str (w1 r.ws)) (callB R) (by omega) hl nD (fun x G' Z N hx s2 hz hn => ?_) (fun G' s2 hD => ?_)
    · obtain ⟨x1, x2, _⟩ := Sx_mem L.l.t guardB 9 hp rfl hx
      have gx := (s1.trans s2) _ _ (G.s x x1 x2).1
      refine ⟨by simp [wipe], ?_⟩
      refine ⟨_, rfl, x.a, c.S, x.dx, _, _, rfl, gx, B.cS, B.sk, rfl, rfl, _, rfl, iteS (fun c1 => ?_) (fun c1 => ?_)⟩
      · refine ⟨_, rfl, x.a, c.S, x.dx, _, _, rfl, gx, B.cS, B.sw, rfl, _, rfl, bd, _, rfl, ((L.same (s1.trans s2)).get (w1 x.ws)), ?_⟩
        rw [fnB_get]
        refine ⟨_, rfl, ite2 (fun c2 => ?_) (fun c2 => ?_)⟩
        · refine ⟨_, rfl, x.a, c.S, x.dx, _, _, rfl, gx, B.cS, B.sw, rfl, hz _ (Same.refl _) ?_⟩
          unfold callB
          rw [decide_eq_true c1, c2]
          rfl
        · refine hn _ (Same.refl _) ?_
          unfold callB
          rw [Bool.eq_false_iff.mpr c2, Bool.and_false]
      · refine iteF (hn _ (Same.refl _) ?_)
        unfold callB
        rw [decide_eq_false c1]
        rfl
    · exact kk G' D (s1.trans s2) (s1.free nD) hD
end
end IC
namespace IC
open PySem L2 TL PyProof.Rows
def vl (kvs : List (Key × V)) (r : LR) : Nat := match valV kvs (Sum.inr (w1 r.ws)) with
  | some (.int i) => i.toNat
  | _ => 0
theorem vl_eq {kvs : List (Key × V)} {r : LR} {M : Nat} (h : ∃ i : Nat, valV kvs (Sum.inr (w1 r.ws)) = some (.int i) ∧ i ≤ M) : valV kvs (Sum.inr (w1 r.ws)) = some (.int (vl kvs r : Nat)) ∧ vl kvs r ≤ M := by
  obtain ⟨i, e, l⟩ := h
  have : vl kvs r = i := by
    unfold vl
    rw [e]
    exact Int.toNat_natCast i
  rw [this]
  exact ⟨e, l⟩
theorem sum_nat {α : Type} (f : α → Nat) : ∀ L : List α, (L.map fun r => ((f r : Nat) : Int)).sum = (((L.map f).sum : Nat) : Int)
  | [] => rfl
  | r :: L => by
    rw [List.map_cons, List.sum_cons, sum_nat f L, List.map_cons, List.sum_cons]
    omega
theorem sum_le {α : Type} (f : α → Nat) (M : Nat) : ∀ L : List α, (∀ r ∈ L, f r ≤ M) → (L.map f).sum ≤ M * L.length
  | [], _ => Nat.zero_le _
  | r :: L, h => by
    have h1 := h r (List.mem_cons_self ..)
    have h2 := sum_le f M L fun x hx => h x (List.mem_cons_of_mem _ hx)
    rw [List.map_cons, List.sum_cons, List.length_cons, Nat.mul_succ]
    omega
section
variable {P : Program} {w : World} {K : PySem.W.Frag} {mg : Str → Option Value} {base : Heap} {c : LC} {tG : Addr}
def spWt (c : LC) : Sp := fun vs H Q _ => ∃ (R : List LR) (p : LR) (bd wd : Addr) (kvs : List (Key × V)) (M : Nat), vs = [.ref p.b, .ref bd, .ref wd] ∧ Bod c H R bd ∧ p ∈ R ∧ H wd = some (.dK kvs) ∧ (∀ r ∈ Cx0 R p.b, ∃ i : Nat, valV kvs (Sum.inr (w1 r.ws)) = some (.int i) ∧ i ≤ M) ∧ ∀ (H' : Hp) (n : Nat), Same H H' → n ≤ (Sx R guardB 9 p.b).length + M * (Cx0 R p.b).length → Q (.int n) H'
theorem ok_wt {f : Addr} {fd : FuncData} (F : Fun K "_weight" "_weight" s_weight f fd) (B : CTx K mg c) (T : Bn mg) (D_unguarded : Df P w K mg base 10 "unguarded" ["body"] (spUng c 9)) (D_calls_in : Df P w K mg base 11 "calls_in" ["body", "bodies"] (spCalls c)) : FnOk P w K mg base CX0 12 f fd ["body", "bodies", "weights"] (spWt c) := by
  refine F.ok sc_weight (fun vs H Q E h => ?_) (fun cdv A outer s H vs Q E hr h => ?_)
  · obtain ⟨R, p, bd, wd, kvs, M, rfl, _⟩ := h
    rfl
  · obtain ⟨R, p, bd, wd, kvs, M, rfl, L, hp, hw, hc, kk⟩ := h
    have hu := hu_of hr
    refine ⟨_, (pss_one (ps_ret (pe_op op_add (pe_callB call_len_seq (by rfl) T.len PySem.boot_len (pa_cons (pe_df D_unguarded hr (by first | decide | omega) rfl (pa_cons (pv 0) pa_nil)) pa_nil)) (pe_callB (cr_sum rfl) (by rfl) T.sum PyProof.Rows.boot_sum (pa_cons (pe_lc (own := [("name", 3)]) (g := gName 3) (tt := tYes) rfl sc_weight.nd (pi_list (pe_df D_calls_in hr (by first | decide | omega) rfl (pa_cons (pv 0) (pa_cons (pv 1) pa_nil)))) (blkOk_by (N := ["body", "bodies", "weights", "name"]) (sc := defScope s_weight) (by decide +kernel)) (fun _ _ _ _ _ => pg_name (i := 3) sc_weight.nd rfl (Or.inl rfl)) (fun _ _ _ _ _ => pts_nil) (fun _ _ _ _ _ => (pe_dget hu (pv 2) (pv 3) (fun _ _ => rfl)))) pa_nil))))), ?_⟩
    have fewC : (Cx0 R p.b).length ≤ 500 := by
      have := Sx_len L.l.t guardB 9 hp rfl (callB R)
      have := List.length_filter_le (fun r => r.isS && callB R r) R
      have := L.l.few
      unfold Cx0
      omega
    refine ⟨_, rfl, R, p, rfl, L.l, hp, by omega, fun H1 l s1 nl hl => ?_⟩
    refine ⟨l, _, rfl, .inl (SqL.of hl), ?_⟩
    refine ⟨_, rfl, _, rfl, R, p, bd, rfl, L.same s1, hp, fun H2 l2 s2 nl2 hl2 => ?_⟩
    refine ⟨l2, rfl, ⟨_, SqL.of hl2⟩, fun D nD => ?_⟩
    refine lc_kept (K := K) (a := l2) (L := Cx0 R p.b) (fun r => .str (w1 r.ws)) (fun r => .int (vl kvs r : Nat)) (fun _ => true) (by omega) hl2 nD (fun x G' Z N hx s3 hz hn => ?_) (fun G' s3 hD => ?_)
    · refine ⟨by simp [wipe], ?_⟩
      refine ⟨_, rfl, _, rfl, wd, _, rfl, .inl ⟨kvs, Sum.inr (w1 x.ws), .inl ((s1.trans (s2.trans s3)) _ _ hw), rfl, (vl_eq (hc x hx)).1.symm⟩, hz _ (Same.refl _) rfl⟩
    · rw [List.filter_eq_self.mpr (by simp)] at hD
      refine ⟨D, (Cx0 R p.b).map (fun r => ((vl kvs r : Nat) : Int)), rfl, SqL.of (by rw [List.map_map]; exact hD), ?_⟩
      rw [sum_nat]
      refine ⟨_, _, rfl, rfl, ?_⟩
      rw [List.length_map]
      exact kk _ _ (s1.trans (s2.trans s3)) (Nat.add_le_add_left (sum_le _ _ _ fun r hr => (vl_eq (hc r hr)).2) _)
theorem ok_cb {f : Addr} {fd : FuncData} (F : Fun K "_comes_back" "_comes_back" s_comes_back f fd) (T : Bn mg) : FnOk P w K mg base CX0 1 f fd ["name", "called"] (fun vs H Q _ => ∃ (z : Str) (cd l : Addr) (kvs : List (Key × V)), vs = [.str z, .ref cd] ∧ H cd = some (.dK kvs) ∧ valV kvs (Sum.inr z) = some (.ref l) ∧ H l = some (.lst []) ∧ ∀ H', Same H H' → Q (.bl false) H') := by
  refine F.ok sc_comes_back (fun vs H Q E h => ?_) (fun cdv A outer s H vs Q E hr h => ?_)
  · obtain ⟨z, cd, l, kvs, rfl, _⟩ := h
    rfl
  · obtain ⟨z, cd, l, kvs, rfl, hc, hv, hl, kk⟩ := h
    have hu := hu_of hr
    refine ⟨_, (pss_cons (ps_set (i := 2) sc_comes_back.nd rfl (Or.inl rfl) pe_dnewK)
  (pss_cons (ps_set (i := 3) sc_comes_back.nd rfl (Or.inl rfl) (pe_callTy call_list_of (by rfl) T.list (by decide +kernel) (pa_cons (pe_dget hu (pv 1) (pv 0) (fun _ _ => rfl)) pa_nil)))
  (pss_cons (ps_while PassesOwn.never (pt_truth (pv 3) (by intro _; rfl))
  pss_dead)
  (pss_one (ps_ret pe_bl))))), ?_⟩
    refine fun sd nsd => ?_
    have s1 := Same.new (o := .dK []) nsd
    refine ⟨_, rfl, _, rfl, cd, _, rfl, .inl ⟨kvs, Sum.inr z, .inl (s1 _ _ hc), rfl, hv.symm⟩, ?_⟩
    refine ⟨l, [], rfl, .inl (SqL.of (s1 _ _ hl)), fun wl nwl => ?_⟩
    have s2 := Same.new (o := .lst []) nwl
    refine ⟨fun _ σ' H' => (∃ z2, σ' = [some (.str z), some (.ref cd), some (.ref sd), some (.ref wl), z2]) ∧ Same H H' ∧ H' wl = some (.lst []), ⟨0, ⟨_, rfl⟩, s1.trans s2, upd_same⟩, ?_⟩
    rintro m σ' H' ⟨⟨z2, rfl⟩, s3, hw⟩
    refine ⟨_, rfl, ?_⟩
    exact ⟨false, .inl ⟨_, SqL.of hw, rfl⟩, iteF (kk H' s3)⟩
def spWgh (c : LC) : Sp := fun vs H Q _ => ∃ (R : List LR) (p : LR) (bd wd : Addr) (kvs : List (Key × V)) (H0 : Hp), vs = [.str (w1 p.ws), .ref bd, .ref wd] ∧ Bod c H0 R bd ∧ p ∈ R ∧ p.isF = true ∧ Same H0 H ∧ H0 wd = none ∧ H wd = some (.dK kvs) ∧ valV kvs (Sum.inr (w1 p.ws)) = none ∧ kvs.length ≤ 500 ∧ Cx0 R p.b = [] ∧ valV (fnB R) (Sum.inr (w1 p.ws)) = some (.ref p.b) ∧ ∀ (H' : Hp) (n : Nat), Same H0 H' → H' wd = some (.dK (kvs ++ [(Sum.inr (w1 p.ws), .int n)])) → n ≤ (Sx R guardB 9 p.b).length → Q .non H'
theorem ok_wgh {f : Addr} {fd : FuncData} (F : Fun K "_weigh" "_weigh" s_weigh f fd) (B : CTx K mg c) (T : Bn mg) (D_calls_in : Df P w K mg base 11 "calls_in" ["body", "bodies"] (spCalls c)) (D_weight : Df P w K mg base 12 "_weight" ["body", "bodies", "weights"] (spWt c)) : FnOk P w K mg base CX0 13 f fd ["name", "bodies", "weights"] (spWgh c) := by
  refine F.ok sc_weigh (fun vs H Q E h => ?_) (fun cdv A outer s H vs Q E hr h => ?_)
  · obtain ⟨R, p, bd, wd, kvs, H0, rfl, _⟩ := h
    rfl
  · obtain ⟨R, p, bd, wd, kvs, H0, rfl, L, hp, pF, s0, nw, hw, hv, few, hc, hb, kk⟩ := h
    have hu := hu_of hr
    refine ⟨_, (pss_one (ps_if (pt_cmp (pc_dnotin hu (pv 0) (pv 2)))
  (pss_cons (ps_for PassesOwn.never rfl (pi_list (pe_df D_calls_in hr (by first | decide | omega) rfl (pa_cons (pe_dget hu (pv 1) (pv 0) (fun _ _ => rfl)) (pa_cons (pv 1) pa_nil)))) (pg_name (i := 3) sc_weigh.nd rfl (Or.inl rfl))
  (pss_one ps_dead))
  (pss_one (ps_dput hu (pv 2) (pv 0) (pe_df D_weight hr (by first | decide | omega) rfl (pa_cons (pe_dget hu (pv 1) (pv 0) (fun _ _ => rfl)) (pa_cons (pv 1) (pa_cons (pv 2) pa_nil)))) rfl)))
  pss_nil)), ?_⟩
    have Lb : Bod c H R bd := L.same s0
    refine ⟨_, rfl, _, rfl, wd, _, rfl, .inl ⟨kvs, Sum.inr (w1 p.ws), .inl hw, rfl, hv.symm⟩, _, rfl, iteT ?_⟩
    have gb : DGet H bd (.str (w1 p.ws)) (some (.ref p.b)) := by
      rw [← hb]
      exact Lb.get _
    refine ⟨_, rfl, _, rfl, bd, _, rfl, gb, _, rfl, R, p, bd, rfl, Lb, hp, fun H1 l s1 nl hl => ⟨l, rfl, ⟨_, SqL.of hl⟩, ?_⟩⟩
    rw [hc] at hl
    refine for_list (K := K) (a := l) (xs := []) (g := gName 3) (tb := fun _ _ _ => False) (fun i σ' H' => (∃ z2, σ' = [some (.str (w1 p.ws)), some (.ref bd), some (.ref wd), z2]) ∧ H' = H1) ⟨⟨_, rfl⟩, rfl⟩ (fun i σ' H' _ h => by rw [h.2]; exact SqL.of hl) (fun i y σ' H' hi h => by cases hi) (fun σ' H' h => ?_)
    obtain ⟨⟨z2, rfl⟩, rfl⟩ := h
    have Lb1 := Lb.same s1
    have gb1 : DGet H' bd (.str (w1 p.ws)) (some (.ref p.b)) := by
      rw [← hb]
      exact Lb1.get _
    refine ⟨_, rfl, _, rfl, bd, _, rfl, gb1, _, rfl, _, rfl, R, p, bd, wd, kvs, 0, rfl, Lb1, hp, s1 _ _ hw, fun r hr' => ?_, fun H2 n s2 hn => ?_⟩
    · rw [hc] at hr'
      cases hr'
    · rw [hc] at hn
      have pk : putK kvs (Sum.inr (w1 p.ws)) (V.int n) = kvs ++ [(Sum.inr (w1 p.ws), V.int n)] := putK_new _ hv
      refine ⟨_, rfl, _, rfl, wd, _, rfl, DPut.k (k := Sum.inr (w1 p.ws)) ((s1.trans s2) _ _ hw) (small1000 (by omega)), ?_⟩
      rw [pk]
      refine kk _ n (fun y u e => ?_) upd_same (by simpa using hn)
      rw [upd_ne (ne_of_none e nw)]
      exact (s1.trans s2) _ _ (s0 _ _ e)
end
end IC
namespace IC
open PySem L2 TL PyProof.Rows
section
variable {X : Cx}
/-- y = {k: v for x in xs} -/
theorem ps_setDc {i : Nat} {y : Str} {at1 pos at2 : Pos} {kx vx tg xs : Expr} {ifs : List Expr} {sc : Scope} {own : List (Str × Nat)} {wi : TI} {g : TG} {tt : TT} {tk tv : TE} (calm : X.calm = true) (nd : X.N.Nodup) (hy : X.N[i]? = some y) (loc : X.env.scope.names.lookup y = some .local)
    (sw : swapsWith (.DictComp kx vx [⟨tg, xs, ifs, 0⟩] sc pos) (some (.Name y at1)) at2.line X.env = pure true) (walk : PI X tg xs wi) (blk : BlkOk X.N X.env.scope sc own)
    (hg : ∀ (t : Shared) (G : Hp) (C : Addr) (cl : List (Str × Addr)) (fp : List Addr), PG (X.blk t G sc (compEnvC sc cl C X.env) fp) tg g) (ht : ∀ (t : Shared) (G : Hp) (C : Addr) (cl : List (Str × Addr)) (fp : List Addr), PTs (X.blk t G sc (compEnvC sc cl C X.env) fp) ifs tt)
    (hk : ∀ (t : Shared) (G : Hp) (C : Addr) (cl : List (Str × Addr)) (fp : List Addr), PE (X.blk t G sc (compEnvC sc cl C X.env) fp) kx tk) (hv : ∀ (t : Shared) (G : Hp) (C : Addr) (cl : List (Str × Addr)) (fp : List Addr), PE (X.blk t G sc (compEnvC sc cl C X.env) fp) vx tv)
    (noset : ∀ x, foldedSetIterable xs X.env x = pure x := by intro _; rfl) : PS X (.Assign [.Name y at1] (.DictComp kx vx [⟨tg, xs, ifs, 0⟩] sc pos) at2) (tAsg (tDc wi g tt tk tv (own.map (·.2))) (gName i)) := by
  constructor
  intro pins s σ H D I wish
  have wish : tDc wi g tt tk tv (own.map (·.2)) σ H (fun x G => gName i x σ G D.nx) := wish
  rw [exec_Assign_Name_used _ _ _ _ sw]
  refine wpAny_bind (wpAny_standAt (wpAny_bind (wpAny_bind (thn (dc_core (Qf := fun _ t => SP X pins D .next t) calm nd I walk blk hg ht hk hv noset wish ?_) fun _ t done => wpAny_pure (wpAny_pure done)))))
  intro L C t m G J q ns fpo
  refine wpAny_assign_Name (store_ok2 (v := V.ref L) J nd hy (.inl loc) rfl (fun t2 J2 ⟨a, sb, ha⟩ => ?_) (.inr loc))
  rcases fpo with ⟨f0, f1, f2, f3, f4, f5⟩
  have ne : C ≠ a := ha.elim (fun z => by rw [z]; exact f1) fun z e => f4 y a z e.symm
  exact ⟨m, ns.sameBut sb ne, fun h3 sb3 => ⟨_, G, J2.turned (t' := t2.toks) (fun b o hb e => (sb3.2 b hb).trans e) f0 f1 f3 f4 f5, q⟩⟩
end
theorem dc_it {J : It} {n : Nat} {Gd : Hp → Prop} {Y : Nat → Hp → V → Hp → Prop} (wk : Walk J n Gd Y) {g : TG} {tt : TT} {tk tv : TE} {vs : List Nat} {σ : L2.St} {H1 : Hp} {D : Addr} {Qd : Hp → Prop} (Pv : Nat → Hp → Prop) (h0 : Pv 0 (upd H1 D (.dK []))) (hG : ∀ i G, i ≤ n → Pv i G → Gd G)
    (one : ∀ i x G G', i < n → Pv i G → Y i G x G' → g x (wipe σ vs) G' fun τ G2 => wipe τ vs = wipe σ vs ∧ tt τ G2 fun b G3 =>
      if b = true then tk τ G3 fun y G4 => tv τ G4 fun z G5 => ∃ kvs k, y = kV k ∧ G5 D = some (.dK kvs) ∧ kvs.length < sizeLine ∧ Pv (i + 1) (upd G5 D (.dK (putK kvs k z))) else Pv (i + 1) G3) (fin : ∀ G, Pv n G → Qd G) :
    ∃ W : Nat → Nat → Hp → Prop, (∃ m, W 0 m (upd H1 D (.dK []))) ∧ ∀ i m G, W i m G →
      (J.stop i G ∧ Qd G) ∨ (J.go i G ∧ ∃ Nx : Hp → Prop, (∀ G', Nx G' → ∃ m', m' < m ∧ W (i + 1) m' G') ∧ ∀ x G', J.yld i G x G' → g x (wipe σ vs) G' fun τ G2 => wipe τ vs = wipe σ vs ∧ tt τ G2 fun b G3 =>
        if b = true then tk τ G3 fun y G4 => tv τ G4 fun z G5 => ∃ kvs k, y = kV k ∧ G5 D = some (.dK kvs) ∧ kvs.length < sizeLine ∧ Nx (upd G5 D (.dK (putK kvs k z))) else Nx G3) := by
  refine ⟨fun i m G => m = n - i ∧ i ≤ n ∧ Pv i G, ⟨n, by simp, Nat.zero_le _, h0⟩, ?_⟩
  rintro i m G ⟨rfl, hi, pv⟩
  have good := hG i G hi pv
  by_cases lt : i < n
  · exact .inr ⟨wk.goes i G lt good, Pv (i + 1), fun G' p' => ⟨n - (i + 1), by omega, rfl, lt, p'⟩, fun x G' y => one i x G G' lt pv (wk.yields i G x G' lt good y)⟩
  · obtain rfl : i = n := by omega
    exact .inl ⟨wk.stops G good, fin G pv⟩
theorem fnB_val {R : List LR} (nn : (names R).Nodup) {p : LR} (hp : p ∈ R.filter LR.isF) : valV (fnB R) (Sum.inr (w1 p.ws)) = some (.ref p.b) := by
  unfold names at nn
  unfold fnB
  generalize R.filter LR.isF = L at nn hp
  induction L with
  | nil => cases hp
  | cons z L ih =>
    rw [List.map_cons, List.nodup_cons] at nn
    rw [List.map_cons]
    rcases List.mem_cons.mp hp with rfl | h
    · exact valV_pos rfl
    · rw [valV_neg (fun e => nn.1 ?_), ih nn.2 h]
      have e : w1 z.ws = w1 p.ws := Sum.inr.inj e
      rw [e]
      exact List.mem_map_of_mem (f := fun r => w1 r.ws) h
theorem relock {H G : Hp} {bd : Addr} {u x : HO} (s : Same (upd H bd x) G) (h : H bd = some u) : Same H (upd G bd u) := fun y v e => by
  by_cases z : y = bd
  · rw [z, upd_same]
    rw [z, h] at e
    exact e
  · rw [upd_ne z]
    refine s y v ?_
    rw [upd_ne z]
    exact e
section
variable {P : Program} {w : World} {K : PySem.W.Frag} {mg : Str → Option Value} {base : Heap} {c : LC} {tG : Addr}
def spChk (c : LC) : Sp := fun vs H Q _ => ∃ (R : List LR) (bd : Addr), vs = [.ref bd] ∧ Lib c H R ∧ H bd = some (.dK (fnB R)) ∧ (names R).Nodup ∧ (∀ p ∈ R, p.isF = true → Cx0 R p.b = []) ∧ (R.filter LR.isS).length ≤ 64 ∧ (R.filter fun r => r.isS && callB R r).length ≤ 4 ∧ ∀ H', Same H H' → Q .non H'
theorem ok_chk {f : Addr} {fd : FuncData} (F : Fun K "check_calls" "check_calls" s_check_calls f fd) (B : CTx K mg c) (T : Bn mg) (gH : ∃ u, mg "HEAVIEST" = some u ∧ RelV (.int 400) u) (D_calls_in : Df P w K mg base 11 "calls_in" ["body", "bodies"] (spCalls c)) (D_weight : Df P w K mg base 12 "_weight" ["body", "bodies", "weights"] (spWt c)) (D_weigh : Df P w K mg base 13 "_weigh" ["name", "bodies", "weights"] (spWgh c))
    (D_comes_back : Df P w K mg base 1 "_comes_back" ["name", "called"] (fun vs H Q _ => ∃ (z : Str) (cd l : Addr) (kvs : List (Key × V)), vs = [.str z, .ref cd] ∧ H cd = some (.dK kvs) ∧ valV kvs (Sum.inr z) = some (.ref l) ∧ H l = some (.lst []) ∧ ∀ H', Same H H' → Q (.bl false) H')) (D_guarded_bodies : Df P w K mg base 10 "guarded_bodies" ["body"] (spGua c 9)) : FnOk P w K mg base CX0 14 f fd ["bodies"] (spChk c) := by
  refine F.ok sc_check_calls (fun vs H Q E h => ?_) (fun cdv A outer s H vs Q E hr h => ?_)
  · obtain ⟨R, bd, rfl, _⟩ := h
    rfl
  · obtain ⟨R, bd, rfl, L, hb, nn, noC, fewS, fewC, kk⟩ := h
    have hu := hu_of hr
    refine ⟨_, (pss_cons (ps_lock (ps_setDc (i := 1) (own := [("name", 2)]) (g := gName 2) (tt := tYes) rfl sc_check_calls.nd rfl rfl rfl (pi_keys (pv 0)) (blkOk_by (N := ["bodies", "called", "name", "weights", "body"]) (sc := defScope s_check_calls) (by decide +kernel)) (fun _ _ _ _ _ => pg_name (i := 2) sc_check_calls.nd rfl (Or.inl rfl)) (fun _ _ _ _ _ => pts_nil) (fun _ _ _ _ _ => (pv 2)) (fun _ _ _ _ _ => (pe_df D_calls_in hr (by first | decide | omega) rfl (pa_cons (pe_dget hu (pv 0) (pv 2) (fun _ _ => rfl)) (pa_cons (pv 0) pa_nil))))))
  (pss_cons (ps_lock (ps_for PassesOwn.never rfl (pi_keys (pv 0)) (pg_name (i := 2) sc_check_calls.nd rfl (Or.inl rfl))
  (pss_one (ps_if (pt_val (pe_df D_comes_back hr (by first | decide | omega) rfl (pa_cons (pv 2) (pa_cons (pv 1) pa_nil))))
  pss_dead
  pss_nil))))
  (pss_cons (ps_set (i := 3) sc_check_calls.nd rfl (Or.inl rfl) pe_dnewK)
  (pss_cons (ps_lock (ps_for PassesOwn.never rfl (pi_keys (pv 0)) (pg_name (i := 2) sc_check_calls.nd rfl (Or.inl rfl))
  (pss_one (ps_expr (pe_df D_weigh hr (by first | decide | omega) rfl (pa_cons (pv 2) (pa_cons (pv 0) (pa_cons (pv 3) pa_nil))))))))
  (pss_one (ps_lock (ps_for PassesOwn.never rfl (pi_keys (pv 0)) (pg_name (i := 2) sc_check_calls.nd rfl (Or.inl rfl))
  (pss_cons (ps_if (pt_cmpR op_gt (pe_dget hu (pv 3) (pv 2) (fun _ _ => rfl)) (pe_gv2 gH rfl) (nomark _))
  pss_dead
  pss_nil)
  (pss_one (ps_for PassesOwn.never rfl (pi_list (pe_df D_guarded_bodies hr (by first | decide | omega) rfl (pa_cons (pe_dget hu (pv 0) (pv 2) (fun _ _ => rfl)) pa_nil))) (pg_name (i := 4) sc_check_calls.nd rfl (Or.inl rfl))
  (pss_one (ps_if (pt_cmpR op_gt (pe_df D_weight hr (by first | decide | omega) rfl (pa_cons (pv 4) (pa_cons (pv 0) (pa_cons (pv 3) pa_nil)))) (pe_gv2 gH rfl) (nomark _))
  pss_dead
  pss_nil)))))))))))), ?_⟩
    have lk : ∀ {G : Hp} {od : Obj}, Lib c G R → G bd = some (.dK (fnB R)) → Bod c (upd G bd (.frz od (.dK (fnB R)))) R bd := fun {G od} l e => ⟨l.move fun y u ey nu => by
      rw [upd_ne (fun z => by
        rw [z, e] at ey
        exact nu _ (Option.some.inj ey).symm)]
      exact ey, .inr ⟨od, upd_same⟩⟩
    have fl : (fnB R).length = (R.filter LR.isF).length := by
      unfold fnB
      rw [List.length_map]
    have ffew : (R.filter LR.isF).length ≤ 500 := Nat.le_trans (List.length_filter_le _ _) L.few
    have fget : ∀ {i : Nat} {k : Key} {v : V}, (fnB R)[i]? = some (k, v) → ∃ p, (R.filter LR.isF)[i]? = some p ∧ k = Sum.inr (w1 p.ws) ∧ p ∈ R ∧ p.isF = true := fun {i k v} e => by
      unfold fnB at e
      rw [List.getElem?_map] at e
      cases ez : (R.filter LR.isF)[i]? with
      | none =>
        rw [ez] at e
        cases e
      | some p =>
        rw [ez] at e
        cases e
        have := List.mem_filter.mp (List.mem_of_getElem? ez)
        exact ⟨p, rfl, rfl, this.1, this.2⟩
    refine ⟨bd, .dK (fnB R), hb, trivial, fun od => ?_⟩
    have B0 := lk (od := od) L hb
    generalize eHL : upd H bd (.frz od (.dK (fnB R))) = HL at B0
    have fz0 : HL bd = some (.frz od (.dK (fnB R))) := by rw [← eHL]; exact upd_same
    refine ⟨_, rfl, bd, od, rfl, .inl ⟨fnB R, fz0, fun D nD => ?_⟩⟩
    have nDb : ∀ {y : Addr} {u : HO}, HL y = some u → y ≠ D := fun {y u} e => ne_of_none e nD
    refine dc_it walk_keys (fun i G => Same HL G ∧ ∃ kvs, G D = some (.dK kvs) ∧ kvs.length ≤ i ∧ ∀ p ∈ (R.filter LR.isF).take i, ∃ l, valV kvs (Sum.inr (w1 p.ws)) = some (.ref l) ∧ G l = some (.lst [])) ⟨Same.new nD, [], upd_same, Nat.le_refl _, nofun⟩ (fun i G _ h => h.1 _ _ fz0) (fun i x G G' hi h hy => ?_) (fun G h => ?_)
    · obtain ⟨rfl, k, v, hk, rfl⟩ := hy
      obtain ⟨s1, kvs, hD, few, hall⟩ := h
      obtain ⟨p, ep, rfl, hp, pF⟩ := fget hk
      refine ⟨by simp [wipe], ?_⟩
      have B1 := B0.same s1
      have gb := B1.get (w1 p.ws)
      rw [fnB_val nn (List.mem_filter.mpr ⟨hp, pF⟩)] at gb
      refine ⟨_, rfl, _, rfl, _, rfl, bd, _, rfl, gb, _, rfl, R, p, bd, rfl, B1, hp, fun H2 l s2 nl hl => ⟨kvs, _, rfl, s2 _ _ hD, small1000 (by rw [fl] at hi; omega), ?_⟩⟩
      rw [noC p hp pF] at hl
      refine ⟨fun y u e => ?_, _, upd_same, ?_, fun p' hp' => ?_⟩
      · rw [upd_ne (nDb e)]
        exact s2 _ _ (s1 _ _ e)
      · have := length_putK kvs (Sum.inr (w1 p.ws)) (V.ref l)
        omega
      · have nlD : ∀ l', H2 l' = some (.lst []) → l' ≠ D := fun l' e => ne2 e (s2 _ _ hD) nofun
        rw [valV_put]
        by_cases z : (Sum.inr (w1 p'.ws) : Key) = Sum.inr (w1 p.ws)
        · rw [if_pos z]
          refine ⟨l, rfl, ?_⟩
          rw [upd_ne (nlD l hl)]
          exact hl
        · rw [if_neg z]
          rw [List.take_add_one, ep] at hp'
          rcases List.mem_append.mp hp' with h | h
          · obtain ⟨l', e1, e2⟩ := hall p' h
            refine ⟨l', e1, ?_⟩
            rw [upd_ne (nlD l' (s2 _ _ e2))]
            exact s2 _ _ e2
          · exact absurd (by rw [List.mem_singleton.mp h]) z
    · obtain ⟨s1, kvs, hD, few, hall⟩ := h
      rw [fl, List.take_length] at hall
      refine ⟨s1 _ _ fz0, ?_⟩
      rw [← eHL] at s1
      have s2 := relock s1 hb
      have hDb : D ≠ bd := (nDb fz0).symm
      have hD2 : upd G bd (.dK (fnB R)) D = some (.dK kvs) := by
        rw [upd_ne hDb]
        exact hD
      have hall2 : ∀ p ∈ R.filter LR.isF, ∃ l, valV kvs (Sum.inr (w1 p.ws)) = some (.ref l) ∧ upd G bd (.dK (fnB R)) l = some (.lst []) := fun p hp => by
        obtain ⟨l, e1, e2⟩ := hall p hp
        refine ⟨l, e1, ?_⟩
        rw [upd_ne (ne2 e2 (s1 _ _ upd_same) nofun)]
        exact e2
      have hb2 := s2 _ _ hb
      have L2 := L.same s2
      generalize upd G bd (.dK (fnB R)) = H2 at s2 hD2 hall2 hb2 L2 ⊢
      refine ⟨bd, .dK (fnB R), hb2, trivial, fun od2 => ?_⟩
      have B2 := lk (od := od2) L2 hb2
      generalize eHL2 : upd H2 bd (.frz od2 (.dK (fnB R))) = HL2 at B2
      have fz2 : HL2 bd = some (.frz od2 (.dK (fnB R))) := by rw [← eHL2]; exact upd_same
      have up2 : ∀ {y : Addr} {u : HO}, H2 y = some u → y ≠ bd → HL2 y = some u := fun {y u} e n => by
        rw [← eHL2, upd_ne n]
        exact e
      refine ⟨_, rfl, bd, od2, rfl, .inl ⟨fnB R, fz2, ?_⟩⟩
      refine for_it walk_keys (fun i σ' G => (∃ z2 z3 z4, σ' = [some (.ref bd), some (.ref D), z2, z3, z4]) ∧ Same HL2 G) ⟨⟨_, _, _, rfl⟩, Same.refl _⟩ (fun i σ' G _ h => h.2 _ _ fz2) (fun i x σ' G G' hi h hy => ?_) (fun σ' G h => ?_)
      · obtain ⟨rfl, k, v, hk, rfl⟩ := hy
        obtain ⟨⟨z2, z3, z4, rfl⟩, s3⟩ := h
        obtain ⟨p, ep, rfl, hp, pF⟩ := fget hk
        obtain ⟨l, e1, e2⟩ := hall2 p (List.mem_filter.mpr ⟨hp, pF⟩)
        exact ⟨_, rfl, _, rfl, w1 p.ws, D, l, kvs, rfl, s3 _ _ (up2 hD2 hDb), e1, s3 _ _ (up2 e2 (ne2 e2 hb2 nofun)), fun H5 s5 => ⟨_, rfl, iteF ⟨⟨_, _, _, rfl⟩, s3.trans s5⟩⟩⟩
      · obtain ⟨⟨z2, z3, z4, rfl⟩, s3⟩ := h
        refine ⟨s3 _ _ fz2, ?_⟩
        rw [← eHL2] at s3
        have s4 := relock s3 hb2
        have hb4 := s4 _ _ hb2
        have L4 := L2.same s4
        have sH4 := s2.trans s4
        generalize upd G bd (.dK (fnB R)) = H4 at s4 hb4 L4 sH4 ⊢
        refine fun wd nwd => ?_
        have wdb : wd ≠ bd := (ne_of_none hb4 nwd).symm
        have hb5 : upd H4 wd (.dK []) bd = some (.dK (fnB R)) := Same.new nwd _ _ hb4
        refine ⟨bd, .dK (fnB R), hb5, trivial, fun od3 => ?_⟩
        have B3 := lk (od := od3) L4 hb4
        generalize eH0 : upd H4 bd (.frz od3 (.dK (fnB R))) = H0 at B3
        have nwd0 : H0 wd = none := by
          rw [← eH0, upd_ne wdb]
          exact nwd
        have fz3 : H0 bd = some (.frz od3 (.dK (fnB R))) := by rw [← eH0]; exact upd_same
        have s05 : Same H0 (upd (upd H4 wd (.dK [])) bd (.frz od3 (.dK (fnB R)))) := fun y u e => by
          by_cases z : y = bd
          · rw [z, upd_same]
            rw [z, fz3] at e
            exact e
          · rw [upd_ne z, upd_ne (fun q => by
              rw [q, nwd0] at e
              cases e)]
            rw [← eH0, upd_ne z] at e
            exact e
        have wd5 : upd (upd H4 wd (.dK [])) bd (.frz od3 (.dK (fnB R))) wd = some (.dK []) := by
          rw [upd_ne wdb]
          exact upd_same
        generalize upd (upd H4 wd (.dK [])) bd (.frz od3 (.dK (fnB R))) = H5 at s05 wd5 ⊢
        refine ⟨_, rfl, bd, od3, rfl, .inl ⟨fnB R, s05 _ _ fz3, ?_⟩⟩
        refine for_it walk_keys (fun i σ' G => (∃ z2 z4, σ' = [some (.ref bd), some (.ref D), z2, some (.ref wd), z4]) ∧ Same H0 G ∧ ∃ kvs, G wd = some (.dK kvs) ∧ kvs.length ≤ i ∧ (∀ z, z ∉ ((R.filter LR.isF).take i).map (fun r => w1 r.ws) → valV kvs (Sum.inr z) = none) ∧ ∀ p ∈ (R.filter LR.isF).take i, ∃ n : Nat, valV kvs (Sum.inr (w1 p.ws)) = some (.int n) ∧ n ≤ 64) ⟨⟨_, _, rfl⟩, s05, [], wd5, Nat.le_refl _, fun _ _ => rfl, nofun⟩ (fun i σ' G _ h => h.2.1 _ _ fz3) (fun i x σ' G G' hi h hy => ?_) (fun σ' G h => ?_)
        · obtain ⟨rfl, k, v, hk, rfl⟩ := hy
          obtain ⟨⟨z2, z4, rfl⟩, s6, kv, hw, fewk, hnone, hall3⟩ := h
          obtain ⟨p, ep, rfl, hp, pF⟩ := fget hk
          have newp : valV kv (Sum.inr (w1 p.ws)) = none := hnone _ fun m => by
            unfold names at nn
            have e : (R.filter LR.isF) = (R.filter LR.isF).take i ++ p :: (R.filter LR.isF).drop (i + 1) := by
              have lt := (List.getElem?_eq_some_iff.mp ep).1
              rw [← (List.getElem?_eq_some_iff.mp ep).2, ← List.drop_eq_getElem_cons lt, List.take_append_drop]
            rw [e, List.map_append, List.nodup_append] at nn
            exact nn.2.2 _ m _ (List.mem_cons_self ..) rfl
          refine ⟨_, rfl, _, rfl, _, rfl, R, p, bd, wd, kv, H0, rfl, B3, hp, pF, s6, nwd0, hw, newp, (by rw [fl] at hi; omega), noC p hp pF, fnB_val nn (List.mem_filter.mpr ⟨hp, pF⟩), fun H6 n s7 hw7 hn => ?_⟩
          have n64 : n ≤ 64 := by
            have := Sx_len L.t guardB 9 hp rfl (fun _ => true)
            rw [List.filter_eq_self.mpr (by simp)] at this
            simp only [Bool.and_true] at this
            have fewS' : (R.filter fun r => r.isS).length ≤ 64 := fewS
            omega
          refine ⟨⟨_, _, rfl⟩, s7, _, hw7, ?_, fun z nz => ?_, fun p' hp' => ?_⟩
          · rw [List.length_append, List.length_singleton]
            omega
          · rw [List.take_add_one, ep, List.map_append] at nz
            rw [valV_snoc _ _ _ _ newp, if_neg (fun e => nz (List.mem_append.mpr (.inr (by rw [Sum.inr.inj e]; simp))))]
            exact hnone z fun m => nz (List.mem_append.mpr (.inl m))
          · rw [valV_snoc _ _ _ _ newp]
            by_cases z : (Sum.inr (w1 p'.ws) : Key) = Sum.inr (w1 p.ws)
            · exact ⟨n, by rw [if_pos z], n64⟩
            · rw [if_neg z]
              rw [List.take_add_one, ep] at hp'
              rcases List.mem_append.mp hp' with h | h
              · exact hall3 p' h
              · exact absurd (by rw [List.mem_singleton.mp h]) z
        · obtain ⟨⟨z2, z4, rfl⟩, s6, kv, hw, fewk, hnone, hall3⟩ := h
          rw [fl, List.take_length] at hall3
          refine ⟨s6 _ _ fz3, ?_⟩
          rw [← eH0] at s6
          have s7 := relock s6 hb4
          have hw7 : upd G bd (.dK (fnB R)) wd = some (.dK kv) := by
            rw [upd_ne wdb]
            exact hw
          have hb7 := s7 _ _ hb4
          have L7 := L4.same s7
          have sH7 := sH4.trans s7
          generalize upd G bd (.dK (fnB R)) = H7 at s7 hw7 hb7 L7 sH7 ⊢
          refine ⟨bd, .dK (fnB R), hb7, trivial, fun od4 => ?_⟩
          have B7 := lk (od := od4) L7 hb7
          generalize eHL7 : upd H7 bd (.frz od4 (.dK (fnB R))) = HL7 at B7
          have fz7 : HL7 bd = some (.frz od4 (.dK (fnB R))) := by rw [← eHL7]; exact upd_same
          have hwL : HL7 wd = some (.dK kv) := by
            rw [← eHL7, upd_ne wdb]
            exact hw7
          refine ⟨_, rfl, bd, od4, rfl, .inl ⟨fnB R, fz7, ?_⟩⟩
          refine for_it walk_keys (fun i σ' G => (∃ z2 z4, σ' = [some (.ref bd), some (.ref D), z2, some (.ref wd), z4]) ∧ Same HL7 G) ⟨⟨_, _, rfl⟩, Same.refl _⟩ (fun i σ' G _ h => h.2 _ _ fz7) (fun i x σ' G G' hi h hy => ?_) (fun σ' G h => ?_)
          · obtain ⟨rfl, k, v, hk, rfl⟩ := hy
            obtain ⟨⟨z2, z4, rfl⟩, s8⟩ := h
            obtain ⟨p, ep, rfl, hp, pF⟩ := fget hk
            obtain ⟨n, e1, n64⟩ := hall3 p (List.mem_filter.mpr ⟨hp, pF⟩)
            have B8 := B7.same s8
            have gb := B8.get (w1 p.ws)
            rw [fnB_val nn (List.mem_filter.mpr ⟨hp, pF⟩)] at gb
            refine ⟨_, rfl, _, rfl, wd, _, rfl, .inl ⟨kv, Sum.inr (w1 p.ws), .inl (s8 _ _ hwL), rfl, e1.symm⟩, _, _, rfl, rfl, _, rfl, ?_⟩
            rw [show decide ((400 : Int) < (n : Int)) = false from decide_eq_false (by omega)]
            refine iteF ?_
            refine ⟨_, rfl, _, rfl, bd, _, rfl, gb, R, p, rfl, B8.l, hp, by omega, fun H9 lg s9 nlg hlg => ⟨lg, rfl, ⟨_, SqL.of hlg⟩, ?_⟩⟩
            refine for_list (K := K) (a := lg) (xs := (Gx R 9 p.b).map V.ref) (fun i σ' G => (∃ z4, σ' = [some (.ref bd), some (.ref D), some (.str (w1 p.ws)), some (.ref wd), z4]) ∧ Same H9 G) ⟨⟨_, rfl⟩, Same.refl _⟩ (fun i σ' G _ h => SqL.of (h.2 _ _ hlg)) (fun j y σ' G5 hj h => ?_) (fun σ' G5 h => ?_)
            · obtain ⟨⟨z4, rfl⟩, s10⟩ := h
              rw [List.getElem?_map] at hj
              cases ew : (Gx R 9 p.b)[j]? with
              | none =>
                rw [ew] at hj
                cases hj
              | some b' =>
                rw [ew] at hj
                cases hj
                obtain ⟨t, ht, rfl⟩ := List.mem_map.mp (List.mem_of_getElem? ew)
                obtain ⟨ht, _⟩ := List.mem_filter.mp ht
                obtain ⟨t1, t2, _⟩ := Sx_mem L.t (fun _ => false) 9 hp rfl ht
                have B10 := (B8.same s9).same s10
                refine ⟨_, rfl, _, rfl, _, rfl, R, t, bd, wd, kv, 64, rfl, B10, t1, s10 _ _ (s9 _ _ (s8 _ _ hwL)), fun r hr' => ?_, fun H11 m s11 hm => ?_⟩
                · have cb := (List.mem_filter.mp hr').2
                  unfold callB at cb
                  rw [Bool.and_eq_true, decide_eq_true_iff, decide_eq_true_iff] at cb
                  unfold names at cb
                  obtain ⟨p', hp', e⟩ := List.mem_map.mp cb.2
                  rw [← e]
                  exact hall3 p' hp'
                · have c1 := Sx_len L.t guardB 9 t1 rfl (fun _ => true)
                  rw [List.filter_eq_self.mpr (by simp)] at c1
                  simp only [Bool.and_true] at c1
                  have fewS' : (R.filter fun r => r.isS).length ≤ 64 := fewS
                  have c2 := Sx_len L.t guardB 9 t1 rfl (callB R)
                  have c3 : (Cx0 R t.b).length ≤ 4 := Nat.le_trans c2 fewC
                  refine ⟨_, _, rfl, rfl, _, rfl, ?_⟩
                  rw [show decide ((400 : Int) < (m : Int)) = false from decide_eq_false (by omega)]
                  exact iteF ⟨⟨_, rfl⟩, s10.trans s11⟩
            · obtain ⟨⟨z4, rfl⟩, s10⟩ := h
              exact ⟨⟨_, _, rfl⟩, s8.trans (s9.trans s10)⟩
          · obtain ⟨⟨z2, z4, rfl⟩, s8⟩ := h
            refine ⟨s8 _ _ fz7, kk _ ?_⟩
            rw [← eHL7] at s8
            exact sH7.trans (relock s8 hb7)
end
end IC
namespace IC
open PySem L2 TL PyProof.Rows
/-- the sorted texts of zs, none twice -/
structure Srt (ys zs : List Str) : Prop where
  s : sortedS ys = true
  n : ys.Nodup
  m : ∀ z, z ∈ ys ↔ z ∈ zs
def recs (R : List LR) : List Str := (R.filter fun r => decide (w0 r.ws = Str.ofString "write")).map fun r => w1 r.ws
def calls (R : List LR) : List Str := (R.filter fun r => decide (w0 r.ws = Str.ofString "call")).map fun r => w1 r.ws
def unk (R : List LR) : List Str := (calls R).filter fun z => !decide (z ∈ names R)
def blks (R : List LR) : List Str := (R.filter fun r => decide (w0 r.ws = Str.ofString "block")).map fun r => w1 r.ws
def comS : List Str := ["doomed", "missing", "present", "refused", "waits"]
def ment (ws : List Str) : List Str := if w0 ws = Str.ofString "block" then ws.drop 3 else if w0 ws = Str.ofString "raise" ∨ w0 ws = Str.ofString "except" then ws.drop 1 else []
def ers (R : List LR) : List Str := comS ++ R.flatMap fun r => ment r.ws
theorem two_of {ws : List Str} (h : formB modesS ws = true) (k : w0 ws ∈ [Str.ofString "write", Str.ofString "call", Str.ofString "block", Str.ofString "raise", Str.ofString "function"]) : 1 < ws.length := by
  unfold formB at h
  simp only [List.mem_cons, List.not_mem_nil, or_false] at k
  rcases k with k | k | k | k | k <;> rw [k] at h
  · rw [if_pos (by decide +kernel)] at h
    have := of_decide_eq_true h
    omega
  · rw [if_pos (by decide +kernel)] at h
    have := of_decide_eq_true h
    omega
  · rw [if_neg (by decide +kernel), if_pos (by decide +kernel), Bool.and_eq_true] at h
    exact of_decide_eq_true h.1
  · rw [if_pos (by decide +kernel)] at h
    have := of_decide_eq_true h
    omega
  · rw [if_pos (by decide +kernel)] at h
    have := of_decide_eq_true h
    omega
structure LbT (K : PySem.W.Frag) (CL : Addr) : Prop where
  cL : Cls K CL
  lt : NoAttr K CL "_text"
  lr : NoAttr K CL "_rows"
  lb : NoAttr K CL "_bodies"
  ls : NoAttr K CL "_statements"
def lbf (tx : Str) (rl bd sl : Addr) : List (Str × V) := [("_text", .str tx), ("_rows", .ref rl), ("_bodies", .ref bd), ("_statements", .ref sl)]
structure LbAt (c : LC) (CL : Addr) (H : Hp) (R : List LR) (x dx : Addr) (tx : Str) (rl bd sl : Addr) : Prop where
  o : H x = some (.ins CL dx (lbf tx rl bd sl))
  rl : H rl = some (.lst (R.map fun r => .ref r.wl))
  bd : H bd = some (.dK (fnB R))
  sl : H sl = some (.lst ((R.filter LR.isS).map fun r => .ref r.wl))
  l : Lib c H R
  nn : (names R).Nodup
  fo : ∀ r ∈ R, formB modesS r.ws = true
theorem LbAt.same {c : LC} {CL : Addr} {H H' : Hp} {R : List LR} {x dx : Addr} {tx : Str} {rl bd sl : Addr} (L : LbAt c CL H R x dx tx rl bd sl) (s : Same H H') : LbAt c CL H' R x dx tx rl bd sl := ⟨s _ _ L.o, s _ _ L.rl, s _ _ L.bd, s _ _ L.sl, L.l.same s, L.nn, L.fo⟩
def spLst (c : LC) (CL : Addr) (f : List LR → List Str → Prop) : Sp := fun vs H Q _ => ∃ (R : List LR) (x dx : Addr) (tx : Str) (rl bd sl : Addr), vs = [.ref x] ∧ LbAt c CL H R x dx tx rl bd sl ∧ (R.filter LR.isF).length ≤ 12 ∧ ∀ (H' : Hp) (l : Addr) (ys : List Str), Same H H' → H l = none → f R ys → H' l = some (.lst (ys.map V.str)) → Q (.ref l) H'
section
variable {P : Program} {w : World} {K : PySem.W.Frag} {mg : Str → Option Value} {base : Heap} {c : LC} {CL tC : Addr}
theorem ok_ment {f : Addr} {fd : FuncData} (F : Fun K "mentioned_errors" "mentioned_errors" s_mentioned_errors f fd) (T : Bn mg) : FnOk P w K mg base CX0 1 f fd ["words"] (fun vs H Q _ => ∃ (l : Addr) (ws : List Str), vs = [.ref l] ∧ H l = some (.lst (ws.map V.str)) ∧ ws ≠ [] ∧ ∀ (H' : Hp) (l' : Addr), Same H H' → H l' = none → H' l' = some (.lst ((ment ws).map V.str)) → Q (.ref l') H') := by
  refine F.ok sc_mentioned_errors (fun vs H Q E h => ?_) (fun cdv A outer s H vs Q E hr h => ?_)
  · obtain ⟨l, ws, rfl, _⟩ := h
    rfl
  · obtain ⟨l, ws, rfl, hl, ne, kk⟩ := h
    refine ⟨_, (pss_cons (ps_if (pt_cmpR op_eq (pe_ix ix_list (pv 0) pe_int (fun _ _ => rfl)) pe_str (nomark _))
  (pss_one (ps_ret (pe_slice sl_list (pv 0) (po_some pe_int) po_none)))
  pss_nil)
  (pss_cons (ps_if (pt_cmpR op_in_seq (pe_ix ix_list (pv 0) pe_int (fun _ _ => rfl)) (pe_tup (pa_cons pe_str (pa_cons pe_str pa_nil))) (by rfl))
  (pss_one (ps_ret (pe_slice sl_list (pv 0) (po_some pe_int) po_none)))
  pss_nil)
  (pss_one (ps_ret (pe_lst pa_nil))))), ?_⟩
    unfold ment at kk
    refine ⟨_, rfl, l, _, 0, _, rfl, rfl, SqL.of hl, at0 ne, rfl, _, rfl, iteS (fun c1 => ?_) (fun c1 => ?_)⟩
    · rw [if_pos c1] at kk
      refine ⟨_, rfl, _, rfl, l, _, rfl, SqL.of hl, fun p np => ?_⟩
      rw [show (3 : Int) = ((3 : Nat) : Int) from rfl, cutR]
      exact kk _ p (Same.new np) np upd_same
    · rw [if_neg c1] at kk
      refine ⟨_, rfl, l, _, 0, _, rfl, rfl, SqL.of hl, at0 ne, (by show 2 ≤ sizeLine; decide), fun t nt => ?_⟩
      have s1 := Same.new (o := .tup [.str "raise", .str "except"]) nt
      refine ⟨t, ([Str.ofString "raise", Str.ofString "except"] : List Str).map V.str, rfl, .inr (SqT.of upd_same), rfl, flatS _, ?_⟩
      rw [inq]
      refine ⟨_, rfl, ite2 (fun c2 => ?_) (fun c2 => ?_)⟩
      · have c2 := of_decide_eq_true c2
        rw [if_pos (by simpa using c2)] at kk
        refine ⟨_, rfl, _, rfl, l, _, rfl, SqL.of (s1 _ _ hl), fun p np => ?_⟩
        rw [show (1 : Int) = ((1 : Nat) : Int) from rfl, cutR]
        exact kk _ p (s1.trans (Same.new np)) (s1.free np) upd_same
      · have c2 : ¬ w0 ws ∈ [Str.ofString "raise", Str.ofString "except"] := fun h => c2 (decide_eq_true h)
        rw [if_neg (by simpa using c2)] at kk
        exact ⟨(by show 0 ≤ sizeLine; decide), fun p np => kk _ p (s1.trans (Same.new np)) (s1.free np) upd_same⟩
theorem ok_functions {f : Addr} {fd : FuncData} (F : Fun K "functions" "Library.functions" s_Library_functions f fd) (T : Bn mg) (B : LbT K CL) : FnOk P w K mg base CX0 1 f fd ["self"] (spLst c CL fun R ys => Srt ys (names R)) := by
  refine F.ok sc_Library_functions (fun vs H Q E h => ?_) (fun cdv A outer s H vs Q E hr h => ?_)
  · obtain ⟨R, x, dx, tx, rl, bd, sl, rfl, _⟩ := h
    rfl
  · obtain ⟨R, x, dx, tx, rl, bd, sl, rfl, L, few, kk⟩ := h
    refine ⟨_, (pss_one (ps_ret (pe_callB (call_sortedD rfl) (by rfl) T.sorted (by decide +kernel) (pa_cons (pe_fld (pv 0) rfl) pa_nil)))), ?_⟩
    refine ⟨_, rfl, x, CL, dx, _, _, rfl, L.o, B.cL, B.lb, rfl, bd, fnB R, names R, rfl, .inl L.bd, ?_, ?_, fun ys p pm so np => kk _ p ys (Same.new np) np ⟨so, pm.nodup_iff.mpr L.nn, fun z => pm.mem_iff⟩ upd_same⟩
    · unfold fnB names
      rw [List.map_map, List.map_map]
      rfl
    · unfold names
      rw [List.length_map]
      omega
theorem ok_blocks {f : Addr} {fd : FuncData} (F : Fun K "blocks" "Library.blocks" s_Library_blocks f fd) (T : Bn mg) (B : LbT K CL) : FnOk P w K mg base CX0 1 f fd ["self"] (spLst c CL fun R ys => ys = blks R) := by
  refine F.ok sc_Library_blocks (fun vs H Q E h => ?_) (fun cdv A outer s H vs Q E hr h => ?_)
  · obtain ⟨R, x, dx, tx, rl, bd, sl, rfl, _⟩ := h
    rfl
  · obtain ⟨R, x, dx, tx, rl, bd, sl, rfl, L, few, kk⟩ := h
    refine ⟨_, (pss_one (ps_ret (pe_lc (own := [("words", 1)]) (g := gName 1) rfl sc_Library_blocks.nd (pi_list (pe_fld (pv 0) rfl)) (blkOk_by (N := ["self", "words"]) (sc := defScope s_Library_blocks) (by decide +kernel)) (fun _ _ _ _ _ => pg_name (i := 1) sc_Library_blocks.nd rfl (Or.inl rfl)) (fun _ _ _ _ _ => pts_one (pt_cmpR op_eq (pe_ix (show IxR _ (rIxL K) from ix_list) (pv 1) pe_int (fun _ _ => rfl)) pe_str (nomark _))) (fun _ _ _ _ _ => (pe_ix (show IxR _ (rIxL K) from ix_list) (pv 1) pe_int (fun _ _ => rfl)))))), ?_⟩
    refine ⟨_, rfl, x, CL, dx, _, _, rfl, L.o, B.cL, B.lr, rfl, rl, rfl, ⟨_, SqL.of L.rl⟩, fun D nD => ?_⟩
    refine lc_kept (K := K) (a := rl) (L := R) (fun r => .ref r.wl) (fun r => .str (w1 r.ws)) (fun r => decide (w0 r.ws = Str.ofString "block")) (by have := L.l.few; omega) L.rl nD (fun r G' Z N hx s1 hz hn => ?_) (fun G' s1 hD => ?_)
    · have hw := s1 _ _ (L.l.w r hx)
      refine ⟨by simp [wipe], ?_⟩
      refine ⟨_, rfl, r.wl, _, 0, _, rfl, rfl, SqL.of hw, at0 (L.l.ne r hx).1, rfl, _, rfl, iteS (fun c1 => ?_) (fun c1 => ?_)⟩
      · refine ⟨_, rfl, r.wl, _, 1, _, rfl, rfl, SqL.of hw, at1 ?_, hz _ (Same.refl _) (decide_eq_true c1)⟩
        exact two_of (L.fo r hx) (by rw [c1]; decide +kernel)
      · exact hn _ (Same.refl _) (decide_eq_false c1)
    · exact kk G' D _ s1 nD rfl (by rw [hD, blks, List.map_map]; rfl)
theorem ok_records {f : Addr} {fd : FuncData} (F : Fun K "records" "Library.records" s_Library_records f fd) (T : Bn mg) (B : LbT K CL) : FnOk P w K mg base CX0 1 f fd ["self"] (spLst c CL fun R ys => Srt ys (recs R)) := by
  refine F.ok sc_Library_records (fun vs H Q E h => ?_) (fun cdv A outer s H vs Q E hr h => ?_)
  · obtain ⟨R, x, dx, tx, rl, bd, sl, rfl, _⟩ := h
    rfl
  · obtain ⟨R, x, dx, tx, rl, bd, sl, rfl, L, few, kk⟩ := h
    refine ⟨_, (pss_one (ps_ret (pe_callB (cr_sortTx rfl) (by rfl) T.sorted (by decide +kernel) (pa_cons (pe_callTy (cr_setTx rfl) (by rfl) T.set (by decide +kernel) (pa_cons (pe_lc (own := [("words", 1)]) (g := gName 1) rfl sc_Library_records.nd (pi_list (pe_fld (pv 0) rfl)) (blkOk_by (N := ["self", "words"]) (sc := defScope s_Library_records) (by decide +kernel)) (fun _ _ _ _ _ => pg_name (i := 1) sc_Library_records.nd rfl (Or.inl rfl)) (fun _ _ _ _ _ => pts_one (pt_cmpR op_eq (pe_ix (show IxR _ (rIxL K) from ix_list) (pv 1) pe_int (fun _ _ => rfl)) pe_str (nomark _))) (fun _ _ _ _ _ => (pe_ix (show IxR _ (rIxL K) from ix_list) (pv 1) pe_int (fun _ _ => rfl)))) pa_nil)) pa_nil)))), ?_⟩
    refine ⟨_, rfl, x, CL, dx, _, _, rfl, L.o, B.cL, B.lr, rfl, rl, rfl, ⟨_, SqL.of L.rl⟩, fun D nD => ?_⟩
    refine lc_kept (K := K) (a := rl) (L := R) (fun r => .ref r.wl) (fun r => .str (w1 r.ws)) (fun r => decide (w0 r.ws = Str.ofString "write")) (by have := L.l.few; omega) L.rl nD (fun r G' Z N hx s1 hz hn => ?_) (fun G' s1 hD => ?_)
    · have hw := s1 _ _ (L.l.w r hx)
      refine ⟨by simp [wipe], ?_⟩
      refine ⟨_, rfl, r.wl, _, 0, _, rfl, rfl, SqL.of hw, at0 (L.l.ne r hx).1, rfl, _, rfl, iteS (fun c1 => ?_) (fun c1 => ?_)⟩
      · refine ⟨_, rfl, r.wl, _, 1, _, rfl, rfl, SqL.of hw, at1 ?_, hz _ (Same.refl _) (decide_eq_true c1)⟩
        exact two_of (L.fo r hx) (by rw [c1]; decide +kernel)
      · exact hn _ (Same.refl _) (decide_eq_false c1)
    · have hD2 : G' D = some (.lst ((recs R).map V.str)) := by
        rw [hD, recs, List.map_map]
        rfl
      have few2 : (recs R).length ≤ 500 := by
        unfold recs
        rw [List.length_map]
        exact Nat.le_trans (List.length_filter_le _ _) L.l.few
      refine ⟨D, recs R, rfl, .inl (SqL.of hD2), by omega, fun p M np ml mm mn => ?_⟩
      have s2 := Same.new (o := TxO w p M) np
      refine ⟨p, M, rfl, upd_same, fun ys p2 pm so np2 => ?_⟩
      have s3 := Same.new (o := .lst (ys.map V.str)) np2
      exact kk _ p2 ys (s1.trans (s2.trans s3)) (s1.free (s2.free np2)) ⟨so, pm.nodup_iff.mpr mn, fun z => pm.mem_iff.trans (mm z)⟩ upd_same
theorem ok_unknown {f : Addr} {fd : FuncData} (F : Fun K "unknown" "Library.unknown" s_Library_unknown f fd) (T : Bn mg) (B : LbT K CL) : FnOk P w K mg base CX0 1 f fd ["self"] (spLst c CL fun R ys => Srt ys (unk R)) := by
  refine F.ok sc_Library_unknown (fun vs H Q E h => ?_) (fun cdv A outer s H vs Q E hr h => ?_)
  · obtain ⟨R, x, dx, tx, rl, bd, sl, rfl, _⟩ := h
    rfl
  · obtain ⟨R, x, dx, tx, rl, bd, sl, rfl, L, few, kk⟩ := h
    have hu := hu_of hr
    refine ⟨_, (pss_cons (ps_setLc (i := 1) (own := [("words", 2)]) (g := gName 2) rfl sc_Library_unknown.nd rfl rfl rfl (pi_list (pe_fld (pv 0) rfl)) (blkOk_by (N := ["self", "called", "words", "name"]) (sc := defScope s_Library_unknown) (by decide +kernel)) (fun _ _ _ _ _ => pg_name (i := 2) sc_Library_unknown.nd rfl (Or.inl rfl)) (fun _ _ _ _ _ => pts_one (pt_cmpR op_eq (pe_ix (show IxR _ (rIxL K) from ix_list) (pv 2) pe_int (fun _ _ => rfl)) pe_str (nomark _))) (fun _ _ _ _ _ => (pe_ix (show IxR _ (rIxL K) from ix_list) (pv 2) pe_int (fun _ _ => rfl))))
  (pss_one (ps_ret (pe_callB (cr_sortTx rfl) (by rfl) T.sorted (by decide +kernel) (pa_cons (pe_callTy (cr_setTx rfl) (by rfl) T.set (by decide +kernel) (pa_cons (pe_lc (own := [("name", 3)]) (g := gName 3) rfl sc_Library_unknown.nd (pi_list (pv 1)) (blkOk_by (N := ["self", "called", "words", "name"]) (sc := defScope s_Library_unknown) (by decide +kernel)) (fun _ _ _ _ _ => pg_name (i := 3) sc_Library_unknown.nd rfl (Or.inl rfl)) (fun _ _ _ _ _ => pts_one (pt_cmp (pc_dnotin hu (pv 3) (show PE _ _ (tFld K (tVar 0) "_bodies") from pe_fld (pv 0) rfl)))) (fun _ _ _ _ _ => (pv 3))) pa_nil)) pa_nil))))), ?_⟩
    refine ⟨_, rfl, x, CL, dx, _, _, rfl, L.o, B.cL, B.lr, rfl, rl, rfl, ⟨_, SqL.of L.rl⟩, fun D nD => ?_⟩
    refine lc_kept (K := K) (a := rl) (L := R) (fun r => .ref r.wl) (fun r => .str (w1 r.ws)) (fun r => decide (w0 r.ws = Str.ofString "call")) (by have := L.l.few; omega) L.rl nD (fun r G' Z N hx s1 hz hn => ?_) (fun G' s1 hD => ?_)
    · have hw := s1 _ _ (L.l.w r hx)
      refine ⟨by simp [wipe], ?_⟩
      refine ⟨_, rfl, r.wl, _, 0, _, rfl, rfl, SqL.of hw, at0 (L.l.ne r hx).1, rfl, _, rfl, iteS (fun c1 => ?_) (fun c1 => ?_)⟩
      · refine ⟨_, rfl, r.wl, _, 1, _, rfl, rfl, SqL.of hw, at1 ?_, hz _ (Same.refl _) (decide_eq_true c1)⟩
        exact two_of (L.fo r hx) (by rw [c1]; decide +kernel)
      · exact hn _ (Same.refl _) (decide_eq_false c1)
    · have hD2 : G' D = some (.lst ((calls R).map V.str)) := by
        rw [hD, calls, List.map_map]
        rfl
      have few2 : (calls R).length ≤ 500 := by
        unfold calls
        rw [List.length_map]
        exact Nat.le_trans (List.length_filter_le _ _) L.l.few
      have L1 := L.same s1
      refine ⟨_, rfl, D, rfl, ⟨_, SqL.of hD2⟩, fun D2 nD2 => ?_⟩
      refine lc_kept (K := K) (a := D) (L := calls R) V.str V.str (fun z => !decide (z ∈ names R)) (by omega) hD2 nD2 (fun z G2 Z N hx s2 hz hn => ?_) (fun G2 s2 hE => ?_)
      · have L2 := L1.same s2
        refine ⟨by simp [wipe], ?_⟩
        refine ⟨_, rfl, _, rfl, x, CL, dx, _, _, rfl, L2.o, B.cL, B.lb, rfl, bd, _, rfl, DGet.k (k := Sum.inr z) L2.bd, ?_⟩
        rw [fnB_get]
        refine ⟨_, rfl, ?_⟩
        cases e : !decide (z ∈ names R) with
        | true => exact iteT ⟨_, rfl, hz _ (Same.refl _) e⟩
        | false => exact iteF (hn _ (Same.refl _) e)
      · have hE2 : G2 D2 = some (.lst ((unk R).map V.str)) := hE
        have few3 : (unk R).length ≤ 500 := Nat.le_trans (List.length_filter_le _ _) few2
        refine ⟨D2, unk R, rfl, .inl (SqL.of hE2), by omega, fun p M np ml mm mn => ?_⟩
        have s3 := Same.new (o := TxO w p M) np
        refine ⟨p, M, rfl, upd_same, fun ys p2 pm so np2 => ?_⟩
        have s4 := Same.new (o := .lst (ys.map V.str)) np2
        exact kk _ p2 ys (s1.trans (s2.trans (s3.trans s4))) (s1.free (s2.free (s3.free np2))) ⟨so, pm.nodup_iff.mpr mn, fun z => pm.mem_iff.trans (mm z)⟩ upd_same
def spErs (c : LC) (CL : Addr) : Sp := fun vs H Q _ => ∃ (R : List LR) (x dx : Addr) (tx : Str) (rl bd sl : Addr), vs = [.ref x] ∧ LbAt c CL H R x dx tx rl bd sl ∧ (ers R).length ≤ 900 ∧ ∀ (H' : Hp) (l : Addr) (ys : List Str), Same H H' → H l = none → Srt ys (ers R) → H' l = some (.lst (ys.map V.str)) → Q (.ref l) H'
theorem ok_errors {f : Addr} {fd : FuncData} (F : Fun K "errors" "Library.errors" s_Library_errors f fd) (T : Bn mg) (B : LbT K CL) (gC : TupG K mg "COMMON_ERRORS" tC comS) (D_mentioned_errors : Df P w K mg base 1 "mentioned_errors" ["words"] (fun vs H Q _ => ∃ (l : Addr) (ws : List Str), vs = [.ref l] ∧ H l = some (.lst (ws.map V.str)) ∧ ws ≠ [] ∧ ∀ (H' : Hp) (l' : Addr), Same H H' → H l' = none → H' l' = some (.lst ((ment ws).map V.str)) → Q (.ref l') H')) :
    FnOk P w K mg base CX0 2 f fd ["self"] (spErs c CL) := by
  refine F.ok sc_Library_errors (fun vs H Q E h => ?_) (fun cdv A outer s H vs Q E hr h => ?_)
  · obtain ⟨R, x, dx, tx, rl, bd, sl, rfl, _⟩ := h
    rfl
  · obtain ⟨R, x, dx, tx, rl, bd, sl, rfl, L, few, kk⟩ := h
    refine ⟨_, (pss_cons (ps_set (i := 1) sc_Library_errors.nd rfl (Or.inl rfl) (pe_callTy call_list_of (by rfl) T.list (by decide +kernel) (pa_cons (pe_glob (v := .ref _) rfl gC.m rfl) pa_nil)))
  (pss_cons (ps_for PassesOwn.never rfl (pi_list (pe_fld (pv 0) rfl)) (pg_name (i := 2) sc_Library_errors.nd rfl (Or.inl rfl))
  (pss_one (ps_expr (pe_bm PySem.F.plainAttrs_list PySem.F.slot_list_extend PySem.F.type_list_extend mt_extend (pv 1) (pa_cons (pe_df D_mentioned_errors hr (by first | decide | omega) rfl (pa_cons (pv 2) pa_nil)) pa_nil)))))
  (pss_one (ps_ret (pe_callB (cr_sortTx rfl) (by rfl) T.sorted (by decide +kernel) (pa_cons (pe_callTy (cr_setTx rfl) (by rfl) T.set (by decide +kernel) (pa_cons (pv 1) pa_nil)) pa_nil)))))), ?_⟩
    refine ⟨tC, comS.map V.str, rfl, .inr (gC.seq _), fun l nl => ?_⟩
    have s1 := Same.new (o := .lst (comS.map V.str)) nl
    refine ⟨_, rfl, x, CL, dx, _, _, rfl, s1 _ _ L.o, B.cL, B.lr, rfl, rl, rfl, ⟨_, SqL.of (s1 _ _ L.rl)⟩, ?_⟩
    refine for_list (K := K) (a := rl) (xs := R.map fun r => .ref r.wl) (fun i σ' G => (∃ z2, σ' = [some (.ref x), some (.ref l), z2]) ∧ Same H G ∧ G l = some (.lst ((comS ++ (R.take i).flatMap fun r => ment r.ws).map V.str))) ⟨⟨_, rfl⟩, s1, by rw [List.take_zero, List.flatMap_nil, List.append_nil]; exact upd_same⟩ (fun i σ' G _ h => SqL.of (h.2.1 _ _ L.rl)) (fun i y σ' G hi h => ?_) (fun σ' G h => ?_)
    · obtain ⟨⟨z2, rfl⟩, s2, hl2⟩ := h
      rw [List.getElem?_map] at hi
      cases ez : R[i]? with
      | none =>
        rw [ez] at hi
        cases hi
      | some r =>
        rw [ez] at hi
        cases hi
        have hr' := List.mem_of_getElem? ez
        obtain ⟨rest, er⟩ := fm_prefix (f := fun r : LR => ment r.ws) ez
        unfold ers at few
        rw [er] at few
        simp only [List.length_append] at few
        refine ⟨_, rfl, .inl ⟨rfl, _, SqL.of hl2⟩, _, rfl, r.wl, r.ws, rfl, s2 _ _ (L.l.w r hr'), (L.l.ne r hr').1, fun H3 l3 s3 nl3 hl3 => ?_⟩
        refine ⟨l, l3, _, _, rfl, rfl, s3 _ _ hl2, hl3, ?_, ⟨_, rfl⟩, ?_, ?_⟩
        · rw [List.length_map, List.length_map, List.length_append]
          exact Nat.le_of_lt (small1000 (by omega))
        · intro y u e
          rw [upd_ne (ne_of_none e nl)]
          exact s3 _ _ (s2 _ _ e)
        · rw [upd_same, List.take_add_one, ez, ← List.map_append, List.append_assoc, List.flatMap_append]
          simp
    · obtain ⟨⟨z2, rfl⟩, s2, hl2⟩ := h
      rw [List.length_map, List.take_length] at hl2
      refine ⟨_, rfl, l, ers R, rfl, .inl (SqL.of hl2), by omega, fun p M np ml mm mn => ?_⟩
      have s3 := Same.new (o := TxO w p M) np
      refine ⟨p, M, rfl, upd_same, fun ys p2 pm so np2 => ?_⟩
      have s4 := Same.new (o := .lst (ys.map V.str)) np2
      exact kk _ p2 ys (s2.trans (s3.trans s4)) (s2.free (s3.free np2)) ⟨so, pm.nodup_iff.mpr mn, fun z => pm.mem_iff.trans (mm z)⟩ upd_same
end
end IC
namespace IC
open PySem L2 TL PyProof.Rows
section
variable {P : Program} {w : World} {K : PySem.W.Frag} {mg : Str → Option Value} {base : Heap} {c : LC} {CL tC : Addr}
structure Few (R : List LR) : Prop where
  f : (R.filter LR.isF).length ≤ 12
  s : (R.filter LR.isS).length ≤ 64
  r : ∀ ys, Srt ys (recs R) → ys.length ≤ 6
  e : ∀ ys, Srt ys (ers R) → ys.length ≤ 11
  b : (blks R).length ≤ 16
  u : ∀ ys, Srt ys (unk R) → ys.length ≤ 4
  l : (ers R).length ≤ 900
def spCnt (c : LC) (CL : Addr) : Sp := fun vs H Q _ => ∃ (R : List LR) (x dx : Addr) (tx : Str) (rl bd sl : Addr), vs = [.ref x] ∧ LbAt c CL H R x dx tx rl bd sl ∧ Few R ∧ ∀ (H' : Hp), Same H H' → Q .non H'
theorem ok_cnt {f : Addr} {fd : FuncData} (F : Fun K "_check_counts" "Library._check_counts" s_Library__check_counts f fd) (T : Bn mg) (B : LbT K CL) (M_records : MDf P w K mg base CX0 1 CL "records" ["self"] [] (spLst c CL fun R ys => Srt ys (recs R))) (M_errors : MDf P w K mg base CX0 2 CL "errors" ["self"] [] (spErs c CL))
    (M_blocks : MDf P w K mg base CX0 1 CL "blocks" ["self"] [] (spLst c CL fun R ys => ys = blks R)) (M_unknown : MDf P w K mg base CX0 1 CL "unknown" ["self"] [] (spLst c CL fun R ys => Srt ys (unk R))) : FnOk P w K mg base CX0 3 f fd ["self"] (spCnt c CL) := by
  refine F.ok sc_Library__check_counts (fun vs H Q E h => ?_) (fun cdv A outer s H vs Q E hr h => ?_)
  · obtain ⟨R, x, dx, tx, rl, bd, sl, rfl, _⟩ := h
    rfl
  · obtain ⟨R, x, dx, tx, rl, bd, sl, rfl, L, few, kk⟩ := h
    refine ⟨_, (pss_cons (ps_set (i := 1) sc_Library__check_counts.nd rfl (Or.inl rfl) (pe_tup (pa_cons (pe_tup (pa_cons pe_str (pa_cons (pe_callB call_lenD (by rfl) T.len PySem.boot_len (pa_cons (pe_fld (pv 0) rfl) pa_nil)) (pa_cons pe_int pa_nil)))) (pa_cons (pe_tup (pa_cons pe_str (pa_cons (pe_callB call_len_seq (by rfl) T.len PySem.boot_len (pa_cons (pe_fld (pv 0) rfl) pa_nil)) (pa_cons pe_int pa_nil)))) (pa_cons (pe_tup (pa_cons pe_str (pa_cons (pe_callB call_len_seq (by rfl) T.len PySem.boot_len (pa_cons (pe_md0 M_records B.cL hr (by first | decide | omega) (pv 0)) pa_nil)) (pa_cons pe_int pa_nil)))) (pa_cons (pe_tup (pa_cons pe_str (pa_cons (pe_callB call_len_seq (by rfl) T.len PySem.boot_len (pa_cons (pe_md0 M_errors B.cL hr (by first | decide | omega) (pv 0)) pa_nil)) (pa_cons pe_int pa_nil)))) (pa_cons (pe_tup (pa_cons pe_str (pa_cons (pe_callB call_len_seq (by rfl) T.len PySem.boot_len (pa_cons (pe_md0 M_blocks B.cL hr (by first | decide | omega) (pv 0)) pa_nil)) (pa_cons pe_int pa_nil)))) (pa_cons (pe_tup (pa_cons pe_str (pa_cons (pe_callB call_len_seq (by rfl) T.len PySem.boot_len (pa_cons (pe_md0 M_unknown B.cL hr (by first | decide | omega) (pv 0)) pa_nil)) (pa_cons pe_int pa_nil)))) pa_nil))))))))
  (pss_one (ps_for PassesOwn.never rfl (pi_tup (pv 1)) (pg_tup rfl (pgs_cons (pg_name (i := 2) sc_Library__check_counts.nd rfl (Or.inl rfl)) (pgs_cons (pg_name (i := 3) sc_Library__check_counts.nd rfl (Or.inl rfl)) (pgs_cons (pg_name (i := 4) sc_Library__check_counts.nd rfl (Or.inl rfl)) pgs_nil))))
  (pss_one (ps_if (pt_cmpR op_gt (pv 3) (pv 4) (nomark _))
  pss_dead
  pss_nil))))), ?_⟩
    have three : (3 : Nat) ≤ sizeLine := by decide
    refine ⟨_, rfl, x, CL, dx, _, _, rfl, L.o, B.cL, B.lb, rfl, bd, fnB R, rfl, L.bd, three, fun t1 n1 => ?_⟩
    have s1 := Same.new (o := .tup [.str "functions", .int (fnB R).length, .int 12]) n1
    have h1 : upd H t1 (.tup [.str "functions", .int (fnB R).length, .int 12]) t1 = some (.tup [.str "functions", .int (fnB R).length, .int 12]) := upd_same
    generalize upd H t1 (.tup [.str "functions", .int (fnB R).length, .int 12]) = H1 at s1 h1 ⊢
    have L1 := L.same s1
    refine ⟨_, rfl, x, CL, dx, _, _, rfl, L1.o, B.cL, B.ls, rfl, sl, _, rfl, .inl (SqL.of L1.sl), three, fun t2 n2 => ?_⟩
    rw [List.length_map]
    have s2 := Same.new (o := .tup [.str "statements", .int (R.filter LR.isS).length, .int 80]) n2
    have h2 : upd H1 t2 (.tup [.str "statements", .int (R.filter LR.isS).length, .int 80]) t2 = some (.tup [.str "statements", .int (R.filter LR.isS).length, .int 80]) := upd_same
    generalize upd H1 t2 (.tup [.str "statements", .int (R.filter LR.isS).length, .int 80]) = H2 at s2 h2 ⊢
    have L2 := L1.same s2
    refine ⟨_, rfl, x, dx, _, rfl, L2.o, rfl, R, x, dx, tx, rl, bd, sl, rfl, L2, few.f, fun G3 l3 y3 g3 nl3 hy3 hl3 => ⟨l3, _, rfl, .inl (SqL.of hl3), three, fun t3 n3 => ?_⟩⟩
    rw [List.length_map]
    have s3 := g3.trans (Same.new (o := .tup [.str "records", .int y3.length, .int 6]) n3)
    have h3 : upd G3 t3 (.tup [.str "records", .int y3.length, .int 6]) t3 = some (.tup [.str "records", .int y3.length, .int 6]) := upd_same
    generalize upd G3 t3 (.tup [.str "records", .int y3.length, .int 6]) = H3 at s3 h3 ⊢
    have L3 := L2.same s3
    refine ⟨_, rfl, x, dx, _, rfl, L3.o, rfl, R, x, dx, tx, rl, bd, sl, rfl, L3, few.l, fun G4 l4 y4 g4 nl4 hy4 hl4 => ⟨l4, _, rfl, .inl (SqL.of hl4), three, fun t4 n4 => ?_⟩⟩
    rw [List.length_map]
    have s4 := g4.trans (Same.new (o := .tup [.str "errors", .int y4.length, .int 11]) n4)
    have h4 : upd G4 t4 (.tup [.str "errors", .int y4.length, .int 11]) t4 = some (.tup [.str "errors", .int y4.length, .int 11]) := upd_same
    generalize upd G4 t4 (.tup [.str "errors", .int y4.length, .int 11]) = H4 at s4 h4 ⊢
    have L4 := L3.same s4
    refine ⟨_, rfl, x, dx, _, rfl, L4.o, rfl, R, x, dx, tx, rl, bd, sl, rfl, L4, few.f, fun G5 l5 y5 g5 nl5 hy5 hl5 => ⟨l5, _, rfl, .inl (SqL.of hl5), three, fun t5 n5 => ?_⟩⟩
    rw [List.length_map]
    have s5 := g5.trans (Same.new (o := .tup [.str "blocks", .int y5.length, .int 16]) n5)
    have h5 : upd G5 t5 (.tup [.str "blocks", .int y5.length, .int 16]) t5 = some (.tup [.str "blocks", .int y5.length, .int 16]) := upd_same
    generalize upd G5 t5 (.tup [.str "blocks", .int y5.length, .int 16]) = H5 at s5 h5 ⊢
    have L5 := L4.same s5
    refine ⟨_, rfl, x, dx, _, rfl, L5.o, rfl, R, x, dx, tx, rl, bd, sl, rfl, L5, few.f, fun G6 l6 y6 g6 nl6 hy6 hl6 => ⟨l6, _, rfl, .inl (SqL.of hl6), three, fun t6 n6 => ?_⟩⟩
    rw [List.length_map]
    have s6 := g6.trans (Same.new (o := .tup [.str "unknown", .int y6.length, .int 4]) n6)
    have h6 : upd G6 t6 (.tup [.str "unknown", .int y6.length, .int 4]) t6 = some (.tup [.str "unknown", .int y6.length, .int 4]) := upd_same
    generalize upd G6 t6 (.tup [.str "unknown", .int y6.length, .int 4]) = H6 at s6 h6 ⊢
    have L6 := L5.same s6
    refine ⟨(by show 6 ≤ sizeLine; decide), fun t nt => ?_⟩
    have s7 := Same.new (o := .tup [.ref t1, .ref t2, .ref t3, .ref t4, .ref t5, .ref t6]) nt
    have h7 : upd H6 t (.tup [.ref t1, .ref t2, .ref t3, .ref t4, .ref t5, .ref t6]) t = some (.tup ([t1, t2, t3, t4, t5, t6].map V.ref)) := upd_same
    have w6 := s7 _ _ h6
    have w5 := s7 _ _ (s6 _ _ h5)
    have w4 := s7 _ _ (s6 _ _ (s5 _ _ h4))
    have w3 := s7 _ _ (s6 _ _ (s5 _ _ (s4 _ _ h3)))
    have w2 := s7 _ _ (s6 _ _ (s5 _ _ (s4 _ _ (s3 _ _ h2))))
    have w1 := s7 _ _ (s6 _ _ (s5 _ _ (s4 _ _ (s3 _ _ (s2 _ _ h1)))))
    have sAll := s1.trans (s2.trans (s3.trans (s4.trans (s5.trans (s6.trans s7)))))
    generalize upd H6 t (.tup [.ref t1, .ref t2, .ref t3, .ref t4, .ref t5, .ref t6]) = H7 at h7 w1 w2 w3 w4 w5 w6 sAll ⊢
    have one : ∀ a ∈ [t1, t2, t3, t4, t5, t6], ∃ (z : Str) (m k : Nat), H7 a = some (.tup [.str z, .int m, .int k]) ∧ m ≤ k := fun a ha => by
      simp only [List.mem_cons, List.not_mem_nil, or_false] at ha
      rcases ha with rfl | rfl | rfl | rfl | rfl | rfl
      · refine ⟨_, (fnB R).length, 12, w1, ?_⟩
        unfold fnB
        rw [List.length_map]
        exact few.f
      · exact ⟨_, (R.filter LR.isS).length, 80, w2, Nat.le_trans few.s (by decide)⟩
      · exact ⟨_, y3.length, 6, w3, few.r _ hy3⟩
      · exact ⟨_, y4.length, 11, w4, few.e _ hy4⟩
      · exact ⟨_, y5.length, 16, w5, by rw [show y5 = blks R from hy5]; exact few.b⟩
      · exact ⟨_, y6.length, 4, w6, few.u _ hy6⟩
    generalize [t1, t2, t3, t4, t5, t6] = ts at one h7
    refine ⟨_, rfl, t, rfl, ⟨_, SqT.of h7⟩, ?_⟩
    refine for_tup (K := K) (a := t) (xs := ts.map V.ref) (fun i σ' G => (∃ z2 z3 z4, σ' = [some (.ref x), some (.ref t), z2, z3, z4]) ∧ Same H7 G) ⟨⟨_, _, _, rfl⟩, Same.refl _⟩ (fun i σ' G _ h => SqT.of (h.2 _ _ h7)) (fun i y σ' G hi h => ?_) (fun σ' G h => kk _ (sAll.trans h.2))
    obtain ⟨⟨z2, z3, z4, rfl⟩, s8⟩ := h
    rw [List.getElem?_map] at hi
    cases ez : ts[i]? with
    | none =>
      rw [ez] at hi
      cases hi
    | some a =>
      rw [ez] at hi
      cases hi
      obtain ⟨z, m, k, ha, le⟩ := one a (List.mem_of_getElem? ez)
      refine ⟨a, _, rfl, SqT.of (s8 _ _ ha), rfl, _, _, rfl, _, _, rfl, _, _, rfl, rfl, ?_⟩
      refine ⟨_, rfl, _, rfl, _, _, rfl, rfl, _, rfl, ?_⟩
      rw [show decide ((k : Int) < (m : Int)) = false from decide_eq_false (by omega)]
      exact iteF ⟨⟨_, _, _, rfl⟩, s8⟩
theorem ok_len {f : Addr} {fd : FuncData} (F : Fun K "__len__" "Library.__len__" s_Library___len__ f fd) (T : Bn mg) (B : LbT K CL) : FnOk P w K mg base CX0 1 f fd ["self"] (fun vs H Q _ => ∃ (R : List LR) (x dx : Addr) (tx : Str) (rl bd sl : Addr), vs = [.ref x] ∧ LbAt c CL H R x dx tx rl bd sl ∧ Q (.int (R.filter LR.isS).length) H) := by
  refine F.ok sc_Library___len__ (fun vs H Q E h => ?_) (fun cdv A outer s H vs Q E hr h => ?_)
  · obtain ⟨R, x, dx, tx, rl, bd, sl, rfl, _⟩ := h
    rfl
  · obtain ⟨R, x, dx, tx, rl, bd, sl, rfl, L, kk⟩ := h
    refine ⟨_, (pss_one (ps_ret (pe_callB call_len_seq (by rfl) T.len PySem.boot_len (pa_cons (pe_fld (pv 0) rfl) pa_nil)))), ?_⟩
    refine ⟨_, rfl, x, CL, dx, _, _, rfl, L.o, B.cL, B.ls, rfl, sl, _, rfl, .inl (SqL.of L.sl), ?_⟩
    rw [List.length_map]
    exact kk
end
end IC
namespace IC
open PySem L2 TL PyProof.Rows
/-! ### calls stand behind maybe and repeat -/
inductive Grd (R : List LR) : Addr → Prop
  | here {s} : s ∈ R → s.isS = true → guardB s = true → Grd R s.b
  | up {s} : s ∈ R → s.isS = true → Grd R s.par → Grd R s.b
  | st {r s} : r ∈ R → r.isF = false → r.isS = false → s ∈ R → s.isS = true → s.a = r.st → Grd R s.par → Grd R r.b
theorem Grd.mono {R R' : List LR} (h : ∀ r ∈ R, r ∈ R') {b : Addr} (g : Grd R b) : Grd R' b := by
  induction g with
  | here h1 h2 h3 => exact .here (h _ h1) h2 h3
  | up h1 h2 _ ih => exact .up (h _ h1) h2 ih
  | st h1 h2 h3 h4 h5 h6 _ ih => exact .st (h _ h1) h2 h3 (h _ h4) h5 h6 ih
theorem Grd.not_f {R : List LR} (T : Tre R) {p : LR} (hp : p ∈ R) (pF : p.isF = true) : ¬ Grd R p.b := fun g => by
  have kS := (p.kinds.1 pF).2.2
  generalize e : p.b = b at g
  cases g with
  | here h1 h2 _ =>
    rw [eq_of_b T.nb hp h1 e] at kS
    rw [kS] at h2
    cases h2
  | up h1 h2 _ =>
    rw [eq_of_b T.nb hp h1 e] at kS
    rw [kS] at h2
    cases h2
  | st h1 h2 _ _ _ _ _ =>
    rw [eq_of_b T.nb hp h1 e] at pF
    rw [pF] at h2
    cases h2
/-- what stands unguarded below b is guarded only where b is -/
theorem Grd.of_inner {R : List LR} (T : Tre R) {s : LR} (hs : s ∈ R) (sS : s.isS = true) (ng : guardB s = false) {b : Addr} (hb : b ∈ inner R s) (g : Grd R b) : Grd R s.par := by
  obtain ⟨r, hr, e, _, k⟩ := inner_row T hs sS hb
  cases g with
  | here h1 h2 h3 =>
    have er := eq_of_b T.nb hr h1 e
    rcases k with k | k
    · rw [← er, k, ng] at h3
      cases h3
    · rw [er, h2] at k
      cases k.2.1
  | up h1 h2 h3 =>
    have er := eq_of_b T.nb hr h1 e
    rcases k with k | k
    · rw [← k, er]
      exact h3
    · rw [er, h2] at k
      cases k.2.1
  | st h1 h2 h3 h4 h5 h6 h7 =>
    have er := eq_of_b T.nb hr h1 e
    rcases k with k | k
    · rw [← er, k, sS] at h3
      cases h3
    · rw [← er] at h6
      rw [eq_of_a T.na hs h4 sS h5 (k.2.2.symm.trans h6.symm)]
      exact h7
theorem Grd.of_Sx {R : List LR} (T : Tre R) : ∀ (d : Nat) {b : Addr} {t : LR}, t ∈ Sx R guardB d b → Grd R t.par → Grd R b
  | 0, _, _, h, _ => by cases h
  | d + 1, b, t, h, g => by
    obtain ⟨s, hs, h⟩ := List.mem_flatMap.mp h
    obtain ⟨s1, s2, s3⟩ := kids_mem hs
    rcases List.mem_cons.mp h with rfl | h
    · rw [← s3]
      exact g
    · split at h
      · cases h
      · rename_i ng
        obtain ⟨b', hb', h⟩ := List.mem_flatMap.mp h
        have := Grd.of_inner T s1 s2 (Bool.eq_false_iff.mpr ng) hb' (Grd.of_Sx T d h g)
        rw [← s3]
        exact this
def gP (hs : List (List Str)) (n : Nat) : Bool := (hs.take n).any fun p => decide (w0 p ∈ guaS)
def okG (N : List Str) : PSt → List (Nat × List Str) → Prop
  | _, [] => True
  | s, (n, ws) :: L => (w0 ws = Str.ofString "call" → w1 ws ∈ N → gP s.hs n = true) ∧ okG N (stepP s n ws) L
structure Lnk2 (N : List Str) (R : List LR) (PH : List Hd) : Prop where
  gc : ∀ r ∈ R, w0 r.ws = Str.ofString "call" → w1 r.ws ∈ N → Grd R r.par
  gs : ∀ (j : Nat) (p q : Hd), PH[j]? = some p → PH[j + 1]? = some q → q.r.isF = false ∧ (q.r.isS = true → q.r.par = p.r.b) ∧ (q.r.isS = false → ∃ s ∈ R, s.isS = true ∧ s.a = q.r.st ∧ s.par = p.r.b)
theorem Lnk2.nil {N : List Str} : Lnk2 N [] [] := ⟨nofun, nofun⟩
/-- with it no known call stands unguarded in a function -/
theorem Lnk2.none {R : List LR} {PH : List Hd} (T : Tre R) (g : Lnk2 (names R) R PH) {p : LR} (hp : p ∈ R) (pF : p.isF = true) : Cx0 R p.b = [] := by
  unfold Cx0
  rw [List.filter_eq_nil_iff]
  intro t ht h
  unfold callB at h
  rw [Bool.and_eq_true, decide_eq_true_iff, decide_eq_true_iff] at h
  obtain ⟨t1, _, _⟩ := Sx_mem T guardB 9 hp rfl ht
  exact Grd.not_f T hp pF (Grd.of_Sx T 9 ht (g.gc t t1 h.1 h.2))
theorem guard_S {r : LR} (h : guardB r = true) : r.isS = true := by
  have h := of_decide_eq_true h
  unfold LR.isS LR.isF LR.isX LR.isL
  rcases List.mem_cons.mp h with h | h
  · rw [h]
    decide +kernel
  · rw [List.mem_singleton.mp h]
    decide +kernel
theorem Lnk2.gp {N : List Str} {R : List LR} {PH : List Hd} (g : Lnk2 N R PH) (hr : ∀ p ∈ PH, p.r ∈ R) (i : Nat) {h : Hd} (e : PH[i]? = some h) (gh : guardB h.r = true) : ∀ (j : Nat) (p : Hd), PH[i + j]? = some p → Grd R p.r.b
  | 0, p, ep => by
    rw [Nat.add_zero, e] at ep
    cases ep
    exact .here (hr h (List.mem_of_getElem? e)) (guard_S gh) gh
  | j + 1, p, ep => by
    have lt : i + j < PH.length := by
      have := (List.getElem?_eq_some_iff.mp ep).1
      omega
    have eq : PH[i + j]? = some PH[i + j] := List.getElem?_eq_getElem lt
    have ih := Lnk2.gp g hr i e gh j _ eq
    obtain ⟨g0, g1, g2⟩ := g.gs (i + j) _ p eq ep
    have pm := hr p (List.mem_of_getElem? ep)
    cases z : p.r.isS with
    | true =>
      refine .up pm z ?_
      rw [g1 z]
      exact ih
    | false =>
      obtain ⟨s, hs, s1, s2, s3⟩ := g2 z
      exact .st pm g0 z hs s1 s2 (by rw [s3]; exact ih)
theorem Lnk2.step {N : List Str} {R : List LR} {PH PH' : List Hd} {s : PSt} {n k k' : Nat} {ws : List Str} {r : LR} (h : Lnk R PH s) (g : Lnk2 N R PH) (hs : Stp ws n PH k r PH' k') (hw : r.ws = ws) (ok : w0 ws = Str.ofString "call" → w1 ws ∈ N → gP s.hs n = true) : Lnk2 N (R ++ [r]) PH' := by
  have mem : ∀ {x : LR}, x ∈ R ++ [r] → x ∈ R ∨ x = r := fun h => (List.mem_append.mp h).imp id List.mem_singleton.mp
  have inl : ∀ x ∈ R, x ∈ R ++ [r] := fun x h => List.mem_append.mpr (.inl h)
  have old : ∀ (j : Nat) (p q : Hd), PH[j]? = some p → PH[j + 1]? = some q → q.r.isF = false ∧ (q.r.isS = true → q.r.par = p.r.b) ∧ (q.r.isS = false → ∃ x ∈ R ++ [r], x.isS = true ∧ x.a = q.r.st ∧ x.par = p.r.b) := fun j p q e1 e2 => by
    obtain ⟨g0, g1, g2⟩ := g.gs j p q e1 e2
    refine ⟨g0, g1, fun z => ?_⟩
    obtain ⟨x, hx, x1⟩ := g2 z
    exact ⟨x, inl x hx, x1⟩
  have tk : ∀ (m j : Nat) (p : Hd), (PH.take m)[j]? = some p → PH[j]? = some p := fun m j p e => by
    rw [List.getElem?_take] at e
    split at e
    · exact e
    · cases e
  cases hs with
  | @f o od n0 rn c1 =>
    refine ⟨fun x hx e1 e2 => ?_, fun j p q e1 e2 => ?_⟩
    · rcases mem hx with hx | rfl
      · exact (g.gc x hx e1 e2).mono inl
      · rw [hw, c1] at e1
        exact absurd e1 (by decide +kernel)
    · cases e2
  | @l p o od rn c1 hp pF r1 r2 =>
    have kk : r.isF = false ∧ r.isS = false := by
      rcases c1 with h | h
      · have := r.kinds.2.1 (by unfold LR.isX; rw [hw]; exact decide_eq_true h)
        exact ⟨this.1, this.2.2⟩
      · have := r.kinds.2.2.1 (by unfold LR.isL; rw [hw]; exact decide_eq_true h)
        exact ⟨this.1, this.2.2⟩
    have kS := kk.2
    have kF := kk.1
    have lt := (List.getElem?_eq_some_iff.mp hp).1
    have ln : (PH.take n).length = n := by
      rw [List.length_take]
      omega
    refine ⟨fun x hx e1 e2 => ?_, fun j a q e1 e2 => ?_⟩
    · rcases mem hx with hx | rfl
      · exact (g.gc x hx e1 e2).mono inl
      · rw [hw] at e1
        rcases c1 with c1 | c1 <;> rw [c1] at e1 <;> exact absurd e1 (by decide +kernel)
    · rcases Nat.lt_or_ge (j + 1) n with l1 | l1
      · rw [List.getElem?_append_left (by omega)] at e1 e2
        exact old j a q (tk _ _ _ e1) (tk _ _ _ e2)
      · rw [List.getElem?_append_right (by omega), ln] at e2
        match hj : j + 1 - n, e2 with
        | 0, e2 =>
          cases e2
          rw [List.getElem?_append_left (by omega)] at e1
          have ea := tk _ _ _ e1
          have ep : PH[j + 1]? = some p := by
            rw [show j + 1 = n by omega]
            exact hp
          obtain ⟨g0, g1, g2⟩ := g.gs j a p ea ep
          refine ⟨kF, (fun z => by
            rw [show (⟨r, o, od⟩ : Hd).r.isS = false from kS] at z
            cases z), fun _ => ?_⟩
          cases z : p.r.isS with
          | true => exact ⟨p.r, inl _ (h.hr p (List.mem_of_getElem? hp)), z, (r1 z).symm, g1 z⟩
          | false =>
            obtain ⟨x, hx, x1, x2, x3⟩ := g2 z
            exact ⟨x, inl x hx, x1, x2.trans (r2 z).symm, x3⟩
  | @s p o od m nm rn c1 c2 c3 hp rp rk =>
    have kS : r.isS = true := by
      unfold LR.isS LR.isF LR.isX LR.isL
      rw [hw, decide_eq_false c1, decide_eq_false c2, decide_eq_false c3]
      rfl
    have lt := (List.getElem?_eq_some_iff.mp hp).1
    have lm : (PH.take (m + 1)).length = m + 1 := by
      rw [List.length_take]
      omega
    refine ⟨fun x hx e1 e2 => ?_, fun j a q e1 e2 => ?_⟩
    · rcases mem hx with hx | rfl
      · exact (g.gc x hx e1 e2).mono inl
      · rw [hw] at e1 e2
        have gg := ok e1 e2
        unfold gP at gg
        rw [← h.hs, ← List.map_take, List.any_map, nm] at gg
        obtain ⟨y, hy, gy⟩ := List.any_eq_true.mp gg
        obtain ⟨i, hi⟩ := List.getElem?_of_mem hy
        have hi2 := tk _ _ _ hi
        have li : i < m + 1 := by
          have := (List.getElem?_eq_some_iff.mp hi).1
          omega
        rw [rp]
        refine (Lnk2.gp g h.hr i hi2 gy (m - i) p ?_).mono inl
        rw [show i + (m - i) = m by omega]
        exact hp
    · rcases Nat.lt_or_ge (j + 1) (m + 1) with l1 | l1
      · rw [List.getElem?_append_left (by omega)] at e1 e2
        exact old j a q (tk _ _ _ e1) (tk _ _ _ e2)
      · rw [List.getElem?_append_right (by omega), lm] at e2
        by_cases z : w0 ws ∈ leadS
        · rw [if_pos z] at e2
          match hj : j + 1 - (m + 1), e2 with
          | 0, e2 =>
            cases e2
            rw [List.getElem?_append_left (by omega)] at e1
            have ea := tk _ _ _ e1
            rw [show j = m by omega, hp] at ea
            cases ea
            refine ⟨(r.kinds.2.2.2 kS).1, fun _ => rp, fun z => ?_⟩
            rw [show (⟨r, o, od⟩ : Hd).r.isS = true from kS] at z
            cases z
        · rw [if_neg z] at e2
          cases e2
end IC
namespace IC
open PySem L2 TL PyProof.Rows
structure CDf0 (P : Program) (w : World) (K : PySem.W.Frag) (mg : Str → Option Value) (base : Heap) (k : Nat) (x : Str) (C : Addr) (sp : Sp) : Prop where
  ex : ∃ (f : Addr) (fd : FuncData), Mk K C f ∧ FnOk P w K mg base CX0 k f fd ["self"] sp ∧ Binds K fd ["self"] [] ∧ mg x = some (.ref C)
theorem pe_mkw0 {X : Cx} {k j : Nat} {x : Str} {C : Addr} {sp : Sp} {p pos : Pos} (D : CDf0 X.prog X.w X.K X.mg X.base k x C sp) (hr : Room j X.A) (hk : k + 1 ≤ j) (hg : Gl X x) (hdb : (x == ("__debug__" : Str)) = false := by decide) : PE X (.Call (.Name x p) [] [] pos) (tMake C sp [] E0 tNil) := by
  rcases D.ex with ⟨f, fd, M, F, hb, hm⟩
  exact pe_make0 M F (hr.mono hk) hg hm hb .nil pass0 hdb
def nonS : List Str := ["function", "except", "finally"]
def s0P : PSt := ⟨[], [], false⟩
def rowsT (L : List (Nat × List Str)) : Str := Txt.join (Str.ofString "\n") (L.map fun p => rowT p.1 p.2)
def Good (L : List (Nat × List Str)) : Prop := ∀ R : List LR, R.map (fun r => r.ws) = L.map (·.2) → Few R ∧ (R.filter fun r => r.isS && callB R r).length ≤ 4
structure Lines (L : List (Nat × List Str)) (s : PSt) : Prop where
  rd : Reads s0P L s
  ok : okG s.nm s0P L
  lk : s.lk = false
  br : bareP s.hs 0 = false
  ne : L ≠ []
  few : L.length ≤ 100
  len : (rowsT L).length ≤ 6000
  good : Good L
theorem split_rows {L : List (Nat × List Str)} (ne : L ≠ []) (h : ∀ p ∈ L, RowOk p.1 p.2) : Txt.split (rowsT L) (Str.ofString "\n") = L.map fun p => rowT p.1 p.2 := by
  refine split_join (s := 10) (S := []) (by decide +kernel) (by decide +kernel) (fun e => ne (List.map_eq_nil_iff.mp e)) fun z hz m => ?_
  obtain ⟨p, hp, rfl⟩ := List.mem_map.mp hz
  rw [tl_row] at m
  rcases List.mem_append.mp m with m | m
  · have := List.eq_of_mem_replicate m
    omega
  · rw [tl_joinW] at m
    have : ∀ l : List (List Nat), 10 ∈ joinL [32] l → ∃ x ∈ l, 10 ∈ x := by
      intro l
      induction l with
      | nil => intro m; cases m
      | cons a l ih =>
        intro m
        cases l with
        | nil => exact ⟨a, List.mem_cons_self .., m⟩
        | cons b l =>
          have m : 10 ∈ a ++ [32] ++ joinL [32] (b :: l) := by simpa [joinL] using m
          rcases List.mem_append.mp m with m | m
          · rcases List.mem_append.mp m with m | m
            · exact ⟨a, List.mem_cons_self .., m⟩
            · exact absurd m (by decide)
          · obtain ⟨x, hx, e⟩ := ih m
            exact ⟨x, List.mem_cons_of_mem _ hx, e⟩
    obtain ⟨x, hx, e⟩ := this _ m
    obtain ⟨z, hz, rfl⟩ := List.mem_map.mp hx
    exact ((h p hp).1.2.1 z hz).no (by decide) e
theorem Lib.off {c : LC} {CL x dx : Addr} {H H' : Hp} {R : List LR} (L : Lib c H R) (hx : H x = some (.ins CL dx [])) (h : ∀ y u, H y = some u → y ≠ x → H' y = some u) : Lib c H' R :=
  { L with
    w := fun r hr => h _ _ (L.w r hr) (ne2 (L.w r hr) hx nofun)
    b := fun r hr => h _ _ (L.b r hr) (ne2 (L.b r hr) hx nofun)
    s := fun r hr e => ⟨h _ _ (L.s r hr e).1 (ne2 (L.s r hr e).1 hx fun z => by
      injection z with _ _ z
      unfold stf at z
      cases z), h _ _ (L.s r hr e).2.1 (ne2 (L.s r hr e).2.1 hx nofun), h _ _ (L.s r hr e).2.2 (ne2 (L.s r hr e).2.2 hx nofun)⟩
    x := fun r hr e => ⟨h _ _ (L.x r hr e).1 (ne2 (L.x r hr e).1 hx nofun), h _ _ (L.x r hr e).2 (ne2 (L.x r hr e).2 hx nofun)⟩ }
theorem Stp.size {ws : List Str} {n k k' : Nat} {PH PH' : List Hd} {r : LR} (h : Stp ws n PH k r PH' k') (hn : n ≤ 20) : k' ≤ k + 1 ∧ PH'.length ≤ 100 := by
  cases h with
  | f => exact ⟨Nat.le_succ _, by simp⟩
  | l =>
    refine ⟨Nat.le_succ _, ?_⟩
    rw [List.length_append, List.length_take, List.length_singleton]
    omega
  | @s p o od m =>
    refine ⟨by split <;> omega, ?_⟩
    rw [List.length_append, List.length_take]
    split <;> simp <;> omega
theorem kept_S (r : LR) : (!decide (w0 r.ws ∈ nonS)) = r.isS := by
  unfold nonS LR.isS LR.isF LR.isX LR.isL
  refine congrArg (fun b => !b) ?_
  rw [Bool.eq_iff_iff, decide_eq_true_iff, Bool.or_eq_true, Bool.or_eq_true, decide_eq_true_iff, decide_eq_true_iff, decide_eq_true_iff, List.mem_cons, List.mem_cons, List.mem_singleton]
section
variable {P : Program} {w : World} {K : PySem.W.Frag} {mg : Str → Option Value} {base : Heap} {c : LC} {CL tC tN : Addr}
def spTake (c : LC) (CL : Addr) : Sp := fun vs H Q _ => ∃ (x dx : Addr) (L : List (Nat × List Str)) (s : PSt), vs = [.ref x, .str (rowsT L)] ∧ H x = some (.ins CL dx []) ∧ Lines L s ∧ ∀ (H' : Hp) (R : List LR) (rl bd sl : Addr), Kp [x] H H' → LbAt c CL H' R x dx (rowsT L) rl bd sl → R.map (fun r => r.ws) = L.map (·.2) → (∀ y ∈ [rl, bd, sl], H y = none) → (∀ r ∈ R, H r.b = none ∧ (r.isS = true → H r.h = none)) → Q .non H'
theorem ok_take {f : Addr} {fd : FuncData} (F : Fun K "_take" "Library._take" s_Library__take f fd) (T : Bn mg) (B : CTx K mg c) (LB : LbT K CL) (gN : TupG K mg "NO_STATEMENTS" tN nonS) (C_R : CDf0 P w K mg base 1 "Reader" c.R (spRdI c)) (M_read : MDf P w K mg base CX0 4 c.R "read" ["self", "line"] [] (spRead c))
    (M_finish : MDf P w K mg base CX0 3 c.R "finish" ["self"] [] (fun vs H Q _ => ∃ (F : Addr → Prop) (q : RdP) (R : List LR) (PH : List Hd) (k : Nat) (xs : List V), vs = [.ref q.rd] ∧ RdG c H F q R PH k xs ∧ PH.length ≤ 100 ∧ lackB R PH = false ∧ bareB PH 0 = false ∧ ∀ H', Same H H' → Q .non H')) (M_cnt : MDf P w K mg base CX0 3 CL "_check_counts" ["self"] [] (spCnt c CL))
    (D_check_calls : Df P w K mg base 14 "check_calls" ["bodies"] (spChk c)) : FnOk P w K mg base CX0 15 f fd ["self", "text"] (spTake c CL) := by
  refine F.ok sc_Library__take (fun vs H Q E h => ?_) (fun cdv A outer s H vs Q E hr h => ?_)
  · obtain ⟨x, dx, L, s, rfl, _⟩ := h
    rfl
  · obtain ⟨x, dx, L, s', rfl, hx, ln, kk⟩ := h
    have hu := hu_of hr
    refine ⟨_, (pss_cons (ps_set (i := 2) sc_Library__take.nd rfl (Or.inl rfl) (pe_mkw0 C_R hr (by first | decide | omega) rfl))
  (pss_cons (ps_set (i := 3) sc_Library__take.nd rfl (Or.inl rfl) (pe_split (pv 1) pe_str))
  (pss_cons (ps_for PassesOwn.never rfl (pi_list (pv 3)) (pg_name (i := 4) sc_Library__take.nd rfl (Or.inl rfl))
  (pss_one (ps_expr (pe_md M_read B.cR hr (by first | decide | omega) (pv 2) (pa_cons (pv 4) pa_nil)))))
  (pss_cons (ps_expr (pe_md0 M_finish B.cR hr (by first | decide | omega) (pv 2)))
  (pss_cons (ps_fld (pv 0) (pv 1) rfl)
  (pss_cons (ps_fld (pv 0) (pe_fld (pv 2) rfl) rfl)
  (pss_cons (ps_fld (pv 0) (pe_fld (pv 2) rfl) rfl)
  (pss_cons (ps_fld (pv 0) (pe_lc (own := [("words", 5)]) (g := gName 5) rfl sc_Library__take.nd (pi_list (pe_fld (pv 2) rfl)) (blkOk_by (N := ["self", "text", "reader", "lines", "line", "words"]) (sc := defScope s_Library__take) (by decide +kernel)) (fun _ _ _ _ _ => pg_name (i := 5) sc_Library__take.nd rfl (Or.inl rfl)) (fun _ _ _ _ _ => pts_one (pt_cmpR (show OpR _ _ (rIn K true) from op_notIn_seq) (pe_ix (show IxR _ (rIxL K) from ix_list) (pv 5) pe_int (fun _ _ => rfl)) (pe_glob (v := .ref _) rfl gN.m rfl) (by rfl))) (fun _ _ _ _ _ => (pv 5))) rfl)
  (pss_cons (ps_expr (pe_md0 M_cnt LB.cL hr (by first | decide | omega) (pv 0)))
  (pss_one (ps_expr (pe_df D_check_calls hr (by first | decide | omega) rfl (pa_cons (pe_fld (pv 2) rfl) pa_nil))))))))))))), ?_⟩
    refine fun rd dr nr nd ne => ⟨rd, dr, rfl, upd_same, fun H1 q0 eq k1 G0 fresh => ⟨rfl, ?_⟩⟩
    have s1 : Same H H1 := fun y u e => k1 y u (by
      rw [upd_ne (ne_of_none e nr), upd_ne (ne_of_none e nd)]
      exact e) (by rw [List.mem_singleton]; exact ne_of_none e nr)
    have fresh1 : ∀ y ∈ [q0.rd, q0.rl, q0.bd, q0.hl], H y = none := fun y m => by
      rcases List.mem_cons.mp m with rfl | m
      · rw [eq]
        exact nr
      · have := fresh y m
        cases z : H y with
        | none => rfl
        | some u =>
          rw [upd_ne (ne_of_none z nr), upd_ne (ne_of_none z nd), z] at this
          cases this
    refine ⟨_, rfl, ⟨_, rfl⟩, _, _, rfl, rfl, by decide +kernel, big (by have := ln.len; omega), fun ll nll => ?_⟩
    rw [split_rows ln.ne ln.rd.ok, List.map_map]
    have s2 := Same.new (o := .lst (L.map (V.str ∘ fun p => rowT p.1 p.2))) nll
    have G1 := G0.same s2
    have hll : upd H1 ll (.lst (L.map (V.str ∘ fun p => rowT p.1 p.2))) ll = some (.lst (L.map (V.str ∘ fun p => rowT p.1 p.2))) := upd_same
    have nll0 : ∀ y ∈ [q0.rd, q0.rl, q0.bd, q0.hl], ll ≠ y := fun y m e => by
      rw [e] at nll
      simp only [List.mem_cons, List.not_mem_nil, or_false] at m
      rcases m with rfl | rfl | rfl | rfl
      · rw [G0.o] at nll; cases nll
      · rw [G0.rl] at nll; cases nll
      · rw [G0.bd] at nll; cases nll
      · rw [G0.hl] at nll; cases nll
    generalize upd H1 ll (.lst (L.map (V.str ∘ fun p => rowT p.1 p.2))) = H2 at s2 G1 hll ⊢
    refine ⟨_, rfl, ll, rfl, ⟨_, SqL.of hll⟩, ?_⟩
    rw [← eq]
    refine for_list (K := K) (a := ll) (xs := L.map (V.str ∘ fun p => rowT p.1 p.2)) (fun i σ' G => (∃ z4 z5, σ' = [some (.ref x), some (.str (rowsT L)), some (.ref q0.rd), some (.ref ll), z4, z5]) ∧ ∃ (Fo : Addr → Prop) (q : RdP) (R : List LR) (PH : List Hd) (k : Nat) (s : PSt), RdG c G Fo q R PH k (R.map fun r => .ref r.wl) ∧ Lnk R PH s ∧ Lnk2 s'.nm R PH ∧ R.map (fun r => r.ws) = (L.take i).map (·.2) ∧ Reads s (L.drop i) s' ∧ okG s'.nm s (L.drop i) ∧ k ≤ i ∧ PH.length ≤ 100 ∧ q.rd = q0.rd ∧ q.rl = q0.rl ∧ (∀ y u, H2 y = some u → y ∉ [q0.rd, q0.rl, q0.bd, q0.hl] → G y = some u) ∧ (∀ y, Fo y → y ∈ [q0.rd, q0.rl, q0.bd, q0.hl] ∨ H2 y = none)) ?_ (fun i σ' G _ h => ?_) (fun i y σ' G hi h => ?_) (fun σ' G h => ?_)
    · exact ⟨⟨_, _, rfl⟩, _, q0, [], [], 0, s0P, G1, Lnk.nil, Lnk2.nil, rfl, ln.rd, ln.ok, Nat.le_refl _, Nat.zero_le _, rfl, rfl, fun y u e _ => e, fun y m => .inl m⟩
    · obtain ⟨_, Fo, q, R, PH, k, s, _, _, _, _, _, _, _, _, _, _, old, _⟩ := h
      exact SqL.of (old ll _ hll fun m => nll0 ll m rfl)
    · obtain ⟨⟨z4, z5, rfl⟩, Fo, q, R, PH, k, s, g, lnk, lnk2, rows, rds, okg, hk, fewP, erd, erl, old, own⟩ := h
      rw [List.getElem?_map] at hi
      cases ez : L[i]? with
      | none =>
        rw [ez] at hi
        cases hi
      | some p =>
        rw [ez] at hi
        cases hi
        have lt := (List.getElem?_eq_some_iff.mp ez).1
        have dr : L.drop i = p :: L.drop (i + 1) := by
          rw [← (List.getElem?_eq_some_iff.mp ez).2]
          exact List.drop_eq_getElem_cons lt
        obtain ⟨n, ws⟩ := p
        rw [dr] at rds okg
        have fewL := ln.few
        have lR : R.length = i := by
          have := congrArg List.length rows
          rw [List.length_map, List.length_map, List.length_take] at this
          omega
        cases rds with
        | cons ro hc rds =>
          refine ⟨_, rfl, q0.rd, q.dx, _, rfl, (by rw [← erd]; exact g.o), rfl, _, rfl, Fo, q, R, PH, k, n, _, ws, (by rw [erd]; rfl), g, ro.1, ro.2.1, ro.2.2.1, ro.2.2.2, (by rw [lnk.can]; exact hc), (by rw [List.length_map]; omega), by omega, fewP, by omega, fun H' F' q' r PH' k' rws st G' e1 e2 fl => ?_⟩
          obtain ⟨z1, z2⟩ := st.size ro.2.1
          refine ⟨⟨_, _, rfl⟩, F', q', R ++ [r], PH', k', stepP s n ws, ?_, lnk.step st rws G'.nl ro.2.2.2, lnk2.step lnk st rws okg.1, ?_, rds, okg.2, by omega, z2, e1.trans erd, e2.trans erl, fun y u e ny => ?_, fun y fy => ?_⟩
          · rw [List.map_append]
            exact G'
          · rw [List.map_append, rows, List.take_add_one, ez, List.map_append]
            simp [rws]
          · refine fl.k y u (old y u e ny) fun f => ?_
            rcases own y f with m | m
            · exact ny m
            · rw [e] at m
              cases m
          · rcases fl.n y fy with f | f
            · exact own y f
            · by_cases m : y ∈ [q0.rd, q0.rl, q0.bd, q0.hl]
              · exact .inl m
              · cases z : H2 y with
                | none => exact .inr rfl
                | some u =>
                  rw [old y u z m] at f
                  cases f
    · obtain ⟨⟨z4, z5, rfl⟩, Fo, q, R, PH, k, s, g, lnk, lnk2, rows, rds, okg, hk, fewP, erd, erl, old, own⟩ := h
      rw [List.length_map, List.take_length] at rows
      rw [List.length_map, List.drop_length] at rds okg
      cases rds
      have lR : R.length = L.length := by
        have := congrArg List.length rows
        rw [List.length_map, List.length_map] at this
        exact this
      have fewL := ln.few
      refine ⟨_, rfl, q0.rd, q.dx, _, rfl, (by rw [← erd]; exact g.o), rfl, Fo, q, R, PH, k, _, (by rw [erd]; rfl), g, fewP, (by rw [lnk.lk]; exact ln.lk), (by rw [bare_eq lnk.hs]; exact ln.br), fun H5 s5 => ?_⟩
      have T := Tre.of g lnk
      have g5 := g.same s5
      have L5 : Lib c H5 R := Lib.of g5 T (by omega)
      have nx0 : x ∉ [q0.rd, q0.rl, q0.bd, q0.hl] := fun m => by
        rw [fresh1 x m] at hx
        cases hx
      have hx5 : H5 x = some (.ins CL dx []) := s5 _ _ (old x _ (s2 _ _ (s1 _ _ hx)) nx0)
      have ho := g5.o
      rw [erd] at ho
      have frd : q0.rd ≠ x := fun e => nx0 (by rw [← e]; simp)
      have frl : q.rl ≠ x := ne2 g5.rl hx5 nofun
      have fbd : q.bd ≠ x := ne2 g5.bd hx5 nofun
      refine ⟨_, rfl, _, rfl, x, CL, dx, [], rfl, hx5, LB.cL, LB.lt, (by show 0 < 1000; decide), ?_⟩
      generalize eH6 : upd H5 x _ = H6
      have up6 : ∀ y u, H5 y = some u → y ≠ x → H6 y = some u := fun y u e n => by
        rw [← eH6, upd_ne n]
        exact e
      have hx6 : H6 x = some (.ins CL dx [("_text", .str (rowsT L))]) := by rw [← eH6]; exact upd_same
      refine ⟨_, rfl, q0.rd, c.R, q.dx, _, _, rfl, up6 _ _ ho frd, B.cR, B.rr, rfl, _, rfl, x, CL, dx, _, rfl, hx6, LB.cL, LB.lr, (by show 1 < 1000; decide), ?_⟩
      generalize eH7 : upd H6 x _ = H7
      have up7 : ∀ y u, H5 y = some u → y ≠ x → H7 y = some u := fun y u e n => by
        rw [← eH7, upd_ne n]
        exact up6 y u e n
      have hx7 : H7 x = some (.ins CL dx [("_text", .str (rowsT L)), ("_rows", .ref q.rl)]) := by rw [← eH7]; exact upd_same
      refine ⟨_, rfl, q0.rd, c.R, q.dx, _, _, rfl, up7 _ _ ho frd, B.cR, B.rb, rfl, _, rfl, x, CL, dx, _, rfl, hx7, LB.cL, LB.lb, (by show 2 < 1000; decide), ?_⟩
      generalize eH8 : upd H7 x _ = H8
      have up8 : ∀ y u, H5 y = some u → y ≠ x → H8 y = some u := fun y u e n => by
        rw [← eH8, upd_ne n]
        exact up7 y u e n
      have hx8 : H8 x = some (.ins CL dx [("_text", .str (rowsT L)), ("_rows", .ref q.rl), ("_bodies", .ref q.bd)]) := by rw [← eH8]; exact upd_same
      have hrl8 := up8 _ _ g5.rl frl
      refine ⟨_, rfl, q0.rd, c.R, q.dx, _, _, rfl, up8 _ _ ho frd, B.cR, B.rr, rfl, q.rl, rfl, ⟨_, SqL.of hrl8⟩, fun D nD => ?_⟩
      refine lc_kept (K := K) (a := q.rl) (L := R) (fun r => .ref r.wl) (fun r => .ref r.wl) LR.isS (by omega) hrl8 nD (fun r G' Z N hr' s9 hz hn => ?_) (fun H9 s9 hD => ?_)
      · have hw := s9 _ _ (up8 _ _ (L5.w r hr') (ne2 (L5.w r hr') hx5 nofun))
        refine ⟨by simp [wipe], ?_⟩
        refine ⟨_, rfl, r.wl, _, 0, _, rfl, rfl, SqL.of hw, at0 (L5.ne r hr').1, tN, nonS.map V.str, rfl, .inr (gN.seq _), rfl, flatS _, ?_⟩
        rw [ninq, kept_S]
        refine ⟨_, rfl, ?_⟩
        cases e : r.isS with
        | true => exact iteT ⟨_, rfl, hz _ (Same.refl _) e⟩
        | false => exact iteF (hn _ (Same.refl _) e)
      · have up9 : ∀ y u, H5 y = some u → y ≠ x → H9 y = some u := fun y u e n => s9 _ _ (up8 y u e n)
        have hx9 := s9 _ _ hx8
        have hDx : D ≠ x := (ne_of_none hx8 nD).symm
        refine ⟨_, rfl, x, CL, dx, _, rfl, hx9, LB.cL, LB.ls, (by show 3 < 1000; decide), ?_⟩
        generalize eH10 : upd H9 x _ = H10
        have up10 : ∀ y u, H5 y = some u → y ≠ x → H10 y = some u := fun y u e n => by
          rw [← eH10, upd_ne n]
          exact up9 y u e n
        have hx10 : H10 x = some (.ins CL dx (lbf (rowsT L) q.rl q.bd D)) := by rw [← eH10]; exact upd_same
        have hD10 : H10 D = some (.lst ((R.filter LR.isS).map fun r => .ref r.wl)) := by
          rw [← eH10, upd_ne hDx]
          exact hD
        have nn : (names R).Nodup := g.nf
        have LA10 : LbAt c CL H10 R x dx (rowsT L) q.rl q.bd D := ⟨hx10, up10 _ _ g5.rl frl, up10 _ _ g5.bd fbd, hD10, L5.off hx5 up10, nn, fun r hr' => by
          have m : r.ws ∈ R.map fun r => r.ws := List.mem_map_of_mem (f := fun r => r.ws) hr'
          rw [rows] at m
          obtain ⟨p, hp, e⟩ := List.mem_map.mp m
          rw [← e]
          exact (ln.rd.ok p hp).2.2.1⟩
        obtain ⟨few, fewC⟩ := ln.good R rows
        refine ⟨_, rfl, x, dx, _, rfl, hx10, rfl, R, x, dx, _, q.rl, q.bd, D, rfl, LA10, few, fun H11 s11 => ?_⟩
        have LA11 := LA10.same s11
        have ho11 := s11 _ _ (up10 _ _ ho frd)
        have l2 : Lnk2 (names R) R PH := by
          rw [lnk.nm]
          exact lnk2
        refine ⟨_, rfl, q0.rd, c.R, q.dx, _, _, rfl, ho11, B.cR, B.rb, rfl, R, q.bd, rfl, LA11.l, LA11.bd, nn, fun p hp pF => l2.none T hp pF, few.s, fewC, fun H12 s12 => ?_⟩
        have low : ∀ y, H2 y = none → H y = none := fun y e => s1.free (s2.free e)
        have fF : ∀ y, Fo y → H y = none := fun y f => (own y f).elim (fresh1 y) (low y)
        refine kk H12 R q.rl q.bd D (fun y u e m => ?_) (LA11.same s12) rows (fun y m => ?_) (fun r hr' => ⟨fF _ (g.fr r hr').1, fun e => fF _ ((g.fr r hr').2 e).2⟩)
        · have nx : y ≠ x := fun z => m (List.mem_singleton.mpr z)
          have n0 : y ∉ [q0.rd, q0.rl, q0.bd, q0.hl] := fun z => by
            rw [fresh1 y z] at e
            cases e
          exact s12 _ _ (s11 _ _ (up10 _ _ (s5 _ _ (old y u (s2 _ _ (s1 _ _ e)) n0)) nx))
        · have low : ∀ y, H2 y = none → H y = none := fun y e => s1.free (s2.free e)
          simp only [List.mem_cons, List.not_mem_nil, or_false] at m
          rcases m with rfl | rfl | rfl
          · rw [erl]
            exact fresh1 _ (by simp)
          · rcases own _ g.fo.2.2.1 with z | z
            · exact fresh1 _ z
            · exact low _ z
          · cases z : H y with
            | none => rfl
            | some u =>
              have n0 : y ∉ [q0.rd, q0.rl, q0.bd, q0.hl] := fun m => by
                rw [fresh1 y m] at z
                cases z
              have := up8 y u (s5 _ _ (old y u (s2 _ _ (s1 _ _ z)) n0)) hDx
              rw [nD] at this
              cases this
def spLbI (c : LC) (CL : Addr) : Sp := spTake c CL
theorem ok_lbI {f : Addr} {fd : FuncData} (F : Fun K "__init__" "Library.__init__" s_Library___init__ f fd) (T : Bn mg) (LB : LbT K CL) (gL : ∃ u, mg "LONGEST" = some u ∧ RelV (.int 6000) u) (M_take : MDf P w K mg base CX0 15 CL "_take" ["self", "text"] [] (spTake c CL)) : FnOk P w K mg base CX0 16 f fd ["self", "text"] (spTake c CL) := by
  refine F.ok sc_Library___init__ (fun vs H Q E h => ?_) (fun cdv A outer s H vs Q E hr h => ?_)
  · obtain ⟨x, dx, L, s, rfl, _⟩ := h
    rfl
  · obtain ⟨x, dx, L, s', rfl, hx, ln, kk⟩ := h
    refine ⟨_, (pss_cons (ps_if (pt_not (pt_val (pe_callB call_isi (by rfl) T.isi PyProof.Rows.boot_isinstance (pa_cons (pv 1) (pa_cons (pe_bltn (v := .ty "str") (by rfl) T.str (by decide +kernel) rfl) pa_nil)))))
  pss_dead
  pss_nil)
  (pss_cons (ps_if (pt_cmpR op_gt (pe_callB call_len_str (by rfl) T.len PySem.boot_len (pa_cons (pv 1) pa_nil)) (pe_gv2 gL rfl) (nomark _))
  pss_dead
  pss_nil)
  (pss_one (ps_expr (pe_md M_take LB.cL hr (by first | decide | omega) (pv 0) (pa_cons (pv 1) pa_nil)))))), ?_⟩
    have len := ln.len
    refine ⟨_, rfl, .str (rowsT L), .ty "str", .type "str", .type "str", true, rfl, .ty "str", .base (.str _), kit_ty (by decide +kernel), true, rfl, ?_⟩
    refine iteF ⟨_, rfl, _, rfl, big (by omega), _, _, rfl, rfl, _, rfl, ?_⟩
    rw [show decide ((6000 : Int) < ((rowsT L).length : Int)) = false from decide_eq_false (by omega)]
    exact iteF ⟨_, rfl, x, dx, _, rfl, hx, rfl, _, rfl, x, dx, L, s', rfl, hx, ln, kk⟩
end
end IC
namespace IC
open PySem L2 TL PyProof.Rows
def letS (t : Nat) : Nat := 97 + t % 26
def lastC (z : Str) : Option Nat := (tl z).getLast?
def StW (L : List Str) (i : Nat) (w : Str) : Prop := min 8 (1 + i) ≤ (tl w).length ∧ (∀ t, 7 ≤ t → t + 1 < i → ∃ z ∈ L, lastC z = some (letS t)) ∧ (8 ≤ i → lastC w = some (letS (i - 1)))
def JW (L : List Str) (i : Nat) (w : Str) : Prop := IsW w ∧ (w ∉ L ∨ StW L i w)
theorem JW.zero {L : List Str} {w : Str} (h : IsW w) : JW L 0 w := ⟨h, .inr ⟨by have := h.1; omega, fun t h1 h2 => by omega, fun h => by omega⟩⟩
theorem JW.same {L : List Str} {w : Str} {i : Nat} (h : JW L i w) (n : w ∉ L) : JW L (i + 1) w := ⟨h.1, .inl n⟩
theorem JW.out {L : List Str} {w : Str} (h : JW L 40 w) (few : L.length ≤ 12) : w ∉ L := fun m => by
  have st := h.2.resolve_left fun n => n m
  have : ([7, 8, 9, 10, 11, 12, 13, 14, 15, 16, 17, 18, 19, 20].map fun t => some (letS t)).length ≤ (L.map lastC).length := by
    refine len_le_of _ _ (by decide) fun x hx => ?_
    obtain ⟨t, ht, rfl⟩ := List.mem_map.mp hx
    have ht : 7 ≤ t ∧ t + 1 < 40 := by
      simp only [List.mem_cons, List.not_mem_nil, or_false] at ht
      omega
    obtain ⟨z, hz, e⟩ := st.2.1 t ht.1 ht.2
    rw [← e]
    exact List.mem_map_of_mem hz
  rw [List.length_map, List.length_map] at this
  have : 14 ≤ L.length := this
  omega
theorem JW.step {L : List Str} {w w' : Str} {i : Nat} (h : JW L i w) (m : w ∈ L) (hw : IsW w') (h1 : (tl w).length ≤ 7 → (tl w').length = (tl w).length + 1) (h2 : ¬ (tl w).length ≤ 7 → (tl w').length = (tl w).length ∧ lastC w' = some (letS i)) : JW L (i + 1) w' := by
  have st := h.2.resolve_left fun n => n m
  have l8 := h.1.2.1
  have s1 := st.1
  refine ⟨hw, .inr ⟨?_, fun t t1 t2 => ?_, fun e => ?_⟩⟩
  · by_cases z : (tl w).length ≤ 7
    · have := h1 z
      omega
    · have := (h2 z).1
      omega
  · by_cases e : t + 1 < i
    · exact st.2.1 t t1 e
    · have e : t + 1 = i := by omega
      refine ⟨w, m, ?_⟩
      have := st.2.2 (by omega)
      rw [this]
      congr 2
      omega
  · have z : ¬ (tl w).length ≤ 7 := by omega
    exact (h2 z).2
theorem abc_let (t : Nat) : atI (Str.ofString "abcdefghijklmnopqrstuvwxyz").cps.toList ((t : Int) % 26) = some (letS t) := by
  have e : (Str.ofString "abcdefghijklmnopqrstuvwxyz").cps.toList = [97,98,99,100,101,102,103,104,105,106,107,108,109,110,111,112,113,114,115,116,117,118,119,120,121,122] := by decide +kernel
  have all : ∀ k : Fin 26, ([97,98,99,100,101,102,103,104,105,106,107,108,109,110,111,112,113,114,115,116,117,118,119,120,121,122] : List Nat)[k.val]? = some (97 + k.val) := by decide
  rw [e, show (t : Int) % 26 = ((t % 26 : Nat) : Int) from by omega]
  exact atI_nat (all ⟨t % 26, by omega⟩)
theorem tl_cut1 (z : Str) : tl (cutS z (some 1) none) = (tl z).drop 1 := by
  have h1 : HT.sIx z.length 0 (some ((1 : Nat) : Int)) = min 1 z.length := HT.sIx_nat _ _ _
  show ((z.cps.toList.drop (HT.sIx z.length 0 (some ((1 : Nat) : Int)))).take (HT.sIx z.length z.length none - HT.sIx z.length 0 (some ((1 : Nat) : Int)))).toArray.toList = _
  rw [h1, HT.sIx_none]
  have hl : (tl z).length = z.length := by rw [len_tl]
  show List.take (z.length - min 1 z.length) ((tl z).drop (min 1 z.length)) = _
  rcases Nat.eq_zero_or_pos z.length with h | h
  · have : tl z = [] := List.eq_nil_of_length_eq_zero (hl.trans h)
    rw [this]
    simp
  · rw [show min 1 z.length = 1 by omega, List.take_of_length_le]
    rw [List.length_drop]
    omega
theorem lt_let (t : Nat) : Lt (letS t) := by
  unfold Lt letS
  omega
section
variable {P : Program} {w : World} {K : PySem.W.Frag} {mg : Str → Option Value} {base : Heap}
def spDiff (K : PySem.W.Frag) : Sp := fun vs H Q _ => ∃ (p tk : Addr) (ts : List Str) (m : Nat) (n : Int), vs = [.ref p, .int m, .ref tk] ∧ PoolAt H p n ∧ n < 800000000 ∧ H tk = some (.lst (ts.map V.str)) ∧ tk ≠ p ∧ m ≤ 6 ∧ ts.length ≤ 5 ∧
  ∀ (zs : List Str) (H' : Hp) (l : Addr), zs.length = m → zs.Nodup → (∀ z ∈ zs, IsW z ∧ z ∉ ts) → H l = none → H' l = some (.lst (zs.map V.str)) → PoolAt H' p (n + 9 * m) → Kp [p] H H' → Q (.ref l) H'
theorem ok_diff {f : Addr} {fd : FuncData} (F : Fun K "_law_different" "_law_different" s_law_different f fd) (T : Bn mg) (D_law_word : Df P w K mg base 2 "_law_word" ["pool"] spWord) : FnOk P w K mg base CX0 3 f fd ["pool", "many", "taken"] (spDiff K) := by
  refine F.ok sc_law_different (fun vs H Q E h => ?_) (fun cdv A outer s H vs Q E hr h => ?_)
  · obtain ⟨p, tk, ts, m, n, rfl, _⟩ := h
    rfl
  · obtain ⟨p, tk, ts, m, n, rfl, hp, hn, ht, tp, hm, lt5, kk⟩ := h
    refine ⟨_, (pss_cons (ps_set (i := 3) sc_law_different.nd rfl (Or.inl rfl) (pe_lst pa_nil))
  (pss_cons (ps_for PassesOwn.never rfl (pi_range1 rfl T.range (pa_cons (pv 1) pa_nil)) (pg_name (i := 4) sc_law_different.nd rfl (Or.inl rfl))
  (pss_cons (ps_set (i := 5) sc_law_different.nd rfl (Or.inl rfl) (pe_df D_law_word hr (by first | decide | omega) rfl (pa_cons (pv 0) pa_nil)))
  (pss_cons (ps_for PassesOwn.never rfl (pi_range1 rfl T.range (pa_cons pe_int pa_nil)) (pg_name (i := 6) sc_law_different.nd rfl (Or.inl rfl))
  (pss_one (ps_if (pt_cmpR op_in_seq (pv 5) (pe_op op_cat (pv 3) (pv 2)) (by rfl))
  (pss_one (ps_set (i := 5) sc_law_different.nd rfl (Or.inl rfl) (pe_ifExp (pt_cmpR op_gt (pe_callB call_len_str (by rfl) T.len PySem.boot_len (pa_cons (pv 5) pa_nil)) pe_int (nomark _)) (pe_op op_add_str (pe_slice sl_str (pv 5) (po_some pe_int) po_none) (pe_ix ix_str pe_str (pe_op op_mod (pv 6) pe_int) (fun _ _ => rfl))) (pe_op op_add_str (pv 5) pe_str))))
  pss_nil)))
  (pss_one (ps_expr (pe_bm PySem.F.plainAttrs_list PySem.F.slot_list_append PySem.F.type_list_append mt_append (pv 3) (pa_cons (pv 5) pa_nil)))))))
  (pss_one (ps_ret (pv 3))))), ?_⟩
    refine ⟨(by show 0 ≤ sizeLine; decide), fun l nl => ?_⟩
    have hpl : p ≠ l := by
      obtain ⟨_, _, _, e, _⟩ := hp
      exact ne_of_none e nl
    have hlp : l ≠ p := hpl.symm
    have htl : tk ≠ l := ne_of_none ht nl
    refine ⟨_, rfl, m, rfl, by omega, by omega, for_range (lo := 0) (n := (m : Int).toNat) (fun i σ' G => ∃ (zs : List Str) (z4 z5 z6 : Option V), σ' = [some (.ref p), some (.int m), some (.ref tk), some (.ref l), z4, z5, z6] ∧ zs.length = i ∧ zs.Nodup ∧ (∀ z ∈ zs, IsW z ∧ z ∉ ts) ∧ G l = some (.lst (zs.map V.str)) ∧ PoolAt G p (n + 9 * i) ∧ Kp [p] H G) ⟨[], _, _, _, rfl, rfl, List.nodup_nil, nofun, upd_same, (hp.mv fun u e => by rw [upd_ne hpl]; exact e).up (by omega), Kp.new nl⟩ ?_ ?_⟩
    · rintro i σ' G hi ⟨zs, z4, z5, z6, rfl, lz, nz, az, hl, hpG, kG⟩
      have hi : i < m := by omega
      refine ⟨_, rfl, p, n + 9 * i, rfl, hpG, by omega, fun w0' G1 hw hp1 k1 => ?_⟩
      have hl1 : G1 l = some (.lst (zs.map V.str)) := k1 _ _ hl (by simpa using hlp)
      have ht1 : G1 tk = some (.lst (ts.map V.str)) := k1 _ _ (kG _ _ ht (by simpa using tp)) (by simpa using tp)
      have fewL : (zs ++ ts).length ≤ 12 := by
        rw [List.length_append]
        omega
      refine ⟨40, rfl, by decide, by decide, for_range (lo := 0) (n := (40 : Int).toNat) (fun j σ' G2 => ∃ (w' : Str) (z6 : Option V), σ' = [some (.ref p), some (.int m), some (.ref tk), some (.ref l), some (.int (0 + i)), some (.str w'), z6] ∧ JW (zs ++ ts) j w' ∧ Same G1 G2) ⟨w0', _, rfl, JW.zero hw, Same.refl _⟩ ?_ ?_⟩
      · rintro j σ' G2 hj ⟨w', z6, rfl, jw, s2⟩
        refine ⟨_, rfl, _, rfl, _, rfl, l, tk, zs.map V.str, ts.map V.str, rfl, rfl, s2 _ _ hl1, s2 _ _ ht1, Nat.le_of_lt (small1000 (by rw [List.length_map, List.length_map]; omega)), fun c nc => ?_⟩
        rw [← List.map_append]
        have s3 := Same.new (o := .lst ((zs ++ ts).map V.str)) nc
        refine ⟨c, (zs ++ ts).map V.str, rfl, .inl (SqL.of upd_same), rfl, flatS _, ?_⟩
        rw [inq]
        refine ⟨_, rfl, ite2 (fun c1 => ?_) (fun c1 => ?_)⟩
        · have c1 := of_decide_eq_true c1
          have w8 := jw.1.2.1
          have lw : w'.length = (tl w').length := len_tl w'
          have bw : w'.length ≤ sizeLine := big (by omega)
          refine ⟨_, rfl, _, rfl, bw, _, _, rfl, rfl, _, rfl, ite2 (fun c2 => ?_) (fun c2 => ?_)⟩
          · have c2 : (7 : Int) < (w'.length : Int) := of_decide_eq_true c2
            have t1 : tl (cutS w' (some 1) none) = (tl w').drop 1 := tl_cut1 w'
            have l1 : (cutS w' (some 1) none).length = (tl w').length - 1 := by rw [len_tl, t1, List.length_drop]
            refine ⟨_, rfl, _, rfl, w', rfl, bw, _, rfl, _, _, rfl, rfl, (show (0 : Int) < 26 by decide), _, _, letS j, rfl, rfl, by decide +kernel, (by rw [Int.zero_add]; exact abc_let j), _, _, rfl, rfl, big (by show _ + 1 ≤ _; omega), ?_⟩
            have tw : tl (cutS w' (some 1) none ++ ⟨#[letS j]⟩) = (tl w').drop 1 ++ [letS j] := by
              rw [tl_append, t1]
            refine ⟨_, _, rfl, jw.step c1 ⟨?_, ?_, ?_⟩ (fun h => by omega) (fun h => ⟨?_, ?_⟩), s2.trans s3⟩
            · rw [tw, List.length_append, List.length_drop]
              simp
            · rw [tw, List.length_append, List.length_drop]
              simp only [List.length_singleton]
              omega
            · intro c' hc
              rw [tw] at hc
              rcases List.mem_append.mp hc with h | h
              · exact jw.1.2.2 c' (List.mem_of_mem_drop h)
              · rw [List.mem_singleton.mp h]
                exact lt_let j
            · rw [tw, List.length_append, List.length_drop]
              simp only [List.length_singleton]
              omega
            · unfold lastC
              rw [tw, List.getLast?_append]
              rfl
          · have c2 : ¬ (7 : Int) < (w'.length : Int) := fun h => c2 (decide_eq_true h)
            have tw : tl (w' ++ Str.ofString "a") = tl w' ++ [97] := by
              rw [tl_append]
              exact congrArg (fun x => tl w' ++ x) (by decide +kernel)
            refine ⟨_, rfl, _, _, rfl, rfl, big (by show _ + (Str.ofString "a").length ≤ _; have : (Str.ofString "a").length = 1 := by decide +kernel
                                                    omega), ?_⟩
            refine ⟨_, _, rfl, jw.step c1 ⟨?_, ?_, ?_⟩ (fun h => ?_) (fun h => absurd (by omega) h), s2.trans s3⟩
            · rw [tw, List.length_append]
              simp
            · rw [tw, List.length_append]
              simp only [List.length_singleton]
              omega
            · intro c' hc
              rw [tw] at hc
              rcases List.mem_append.mp hc with h | h
              · exact jw.1.2.2 c' h
              · rw [List.mem_singleton.mp h]
                unfold Lt
                omega
            · rw [tw, List.length_append]
              simp
        · have c1 : ¬ w' ∈ zs ++ ts := fun h => c1 (decide_eq_true h)
          exact ⟨w', _, rfl, jw.same c1, s2.trans s3⟩
      · rintro σ' G2 ⟨w', z6, rfl, jw, s2⟩
        have out := jw.out fewL
        have hl2 := s2 _ _ hl1
        refine ⟨_, rfl, .inl ⟨rfl, _, SqL.of hl2⟩, _, rfl, l, _, _, rfl, rfl, hl2, small1000 (by rw [List.length_map]; omega), zs ++ [w'], _, _, _, rfl, by simp [lz], ?_, ?_, ?_, ?_, ?_⟩
        · rw [List.nodup_append]
          refine ⟨nz, by simp, fun a ha b hb e => ?_⟩
          rw [List.mem_singleton.mp hb] at e
          exact out (List.mem_append.mpr (.inl (e ▸ ha)))
        · intro z hz
          rcases List.mem_append.mp hz with h | h
          · exact az z h
          · rw [List.mem_singleton.mp h]
            exact ⟨jw.1, fun m => out (List.mem_append.mpr (.inr m))⟩
        · rw [upd_same, List.map_append]
          rfl
        · exact ((hp1.mv fun u e => s2 _ _ e).mv fun u e => by rw [upd_ne hpl]; exact e).up (by omega)
        · refine ((kG.trans k1).trans (Kp.same s2)).mut nl
    · rintro σ' G ⟨zs, z4, z5, z6, rfl, lz, nz, az, hl, hpG, kG⟩
      exact ⟨_, rfl, kk zs G l (by omega) nz az nl hl (hpG.up (by omega)) kG⟩
end
end IC
namespace IC
open PySem L2 TL PyProof.Rows
/-! ### rows that are made: they read -/
def Ready (n : Nat) (s : PSt) : Prop := (s.lk = true ∧ s.hs.length = n) ∨ (s.lk = false ∧ n ≤ s.hs.length ∧ bareP s.hs n = false)
/-- behind a statement, or a body, of nesting n -/
structure Done (n : Nat) (s s' : PSt) : Prop where
  lk : s'.lk = false
  len : n ≤ s'.hs.length
  br : bareP s'.hs n = false
  tk : s'.hs.take n = s.hs.take n
  nm : s'.nm = s.nm
theorem Done.ready {n : Nat} {s s' : PSt} (d : Done n s s') : Ready n s' := .inr ⟨d.lk, d.len, d.br⟩
theorem Done.trans {n : Nat} {s s1 s2 : PSt} (a : Done n s s1) (b : Done n s1 s2) : Done n s s2 := ⟨b.lk, b.len, b.br, b.tk.trans a.tk, b.nm.trans a.nm⟩
theorem Ready.len {n : Nat} {s : PSt} (h : Ready n s) : n ≤ s.hs.length := by
  rcases h with h | h
  · omega
  · exact h.2.1
theorem bareP_take (hs : List (List Str)) (n : Nat) : bareP (hs.take n) n = false := by
  unfold bareP
  rw [List.drop_eq_nil_of_le (by rw [List.length_take]; omega)]
  rfl
theorem bareP_at {hs : List (List Str)} {n : Nat} {h : List Str} (e : hs[n]? = some h) : bareP hs n = (decide (w0 h = Str.ofString "try") || bareP hs (n + 1)) := by
  unfold bareP
  have lt := (List.getElem?_eq_some_iff.mp e).1
  rw [List.drop_eq_getElem_cons lt, (List.getElem?_eq_some_iff.mp e).2, List.any_cons]
theorem Ready.can {n : Nat} {s : PSt} {ws : List Str} (h : Ready n s) (nf : ¬ w0 ws ∈ follS) (nfn : ¬ w0 ws = Str.ofString "function") : canP s n ws = true := by
  unfold canP
  rcases h with ⟨h1, h2⟩ | ⟨h1, h2, h3⟩
  · rw [if_pos h1, decide_eq_true h2.symm, decide_eq_false nf]
    rfl
  · rw [if_neg (by rw [h1]; decide), if_neg (by omega), if_neg nf, if_neg (fun h => nfn h.1), h3]
    rfl
def leafS : List Str := ["pass", "doom", "write", "raise", "call"]
theorem leaf_no {z : Str} (h : z ∈ leafS) : ¬ z ∈ follS ∧ ¬ z = Str.ofString "function" ∧ ¬ z ∈ leadS := by
  have all : ∀ y ∈ leafS, ¬ y ∈ follS ∧ ¬ y = Str.ofString "function" ∧ ¬ y ∈ leadS := by decide +kernel
  exact all z h
def ledS : List Str := ["block", "maybe", "repeat"]
theorem led_no {z : Str} (h : z ∈ ledS) : ¬ z ∈ follS ∧ ¬ z = Str.ofString "function" ∧ z ∈ leadS ∧ ¬ z = Str.ofString "try" ∧ ¬ z = Str.ofString "call" := by
  have all : ∀ y ∈ ledS, ¬ y ∈ follS ∧ ¬ y = Str.ofString "function" ∧ y ∈ leadS ∧ ¬ y = Str.ofString "try" ∧ ¬ y = Str.ofString "call" := by decide +kernel
  exact all z h
/-- rows that read wherever a row of nesting n can stand; N are the functions' names, u tells whether known calls are barred -/
def Rds (N : List Str) (u : Bool) (n : Nat) (L : List (Nat × List Str)) : Prop := ∀ s, Ready n s → (u = false → gP s.hs n = true) → ∃ s', Reads s L s' ∧ okG N s L ∧ Done n s s'
theorem okG_append {N : List Str} {L M : List (Nat × List Str)} : ∀ {s s' : PSt}, Reads s L s' → okG N s L → okG N s' M → okG N s (L ++ M) := by
  induction L with
  | nil =>
    intro s s' r _ h
    cases r
    exact h
  | cons p L ih =>
    obtain ⟨n, ws⟩ := p
    intro s s' r h1 h2
    cases r with
    | cons a b c => exact ⟨h1.1, ih c h1.2 h2⟩
theorem gP_take {hs hs' : List (List Str)} {n : Nat} (h : hs'.take n = hs.take n) : gP hs' n = gP hs n := by
  unfold gP
  rw [h]
theorem Rds.append {N : List Str} {u : Bool} {n : Nat} {L M : List (Nat × List Str)} (a : Rds N u n L) (b : Rds N u n M) : Rds N u n (L ++ M) := fun s h g => by
  obtain ⟨s1, r1, o1, d1⟩ := a s h g
  obtain ⟨s2, r2, o2, d2⟩ := b s1 d1.ready fun e => by rw [gP_take d1.tk]; exact g e
  exact ⟨s2, r1.append r2, okG_append r1 o1 o2, d1.trans d2⟩
theorem Rds.leaf {N : List Str} {u : Bool} {n : Nat} {ws : List Str} (ok : RowOk n ws) (h : w0 ws ∈ leafS) (c : w0 ws = Str.ofString "call" → u = true → w1 ws ∉ N) : Rds N u n [(n, ws)] := fun s r g => by
  obtain ⟨n1, n2, n3⟩ := leaf_no h
  have e : stepP s n ws = ⟨s.nm, s.hs.take n, false⟩ := by
    unfold stepP
    rw [if_neg n2, if_neg n1, if_neg n3, decide_eq_false n3, List.append_nil]
  have rl := r.len
  refine ⟨_, .cons ok (r.can n1 n2) .nil, ⟨fun e1 e2 => ?_, trivial⟩, ?_⟩
  · cases u with
    | true => exact absurd e2 (c e1 rfl)
    | false => exact g rfl
  · rw [e]
    exact ⟨rfl, by rw [List.length_take]; omega, bareP_take _ _, by rw [List.take_take, Nat.min_self], rfl⟩
theorem step_lead {s : PSt} {n : Nat} {ws : List Str} (h : w0 ws ∈ leadS) (n1 : ¬ w0 ws ∈ follS) (n2 : ¬ w0 ws = Str.ofString "function") : stepP s n ws = ⟨s.nm, s.hs.take n ++ [ws], true⟩ := by
  unfold stepP
  rw [if_neg n2, if_neg n1, if_pos h, decide_eq_true h]
/-- a header that no handler needs to follow, and its body -/
theorem Rds.lead {N : List Str} {u u' : Bool} {n : Nat} {ws : List Str} {L : List (Nat × List Str)} (ok : RowOk n ws) (h : w0 ws ∈ ledS) (b : Rds N u' (n + 1) L) (uu : u' = false → u = false ∨ w0 ws ∈ guaS) : Rds N u n ((n, ws) :: L) := fun s r g => by
  obtain ⟨n1, n2, n3, n4, n5⟩ := led_no h
  have e := step_lead (s := s) (n := n) n3 n1 n2
  have rl := r.len
  have lt : (s.hs.take n).length = n := by
    rw [List.length_take]
    omega
  obtain ⟨s', r', o', d'⟩ := b ⟨s.nm, s.hs.take n ++ [ws], true⟩ (.inl ⟨rfl, by rw [List.length_append, lt]; rfl⟩) fun e => by
    show gP (s.hs.take n ++ [ws]) (n + 1) = true
    unfold gP
    rw [List.take_of_length_le (by rw [List.length_append, lt]; exact Nat.le_refl _), List.any_append]
    rcases uu e with z | z
    · have := g z
      unfold gP at this
      rw [this]
      rfl
    · simp [z]
  have tk : s'.hs.take (n + 1) = s.hs.take n ++ [ws] := by
    have := d'.tk
    rw [List.take_of_length_le (show (s.hs.take n ++ [ws]).length ≤ n + 1 by rw [List.length_append, lt]; exact Nat.le_refl _)] at this
    exact this
  have at_ : s'.hs[n]? = some ws := by
    have : (s'.hs.take (n + 1))[n]? = some ws := by
      rw [tk, List.getElem?_append_right (by omega), lt]
      simp
    rw [List.getElem?_take] at this
    split at this
    · exact this
    · cases this
  refine ⟨s', .cons ok (r.can n1 n2) (by rw [e]; exact r'), ⟨fun e1 => absurd e1 n5, by rw [e]; exact o'⟩, d'.lk, by have := d'.len; omega, ?_, ?_, d'.nm⟩
  · rw [bareP_at at_, decide_eq_false n4, d'.br]
    rfl
  · have := congrArg (List.take n) tk
    rw [List.take_take, show min n (n + 1) = n by omega, List.take_append_of_le_length (by omega), List.take_take, Nat.min_self] at this
    exact this
/-- within a try, behind the body of the header h -/
structure TryAt (n : Nat) (P : List (List Str)) (nm : List Str) (h : List Str) (s : PSt) : Prop where
  lk : s.lk = false
  at_ : s.hs[n]? = some h
  br : bareP s.hs (n + 1) = false
  tk : s.hs.take n = P
  nm : s.nm = nm
theorem body_behind {N : List Str} {u : Bool} {n : Nat} {P : List (List Str)} {nm ws : List Str} {L : List (Nat × List Str)} (lp : P.length = n) (b : Rds N u (n + 1) L) (g : u = false → gP (P ++ [ws]) (n + 1) = true) : ∃ s', Reads ⟨nm, P ++ [ws], true⟩ L s' ∧ okG N ⟨nm, P ++ [ws], true⟩ L ∧ TryAt n P nm ws s' := by
  have l1 : (P ++ [ws]).length = n + 1 := by rw [List.length_append, lp]; rfl
  obtain ⟨s', r', o', d'⟩ := b ⟨nm, P ++ [ws], true⟩ (.inl ⟨rfl, l1⟩) g
  have tk : s'.hs.take (n + 1) = P ++ [ws] := by
    have := d'.tk
    rw [List.take_of_length_le (show (P ++ [ws]).length ≤ n + 1 by omega)] at this
    exact this
  refine ⟨s', r', o', d'.lk, ?_, d'.br, ?_, d'.nm⟩
  · have : (s'.hs.take (n + 1))[n]? = some ws := by
      rw [tk, List.getElem?_append_right (by omega), lp]
      simp
    rw [List.getElem?_take] at this
    split at this
    · exact this
    · cases this
  · have := congrArg (List.take n) tk
    rw [List.take_take, show min n (n + 1) = n by omega, List.take_append_of_le_length (by omega)] at this
    exact this.trans (List.take_of_length_le (by omega))
theorem gP_more {P : List (List Str)} {n : Nat} {ws : List Str} (lp : P.length = n) (g : P.any (fun p => decide (w0 p ∈ guaS)) = true) : gP (P ++ [ws]) (n + 1) = true := by
  unfold gP
  rw [List.take_of_length_le (by rw [List.length_append, lp]; exact Nat.le_refl _), List.any_append, g]
  rfl
theorem part_behind {N : List Str} {u : Bool} {n : Nat} {P : List (List Str)} {nm h ws : List Str} {s : PSt} {L : List (Nat × List Str)} (t : TryAt n P nm h s) (lp : P.length = n) (ok : RowOk n ws) (hf : w0 ws ∈ follS) (go : goB h (w0 ws) = true) (b : Rds N u (n + 1) L) (g : u = false → P.any (fun p => decide (w0 p ∈ guaS)) = true) :
    ∃ s', Reads s ((n, ws) :: L) s' ∧ okG N s ((n, ws) :: L) ∧ TryAt n P nm ws s' := by
  have nfn : ¬ w0 ws = Str.ofString "function" := fun e => by
    rw [e] at hf
    exact absurd hf (by decide +kernel)
  have nc : ¬ w0 ws = Str.ofString "call" := fun e => by
    rw [e] at hf
    exact absurd hf (by decide +kernel)
  have lt := (List.getElem?_eq_some_iff.mp t.at_).1
  have e : stepP s n ws = ⟨nm, P ++ [ws], true⟩ := by
    unfold stepP
    rw [if_neg nfn, if_pos hf, t.tk, t.nm]
  have hc : canP s n ws = true := by
    unfold canP
    rw [if_neg (by rw [t.lk]; decide), if_neg (by omega), if_pos hf, if_neg (fun h => h.elim (by omega) (by rw [t.br]; decide)), t.at_]
    exact go
  obtain ⟨s', r', o', t'⟩ := body_behind (nm := nm) (ws := ws) lp b fun e => gP_more lp (g e)
  exact ⟨s', .cons ok hc (by rw [e]; exact r'), ⟨fun e1 => absurd e1 nc, by rw [e]; exact o'⟩, t'⟩
abbrev Part := List Str × List (Nat × List Str)
def flatP (n : Nat) (ps : List Part) : List (Nat × List Str) := ps.flatMap fun p => (n, p.1) :: p.2
def okParts (N : List Str) (u : Bool) (n : Nat) : List Str → List Part → Prop
  | _, [] => True
  | h, (ws, L) :: r => RowOk n ws ∧ w0 ws ∈ follS ∧ goB h (w0 ws) = true ∧ Rds N u (n + 1) L ∧ okParts N u n ws r
theorem parts_behind {N : List Str} {u : Bool} {n : Nat} {P : List (List Str)} {nm : List Str} (lp : P.length = n) (g : u = false → P.any (fun p => decide (w0 p ∈ guaS)) = true) : ∀ (ps : List Part) {h : List Str} {s : PSt}, TryAt n P nm h s → okParts N u n h ps → ∃ s' h', Reads s (flatP n ps) s' ∧ okG N s (flatP n ps) ∧ TryAt n P nm h' s' ∧ (ps ≠ [] ∨ ¬ w0 h = Str.ofString "try" → ¬ w0 h' = Str.ofString "try")
  | [], h, s, t, _ => ⟨s, h, .nil, trivial, t, fun q => q.elim (fun z => absurd rfl z) id⟩
  | (ws, L) :: r, h, s, t, ok => by
    obtain ⟨o1, o2, o3, o4, o5⟩ := ok
    obtain ⟨s1, r1, k1, t1⟩ := part_behind t lp o1 o2 o3 o4 g
    obtain ⟨s2, h2, r2, k2, t2, q2⟩ := parts_behind lp g r t1 o5
    have nt : ¬ w0 ws = Str.ofString "try" := fun e => by
      rw [e] at o2
      exact absurd o2 (by decide +kernel)
    have ef : flatP n ((ws, L) :: r) = ((n, ws) :: L) ++ flatP n r := rfl
    rw [ef]
    exact ⟨s2, h2, r1.append r2, okG_append r1 k1 k2, t2, fun _ => q2 (.inr nt)⟩
theorem Rds.tries {N : List Str} {u : Bool} {n : Nat} {L : List (Nat × List Str)} {ps : List Part} (ok : RowOk n [Str.ofString "try"]) (b : Rds N u (n + 1) L) (hp : okParts N u n [Str.ofString "try"] ps) (ne : ps ≠ []) : Rds N u n (((n, [Str.ofString "try"]) :: L) ++ flatP n ps) := fun s r g => by
  have e := step_lead (s := s) (n := n) (ws := [Str.ofString "try"]) (by decide +kernel) (by decide +kernel) (by decide +kernel)
  have rl := r.len
  have lp : (s.hs.take n).length = n := by
    rw [List.length_take]
    omega
  have g' : u = false → (s.hs.take n).any (fun p => decide (w0 p ∈ guaS)) = true := g
  obtain ⟨s1, r1, k1, t1⟩ := body_behind (nm := s.nm) (ws := [Str.ofString "try"]) lp b fun e => gP_more lp (g' e)
  obtain ⟨s2, h2, r2, k2, t2, q2⟩ := parts_behind lp g' ps t1 hp
  have rr : Reads s ((n, [Str.ofString "try"]) :: L) s1 := .cons ok (r.can (by decide +kernel) (by decide +kernel)) (by rw [e]; exact r1)
  have kk : okG N s ((n, [Str.ofString "try"]) :: L) := ⟨fun e1 => absurd e1 (by decide +kernel), by rw [e]; exact k1⟩
  have lt := (List.getElem?_eq_some_iff.mp t2.at_).1
  refine ⟨s2, rr.append r2, okG_append rr kk k2, t2.lk, by omega, ?_, t2.tk, t2.nm⟩
  rw [bareP_at t2.at_, t2.br, decide_eq_false (q2 (.inl ne))]
  rfl
/-- a function and its body, behind others -/
theorem fun_behind {N : List Str} {s : PSt} {z : Str} {L : List (Nat × List Str)} (hs : s.lk = false ∧ bareP s.hs 0 = false) (hz : z ∉ s.nm) (ok : RowOk 0 [Str.ofString "function", z]) (b : Rds N true 1 L) : ∃ s', Reads s ((0, [Str.ofString "function", z]) :: L) s' ∧ okG N s ((0, [Str.ofString "function", z]) :: L) ∧ s'.lk = false ∧ bareP s'.hs 0 = false ∧ s'.nm = s.nm ++ [z] := by
  have e : stepP s 0 [Str.ofString "function", z] = ⟨s.nm ++ [z], [[Str.ofString "function", z]], true⟩ := by
    unfold stepP
    rw [if_pos (show w0 [Str.ofString "function", z] = Str.ofString "function" from rfl)]
    rfl
  have hc : canP s 0 [Str.ofString "function", z] = true := by
    unfold canP
    rw [if_neg (by rw [hs.1]; decide), if_neg (by omega), if_neg (by show ¬ Str.ofString "function" ∈ follS; decide +kernel), if_neg (fun h => hz h.2), hs.2]
    rfl
  obtain ⟨s', r', k', t'⟩ := body_behind (n := 0) (P := []) (nm := s.nm ++ [z]) (ws := [Str.ofString "function", z]) rfl b nofun
  refine ⟨s', .cons ok hc (by rw [e]; exact r'), ⟨fun e1 => absurd e1 (by show ¬ Str.ofString "function" = Str.ofString "call"; decide +kernel), by rw [e]; exact k'⟩, t'.lk, ?_, t'.nm⟩
  rw [bareP_at t'.at_, t'.br, decide_eq_false (show ¬ w0 [Str.ofString "function", z] = Str.ofString "try" from (by decide +kernel : ¬ Str.ofString "function" = Str.ofString "try"))]
  rfl
end IC
namespace IC
open PySem L2 TL PyProof.Rows
def repT (z : Str) (n : Nat) : Str := ⟨(List.replicate n (tl z)).flatten.toArray⟩
theorem rep_sp : ∀ n : Nat, (List.replicate n [32, 32]).flatten = List.replicate (2 * n) 32
  | 0 => rfl
  | n + 1 => by
    rw [List.replicate_succ, List.flatten_cons, rep_sp n, show 2 * (n + 1) = 2 * n + 1 + 1 by omega, List.replicate_succ, List.replicate_succ]
    rfl
theorem foldl_rep (c : Array Nat) : ∀ (k : Nat) (acc : Array Nat), ((List.replicate k c).foldl (fun a b => a ++ b) acc).toList = acc.toList ++ (List.replicate k c.toList).flatten
  | 0, acc => by simp
  | k + 1, acc => by
    rw [List.replicate_succ, List.foldl_cons, foldl_rep c k, List.replicate_succ, List.flatten_cons, Array.toList_append, List.append_assoc]
theorem op_mulS {X : Cx} : OpR X (binaryOp .Mult) (fun x y H Q => ∃ (z : Str) (n : Nat), x = .str z ∧ y = .int n ∧ 2 ≤ z.length ∧ z.length ≤ 10 ∧ n ≤ 100 ∧ Q (.str (repT z n)) H) := by
  rintro pins s σ H x y v u Q I rx ry ⟨z, n, rfl, rfl, z2, z10, n1, q⟩
  obtain ⟨t, rfl⟩ := rx
  obtain ⟨t', rfl⟩ := ry
  have ex : ∀ (k : Str) (tk : Nat) (t'' : Tok), k = repT z n → EP X pins σ Q (.str k t'') { s with toks := tk } := fun k tk t'' e => ⟨.str (repT z n), H, I.tok _, ⟨t'', by rw [e]⟩, q⟩
  have m1 : z.length * n ≤ 1000 := Nat.le_trans (Nat.mul_le_mul z10 n1) (by decide)
  refine PySem.P.mul_str ?_ (fun _ _ => ?_) (fun _ _ => ?_) ?_
  · rw [Bool.or_eq_false_iff, decide_eq_false_iff_not, decide_eq_false_iff_not]
    omega
  · have : (10 : Int) ≤ (2 ^ 63 - 1) / n := by
      refine Int.le_ediv_of_mul_le (by omega) ?_
      omega
    omega
  · show decide (_ > sizeLine) = false
    have : (1000 : Nat) ≤ sizeLine := by decide
    rw [Int.toNat_natCast]
    exact decide_eq_false (by omega)
  · by_cases c1 : (n : Int) < 1
    · rw [if_pos c1]
      have e : n = 0 := by omega
      refine ⟨by decide, ex _ _ _ ?_⟩
      rw [e]
      rfl
    · rw [if_neg c1]
      by_cases c2 : n = 1
      · rw [if_pos (by rw [c2]; rfl)]
        refine ex z s.toks t ?_
        rw [c2]
        show z = ⟨(List.replicate 1 (tl z)).flatten.toArray⟩
        exact str_ext (by simp [tl])
      · rw [if_neg (by
          rw [Bool.or_eq_true, beq_iff_eq, beq_iff_eq]
          omega)]
        have e2 : (⟨(List.replicate (n : Int).toNat z.cps).foldl (· ++ ·) #[]⟩ : Str) = repT z n := by
          refine str_ext ?_
          rw [Int.toNat_natCast]
          exact (foldl_rep z.cps n #[]).trans (by simp [repT, tl])
        refine ⟨?_, ex _ _ _ e2⟩
        rw [e2]
        have l1 : (repT z n).length = n * (tl z).length := by
          show (List.replicate n (tl z)).flatten.toArray.size = _
          simp
        have : (1000 : Nat) ≤ sizeLine := by decide
        rw [l1, ← len_tl, Nat.mul_comm]
        omega
section
variable {P : Program} {w : World} {K : PySem.W.Frag} {mg : Str → Option Value} {base : Heap}
def spPick : Sp := fun vs H Q _ => ∃ (p l : Addr) (zs : List Str) (n : Int), vs = [.ref p, .ref l] ∧ PoolAt H p n ∧ n < 700000000 ∧ H l = some (.lst (zs.map V.str)) ∧ zs ≠ [] ∧ zs.length ≤ 50 ∧ l ≠ p ∧ ∀ (z : Str) (H' : Hp), z ∈ zs → PoolAt H' p (n + 1) → Kp [p] H H' → Q (.str z) H'
theorem ok_pick {f : Addr} {fd : FuncData} (F : Fun K "_law_pick" "_law_pick" s_law_pick f fd) (T : Bn mg) (D_law_draw : Df P w K mg base 1 "_law_draw" ["pool", "many"] spDraw) : FnOk P w K mg base CX0 2 f fd ["pool", "some"] spPick := by
  refine F.ok sc_law_pick (fun vs H Q E h => ?_) (fun cdv A outer s H vs Q E hr h => ?_)
  · obtain ⟨p, l, zs, n, rfl, _⟩ := h
    rfl
  · obtain ⟨p, l, zs, n, rfl, hp, hn, hl, ne, few, lp, kk⟩ := h
    refine ⟨_, (pss_one (ps_ret (pe_ix ix_list (pv 1) (pe_df D_law_draw hr (by first | decide | omega) rfl (pa_cons (pv 0) (pa_cons (pe_callB call_len_seq (by rfl) T.len PySem.boot_len (pa_cons (pv 1) pa_nil)) pa_nil))) (fun _ _ => rfl)))), ?_⟩
    have h0 := List.length_pos_iff.mpr ne
    refine ⟨_, rfl, _, rfl, _, rfl, l, _, rfl, .inl (SqL.of hl), p, (zs.map V.str).length, n, rfl, hp, by omega, (by rw [List.length_map]; omega), (by rw [List.length_map]; omega), fun d o d0 d1 hp1 => ?_⟩
    rw [List.length_map] at d1
    obtain ⟨j, rfl⟩ : ∃ j : Nat, d = j := ⟨d.toNat, by omega⟩
    have lt : j < zs.length := by omega
    refine ⟨l, _, j, _, rfl, rfl, SqL.of (by rw [upd_ne lp]; exact hl), atI_nat (by rw [List.getElem?_map, List.getElem?_eq_getElem lt]; rfl), ?_⟩
    exact kk _ _ (List.getElem_mem lt) hp1 (Kp.at_ (by simp))
def spRow : Sp := fun vs H Q _ => ∃ (l : Addr) (n : Nat) (ws : List Str), vs = [.int n, .ref l] ∧ n ≤ 20 ∧ H l = some (.lst (ws.map V.str)) ∧ ws.length ≤ 20 ∧ (∀ z ∈ ws, IsW z) ∧ Q (.str (rowT n ws)) H
theorem ok_row {f : Addr} {fd : FuncData} (F : Fun K "_law_row" "_law_row" s_law_row f fd) (T : Bn mg) : FnOk P w K mg base CX0 1 f fd ["nesting", "words"] spRow := by
  refine F.ok sc_law_row (fun vs H Q E h => ?_) (fun cdv A outer s H vs Q E hr h => ?_)
  · obtain ⟨l, n, ws, rfl, _⟩ := h
    rfl
  · obtain ⟨l, n, ws, rfl, hn, hl, few, hw, kk⟩ := h
    refine ⟨_, (pss_one (ps_ret (pe_op op_add_str (pe_op op_mulS pe_str (pv 0)) (pe_join pe_str (pv 1))))), ?_⟩
    have s8 := sum_le8 ws fun z hz => by rw [len_tl]; exact (hw z hz).2.1
    have jl := join_len (Str.ofString " ") ws
    have e1 : (Str.ofString " ").length = 1 := by decide +kernel
    rw [e1] at jl
    have e2 : (repT (Str.ofString "  ") n).length = 2 * n := by
      show (List.replicate n (tl (Str.ofString "  "))).flatten.toArray.size = _
      rw [show tl (Str.ofString "  ") = [32, 32] by decide +kernel]
      simp
      omega
    have eq : repT (Str.ofString "  ") n ++ Txt.join (Str.ofString " ") ws = rowT n ws := by
      refine str_ext ?_
      rw [tl_append, tl_row]
      refine congrArg (fun l => l ++ _) ?_
      show (List.replicate n (tl (Str.ofString "  "))).flatten = _
      rw [show tl (Str.ofString "  ") = [32, 32] by decide +kernel]
      exact rep_sp n
    refine ⟨_, rfl, _, n, rfl, rfl, by decide +kernel, by decide +kernel, by omega, ?_⟩
    refine ⟨⟨_, rfl⟩, _, rfl, _, l, ws, rfl, rfl, .inl (SqL.of hl), (by rw [e1]; omega), _, _, rfl, rfl, big (by rw [e2]; omega), ?_⟩
    rw [eq]
    exact kk
end
end IC
namespace IC
open PySem L2 TL PyProof.Rows
/-! ### what a part of a library that is made keeps to -/
def stm (L : List (Nat × List Str)) : Nat := (L.filter fun p => !decide (w0 p.2 ∈ nonS)).length
def blkN (L : List (Nat × List Str)) : Nat := (L.filter fun p => decide (w0 p.2 = Str.ofString "block")).length
def knw (N : List Str) (L : List (Nat × List Str)) : Nat := (L.filter fun p => decide (w0 p.2 = Str.ofString "call") && decide (w1 p.2 ∈ N)).length
theorem stm_app (L M : List (Nat × List Str)) : stm (L ++ M) = stm L + stm M := by
  unfold stm
  rw [List.filter_append, List.length_append]
theorem blkN_app (L M : List (Nat × List Str)) : blkN (L ++ M) = blkN L + blkN M := by
  unfold blkN
  rw [List.filter_append, List.length_append]
theorem knw_app (N : List Str) (L M : List (Nat × List Str)) : knw N (L ++ M) = knw N L + knw N M := by
  unfold knw
  rw [List.filter_append, List.length_append]
structure RowF (Rc Er O N : List Str) (p : Nat × List Str) : Prop where
  w : w0 p.2 = Str.ofString "write" → w1 p.2 ∈ Rc
  e : ∀ z ∈ ment p.2, z ∈ Er
  c : w0 p.2 = Str.ofString "call" → w1 p.2 ∈ O ∨ w1 p.2 ∈ N
  f : w0 p.2 ≠ Str.ofString "function"
  l : (rowT p.1 p.2).length ≤ 52
  m : p.2.length ≤ 5
/-- the counts: a and b are the room ahead, a' and b' what is left -/
structure Cnt (N : List Str) (a b a' b' k kr : Int) (L : List (Nat × List Str)) : Prop where
  cs : (stm L : Int) = a - a'
  ps : (stm L : Int) + 6 * max a' 0 ≤ k + 6 * max a 0
  pr : (L.length : Int) + 9 * max a' 0 ≤ kr + 9 * max a 0
  pb : (blkN L : Int) + max a' 0 ≤ max a 0
  pk : (knw N L : Int) + max b' 0 ≤ max b 0
theorem Cnt.nil {N : List Str} {a b : Int} : Cnt N a b a b 0 0 [] := ⟨by show (0 : Int) = a - a; omega, by show (0 : Int) + _ ≤ _; omega, by show (0 : Int) + _ ≤ _; omega, by show (0 : Int) + _ ≤ _; omega, by show (0 : Int) + _ ≤ _; omega⟩
theorem Cnt.app {N : List Str} {a b a1 b1 a2 b2 k1 k2 r1 r2 : Int} {L M : List (Nat × List Str)} (x : Cnt N a b a1 b1 k1 r1 L) (y : Cnt N a1 b1 a2 b2 k2 r2 M) : Cnt N a b a2 b2 (k1 + k2) (r1 + r2) (L ++ M) := by
  have x1 := x.cs
  have x2 := x.ps
  have x3 := x.pr
  have x4 := x.pb
  have x5 := x.pk
  have y1 := y.cs
  have y2 := y.ps
  have y3 := y.pr
  have y4 := y.pb
  have y5 := y.pk
  refine ⟨?_, ?_, ?_, ?_, ?_⟩
  · rw [stm_app]
    omega
  · rw [stm_app]
    omega
  · rw [List.length_append]
    omega
  · rw [blkN_app]
    omega
  · rw [knw_app]
    omega
theorem Cnt.up {N : List Str} {a b a' b' k k' r r' : Int} {L : List (Nat × List Str)} (x : Cnt N a b a' b' k r L) (h : k ≤ k') (h' : r ≤ r') : Cnt N a b a' b' k' r' L := by
  have x2 := x.ps
  have x3 := x.pr
  exact ⟨x.cs, by omega, by omega, x.pb, x.pk⟩
/-- one row of a kind that is no block, its own statement -/
theorem Cnt.leaf {N : List Str} {a b b' : Int} {n : Nat} {ws : List Str} (h : w0 ws ∈ leafS) (c : if (decide (w0 ws = Str.ofString "call") && decide (w1 ws ∈ N)) = true then 1 ≤ b ∧ b' = b - 1 else b' ≤ b) : Cnt N a b (a - 1) b' (if 0 < a then -1 else 1) (if 0 < a then -1 else 1) [(n, ws)] := by
  have all : ∀ y ∈ leafS, (!decide (y ∈ nonS)) = true ∧ ¬ y = Str.ofString "block" := by decide +kernel
  obtain ⟨h1, h2⟩ := all _ h
  have e1 : stm [(n, ws)] = 1 := by
    unfold stm
    rw [List.filter_cons, if_pos h1]
    rfl
  have e2 : blkN [(n, ws)] = 0 := by
    unfold blkN
    rw [List.filter_cons, if_neg (by simpa using h2)]
    rfl
  have e3 : knw N [(n, ws)] = if (decide (w0 ws = Str.ofString "call") && decide (w1 ws ∈ N)) = true then 1 else 0 := by
    unfold knw
    rw [List.filter_cons]
    show (if (decide (w0 ws = Str.ofString "call") && decide (w1 ws ∈ N)) = true then [(n, ws)] else []).length = _
    split <;> rfl
  refine ⟨by rw [e1]; omega, ?_, ?_, by rw [e2]; omega, ?_⟩
  · rw [e1]
    split <;> omega
  · show (1 : Int) + _ ≤ _
    split <;> omega
  · rw [e3]
    split
    · rename_i z
      rw [if_pos z] at c
      omega
    · rename_i z
      rw [if_neg z] at c
      omega
/-- a header with room ahead and the body behind it -/
theorem Cnt.lead {N : List Str} {a b a' b' : Int} {n : Nat} {ws : List Str} {L : List (Nat × List Str)} (h : w0 ws ∈ leadS) (ha : 0 < a) (x : Cnt N (a - 1) b a' b' 1 1 L) : Cnt N a b a' b' (-4) (-7) ((n, ws) :: L) := by
  have all : ∀ y ∈ leadS, (!decide (y ∈ nonS)) = true ∧ ¬ y = Str.ofString "call" := by decide +kernel
  obtain ⟨h1, h2⟩ := all _ h
  have e1 : stm ((n, ws) :: L) = stm L + 1 := by
    unfold stm
    rw [List.filter_cons, if_pos h1]
    rfl
  have e2 : blkN ((n, ws) :: L) ≤ blkN L + 1 := by
    unfold blkN
    rw [List.filter_cons]
    split
    · exact Nat.le_refl _
    · exact Nat.le_succ _
  have e3 : knw N ((n, ws) :: L) = knw N L := by
    unfold knw
    rw [List.filter_cons, if_neg (by rw [decide_eq_false h2]; simp)]
  have x1 := x.cs
  have x2 := x.ps
  have x3 := x.pr
  have x4 := x.pb
  have x5 := x.pk
  exact ⟨by rw [e1]; omega, by rw [e1]; omega, by rw [List.length_cons]; omega, by omega, by rw [e3]; exact x5⟩
/-- except or finally, and its body -/
theorem Cnt.foll {N : List Str} {a b a' b' : Int} {n : Nat} {ws : List Str} {L : List (Nat × List Str)} (h : w0 ws ∈ follS) (x : Cnt N a b a' b' 1 1 L) : Cnt N a b a' b' 1 2 ((n, ws) :: L) := by
  have all : ∀ y ∈ follS, (!decide (y ∈ nonS)) = false ∧ ¬ y = Str.ofString "call" ∧ ¬ y = Str.ofString "block" := by decide +kernel
  obtain ⟨h1, h2, h3⟩ := all _ h
  have e1 : stm ((n, ws) :: L) = stm L := by
    unfold stm
    rw [List.filter_cons, if_neg (by rw [h1]; decide)]
  have e2 : blkN ((n, ws) :: L) = blkN L := by
    unfold blkN
    rw [List.filter_cons, if_neg (by simpa using h3)]
  have e3 : knw N ((n, ws) :: L) = knw N L := by
    unfold knw
    rw [List.filter_cons, if_neg (by rw [decide_eq_false h2]; simp)]
  have x1 := x.cs
  have x2 := x.ps
  have x3 := x.pr
  have x4 := x.pb
  have x5 := x.pk
  exact ⟨by rw [e1]; exact x1, by rw [e1]; exact x2, by rw [List.length_cons]; omega, by rw [e2]; exact x4, by rw [e3]; exact x5⟩
end IC
namespace IC
open PySem L2 TL PyProof.Rows
structure WdAt (H : Hp) (wa p rm : Addr) (Rc Er Ot N : List Str) : Prop where
  ex : ∃ a0 a1 a2 a3 : Addr, H wa = some (.lst [.ref a0, .ref a1, .ref a2, .ref a3]) ∧ H a0 = some (.lst (Rc.map V.str)) ∧ H a1 = some (.lst (Er.map V.str)) ∧ H a2 = some (.lst (Ot.map V.str)) ∧ H a3 = some (.lst (N.map V.str)) ∧ ∀ y ∈ [wa, a0, a1, a2, a3], y ∉ [p, rm]
theorem WdAt.kp {H H' : Hp} {wa p rm : Addr} {Rc Er Ot N : List Str} (h : WdAt H wa p rm Rc Er Ot N) (k : Kp [p, rm] H H') : WdAt H' wa p rm Rc Er Ot N := by
  obtain ⟨a0, a1, a2, a3, h1, h2, h3, h4, h5, h6⟩ := h.ex
  exact ⟨a0, a1, a2, a3, k _ _ h1 (h6 _ (by simp)), k _ _ h2 (h6 _ (by simp)), k _ _ h3 (h6 _ (by simp)), k _ _ h4 (h6 _ (by simp)), k _ _ h5 (h6 _ (by simp)), h6⟩
structure WOk (n : Nat) (u : Bool) (Rc Er Ot O N : List Str) : Prop where
  rc : Rc ≠ [] ∧ Rc.length ≤ 10 ∧ ∀ z ∈ Rc, IsW z
  er : Er ≠ [] ∧ Er.length ≤ 10 ∧ ∀ z ∈ Er, IsW z
  ot : Ot ≠ [] ∧ Ot.length + 4 * (9 - n) ≤ 50 ∧ ∀ z ∈ Ot, IsW z
  nm : N.length ≤ 4 ∧ ∀ z ∈ N, IsW z
  cl : ∀ z ∈ Ot, z ∈ O ∨ z ∈ N
  ba : u = true → ∀ z ∈ Ot, z ∉ N
def Bd (d : Nat) : Int := 600000000 - 10000 * d
/-- what a def that makes rows promises: k tells more of the pool ahead, ks and kr the counts, sl what is left of 40 draws -/
def spMake (d : Nat) (more sl : Int) (ks : Int → Int) : Sp := fun vs H Q _ => ∃ (p wa rm : Addr) (n : Nat) (Rc Er Ot O N : List Str) (u : Bool) (a b pn : Int), vs = [.ref p, .int n, .ref wa, .ref rm] ∧ (n + d = 9 ∧ n ≤ 8) ∧ 1 ≤ n ∧ PoolAt H p pn ∧ pn ≤ Bd d + more ∧ WdAt H wa p rm Rc Er Ot N ∧ H rm = some (.lst [.int a, .int b]) ∧ rm ≠ p ∧ a ≤ 10 ∧ WOk n u Rc Er Ot O N ∧
  ∀ (H' : Hp) (l : Addr) (L : List (Nat × List Str)) (a' b' : Int), H l = none → H' l = some (.lst (L.map fun r => .str (rowT r.1 r.2))) → Kp [p, rm] H H' → H' rm = some (.lst [.int a', .int b']) → PoolAt H' p (pn + 40 * (a - a') - sl) → Cnt N a b a' b' (ks a) (ks a) L → Rds N u n L → (∀ r ∈ L, RowF Rc Er O N r) → Q (.ref l) H'
theorem kstep {a a1 : Int} {i : Nat} (h0 : i = 0 → a1 = a) : (if 0 < a ∧ 1 ≤ i then (i : Int) - 2 else i) + (if 0 < a1 then -1 else 1) ≤ (if 0 < a ∧ 1 ≤ i + 1 then ((i + 1 : Nat) : Int) - 2 else ((i + 1 : Nat) : Int)) := by
  by_cases z : i = 0
  · rw [h0 z, z]
    by_cases y : 0 < a
    · rw [if_neg (by omega), if_pos y, if_pos (by omega)]
      decide
    · rw [if_neg (by omega), if_neg y, if_neg (by omega)]
      decide
  · by_cases y : 0 < a
    · rw [if_pos (show 0 < a ∧ 1 ≤ i by omega), if_pos (show 0 < a ∧ 1 ≤ i + 1 by omega)]
      split <;> omega
    · rw [if_neg (show ¬ (0 < a ∧ 1 ≤ i) by omega), if_neg (show ¬ (0 < a ∧ 1 ≤ i + 1) by omega)]
      split <;> omega
section
variable {P : Program} {w : World} {K : PySem.W.Frag} {mg : Str → Option Value} {base : Heap}
theorem ok_body {f : Addr} {fd : FuncData} (F : Fun K "_law_body" "_law_body" s_law_body f fd) (T : Bn mg) (D_law_draw : Df P w K mg base 1 "_law_draw" ["pool", "many"] spDraw) (d : Nat) (D_law_statement : Df P w K mg base (3 * d + 3) "_law_statement" ["pool", "nesting", "words", "room"] (spMake (d + 1) 3000 10 fun a => if 0 < a then -1 else 1)) :
    FnOk P w K mg base CX0 (3 * d + 3 + 1) f fd ["pool", "nesting", "words", "room"] (spMake (d + 1) 0 0 fun _ => 1) := by
  refine F.ok sc_law_body (fun vs H Q E h => ?_) (fun cdv A outer s H vs Q E hr h => ?_)
  · obtain ⟨p, wa, rm, n, Rc, Er, Ot, O, N, u, a, b, pn, rfl, _⟩ := h
    rfl
  · obtain ⟨p, wa, rm, n, Rc, Er, Ot, O, N, u, a, b, pn, rfl, nd, n1, hp, hpn, hw, hrm, rp, ha, ok, kk⟩ := h
    refine ⟨_, (pss_cons (ps_set (i := 4) sc_law_body.nd rfl (Or.inl rfl) (pe_lst pa_nil))
  (pss_cons (ps_for PassesOwn.never rfl (pi_range1 rfl T.range (pa_cons (pe_op op_add pe_int (pe_op op_mul (pe_df D_law_draw hr (by first | decide | omega) rfl (pa_cons (pv 0) (pa_cons pe_int pa_nil))) (pe_callTy call_int1 (by rfl) T.int (by decide +kernel) (pa_cons (pe_cmpR op_gt (pe_ix ix_list (pv 3) pe_int (fun _ _ => rfl)) pe_int (nomark _)) pa_nil)))) pa_nil)) (pg_name (i := 5) sc_law_body.nd rfl (Or.inl rfl))
  (pss_one (ps_set (i := 4) sc_law_body.nd rfl (Or.inl rfl) (pe_op op_cat (pv 4) (pe_df D_law_statement hr (by first | decide | omega) rfl (pa_cons (pv 0) (pa_cons (pv 1) (pa_cons (pv 2) (pa_cons (pv 3) pa_nil)))))))))
  (pss_one (ps_ret (pv 4))))), ?_⟩
    unfold Bd at hpn
    refine ⟨(by show 0 ≤ sizeLine; decide), fun l0 nl0 => ?_⟩
    have pl0 : p ≠ l0 := by
      obtain ⟨_, _, _, e, _⟩ := hp
      exact ne_of_none e nl0
    have rl0 : rm ≠ l0 := ne_of_none hrm nl0
    have s0 := Same.new (o := .lst []) nl0
    have hp0 := hp.mv (H' := upd H l0 (.lst [])) fun u e => s0 _ _ e
    refine ⟨_, rfl, p, 3, pn, rfl, hp0, by omega, by decide, by decide, fun e o e0 e3 hp1 => ?_⟩
    have k1 : Kp [p, rm] H (upd (upd H l0 (.lst [])) p o) := (Kp.same s0).mutAt (by simp)
    have rm1 : upd (upd H l0 (.lst [])) p o rm = some (.lst [.int a, .int b]) := by
      rw [upd_ne rp]
      exact s0 _ _ hrm
    have l01 : upd (upd H l0 (.lst [])) p o l0 = some (.lst []) := by
      rw [upd_ne pl0.symm]
      exact upd_same
    generalize upd (upd H l0 (.lst [])) p o = H1 at k1 rm1 l01 hp1 ⊢
    refine ⟨_, rfl, rm, _, 0, _, rfl, rfl, SqL.of rm1, rfl, _, _, rfl, rfl, .inr ⟨decide (0 < a), rfl, ?_⟩⟩
    obtain ⟨m, hm, m1, m3, ma⟩ : ∃ m : Nat, (1 + e * (if decide (0 < a) = true then 1 else 0) : Int) = m ∧ 1 ≤ m ∧ m ≤ 3 ∧ (¬ 0 < a → m = 1) := by
      by_cases z : 0 < a
      · rw [decide_eq_true z, if_pos rfl]
        exact ⟨(1 + e * 1).toNat, by omega, by omega, by omega, fun h => absurd z h⟩
      · rw [decide_eq_false z, if_neg (by decide)]
        exact ⟨1, by omega, by omega, by omega, fun _ => rfl⟩
    refine ⟨_, _, rfl, rfl, .inl ⟨by omega, by omega⟩, _, _, rfl, rfl, m, (by rw [← hm]), by omega, by omega, for_range (lo := 0) (n := (m : Int).toNat) (fun i σ' G => ∃ (li : Addr) (z5 : Option V) (L : List (Nat × List Str)) (a1 b1 : Int), σ' = [some (.ref p), some (.int n), some (.ref wa), some (.ref rm), some (.ref li), z5] ∧ H li = none ∧ G li = some (.lst (L.map fun r => .str (rowT r.1 r.2))) ∧ Kp [p, rm] H G ∧ G rm = some (.lst [.int a1, .int b1]) ∧ PoolAt G p (pn + 1 + 40 * (a - a1) - 10 * i) ∧ Cnt N a b a1 b1 (if 0 < a ∧ 1 ≤ i then i - 2 else i) (if 0 < a ∧ 1 ≤ i then i - 2 else i) L ∧ (i = 0 → a1 = a ∧ L = []) ∧ (1 ≤ i → Rds N u n L) ∧ ∀ r ∈ L, RowF Rc Er O N r) ⟨l0, _, [], a, b, rfl, nl0, l01, k1, rm1, hp1.up (by omega), ?_, fun _ => ⟨rfl, rfl⟩, fun h => absurd h (by decide), nofun⟩ ?_ ?_⟩
    · rw [if_neg (by simp)]
      exact Cnt.nil
    · rintro i σ' G hi ⟨li, z5, L, a1, b1, rfl, nli, hli, kG, hrm1, hpG, ct, i0, ird, rf⟩
      have him : i < m := by omega
      have c1 := ct.cs
      have c2 := ct.ps
      have kb : (if 0 < a ∧ 1 ≤ i then (i : Int) - 2 else i) ≤ 2 := by split <;> omega
      have lenL : L.length ≤ 200 := by
        have := ct.pr
        omega
      refine ⟨_, rfl, _, rfl, _, rfl, _, rfl, _, rfl, p, wa, rm, n, Rc, Er, Ot, O, N, u, a1, b1, _, rfl, nd, n1, hpG, by unfold Bd; omega, hw.kp kG, hrm1, rp, by omega, ok, fun H2 ls L2 a2 b2 nls hls k2 rm2 hp2 ct2 rd2 rf2 => ?_⟩
      have li_p : li ∉ [p, rm] := fun m => by
        simp only [List.mem_cons, List.not_mem_nil, or_false] at m
        rcases m with rfl | rfl
        · obtain ⟨_, _, _, e, _⟩ := hp
          rw [e] at nli
          cases nli
        · rw [hrm] at nli
          cases nli
      have hli2 := k2 _ _ hli li_p
      have ct2 : Cnt N a1 b1 a2 b2 (if 0 < a1 then -1 else 1) (if 0 < a1 then -1 else 1) L2 := ct2
      have lenL2 : L2.length ≤ 200 := by
        have := ct2.pr
        have : (if 0 < a1 then (-1 : Int) else 1) ≤ 1 := by split <;> omega
        omega
      refine ⟨li, ls, _, _, rfl, rfl, hli2, hls, Nat.le_of_lt (small1000 (by rw [List.length_map, List.length_map]; omega)), fun l3 nl3 => ?_⟩
      have c3 := ct2.cs
      have p_3 : p ≠ l3 := by
        obtain ⟨_, _, _, e, _⟩ := hp2
        exact ne_of_none e nl3
      have r_3 : rm ≠ l3 := ne_of_none rm2 nl3
      have s3 := Same.new (o := .lst (L.map (fun r => V.str (rowT r.1 r.2)) ++ L2.map (fun r => V.str (rowT r.1 r.2)))) nl3
      refine ⟨l3, _, L ++ L2, a2, b2, rfl, ?_, by rw [upd_same, List.map_append], (kG.trans k2).trans (Kp.same s3), s3 _ _ rm2, (hp2.mv fun u e => s3 _ _ e).up (by omega), (ct.app ct2).up ?_ ?_, fun h => absurd h (by omega), fun _ => ?_, fun r hr' => ?_⟩
      · cases z : H l3 with
        | none => rfl
        | some x =>
          have := (kG.trans k2) _ _ z (by simp [p_3.symm, r_3.symm])
          rw [nl3] at this
          cases this
      · exact kstep fun h => (i0 h).1
      · exact kstep fun h => (i0 h).1
      · by_cases i1 : 1 ≤ i
        · exact (ird i1).append rd2
        · rw [(i0 (by omega)).2]
          exact rd2
      · rcases List.mem_append.mp hr' with h | h
        · exact rf r h
        · exact rf2 r h
    · rintro σ' G ⟨li, z5, L, a1, b1, rfl, nli, hli, kG, hrm1, hpG, ct, i0, ird, rf⟩
      have em : (m : Int).toNat = m := by omega
      rw [em] at ct hpG i0 ird
      refine ⟨_, rfl, kk G li L a1 b1 nli hli kG hrm1 (hpG.up ?_) (ct.up ?_ ?_) (ird m1) rf⟩
      · omega
      · by_cases z : 0 < a
        · rw [if_pos ⟨z, m1⟩]
          show _ ≤ (1 : Int)
          omega
        · rw [if_neg (fun h => z h.1), ma z]
          show _ ≤ (1 : Int)
          omega
      · by_cases z : 0 < a
        · rw [if_pos ⟨z, m1⟩]
          show _ ≤ (1 : Int)
          omega
        · rw [if_neg (fun h => z h.1), ma z]
          show _ ≤ (1 : Int)
          omega
end
end IC
namespace IC
open PySem L2 TL
/-- a comprehension over range(n) whose elements are texts, each by one draw -/
theorem lc_pick {te : TE} {gi : Nat} {σ : L2.St} {H1 : Hp} {D p : Addr} {Qd : Hp → Prop} (Ok : Str → Prop) (n : Nat) (m : Int) (hn : n ≤ 1000) (hp : PoolAt H1 p m) (hD : H1 D = none)
    (hte : ∀ (x : V) (m' : Int) (H : Hp) (Q : VK), PoolAt H p m' → m' ≤ m + n → Kp [p] H1 H → (∀ z H', Ok z → PoolAt H' p (m' + 1) → Kp [p] H H' → Q (.str z) H') → te ((σ.set gi none).set gi (some x)) H Q)
    (hd : ∀ (zs : List Str) (H' : Hp), zs.length = n → (∀ z ∈ zs, Ok z) → H' D = some (.lst (zs.map V.str)) → PoolAt H' p (m + n) → Kp [p] H1 H' → Qd H') :
    ∃ W : Nat → Nat → Hp → Prop, (∃ m, W 0 m (upd H1 D (.lst []))) ∧ ∀ i m H, W i m H →
      ((Itr 0 n).stop i H ∧ Qd H) ∨ ((Itr 0 n).go i H ∧ ∃ Nx : Hp → Prop, (∀ H', Nx H' → ∃ m', m' < m ∧ W (i + 1) m' H') ∧ ∀ x H', (Itr 0 n).yld i H x H' → gName gi x (wipe σ [gi]) H' fun σ2 H2 => wipe σ2 [gi] = wipe σ [gi] ∧ tYes σ2 H2 fun b H3 =>
        if b = true then te σ2 H3 fun y H4 => ∃ acc, H4 D = some (.lst acc) ∧ acc.length < sizeLine ∧ Nx (upd H4 D (.lst (acc ++ [y]))) else Nx H3) := by
  have hpD : p ≠ D := by
    obtain ⟨a, b, c, e, _⟩ := hp
    exact ne_of_none e hD
  have Dp : D ∉ [p] := fun h => hpD (List.mem_singleton.mp h).symm
  refine lc_range (lo := 0) (n := n) (fun i H' => ∃ zs : List Str, zs.length = i ∧ (∀ z ∈ zs, Ok z) ∧ H' D = some (.lst (zs.map V.str)) ∧ PoolAt H' p (m + i) ∧ Kp [p] H1 H')
    ⟨[], rfl, by simp, upd_same, (hp.mv fun u e => by rw [upd_ne hpD]; exact e).up (by omega), Kp.new hD⟩ ?_ ?_
  · rintro i H' hi ⟨zs, hl, hz, hzD, hp2, kp⟩
    refine ⟨by simp [wipe], ?_⟩
    refine hte _ (m + i) H' _ hp2 (by omega) kp fun z H2 hOk hp3 k2 => ?_
    refine ⟨_, k2 _ _ hzD Dp, small1000 (by rw [List.length_map]; omega), zs ++ [z], by simp [hl], ?_, ?_, ?_, ((kp.trans k2).mut hD)⟩
    · intro x hx
      rcases List.mem_append.mp hx with hx | hx
      · exact hz x hx
      · rw [List.mem_singleton.mp hx]; exact hOk
    · rw [upd_same, List.map_append]
      rfl
    · exact (hp3.mv fun u q => by rw [upd_ne hpD]; exact q).up (by omega)
  · rintro H' ⟨zs, hl, hz, hzD, hp2, kp⟩
    exact hd zs H' hl hz hzD hp2 kp
theorem none_back {H H' : Hp} {l : List Addr} {y : Addr} (k : Kp l H H') (nl : ∀ z ∈ l, H' z ≠ none) (e : H' y = none) : H y = none := by
  cases z : H y with
  | none => rfl
  | some u =>
    by_cases m : y ∈ l
    · exact absurd e (nl y m)
    · rw [k _ _ z m] at e
      cases e
end IC
namespace IC
open PySem L2 TL PyProof.Rows
/-- _law_try, told from the room behind the statement's own -/
def spTry (d : Nat) : Sp := fun vs H Q _ => ∃ (p wa rm : Addr) (n : Nat) (Rc Er Ot O N : List Str) (u : Bool) (a b pn : Int), vs = [.ref p, .int n, .ref wa, .ref rm] ∧ n + d = 9 ∧ 1 ≤ n ∧ n ≤ 7 ∧ PoolAt H p pn ∧ pn ≤ Bd d + 3100 ∧ WdAt H wa p rm Rc Er Ot N ∧ H rm = some (.lst [.int a, .int b]) ∧ rm ≠ p ∧ 0 ≤ a ∧ a ≤ 9 ∧ WOk n u Rc Er Ot O N ∧
  ∀ (H' : Hp) (l : Addr) (L : List (Nat × List Str)) (a' b' : Int), H l = none → H' l = some (.lst (L.map fun r => .str (rowT r.1 r.2))) → Kp [p, rm] H H' → H' rm = some (.lst [.int a', .int b']) → PoolAt H' p (pn + 40 * (a - a') + 25) → Cnt N (a + 1) b a' b' (-1) (-1) L → Rds N u n L → (∀ r ∈ L, RowF Rc Er O N r) → Q (.ref l) H'
theorem nest_leaf {z : Str} {n : Nat} (h : z ∈ leafS) (n1 : 1 ≤ n) (n8 : n ≤ 8) : nestB z n = true := by
  have all : ∀ y ∈ leafS, ¬ y = Str.ofString "function" ∧ ¬ y ∈ leadS ++ follS := by decide +kernel
  obtain ⟨h1, h2⟩ := all _ h
  unfold nestB
  rw [decide_eq_false h1, decide_eq_false h2]
  simp only [Bool.false_eq_true, if_false, Bool.and_eq_true, decide_eq_true_iff]
  exact ⟨n1, n8⟩
theorem row52 {ws : List Str} {n : Nat} (hw : ∀ z ∈ ws, IsW z) (l3 : ws.length ≤ 3) (n8 : n ≤ 8) : (rowT n ws).length ≤ 52 := by
  have s8 := sum_le8 ws fun z hz => by rw [len_tl]; exact (hw z hz).2.1
  have jl := join_len (Str.ofString " ") ws
  have e1 : (Str.ofString " ").length = 1 := by decide +kernel
  rw [e1] at jl
  rw [row_len]
  omega
theorem isW_of {z : Str} (h1 : 1 ≤ (tl z).length) (h2 : (tl z).length ≤ 8) (h3 : (tl z).all (fun c => decide (97 ≤ c) && decide (c ≤ 122)) = true) : IsW z := ⟨h1, h2, fun c hc => by
  have := List.all_eq_true.mp h3 c hc
  rw [Bool.and_eq_true, decide_eq_true_iff, decide_eq_true_iff] at this
  unfold Lt
  omega⟩
theorem iteI {a b : Int} {A B : Prop} (h1 : a = b → A) (h2 : ¬ a = b → B) : if decide (V.int a = V.int b) = true then A else B := by
  by_cases h : a = b
  · rw [if_pos (decide_eq_true (by rw [h]))]
    exact h1 h
  · rw [if_neg (by
      rw [decide_eq_true_iff, V.int.injEq]
      exact h)]
    exact h2 h
theorem if_sort {K : PySem.W.Frag} {σ : L2.St} {H : Hp} {Z : VK} {n : Nat} {rm : Addr} {a b : Int} (h1 : σ[1]? = some (some (.int n))) (h3 : σ[3]? = some (some (.ref rm))) (hr : SqL K H rm [.int a, .int b]) (h : ∀ m : Int, (m = 6 ∨ m = 11 ∧ n < 8 ∧ 0 < a) → Z (.int m) H) :
    tIf (tAnd (tTest (tOp (rI0 fun i j => .bl (decide (i < j))) (tVar 1) (tC (.int 8)))) (tTest (tOp (rI0 fun i j => .bl (decide (j < i))) (tOp (rIxL K) (tVar 3) (tC (.int 0))) (tC (.int 0))))) (tC (.int 11)) (tC (.int 6)) σ H Z := by
  refine ⟨_, h1, _, _, rfl, rfl, _, rfl, ite2 (fun c1 => ?_) (fun c1 => ?_)⟩
  · refine ⟨_, h3, rm, _, 0, _, rfl, rfl, hr, rfl, _, _, rfl, rfl, _, rfl, ite2 (fun c2 => ?_) (fun c2 => ?_)⟩
    · exact h 11 (.inr ⟨rfl, by have := of_decide_eq_true c1; omega, of_decide_eq_true c2⟩)
    · exact h 6 (.inl rfl)
  · exact h 6 (.inl rfl)
theorem none_of_same {H H' : Hp} {y : Addr} (s : Same H H') (e : H' y = none) : H y = none := by
  cases z : H y with
  | none => rfl
  | some u =>
    rw [s _ _ z] at e
    cases e
theorem WOk.deeper {n : Nat} {u : Bool} {Rc Er Ot O N : List Str} (ok : WOk n u Rc Er Ot O N) : WOk (n + 1) u Rc Er Ot O N := ⟨ok.rc, ok.er, ⟨ok.ot.1, by have := ok.ot.2.1; omega, ok.ot.2.2⟩, ok.nm, ok.cl, ok.ba⟩
theorem mode_w {z : Str} (h : z ∈ modesS) : IsW z := by
  have all : ∀ y ∈ modesS, 1 ≤ (tl y).length ∧ (tl y).length ≤ 8 ∧ (tl y).all (fun c => decide (97 ≤ c) && decide (c ≤ 122)) = true := by decide +kernel
  obtain ⟨h1, h2, h3⟩ := all z h
  exact isW_of h1 h2 h3
theorem lead_nest {z : Str} {n : Nat} (h : z ∈ leadS ++ follS) (n1 : 1 ≤ n) (n7 : n < 8) : nestB z n = true := by
  have all : ∀ y ∈ leadS ++ follS, ¬ y = Str.ofString "function" := by decide +kernel
  unfold nestB
  rw [decide_eq_false (all z h), decide_eq_true h]
  simp only [Bool.false_eq_true, if_false, if_true, Bool.and_eq_true, decide_eq_true_iff]
  omega
/-- the row of a block -/
theorem block_ok {mo : Str} {ks Er : List Str} {n : Nat} (hmo : mo ∈ modesS) (kks : ks = [] ∨ ∃ ls : List Str, ls ≠ [] ∧ ls.length ≤ 2 ∧ (∀ z ∈ ls, z ∈ Er) ∧ ks = Str.ofString "keep" :: ls) (er : ∀ z ∈ Er, IsW z) (n1 : 1 ≤ n) (n8 : n < 8) :
    RowOk n (Str.ofString "block" :: mo :: ks) ∧ ∀ Rc O N, RowF Rc Er O N (n, Str.ofString "block" :: mo :: ks) := by
  have bw : IsW (Str.ofString "block") := isW_of (by decide +kernel) (by decide +kernel) (by decide +kernel)
  have kw : IsW (Str.ofString "keep") := isW_of (by decide +kernel) (by decide +kernel) (by decide +kernel)
  have lk : ks.length ≤ 3 := by
    rcases kks with h | ⟨ls, _, h1, _, h⟩
    · rw [h]
      decide
    · rw [h, List.length_cons]
      omega
  have iw : ∀ z ∈ Str.ofString "block" :: mo :: ks, IsW z := fun z hz => by
    rcases List.mem_cons.mp hz with rfl | hz
    · exact bw
    · rcases List.mem_cons.mp hz with rfl | hz
      · exact mode_w hmo
      · rcases kks with h | ⟨ls, _, _, h1, h⟩
        · rw [h] at hz
          cases hz
        · rw [h] at hz
          rcases List.mem_cons.mp hz with rfl | hz
          · exact kw
          · exact er z (h1 z hz)
  have kb : keepB ks = true := by
    unfold keepB
    rcases kks with h | ⟨ls, h0, _, _, h⟩
    · rw [h]
      rfl
    · rw [h]
      have : 1 < (Str.ofString "keep" :: ls).length := by
        rw [List.length_cons]
        have := List.length_pos_iff.mpr h0
        omega
      rw [decide_eq_true (show w0 (Str.ofString "keep" :: ls) = Str.ofString "keep" from rfl), decide_eq_true this]
      simp
  have fz : formB modesS (Str.ofString "block" :: mo :: ks) = true := by
    unfold formB
    rw [if_neg (by show ¬ decide (Str.ofString "block" ∈ fixA) = true; decide +kernel), if_pos (by show decide (Str.ofString "block" = Str.ofString "block") = true; decide +kernel)]
    show (decide (1 < _) && (decide (mo ∈ modesS) && keepB ks)) = true
    rw [decide_eq_true hmo, kb, decide_eq_true (by simp)]
    rfl
  have mz : ∀ z ∈ ment (Str.ofString "block" :: mo :: ks), z ∈ Er := fun z hz => by
    unfold ment at hz
    rw [if_pos (show w0 (Str.ofString "block" :: mo :: ks) = Str.ofString "block" from rfl)] at hz
    rcases kks with h | ⟨ls, _, _, h1, h⟩
    · rw [h] at hz
      cases hz
    · rw [h] at hz
      exact h1 z hz
  refine ⟨⟨⟨by simp, iw, by simp; omega⟩, by omega, fz, lead_nest (z := Str.ofString "block") (by decide +kernel) n1 n8⟩, fun Rc O N => ⟨fun h => absurd h (by show ¬ Str.ofString "block" = Str.ofString "write"; decide +kernel), mz, fun h => absurd h (by show ¬ Str.ofString "block" = Str.ofString "call"; decide +kernel), (by show ¬ Str.ofString "block" = Str.ofString "function"; decide +kernel), ?_, by simp; omega⟩⟩
  show (rowT n (Str.ofString "block" :: mo :: ks)).length ≤ 52
  have jl := join_len (Str.ofString " ") (Str.ofString "block" :: mo :: ks)
  have e1 : (Str.ofString " ").length = 1 := by decide +kernel
  have e2 : (Str.ofString "block").length = 5 := by decide +kernel
  have e3 : (Str.ofString "keep").length = 4 := by decide +kernel
  have e4 : mo.length ≤ 7 := (show ∀ y ∈ modesS, y.length ≤ 7 by decide +kernel) mo hmo
  rw [e1, List.map_cons, List.map_cons, List.sum_cons, List.sum_cons, e2, List.length_cons, List.length_cons] at jl
  rw [row_len]
  rcases kks with h | ⟨ls, _, h2, h1, h⟩
  · rw [h] at jl ⊢
    have jl : _ ≤ 5 + (mo.length + 0) + (0 + 1 + 1) * 1 := jl
    omega
  · rw [h] at jl ⊢
    have s8 := sum_le8 ls fun z hz => by rw [len_tl]; exact (er z (h1 z hz)).2.1
    rw [List.map_cons, List.sum_cons, e3, List.length_cons] at jl
    omega
section
variable {P : Program} {w : World} {K : PySem.W.Frag} {mg : Str → Option Value} {base : Heap}
theorem ok_stmt {f : Addr} {fd : FuncData} (F : Fun K "_law_statement" "_law_statement" s_law_statement f fd) (T : Bn mg) (D_law_draw : Df P w K mg base 1 "_law_draw" ["pool", "many"] spDraw) (D_law_pick : Df P w K mg base 2 "_law_pick" ["pool", "some"] spPick) (D_law_row : Df P w K mg base 1 "_law_row" ["nesting", "words"] spRow) (d : Nat)
    (D_law_body : Df P w K mg base (3 * d + 1) "_law_body" ["pool", "nesting", "words", "room"] (spMake d 0 0 fun _ => 1)) (D_law_try : Df P w K mg base (3 * d + 2) "_law_try" ["pool", "nesting", "words", "room"] (spTry (d + 1))) : FnOk P w K mg base CX0 (3 * d + 2 + 1) f fd ["pool", "nesting", "words", "room"] (spMake (d + 1) 3000 10 fun a => if 0 < a then -1 else 1) := by
  refine F.ok sc_law_statement (fun vs H Q E h => ?_) (fun cdv A outer s H vs Q E hr h => ?_)
  · obtain ⟨p, wa, rm, n, Rc, Er, Ot, O, N, u, a, b, pn, rfl, _⟩ := h
    rfl
  · obtain ⟨p, wa, rm, n, Rc, Er, Ot, O, N, u, a, b, pn, rfl, nd, n1, hp, hpn, hw, hrm, rp, ha, ok, kk⟩ := h
    refine ⟨_, (pss_cons (ps_set (i := 4) sc_law_statement.nd rfl (Or.inl rfl) (pe_df D_law_draw hr (by first | decide | omega) rfl (pa_cons (pv 0) (pa_cons (pe_ifExp (PW.pt (pw_and (pt_cmpR op_lt (pv 1) pe_int (nomark _)) (pw_and1 (pt_cmpR op_gt (pe_ix ix_list (pv 3) pe_int (fun _ _ => rfl)) pe_int (nomark _))))) pe_int pe_int) pa_nil))))
  (pss_cons (ps_asg (pe_op op_sub (pe_ix ix_list (pv 3) pe_int (fun _ _ => rfl)) pe_int) (pg_sub (pv 3) pe_int set_list))
  (pss_cons (ps_if (pt_cmpR op_eq (pv 4) pe_int (nomark _))
  (pss_one (ps_ret (pe_lst (pa_cons (pe_df D_law_row hr (by first | decide | omega) rfl (pa_cons (pv 1) (pa_cons (pe_lst (pa_cons (pe_ix ix_list (pe_lst (pa_cons pe_str (pa_cons pe_str pa_nil))) (pe_df D_law_draw hr (by first | decide | omega) rfl (pa_cons (pv 0) (pa_cons pe_int pa_nil))) (fun _ _ => rfl)) pa_nil)) pa_nil))) pa_nil))))
  pss_nil)
  (pss_cons (ps_if (pt_cmpR op_lt (pv 4) pe_int (nomark _))
  (pss_one (ps_ret (pe_lst (pa_cons (pe_df D_law_row hr (by first | decide | omega) rfl (pa_cons (pv 1) (pa_cons (pe_lst (pa_cons pe_str (pa_cons (pe_df D_law_pick hr (by first | decide | omega) rfl (pa_cons (pv 0) (pa_cons (pe_ix ix_list (pv 2) pe_int (fun _ _ => rfl)) pa_nil))) pa_nil))) pa_nil))) pa_nil))))
  pss_nil)
  (pss_cons (ps_if (pt_cmpR op_eq (pv 4) pe_int (nomark _))
  (pss_one (ps_ret (pe_lst (pa_cons (pe_df D_law_row hr (by first | decide | omega) rfl (pa_cons (pv 1) (pa_cons (pe_lst (pa_cons pe_str (pa_cons (pe_df D_law_pick hr (by first | decide | omega) rfl (pa_cons (pv 0) (pa_cons (pe_ix ix_list (pv 2) pe_int (fun _ _ => rfl)) pa_nil))) pa_nil))) pa_nil))) pa_nil))))
  pss_nil)
  (pss_cons (ps_if (pt_cmpR op_lt (pv 4) pe_int (nomark _))
  (pss_cons (ps_set (i := 5) sc_law_statement.nd rfl (Or.inl rfl) (pe_df D_law_pick hr (by first | decide | omega) rfl (pa_cons (pv 0) (pa_cons (pe_ix ix_list (pv 2) pe_int (fun _ _ => rfl)) pa_nil))))
  (pss_cons (ps_if (pt_cmpR op_in_seq (pv 5) (pe_ix ix_list (pv 2) pe_int (fun _ _ => rfl)) (by rfl))
  (pss_cons (ps_asg (pe_op op_sub (pe_ix ix_list (pv 3) pe_int (fun _ _ => rfl)) pe_int) (pg_sub (pv 3) pe_int set_list))
  (pss_one (ps_if (pt_cmpR op_lt (pe_ix ix_list (pv 3) pe_int (fun _ _ => rfl)) pe_int (nomark _))
  (pss_one (ps_ret (pe_lst (pa_cons (pe_df D_law_row hr (by first | decide | omega) rfl (pa_cons (pv 1) (pa_cons (pe_lst (pa_cons pe_str (pa_cons (pe_df D_law_pick hr (by first | decide | omega) rfl (pa_cons (pv 0) (pa_cons (pe_ix ix_list (pv 2) pe_int (fun _ _ => rfl)) pa_nil))) pa_nil))) pa_nil))) pa_nil))))
  pss_nil)))
  pss_nil)
  (pss_one (ps_ret (pe_lst (pa_cons (pe_df D_law_row hr (by first | decide | omega) rfl (pa_cons (pv 1) (pa_cons (pe_lst (pa_cons pe_str (pa_cons (pv 5) pa_nil))) pa_nil))) pa_nil))))))
  pss_nil)
  (pss_cons (ps_if (pt_cmpR op_lt (pv 4) pe_int (nomark _))
  (pss_cons (ps_set (i := 6) sc_law_statement.nd rfl (Or.inl rfl) (pe_df D_law_pick hr (by first | decide | omega) rfl (pa_cons (pv 0) (pa_cons (pe_lst (pa_cons pe_str (pa_cons pe_str (pa_cons pe_str (pa_cons pe_str (pa_cons pe_str (pa_cons pe_str (pa_cons pe_str (pa_cons pe_str pa_nil))))))))) pa_nil))))
  (pss_cons (ps_setLc (i := 7) (own := [("k", 10)]) (g := gName 10) (tt := tYes) rfl sc_law_statement.nd rfl rfl rfl (pi_range1 rfl T.range (pa_cons (pe_df D_law_draw hr (by first | decide | omega) rfl (pa_cons (pv 0) (pa_cons pe_int pa_nil))) pa_nil)) (blkOk_by (N := ["pool", "nesting", "words", "room", "sort", "name", "mode", "listed", "guarded", "rows", "k"]) (sc := defScope s_law_statement) (by decide +kernel)) (fun _ _ _ _ _ => pg_name (i := 10) sc_law_statement.nd rfl (Or.inl rfl)) (fun _ _ _ _ _ => pts_nil) (fun _ _ _ _ _ => (pe_df D_law_pick hr (by first | decide | omega) rfl (pa_cons (pv 0) (pa_cons (pe_ix (show IxR _ (rIxL K) from ix_list) (pv 2) pe_int (fun _ _ => rfl)) pa_nil)))))
  (Evl.pss_cut (ps_set (i := 7) sc_law_statement.nd rfl (Or.inl rfl) (pe_ifExp (pt_cmpR (op_neD hr.units) (pv 7) (pe_lst pa_nil) (nomark _)) (pe_op op_cat (pe_lst (pa_cons pe_str pa_nil)) (pv 7)) (pe_lst pa_nil)))
  (pss_one (ps_ret (pe_op op_cat (pe_lst (pa_cons (pe_df D_law_row hr (by first | decide | omega) rfl (pa_cons (pv 1) (pa_cons (pe_op op_cat (pe_lst (pa_cons pe_str (pa_cons (pv 6) pa_nil))) (pv 7)) pa_nil))) pa_nil)) (pe_df D_law_body hr (by first | decide | omega) rfl (pa_cons (pv 0) (pa_cons (pe_op op_add (pv 1) pe_int) (pa_cons (pv 2) (pa_cons (pv 3) pa_nil)))))))))))
  pss_nil)
  (pss_cons (ps_if (pt_cmpR op_lt (pv 4) pe_int (nomark _))
  (pss_cons (ps_set (i := 8) sc_law_statement.nd rfl (Or.inl rfl) (pe_lst (pa_cons (pe_ix ix_list (pv 2) pe_int (fun _ _ => rfl)) (pa_cons (pe_ix ix_list (pv 2) pe_int (fun _ _ => rfl)) (pa_cons (pe_op op_cat (pe_ix ix_list (pv 2) pe_int (fun _ _ => rfl)) (pe_ix ix_list (pv 2) pe_int (fun _ _ => rfl))) (pa_cons (pe_ix ix_list (pv 2) pe_int (fun _ _ => rfl)) pa_nil))))))
  (pss_cons (ps_set (i := 9) sc_law_statement.nd rfl (Or.inl rfl) (pe_df D_law_body hr (by first | decide | omega) rfl (pa_cons (pv 0) (pa_cons (pe_op op_add (pv 1) pe_int) (pa_cons (pv 8) (pa_cons (pv 3) pa_nil))))))
  (pss_one (ps_ret (pe_op op_cat (pe_lst (pa_cons (pe_df D_law_row hr (by first | decide | omega) rfl (pa_cons (pv 1) (pa_cons (pe_lst (pa_cons (pe_ix ix_list (pe_lst (pa_cons pe_str (pa_cons pe_str pa_nil))) (pe_op op_sub (pv 4) pe_int) (fun _ _ => rfl)) pa_nil)) pa_nil))) pa_nil)) (pv 9))))))
  pss_nil)
  (pss_one (ps_ret (pe_df D_law_try hr (by first | decide | omega) rfl (pa_cons (pv 0) (pa_cons (pv 1) (pa_cons (pv 2) (pa_cons (pv 3) pa_nil))))))))))))))), ?_⟩
    have hr0 : SqL K H rm [.int a, .int b] := SqL.of hrm
    unfold Bd at hpn
    refine ⟨_, rfl, if_sort rfl rfl hr0 fun m hm => ⟨p, m, pn, rfl, hp, by omega, by omega, by omega, fun e o e0 em hp1 => ?_⟩⟩
    have rm1 : upd H p o rm = some (.lst [.int a, .int b]) := by
      rw [upd_ne rp]
      exact hrm
    refine ⟨_, rfl, rm, _, 0, _, rfl, rfl, SqL.of rm1, rfl, _, _, rfl, rfl, _, rfl, rm, [.int a, .int b], 0, 0, rfl, rfl, rm1, rfl, ?_⟩
    have k2 : Kp [p, rm] H (upd (upd H p o) rm (.lst [.int (a - 1), .int b])) := (Kp.at_ (by simp)).mutAt (by simp)
    have rm2 : upd (upd H p o) rm (.lst [.int (a - 1), .int b]) rm = some (.lst [.int (a - 1), .int b]) := upd_same
    have hp2 : PoolAt (upd (upd H p o) rm (.lst [.int (a - 1), .int b])) p (pn + 1) := hp1.mv fun u e => by
      rw [upd_ne rp.symm]
      exact e
    show _
    have e0' : ([V.int a, V.int b].set 0 (V.int (a - 1))) = [.int (a - 1), .int b] := rfl
    rw [e0']
    generalize upd (upd H p o) rm (.lst [.int (a - 1), .int b]) = H2 at k2 rm2 hp2 ⊢
    have hw2 := hw.kp k2
    obtain ⟨a0, a1, a2, a3, w1', w2', w3', w4', w5', w6'⟩ := hw2.ex
    have notin : ∀ {H' : Hp} {y : Addr}, Kp [p, rm] H2 H' → H' p ≠ none → H' rm ≠ none → H' y = none → H y = none := fun {H' y} k g1 g2 e => by
      cases z : H y with
      | none => rfl
      | some u =>
        by_cases y1 : y = p
        · rw [y1] at e
          exact absurd e g1
        by_cases y2 : y = rm
        · rw [y2] at e
          exact absurd e g2
        rw [(k2.trans k) _ _ z (by simp [y1, y2])] at e
        cases e
    have ending : ∀ (H3 : Hp) (ws : List Str) (l : Addr) (b1 pn1 : Int), Kp [p, rm] H H3 → H3 rm = some (.lst [.int (a - 1), .int b1]) → PoolAt H3 p pn1 → pn1 ≤ pn + 30 → H l = none → H3 l = some (.lst [.str (rowT n ws)]) → RowOk n ws → w0 ws ∈ leafS → (w0 ws = Str.ofString "call" → u = true → w1 ws ∉ N) → (if (decide (w0 ws = Str.ofString "call") && decide (w1 ws ∈ N)) = true then 1 ≤ b ∧ b1 = b - 1 else b1 ≤ b) → RowF Rc Er O N (n, ws) → Q (.ref l) H3 := fun H3 ws l b1 pn1 k3 r3 p3 pl nl hl ro lf cl cb rf => kk H3 l [(n, ws)] (a - 1) b1 nl hl k3 r3 (p3.up (by omega)) (Cnt.leaf lf cb) (Rds.leaf ro lf cl) fun r hr' => by
      rw [List.mem_singleton.mp hr']
      exact rf
    have nw : ∀ {H' : Hp} {y : Addr} {k : Int}, PoolAt H' p k → H' y = none → p ≠ y := fun {H' y k} h e => by
      obtain ⟨_, _, _, z, _⟩ := h
      exact ne_of_none z e
    have back : ∀ {H' : Hp} {y : Addr} {k : Int} {u : HO}, Kp [p, rm] H H' → PoolAt H' p k → H' rm = some u → H' y = none → H y = none := fun {H' y k u} kp hp' hr' e => by
      cases z : H y with
      | none => rfl
      | some x =>
        have := kp _ _ z (by simp [(nw hp' e).symm, (ne_of_none hr' e).symm])
        rw [e] at this
        cases this
    have rowEnd : ∀ (H4 : Hp) (ws : List Str) (b1 pn1 : Int) (l2 : Addr), Kp [p, rm] H H4 → H4 rm = some (.lst [.int (a - 1), .int b1]) → PoolAt H4 p pn1 → pn1 ≤ pn + 30 → H4 l2 = none → RowOk n ws → w0 ws ∈ leafS → (w0 ws = Str.ofString "call" → u = true → w1 ws ∉ N) → (if (decide (w0 ws = Str.ofString "call") && decide (w1 ws ∈ N)) = true then 1 ≤ b ∧ b1 = b - 1 else b1 ≤ b) → RowF Rc Er O N (n, ws) →
        spRow [.int n, .ref l2] (upd H4 l2 (.lst (ws.map V.str))) (fun v G => 1 ≤ sizeLine ∧ ∀ l, G l = none → Q (.ref l) (upd G l (.lst [v]))) E0 := fun H4 ws b1 pn1 l2 k4 r4 p4 pl nl2 ro lf cl cb rf => by
      have s5 := Same.new (o := .lst (ws.map V.str)) nl2
      have k5 := k4.trans (Kp.same (l := [p, rm]) s5)
      have p5 : PoolAt (upd H4 l2 (.lst (ws.map V.str))) p pn1 := p4.mv fun u e => s5 _ _ e
      refine ⟨l2, n, ws, rfl, ro.2.1, upd_same, ro.1.2.2, ro.1.2.1, (by decide), fun l nl => ?_⟩
      have s6 := Same.new (o := .lst [.str (rowT n ws)]) nl
      exact ending _ ws l b1 pn1 (k5.trans (Kp.same s6)) (s6 _ _ (s5 _ _ r4)) (p5.mv fun u e => s6 _ _ e) pl (back k5 p5 (s5 _ _ r4) nl) upd_same ro lf cl cb rf
    have wrEnd : ∀ (H3 : Hp) (z : Str) (b1 pn1 : Int) (l2 : Addr), z ∈ Rc → Kp [p, rm] H H3 → H3 rm = some (.lst [.int (a - 1), .int b1]) → PoolAt H3 p pn1 → pn1 ≤ pn + 30 → H3 l2 = none → b1 ≤ b → spRow [.int n, .ref l2] (upd H3 l2 (.lst ([Str.ofString "write", z].map V.str))) (fun v G => 1 ≤ sizeLine ∧ ∀ l, G l = none → Q (.ref l) (upd G l (.lst [v]))) E0 := fun H3 z b1 pn1 l2 hz k4 rm3 hp3 pl nl2 hb1 => by
      have iz := ok.rc.2.2 z hz
      have hws : ∀ y ∈ [Str.ofString "write", z], IsW y := fun y hy => by
        rcases List.mem_cons.mp hy with rfl | hy
        · exact isW_of (by decide +kernel) (by decide +kernel) (by decide +kernel)
        · rw [List.mem_singleton.mp hy]
          exact iz
      have lz : w0 [Str.ofString "write", z] ∈ leafS := by
        show Str.ofString "write" ∈ leafS
        decide +kernel
      have cz : ¬ w0 [Str.ofString "write", z] = Str.ofString "call" := by
        show ¬ Str.ofString "write" = Str.ofString "call"
        decide +kernel
      have fz : formB modesS [Str.ofString "write", z] = true := by
        unfold formB
        rw [if_pos (by show decide (Str.ofString "write" ∈ fixA) = true; decide +kernel)]
        rfl
      have mz : ment [Str.ofString "write", z] = [] := by
        unfold ment
        rw [if_neg (by show ¬ Str.ofString "write" = Str.ofString "block"; decide +kernel), if_neg (by show ¬ (Str.ofString "write" = Str.ofString "raise" ∨ Str.ofString "write" = Str.ofString "except"); decide +kernel)]
      refine rowEnd H3 [Str.ofString "write", z] b1 pn1 l2 k4 rm3 hp3 pl nl2 ⟨⟨by simp, hws, by simp⟩, by omega, fz, nest_leaf lz n1 (by omega)⟩ lz (fun h => absurd h cz) ?_ ⟨fun _ => hz, fun y hy => ?_, fun h => absurd h cz, (by show ¬ Str.ofString "write" = Str.ofString "function"; decide +kernel), row52 hws (by simp) (by omega), by simp⟩
      · rw [if_neg (by rw [decide_eq_false cz]; simp)]
        exact hb1
      · rw [show ment (n, [Str.ofString "write", z]).2 = [] from mz] at hy
        cases hy
    refine ⟨_, rfl, rfl, _, rfl, iteI (fun c0 => ?_) (fun c0 => ?_)⟩
    · have n8 : n ≤ 8 := by omega
      refine ⟨_, rfl, (by show 2 ≤ sizeLine; decide), fun t nt => ?_⟩
      have pt := nw hp2 nt
      have rt : rm ≠ t := ne_of_none rm2 nt
      have s3 := Same.new (o := .lst [.str "pass", .str "doom"]) nt
      have hp3 : PoolAt (upd H2 t (.lst [.str "pass", .str "doom"])) p (pn + 1) := hp2.mv fun u e => s3 _ _ e
      have t3 : upd H2 t (.lst [.str "pass", .str "doom"]) t = some (.lst [.str "pass", .str "doom"]) := upd_same
      have rm3 := s3 _ _ rm2
      have k3 := k2.trans (Kp.same (l := [p, rm]) s3)
      generalize upd H2 t (.lst [.str "pass", .str "doom"]) = H3 at hp3 t3 rm3 k3 ⊢
      refine ⟨_, rfl, p, 2, pn + 1, rfl, hp3, by omega, by decide, by decide, fun g o2 g0 g2 hp4 => ?_⟩
      have t4 : upd H3 p o2 t = some (.lst [.str "pass", .str "doom"]) := by
        rw [upd_ne pt.symm]
        exact t3
      have rm4 : upd H3 p o2 rm = some (.lst [.int (a - 1), .int b]) := by
        rw [upd_ne rp]
        exact rm3
      have k4 : Kp [p, rm] H (upd H3 p o2) := k3.mutAt (by simp)
      generalize upd H3 p o2 = H4 at hp4 t4 rm4 k4 ⊢
      obtain ⟨z, hz, zz⟩ : ∃ z : Str, atI [V.str "pass", V.str "doom"] g = some (.str z) ∧ (z = Str.ofString "pass" ∨ z = Str.ofString "doom") := by
        have : g = 0 ∨ g = 1 := by omega
        rcases this with rfl | rfl
        · exact ⟨_, rfl, .inl rfl⟩
        · exact ⟨_, rfl, .inr rfl⟩
      refine ⟨t, _, g, _, rfl, rfl, SqL.of t4, hz, (by show 1 ≤ sizeLine; decide), fun l2 nl2 => ?_⟩
      have zw : z ∈ [Str.ofString "pass", Str.ofString "doom"] := by
        rcases zz with rfl | rfl <;> simp
      have iz : IsW z := by
        rcases zz with rfl | rfl <;> exact isW_of (by decide +kernel) (by decide +kernel) (by decide +kernel)
      have lz : z ∈ leafS := by
        rcases zz with rfl | rfl <;> decide +kernel
      have fz : formB modesS [z] = true := by
        rcases zz with rfl | rfl <;> decide +kernel
      have cz : ¬ z = Str.ofString "call" ∧ ¬ z = Str.ofString "write" ∧ ment [z] = [] ∧ ¬ z = Str.ofString "function" := by
        rcases zz with rfl | rfl <;> decide +kernel
      have hws : ∀ y ∈ [z], IsW y := fun y hy => by
        rw [List.mem_singleton.mp hy]
        exact iz
      refine rowEnd H4 [z] b (pn + 1 + 1) l2 k4 rm4 hp4 (by omega) nl2 ⟨⟨by simp, hws, by simp⟩, by omega, fz, nest_leaf lz n1 n8⟩ lz (fun h => absurd h cz.1) ?_ ⟨fun h => absurd h cz.2.1, fun y hy => ?_, fun h => absurd h cz.1, cz.2.2.2, row52 hws (by simp) n8, by simp⟩
      · rw [if_neg (by rw [show decide (w0 [z] = Str.ofString "call") = false from decide_eq_false cz.1]; simp)]
        exact Int.le_refl _
      · rw [show ment (n, [z]).2 = [] from cz.2.2.1] at hy
        cases hy
    · refine ⟨_, rfl, _, _, rfl, rfl, _, rfl, ite2 (fun c3 => ?_) (fun c3 => ?_)⟩
      · refine ⟨_, rfl, _, rfl, _, rfl, wa, _, 0, _, rfl, rfl, SqL.of w1', rfl, p, a0, Rc, pn + 1, rfl, hp2, by omega, w2', ok.rc.1, by have := ok.rc.2.1; omega, fun e => w6' a0 (by simp) (by simp [e]), fun z H3 hz hp3 k3 => ?_⟩
        refine ⟨(by show 2 ≤ sizeLine; decide), fun l2 nl2 => ?_⟩
        have rm3 : H3 rm = some (.lst [.int (a - 1), .int b]) := k3 _ _ rm2 (by simpa using rp)
        have k4 : Kp [p, rm] H H3 := k2.trans fun y u e m => k3 y u e fun q => m (by simp [List.mem_singleton.mp q])
        have iz := ok.rc.2.2 z hz
        have hws : ∀ y ∈ [Str.ofString "write", z], IsW y := fun y hy => by
          rcases List.mem_cons.mp hy with rfl | hy
          · exact isW_of (by decide +kernel) (by decide +kernel) (by decide +kernel)
          · rw [List.mem_singleton.mp hy]
            exact iz
        have lz : w0 [Str.ofString "write", z] ∈ leafS := by
          show Str.ofString "write" ∈ leafS
          decide +kernel
        have cz : ¬ w0 [Str.ofString "write", z] = Str.ofString "call" := by
          show ¬ Str.ofString "write" = Str.ofString "call"
          decide +kernel
        have fz : formB modesS [Str.ofString "write", z] = true := by
          unfold formB
          rw [if_pos (by show decide (Str.ofString "write" ∈ fixA) = true; decide +kernel)]
          rfl
        have mz : ment [Str.ofString "write", z] = [] := by
          unfold ment
          rw [if_neg (by show ¬ Str.ofString "write" = Str.ofString "block"; decide +kernel), if_neg (by show ¬ (Str.ofString "write" = Str.ofString "raise" ∨ Str.ofString "write" = Str.ofString "except"); decide +kernel)]
        refine rowEnd H3 [Str.ofString "write", z] b (pn + 1 + 1) l2 k4 rm3 hp3 (by omega) nl2 ⟨⟨by simp, hws, by simp⟩, by omega, fz, nest_leaf lz n1 (by omega)⟩ lz (fun h => absurd h cz) ?_ ⟨fun _ => hz, fun y hy => ?_, fun h => absurd h cz, (by show ¬ Str.ofString "write" = Str.ofString "function"; decide +kernel), row52 hws (by simp) (by omega), by simp⟩
        · rw [if_neg (by rw [decide_eq_false cz]; simp)]
          exact Int.le_refl _
        · rw [show ment (n, [Str.ofString "write", z]).2 = [] from mz] at hy
          cases hy
      · refine ⟨_, rfl, rfl, _, rfl, iteI (fun c4 => ?_) (fun c4 => ?_)⟩
        · refine ⟨_, rfl, _, rfl, _, rfl, wa, _, 1, _, rfl, rfl, SqL.of w1', rfl, p, a1, Er, pn + 1, rfl, hp2, by omega, w3', ok.er.1, by have := ok.er.2.1; omega, fun e => w6' a1 (by simp) (by simp [e]), fun z H3 hz hp3 k3 => ?_⟩
          refine ⟨(by show 2 ≤ sizeLine; decide), fun l2 nl2 => ?_⟩
          have rm3 : H3 rm = some (.lst [.int (a - 1), .int b]) := k3 _ _ rm2 (by simpa using rp)
          have k4 : Kp [p, rm] H H3 := k2.trans fun y u e m => k3 y u e fun q => m (by simp [List.mem_singleton.mp q])
          have iz := ok.er.2.2 z hz
          have hws : ∀ y ∈ [Str.ofString "raise", z], IsW y := fun y hy => by
            rcases List.mem_cons.mp hy with rfl | hy
            · exact isW_of (by decide +kernel) (by decide +kernel) (by decide +kernel)
            · rw [List.mem_singleton.mp hy]
              exact iz
          have lz : w0 [Str.ofString "raise", z] ∈ leafS := by
            show Str.ofString "raise" ∈ leafS
            decide +kernel
          have cz : ¬ w0 [Str.ofString "raise", z] = Str.ofString "call" := by
            show ¬ Str.ofString "raise" = Str.ofString "call"
            decide +kernel
          have fz : formB modesS [Str.ofString "raise", z] = true := by
            unfold formB
            rw [if_pos (by show decide (Str.ofString "raise" ∈ fixA) = true; decide +kernel)]
            rfl
          have mz : ment [Str.ofString "raise", z] = [z] := by
            unfold ment
            rw [if_neg (by show ¬ Str.ofString "raise" = Str.ofString "block"; decide +kernel), if_pos (.inl rfl)]
            rfl
          refine rowEnd H3 [Str.ofString "raise", z] b (pn + 1 + 1) l2 k4 rm3 hp3 (by omega) nl2 ⟨⟨by simp, hws, by simp⟩, by omega, fz, nest_leaf lz n1 (by omega)⟩ lz (fun h => absurd h cz) ?_ ⟨fun h => absurd h (by show ¬ Str.ofString "raise" = Str.ofString "write"; decide +kernel), fun y hy => ?_, fun h => absurd h cz, (by show ¬ Str.ofString "raise" = Str.ofString "function"; decide +kernel), row52 hws (by simp) (by omega), by simp⟩
          · rw [if_neg (by rw [decide_eq_false cz]; simp)]
            exact Int.le_refl _
          · rw [show ment (n, [Str.ofString "raise", z]).2 = [z] from mz] at hy
            rw [List.mem_singleton.mp hy]
            exact hz
        · refine ⟨_, rfl, _, _, rfl, rfl, _, rfl, ite2 (fun c5 => ?_) (fun c5 => ?_)⟩
          · refine ⟨_, rfl, _, rfl, wa, _, 2, _, rfl, rfl, SqL.of w1', rfl, p, a2, Ot, pn + 1, rfl, hp2, by omega, w4', ok.ot.1, by have := ok.ot.2.1; omega, fun e => w6' a2 (by simp) (by simp [e]), fun z H3 hz hp3 k3 => ?_⟩
            have rm3 : H3 rm = some (.lst [.int (a - 1), .int b]) := k3 _ _ rm2 (by simpa using rp)
            have k23 : Kp [p, rm] H2 H3 := fun y u e m => k3 y u e fun q => m (by simp [List.mem_singleton.mp q])
            have k4 : Kp [p, rm] H H3 := k2.trans k23
            have w13 := k23 _ _ w1' (w6' wa (by simp))
            have w23 := k23 _ _ w2' (w6' a0 (by simp))
            have w53 := k23 _ _ w5' (w6' a3 (by simp))
            have iz := ok.ot.2.2 z hz
            refine ⟨_, rfl, _, rfl, wa, _, 3, _, rfl, rfl, SqL.of w13, rfl, a3, N.map V.str, rfl, .inl (SqL.of w53), rfl, flatS _, ?_⟩
            rw [inq]
            have clEnd : ∀ (H4 : Hp) (b1 : Int) (l2 : Addr), Kp [p, rm] H H4 → H4 rm = some (.lst [.int (a - 1), .int b1]) → PoolAt H4 p (pn + 1 + 1) → H4 l2 = none → (if decide (z ∈ N) = true then 1 ≤ b ∧ b1 = b - 1 else b1 ≤ b) → spRow [.int n, .ref l2] (upd H4 l2 (.lst ([Str.ofString "call", z].map V.str))) (fun v G => 1 ≤ sizeLine ∧ ∀ l, G l = none → Q (.ref l) (upd G l (.lst [v]))) E0 := fun H4 b1 l2 k5 r5 p5 nl5 cb => by
              have hws : ∀ y ∈ [Str.ofString "call", z], IsW y := fun y hy => by
                rcases List.mem_cons.mp hy with rfl | hy
                · exact isW_of (by decide +kernel) (by decide +kernel) (by decide +kernel)
                · rw [List.mem_singleton.mp hy]
                  exact iz
              have lz : w0 [Str.ofString "call", z] ∈ leafS := by
                show Str.ofString "call" ∈ leafS
                decide +kernel
              have fz : formB modesS [Str.ofString "call", z] = true := by
                unfold formB
                rw [if_pos (by show decide (Str.ofString "call" ∈ fixA) = true; decide +kernel)]
                rfl
              have mz : ment [Str.ofString "call", z] = [] := by
                unfold ment
                rw [if_neg (by show ¬ Str.ofString "call" = Str.ofString "block"; decide +kernel), if_neg (by show ¬ (Str.ofString "call" = Str.ofString "raise" ∨ Str.ofString "call" = Str.ofString "except"); decide +kernel)]
              have tz : (decide (w0 [Str.ofString "call", z] = Str.ofString "call") && decide (w1 [Str.ofString "call", z] ∈ N)) = decide (z ∈ N) := by
                rw [decide_eq_true (show w0 [Str.ofString "call", z] = Str.ofString "call" from rfl)]
                rfl
              refine rowEnd H4 [Str.ofString "call", z] b1 (pn + 1 + 1) l2 k5 r5 p5 (by omega) nl5 ⟨⟨by simp, hws, by simp⟩, by omega, fz, nest_leaf lz n1 (by omega)⟩ lz (fun _ hu => ok.ba hu z hz) ?_ ⟨fun h => absurd h (by show ¬ Str.ofString "call" = Str.ofString "write"; decide +kernel), fun y hy => ?_, fun _ => ok.cl z hz, (by show ¬ Str.ofString "call" = Str.ofString "function"; decide +kernel), row52 hws (by simp) (by omega), by simp⟩
              · rw [tz]
                exact cb
              · rw [show ment (n, [Str.ofString "call", z]).2 = [] from mz] at hy
                cases hy
            refine ⟨_, rfl, ite2 (fun c6 => ?_) (fun c6 => ?_)⟩
            · refine ⟨_, rfl, rm, _, 1, _, rfl, rfl, SqL.of rm3, rfl, _, _, rfl, rfl, _, rfl, rm, [.int (a - 1), .int b], 1, 1, rfl, rfl, rm3, rfl, ?_⟩
              have rm4 : upd H3 rm (.lst ([V.int (a - 1), V.int b].set 1 (V.int (b - 1)))) rm = some (.lst [.int (a - 1), .int (b - 1)]) := upd_same
              have hp4 : PoolAt (upd H3 rm (.lst ([V.int (a - 1), V.int b].set 1 (V.int (b - 1))))) p (pn + 1 + 1) := hp3.mv fun u e => by
                rw [upd_ne rp.symm]
                exact e
              have k5 : Kp [p, rm] H (upd H3 rm (.lst ([V.int (a - 1), V.int b].set 1 (V.int (b - 1))))) := k4.mutAt (by simp)
              have w14 : upd H3 rm (.lst ([V.int (a - 1), V.int b].set 1 (V.int (b - 1)))) wa = some (.lst [.ref a0, .ref a1, .ref a2, .ref a3]) := by
                rw [upd_ne (fun q => w6' wa (by simp) (by simp [q]))]
                exact w13
              have w24 : upd H3 rm (.lst ([V.int (a - 1), V.int b].set 1 (V.int (b - 1)))) a0 = some (.lst (Rc.map V.str)) := by
                rw [upd_ne (fun q => w6' a0 (by simp) (by simp [q]))]
                exact w23
              generalize upd H3 rm (.lst ([V.int (a - 1), V.int b].set 1 (V.int (b - 1)))) = H4 at rm4 hp4 k5 w14 w24 ⊢
              refine ⟨_, rfl, rm, _, 1, _, rfl, rfl, SqL.of rm4, rfl, _, _, rfl, rfl, _, rfl, ite2 (fun c7 => ?_) (fun c7 => ?_)⟩
              · refine ⟨_, rfl, _, rfl, _, rfl, wa, _, 0, _, rfl, rfl, SqL.of w14, rfl, p, a0, Rc, pn + 1 + 1, rfl, hp4, by omega, w24, ok.rc.1, by have := ok.rc.2.1; omega, fun e => w6' a0 (by simp) (by simp [e]), fun z2 H5 hz2 hp5 k6 => ?_⟩
                refine ⟨(by show 2 ≤ sizeLine; decide), fun l2 nl2 => ?_⟩
                exact wrEnd H5 z2 (b - 1) (pn + 1 + 1 + 1) l2 hz2 (k5.trans fun y u e m => k6 y u e fun q => m (by simp [List.mem_singleton.mp q])) (k6 _ _ rm4 (by simpa using rp)) hp5 (by omega) nl2 (by omega)
              · have c7 : ¬ b - 1 < 0 := fun h => c7 (decide_eq_true h)
                refine ⟨_, rfl, _, rfl, (by show 2 ≤ sizeLine; decide), fun l2 nl2 => ?_⟩
                refine clEnd H4 (b - 1) l2 k5 rm4 hp4 nl2 ?_
                rw [if_pos c6]
                exact ⟨by omega, rfl⟩
            · refine ⟨_, rfl, _, rfl, (by show 2 ≤ sizeLine; decide), fun l2 nl2 => ?_⟩
              refine clEnd H3 b l2 k4 rm3 hp3 nl2 ?_
              rw [if_neg c6]
              exact Int.le_refl _
          · have c5 : ¬ e < 6 := fun h => c5 (decide_eq_true h)
            have m7 : n < 8 ∧ 0 < a := by
              rcases hm with h | h
              · omega
              · exact h.2
            refine ⟨_, rfl, _, _, rfl, rfl, _, rfl, ite2 (fun c8 => ?_) (fun c8 => ?_)⟩
            · have k2' : ∀ {G : Hp}, Kp [p] H2 G → Kp [p, rm] H2 G := fun k y u e m => k y u e fun q => m (by simp [List.mem_singleton.mp q])
              refine ⟨_, rfl, (by show 8 ≤ sizeLine; decide), fun t nt => ?_⟩
              have s3 := Same.new (o := .lst (modesS.map V.str)) nt
              have t3 : upd H2 t (.lst (modesS.map V.str)) t = some (.lst (modesS.map V.str)) := upd_same
              have pt := nw hp2 nt
              have hp3 : PoolAt (upd H2 t (.lst (modesS.map V.str))) p (pn + 1) := hp2.mv fun u e => s3 _ _ e
              refine ⟨p, t, modesS, pn + 1, rfl, hp3, by omega, t3, by decide, by decide, pt.symm, fun mo H4 hmo hp4 k34 => ?_⟩
              have k24 : Kp [p] H2 H4 := (Kp.same s3).trans k34
              refine ⟨_, rfl, p, 3, pn + 1 + 1, rfl, hp4, by omega, by decide, by decide, fun g o2 g0 g3 hp5 => ?_⟩
              have k25 : Kp [p] H2 (upd H4 p o2) := k24.mutAt (by simp)
              generalize upd H4 p o2 = H5 at hp5 k25 ⊢
              refine ⟨g, rfl, by omega, by omega, fun D hD => ?_⟩
              refine lc_pick (p := p) (gi := 10) (· ∈ Er) g.toNat _ (by omega) hp5 hD (fun x m' G Q2 hq hm kq cont => ?_) (fun ls GL ll okl hz hp6 kp6 => ?_)
              · have k2G := k2' (k25.trans kq)
                refine ⟨_, rfl, _, rfl, wa, _, 1, _, rfl, rfl, SqL.of (k2G _ _ w1' (w6' wa (by simp))), rfl, p, a1, Er, m', rfl, hq, by omega, k2G _ _ w3' (w6' a1 (by simp)), ok.er.1, by have := ok.er.2.1; omega, fun e => w6' a1 (by simp) (by simp [e]), fun z G2 hz hp7 k7 => cont z G2 hz hp7 k7⟩
              · have k26 := k2' (k25.trans kp6)
                have pD : p ≠ D := nw hp5 hD
                have rm6 : GL rm = some (.lst [.int (a - 1), .int b]) := (k25.trans kp6) _ _ rm2 (by simpa using rp)
                have hp6 : PoolAt GL p (pn + 5) := hp6.up (by omega)
                have hw6 := hw2.kp k26
                have lle : ∀ z ∈ ls, IsW z := fun z h => ok.er.2.2 z (okl z h)
                refine ⟨fun σ' G' => ∃ (li : Addr) (ks : List Str) (z5 z8 z9 z10 : Option V), σ' = [some (.ref p), some (.int n), some (.ref wa), some (.ref rm), some (.int e), z5, some (.str mo), some (.ref li), z8, z9, z10] ∧ Kp [p, rm] H2 G' ∧ G' rm = some (.lst [.int (a - 1), .int b]) ∧ PoolAt G' p (pn + 5) ∧ G' li = some (.lst (ks.map V.str)) ∧ (ks = [] ∨ ∃ ls : List Str, ls ≠ [] ∧ ls.length ≤ 2 ∧ (∀ z ∈ ls, z ∈ Er) ∧ ks = Str.ofString "keep" :: ls), ?_, ?_⟩
                · refine ⟨_, rfl, (by show 0 ≤ sizeLine; decide), fun q nq => ?_⟩
                  have s7 := Same.new (o := .lst []) nq
                  refine ⟨.list (ls.map PyData.str), .list (([] : List Str).map PyData.str), dpL (s7 _ _ hz), dpL (zs := []) upd_same, shaped_s lle, rfl, ?_⟩
                  rw [eqvL]
                  refine ⟨_, rfl, ?_⟩
                  by_cases e0 : ls = []
                  · rw [decide_eq_true e0]
                    refine iteF ?_
                    refine ⟨(by show 0 ≤ sizeLine; decide), fun q2 nq2 => ?_⟩
                    have s9 := s7.trans (Same.new (o := .lst []) nq2)
                    exact ⟨q2, [], _, _, _, _, rfl, k26.trans (Kp.same s9), s9 _ _ rm6, hp6.mv fun u x => s9 _ _ x, upd_same, .inl rfl⟩
                  · rw [decide_eq_false e0]
                    refine iteT ?_
                    refine ⟨(by show 1 ≤ sizeLine; decide), fun q2 nq2 => ⟨_, rfl, ?_⟩⟩
                    have s8 := Same.new (o := .lst [.str "keep"]) nq2
                    refine ⟨q2, D, _, _, rfl, rfl, upd_same, s8 _ _ (s7 _ _ hz), Nat.le_of_lt (small1000 (by rw [List.length_map]; show 1 + ls.length ≤ 1000; omega)), fun q3 nq3 => ?_⟩
                    have s9 := (s7.trans s8).trans (Same.new (o := .lst ([V.str (Str.ofString "keep")] ++ ls.map V.str)) nq3)
                    exact ⟨q3, Str.ofString "keep" :: ls, _, _, _, _, rfl, k26.trans (Kp.same s9), s9 _ _ rm6, hp6.mv fun u x => s9 _ _ x, upd_same, .inr ⟨ls, e0, by omega, okl, rfl⟩⟩
                · rintro σ' G' ⟨li, ks, z5, z8, z9, z10, rfl, kG, rmG, hpG, hli, kks⟩
                  have k2G := k2.trans kG
                  refine ⟨_, rfl, _, rfl, (by show 2 ≤ sizeLine; decide), fun q nq => ⟨_, rfl, ?_⟩⟩
                  have s7 := Same.new (o := .lst [.str "block", .str mo]) nq
                  refine ⟨q, li, _, _, rfl, rfl, upd_same, s7 _ _ hli, ?_, fun q2 nq2 => ?_⟩
                  · rw [List.length_map]
                    have : ks.length ≤ 3 := by
                      rcases kks with h | ⟨ls, _, h1, _, h⟩
                      · rw [h]
                        decide
                      · rw [h, List.length_cons]
                        omega
                    exact Nat.le_of_lt (small1000 (by show 2 + ks.length ≤ 1000; omega))
                  have bk := block_ok (n := n) hmo kks ok.er.2.2 n1 m7.1
                  have s8 := s7.trans (Same.new (o := .lst ([V.str (Str.ofString "block"), V.str mo] ++ ks.map V.str)) nq2)
                  have h8 : upd (upd G' q (.lst [.str "block", .str mo])) q2 (.lst ([V.str (Str.ofString "block"), V.str mo] ++ ks.map V.str)) q2 = some (.lst ((Str.ofString "block" :: mo :: ks).map V.str)) := upd_same
                  generalize upd (upd G' q (.lst [.str "block", .str mo])) q2 (.lst ([V.str (Str.ofString "block"), V.str mo] ++ ks.map V.str)) = G8 at s8 h8 ⊢
                  refine ⟨q2, n, Str.ofString "block" :: mo :: ks, rfl, by omega, h8, bk.1.1.2.2, bk.1.1.2.1, (by show 1 ≤ sizeLine; decide), fun q3 nq3 => ?_⟩
                  have s9 := s8.trans (Same.new (o := .lst [.str (rowT n (Str.ofString "block" :: mo :: ks))]) nq3)
                  have h9 : upd G8 q3 (.lst [.str (rowT n (Str.ofString "block" :: mo :: ks))]) q3 = some (.lst [.str (rowT n (Str.ofString "block" :: mo :: ks))]) := upd_same
                  generalize upd G8 q3 (.lst [.str (rowT n (Str.ofString "block" :: mo :: ks))]) = G9 at s9 h9 ⊢
                  have hp9 : PoolAt G9 p (pn + 5) := hpG.mv fun u x => s9 _ _ x
                  have k9 : Kp [p, rm] H2 G9 := kG.trans (Kp.same s9)
                  refine ⟨_, rfl, _, rfl, _, _, rfl, rfl, _, rfl, _, rfl, p, wa, rm, n + 1, Rc, Er, Ot, O, N, u, a - 1, b, pn + 5, rfl, by omega, by omega, hp9, by unfold Bd; omega, hw2.kp k9, s9 _ _ rmG, rp, by omega, ok.deeper, fun H5 l5 L a' b' nl5 hl5 k5 rm5 hp5 ct rd rf => ?_⟩
                  have ct : Cnt N (a - 1) b a' b' 1 1 L := ct
                  have k25 := k2.trans (k9.trans k5)
                  have q3n : q3 ∉ [p, rm] := by
                    have z1 := nw hpG (y := q3) (none_of_same (s8) nq3)
                    have z2 : rm ≠ q3 := ne_of_none rmG (none_of_same s8 nq3)
                    simp [z1.symm, z2.symm]
                  refine ⟨q3, l5, _, _, rfl, rfl, k5 _ _ h9 q3n, hl5, ?_, fun l nl => ?_⟩
                  · have := ct.pr
                    rw [List.length_map]
                    exact Nat.le_of_lt (small1000 (by show 1 + _ ≤ _; omega))
                  · have s10 := Same.new (o := .lst ([V.str (rowT n (Str.ofString "block" :: mo :: ks))] ++ L.map fun r => V.str (rowT r.1 r.2))) nl
                    refine kk _ l ((n, Str.ofString "block" :: mo :: ks) :: L) a' b' (back k25 hp5 rm5 nl) upd_same (k25.trans (Kp.same s10)) (s10 _ _ rm5) ((hp5.mv fun u x => s10 _ _ x).up (by omega)) ?_ (Rds.lead bk.1 (show Str.ofString "block" ∈ ledS by decide +kernel) rd fun h => .inl h) fun r hr' => ?_
                    · have := (Cnt.lead (n := n) (ws := Str.ofString "block" :: mo :: ks) (show Str.ofString "block" ∈ leadS by decide +kernel) m7.2 ct).up (k' := -1) (r' := -1) (by decide) (by decide)
                      show Cnt N a b a' b' (if 0 < a then -1 else 1) (if 0 < a then -1 else 1) _
                      rw [if_pos m7.2]
                      exact this
                    · rcases List.mem_cons.mp hr' with rfl | h
                      · exact bk.2 _ _ _
                      · exact rf r h
            refine ⟨_, rfl, _, _, rfl, rfl, _, rfl, ite2 (fun c9 => ?_) (fun c9 => ?_)⟩
            · refine ⟨_, rfl, wa, _, 0, _, rfl, rfl, SqL.of w1', rfl, _, rfl, wa, _, 1, _, rfl, rfl, SqL.of w1', rfl, _, rfl, wa, _, 2, _, rfl, rfl, SqL.of w1', rfl, _, rfl, wa, _, 3, _, rfl, rfl, SqL.of w1', rfl, a2, a3, _, _, rfl, rfl, w4', w5', Nat.le_of_lt (small1000 (by have := ok.ot.2.1; have := ok.nm.1; rw [List.length_map, List.length_map]; omega)), fun c nc => ?_⟩
              have pc := nw hp2 nc
              have rc := ne_of_none rm2 nc
              have s3 := Same.new (o := .lst (Ot.map V.str ++ N.map V.str)) nc
              have c3 : upd H2 c (.lst (Ot.map V.str ++ N.map V.str)) c = some (.lst ((Ot ++ N).map V.str)) := by
                rw [upd_same, List.map_append]
              have hp3 : PoolAt (upd H2 c (.lst (Ot.map V.str ++ N.map V.str))) p (pn + 1) := hp2.mv fun u e => s3 _ _ e
              generalize upd H2 c (.lst (Ot.map V.str ++ N.map V.str)) = H3 at s3 c3 hp3 ⊢
              refine ⟨_, rfl, wa, _, 3, _, rfl, rfl, SqL.of (s3 _ _ w1'), rfl, (by show 4 ≤ sizeLine; decide), fun g ng => ?_⟩
              have pg := nw hp3 ng
              have rg := ne_of_none (s3 _ _ rm2) ng
              have s4 := Same.new (o := .lst [.ref a0, .ref a1, .ref c, .ref a3]) ng
              have g4 : upd H3 g (.lst [.ref a0, .ref a1, .ref c, .ref a3]) g = some (.lst [.ref a0, .ref a1, .ref c, .ref a3]) := upd_same
              have hp4 : PoolAt (upd H3 g (.lst [.ref a0, .ref a1, .ref c, .ref a3])) p (pn + 1) := hp3.mv fun u e => s4 _ _ e
              generalize upd H3 g (.lst [.ref a0, .ref a1, .ref c, .ref a3]) = H4 at s4 g4 hp4 ⊢
              have s24 := s3.trans s4
              have k4 : Kp [p, rm] H H4 := k2.trans (Kp.same s24)
              have hw4 : WdAt H4 g p rm Rc Er (Ot ++ N) N := ⟨a0, a1, c, a3, g4, s24 _ _ w2', s24 _ _ w3', s4 _ _ c3, s24 _ _ w5', fun y hy => by
                simp only [List.mem_cons, List.not_mem_nil, or_false] at hy
                rcases hy with rfl | rfl | rfl | rfl | rfl
                · simp [pg.symm, rg.symm]
                · exact w6' _ (by simp)
                · exact w6' _ (by simp)
                · simp [pc.symm, rc.symm]
                · exact w6' _ (by simp)⟩
              have ok4 : WOk (n + 1) false Rc Er (Ot ++ N) O N := ⟨ok.rc, ok.er, ⟨fun h => ok.ot.1 (List.append_eq_nil_iff.mp h).1, by
                have := ok.ot.2.1
                have := ok.nm.1
                rw [List.length_append]
                omega, fun y hy => (List.mem_append.mp hy).elim (ok.ot.2.2 y) (ok.nm.2 y)⟩, ok.nm, fun y hy => (List.mem_append.mp hy).elim (ok.cl y) .inr, nofun⟩
              refine ⟨_, rfl, _, rfl, _, _, rfl, rfl, _, rfl, _, rfl, p, g, rm, n + 1, Rc, Er, Ot ++ N, O, N, false, a - 1, b, pn + 1, rfl, by omega, by omega, hp4, by unfold Bd; omega, hw4, s24 _ _ rm2, rp, by omega, ok4, fun H5 l5 L a' b' nl5 hl5 k5 rm5 hp5 ct rd rf => ?_⟩
              have ct : Cnt N (a - 1) b a' b' 1 1 L := ct
              have c8 : ¬ e < 8 := fun h => c8 (decide_eq_true h)
              have c9 : e < 10 := of_decide_eq_true c9
              have k45 := k4.trans k5
              refine ⟨_, rfl, (by show 2 ≤ sizeLine; decide), fun t nt => ?_⟩
              have s6 := Same.new (o := .lst [.str "maybe", .str "repeat"]) nt
              have t6 : upd H5 t (.lst [.str "maybe", .str "repeat"]) t = some (.lst [.str "maybe", .str "repeat"]) := upd_same
              generalize upd H5 t (.lst [.str "maybe", .str "repeat"]) = H6 at s6 t6 ⊢
              obtain ⟨z, hz, zz⟩ : ∃ z : Str, atI [V.str "maybe", V.str "repeat"] (e - 8) = some (.str z) ∧ (z = Str.ofString "maybe" ∨ z = Str.ofString "repeat") := by
                have : e = 8 ∨ e = 9 := by omega
                rcases this with rfl | rfl
                · exact ⟨_, rfl, .inl rfl⟩
                · exact ⟨_, rfl, .inr rfl⟩
              have iz : IsW z := by
                rcases zz with rfl | rfl <;> exact isW_of (by decide +kernel) (by decide +kernel) (by decide +kernel)
              have cz : z ∈ ledS ∧ z ∈ leadS ∧ z ∈ guaS ∧ formB modesS [z] = true ∧ ¬ z = Str.ofString "write" ∧ ment [z] = [] ∧ ¬ z = Str.ofString "call" ∧ ¬ z = Str.ofString "function" := by
                rcases zz with rfl | rfl <;> decide +kernel
              have hws : ∀ y ∈ [z], IsW y := fun y hy => by
                rw [List.mem_singleton.mp hy]
                exact iz
              refine ⟨_, rfl, _, _, rfl, rfl, t, _, e - 8, _, rfl, rfl, SqL.of t6, hz, (by show 1 ≤ sizeLine; decide), fun l2 nl2 => ?_⟩
              have s7 := Same.new (o := .lst [.str z]) nl2
              refine ⟨l2, n, [z], rfl, by omega, upd_same, by simp, hws, (by show 1 ≤ sizeLine; decide), fun l3 nl3 => ?_⟩
              have s8 := Same.new (o := .lst [.str (rowT n [z])]) nl3
              have s58 := (s6.trans s7).trans s8
              refine ⟨_, rfl, l3, l5, [.str (rowT n [z])], _, rfl, rfl, upd_same, s58 _ _ hl5, ?_, fun l nl => ?_⟩
              · have := ct.pr
                rw [List.length_map]
                exact Nat.le_of_lt (small1000 (by show 1 + _ ≤ _; omega))
              · have s9 := s58.trans (Same.new (o := .lst ([V.str (rowT n [z])] ++ L.map fun r => V.str (rowT r.1 r.2))) nl)
                have hp9 : PoolAt _ p _ := hp5.mv fun u x => s58 _ _ x
                have nz : nestB z n = true := by
                  unfold nestB
                  rw [decide_eq_false cz.2.2.2.2.2.2.2]
                  simp only [Bool.false_eq_true, if_false, Bool.and_eq_true, decide_eq_true_iff]
                  refine ⟨n1, ?_⟩
                  split <;> omega
                refine kk _ l ((n, [z]) :: L) a' b' (back (k45.trans (Kp.same s58)) hp9 (s58 _ _ rm5) nl) upd_same (k45.trans (Kp.same s9)) (s9 _ _ rm5) ((hp5.mv fun u x => s9 _ _ x).up (by omega)) ?_ (Rds.lead ⟨⟨by simp, hws, by simp⟩, by omega, cz.2.2.2.1, nz⟩ cz.1 rd fun _ => .inr cz.2.2.1) fun r hr' => ?_
                · have := (Cnt.lead (n := n) (ws := [z]) cz.2.1 m7.2 ct).up (k' := -1) (r' := -1) (by decide) (by decide)
                  show Cnt N a b a' b' (if 0 < a then -1 else 1) (if 0 < a then -1 else 1) _
                  rw [if_pos m7.2]
                  exact this
                · rcases List.mem_cons.mp hr' with rfl | h
                  · exact ⟨fun h => absurd h cz.2.2.2.2.1, (fun y hy => by
                      rw [show ment (n, [z]).2 = [] from cz.2.2.2.2.2.1] at hy
                      cases hy), fun h => absurd h cz.2.2.2.2.2.2.1, cz.2.2.2.2.2.2.2, row52 hws (by simp) (by omega), by simp⟩
                  · exact rf r h
            refine ⟨_, rfl, _, rfl, _, rfl, _, rfl, p, wa, rm, n, Rc, Er, Ot, O, N, u, a - 1, b, pn + 1, rfl, nd.1, n1, by omega, hp2, by unfold Bd; omega, hw2, rm2, rp, by omega, by omega, ok, fun H' l L a' b' nl hl k3 r3 p3 ct rd rf => ?_⟩
            rw [show a - 1 + 1 = a by omega] at ct
            refine kk H' l L a' b' (back k2 hp2 rm2 nl) hl (k2.trans k3) r3 (p3.up (by omega)) ?_ rd rf
            show Cnt N a b a' b' (if 0 < a then -1 else 1) (if 0 < a then -1 else 1) L
            rw [if_pos m7.2]
            exact ct
end
end IC
namespace IC
open PySem L2 TL PyProof.Rows
def lastH : List Str → List Part → List Str
  | h, [] => h
  | _, (ws, _) :: r => lastH ws r
theorem lastH_snoc {ws : List Str} {L : List (Nat × List Str)} : ∀ (ps : List Part) (h : List Str), lastH h (ps ++ [(ws, L)]) = ws
  | [], _ => rfl
  | (w', _) :: r, _ => lastH_snoc r w'
theorem okParts_snoc {N : List Str} {u : Bool} {n : Nat} {ws : List Str} {L : List (Nat × List Str)} (ro : RowOk n ws) (hf : w0 ws ∈ follS) (rd : Rds N u (n + 1) L) : ∀ (ps : List Part) (h : List Str), okParts N u n h ps → goB (lastH h ps) (w0 ws) = true → okParts N u n h (ps ++ [(ws, L)])
  | [], _, _, g => ⟨ro, hf, g, rd, trivial⟩
  | (w', _) :: r, _, ok, g => ⟨ok.1, ok.2.1, ok.2.2.1, ok.2.2.2.1, okParts_snoc ro hf rd r w' ok.2.2.2.2 g⟩
theorem flatP_snoc (n : Nat) (ws : List Str) (L : List (Nat × List Str)) (ps : List Part) : flatP n (ps ++ [(ws, L)]) = flatP n ps ++ ((n, ws) :: L) := by
  unfold flatP
  rw [List.flatMap_append]
  exact congrArg (fun x => _ ++ x) (List.append_nil _)
theorem exc_ok {ls Er : List Str} {n : Nat} (l2 : ls.length ≤ 2) (hl : ∀ z ∈ ls, z ∈ Er) (er : ∀ z ∈ Er, IsW z) (n1 : 1 ≤ n) (n8 : n < 8) :
    RowOk n (Str.ofString "except" :: ls) ∧ ∀ Rc O N, RowF Rc Er O N (n, Str.ofString "except" :: ls) := by
  have iw : ∀ z ∈ Str.ofString "except" :: ls, IsW z := fun z hz => by
    rcases List.mem_cons.mp hz with rfl | hz
    · exact isW_of (by decide +kernel) (by decide +kernel) (by decide +kernel)
    · exact er z (hl z hz)
  have fz : formB modesS (Str.ofString "except" :: ls) = true := by
    unfold formB
    rw [if_neg (by show ¬ decide (Str.ofString "except" ∈ fixA) = true; decide +kernel), if_neg (by show ¬ decide (Str.ofString "except" = Str.ofString "block") = true; decide +kernel), if_pos (by show decide (Str.ofString "except" = Str.ofString "except") = true; decide +kernel)]
  have mz : ∀ z ∈ ment (Str.ofString "except" :: ls), z ∈ Er := fun z hz => by
    unfold ment at hz
    rw [if_neg (by show ¬ Str.ofString "except" = Str.ofString "block"; decide +kernel), if_pos (.inr rfl)] at hz
    exact hl z hz
  exact ⟨⟨⟨by simp, iw, by simp; omega⟩, by omega, fz, lead_nest (z := Str.ofString "except") (by decide +kernel) n1 n8⟩, fun Rc O N => ⟨fun h => absurd h (by show ¬ Str.ofString "except" = Str.ofString "write"; decide +kernel), mz, fun h => absurd h (by show ¬ Str.ofString "except" = Str.ofString "call"; decide +kernel), (by show ¬ Str.ofString "except" = Str.ofString "function"; decide +kernel), row52 iw (by simp; omega) (by omega), by simp; omega⟩⟩
theorem one_ok {z : Str} {Er : List Str} {n : Nat} (hz : z = Str.ofString "try" ∨ z = Str.ofString "finally") (n1 : 1 ≤ n) (n8 : n < 8) : RowOk n [z] ∧ ∀ Rc O N, RowF Rc Er O N (n, [z]) := by
  have iz : IsW z := by
    rcases hz with rfl | rfl <;> exact isW_of (by decide +kernel) (by decide +kernel) (by decide +kernel)
  have hws : ∀ y ∈ [z], IsW y := fun y hy => by
    rw [List.mem_singleton.mp hy]
    exact iz
  have cz : z ∈ leadS ++ follS ∧ formB modesS [z] = true ∧ ¬ z = Str.ofString "write" ∧ ment [z] = [] ∧ ¬ z = Str.ofString "call" ∧ ¬ z = Str.ofString "function" := by
    rcases hz with rfl | rfl <;> decide +kernel
  exact ⟨⟨⟨by simp, hws, by simp⟩, by omega, cz.2.1, lead_nest (z := z) cz.1 n1 n8⟩, fun Rc O N => ⟨fun h => absurd h cz.2.2.1, (fun y hy => by
    rw [show ment (n, [z]).2 = [] from cz.2.2.2.1] at hy
    cases hy), fun h => absurd h cz.2.2.2.2.1, cz.2.2.2.2.2, row52 hws (by simp) (by omega), by simp⟩⟩
theorem part_tail {d n : Nat} {p wa rm lr q3 : Addr} {Rc Er Ot O N : List Str} {u : Bool} {a2 b2 pn2 : Int} {G3 : Hp} {σ : L2.St} {Z : VK} {M : List (Nat × List Str)} {ws : List Str} (h0 : σ[0]? = some (some (.ref p))) (h1 : σ[1]? = some (some (.int n))) (h2 : σ[2]? = some (some (.ref wa))) (h3 : σ[3]? = some (some (.ref rm)))
    (nd : n + (d + 1) = 9) (n1 : 1 ≤ n) (n7 : n ≤ 7) (hp : PoolAt G3 p pn2) (hpn : pn2 ≤ Bd d) (hw : WdAt G3 wa p rm Rc Er Ot N) (rp : rm ≠ p) (hrm : G3 rm = some (.lst [.int a2, .int b2])) (ha : a2 ≤ 10) (ok : WOk n u Rc Er Ot O N)
    (hlr : G3 lr = some (.lst (M.map fun r => .str (rowT r.1 r.2)))) (hq3 : G3 q3 = some (.lst [.str (rowT n ws)])) (few : M.length ≤ 400)
    (kk : ∀ (G4 : Hp) (l4 : Addr) (L : List (Nat × List Str)) (a3 b3 : Int), Kp [p, rm] G3 G4 → G3 l4 = none → G4 l4 = some (.lst ((M ++ ((n, ws) :: L)).map fun r => .str (rowT r.1 r.2))) → G4 rm = some (.lst [.int a3, .int b3]) → PoolAt G4 p (pn2 + 40 * (a2 - a3)) → Cnt N a2 b2 a3 b3 1 1 L → Rds N u (n + 1) L → (∀ r ∈ L, RowF Rc Er O N r) → Z (.ref l4) G4) :
    rCat (.ref lr) (.ref q3) G3 fun x H1 => tCall (spMake d 0 0 fun _ => 1) [] E0 (tCons (tVar 0) (tCons (tOp (rI0 fun i j => .int (i + j)) (tVar 1) (tC (.int 1))) (tCons (tVar 2) (tCons (tVar 3) tNil)))) σ H1 fun y H2 => rCat x y H2 Z := by
  have nw : ∀ {H' : Hp} {y : Addr} {k : Int}, PoolAt H' p k → H' y = none → p ≠ y := fun {H' y k} h e => by
    obtain ⟨_, _, _, z, _⟩ := h
    exact ne_of_none z e
  refine ⟨lr, q3, _, _, rfl, rfl, hlr, hq3, Nat.le_of_lt (small1000 (by rw [List.length_map]; show M.length + 1 ≤ 1000; omega)), fun q4 nq4 => ?_⟩
  have e4 : M.map (fun r => V.str (rowT r.1 r.2)) ++ [V.str (rowT n ws)] = (M ++ [(n, ws)]).map fun r => V.str (rowT r.1 r.2) := by rw [List.map_append]; rfl
  rw [e4]
  have s4 := Same.new (o := .lst ((M ++ [(n, ws)]).map fun r => V.str (rowT r.1 r.2))) nq4
  have h4 : upd G3 q4 (.lst ((M ++ [(n, ws)]).map fun r => V.str (rowT r.1 r.2))) q4 = some (.lst ((M ++ [(n, ws)]).map fun r => V.str (rowT r.1 r.2))) := upd_same
  have p4 := nw hp nq4
  have r4 := ne_of_none hrm nq4
  generalize upd G3 q4 (.lst ((M ++ [(n, ws)]).map fun r => V.str (rowT r.1 r.2))) = G4 at s4 h4 ⊢
  have hp4 : PoolAt G4 p pn2 := hp.mv fun u e => s4 _ _ e
  refine ⟨_, h0, _, h1, _, _, rfl, rfl, _, h2, _, h3, p, wa, rm, n + 1, Rc, Er, Ot, O, N, u, a2, b2, pn2, rfl, by omega, by omega, hp4, by omega, hw.kp (Kp.same s4), s4 _ _ hrm, rp, ha, ok.deeper, fun H5 l5 L a' b' nl5 hl5 k5 rm5 hp5 ct rd rf => ?_⟩
  have ct : Cnt N a2 b2 a' b' 1 1 L := ct
  have cp := ct.pr
  have k45 := (Kp.same (l := [p, rm]) s4).trans k5
  refine ⟨q4, l5, _, _, rfl, rfl, k5 _ _ h4 (by simp [p4.symm, r4.symm]), hl5, Nat.le_of_lt (small1000 (by rw [List.length_map, List.length_map, List.length_append]; show M.length + 1 + _ ≤ 1000; omega)), fun l nl => ?_⟩
  have s6 := Same.new (o := .lst ((M ++ [(n, ws)]).map (fun r => V.str (rowT r.1 r.2)) ++ L.map fun r => V.str (rowT r.1 r.2))) nl
  refine kk _ l L a' b' (k45.trans (Kp.same s6)) (none_back k45 (fun z hz => ?_) nl) ?_ (s6 _ _ rm5) ((hp5.mv fun u x => s6 _ _ x).up (by omega)) ct rd rf
  · simp only [List.mem_cons, List.not_mem_nil, or_false] at hz
    rcases hz with rfl | rfl
    · obtain ⟨_, _, _, z, _⟩ := hp5
      rw [z]
      exact nofun
    · rw [rm5]
      exact nofun
  · rw [upd_same, ← List.map_append, List.append_assoc]
    rfl
theorem if_or2 {σ : L2.St} {H : Hp} {D : Ends} {t u : TS} {mm : Nat} {bb : Bool} (h5 : σ[5]? = some (some (.int mm))) (h6 : σ[6]? = some (some (.bl bb))) (hT : mm = 0 ∨ bb = true → t D σ H) (hE : ¬ (mm = 0 ∨ bb = true) → u D σ H) : tIfS (tOr (tTest (tOp rEq (tVar 5) (tC (.int 0)))) (tB (tVar 6))) t u D σ H := by
  refine ⟨_, h5, rfl, _, rfl, ?_⟩
  refine iteI (fun c => ?_) (fun c => ?_)
  · exact iteT (hT (.inl (by omega)))
  · refine ⟨_, h6, _, rfl, ?_⟩
    cases bb with
    | true => exact iteT (hT (.inr rfl))
    | false => exact iteF (hE fun h => h.elim (fun z => c (by omega)) (by decide))
section
variable {P : Program} {w : World} {K : PySem.W.Frag} {mg : Str → Option Value} {base : Heap}
theorem ok_try {f : Addr} {fd : FuncData} (F : Fun K "_law_try" "_law_try" s_law_try f fd) (T : Bn mg) (D_law_draw : Df P w K mg base 1 "_law_draw" ["pool", "many"] spDraw) (D_law_pick : Df P w K mg base 2 "_law_pick" ["pool", "some"] spPick) (D_law_row : Df P w K mg base 1 "_law_row" ["nesting", "words"] spRow) (d : Nat)
    (D_law_body : Df P w K mg base (3 * d + 1) "_law_body" ["pool", "nesting", "words", "room"] (spMake d 0 0 fun _ => 1)) : FnOk P w K mg base CX0 (3 * d + 1 + 1) f fd ["pool", "nesting", "words", "room"] (spTry (d + 1)) := by
  refine F.ok sc_law_try (fun vs H Q E h => ?_) (fun cdv A outer s H vs Q E hr h => ?_)
  · obtain ⟨p, wa, rm, n, Rc, Er, Ot, O, N, u, a, b, pn, rfl, _⟩ := h
    rfl
  · obtain ⟨p, wa, rm, n, Rc, Er, Ot, O, N, u, a, b, pn, rfl, nd, n1, n7, hp, hpn, hw, hrm, rp, a0', ha, ok, kk⟩ := h
    refine ⟨_, (pss_cons (ps_set (i := 4) sc_law_try.nd rfl (Or.inl rfl) (pe_op op_cat (pe_lst (pa_cons (pe_df D_law_row hr (by first | decide | omega) rfl (pa_cons (pv 1) (pa_cons (pe_lst (pa_cons pe_str pa_nil)) pa_nil))) pa_nil)) (pe_df D_law_body hr (by first | decide | omega) rfl (pa_cons (pv 0) (pa_cons (pe_op op_add (pv 1) pe_int) (pa_cons (pv 2) (pa_cons (pv 3) pa_nil)))))))
  (pss_cons (ps_par (i := 5) (j := 6) (by rfl) sc_law_try.nd rfl rfl (by decide) rfl rfl (pa_cons (pe_df D_law_draw hr (by first | decide | omega) rfl (pa_cons (pv 0) (pa_cons pe_int pa_nil))) (pa_cons (pe_cmpR op_eq (pe_df D_law_draw hr (by first | decide | omega) rfl (pa_cons (pv 0) (pa_cons pe_int pa_nil))) pe_int (nomark _)) pa_nil)) (by rfl))
  (pss_cons (ps_for PassesOwn.never rfl (pi_range1 rfl T.range (pa_cons (pv 5) pa_nil)) (pg_name (i := 7) sc_law_try.nd rfl (Or.inl rfl))
  (pss_cons (ps_setLc (i := 8) (own := [("more", 9)]) (g := gName 9) (tt := tYes) rfl sc_law_try.nd rfl rfl rfl (pi_range1 rfl T.range (pa_cons (pe_op op_add pe_int (pe_df D_law_draw hr (by first | decide | omega) rfl (pa_cons (pv 0) (pa_cons pe_int pa_nil)))) pa_nil)) (blkOk_by (N := ["pool", "nesting", "words", "room", "rows", "many", "is_final", "k", "listed", "more"]) (sc := defScope s_law_try) (by decide +kernel)) (fun _ _ _ _ _ => pg_name (i := 9) sc_law_try.nd rfl (Or.inl rfl)) (fun _ _ _ _ _ => pts_nil) (fun _ _ _ _ _ => (pe_df D_law_pick hr (by first | decide | omega) rfl (pa_cons (pv 0) (pa_cons (pe_ix (show IxR _ (rIxL K) from ix_list) (pv 2) pe_int (fun _ _ => rfl)) pa_nil)))))
  (Evl.pss_cut (ps_if (PW.pt (pw_and (pt_cmpR op_eq (pv 7) (pe_op op_sub (pv 5) pe_int) (nomark _)) (pw_and1 (pt_cmpR op_eq (pe_df D_law_draw hr (by first | decide | omega) rfl (pa_cons (pv 0) (pa_cons pe_int pa_nil))) pe_int (nomark _)))))
  (pss_one (ps_set (i := 8) sc_law_try.nd rfl (Or.inl rfl) (pe_lst pa_nil)))
  pss_nil)
  (pss_one (ps_set (i := 4) sc_law_try.nd rfl (Or.inl rfl) (pe_op op_cat (pe_op op_cat (pv 4) (pe_lst (pa_cons (pe_df D_law_row hr (by first | decide | omega) rfl (pa_cons (pv 1) (pa_cons (pe_op op_cat (pe_lst (pa_cons pe_str pa_nil)) (pv 8)) pa_nil))) pa_nil))) (pe_df D_law_body hr (by first | decide | omega) rfl (pa_cons (pv 0) (pa_cons (pe_op op_add (pv 1) pe_int) (pa_cons (pv 2) (pa_cons (pv 3) pa_nil)))))))))))
  (pss_cons (ps_if (PW.pt (pw_or (pt_cmpR op_eq (pv 5) pe_int (nomark _)) (pw_or1 (pt_val (pv 6)))))
  (pss_one (ps_set (i := 4) sc_law_try.nd rfl (Or.inl rfl) (pe_op op_cat (pe_op op_cat (pv 4) (pe_lst (pa_cons (pe_df D_law_row hr (by first | decide | omega) rfl (pa_cons (pv 1) (pa_cons (pe_lst (pa_cons pe_str pa_nil)) pa_nil))) pa_nil))) (pe_df D_law_body hr (by first | decide | omega) rfl (pa_cons (pv 0) (pa_cons (pe_op op_add (pv 1) pe_int) (pa_cons (pv 2) (pa_cons (pv 3) pa_nil))))))))
  pss_nil)
  (pss_one (ps_ret (pv 4))))))), ?_⟩
    unfold Bd at hpn
    have nw : ∀ {H' : Hp} {y : Addr} {k : Int}, PoolAt H' p k → H' y = none → p ≠ y := fun {H' y k} h e => by
      obtain ⟨_, _, _, z, _⟩ := h
      exact ne_of_none z e
    have back : ∀ {H' : Hp} {y : Addr} {k : Int} {u : HO}, Kp [p, rm] H H' → PoolAt H' p k → H' rm = some u → H' y = none → H y = none := fun {H' y k u} kp hp' hr' e => none_back kp (fun z hz => by
      simp only [List.mem_cons, List.not_mem_nil, or_false] at hz
      rcases hz with rfl | rfl
      · obtain ⟨_, _, _, z, _⟩ := hp'
        rw [z]
        exact nofun
      · rw [hr']
        exact nofun) e
    have tr := one_ok (Er := Er) (n := n) (z := Str.ofString "try") (.inl rfl) n1 (by omega)
    have fi := one_ok (Er := Er) (n := n) (z := Str.ofString "finally") (.inr rfl) n1 (by omega)
    have off : ∀ {G : Hp} {y : Addr} {k : Int} {u : HO}, PoolAt G p k → G rm = some u → G y = none → y ∉ [p, rm] := fun {G y k u} h1 h2 e => by
      simp [(nw h1 e).symm, (ne_of_none h2 e).symm]
    refine ⟨_, rfl, (by show 1 ≤ sizeLine; decide), fun t nt => ?_⟩
    have s1 := Same.new (o := .lst [.str "try"]) nt
    refine ⟨t, n, [Str.ofString "try"], rfl, by omega, upd_same, by simp, tr.1.1.2.1, (by show 1 ≤ sizeLine; decide), fun l0 nl0 => ?_⟩
    have s2 := s1.trans (Same.new (o := .lst [.str (rowT n [Str.ofString "try"])]) nl0)
    have h0 : upd (upd H t (.lst [.str "try"])) l0 (.lst [.str (rowT n [Str.ofString "try"])]) l0 = some (.lst [.str (rowT n [Str.ofString "try"])]) := upd_same
    generalize upd (upd H t (.lst [.str "try"])) l0 (.lst [.str (rowT n [Str.ofString "try"])]) = H2 at s2 h0 ⊢
    have hp2 : PoolAt H2 p pn := hp.mv fun u e => s2 _ _ e
    have k2 : Kp [p, rm] H H2 := Kp.same s2
    have l0n := off hp hrm (none_of_same s1 nl0)
    refine ⟨_, rfl, _, rfl, _, _, rfl, rfl, _, rfl, _, rfl, p, wa, rm, n + 1, Rc, Er, Ot, O, N, u, a, b, pn, rfl, by omega, by omega, hp2, by unfold Bd; omega, hw.kp k2, s2 _ _ hrm, rp, by omega, ok.deeper, fun H3 l3 L0 a1 b1 nl3 hl3 k3 rm3 hp3 ct0 rd0 rf0 => ?_⟩
    have ct0 : Cnt N a b a1 b1 1 1 L0 := ct0
    have cp0 := ct0.pr
    have cc0 := ct0.cs
    have cq0 := ct0.ps
    refine ⟨l0, l3, _, _, rfl, rfl, k3 _ _ h0 l0n, hl3, ?_, fun l4 nl4 => ?_⟩
    · rw [List.length_map]
      exact Nat.le_of_lt (small1000 (by show 1 + L0.length ≤ 1000; omega))
    have k23 := k2.trans k3
    have nl4' := back k23 hp3 rm3 nl4
    have s4 := Same.new (o := .lst ([V.str (rowT n [Str.ofString "try"])] ++ L0.map fun r => V.str (rowT r.1 r.2))) nl4
    have h4 : upd H3 l4 (.lst ([V.str (rowT n [Str.ofString "try"])] ++ L0.map fun r => V.str (rowT r.1 r.2))) l4 = some (.lst (((n, [Str.ofString "try"]) :: L0).map fun r => V.str (rowT r.1 r.2))) := upd_same
    generalize upd H3 l4 (.lst ([V.str (rowT n [Str.ofString "try"])] ++ L0.map fun r => V.str (rowT r.1 r.2))) = H4 at s4 h4 ⊢
    have hp4 : PoolAt H4 p (pn + 40 * (a - a1) - 0) := hp3.mv fun u e => s4 _ _ e
    have rm4 := s4 _ _ rm3
    have k4 := k23.trans (Kp.same s4)
    have c1 : Cnt N (a + 1) b a1 b1 (-4) (-7) ((n, [Str.ofString "try"]) :: L0) := Cnt.lead (by show Str.ofString "try" ∈ leadS; decide +kernel) (by omega) (by rw [show a + 1 - 1 = a by omega]; exact ct0)
    have fin : ∀ (G : Hp) (lr : Addr) (ps : List Part) (a2 b2 : Int), H lr = none → G lr = some (.lst ((((n, [Str.ofString "try"]) :: L0) ++ flatP n ps).map fun r => V.str (rowT r.1 r.2))) → Kp [p, rm] H G → G rm = some (.lst [.int a2, .int b2]) → PoolAt G p (pn + 25 + 40 * (a - a2)) → Cnt N (a + 1) b a2 b2 (-1) (-1) (((n, [Str.ofString "try"]) :: L0) ++ flatP n ps) → okParts N u n [Str.ofString "try"] ps → ps ≠ [] → (∀ r ∈ ((n, [Str.ofString "try"]) :: L0) ++ flatP n ps, RowF Rc Er O N r) → Q (.ref lr) G := fun G lr ps a2 b2 g1 g2 g3 g4 g5 g6 g7 g8 g9 => kk G lr _ a2 b2 g1 g2 g3 g4 (g5.up (by omega)) g6 (Rds.tries tr.1 rd0 g7 g8) g9
    refine ⟨_, rfl, p, 3, _, rfl, hp4, by omega, by decide, by decide, fun m o m0 m3 hp5 => ?_⟩
    refine ⟨_, rfl, p, 2, _, rfl, hp5, by omega, by decide, by decide, fun g o2 g0 g2 hp6 => ⟨rfl, _, _, rfl, ?_⟩⟩
    have k6 := (k4.mutAt (p := p) (o := o) (by simp)).mutAt (p := p) (o := o2) (by simp)
    have rm6 : upd (upd H4 p o) p o2 rm = some (.lst [.int a1, .int b1]) := by
      rw [upd_ne rp, upd_ne rp]
      exact rm4
    have l4p : l4 ≠ p := fun e => by
      have := off hp hrm nl4'
      simp [e] at this
    have h6 : upd (upd H4 p o) p o2 l4 = some (.lst (((n, [Str.ofString "try"]) :: L0).map fun r => V.str (rowT r.1 r.2))) := by
      rw [upd_ne l4p, upd_ne l4p]
      exact h4
    generalize upd (upd H4 p o) p o2 = H6 at hp6 k6 rm6 h6 ⊢
    obtain ⟨mm, rfl⟩ : ∃ mm : Nat, m = mm := ⟨m.toNat, by omega⟩
    refine ⟨_, rfl, mm, rfl, by omega, by omega, for_range (lo := 0) (n := (mm : Int).toNat) (fun i σ' G => ∃ (lr : Addr) (z7 z8 z9 : Option V) (ps : List Part) (a2 b2 : Int), σ' = [some (.ref p), some (.int n), some (.ref wa), some (.ref rm), some (.ref lr), some (.int mm), some (.bl (decide (V.int g = V.int 0))), z7, z8, z9] ∧ H lr = none ∧ G lr = some (.lst ((((n, [Str.ofString "try"]) :: L0) ++ flatP n ps).map fun r => V.str (rowT r.1 r.2))) ∧ Kp [p, rm] H G ∧ G rm = some (.lst [.int a2, .int b2]) ∧ PoolAt G p (pn + 2 + 4 * i + 40 * (a - a2)) ∧ Cnt N (a + 1) b a2 b2 (-4 + i) (-7 + 2 * i) (((n, [Str.ofString "try"]) :: L0) ++ flatP n ps) ∧ okParts N u n [Str.ofString "try"] ps ∧ ps.length = i ∧ goB (lastH [Str.ofString "try"] ps) (Str.ofString "finally") = true ∧ (i < mm → goB (lastH [Str.ofString "try"] ps) (Str.ofString "except") = true) ∧ (∀ r ∈ ((n, [Str.ofString "try"]) :: L0) ++ flatP n ps, RowF Rc Er O N r)) ⟨l4, _, _, _, [], a1, b1, rfl, nl4', by rw [h6]; simp [flatP], k6, rm6, hp6.up (by omega), (by simpa [flatP] using c1), trivial, rfl, by show goB [Str.ofString "try"] (Str.ofString "finally") = true; decide +kernel, fun _ => by show goB [Str.ofString "try"] (Str.ofString "except") = true; decide +kernel, ?_⟩ ?_ ?_⟩
    · intro r hr'
      rw [show flatP n [] = [] from rfl, List.append_nil] at hr'
      rcases List.mem_cons.mp hr' with rfl | h
      · exact tr.2 _ _ _
      · exact rf0 r h
    · rintro i σ' G hi ⟨lr, z7, z8, z9, ps, a2, b2, rfl, nlr, hlr, kG, rmG, hpG, cG, okp, lps, goF, goE, rfG⟩
      have i3 : i < mm := by omega
      have cGs := cG.cs
      have cGp := cG.ps
      have cGr := cG.pr
      refine ⟨_, rfl, p, 2, _, rfl, hpG, by omega, by decide, by decide, fun e o3 e0 e2 hp7 => ⟨_, _, rfl, rfl, _, rfl, by omega, by omega, fun D hD => ?_⟩⟩
      have k7 := kG.mutAt (p := p) (o := o3) (by simp)
      have rm7 : upd G p o3 rm = some (.lst [.int a2, .int b2]) := by
        rw [upd_ne rp]
        exact rmG
      have lrn := off hp hrm nlr
      have lr7 := (show Kp [p, rm] G (upd G p o3) from Kp.at_ (by simp)) _ _ hlr lrn
      generalize upd G p o3 = G7 at hp7 k7 rm7 lr7 hD ⊢
      have hw7 := hw.kp k7
      obtain ⟨w0', w1', w2', w3', v1, v2, v3, v4, v5, v6⟩ := hw7.ex
      refine lc_pick (p := p) (gi := 9) (· ∈ Er) (1 + e).toNat _ (by omega) hp7 hD (fun x m' G1 Q2 hq hm kq cont => ?_) (fun ls GL ll okl hz hp8 kp8 => ?_)
      · exact ⟨_, rfl, _, rfl, wa, _, 1, _, rfl, rfl, SqL.of (kq _ _ v1 fun h => v6 wa (by simp) (by simp [List.mem_singleton.mp h])), rfl, p, w1', Er, m', rfl, hq, by omega, kq _ _ v3 (fun h => v6 w1' (by simp) (by simp [List.mem_singleton.mp h])), ok.er.1, by have := ok.er.2.1; omega, fun e => v6 w1' (by simp) (by simp [e]), fun z G2 hz hp9 k9 => cont z G2 hz hp9 k9⟩
      · have kp8' : Kp [p, rm] G7 GL := fun y u e m => kp8 y u e fun q => m (by simp [List.mem_singleton.mp q])
        have k8 := k7.trans kp8'
        have rm8 : GL rm = some (.lst [.int a2, .int b2]) := kp8 _ _ rm7 (by simpa using rp)
        have lr8 := kp8' _ _ lr7 lrn
        have hp8 : PoolAt GL p (pn + 2 + 4 * i + 40 * (a - a2) + 3) := hp8.up (by omega)
        refine ⟨fun σ' G' => ∃ (li : Addr) (ks : List Str) (z9 : Option V), σ' = [some (.ref p), some (.int n), some (.ref wa), some (.ref rm), some (.ref lr), some (.int mm), some (.bl (decide (V.int g = V.int 0))), some (.int (0 + i)), some (.ref li), z9] ∧ Kp [p, rm] GL G' ∧ G' rm = some (.lst [.int a2, .int b2]) ∧ PoolAt G' p (pn + 2 + 4 * i + 40 * (a - a2) + 4) ∧ G' li = some (.lst (ks.map V.str)) ∧ ks.length ≤ 2 ∧ (∀ z ∈ ks, z ∈ Er) ∧ (i + 1 < mm → ks ≠ []), ?_, ?_⟩
        · have keep : ∀ (zz : Option V) G', Kp [p, rm] GL G' → G' rm = some (.lst [.int a2, .int b2]) → PoolAt G' p (pn + 2 + 4 * i + 40 * (a - a2) + 4) → G' D = some (.lst (ls.map V.str)) → ∃ (li : Addr) (ks : List Str) (z9 : Option V), [some (.ref p), some (.int n), some (.ref wa), some (.ref rm), some (.ref lr), some (.int mm), some (.bl (decide (V.int g = V.int 0))), some (.int (0 + i)), some (.ref D), zz] = [some (.ref p), some (.int n), some (.ref wa), some (.ref rm), some (.ref lr), some (.int mm), some (.bl (decide (V.int g = V.int 0))), some (.int (0 + i)), some (.ref li), z9] ∧ Kp [p, rm] GL G' ∧ G' rm = some (.lst [.int a2, .int b2]) ∧ PoolAt G' p (pn + 2 + 4 * i + 40 * (a - a2) + 4) ∧ G' li = some (.lst (ks.map V.str)) ∧ ks.length ≤ 2 ∧ (∀ z ∈ ks, z ∈ Er) ∧ (i + 1 < mm → ks ≠ []) := fun zz G' x1 x2 x3 x4 => ⟨D, ls, zz, rfl, x1, x2, x3, x4, by omega, okl, fun _ e => by rw [e] at ll; change 0 = _ at ll; omega⟩
          refine ⟨_, rfl, _, rfl, _, _, rfl, rfl, rfl, _, rfl, iteI (fun c => ?_) (fun c => ?_)⟩
          · refine ⟨_, rfl, p, 2, _, rfl, hp8, by omega, by decide, by decide, fun g1 o4 g10 g12 hp9 => ⟨rfl, _, rfl, iteI (fun c2 => ?_) (fun c2 => ?_)⟩⟩
            · have rm9 : upd GL p o4 rm = some (.lst [.int a2, .int b2]) := by
                rw [upd_ne rp]
                exact rm8
              refine ⟨(by show 0 ≤ sizeLine; decide), fun q nq => ?_⟩
              have s9 := Same.new (o := .lst []) nq
              exact ⟨q, [], _, rfl, (Kp.at_ (by simp)).trans (Kp.same s9), s9 _ _ rm9, (hp9.mv fun u x => s9 _ _ x).up (by omega), upd_same, by decide, nofun, fun h => by omega⟩
            · refine keep _ (upd GL p o4) (Kp.at_ (p := p) (o := o4) (by simp)) (by rw [upd_ne rp]; exact rm8) (hp9.up (by omega)) ?_
              rw [upd_ne (nw hp7 hD).symm]
              exact hz
          · exact keep _ GL (Kp.refl _ _) rm8 (hp8.up (by omega)) hz
        · rintro σ' G' ⟨li, ks, z9, rfl, kG', rmG', hpG', hli, lks, kin, kne⟩
          have k10 := k8.trans kG'
          have lr10 := kG' _ _ lr8 lrn
          have ex := exc_ok (n := n) lks kin ok.er.2.2 n1 (by omega)
          refine ⟨_, rfl, _, rfl, (by show 1 ≤ sizeLine; decide), fun q nq => ⟨_, rfl, ?_⟩⟩
          have s11 := Same.new (o := .lst [.str "except"]) nq
          refine ⟨q, li, _, _, rfl, rfl, upd_same, s11 _ _ hli, Nat.le_of_lt (small1000 (by rw [List.length_map]; show 1 + ks.length ≤ 1000; omega)), fun q2 nq2 => ?_⟩
          have s12 := s11.trans (Same.new (o := .lst ([V.str (Str.ofString "except")] ++ ks.map V.str)) nq2)
          have h12 : upd (upd G' q (.lst [.str "except"])) q2 (.lst ([V.str (Str.ofString "except")] ++ ks.map V.str)) q2 = some (.lst ((Str.ofString "except" :: ks).map V.str)) := upd_same
          generalize upd (upd G' q (.lst [.str "except"])) q2 (.lst ([V.str (Str.ofString "except")] ++ ks.map V.str)) = G12 at s12 h12 ⊢
          refine ⟨q2, n, Str.ofString "except" :: ks, rfl, by omega, h12, ex.1.1.2.2, ex.1.1.2.1, (by show 1 ≤ sizeLine; decide), fun q3 nq3 => ?_⟩
          have s13 := s12.trans (Same.new (o := .lst [.str (rowT n (Str.ofString "except" :: ks))]) nq3)
          have h13 : upd G12 q3 (.lst [.str (rowT n (Str.ofString "except" :: ks))]) q3 = some (.lst [.str (rowT n (Str.ofString "except" :: ks))]) := upd_same
          generalize upd G12 q3 (.lst [.str (rowT n (Str.ofString "except" :: ks))]) = G13 at s13 h13 ⊢
          have k13 := k10.trans (Kp.same s13)
          have hp13 : PoolAt G13 p (pn + 2 + 4 * i + 40 * (a - a2) + 4) := hpG'.mv fun u x => s13 _ _ x
          refine part_tail (M := ((n, [Str.ofString "try"]) :: L0) ++ flatP n ps) (ws := Str.ofString "except" :: ks) rfl rfl rfl rfl nd n1 n7 hp13 (by unfold Bd; omega) (hw.kp k13) rp (s13 _ _ rmG') (by omega) ok (s13 _ _ lr10) h13 (by omega) fun G14 l14 L a3 b3 k14 nl14 hl14 rm14 hp14 ct14 rd14 rf14 => ?_
          have e14 : ((n, [Str.ofString "try"]) :: L0) ++ flatP n ps ++ ((n, Str.ofString "except" :: ks) :: L) = ((n, [Str.ofString "try"]) :: L0) ++ flatP n (ps ++ [(Str.ofString "except" :: ks, L)]) := by
            rw [flatP_snoc, List.append_assoc]
          rw [e14] at hl14
          refine ⟨l14, _, _, _, ps ++ [(Str.ofString "except" :: ks, L)], a3, b3, rfl, back k13 hp13 (s13 _ _ rmG') nl14, hl14, k13.trans k14, rm14, hp14.up (by omega), ?_, okParts_snoc ex.1 (by show Str.ofString "except" ∈ follS; decide +kernel) rd14 ps _ okp (goE i3), by simp [lps], ?_, fun h => ?_, fun r hr' => ?_⟩
          · rw [← e14]
            have := cG.app (Cnt.foll (n := n) (ws := Str.ofString "except" :: ks) (by show Str.ofString "except" ∈ follS; decide +kernel) ct14)
            exact this.up (by omega) (by omega)
          · rw [lastH_snoc]
            unfold goB
            rw [if_neg (by decide +kernel), decide_eq_true (show w0 (Str.ofString "except" :: ks) = Str.ofString "except" from rfl), Bool.or_true]
          · rw [lastH_snoc]
            unfold goB
            have : 1 < (Str.ofString "except" :: ks).length := by
              have := List.length_pos_iff.mpr (kne h)
              rw [List.length_cons]
              omega
            rw [if_pos rfl, decide_eq_true (show w0 (Str.ofString "except" :: ks) = Str.ofString "except" from rfl), decide_eq_true this, Bool.true_and, Bool.or_true]
          · rw [← e14] at hr'
            rcases List.mem_append.mp hr' with h | h
            · exact rfG r h
            · rcases List.mem_cons.mp h with rfl | h
              · exact ex.2 _ _ _
              · exact rf14 r h
    · rintro σ' G ⟨lr, z7, z8, z9, ps, a2, b2, rfl, nlr, hlr, kG, rmG, hpG, cG, okp, lps, goF, goE, rfG⟩
      have em : (mm : Int).toNat = mm := by omega
      rw [em] at hpG cG lps goE
      have cGs := cG.cs
      have cGp := cG.ps
      have cGr := cG.pr
      refine if_or2 (mm := mm) (bb := decide (V.int g = V.int 0)) rfl rfl (fun c => ?_) (fun c => ?_)
      · refine ⟨_, rfl, _, rfl, (by show 1 ≤ sizeLine; decide), fun q nq => ?_⟩
        have s11 := Same.new (o := .lst [.str "finally"]) nq
        have h11 : upd G q (.lst [.str "finally"]) q = some (.lst ([Str.ofString "finally"].map V.str)) := upd_same
        generalize upd G q (.lst [.str "finally"]) = G12 at s11 h11 ⊢
        refine ⟨q, n, [Str.ofString "finally"], rfl, by omega, h11, by simp, fi.1.1.2.1, (by show 1 ≤ sizeLine; decide), fun q3 nq3 => ?_⟩
        have s13 := s11.trans (Same.new (o := .lst [.str (rowT n [Str.ofString "finally"])]) nq3)
        have h13 : upd G12 q3 (.lst [.str (rowT n [Str.ofString "finally"])]) q3 = some (.lst [.str (rowT n [Str.ofString "finally"])]) := upd_same
        generalize upd G12 q3 (.lst [.str (rowT n [Str.ofString "finally"])]) = G13 at s13 h13 ⊢
        have k13 := kG.trans (Kp.same s13)
        have hp13 : PoolAt G13 p (pn + 2 + 4 * mm + 40 * (a - a2)) := hpG.mv fun u x => s13 _ _ x
        refine part_tail (M := ((n, [Str.ofString "try"]) :: L0) ++ flatP n ps) (ws := [Str.ofString "finally"]) rfl rfl rfl rfl nd n1 n7 hp13 (by unfold Bd; omega) (hw.kp k13) rp (s13 _ _ rmG) (by omega) ok (s13 _ _ hlr) h13 (by omega) fun G14 l14 L a3 b3 k14 nl14 hl14 rm14 hp14 ct14 rd14 rf14 => ?_
        have e14 : ((n, [Str.ofString "try"]) :: L0) ++ flatP n ps ++ ((n, [Str.ofString "finally"]) :: L) = ((n, [Str.ofString "try"]) :: L0) ++ flatP n (ps ++ [([Str.ofString "finally"], L)]) := by
          rw [flatP_snoc, List.append_assoc]
        rw [e14] at hl14
        refine ⟨_, rfl, fin G14 l14 (ps ++ [([Str.ofString "finally"], L)]) a3 b3 (back k13 hp13 (s13 _ _ rmG) nl14) hl14 (k13.trans k14) rm14 (hp14.up (by omega)) ?_ (okParts_snoc fi.1 (by show Str.ofString "finally" ∈ follS; decide +kernel) rd14 ps _ okp goF) (by simp) fun r hr' => ?_⟩
        · rw [← e14]
          have := cG.app (Cnt.foll (n := n) (ws := [Str.ofString "finally"]) (by show Str.ofString "finally" ∈ follS; decide +kernel) ct14)
          exact this.up (by omega) (by omega)
        · rw [← e14] at hr'
          rcases List.mem_append.mp hr' with h | h
          · exact rfG r h
          · rcases List.mem_cons.mp h with rfl | h
            · exact fi.2 _ _ _
            · exact rf14 r h
      · refine ⟨_, rfl, fin G lr ps a2 b2 nlr hlr kG rmG (hpG.up (by omega)) (cG.up (by omega) (by omega)) okp (fun e => c (.inl ?_)) rfG⟩
        rw [e] at lps
        exact lps.symm
end
end IC
namespace IC
open PySem L2 TL PyProof.Rows
def fnN (L : List (Nat × List Str)) : Nat := (L.filter fun p => decide (w0 p.2 = Str.ofString "function")).length
theorem fnN_app (L M : List (Nat × List Str)) : fnN (L ++ M) = fnN L + fnN M := by
  unfold fnN
  rw [List.filter_append, List.length_append]
theorem fnN_zero {Rc Er O N : List Str} {L : List (Nat × List Str)} (h : ∀ r ∈ L, RowF Rc Er O N r) : fnN L = 0 := by
  unfold fnN
  rw [List.length_eq_zero_iff, List.filter_eq_nil_iff]
  intro r hr z
  exact (h r hr).f (of_decide_eq_true z)
abbrev fRow (z : Str) : Nat × List Str := (0, [Str.ofString "function", z])
structure Made (a0 : Int) (N O Rc Er : List Str) (i : Nat) (a b : Int) (L : List (Nat × List Str)) (s : PSt) : Prop where
  rd : Reads s0P L s
  ok : okG N s0P L
  lk : s.lk = false
  br : bareP s.hs 0 = false
  nm : s.nm = N.take i
  ct : Cnt N a0 4 a b i (2 * i) L
  rf : ∀ r ∈ L, RowF Rc Er O N r ∨ ∃ z ∈ N, r = fRow z
  fn : fnN L = i
  fs : ∀ z ∈ N.take i, fRow z ∈ L
theorem Made.zero {a0 : Int} {N O Rc Er : List Str} : Made a0 N O Rc Er 0 a0 4 [] s0P := ⟨.nil, trivial, rfl, rfl, rfl, Cnt.nil, nofun, rfl, nofun⟩
theorem f_words {z : Str} (hz : IsW z) : RowOk 0 [Str.ofString "function", z] := by
  refine ⟨⟨by simp, fun y hy => ?_, by simp⟩, by omega, ?_, ?_⟩
  · rcases List.mem_cons.mp hy with rfl | hy
    · exact isW_of (by decide +kernel) (by decide +kernel) (by decide +kernel)
    · rw [List.mem_singleton.mp hy]
      exact hz
  · unfold formB
    rw [if_pos (by show decide (Str.ofString "function" ∈ fixA) = true; decide +kernel)]
    rfl
  · unfold nestB
    rw [if_pos (by show decide (Str.ofString "function" = Str.ofString "function") = true; decide +kernel)]
    rfl
theorem Cnt.func {N : List Str} {a b a' b' : Int} {z : Str} {L : List (Nat × List Str)} (x : Cnt N a b a' b' 1 1 L) : Cnt N a b a' b' 1 2 (fRow z :: L) := by
  have e1 : stm (fRow z :: L) = stm L := by
    unfold stm
    rw [List.filter_cons, if_neg (by show ¬ (!decide (Str.ofString "function" ∈ nonS)) = true; decide +kernel)]
  have e2 : blkN (fRow z :: L) = blkN L := by
    unfold blkN
    rw [List.filter_cons, if_neg (by show ¬ decide (Str.ofString "function" = Str.ofString "block") = true; decide +kernel)]
  have e3 : knw N (fRow z :: L) = knw N L := by
    unfold knw
    rw [List.filter_cons, if_neg (by rw [decide_eq_false (show ¬ w0 (fRow z).2 = Str.ofString "call" by show ¬ Str.ofString "function" = Str.ofString "call"; decide +kernel)]; simp)]
  have x1 := x.cs
  have x2 := x.ps
  have x3 := x.pr
  have x4 := x.pb
  have x5 := x.pk
  exact ⟨by rw [e1]; exact x1, by rw [e1]; exact x2, by rw [List.length_cons]; omega, by rw [e2]; exact x4, by rw [e3]; exact x5⟩
theorem take_snoc {N : List Str} {i : Nat} {z : Str} (h : N[i]? = some z) : N.take (i + 1) = N.take i ++ [z] := by
  rw [List.take_add_one, h]
  rfl
theorem Made.step {a0 : Int} {N O Rc Er : List Str} {i : Nat} {a b a' b' : Int} {L M : List (Nat × List Str)} {s : PSt} {z : Str} (m : Made a0 N O Rc Er i a b L s) (nd : N.Nodup) (hz : N[i]? = some z) (wz : IsW z) (rd : Rds N true 1 M) (ct : Cnt N a b a' b' 1 1 M) (rf : ∀ r ∈ M, RowF Rc Er O N r) :
    ∃ s', Made a0 N O Rc Er (i + 1) a' b' (L ++ (fRow z :: M)) s' := by
  have lt := (List.getElem?_eq_some_iff.mp hz).1
  have zn : z ∉ s.nm := by
    rw [m.nm]
    intro h
    obtain ⟨j, hj, e⟩ := List.mem_iff_getElem.mp h
    rw [List.length_take] at hj
    rw [List.getElem_take] at e
    have e2 := (List.getElem?_eq_some_iff.mp hz).2
    exact (List.pairwise_iff_getElem.mp nd) j i (by omega) lt (by omega) (e.trans e2.symm)
  obtain ⟨s', r', k', l', b2, n'⟩ := fun_behind (N := N) (s := s) ⟨m.lk, m.br⟩ zn (f_words wz) rd
  refine ⟨s', m.rd.append r', okG_append m.rd m.ok k', l', b2, ?_, ?_, fun r hr => ?_, ?_, fun y hy => ?_⟩
  · rw [n', m.nm, take_snoc hz]
  · have := m.ct.app (Cnt.func (z := z) ct)
    exact this.up (by omega) (by omega)
  · rcases List.mem_append.mp hr with h | h
    · exact m.rf r h
    · rcases List.mem_cons.mp h with rfl | h
      · exact .inr ⟨z, List.mem_of_getElem? hz, rfl⟩
      · exact .inl (rf r h)
  · rw [fnN_app, m.fn]
    have : fnN (fRow z :: M) = fnN M + 1 := by
      unfold fnN
      rw [List.filter_cons, if_pos (by show decide (Str.ofString "function" = Str.ofString "function") = true; decide +kernel)]
      rfl
    rw [this, fnN_zero rf]
  · rw [take_snoc hz] at hy
    rcases List.mem_append.mp hy with h | h
    · exact List.mem_append.mpr (.inl (m.fs y h))
    · rw [List.mem_singleton.mp h]
      exact List.mem_append.mpr (.inr (List.mem_cons_self ..))
theorem tr_len {R : List LR} {L : List (Nat × List Str)} (e : R.map (fun r => r.ws) = L.map (·.2)) (f : List Str → Bool) : (R.filter fun r => f r.ws).length = (L.filter fun p => f p.2).length := by
  have h := congrArg (fun l => (l.filter f).length) e
  have h1 : ((R.map fun r => r.ws).filter f).length = (R.filter fun r => f r.ws).length := by
    rw [List.filter_map, List.length_map]
    rfl
  have h2 : ((L.map (·.2)).filter f).length = (L.filter fun p => f p.2).length := by
    rw [List.filter_map, List.length_map]
    rfl
  rw [← h1, ← h2]
  exact h
theorem tr_mem {R : List LR} {L : List (Nat × List Str)} (e : R.map (fun r => r.ws) = L.map (·.2)) {r : LR} (h : r ∈ R) : ∃ p ∈ L, p.2 = r.ws := by
  have m : r.ws ∈ R.map fun r => r.ws := List.mem_map_of_mem (f := fun r => r.ws) h
  rw [e] at m
  obtain ⟨p, hp, e⟩ := List.mem_map.mp m
  exact ⟨p, hp, e⟩
theorem tr_mem' {R : List LR} {L : List (Nat × List Str)} (e : R.map (fun r => r.ws) = L.map (·.2)) {p : Nat × List Str} (h : p ∈ L) : ∃ r ∈ R, r.ws = p.2 := by
  have m : p.2 ∈ L.map (·.2) := List.mem_map_of_mem (f := (·.2)) h
  rw [← e] at m
  obtain ⟨r, hr, e⟩ := List.mem_map.mp m
  exact ⟨r, hr, e⟩
theorem sum_le_of (k : Nat) : ∀ l : List Str, (∀ z ∈ l, z.length ≤ k) → (l.map (·.length)).sum ≤ k * l.length
  | [], _ => Nat.le_refl _
  | x :: r, h => by
    have z1 := h x (List.mem_cons_self ..)
    have z2 := sum_le_of k r fun z hz => h z (List.mem_cons_of_mem _ hz)
    rw [List.map_cons, List.sum_cons, List.length_cons, Nat.mul_succ]
    omega
theorem flat_le {α : Type} (k : Nat) (g : α → List Str) : ∀ l : List α, (∀ x ∈ l, (g x).length ≤ k) → (l.flatMap g).length ≤ k * l.length
  | [], _ => Nat.le_refl _
  | x :: r, h => by
    have z1 := h x (List.mem_cons_self ..)
    have z2 := flat_le k g r fun z hz => h z (List.mem_cons_of_mem _ hz)
    rw [List.flatMap_cons, List.length_append, List.length_cons, Nat.mul_succ]
    omega
theorem fRow_no {z : Str} : ¬ w0 (fRow z).2 = Str.ofString "write" ∧ ment (fRow z).2 = [] ∧ ¬ w0 (fRow z).2 = Str.ofString "call" := by
  refine ⟨(by show ¬ Str.ofString "function" = Str.ofString "write"; decide +kernel), ?_, (by show ¬ Str.ofString "function" = Str.ofString "call"; decide +kernel)⟩
  unfold ment
  rw [if_neg (by show ¬ Str.ofString "function" = Str.ofString "block"; decide +kernel), if_neg (by show ¬ (Str.ofString "function" = Str.ofString "raise" ∨ Str.ofString "function" = Str.ofString "except"); decide +kernel)]
theorem Made.lines {a0 : Int} {N O Rc Er : List Str} {a b : Int} {L : List (Nat × List Str)} {s : PSt} (m : Made a0 N O Rc Er N.length a b L s) (ha0 : a0 ≤ 10) (ne : N ≠ []) (n4 : N.length ≤ 4) (wN : ∀ z ∈ N, IsW z) (rc : Rc.length ≤ 4) (er : Er.length ≤ 6) (o2 : O.length ≤ 2) : Lines L s := by
  have c1 := m.ct.ps
  have c2 := m.ct.pr
  have c3 := m.ct.pb
  have c4 := m.ct.pk
  have rows : L.length ≤ 98 := by omega
  have neL : L ≠ [] := fun e => by
    have h := m.fn
    rw [e] at h
    exact ne (List.eq_nil_of_length_eq_zero h.symm)
  have l52 : ∀ p ∈ L, (rowT p.1 p.2).length ≤ 52 ∧ p.2.length ≤ 5 := fun p hp => by
    rcases m.rf p hp with h | ⟨z, hz, rfl⟩
    · exact ⟨h.l, h.m⟩
    · refine ⟨row52 (f_words (wN z hz)).1.2.1 (by simp) (show (0 : Nat) ≤ 8 by decide), by simp⟩
  have nm : s.nm = N := by rw [m.nm, List.take_length]
  refine ⟨m.rd, by rw [nm]; exact m.ok, m.lk, m.br, neL, by omega, ?_, fun R e => ⟨⟨?_, ?_, fun ys hy => ?_, fun ys hy => ?_, ?_, fun ys hy => ?_, ?_⟩, ?_⟩⟩
  · have jl := join_len (Str.ofString "\n") (L.map fun p => rowT p.1 p.2)
    have e1 : (Str.ofString "\n").length = 1 := by decide +kernel
    have s1 := sum_le_of 52 (L.map fun p => rowT p.1 p.2) fun z hz => by
      obtain ⟨p, hp, rfl⟩ := List.mem_map.mp hz
      exact (l52 p hp).1
    rw [e1, List.length_map] at jl
    rw [List.length_map] at s1
    unfold rowsT
    omega
  · have := tr_len e fun ws => decide (w0 ws = Str.ofString "function")
    have h := m.fn
    unfold fnN at h
    show (R.filter fun r => decide (w0 r.ws = Str.ofString "function")).length ≤ 12
    rw [this]
    omega
  · have := tr_len e fun ws => !decide (w0 ws ∈ nonS)
    have e2 : (fun r : LR => !decide (w0 r.ws ∈ nonS)) = LR.isS := funext kept_S
    rw [e2] at this
    rw [this]
    show stm L ≤ 64
    omega
  · refine Nat.le_trans (len_le_of ys Rc hy.n fun z hz => ?_) (by omega)
    obtain ⟨r, hr, rfl⟩ := List.mem_map.mp ((hy.m z).mp hz)
    obtain ⟨hr, hw⟩ := List.mem_filter.mp hr
    have hw := of_decide_eq_true hw
    obtain ⟨p, hp, ep⟩ := tr_mem e hr
    rw [← ep] at hw ⊢
    rcases m.rf p hp with h | ⟨y, _, rfl⟩
    · exact h.w hw
    · exact absurd hw fRow_no.1
  · refine Nat.le_trans (len_le_of ys (comS ++ Er) hy.n fun z hz => ?_) (by rw [List.length_append]; show 5 + _ ≤ _; omega)
    rcases List.mem_append.mp ((hy.m z).mp hz) with h | h
    · exact List.mem_append.mpr (.inl h)
    · obtain ⟨r, hr, hm⟩ := List.mem_flatMap.mp h
      obtain ⟨p, hp, ep⟩ := tr_mem e hr
      rw [← ep] at hm
      rcases m.rf p hp with h | ⟨y, _, rfl⟩
      · exact List.mem_append.mpr (.inr (h.e z hm))
      · rw [fRow_no.2.1] at hm
        cases hm
  · have := tr_len e fun ws => decide (w0 ws = Str.ofString "block")
    unfold blks
    rw [List.length_map, this]
    show blkN L ≤ 16
    omega
  · refine Nat.le_trans (len_le_of ys O hy.n fun z hz => ?_) (by omega)
    obtain ⟨hz, hn⟩ := List.mem_filter.mp ((hy.m z).mp hz)
    have hn : z ∉ names R := by simpa using hn
    obtain ⟨r, hr, rfl⟩ := List.mem_map.mp hz
    obtain ⟨hr, hw⟩ := List.mem_filter.mp hr
    have hw := of_decide_eq_true hw
    obtain ⟨p, hp, ep⟩ := tr_mem e hr
    rw [← ep] at hw hn ⊢
    rcases m.rf p hp with h | ⟨y, _, rfl⟩
    · rcases h.c hw with h | h
      · exact h
      · exfalso
        obtain ⟨r2, hr2, e2⟩ := tr_mem' e (m.fs _ (by rw [List.take_length]; exact h))
        refine hn (List.mem_map.mpr ⟨r2, List.mem_filter.mpr ⟨hr2, ?_⟩, by rw [e2]; rfl⟩)
        unfold LR.isF
        rw [e2]
        exact decide_eq_true rfl
    · exact absurd hw fRow_no.2.2
  · have lR : R.length = L.length := by
      have := congrArg List.length e
      rw [List.length_map, List.length_map] at this
      exact this
    have := flat_le 5 (fun r : LR => ment r.ws) R fun r hr => by
      obtain ⟨p, hp, ep⟩ := tr_mem e hr
      have l5 := (l52 p hp).2
      rw [ep] at l5
      unfold ment
      split
      · rw [List.length_drop]
        omega
      · split
        · rw [List.length_drop]
          omega
        · exact Nat.zero_le _
    unfold ers
    rw [List.length_append]
    show 5 + _ ≤ 900
    omega
  · have := tr_len e fun ws => decide (w0 ws = Str.ofString "call") && decide (w1 ws ∈ N)
    have k : knw N L ≤ 4 := by omega
    unfold knw at k
    rw [← this, ← List.countP_eq_length_filter] at k
    rw [← List.countP_eq_length_filter]
    refine Nat.le_trans (List.countP_mono_left fun r hr hc => ?_) k
    unfold callB at hc
    rw [Bool.and_eq_true, Bool.and_eq_true, decide_eq_true_iff, decide_eq_true_iff] at hc
    rw [Bool.and_eq_true, decide_eq_true_iff, decide_eq_true_iff]
    refine ⟨hc.2.1, ?_⟩
    obtain ⟨r2, hr2, e2⟩ := List.mem_map.mp hc.2.2
    obtain ⟨hr2, hF⟩ := List.mem_filter.mp hr2
    have hF : w0 r2.ws = Str.ofString "function" := of_decide_eq_true hF
    obtain ⟨p, hp, ep⟩ := tr_mem e hr2
    rw [← e2, ← ep]
    rw [← ep] at hF
    rcases m.rf p hp with h | ⟨y, hy, rfl⟩
    · exact absurd hF h.f
    · exact hy
end IC
namespace IC
open PySem L2 TL PyProof.Rows
theorem fun_row (z : Str) : Str.ofString "function " ++ z = rowT 0 [Str.ofString "function", z] := by
  refine str_ext ?_
  rw [tl_append, tl_row, tl_joinW]
  have e : tl (Str.ofString "function ") = tl (Str.ofString "function") ++ [32] := by decide +kernel
  rw [e]
  show _ = tl (Str.ofString "function") ++ ([32] ++ tl z)
  rw [List.append_assoc]
def endE : List Str := ["waits", "refused", "doomed"]
/-- _law_library -/
def spLibr : Sp := fun vs H Q _ => ∃ (p nl ol rm : Addr) (N O : List Str) (pn a0 : Int), vs = [.ref p, .ref nl, .ref ol, .ref rm] ∧ PoolAt H p pn ∧ pn ≤ 1000000 ∧ H nl = some (.lst (N.map V.str)) ∧ H ol = some (.lst (O.map V.str)) ∧ H rm = some (.lst [.int a0, .int 4]) ∧ a0 ≤ 10 ∧ rm ≠ p ∧ (∀ y ∈ [nl, ol], y ∉ [p, rm]) ∧ N ≠ [] ∧ N.length ≤ 4 ∧ N.Nodup ∧ (∀ z ∈ N, IsW z) ∧ O ≠ [] ∧ O.length ≤ 2 ∧ (∀ z ∈ O, IsW z ∧ z ∉ N) ∧
  ∀ (H' : Hp) (l : Addr) (L : List (Nat × List Str)) (s : PSt), H l = none → H' l = some (.lst (L.map fun r => .str (rowT r.1 r.2))) → Kp [p, rm] H H' → PoolAt H' p (pn + 10000) → Lines L s → Q (.ref l) H'
section
variable {P : Program} {w : World} {K : PySem.W.Frag} {mg : Str → Option Value} {base : Heap}
theorem ok_library {f : Addr} {fd : FuncData} (F : Fun K "_law_library" "_law_library" s_law_library f fd) (T : Bn mg) (D_law_draw : Df P w K mg base 1 "_law_draw" ["pool", "many"] spDraw) (D_law_different : Df P w K mg base 3 "_law_different" ["pool", "many", "taken"] (spDiff K)) (D_law_body : Df P w K mg base 25 "_law_body" ["pool", "nesting", "words", "room"] (spMake 8 0 0 fun _ => 1)) :
    FnOk P w K mg base CX0 26 f fd ["pool", "names", "others", "room"] spLibr := by
  refine F.ok sc_law_library (fun vs H Q E h => ?_) (fun cdv A outer s H vs Q E hr h => ?_)
  · obtain ⟨p, nl, ol, rm, N, O, pn, a0, rfl, _⟩ := h
    rfl
  · obtain ⟨p, nl, ol, rm, N, O, pn, a0, rfl, hp, hpn, hnl, hol, hrm, ha0, rp, off, nN, N4, ndN, wN, nO, O2, wO, kk⟩ := h
    refine ⟨_, (pss_cons (ps_par (i := 4) (j := 5) (by rfl) sc_law_library.nd rfl rfl (by decide) rfl rfl (pa_cons (pe_df D_law_different hr (by first | decide | omega) rfl (pa_cons (pv 0) (pa_cons (pe_op op_add pe_int (pe_df D_law_draw hr (by first | decide | omega) rfl (pa_cons (pv 0) (pa_cons pe_int pa_nil)))) (pa_cons (pe_lst pa_nil) pa_nil)))) (pa_cons (pe_df D_law_different hr (by first | decide | omega) rfl (pa_cons (pv 0) (pa_cons (pe_op op_add pe_int (pe_df D_law_draw hr (by first | decide | omega) rfl (pa_cons (pv 0) (pa_cons pe_int pa_nil)))) (pa_cons (pe_lst pa_nil) pa_nil)))) pa_nil)) (by rfl))
  (pss_cons (ps_set (i := 5) sc_law_library.nd rfl (Or.inl rfl) (pe_op op_cat (pv 5) (pe_slice sl_list (pe_lst (pa_cons pe_str (pa_cons pe_str (pa_cons pe_str pa_nil)))) po_none (po_some (pe_df D_law_draw hr (by first | decide | omega) rfl (pa_cons (pv 0) (pa_cons pe_int pa_nil)))))))
  (pss_cons (ps_set (i := 6) sc_law_library.nd rfl (Or.inl rfl) (pe_lst pa_nil))
  (pss_cons (ps_for PassesOwn.never rfl (pi_list (pv 1)) (pg_name (i := 7) sc_law_library.nd rfl (Or.inl rfl))
  (pss_cons (ps_set (i := 8) sc_law_library.nd rfl (Or.inl rfl) (pe_lst (pa_cons (pv 4) (pa_cons (pv 5) (pa_cons (pe_ifExp (pt_cmpR (op_neD hr.units) (pv 2) (pe_lst pa_nil) (nomark _)) (pv 2) (pv 1)) (pa_cons (pv 1) pa_nil))))))
  (pss_one (ps_set (i := 6) sc_law_library.nd rfl (Or.inl rfl) (pe_op op_cat (pe_op op_cat (pv 6) (pe_lst (pa_cons (pe_op op_add_str pe_str (pv 7)) pa_nil))) (pe_df D_law_body hr (by first | decide | omega) rfl (pa_cons (pv 0) (pa_cons pe_int (pa_cons (pv 8) (pa_cons (pv 3) pa_nil))))))))))
  (pss_one (ps_ret (pv 6))))))), ?_⟩
    have nw : ∀ {H' : Hp} {y : Addr} {k : Int}, PoolAt H' p k → H' y = none → p ≠ y := fun {H' y k} h e => by
      obtain ⟨_, _, _, z, _⟩ := h
      exact ne_of_none z e
    refine ⟨_, rfl, _, rfl, p, 4, pn, rfl, hp, by omega, by decide, by decide, fun d o d0 d4 hp1 => ⟨_, _, rfl, rfl, (by show 0 ≤ sizeLine; decide), fun t nt => ?_⟩⟩
    obtain ⟨d, rfl⟩ : ∃ m : Nat, d = m := ⟨d.toNat, by omega⟩
    have s1 := Same.new (o := .lst []) nt
    have pt := nw hp1 nt
    have hp2 : PoolAt (upd (upd H p o) t (.lst [])) p (pn + 1) := hp1.mv fun u e => s1 _ _ e
    have k2 : Kp [p, rm] H (upd (upd H p o) t (.lst [])) := (Kp.at_ (by simp)).trans (Kp.same s1)
    have t2 : upd (upd H p o) t (.lst []) t = some (.lst (([] : List Str).map V.str)) := upd_same
    have rm2 : upd (upd H p o) t (.lst []) rm = some (.lst [.int a0, .int 4]) := s1 _ _ (by rw [upd_ne rp]; exact hrm)
    generalize upd (upd H p o) t (.lst []) = H2 at hp2 k2 t2 rm2 ⊢
    have kin : ∀ {G G' : Hp}, Kp [p] G G' → Kp [p, rm] G G' := fun k y u e m => k y u e fun q => m (by simp [List.mem_singleton.mp q])
    refine ⟨p, t, [], 1 + d, pn + 1, (by push_cast; rfl), hp2, by omega, t2, pt.symm, by omega, by decide, fun Rc H3 rl lRc ndRc wRc nrl hrl hp3 k3 => ?_⟩
    have rlp : rl ≠ p := fun e => (nw hp2 nrl) e.symm
    have rlr : rl ≠ rm := fun e => by
      rw [e, rm2] at nrl
      cases nrl
    have k3' := k2.trans (kin k3)
    have rm3 : H3 rm = some (.lst [.int a0, .int 4]) := k3 _ _ rm2 (by simpa using rp)
    refine ⟨_, rfl, _, rfl, p, 3, _, rfl, hp3, by omega, by decide, by decide, fun d2 o2 d20 d23 hp4 => ⟨_, _, rfl, rfl, (by show 0 ≤ sizeLine; decide), fun t4 nt4 => ?_⟩⟩
    obtain ⟨d2, rfl⟩ : ∃ m : Nat, d2 = m := ⟨d2.toNat, by omega⟩
    have s5 := Same.new (o := .lst []) nt4
    have hp5 : PoolAt (upd (upd H3 p o2) t4 (.lst [])) p (pn + 1 + 9 * (1 + d : Nat) + 1) := hp4.mv fun u e => s5 _ _ e
    have k35 : Kp [p] H3 (upd (upd H3 p o2) t4 (.lst [])) := (Kp.at_ (by simp)).trans (Kp.same s5)
    have t5 : upd (upd H3 p o2) t4 (.lst []) t4 = some (.lst (([] : List Str).map V.str)) := upd_same
    have pt4 := nw hp4 nt4
    generalize upd (upd H3 p o2) t4 (.lst []) = H5 at hp5 k35 t5 ⊢
    refine ⟨p, t4, [], 1 + d2, _, (by push_cast; rfl), hp5, by omega, t5, pt4.symm, by omega, by decide, fun Er0 H6 el lEr ndEr wEr nel hel hp6 k6 => ⟨_, _, rfl, ?_⟩⟩
    have k36 := k35.trans k6
    have rl6 := k36 _ _ hrl (by simpa using rlp)
    have rm6 : H6 rm = some (.lst [.int a0, .int 4]) := k36 _ _ rm3 (by simpa using rp)
    have k6' := k3'.trans (kin k36)
    have hp6 : PoolAt H6 p (pn + 100) := hp6.up (by omega)
    refine ⟨_, rfl, (by show 3 ≤ sizeLine; decide), fun t6 nt6 => ?_⟩
    have s7 := Same.new (o := .lst [.str "waits", .str "refused", .str "doomed"]) nt6
    have h7 : upd H6 t6 (.lst [.str "waits", .str "refused", .str "doomed"]) t6 = some (.lst (endE.map V.str)) := upd_same
    have hp7 : PoolAt (upd H6 t6 (.lst [.str "waits", .str "refused", .str "doomed"])) p (pn + 100) := hp6.mv fun u e => s7 _ _ e
    have pt6 := nw hp6 nt6
    generalize upd H6 t6 (.lst [.str "waits", .str "refused", .str "doomed"]) = H7 at s7 h7 hp7 ⊢
    refine ⟨_, rfl, p, 4, _, rfl, hp7, by omega, by decide, by decide, fun d3 o3 d30 d34 hp8 => ⟨_, rfl, ?_⟩⟩
    obtain ⟨d3, rfl⟩ : ∃ m : Nat, d3 = m := ⟨d3.toNat, by omega⟩
    have k68 : Kp [p] H6 (upd H7 p o3) := (Kp.same s7).mutAt (by simp)
    have h8 : upd H7 p o3 t6 = some (.lst (endE.map V.str)) := by
      rw [upd_ne pt6.symm]
      exact h7
    generalize upd H7 p o3 = H8 at hp8 k68 h8 ⊢
    refine ⟨t6, _, rfl, SqL.of h8, fun q nq => ?_⟩
    rw [cutV_L, ← List.map_take]
    have elp : el ≠ p := fun e => (nw hp5 nel) e.symm
    have s9 := Same.new (o := .lst ((List.take d3 endE).map V.str)) nq
    have hel9 := s9 _ _ (k68 _ _ hel (by simpa using elp))
    refine ⟨el, q, _, _, rfl, rfl, hel9, upd_same, Nat.le_of_lt (small1000 (by rw [List.length_map, List.length_map, List.length_take, lEr]; show _ + min d3 3 ≤ 1000; omega)), fun q2 nq2 => ?_⟩
    rw [← List.map_append]
    have s10 := s9.trans (Same.new (o := .lst ((Er0 ++ List.take d3 endE).map V.str)) nq2)
    have hq10 : upd (upd H8 q (.lst ((List.take d3 endE).map V.str))) q2 (.lst ((Er0 ++ List.take d3 endE).map V.str)) q2 = some (.lst ((Er0 ++ List.take d3 endE).map V.str)) := upd_same
    have lE : (Er0 ++ List.take d3 endE).length ≤ 6 := by
      rw [List.length_append, List.length_take, lEr]
      show _ + min d3 3 ≤ 6
      omega
    have nE : Er0 ++ List.take d3 endE ≠ [] := fun e => by
      have := congrArg List.length e
      rw [List.length_append, lEr] at this
      change _ = 0 at this
      omega
    have wE : ∀ z ∈ Er0 ++ List.take d3 endE, IsW z := fun z hz => by
      rcases List.mem_append.mp hz with h | h
      · exact (wEr z h).1
      · have h := List.mem_of_mem_take h
        have all : ∀ y ∈ endE, 1 ≤ (tl y).length ∧ (tl y).length ≤ 8 ∧ (tl y).all (fun c => decide (97 ≤ c) && decide (c ≤ 122)) = true := by decide +kernel
        obtain ⟨h1, h2, h3⟩ := all z h
        exact isW_of h1 h2 h3
    generalize Er0 ++ List.take d3 endE = Er at lE nE wE s10 hq10 ⊢
    generalize upd (upd H8 q (.lst ((List.take d3 endE).map V.str))) q2 (.lst (Er.map V.str)) = H10 at s10 hq10 ⊢
    have k610 : Kp [p] H6 H10 := k68.trans (Kp.same s10)
    refine ⟨(by show 0 ≤ sizeLine; decide), fun r0 nr0 => ?_⟩
    have s11 := s10.trans (Same.new (o := .lst []) nr0)
    have hr0 : upd H10 r0 (.lst []) r0 = some (.lst []) := upd_same
    have hq11 : upd H10 r0 (.lst []) q2 = some (.lst (Er.map V.str)) := (Same.new nr0) _ _ hq10
    have hp11 : PoolAt (upd H10 r0 (.lst [])) p (pn + 101) := (hp8.mv fun u e => s11 _ _ e).up (by omega)
    have k611 : Kp [p] H6 (upd H10 r0 (.lst [])) := k68.trans (Kp.same s11)
    have hp10 : PoolAt H10 p (pn + 100 + 1) := hp8.mv fun u e => s10 _ _ e
    have rm10 : H10 rm = some (.lst [.int a0, .int 4]) := k610 _ _ rm6 (by simpa using rp)
    have k10 : Kp [p, rm] H H10 := k6'.trans (kin k610)
    have bk : ∀ {G : Hp} {y : Addr} {k : Int} {u : HO}, Kp [p, rm] H G → PoolAt G p k → G rm = some u → G y = none → H y = none := fun {G y k u} kp hp' hr' e => none_back kp (fun z hz => by
      simp only [List.mem_cons, List.not_mem_nil, or_false] at hz
      rcases hz with rfl | rfl
      · obtain ⟨_, _, _, z, _⟩ := hp'
        rw [z]
        exact nofun
      · rw [hr']
        exact nofun) e
    have nr0' := bk k10 hp10 rm10 nr0
    generalize upd H10 r0 (.lst []) = H11 at s11 hr0 hq11 hp11 k611 ⊢
    have rl11 := k611 _ _ rl6 (by simpa using rlp)
    have rm11 : H11 rm = some (.lst [.int a0, .int 4]) := k611 _ _ rm6 (by simpa using rp)
    have k11 : Kp [p, rm] H H11 := k6'.trans (kin k611)
    have q2o : q2 ∉ [p, rm] := fun m => by
      simp only [List.mem_cons, List.not_mem_nil, or_false] at m
      rcases m with rfl | rfl
      · obtain ⟨_, _, _, e, _⟩ := hp11
        rw [hq11] at e
        cases hEr : Er with
        | nil => exact nE hEr
        | cons x r =>
          rw [hEr] at e
          unfold pl at e
          cases e
      · rw [hq11] at rm11
        cases hEr : Er with
        | nil => exact nE hEr
        | cons x r =>
          rw [hEr] at rm11
          cases rm11
    have rlo : rl ∉ [p, rm] := by simp [rlp, rlr]
    have hnl11 := k11 _ _ hnl (off nl (by simp))
    refine ⟨_, rfl, nl, rfl, ⟨_, SqL.of hnl11⟩, ?_⟩
    refine for_list (K := K) (a := nl) (xs := N.map V.str) (fun i σ' G => ∃ (lr : Addr) (z7 z8 : Option V) (L : List (Nat × List Str)) (a2 b2 : Int) (s : PSt), σ' = [some (.ref p), some (.ref nl), some (.ref ol), some (.ref rm), some (.ref rl), some (.ref q2), some (.ref lr), z7, z8] ∧ H lr = none ∧ G lr = some (.lst (L.map fun r => .str (rowT r.1 r.2))) ∧ Kp [p, rm] H11 G ∧ G rm = some (.lst [.int a2, .int b2]) ∧ PoolAt G p (pn + 101 + 40 * (a0 - a2)) ∧ Made a0 N O Rc Er i a2 b2 L s) ⟨r0, _, _, [], a0, 4, s0P, rfl, nr0', hr0, Kp.refl _ _, rm11, hp11.up (by omega), Made.zero⟩ (fun i σ' G _ h => ?_) (fun i y σ' G hi h => ?_) (fun σ' G h => ?_)
    · obtain ⟨lr, z7, z8, L, a2, b2, s, _, _, _, kG, _⟩ := h
      exact SqL.of (kG _ _ hnl11 (off nl (by simp)))
    · obtain ⟨lr, z7, z8, L, a2, b2, s, rfl, nlr, hlr, kG, rmG, hpG, md⟩ := h
      rw [List.getElem?_map] at hi
      cases ez : N[i]? with
      | none =>
        rw [ez] at hi
        cases hi
      | some z =>
        rw [ez] at hi
        cases hi
        have wz := wN z (List.mem_of_getElem? ez)
        have c1 := md.ct.cs
        have c2 := md.ct.ps
        have c3 := md.ct.pr
        have ilt := (List.getElem?_eq_some_iff.mp ez).1
        have k0G := k11.trans kG
        have hol := k0G _ _ hol (off ol (by simp))
        have hnl := k0G _ _ hnl (off nl (by simp))
        have hRc := kG _ _ rl11 rlo
        have hEr := kG _ _ hq11 q2o
        refine ⟨_, rfl, _, rfl, _, rfl, (by show 0 ≤ sizeLine; decide), fun e0 ne0 => ?_⟩
        have s1 := Same.new (o := .lst []) ne0
        refine ⟨.list (O.map PyData.str), .list (([] : List Str).map PyData.str), dpL (s1 _ _ hol), dpL (zs := []) upd_same, shaped_s fun y hy => (wO y hy).1, rfl, ?_⟩
        rw [eqvL, decide_eq_false nO]
        refine ⟨_, rfl, iteT ⟨_, rfl, _, rfl, (by show 4 ≤ sizeLine; decide), fun wl nwl => ?_⟩⟩
        have s2 := s1.trans (Same.new (o := .lst [.ref rl, .ref q2, .ref ol, .ref nl]) nwl)
        have hwl : upd (upd G e0 (.lst [])) wl (.lst [.ref rl, .ref q2, .ref ol, .ref nl]) wl = some (.lst [.ref rl, .ref q2, .ref ol, .ref nl]) := upd_same
        have wlo : wl ∉ [p, rm] := by
          simp [(nw (hpG.mv fun u e => s1 _ _ e) nwl).symm, (ne_of_none (s1 _ _ rmG) nwl).symm]
        generalize upd (upd G e0 (.lst [])) wl (.lst [.ref rl, .ref q2, .ref ol, .ref nl]) = G2 at s2 hwl ⊢
        have bz : (Str.ofString "function ").length + z.length ≤ sizeLine := by
          have e1 : (Str.ofString "function ").length = 9 := by decide +kernel
          have e2 := wz.2.1
          have e3 := len_tl z
          exact big (by omega)
        refine ⟨_, rfl, _, rfl, _, _, rfl, rfl, bz, (by show 1 ≤ sizeLine; decide), fun q5 nq5 => ?_⟩
        rw [fun_row]
        have s3 := s2.trans (Same.new (o := .lst [.str (rowT 0 [Str.ofString "function", z])]) nq5)
        have hwl3 := (Same.new (o := .lst [.str (rowT 0 [Str.ofString "function", z])]) nq5) _ _ hwl
        have h5 : upd G2 q5 (.lst [.str (rowT 0 [Str.ofString "function", z])]) q5 = some (.lst [.str (rowT 0 [Str.ofString "function", z])]) := upd_same
        generalize upd G2 q5 (.lst [.str (rowT 0 [Str.ofString "function", z])]) = G3 at s3 hwl3 h5 ⊢
        refine ⟨lr, q5, _, _, rfl, rfl, s3 _ _ hlr, h5, Nat.le_of_lt (small1000 (by rw [List.length_map]; show L.length + 1 ≤ 1000; omega)), fun q6 nq6 => ?_⟩
        have e6 : L.map (fun r => V.str (rowT r.1 r.2)) ++ [V.str (rowT 0 [Str.ofString "function", z])] = (L ++ [fRow z]).map fun r => V.str (rowT r.1 r.2) := by rw [List.map_append]; rfl
        rw [e6]
        have s6 := s3.trans (Same.new (o := .lst ((L ++ [fRow z]).map fun r => V.str (rowT r.1 r.2))) nq6)
        have hwl6 := (Same.new (o := .lst ((L ++ [fRow z]).map fun r => V.str (rowT r.1 r.2))) nq6) _ _ hwl3
        have h6 : upd G3 q6 (.lst ((L ++ [fRow z]).map fun r => V.str (rowT r.1 r.2))) q6 = some (.lst ((L ++ [fRow z]).map fun r => V.str (rowT r.1 r.2))) := upd_same
        have q6o : q6 ∉ [p, rm] := by
          simp [(nw (hpG.mv fun u e => s3 _ _ e) nq6).symm, (ne_of_none (s3 _ _ rmG) nq6).symm]
        generalize upd G3 q6 (.lst ((L ++ [fRow z]).map fun r => V.str (rowT r.1 r.2))) = G6 at s6 hwl6 h6 ⊢
        have hp6' : PoolAt G6 p (pn + 101 + 40 * (a0 - a2)) := hpG.mv fun u e => s6 _ _ e
        refine ⟨_, rfl, _, rfl, _, rfl, p, wl, rm, 1, Rc, Er, O, O, N, true, a2, b2, _, rfl, by omega, by omega, hp6', by unfold Bd; omega, ⟨rl, q2, ol, nl, hwl6, s6 _ _ hRc, s6 _ _ hEr, s6 _ _ hol, s6 _ _ hnl, fun y hy => ?_⟩, s6 _ _ rmG, rp, by omega, ⟨⟨fun e => by rw [e] at lRc; change 0 = _ at lRc; omega, by omega, fun y hy => (wRc y hy).1⟩, ⟨nE, by omega, wE⟩, ⟨nO, by omega, fun y hy => (wO y hy).1⟩, ⟨N4, wN⟩, fun y hy => .inl hy, fun _ y hy => (wO y hy).2⟩, fun H7 l7 M a3 b3 nl7 hl7 k7 rm7 hp7 ct rd rf => ?_⟩
        · simp only [List.mem_cons, List.not_mem_nil, or_false] at hy
          rcases hy with rfl | rfl | rfl | rfl | rfl
          · exact wlo
          · exact rlo
          · exact q2o
          · exact off _ (by simp)
          · exact off _ (by simp)
        · have ct : Cnt N a2 b2 a3 b3 1 1 M := ct
          have cp := ct.pr
          refine ⟨q6, l7, _, _, rfl, rfl, k7 _ _ h6 q6o, hl7, Nat.le_of_lt (small1000 (by rw [List.length_map, List.length_map, List.length_append]; show L.length + 1 + _ ≤ 1000; omega)), fun l nl => ?_⟩
          rw [← List.map_append]
          have s8 := Same.new (o := .lst ((L ++ [fRow z] ++ M).map fun r => V.str (rowT r.1 r.2))) nl
          have kAll : Kp [p, rm] G H7 := (Kp.same s6).trans k7
          have nl' := bk (k0G.trans kAll) hp7 rm7 nl
          obtain ⟨s', md'⟩ := md.step ndN ez wz rd ct rf
          have e8 : L ++ [fRow z] ++ M = L ++ (fRow z :: M) := by rw [List.append_assoc]; rfl
          exact ⟨l, _, _, L ++ (fRow z :: M), a3, b3, s', rfl, nl', by rw [upd_same, e8], (kG.trans kAll).trans (Kp.same s8), s8 _ _ rm7, (hp7.mv fun u e => s8 _ _ e).up (by omega), md'⟩
    · obtain ⟨lr, z7, z8, L, a2, b2, s, rfl, nlr, hlr, kG, rmG, hpG, md⟩ := h
      rw [List.length_map] at md
      have c1 := md.ct.cs
      have c2 := md.ct.ps
      exact ⟨_, rfl, kk G lr L s nlr hlr (k11.trans kG) (hpG.up (by omega)) (md.lines ha0 nN N4 wN (by rw [lRc]; omega) lE O2)⟩
end
end IC
namespace IC
open PySem L2 TL
abbrev fsNF (v : V) : List (Str × V) := [("name", v)]
section
variable {P : Program} {w : World} {K : PySem.W.Frag} {mg : Str → Option Value} {base : Heap}
theorem ok_NoFunction {f C : Addr} {fd : FuncData} (F : Fun K "__init__" "NoFunction.__init__" s_NoFunction___init__ f fd) (O : OexC K C) (n1 : PySem.W.findIn K (.ref C) "name" = some none) : FnOk P w K mg base CX0 1 f fd ["self", "name"] (spErr C fsNF) := by
  refine F.ok sc_NoFunction___init__ (fun vs H Q E h => ?_) (fun cdv A outer s H vs Q E hr h => ?_)
  · obtain ⟨a, v, rfl, _⟩ := h
    rfl
  · obtain ⟨a, v, rfl, ea, k⟩ := h
    refine ⟨_, (pss_one (ps_ost (pv 0) (pv 1))), ?_⟩
    refine ⟨_, rfl, _, rfl, a, C, rfl, O, n1, .inl ⟨ea, fun d nd ne => ?_⟩⟩
    exact k d _ nd ne upd_same (by rw [upd_ne ne, upd_same]) (fun b h1 h2 => by rw [upd_ne h1, upd_ne h2])
end
end IC
namespace IC
open PySem L2 TL PyProof.Rows
abbrev Row := Nat × List Str
/-- rows of a function: those behind its header until the next one -/
def secs (z : Str) : Bool → List Row → List Row
  | _, [] => []
  | b, p :: L => if (if p.1 = 0 then decide (p.2 = [Str.ofString "function", z]) else b) = true then p :: secs z (if p.1 = 0 then decide (p.2 = [Str.ofString "function", z]) else b) L else secs z (if p.1 = 0 then decide (p.2 = [Str.ofString "function", z]) else b) L
def inS (z : Str) (b : Bool) (p : Row) : Bool := if p.1 = 0 then decide (p.2 = [Str.ofString "function", z]) else b
theorem secs_cons (z : Str) (b : Bool) (p : Row) (L : List Row) : secs z b (p :: L) = (if inS z b p = true then [p] else []) ++ secs z (inS z b p) L := by
  show (if inS z b p = true then p :: secs z (inS z b p) L else secs z (inS z b p) L) = _
  split <;> rfl
/-- the rows by functions -/
def splitF : List Row → List Row × List (Row × List Row)
  | [] => ([], [])
  | p :: L => if p.1 = 0 then ([], (p, (splitF L).1) :: (splitF L).2) else (p :: (splitF L).1, (splitF L).2)
theorem splitF_cons (p : Row) (L : List Row) : splitF (p :: L) = if p.1 = 0 then ([], (p, (splitF L).1) :: (splitF L).2) else (p :: (splitF L).1, (splitF L).2) := rfl
def joinF (S : List (Row × List Row)) : List Row := S.flatMap fun s => s.1 :: s.2
theorem splitF_eq : ∀ L : List Row, L = (splitF L).1 ++ joinF (splitF L).2
  | [] => rfl
  | p :: L => by
    unfold splitF
    have ih := splitF_eq L
    split
    · show p :: L = [] ++ joinF ((p, (splitF L).1) :: (splitF L).2)
      unfold joinF at ih ⊢
      rw [List.flatMap_cons, List.nil_append, List.cons_append, ← ih]
    · show p :: L = (p :: (splitF L).1) ++ joinF (splitF L).2
      rw [List.cons_append, ← ih]
theorem splitF_fst : ∀ L : List Row, (splitF L).2.map (·.1) = L.filter fun p => decide (p.1 = 0)
  | [] => rfl
  | p :: L => by
    unfold splitF
    rw [List.filter_cons]
    split
    · rename_i h
      rw [if_pos (decide_eq_true h), List.map_cons, splitF_fst L]
    · rename_i h
      rw [if_neg (by rw [decide_eq_false h]; decide), splitF_fst L]
theorem splitF_pre : ∀ L : List Row, (∀ p ∈ (splitF L).1, p.1 ≠ 0) ∧ ∀ s ∈ (splitF L).2, s.1.1 = 0 ∧ ∀ p ∈ s.2, p.1 ≠ 0
  | [] => ⟨nofun, nofun⟩
  | p :: L => by
    have ih := splitF_pre L
    unfold splitF
    split
    · rename_i h
      refine ⟨nofun, fun s hs => ?_⟩
      rcases List.mem_cons.mp hs with rfl | hs
      · exact ⟨h, ih.1⟩
      · exact ih.2 s hs
    · rename_i h
      refine ⟨fun q hq => ?_, ih.2⟩
      rcases List.mem_cons.mp hq with rfl | hq
      · exact h
      · exact ih.1 q hq
theorem secs_split (z : Str) : ∀ (L : List Row) (b : Bool), secs z b L = (if b = true then (splitF L).1 else []) ++ (splitF L).2.flatMap fun s => if s.1.2 = [Str.ofString "function", z] then s.1 :: s.2 else []
  | [], b => by
    cases b <;> rfl
  | p :: L, b => by
    rw [secs_cons, secs_split z L, splitF_cons]
    unfold inS
    by_cases h : p.1 = 0
    · rw [if_pos h, if_pos h]
      show _ = (if b = true then [] else []) ++ (((p, (splitF L).1) :: (splitF L).2).flatMap _)
      rw [List.flatMap_cons]
      by_cases e : p.2 = [Str.ofString "function", z]
      · rw [decide_eq_true e, if_pos rfl, if_pos rfl, if_pos e]
        simp
      · rw [decide_eq_false e, if_neg (by decide), if_neg (by decide), if_neg e]
        simp
    · rw [if_neg h, if_neg h]
      cases b with
      | true => simp
      | false => simp
/-- one section has the name, and what is found is it -/
theorem secs_one {z : Str} {L : List Row} {k : Nat} {s : Row × List Row} (nd : ((splitF L).2.map (·.1)).Nodup) (hk : (splitF L).2[k]? = some s) (e : s.1 = (0, [Str.ofString "function", z])) : secs z false L = s.1 :: s.2 := by
  rw [secs_split, if_neg (by decide), List.nil_append]
  have z0 : ∀ t ∈ (splitF L).2, t.1.1 = 0 := fun t ht => ((splitF_pre L).2 t ht).1
  generalize (splitF L).2 = S at nd hk z0
  induction S generalizing k with
  | nil => cases hk
  | cons t S ih =>
    rw [List.map_cons, List.nodup_cons] at nd
    rw [List.flatMap_cons]
    cases k with
    | zero =>
      cases hk
      rw [if_pos (by rw [e])]
      have : (S.flatMap fun s => if s.1.2 = [Str.ofString "function", z] then s.1 :: s.2 else []) = [] := by
        rw [List.flatMap_eq_nil_iff]
        intro u hu
        rw [if_neg]
        intro h
        refine nd.1 (List.mem_map.mpr ⟨u, hu, ?_⟩)
        rw [e]
        exact Prod.ext (z0 u (List.mem_cons_of_mem _ hu)) h
      rw [this, List.append_nil]
    | succ k =>
      rw [if_neg, List.nil_append]
      · exact ih nd.2 hk fun u hu => z0 u (List.mem_cons_of_mem _ hu)
      · intro h
        refine nd.1 (List.mem_map.mpr ⟨s, List.mem_of_getElem? hk, ?_⟩)
        rw [e]
        exact (Prod.ext (z0 t (List.mem_cons_self ..)) h).symm
theorem frow_of {p : Row} (ro : RowOk p.1 p.2) (h : p.1 = 0) : ∃ w, IsW w ∧ p.2 = [Str.ofString "function", w] := by
  have n := ro.2.2.2
  have f := ro.2.2.1
  unfold nestB at n
  by_cases c : w0 p.2 = Str.ofString "function"
  · unfold formB at f
    rw [c, if_pos (by decide +kernel)] at f
    have l := of_decide_eq_true f
    match hq : p.2, l, c with
    | [a, b], _, c =>
      have c : a = Str.ofString "function" := c
      exact ⟨b, ro.1.2.1 b (by rw [hq]; simp), by rw [c]⟩
  · rw [decide_eq_false c] at n
    simp [h] at n
theorem nof_of {p : Row} (ro : RowOk p.1 p.2) (h : p.1 ≠ 0) : ¬ w0 p.2 = Str.ofString "function" := fun c => by
  have n := ro.2.2.2
  unfold nestB at n
  rw [if_pos (decide_eq_true c)] at n
  exact h (of_decide_eq_true n)
theorem tl_row0 (w : Str) : tl (rowT 0 [Str.ofString "function", w]) = tl (Str.ofString "function ") ++ tl w := by
  rw [← fun_row, tl_append]
theorem row0_inj {w z : Str} (h : rowT 0 [Str.ofString "function", w] = rowT 0 [Str.ofString "function", z]) : w = z := by
  have := congrArg tl h
  rw [tl_row0, tl_row0] at this
  exact str_ext (List.append_cancel_left this)
/-- a row's text is that of a function's header just where it is this header -/
theorem row_is {p : Row} (ro : RowOk p.1 p.2) {z : Str} : rowT p.1 p.2 = rowT 0 [Str.ofString "function", z] ↔ p = (0, [Str.ofString "function", z]) := by
  constructor
  · intro h
    by_cases c : p.1 = 0
    · obtain ⟨w, _, e⟩ := frow_of ro c
      rw [c, e] at h
      have := row0_inj h
      exact Prod.ext c (by rw [e, this])
    · have := congrArg tl h
      rw [tl_row0, tl_row] at this
      obtain ⟨k, hk⟩ : ∃ k, p.1 = k + 1 := ⟨p.1 - 1, by omega⟩
      rw [hk, show 2 * (k + 1) = 2 * k + 1 + 1 by omega, List.replicate_succ] at this
      have e : tl (Str.ofString "function ") = [102, 117, 110, 99, 116, 105, 111, 110, 32] := by decide +kernel
      rw [e] at this
      exact absurd (List.cons.inj this).1 (by decide)
  · intro h
    rw [h]
open Builtin Builtin.Str in
theorem starts_sp {p : Row} (ro : RowOk p.1 p.2) : Txt.startswith (rowT p.1 p.2) (Str.ofString " ") = decide (p.1 ≠ 0) := by
  have e1 : (Str.ofString " ").length = 1 := by decide +kernel
  have e2 : (Str.ofString " ").cps.toList = [32] := by decide +kernel
  have sub : subAt (rowT p.1 p.2) (Str.ofString " ") 0 = ((tl (rowT p.1 p.2)).take 1 == [32]) := by
    rw [PySem.StrLaws.subAt_eq, e1, e2, List.drop_zero]
  unfold Txt.startswith
  rw [sub, e1]
  by_cases c : p.1 = 0
  · obtain ⟨w, _, e⟩ := frow_of ro c
    rw [c, e, tl_row0]
    have e : tl (Str.ofString "function ") = [102, 117, 110, 99, 116, 105, 111, 110, 32] := by decide +kernel
    rw [e]
    simp
  · obtain ⟨k, hk⟩ : ∃ k, p.1 = k + 1 := ⟨p.1 - 1, by omega⟩
    have l : 1 ≤ (rowT p.1 p.2).length := by
      rw [row_len]
      omega
    rw [decide_eq_true c, tl_row, hk, show 2 * (k + 1) = 2 * k + 1 + 1 by omega, List.replicate_succ]
    rw [hk] at l
    simp [l]
end IC
namespace IC
open PySem L2 TL PyProof.Rows
theorem ps_nox {X : Cx} {st : Stmt} {t : TS} (h : PS X.nox st t) : PS X st t := by
  refine ⟨fun pins s σ H D I hw => ?_⟩
  exact wpAny_mono (h.run pins s σ H D (I.wish fun _ _ => False) hw) (fun _ _ q => q.unwish) (fun _ _ z => z.elim)
theorem cr_strS {X : Cx} : CallR X (.type "str") (fun vs H Q => ∃ z : Str, vs = [.str z] ∧ Q (.str z) H) := by
  rintro pins s σ H vs us Q I rel ⟨z, rfl, q⟩
  rcases vals1 rel with ⟨u, rfl, tk, rfl⟩
  exact PySem.P.str_of_str ⟨.str z, H, I, ⟨tk, rfl⟩, q⟩
def ErrQ (C : Addr) (fs : List (Str × V)) (H : Hp) (E : XK) : Prop := ∀ (x : Addr) (H' : Hp), Same H H' → H' x = some (.xd fs) → E (.ref C) (some x) H'
theorem ErrQ.same {C : Addr} {fs : List (Str × V)} {H H1 : Hp} {E : XK} (h : ErrQ C fs H E) (s : Same H H1) : ErrQ C fs H1 E := fun x H' s2 e => h x H' (s.trans s2) e
/-- a thing that is asked for: a text, or no text -/
def Ask (K : PySem.W.Frag) (H : Hp) (v : V) : Prop := (∃ z : Str, v = .str z ∧ (tl z).length ≤ 1000) ∨ Oth K H v
theorem Ask.mv {K : PySem.W.Frag} {H H' : Hp} {v : V} (h : Ask K H v) (s : Same H H') : Ask K H' v := h.imp id fun o => o.mv s
/-- is it one of these names -/
def isB (N : List Str) : V → Bool
  | .str z => decide (z ∈ N)
  | _ => false
theorem Oth.noStr {K : PySem.W.Frag} {H : Hp} {z : Str} (h : Oth K H (.str z)) : False := by
  obtain ⟨T, ty, kb⟩ := h
  cases ty with
  | base b =>
    cases b with
    | str x => exact absurd kb (by decide +kernel)
theorem Oth.no {K : PySem.W.Frag} {H : Hp} {v : V} (h : Oth K H v) (N : List Str) : isB N v = false := by
  cases v with
  | str z => exact (h.noStr).elim
  | _ => rfl
theorem names_w {c : LC} {H : Hp} {R : List LR} (l : Lib c H R) (fo : ∀ r ∈ R, formB modesS r.ws = true) {z : Str} (hz : z ∈ names R) : IsW z := by
  obtain ⟨r, hr, rfl⟩ := List.mem_map.mp hz
  obtain ⟨hr, hF⟩ := List.mem_filter.mp hr
  have hF : w0 r.ws = Str.ofString "function" := of_decide_eq_true hF
  have l1 := two_of (fo r hr) (by rw [hF]; decide +kernel)
  refine (l.ne r hr).2.1 _ ?_
  match r.ws, l1 with
  | _ :: y :: _, _ => exact List.mem_cons_of_mem _ (List.mem_cons_self ..)
theorem secs_snoc (z : Str) (p : Row) : ∀ (L : List Row) (b : Bool), secs z b (L ++ [p]) = secs z b L ++ if inS z (L.foldl (inS z) b) p = true then [p] else []
  | [], b => by
    rw [List.nil_append, secs_cons]
    show _ ++ [] = [] ++ _
    rw [List.append_nil, List.nil_append]
    rfl
  | q :: L, b => by
    rw [List.cons_append, secs_cons, secs_snoc z p L, secs_cons, List.foldl_cons, List.append_assoc]
theorem secs_le (z : Str) : ∀ (L : List Row) (b : Bool), (secs z b L).length ≤ L.length
  | [], _ => Nat.le_refl _
  | p :: L, b => by
    rw [secs_cons, List.length_append, List.length_cons]
    have := secs_le z L (inS z b p)
    split <;> simp <;> omega
def spConL (K : PySem.W.Frag) (c : LC) (CL : Addr) : Sp := fun vs H Q _ => ∃ (R : List LR) (x dx : Addr) (tx : Str) (rl bd sl : Addr) (v : V), vs = [.ref x, v] ∧ LbAt c CL H R x dx tx rl bd sl ∧ Ask K H v ∧ ∀ H', Same H H' → Q (.bl (isB (names R) v)) H'
def spAtL (K : PySem.W.Frag) (c : LC) (CL EN : Addr) : Sp := fun vs H Q E => ∃ (R : List LR) (x dx : Addr) (L : List Row) (rl bd sl : Addr) (v : V), vs = [.ref x, v] ∧ LbAt c CL H R x dx (rowsT L) rl bd sl ∧ (∀ p ∈ L, RowOk p.1 p.2) ∧ L ≠ [] ∧ L.length ≤ 100 ∧ (rowsT L).length ≤ 6000 ∧ Ask K H v ∧
  (∀ z, v = .str z → z ∈ names R → ∀ (H' : Hp) (l : Addr), Same H H' → H l = none → H' l = some (.lst ((secs z false L).map fun r => .str (rowT r.1 r.2))) → Q (.ref l) H') ∧ (isB (names R) v = false → ErrQ EN (fsNF v) H E)
def LbX (CL : Addr) (H : Hp) (x : Addr) (tx : Str) : Prop := ∃ dx rl bd sl, H x = some (.ins CL dx (lbf tx rl bd sl))
theorem LbX.same {CL : Addr} {H H' : Hp} {x : Addr} {tx : Str} (h : LbX CL H x tx) (s : Same H H') : LbX CL H' x tx := by
  obtain ⟨dx, rl, bd, sl, h⟩ := h
  exact ⟨dx, rl, bd, sl, s _ _ h⟩
def spEqL (K : PySem.W.Frag) (CL : Addr) : Sp := fun vs H Q _ => ∃ (x : Addr) (tx : Str) (v : V), vs = [.ref x, v] ∧ LbX CL H x tx ∧ ((∃ y ty, v = .ref y ∧ LbX CL H y ty ∧ Q (.bl (decide (tx = ty))) H) ∨ (∃ t, TyX K H v t ∧ PySem.W.kitOne K t (.ref CL) = some false ∧ Q (.bl false) H))
def spStrL (CL : Addr) : Sp := fun vs H Q _ => ∃ (x : Addr) (tx : Str), vs = [.ref x] ∧ LbX CL H x tx ∧ Q (.str tx) H
section
variable {P : Program} {w : World} {K : PySem.W.Frag} {mg : Str → Option Value} {base : Heap} {c : LC} {CL EN : Addr}
theorem ok_conL {f : Addr} {fd : FuncData} (F : Fun K "__contains__" "Library.__contains__" s_Library___contains__ f fd) (T : Bn mg) (LB : LbT K CL) (D_is_word : Df P w K mg base 1 "is_word" ["thing"] (spIsWord K)) : FnOk P w K mg base CX0 2 f fd ["self", "x"] (spConL K c CL) := by
  refine F.ok sc_Library___contains__ (fun vs H Q E h => ?_) (fun cdv A outer s H vs Q E hr h => ?_)
  · obtain ⟨R, x, dx, tx, rl, bd, sl, v, rfl, _⟩ := h
    rfl
  · obtain ⟨R, x, dx, tx, rl, bd, sl, v, rfl, L, ask, kk⟩ := h
    have hu := hu_of hr
    refine ⟨_, (pss_one (ps_ret (pe_and (pe_df D_is_word hr (by first | decide | omega) rfl (pa_cons (pv 1) pa_nil)) (pe_one (pe_cmp (pc_din hu (pv 1) (pe_fld (pv 0) rfl)) rfl))))), ?_⟩
    rcases ask with ⟨z, rfl, hl⟩ | ot
    · refine ⟨_, rfl, .str z, rfl, .inl ⟨z, rfl, hl, fun H1 s1 => ⟨_, rfl, ?_⟩⟩⟩
      have L1 := L.same s1
      have k1 := kk _ s1
      have e1 : isB (names R) (.str z) = decide (z ∈ names R) := rfl
      rw [e1] at k1
      cases wz : wB z with
      | true =>
        refine iteT ?_
        refine ⟨_, rfl, _, rfl, x, CL, dx, _, _, rfl, L1.o, LB.cL, LB.lb, rfl, bd, _, rfl, DGet.k (k := Sum.inr z) L1.bd, ?_⟩
        rw [fnB_get]
        exact k1
      | false =>
        refine iteF ?_
        have : z ∉ names R := fun m => by
          have := wB_ofW (names_w L.l L.fo m)
          rw [wz] at this
          cases this
        rw [decide_eq_false this] at k1
        exact k1
    · refine ⟨_, rfl, v, rfl, .inr ⟨ot, fun H1 s1 => ⟨_, rfl, iteF ?_⟩⟩⟩
      have := kk _ s1
      rw [ot.no] at this
      exact this
theorem ok_eqL {f : Addr} {fd : FuncData} {g : Addr} (F : Fun K "__eq__" "Library.__eq__" s_Library___eq__ f fd) (T : Bn mg) (LB : LbT K CL) (EQ : EqTxt K CL g) (gLb : mg "Library" = some (.ref CL)) : FnOk P w K mg base CX0 1 f fd ["self", "other"] (spEqL K CL) := by
  refine F.ok sc_Library___eq__ (fun vs H Q E h => ?_) (fun cdv A outer s H vs Q E hr h => ?_)
  · obtain ⟨x, tx, v, rfl, _⟩ := h
    rfl
  · obtain ⟨x, tx, v, rfl, ⟨dx, rl, bd, sl, hx⟩, cs⟩ := h
    refine ⟨_, (pss_cons (ps_if (pt_not (pt_val (pe_callB call_isi (by rfl) T.isi PyProof.Rows.boot_isinstance (pa_cons (pv 1) (pa_cons (pe_glob (v := .ref _) rfl gLb rfl) pa_nil)))))
  (pss_one (ps_ret pe_bl))
  pss_nil)
  (pss_one (ps_ret (pe_cmpR op_eq (pe_fld (pv 0) rfl) (pe_fld (pv 1) rfl) (nomark _))))), ?_⟩
    rcases cs with ⟨y, ty, rfl, ⟨dy, rl2, bd2, sl2, hy⟩, k⟩ | ⟨t, ty, kit, k⟩
    · refine ⟨_, rfl, .ref y, .ref CL, .ref CL, .ref CL, true, rfl, .own CL, EQ.ty hy, EQ.self, true, rfl, ?_⟩
      refine ⟨_, rfl, x, CL, dx, _, _, rfl, hx, LB.cL, LB.lt, rfl, _, rfl, y, CL, dy, _, _, rfl, hy, LB.cL, LB.lt, rfl, rfl, ?_⟩
      have e : decide (V.str tx = V.str ty) = decide (tx = ty) := by
        rw [Bool.eq_iff_iff, decide_eq_true_iff, decide_eq_true_iff, V.str.injEq]
      rw [e]
      exact k
    · exact ⟨_, rfl, v, .ref CL, t, .ref CL, false, rfl, .own CL, ty, kit, false, rfl, k⟩
theorem ok_strL {f : Addr} {fd : FuncData} (F : Fun K "__str__" "Library.__str__" s_Library___str__ f fd) (T : Bn mg) (LB : LbT K CL) : FnOk P w K mg base CX0 1 f fd ["self"] (spStrL CL) := by
  refine F.ok sc_Library___str__ (fun vs H Q E h => ?_) (fun cdv A outer s H vs Q E hr h => ?_)
  · obtain ⟨x, tx, rfl, _⟩ := h
    rfl
  · obtain ⟨x, tx, rfl, ⟨dx, rl, bd, sl, hx⟩, k⟩ := h
    refine ⟨_, (pss_one (ps_ret (pe_callTy cr_strS (by rfl) T.str (by decide +kernel) (pa_cons (pe_fld (pv 0) rfl) pa_nil)))), ?_⟩
    exact ⟨_, rfl, x, CL, dx, _, _, rfl, hx, LB.cL, LB.lt, rfl, tx, rfl, k⟩
theorem ok_atL {f : Addr} {fd : FuncData} (F : Fun K "__getitem__" "Library.__getitem__" s_Library___getitem__ f fd) (T : Bn mg) (LB : LbT K CL) (D_is_word : Df P w K mg base 1 "is_word" ["thing"] (spIsWord K)) (E_NF : EDf P w K mg base 1 "NoFunction" EN "name" fsNF) (kNF : PySem.W.keepIn K (.ref EN) = true) :
    FnOk P w K mg base (L2.CX P w) 4 f fd ["self", "at"] (spAtL K c CL EN) := by
  refine F.okX sc_Library___getitem__ (fun vs H Q E h => ?_) (fun cdv A outer s H vs Q E hr h => ?_)
  · obtain ⟨R, x, dx, L, rl, bd, sl, v, rfl, _⟩ := h
    rfl
  · obtain ⟨R, x, dx, L, rl, bd, sl, v, rfl, LA, ro, neL, few, len, ask, kk, ke⟩ := h
    have hu := hu_of hr
    refine ⟨_, (pss_cons (ps_if (PW.pt (pw_or (pt_not (pt_val (pe_df D_is_word hr (by first | decide | omega) rfl (pa_cons (pv 1) pa_nil)))) (pw_or1 (pt_cmp (pc_dnotin hu (pv 1) (pe_fld (pv 0) rfl))))))
  (pss_one (ps_raise rfl (takes_of rfl rfl rfl rfl) (pmk_ed E_NF kNF hr (by first | decide | omega) rfl (pa_cons (pv 1) pa_nil))))
  pss_nil)
  (pss_cons (ps_set (i := 2) sc_Library___getitem__.nd rfl (Or.inl rfl) (pe_lst pa_nil))
  (pss_cons (ps_set (i := 3) sc_Library___getitem__.nd rfl (Or.inl rfl) pe_bl)
  (pss_cons (ps_nox (ps_for PassesOwn.never rfl (pi_list (pe_split (pe_fld (pv 0) rfl) pe_str)) (pg_name (i := 4) sc_Library___getitem__.nd rfl (Or.inl rfl))
  (Evl.pss_cut (ps_if (pt_not (pt_val (pe_m1 PySem.F.slot_str_startswith PySem.F.type_str_startswith mt_startswith (pv 4) pe_str)))
  (pss_one (ps_set (i := 3) sc_Library___getitem__.nd rfl (Or.inl rfl) (pe_cmpR op_eq (pv 4) (pe_joined (PJ.cons pe_str (PJ.cons (pe_fmt (pv 1)) PJ.nil))) (nomark _))))
  pss_nil)
  (pss_one (ps_if (pt_val (pv 3))
  (pss_one (ps_expr (pe_bm PySem.F.plainAttrs_list PySem.F.slot_list_append PySem.F.type_list_append mt_append (pv 2) (pa_cons (pv 4) pa_nil))))
  pss_nil)))))
  (pss_one (ps_ret (pv 2))))))), ?_⟩
    have ers : ∀ {H1 : Hp}, isB (names R) v = false → Same H H1 → ErrQ EN (fsNF v) H1 E := fun e s1 => (ke e).same s1
    rcases ask with ⟨z, rfl, hl⟩ | ot
    · refine ⟨_, rfl, _, rfl, .inl ⟨z, rfl, hl, fun H1 s1 => ⟨_, rfl, ?_⟩⟩⟩
      have L1 := LA.same s1
      by_cases m : z ∈ names R
      · rw [wB_ofW (names_w LA.l LA.fo m)]
        refine iteF ⟨_, rfl, _, rfl, x, CL, dx, _, _, rfl, L1.o, LB.cL, LB.lb, rfl, bd, _, rfl, DGet.k (k := Sum.inr z) L1.bd, ?_⟩
        rw [fnB_get, decide_eq_true m]
        refine ⟨_, rfl, iteF ?_⟩
        refine ⟨(by show 0 ≤ sizeLine; decide), fun lf nlf => ?_⟩
        have s2 := s1.trans (Same.new (o := .lst []) nlf)
        have hlf : upd H1 lf (.lst []) lf = some (.lst []) := upd_same
        have nlf0 : H lf = none := s1.free nlf
        generalize upd H1 lf (.lst []) = H2 at s2 hlf ⊢
        have L2 := LA.same s2
        refine ⟨_, rfl, x, CL, dx, _, _, rfl, L2.o, LB.cL, LB.lt, rfl, ⟨_, rfl⟩, _, _, rfl, rfl, by decide +kernel, big (by omega), fun ll nll => ?_⟩
        rw [split_rows neL ro]
        have s3 := s2.trans (Same.new (o := .lst ((L.map fun p => rowT p.1 p.2).map V.str)) nll)
        have hll : upd H2 ll (.lst ((L.map fun p => rowT p.1 p.2).map V.str)) ll = some (.lst ((L.map fun p => rowT p.1 p.2).map V.str)) := upd_same
        have hlf3 := (Same.new (o := .lst ((L.map fun p => rowT p.1 p.2).map V.str)) nll) _ _ hlf
        have lll : ll ≠ lf := (ne_of_none hlf nll).symm
        generalize upd H2 ll (.lst ((L.map fun p => rowT p.1 p.2).map V.str)) = H3 at s3 hll hlf3 ⊢
        refine ⟨ll, rfl, ⟨_, SqL.of hll⟩, ?_⟩
        refine for_list (K := K) (a := ll) (xs := (L.map fun p => rowT p.1 p.2).map V.str) (fun i σ' G => ∃ z4 : Option V, σ' = [some (.ref x), some (.str z), some (.ref lf), some (.bl ((L.take i).foldl (inS z) false)), z4] ∧ Kp [lf] H3 G ∧ G lf = some (.lst ((secs z false (L.take i)).map fun r => .str (rowT r.1 r.2)))) ⟨_, rfl, Kp.refl _ _, hlf3⟩ (fun i σ' G _ h => ?_) (fun i y σ' G hi h => ?_) (fun σ' G h => ?_)
        · obtain ⟨_, _, kG, _⟩ := h
          exact SqL.of (kG _ _ hll (by simpa using lll))
        · obtain ⟨z4, rfl, kG, hG⟩ := h
          rw [List.getElem?_map, List.getElem?_map] at hi
          cases ez : L[i]? with
          | none =>
            rw [ez] at hi
            cases hi
          | some p =>
            rw [ez] at hi
            cases hi
            have rp := ro p (List.mem_of_getElem? ez)
            have tk : L.take (i + 1) = L.take i ++ [p] := by
              rw [List.take_add_one, ez]
              rfl
            rw [tk, List.foldl_append, secs_snoc]
            show Evl.tCut _ _ _ _ _
            refine ⟨fun σ' G' => σ' = [some (.ref x), some (.str z), some (.ref lf), some (.bl (inS z ((L.take i).foldl (inS z) false) p)), some (.str (rowT p.1 p.2))] ∧ G' = G, ?_, ?_⟩
            · refine ⟨_, rfl, ⟨_, rfl⟩, _, _, rfl, rfl, ?_⟩
              rw [starts_sp rp]
              refine ⟨_, rfl, ?_⟩
              by_cases c : p.1 = 0
              · have ei : inS z ((L.take i).foldl (inS z) false) p = decide (p.2 = [Str.ofString "function", z]) := by
                  unfold inS
                  rw [if_pos c]
                rw [show decide (p.1 ≠ 0) = false from decide_eq_false (fun h => h c)]
                have l9 : (Str.ofString "function ").length = 9 := by decide +kernel
                have lz := len_tl z
                have e0 : Str.empty ++ Str.ofString "function " = Str.ofString "function " := by decide +kernel
                refine iteT ⟨_, rfl, _, rfl, (by rw [e0]; exact big (by omega)), _, rfl, .inl ⟨z, rfl, big (by omega), _, rfl, (by rw [e0, len_app]; exact big (by omega)), rfl, ?_⟩⟩
                refine ⟨?_, rfl⟩
                rw [ei, e0, fun_row]
                have : decide (V.str (rowT p.1 p.2) = V.str (rowT 0 [Str.ofString "function", z])) = decide (p.2 = [Str.ofString "function", z]) := by
                  rw [Bool.eq_iff_iff, decide_eq_true_iff, decide_eq_true_iff, V.str.injEq, row_is rp]
                  exact ⟨fun h => by rw [h], fun h => Prod.ext c h⟩
                rw [← this]
                rfl
              · have ei : inS z ((L.take i).foldl (inS z) false) p = (L.take i).foldl (inS z) false := by
                  unfold inS
                  rw [if_neg c]
                rw [show decide (p.1 ≠ 0) = true from decide_eq_true c]
                refine iteF ⟨?_, rfl⟩
                rw [ei]
                rfl
            · rintro σ' G' ⟨rfl, rfl⟩
              refine ⟨_, rfl, _, rfl, ?_⟩
              cases e : inS z ((L.take i).foldl (inS z) false) p with
              | true =>
                refine iteT ?_
                have := secs_le z (L.take i) false
                rw [List.length_take] at this
                refine ⟨_, rfl, .inl ⟨rfl, _, SqL.of hG⟩, _, rfl, lf, _, _, rfl, rfl, hG, small1000 (by rw [List.length_map]; omega), some (.str (rowT p.1 p.2)), ?_, kG.mutAt (by simp), ?_⟩
                · show _ = [some (V.ref x), some (V.str z), some (V.ref lf), some (V.bl (inS z ((L.take i).foldl (inS z) false) p)), _]
                  rw [e]
                · rw [upd_same, List.map_append]
                  rfl
              | false =>
                refine iteF ⟨some (.str (rowT p.1 p.2)), ?_, kG, ?_⟩
                · show _ = [some (V.ref x), some (V.str z), some (V.ref lf), some (V.bl (inS z ((L.take i).foldl (inS z) false) p)), _]
                  rw [e]
                · rw [hG]
                  simp
        · obtain ⟨z4, rfl, kG, hG⟩ := h
          rw [List.length_map, List.length_map, List.take_length] at hG
          refine ⟨_, rfl, kk z rfl m _ lf (fun y u e => kG _ _ (s3 _ _ e) (by
            rw [List.mem_singleton]
            exact ne_of_none e nlf0)) nlf0 hG⟩
      · cases wz : wB z with
        | true =>
          refine iteF ⟨_, rfl, _, rfl, x, CL, dx, _, _, rfl, L1.o, LB.cL, LB.lb, rfl, bd, _, rfl, DGet.k (k := Sum.inr z) L1.bd, ?_⟩
          rw [fnB_get, decide_eq_false m]
          exact ⟨_, rfl, iteT ⟨_, rfl, mke _ rfl fun x hx => ke (decide_eq_false m) x _ (s1.trans (Same.new hx)) upd_same⟩⟩
        | false => exact iteT ⟨_, rfl, mke _ rfl fun x hx => ke (decide_eq_false m) x _ (s1.trans (Same.new hx)) upd_same⟩
    · refine ⟨_, rfl, _, rfl, .inr ⟨ot, fun H1 s1 => ⟨_, rfl, iteT ⟨_, rfl, mke _ rfl fun x hx => ke (ot.no _) x _ (s1.trans (Same.new hx)) upd_same⟩⟩⟩⟩
end
end IC
namespace IC
open PySem L2 TL PyProof.Rows
theorem tr_map {R : List LR} {L : List (Nat × List Str)} (e : R.map (fun r => r.ws) = L.map (·.2)) (f : List Str → Bool) (g : List Str → Str) : (R.filter fun r => f r.ws).map (fun r => g r.ws) = (L.filter fun p => f p.2).map fun p => g p.2 := by
  have h := congrArg (fun l => (l.filter f).map g) e
  have h1 : ((R.map fun r => r.ws).filter f).map g = (R.filter fun r => f r.ws).map (fun r => g r.ws) := by
    rw [List.filter_map, List.map_map]
    rfl
  have h2 : ((L.map (·.2)).filter f).map g = (L.filter fun p => f p.2).map fun p => g p.2 := by
    rw [List.filter_map, List.map_map]
    rfl
  rw [← h1, ← h2]
  exact h
def fNm (L : List Row) : List Str := (L.filter fun p => decide (w0 p.2 = Str.ofString "function")).map fun p => w1 p.2
theorem names_eq {R : List LR} {L : List Row} (e : R.map (fun r => r.ws) = L.map (·.2)) : names R = fNm L := tr_map e (fun ws => decide (w0 ws = Str.ofString "function")) w1
/-- where the headers of functions stand -/
def fpos : Nat → List Row → List Nat
  | _, [] => []
  | o, p :: L => (if p.1 = 0 then [o] else []) ++ fpos (o + 1) L
theorem fpos_snoc (p : Row) : ∀ (L : List Row) (o : Nat), fpos o (L ++ [p]) = fpos o L ++ if p.1 = 0 then [o + L.length] else []
  | [], o => by
    show (if p.1 = 0 then [o] else []) ++ [] = [] ++ if p.1 = 0 then [o + 0] else []
    rw [List.append_nil]
    rfl
  | q :: L, o => by
    show _ ++ fpos (o + 1) (L ++ [p]) = (_ ++ fpos (o + 1) L) ++ _
    rw [fpos_snoc p L (o + 1), List.append_assoc, List.length_cons, show o + 1 + L.length = o + (L.length + 1) by omega]
def offs : Nat → List (Row × List Row) → List Nat
  | _, [] => []
  | o, s :: S => o :: offs (o + 1 + s.2.length) S
theorem fpos_offs : ∀ (L : List Row) (o : Nat), fpos o L = offs (o + (splitF L).1.length) (splitF L).2
  | [], _ => rfl
  | p :: L, o => by
    show (if p.1 = 0 then [o] else []) ++ fpos (o + 1) L = _
    rw [fpos_offs L (o + 1), splitF_cons]
    by_cases h : p.1 = 0
    · rw [if_pos h, if_pos h]
      show [o] ++ _ = (o + 0) :: offs (o + 0 + 1 + (splitF L).1.length) (splitF L).2
      rfl
    · rw [if_neg h, if_neg h]
      show [] ++ _ = offs (o + ((splitF L).1.length + 1)) (splitF L).2
      rw [List.nil_append, show o + 1 + (splitF L).1.length = o + ((splitF L).1.length + 1) by omega]
theorem offs_len : ∀ (S : List (Row × List Row)) (o : Nat), (offs o S).length = S.length
  | [], _ => rfl
  | s :: S, o => by
    show (offs _ S).length + 1 = _
    rw [offs_len S, List.length_cons]
theorem offs_at : ∀ (S : List (Row × List Row)) (o k : Nat), k ≤ S.length → (offs o S ++ [o + (joinF S).length])[k]? = some (o + (joinF (S.take k)).length)
  | [], o, k, h => by
    have : k = 0 := by simpa using h
    rw [this]
    rfl
  | s :: S, o, 0, _ => by
    rw [List.take_zero]
    rfl
  | s :: S, o, k + 1, h => by
    have ih := offs_at S (o + 1 + s.2.length) k (by simpa using h)
    have j1 : ∀ T : List (Row × List Row), (joinF (s :: T)).length = 1 + s.2.length + (joinF T).length := fun T => by
      unfold joinF
      rw [List.flatMap_cons, List.length_append, List.length_cons]
      omega
    rw [List.take_succ_cons, j1, j1]
    show (offs (o + 1 + s.2.length) S ++ [o + (1 + s.2.length + (joinF S).length)])[k]? = _
    rw [show o + (1 + s.2.length + (joinF S).length) = o + 1 + s.2.length + (joinF S).length by omega, ih]
    congr 1
    omega
/-- the rows by the k-th section -/
theorem L_at {L : List Row} {k : Nat} {s : Row × List Row} (hk : (splitF L).2[k]? = some s) : ∃ r, L = ((splitF L).1 ++ joinF ((splitF L).2.take k)) ++ ((s.1 :: s.2) ++ r) ∧ joinF ((splitF L).2.take (k + 1)) = joinF ((splitF L).2.take k) ++ (s.1 :: s.2) := by
  have e := splitF_eq L
  have lt := (List.getElem?_eq_some_iff.mp hk).1
  have hs := (List.getElem?_eq_some_iff.mp hk).2
  refine ⟨joinF ((splitF L).2.drop (k + 1)), ?_, ?_⟩
  · have e2 : (splitF L).2 = (splitF L).2.take k ++ s :: (splitF L).2.drop (k + 1) := by
      rw [← hs, ← List.drop_eq_getElem_cons lt, List.take_append_drop]
    have e3 : joinF (splitF L).2 = joinF ((splitF L).2.take k) ++ ((s.1 :: s.2) ++ joinF ((splitF L).2.drop (k + 1))) := by
      refine (congrArg joinF e2).trans ?_
      unfold joinF
      rw [List.flatMap_append, List.flatMap_cons]
    rw [List.append_assoc, ← e3]
    exact e
  · rw [List.take_add_one, hk]
    unfold joinF
    rw [List.flatMap_append]
    simp
theorem fnm_sec {L : List Row} (ro : ∀ p ∈ L, RowOk p.1 p.2) {z : Str} : z ∈ fNm L ↔ ∃ s ∈ (splitF L).2, s.1 = (0, [Str.ofString "function", z]) := by
  have f1 := splitF_fst L
  unfold fNm
  constructor
  · intro h
    obtain ⟨p, hp, rfl⟩ := List.mem_map.mp h
    obtain ⟨hp, hw⟩ := List.mem_filter.mp hp
    have hw := of_decide_eq_true hw
    have p0 : p.1 = 0 := Classical.byContradiction fun c => nof_of (ro p hp) c hw
    obtain ⟨w, _, e⟩ := frow_of (ro p hp) p0
    have : p ∈ (splitF L).2.map (·.1) := by
      rw [f1]
      exact List.mem_filter.mpr ⟨hp, decide_eq_true p0⟩
    obtain ⟨s, hs, e2⟩ := List.mem_map.mp this
    refine ⟨s, hs, ?_⟩
    rw [e2]
    exact Prod.ext p0 (by rw [e]; rfl)
  · rintro ⟨s, hs, e⟩
    have : s.1 ∈ L.filter fun p => decide (p.1 = 0) := by
      rw [← f1]
      exact List.mem_map_of_mem (f := (·.1)) hs
    obtain ⟨m, _⟩ := List.mem_filter.mp this
    refine List.mem_map.mpr ⟨s.1, List.mem_filter.mpr ⟨m, ?_⟩, ?_⟩
    · rw [e]
      exact decide_eq_true rfl
    · rw [e]
      rfl
theorem sec_nodup {L : List Row} (ro : ∀ p ∈ L, RowOk p.1 p.2) (nd : (fNm L).Nodup) : ((splitF L).2.map (·.1)).Nodup := by
  rw [splitF_fst]
  have e : (L.filter fun p => decide (p.1 = 0)) = L.filter fun p => decide (w0 p.2 = Str.ofString "function") := by
    refine List.filter_congr fun p hp => ?_
    rw [Bool.eq_iff_iff, decide_eq_true_iff, decide_eq_true_iff]
    constructor
    · intro h
      obtain ⟨w, _, e⟩ := frow_of (ro p hp) h
      rw [e]
      rfl
    · exact fun h => Classical.byContradiction fun c => nof_of (ro p hp) c h
  rw [e]
  unfold fNm at nd
  exact List.Pairwise.of_map _ (fun a b h e => h (by rw [e])) nd
end IC
namespace IC
open PySem L2 TL PyProof.Rows
def spDue (K : PySem.W.Frag) : Sp := fun vs H Q _ => ∃ (rl : Addr) (L : List Row) (v : V), vs = [.ref rl, v] ∧ H rl = some (.lst (L.map fun r => .str (rowT r.1 r.2))) ∧ (∀ p ∈ L, RowOk p.1 p.2) ∧ L.length ≤ 100 ∧ (fNm L).Nodup ∧ Ask K H v ∧
  (∀ z, v = .str z → z ∈ fNm L → ∀ (H' : Hp) (l : Addr), Same H H' → H l = none → H' l = some (.lst ((secs z false L).map fun r => .str (rowT r.1 r.2))) → Q (.ref l) H') ∧ (isB (fNm L) v = false → ∀ (H' : Hp) (t : Addr), Same H H' → H' t = some (.tup [.str "none", v]) → Q (.ref t) H')
theorem tl_cut9 (z : Str) : tl (cutS z none (some 9)) = (tl z).take 9 := by
  have h1 : HT.sIx z.length z.length (some ((9 : Nat) : Int)) = min 9 z.length := HT.sIx_nat _ _ _
  show ((z.cps.toList.drop (HT.sIx z.length 0 none)).take (HT.sIx z.length z.length (some ((9 : Nat) : Int)) - HT.sIx z.length 0 none)).toArray.toList = _
  rw [h1, HT.sIx_none, List.drop_zero, Nat.sub_zero]
  have hl : (tl z).length = z.length := by rw [len_tl]
  show List.take (min 9 z.length) (tl z) = _
  by_cases h : 9 ≤ z.length
  · rw [Nat.min_eq_left h]
  · rw [List.take_of_length_le (by omega), List.take_of_length_le (by omega)]
theorem cut9 {p : Row} (ro : RowOk p.1 p.2) : cutS (rowT p.1 p.2) none (some 9) = Str.ofString "function " ↔ p.1 = 0 := by
  have e : tl (Str.ofString "function ") = [102, 117, 110, 99, 116, 105, 111, 110, 32] := by decide +kernel
  constructor
  · intro h
    refine Classical.byContradiction fun c => ?_
    obtain ⟨k, hk⟩ : ∃ k, p.1 = k + 1 := ⟨p.1 - 1, by omega⟩
    have := congrArg tl h
    rw [tl_cut9, tl_row, hk, show 2 * (k + 1) = 2 * k + 1 + 1 by omega, List.replicate_succ, e] at this
    exact absurd (List.cons.inj this).1 (by decide)
  · intro h
    obtain ⟨w, _, e2⟩ := frow_of ro h
    refine str_ext ?_
    rw [tl_cut9, h, e2, tl_row0, e]
    rfl
section
variable {P : Program} {w : World} {K : PySem.W.Frag} {mg : Str → Option Value} {base : Heap} {c : LC} {CL EN : Addr}
theorem ok_due {f : Addr} {fd : FuncData} (F : Fun K "_law_due" "_law_due" s_law_due f fd) (T : Bn mg) : FnOk P w K mg base CX0 1 f fd ["rows", "name"] (spDue K) := by
  refine F.ok sc_law_due (fun vs H Q E h => ?_) (fun cdv A outer s H vs Q E hr h => ?_)
  · obtain ⟨rl, L, v, rfl, _⟩ := h
    rfl
  · obtain ⟨rl, L, v, rfl, hrl, ro, few, nd, ask, kk, kn⟩ := h
    refine ⟨_, (pss_cons (ps_set (i := 2) sc_law_due.nd rfl (Or.inl rfl) (pe_op op_cat (pe_lc (own := [("k", 3)]) (g := gName 3) rfl sc_law_due.nd (pi_range1 rfl T.range (pa_cons (pe_callB call_len_seq (by rfl) T.len PySem.boot_len (pa_cons (pv 0) pa_nil)) pa_nil)) (blkOk_by (N := ["rows", "name", "starts", "k"]) (sc := defScope s_law_due) (by decide +kernel)) (fun _ _ _ _ _ => pg_name (i := 3) sc_law_due.nd rfl (Or.inl rfl)) (fun _ _ _ _ _ => pts_one (pt_cmpR op_eq (pe_slice sl_str (pe_ix (show IxR _ (rIxL K) from ix_list) (pv 0) (pv 3) (fun _ _ => rfl)) po_none (po_some pe_int)) pe_str (nomark _))) (fun _ _ _ _ _ => (pv 3))) (pe_lst (pa_cons (pe_callB call_len_seq (by rfl) T.len PySem.boot_len (pa_cons (pv 0) pa_nil)) pa_nil))))
  (pss_cons (ps_for PassesOwn.never rfl (pi_range1 rfl T.range (pa_cons (pe_op op_sub (pe_callB call_len_seq (by rfl) T.len PySem.boot_len (pa_cons (pv 2) pa_nil)) pe_int) pa_nil)) (pg_name (i := 3) sc_law_due.nd rfl (Or.inl rfl))
  (pss_one (ps_if (PW.pt (pw_and (pt_val (pe_callB call_isi (by rfl) T.isi PyProof.Rows.boot_isinstance (pa_cons (pv 1) (pa_cons (pe_bltn (v := .ty "str") (by rfl) T.str (by decide +kernel) rfl) pa_nil)))) (pw_and1 (pt_cmpR op_eq (pe_ix ix_list (pv 0) (pe_ix ix_list (pv 2) (pv 3) (fun _ _ => rfl)) (fun _ _ => rfl)) (pe_op op_add_str pe_str (pv 1)) (nomark _)))))
  (pss_one (ps_ret (pe_slice sl_list (pv 0) (po_some (pe_ix ix_list (pv 2) (pv 3) (fun _ _ => rfl))) (po_some (pe_ix ix_list (pv 2) (pe_op op_add (pv 3) pe_int) (fun _ _ => rfl))))))
  pss_nil)))
  (pss_one (ps_ret (pe_tup (pa_cons pe_str (pa_cons (pv 1) pa_nil))))))), ?_⟩
    refine ⟨_, rfl, rl, _, rfl, .inl (SqL.of hrl), ?_⟩
    rw [List.length_map]
    refine ⟨_, rfl, by omega, by omega, fun D nD => ?_⟩
    refine lc_range (lo := 0) (n := (L.length : Int).toNat) (fun i G => Same H G ∧ G D = some (.lst ((fpos 0 (L.take i)).map fun k : Nat => V.int k))) ⟨Same.new nD, upd_same⟩ (fun i G hi h => ?_) (fun G1 h => ?_)
    · obtain ⟨s1, hD⟩ := h
      have hi : i < L.length := by omega
      have ez : L[i]? = some L[i] := List.getElem?_eq_getElem hi
      have rp := ro L[i] (List.getElem_mem hi)
      have tk : L.take (i + 1) = L.take i ++ [L[i]] := by
        rw [List.take_add_one, ez]
        rfl
      have fl : (fpos 0 (L.take i)).length ≤ 100 := by
        rw [fpos_offs, offs_len]
        have := congrArg List.length (splitF_fst (L.take i))
        have l2 := List.length_filter_le (fun p : Row => decide (p.1 = 0)) (L.take i)
        rw [List.length_map] at this
        rw [List.length_take] at l2
        omega
      have r220 : (rowT L[i].1 L[i].2).length ≤ 6000 := by
        have l8 := sum_le8 L[i].2 fun z hz => by rw [len_tl]; exact (rp.1.2.1 z hz).2.1
        have jl := join_len (Str.ofString " ") L[i].2
        have e1 : (Str.ofString " ").length = 1 := by decide +kernel
        have l20 := rp.1.2.2
        have n20 := rp.2.1
        have rlen := row_len L[i].1 L[i].2
        rw [e1] at jl
        omega
      rw [tk, fpos_snoc]
      refine ⟨by simp [wipe], ?_⟩
      refine ⟨_, rfl, _, rfl, rl, _, i, _, rfl, (by rw [Int.zero_add]), SqL.of (s1 _ _ hrl), atI_nat (by rw [List.getElem?_map, ez]; rfl), _, rfl, _, rfl, big (by omega), rfl, _, rfl, iteS (fun c => ?_) (fun c => ?_)⟩
      · have c := (cut9 rp).mp c
        rw [if_pos c]
        refine ⟨_, rfl, _, hD, small1000 (by rw [List.length_map]; omega), fun y u e => ?_, ?_⟩
        · rw [upd_ne (ne_of_none e nD)]
          exact s1 _ _ e
        · rw [upd_same, List.map_append, List.length_take, Nat.min_eq_left (by omega)]
          show _ = some (HO.lst (_ ++ [V.int ((0 + i : Nat) : Int)]))
          rw [Nat.zero_add, Int.zero_add]
      · have c : ¬ L[i].1 = 0 := fun h => c ((cut9 rp).mpr h)
        rw [if_neg c, List.append_nil]
        exact ⟨s1, hD⟩
    obtain ⟨s1, hD⟩ := h
    rw [Int.toNat_natCast, List.take_length] at hD
    have flen : (fpos 0 L).length = (splitF L).2.length := by rw [fpos_offs, offs_len]
    have slen : (splitF L).2.length ≤ 100 := by
      have := congrArg List.length (splitF_fst L)
      have l2 := List.length_filter_le (fun p : Row => decide (p.1 = 0)) L
      rw [List.length_map] at this
      omega
    have s2 := s1
    refine ⟨_, rfl, rl, _, rfl, .inl (SqL.of (s1 _ _ hrl)), (by show 1 ≤ sizeLine; decide), fun q nq => ?_⟩
    rw [List.length_map]
    have s3 := Same.new (o := .lst [.int L.length]) nq
    refine ⟨D, q, _, _, rfl, rfl, s3 _ _ hD, upd_same, Nat.le_of_lt (small1000 (by rw [List.length_map]; show (fpos 0 L).length + 1 ≤ 1000; omega)), fun st nst => ?_⟩
    have e4 : ((fpos 0 L).map fun k : Nat => V.int k) ++ [V.int L.length] = (fpos 0 L ++ [L.length]).map fun k : Nat => V.int k := by rw [List.map_append]; rfl
    rw [e4]
    have s4 := s3.trans (Same.new (o := .lst ((fpos 0 L ++ [L.length]).map fun k : Nat => V.int k)) nst)
    have hst : upd (upd G1 q (.lst [.int L.length])) st (.lst ((fpos 0 L ++ [L.length]).map fun k : Nat => V.int k)) st = some (.lst ((fpos 0 L ++ [L.length]).map fun k : Nat => V.int k)) := upd_same
    have s04 := s1.trans s4
    generalize upd (upd G1 q (.lst [.int L.length])) st (.lst ((fpos 0 L ++ [L.length]).map fun k : Nat => V.int k)) = G4 at hst s04 ⊢
    have stl : ((fpos 0 L ++ [L.length]).map fun k : Nat => V.int k).length = (splitF L).2.length + 1 := by
      rw [List.length_map, List.length_append, flen]
      rfl
    have st_at : ∀ k, k ≤ (splitF L).2.length → ((fpos 0 L ++ [L.length]).map fun k : Nat => V.int k)[k]? = some (.int (((splitF L).1 ++ joinF ((splitF L).2.take k)).length : Nat)) := fun k hk => by
      have e := splitF_eq L
      have lL : L.length = 0 + (splitF L).1.length + (joinF (splitF L).2).length := by
        have := congrArg List.length e
        rw [List.length_append] at this
        omega
      rw [List.getElem?_map, fpos_offs]
      have := offs_at (splitF L).2 (0 + (splitF L).1.length) k hk
      rw [← lL] at this
      rw [this, List.length_append]
      show some (V.int _) = some (V.int _)
      rw [Nat.zero_add]
    refine ⟨_, rfl, st, _, rfl, .inl (SqL.of hst), _, _, rfl, rfl, (splitF L).2.length, (by rw [stl]; push_cast; simp), by omega, by omega, for_range (lo := 0) (n := ((splitF L).2.length : Int).toNat) (fun i σ' G => (∃ z3, σ' = [some (.ref rl), some v, some (.ref st), z3]) ∧ G = G4 ∧ ∀ z, v = .str z → ∀ j < i, ∀ s, (splitF L).2[j]? = some s → s.1 ≠ (0, [Str.ofString "function", z])) ⟨⟨_, rfl⟩, rfl, fun _ _ j hj => absurd hj (Nat.not_lt_zero _)⟩ ?_ ?_⟩
    · rintro i σ' G hi ⟨⟨z3, rfl⟩, rfl, old⟩
      have hi : i < (splitF L).2.length := by omega
      have ez : (splitF L).2[i]? = some (splitF L).2[i] := List.getElem?_eq_getElem hi
      obtain ⟨r, eL, eJ⟩ := L_at ez
      rcases ask with ⟨z, rfl, hl⟩ | ot
      · refine ⟨_, rfl, .str z, .ty "str", .type "str", .type "str", true, rfl, .ty "str", .base (.str _), kit_ty (by decide +kernel), true, rfl, iteT ?_⟩
        have nd' := sec_nodup ro nd
        have off_at : L[((splitF L).1 ++ joinF ((splitF L).2.take i)).length]? = some (splitF L).2[i].1 := by
          have : ((splitF L).1 ++ joinF ((splitF L).2.take i) ++ (((splitF L).2[i].1 :: (splitF L).2[i].2) ++ r))[((splitF L).1 ++ joinF ((splitF L).2.take i)).length]? = some (splitF L).2[i].1 := by
            rw [List.getElem?_append_right (Nat.le_refl _), Nat.sub_self]
            rfl
          rw [← eL] at this
          exact this
        have rs := ro (splitF L).2[i].1 (List.mem_of_getElem? off_at)
        have l9 : (Str.ofString "function ").length = 9 := by decide +kernel
        have lz := len_tl z
        refine ⟨_, rfl, _, rfl, _, rfl, st, _, i, _, rfl, (by rw [Int.zero_add]), SqL.of hst, atI_nat (st_at i (by omega)), rl, _, _, _, rfl, rfl, SqL.of (s04 _ _ hrl), atI_nat (by rw [List.getElem?_map, off_at]; rfl), _, rfl, _, _, rfl, rfl, big (by omega), rfl, _, rfl, iteS (fun c => ?_) (fun c => ?_)⟩
        · rw [fun_row] at c
          have c := (row_is rs).mp c
          have so := secs_one nd' ez c
          have mem : z ∈ fNm L := (fnm_sec ro).mpr ⟨_, List.getElem_mem hi, c⟩
          refine ⟨_, rfl, _, rfl, _, rfl, st, _, i, _, rfl, (by rw [Int.zero_add]), SqL.of hst, atI_nat (st_at i (by omega)), _, rfl, _, rfl, _, rfl, _, _, rfl, rfl, st, _, ((i + 1 : Nat) : Int), _, rfl, (by push_cast; rw [Int.zero_add]), SqL.of hst, atI_nat (st_at (i + 1) (by omega)), _, rfl, rl, _, rfl, SqL.of (s04 _ _ hrl), fun l nl => ?_⟩
          refine kk z rfl mem _ l (s04.trans (Same.new nl)) (s04.free nl) ?_
          rw [upd_same, cutV_M, ← List.map_drop, ← List.map_take, so, eJ]
          have e1 : (L.drop ((splitF L).1 ++ joinF ((splitF L).2.take i)).length).take (((splitF L).1 ++ (joinF ((splitF L).2.take i) ++ ((splitF L).2[i].1 :: (splitF L).2[i].2))).length - ((splitF L).1 ++ joinF ((splitF L).2.take i)).length) = (splitF L).2[i].1 :: (splitF L).2[i].2 := by
            have d1 : ∀ (A B : List Row) (n : Nat), n = B.length → ((A ++ (B ++ r)).drop A.length).take n = B := fun A B n h => by
              rw [List.drop_left, h, List.take_left]
            have := d1 ((splitF L).1 ++ joinF ((splitF L).2.take i)) ((splitF L).2[i].1 :: (splitF L).2[i].2) (((splitF L).1 ++ (joinF ((splitF L).2.take i) ++ ((splitF L).2[i].1 :: (splitF L).2[i].2))).length - ((splitF L).1 ++ joinF ((splitF L).2.take i)).length) (by simp only [List.length_append]; omega)
            rw [← eL] at this
            exact this
          rw [e1]
        · refine ⟨⟨_, rfl⟩, rfl, fun z' hz' j hj s hs => ?_⟩
          rcases Nat.lt_or_ge j i with h | h
          · exact old z' hz' j h s hs
          · have : j = i := by omega
            rw [this, ez] at hs
            cases hs
            cases hz'
            intro h
            refine c ?_
            rw [fun_row]
            exact (row_is rs).mpr h
      · obtain ⟨T', ty, kb⟩ := ot.mv s04
        refine ⟨_, rfl, v, .ty "str", .type T', .type "str", false, rfl, .ty "str", ty, kit_ty kb, false, rfl, iteF ⟨⟨_, rfl⟩, rfl, fun z' hz' => ?_⟩⟩
        rw [hz'] at ot
        exact ot.noStr.elim
    · rintro σ' G ⟨⟨z3, rfl⟩, rfl, old⟩
      rw [Int.toNat_natCast] at old
      have no : isB (fNm L) v = false := by
        cases v with
        | str z =>
          refine decide_eq_false fun m => ?_
          obtain ⟨s, hs, e⟩ := (fnm_sec ro).mp m
          obtain ⟨j, hj⟩ := List.getElem?_of_mem hs
          exact old z rfl j (List.getElem?_eq_some_iff.mp hj).1 s hj e
        | _ => rfl
      exact ⟨_, rfl, (by show 2 ≤ sizeLine; decide), fun t nt => kn no _ t (s04.trans (Same.new nt)) upd_same⟩
end
end IC
namespace IC
open PySem L2 TL PyProof.Rows
structure NFx (K : PySem.W.Frag) (mg : Str → Option Value) (EN : Addr) : Prop where
  gN : mg "NoFunction" = some (.ref EN)
  xN : XfC K EN
  nN : PySem.W.findIn K (.ref EN) "name" = some none
  nn : PySem.W.exmOne K (.ref EN) (.ref EN) = some true
/-- _law_lines: the rows of a function, or ('none', the name) -/
def spLns (K : PySem.W.Frag) (c : LC) (CL : Addr) : Sp := fun vs H Q _ => ∃ (R : List LR) (x dx : Addr) (L : List Row) (rl bd sl : Addr) (v : V), vs = [.ref x, v] ∧ LbAt c CL H R x dx (rowsT L) rl bd sl ∧ (∀ p ∈ L, RowOk p.1 p.2) ∧ L ≠ [] ∧ L.length ≤ 100 ∧ (rowsT L).length ≤ 6000 ∧ Ask K H v ∧
  (∀ z, v = .str z → z ∈ names R → ∀ (H' : Hp) (l : Addr), Same H H' → H l = none → H' l = some (.lst ((secs z false L).map fun r => .str (rowT r.1 r.2))) → Q (.ref l) H') ∧ (isB (names R) v = false → ∀ (H' : Hp) (t : Addr), Same H H' → H' t = some (.tup [.str "none", v]) → Q (.ref t) H')
/-- a thing as data -/
structure Dat (K : PySem.W.Frag) (H : Hp) (v : V) (d : PyData) : Prop where
  dp : ∀ H', Same H H' → Dp K H' v d
  sh : SeqAt.shaped (.tuple [.str "none", d]) = true
  ev : PyData.eqv d d = true
  ask : Ask K H v
theorem Dat.same {K : PySem.W.Frag} {H H' : Hp} {v : V} {d : PyData} (h : Dat K H v d) (s : Same H H') : Dat K H' v d := ⟨fun H2 s2 => h.dp H2 (s.trans s2), h.sh, h.ev, h.ask.mv s⟩
def spAsked (K : PySem.W.Frag) (c : LC) (CL : Addr) : Sp := fun vs H Q _ => ∃ (R : List LR) (x dx : Addr) (L : List Row) (rr bd sl rl : Addr) (v : V) (d : PyData) (sP : PSt), vs = [.ref x, .ref rl, v] ∧ LbAt c CL H R x dx (rowsT L) rr bd sl ∧ R.map (fun r => r.ws) = L.map (·.2) ∧ Lines L sP ∧ H rl = some (.lst (L.map fun r => .str (rowT r.1 r.2))) ∧ Dat K H v d ∧ ∀ H', Same H H' → Q (.bl true) H'
theorem okz_row {p : Row} (ro : RowOk p.1 p.2) : ∀ c ∈ tl (rowT p.1 p.2), Okc c := fun c hc => by
  rw [tl_row] at hc
  rcases List.mem_append.mp hc with m | m
  · have := List.eq_of_mem_replicate m
    unfold Okc
    omega
  · rw [tl_joinW] at m
    have : ∀ l : List (List Nat), c ∈ joinL [32] l → c = 32 ∨ ∃ x ∈ l, c ∈ x := by
      intro l
      induction l with
      | nil => intro m; cases m
      | cons a l ih =>
        intro m
        cases l with
        | nil => exact .inr ⟨a, List.mem_cons_self .., m⟩
        | cons b l =>
          have m : c ∈ a ++ [32] ++ joinL [32] (b :: l) := by simpa [joinL] using m
          rcases List.mem_append.mp m with m | m
          · rcases List.mem_append.mp m with m | m
            · exact .inr ⟨a, List.mem_cons_self .., m⟩
            · exact .inl (List.mem_singleton.mp m)
          · rcases ih m with h | ⟨x, hx, e⟩
            · exact .inl h
            · exact .inr ⟨x, List.mem_cons_of_mem _ hx, e⟩
    rcases this _ m with h | ⟨x, hx, e⟩
    · unfold Okc
      omega
    · obtain ⟨z, hz, rfl⟩ := List.mem_map.mp hx
      exact ((ro.1.2.1 z hz).2.2 c e).ok
theorem secs_sub (z : Str) : ∀ (L : List Row) (b : Bool), ∀ p ∈ secs z b L, p ∈ L
  | [], _, p, h => h
  | q :: L, b, p, h => by
    rw [secs_cons] at h
    rcases List.mem_append.mp h with h | h
    · split at h
      · rw [List.mem_singleton.mp h]
        exact List.mem_cons_self ..
      · cases h
    · exact List.mem_cons_of_mem _ (secs_sub z L _ p h)
section
variable {P : Program} {w : World} {K : PySem.W.Frag} {mg : Str → Option Value} {base : Heap} {c : LC} {CL EN : Addr}
theorem ok_lns {f : Addr} {fd : FuncData} (F : Fun K "_law_lines" "_law_lines" s_law_lines f fd) (T : Bn mg) (NF : NFx K mg EN) (C_at : SpD P w K mg base (L2.CX P w) 4 CL "__getitem__" (spAtL K c CL EN)) : FnOk P w K mg base CX0 6 f fd ["library", "name"] (spLns K c CL) := by
  refine F.ok sc_law_lines (fun vs H Q E h => ?_) (fun cdv A outer s H vs Q E hr h => ?_)
  · obtain ⟨R, x, dx, L, rl, bd, sl, v, rfl, _⟩ := h
    rfl
  · obtain ⟨R, x, dx, L, rl, bd, sl, v, rfl, LA, ro, neL, few, len, ask, kk, kn⟩ := h
    refine ⟨_, (pss_cons (ps_try_cl rfl rfl sc_law_lines.nd takes0 (fun W pn xe tk _ => (pss_one (ps_set (i := 2) sc_law_lines.nd rfl (Or.inl rfl) (pe_ixD C_at hr (by first | decide | omega) tk (pv 0) (pv 1)))))
  (.nm (i := 3) rfl rfl ⟨rfl, by decide, .inl NF.gN⟩ (fun a oe cls d pn hz hf => (pss_one (ps_ret (pe_tup (pa_cons pe_str (pa_cons (pe_xf NF.xN NF.nN hz hf (pv 3)) pa_nil))))))
  .nil))
  (pss_one (ps_ret (pv 2)))), ?_⟩
    refine ⟨_, rfl, _, rfl, x, dx, _, rfl, LA.o, R, x, dx, L, rl, bd, sl, v, rfl, LA, ro, neL, few, len, ask, fun z hz hm H' l s1 nl hl => ?_, fun e y H3 s3 hy => ?_⟩
    · exact ⟨_, rfl, kk z hz hm H' l s1 nl hl⟩
    · refine ⟨true, NF.nn, fun _ a ha => ?_, (fun q => nomatch q)⟩
      exact ⟨_, rfl, rfl, rfl, y, _, v, rfl, hy, rfl, (by show 2 ≤ sizeLine; decide), fun t nt => kn e _ t (s3.trans (Same.new nt)) upd_same⟩
theorem ok_asked {f : Addr} {fd : FuncData} (F : Fun K "_law_asked" "_law_asked" s_law_asked f fd) (T : Bn mg) (D_law_due : Df P w K mg base 1 "_law_due" ["rows", "name"] (spDue K)) (D_law_lines : Df P w K mg base 6 "_law_lines" ["library", "name"] (spLns K c CL)) (C_in : SpD P w K mg base CX0 2 CL "__contains__" (spConL K c CL)) : FnOk P w K mg base CX0 7 f fd ["library", "lines", "thing"] (spAsked K c CL) := by
  refine F.ok sc_law_asked (fun vs H Q E h => ?_) (fun cdv A outer s H vs Q E hr h => ?_)
  · obtain ⟨R, x, dx, L, rr, bd, sl, rl, v, d, sP, rfl, _⟩ := h
    rfl
  · obtain ⟨R, x, dx, L, rr, bd, sl, rl, v, d, sP, rfl, LA, ws, ln, hrl, dat, kk⟩ := h
    refine ⟨_, (pss_cons (ps_set (i := 3) sc_law_asked.nd rfl (Or.inl rfl) (pe_df D_law_due hr (by first | decide | omega) rfl (pa_cons (pv 1) (pa_cons (pv 2) pa_nil))))
  (pss_cons (ps_set (i := 4) sc_law_asked.nd rfl (Or.inl rfl) (pe_df D_law_lines hr (by first | decide | omega) rfl (pa_cons (pv 0) (pa_cons (pv 2) pa_nil))))
  (pss_cons (ps_if (PW.pt (pw_or (pt_cmpR (op_neD hr.units) (pv 4) (pv 3) (nomark _)) (pw_or1 (pt_cmpR op_ne (pe_cmpR (op_inD C_in hr (by first | decide | omega)) (pv 2) (pv 0) (by rfl)) (pe_callB call_isi (by rfl) T.isi PyProof.Rows.boot_isinstance (pa_cons (pv 3) (pa_cons (pe_bltn (v := .ty "list") (by rfl) T.list (by decide +kernel) rfl) pa_nil))) (nomark _)))))
  (pss_one (ps_ret pe_bl))
  pss_nil)
  (pss_cons (ps_if (pt_val (pe_callB call_isi (by rfl) T.isi PyProof.Rows.boot_isinstance (pa_cons (pv 3) (pa_cons (pe_bltn (v := .ty "list") (by rfl) T.list (by decide +kernel) rfl) pa_nil))))
  (pss_cons (ps_if (pt_not (pt_val (pe_callB call_isi (by rfl) T.isi PyProof.Rows.boot_isinstance (pa_cons (pv 4) (pa_cons (pe_bltn (v := .ty "list") (by rfl) T.list (by decide +kernel) rfl) pa_nil)))))
  (pss_one (ps_ret pe_bl))
  pss_nil)
  (pss_one (ps_expr (pe_bm PySem.F.plainAttrs_list PySem.F.slot_list_append PySem.F.type_list_append mt_append (pv 4) (pa_cons pe_str pa_nil)))))
  pss_nil)
  (pss_one (ps_ret pe_bl)))))), ?_⟩
    have ro := ln.rd.ok
    have nd : (fNm L).Nodup := by
      rw [← names_eq ws]
      exact LA.nn
    refine ⟨_, rfl, _, rfl, rl, L, v, rfl, hrl, ro, ln.few, nd, dat.ask, fun z hz hm H1 l1 s1 nl1 hl1 => ?_, fun no H1 t1 s1 ht1 => ?_⟩
    · have hm' : z ∈ names R := by
        rw [names_eq ws]
        exact hm
      have L1 := LA.same s1
      have hB : isB (names R) v = true := by
        rw [hz]
        exact decide_eq_true hm'
      refine ⟨_, rfl, _, rfl, R, x, dx, L, rr, bd, sl, v, rfl, L1, ro, ln.ne, ln.few, ln.len, (dat.same s1).ask, fun z' hz' _ H2 l2 s2 nl2 hl2 => ?_, fun no => by rw [hB] at no; cases no⟩
      rw [hz] at hz'
      cases hz'
      have sl2 := secs_le z L false
      have fewL := ln.few
      have t1 : H1 l1 = some (.lst (((secs z false L).map fun r => rowT r.1 r.2).map V.str)) := by
        rw [hl1, List.map_map]
        rfl
      have t2 : H2 l2 = some (.lst (((secs z false L).map fun r => rowT r.1 r.2).map V.str)) := by
        rw [hl2, List.map_map]
        rfl
      have lt : ((secs z false L).map fun r => rowT r.1 r.2).length ≤ 100 := by
        rw [List.length_map]
        omega
      have sh : SeqAt.shaped (.list (((secs z false L).map fun r => rowT r.1 r.2).map PyData.str)) = true := shaped_strs _ fun y hy c hc => by
        obtain ⟨p, hp, rfl⟩ := List.mem_map.mp hy
        exact okz_row (ro p (secs_sub z L false p hp)) c hc
      generalize (secs z false L).map (fun r => rowT r.1 r.2) = ts at t1 t2 lt sh
      refine ⟨_, rfl, _, rfl, _, _, dpL t2, dpL (s2 _ _ t1), sh, sh, ?_⟩
      rw [eqvL, decide_eq_true rfl]
      refine ⟨_, rfl, iteF ?_⟩
      have s12 := s1.trans s2
      have L2 := LA.same s12
      refine ⟨_, rfl, _, rfl, x, dx, _, rfl, L2.o, R, x, dx, _, rr, bd, sl, v, rfl, L2, (dat.same s12).ask, fun H3 s3 => ⟨_, rfl, ?_⟩⟩
      rw [hB]
      have t13 := s3 _ _ (s2 _ _ t1)
      have t23 := s3 _ _ t2
      refine ⟨_, rfl, .ref l1, .ty "list", .type "list", .type "list", true, rfl, .ty "list", .base (.lst t13), kit_ty (by decide +kernel), rfl, _, rfl, iteF ?_⟩
      refine ⟨_, rfl, .ref l1, .ty "list", .type "list", .type "list", true, rfl, .ty "list", .base (.lst t13), kit_ty (by decide +kernel), true, rfl, iteT ?_⟩
      refine ⟨_, rfl, .ref l2, .ty "list", .type "list", .type "list", true, rfl, .ty "list", .base (.lst t23), kit_ty (by decide +kernel), true, rfl, iteF ?_⟩
      refine ⟨_, rfl, .inl ⟨rfl, _, SqL.of t23⟩, l2, _, _, rfl, rfl, t23, small1000 (by rw [List.length_map]; omega), ?_⟩
      refine kk _ fun y u e => ?_
      rw [upd_ne (ne_of_none (s1 _ _ e) nl2)]
      exact s3 _ _ (s2 _ _ (s1 _ _ e))
    · have no' : isB (names R) v = false := by
        rw [names_eq ws]
        exact no
      have L1 := LA.same s1
      refine ⟨_, rfl, _, rfl, R, x, dx, L, rr, bd, sl, v, rfl, L1, ro, ln.ne, ln.few, ln.len, (dat.same s1).ask, fun z' hz' hm' => ?_, fun _ H2 t2 s2 ht2 => ?_⟩
      · rw [hz'] at no'
        have := of_decide_eq_false no'
        exact absurd hm' this
      have s12 := s1.trans s2
      refine ⟨_, rfl, _, rfl, .tuple [.str "none", d], .tuple [.str "none", d], .tup (SqT.of ht2) (.cons (.str _) (.cons (dat.dp _ s12) .nil)), .tup (SqT.of (s2 _ _ ht1)) (.cons (.str _) (.cons (dat.dp _ s12) .nil)), dat.sh, dat.sh, ?_⟩
      have ev : PyData.eqv (.tuple [.str "none", d]) (.tuple [.str "none", d]) = true := by
        show ((Str.ofString "none" == Str.ofString "none") && (PyData.eqv d d && true)) = true
        rw [dat.ev]
        simp
      rw [ev]
      refine ⟨_, rfl, iteF ?_⟩
      have L2 := LA.same s12
      refine ⟨_, rfl, _, rfl, x, dx, _, rfl, L2.o, R, x, dx, _, rr, bd, sl, v, rfl, L2, (dat.same s12).ask, fun H3 s3 => ⟨_, rfl, ?_⟩⟩
      rw [no']
      have t13 := s3 _ _ (s2 _ _ ht1)
      refine ⟨_, rfl, .ref t1, .ty "list", .type "tuple", .type "list", false, rfl, .ty "list", .base (.tup t13), kit_ty (by decide +kernel), rfl, _, rfl, iteF ?_⟩
      refine ⟨_, rfl, .ref t1, .ty "list", .type "tuple", .type "list", false, rfl, .ty "list", .base (.tup t13), kit_ty (by decide +kernel), false, rfl, iteF ?_⟩
      exact kk _ (s12.trans s3)
end
end IC
namespace IC
open PySem L2 TL PyProof.Rows
/-- lists without texts -/
def Nst (H : Hp) (B : List Addr) : Prop := ∀ y ∈ B, ∃ xs, H y = some (.lst xs) ∧ ∀ z : Str, V.str z ∉ xs
theorem Nst.strs {H : Hp} {B : List Addr} (n : Nst H B) {y : Addr} {ws : List Str} (h : H y = some (.lst (ws.map V.str))) (ne : ws ≠ []) : y ∉ B := fun m => by
  obtain ⟨xs, e, hx⟩ := n y m
  rw [h] at e
  cases e
  obtain ⟨w, r, rfl⟩ := List.exists_cons_of_ne_nil ne
  exact hx w (by simp)
theorem Nst.other {H : Hp} {B : List Addr} (n : Nst H B) {y : Addr} {o : HO} (h : H y = some o) (ne : ∀ xs, o ≠ .lst xs) : y ∉ B := fun m => by
  obtain ⟨xs, e, hx⟩ := n y m
  rw [h] at e
  cases e
  exact ne _ rfl
theorem LbAt.keep {c : LC} {CL : Addr} {H H' : Hp} {B : List Addr} {R : List LR} {x dx : Addr} {tx : Str} {rl bd sl : Addr} (L : LbAt c CL H R x dx tx rl bd sl) (n : Nst H B) (f : (x ∉ B ∧ rl ∉ B ∧ bd ∉ B ∧ sl ∉ B) ∧ ∀ r ∈ R, r.b ∉ B ∧ (r.isS = true → r.h ∉ B)) (k : Kp B H H') : LbAt c CL H' R x dx tx rl bd sl :=
  ⟨k _ _ L.o f.1.1, k _ _ L.rl f.1.2.1, k _ _ L.bd f.1.2.2.1, k _ _ L.sl f.1.2.2.2,
   { L.l with
    w := fun r hr => k _ _ (L.l.w r hr) (n.strs (L.l.w r hr) (L.l.ne r hr).1)
    b := fun r hr => k _ _ (L.l.b r hr) (f.2 r hr).1
    s := fun r hr e => ⟨k _ _ (L.l.s r hr e).1 (n.other (L.l.s r hr e).1 nofun), k _ _ (L.l.s r hr e).2.1 (n.other (L.l.s r hr e).2.1 nofun), k _ _ (L.l.s r hr e).2.2 ((f.2 r hr).2 e)⟩
    x := fun r hr e => ⟨k _ _ (L.l.x r hr e).1 (n.other (L.l.x r hr e).1 nofun), k _ _ (L.l.x r hr e).2 (n.other (L.l.x r hr e).2 nofun)⟩ }, L.nn, L.fo⟩
end IC
namespace IC
open PySem L2 TL PyProof.Rows
/-- rows and their library -/
def Pr (c : LC) (CL : Addr) (H : Hp) (rl x : Addr) (L : List Row) : Prop := ∃ (dx rr bd sl : Addr) (R : List LR) (sP : PSt), H rl = some (.lst (L.map fun r => .str (rowT r.1 r.2))) ∧ LbAt c CL H R x dx (rowsT L) rr bd sl ∧ R.map (fun r => r.ws) = L.map (·.2) ∧ Lines L sP
theorem Pr.same {c : LC} {CL : Addr} {H H' : Hp} {rl x : Addr} {L : List Row} (h : Pr c CL H rl x L) (s : Same H H') : Pr c CL H' rl x L := by
  obtain ⟨dx, rr, bd, sl, R, sP, h1, h2, h3, h4⟩ := h
  exact ⟨dx, rr, bd, sl, R, sP, s _ _ h1, h2.same s, h3, h4⟩
theorem Pr.lbx {c : LC} {CL : Addr} {H : Hp} {rl x : Addr} {L : List Row} (h : Pr c CL H rl x L) : LbX CL H x (rowsT L) := by
  obtain ⟨dx, rr, bd, sl, R, sP, h1, h2, h3, h4⟩ := h
  exact ⟨dx, _, _, _, h2.o⟩
theorem row220 {n : Nat} {ws : List Str} (h : RowOk n ws) : (rowT n ws).length ≤ 220 := by
  have l8 := sum_le8 ws fun z hz => by rw [len_tl]; exact (h.1.2.1 z hz).2.1
  have jl := join_len (Str.ofString " ") ws
  have e1 : (Str.ofString " ").length = 1 := by decide +kernel
  have l20 := h.1.2.2
  have n20 := h.2.1
  have rlen := row_len n ws
  rw [e1] at jl
  omega
theorem join_fits {L : List Row} {s : PSt} (ln : Lines L s) : ((L.map fun r => rowT r.1 r.2).map (·.length)).sum + (L.map fun r => rowT r.1 r.2).length * (Str.ofString "\n").length ≤ 16777216 := by
  have r220 : ∀ z ∈ L.map (fun r => rowT r.1 r.2), z.length ≤ 220 := fun z hz => by
    obtain ⟨q, hq, rfl⟩ := List.mem_map.mp hz
    exact row220 (ln.rd.ok q hq)
  have s1 := sum_le_of 220 _ r220
  have e1 : (Str.ofString "\n").length = 1 := by decide +kernel
  have few := ln.few
  rw [e1, List.length_map]
  rw [List.length_map] at s1
  omega
theorem texts_eq {L M : List Row} {s t : PSt} (a : Lines L s) (b : Lines M t) : rowsT L = rowsT M ↔ (L.map fun r => rowT r.1 r.2) = M.map fun r => rowT r.1 r.2 := by
  constructor
  · intro h
    rw [← split_rows a.ne a.rd.ok, ← split_rows b.ne b.rd.ok, h]
  · intro h
    unfold rowsT
    rw [h]
theorem dat_str {K : PySem.W.Frag} {H : Hp} {z : Str} (l : (tl z).length ≤ 1000) (o : ∀ c ∈ tl z, Okc c) : Dat K H (.str z) (.str z) := by
  refine ⟨fun _ _ => .str z, ?_, ?_, .inl ⟨z, rfl, l⟩⟩
  · have h : SeqAt.shaped (.list [.str "none", .str z]) = true := shaped_list fun x hx => by
      simp only [List.mem_cons, List.not_mem_nil, or_false] at hx
      rcases hx with rfl | rfl
      · exact ⟨by decide +kernel, Nat.zero_le _⟩
      · exact ⟨strOk_of o, Nat.zero_le _⟩
    exact h
  · show (z == z) = true
    simp
structure LbOps (P : Program) (w : World) (K : PySem.W.Frag) (mg : Str → Option Value) (base : Heap) (CL : Addr) : Prop where
  eq : ∃ g, EqTxt K CL g ∧ FnR P w K mg base CX0 1 g (spEqL K CL)
  st : ∃ g, PySem.W.findIn K (.ref CL) "__str__" = some (some (.ref g)) ∧ PySem.W.isFn K (.ref g) = true ∧ FnR P w K mg base CX0 1 g (spStrL CL)
section
variable {P : Program} {w : World} {K : PySem.W.Frag} {mg : Str → Option Value} {base : Heap} {c : LC} {CL : Addr}
theorem ok_law20 {f : Addr} {fd : FuncData} (F : Fun K "law" "law" s_law f fd) (T : Bn mg) (D_law_pool : Df P w K mg base 1 "_law_pool" ["script", "at"] (spPool K)) (D_law_draw : Df P w K mg base 1 "_law_draw" ["pool", "many"] spDraw) (D_law_word : Df P w K mg base 2 "_law_word" ["pool"] spWord) (D_law_different : Df P w K mg base 3 "_law_different" ["pool", "many", "taken"] (spDiff K)) (D_law_library : Df P w K mg base 26 "_law_library" ["pool", "names", "others", "room"] spLibr) (C_L : CDfA P w K mg base 16 "Library" CL ["self", "text"] (spTake c CL)) (D_law_asked : Df P w K mg base 7 "_law_asked" ["library", "lines", "thing"] (spAsked K c CL)) (O : LbOps P w K mg base CL) :
    FnOk P w K mg base CX0 27 f fd ["script"] (spLaw K) := by
  refine F.ok sc_law (fun vs H Q E h => ?_) (fun cdv A outer s H vs Q E hr h => ?_)
  · obtain ⟨a, ns, rfl, _⟩ := h
    rfl
  · obtain ⟨a, ns, rfl, hS, hlen, k⟩ := h
    obtain ⟨gE, EQ, F_eq⟩ := O.eq
    obtain ⟨gS, hasS, fnS, F_str⟩ := O.st
    refine ⟨_, (pss_cons (ps_for PassesOwn.never rfl (pi_range1 rfl T.range (pa_cons (pe_callB (call_max2 rfl) (by rfl) T.max PyProof.Rows.boot_max (pa_cons pe_int (pa_cons (pe_callB (call_min2 rfl) (by rfl) T.min PyProof.Rows.boot_min (pa_cons pe_int (pa_cons (pe_callB call_len_seq (by rfl) T.len PySem.boot_len (pa_cons (pv 0) pa_nil)) pa_nil))) pa_nil))) pa_nil)) (pg_name (i := 1) sc_law.nd rfl (Or.inl rfl))
  (pss_cons (ps_set (i := 2) sc_law.nd rfl (Or.inl rfl) (pe_df D_law_pool hr (by first | decide | omega) rfl (pa_cons (pv 0) (pa_cons (pv 1) pa_nil))))
  (pss_cons (ps_set (i := 3) sc_law.nd rfl (Or.inl rfl) (pe_df D_law_different hr (by first | decide | omega) rfl (pa_cons (pv 2) (pa_cons (pe_op op_add pe_int (pe_df D_law_draw hr (by first | decide | omega) rfl (pa_cons (pv 2) (pa_cons pe_int pa_nil)))) (pa_cons (pe_lst pa_nil) pa_nil)))))
  (pss_cons (ps_set (i := 4) sc_law.nd rfl (Or.inl rfl) (pe_df D_law_different hr (by first | decide | omega) rfl (pa_cons (pv 2) (pa_cons (pe_op op_add pe_int (pe_df D_law_draw hr (by first | decide | omega) rfl (pa_cons (pv 2) (pa_cons pe_int pa_nil)))) (pa_cons (pv 3) pa_nil)))))
  (pss_cons (ps_par (i := 5) (j := 6) (by rfl) sc_law.nd rfl rfl (by decide) rfl rfl (pa_cons (pe_df D_law_library hr (by first | decide | omega) rfl (pa_cons (pv 2) (pa_cons (pv 3) (pa_cons (pv 4) (pa_cons (pe_lst (pa_cons pe_int (pa_cons pe_int pa_nil))) pa_nil))))) (pa_cons (pe_lst (pa_cons pe_int (pa_cons pe_int pa_nil))) pa_nil)) (by rfl))
  (pss_cons (ps_set (i := 7) sc_law.nd rfl (Or.inl rfl) (pe_callTy call_list_of (by rfl) T.list (by decide +kernel) (pa_cons (pv 5) pa_nil)))
  (Evl.pss_cut (ps_if (pt_cmpR op_gt (pe_df D_law_draw hr (by first | decide | omega) rfl (pa_cons (pv 2) (pa_cons pe_int pa_nil))) pe_int (nomark _))
  (pss_one (ps_set (i := 7) sc_law.nd rfl (Or.inl rfl) (pe_df D_law_library hr (by first | decide | omega) rfl (pa_cons (pv 2) (pa_cons (pv 3) (pa_cons (pv 4) (pa_cons (pv 6) pa_nil)))))))
  pss_nil)
  (pss_cons (ps_par (i := 8) (j := 9) (by rfl) sc_law.nd rfl rfl (by decide) rfl rfl (pa_cons (pe_mkw C_L hr (by first | decide | omega) rfl (pa_cons (pe_join pe_str (pv 5)) pa_nil)) (pa_cons (pe_mkw C_L hr (by first | decide | omega) rfl (pa_cons (pe_join pe_str (pv 7)) pa_nil)) pa_nil)) (by rfl))
  (pss_cons (ps_set (i := 10) sc_law.nd rfl (Or.inl rfl) (pe_op op_cat (pe_op op_cat (pv 3) (pv 4)) (pe_lst (pa_cons (pe_df D_law_word hr (by first | decide | omega) rfl (pa_cons (pv 2) pa_nil)) (pa_cons pe_str (pa_cons pe_str (pa_cons pe_non pa_nil)))))))
  (pss_cons (ps_set (i := 10) sc_law.nd rfl (Or.inl rfl) (pe_op op_cat (pv 10) (pe_lst (pa_cons pe_int (pa_cons (pe_tup (pa_cons (pe_ix ix_list (pv 3) pe_int (fun _ _ => rfl)) pa_nil)) (pa_cons (pe_op op_add_str (pe_ix ix_list (pv 3) pe_int (fun _ _ => rfl)) pe_str) (pa_cons (pe_lst (pa_cons (pe_ix ix_list (pv 3) pe_int (fun _ _ => rfl)) pa_nil)) (pa_cons (pe_lst (pa_cons (pe_lst pa_nil) pa_nil)) pa_nil))))))))
  (pss_cons (ps_set (i := 11) sc_law.nd rfl (Or.inl rfl) (pe_lst (pa_cons (pe_tup (pa_cons (pv 8) (pa_cons (pv 5) pa_nil))) (pa_cons (pe_tup (pa_cons (pv 9) (pa_cons (pv 7) pa_nil))) (pa_cons (pe_tup (pa_cons (pv 8) (pa_cons (pv 5) pa_nil))) pa_nil)))))
  (pss_cons (ps_for PassesOwn.never rfl (pi_list (pv 10)) (pg_name (i := 12) sc_law.nd rfl (Or.inl rfl))
  (pss_one (ps_for PassesOwn.never rfl (pi_list (pv 11)) (pg_tup rfl (pgs_cons (pg_name (i := 14) sc_law.nd rfl (Or.inl rfl)) (pgs_cons (pg_name (i := 15) sc_law.nd rfl (Or.inl rfl)) pgs_nil)))
  (pss_one (ps_if (pt_not (pt_val (pe_df D_law_asked hr (by first | decide | omega) rfl (pa_cons (pv 14) (pa_cons (pv 15) (pa_cons (pv 12) pa_nil))))))
  (pss_one (ps_ret pe_bl))
  pss_nil)))))
  (pss_cons (ps_if (PW.pt (pw_or (pt_cmpR op_ne (pe_callTy (cr_strOwn hasS fnS F_str (hr.mono (by decide))) (by rfl) T.str (by decide +kernel) (pa_cons (pv 8) pa_nil)) (pe_join pe_str (pv 5)) (nomark _)) (pw_or1 (pt_cmpR op_ne (pe_callTy (cr_strOwn hasS fnS F_str (hr.mono (by decide))) (by rfl) T.str (by decide +kernel) (pa_cons (pv 9) pa_nil)) (pe_join pe_str (pv 7)) (nomark _)))))
  (pss_one (ps_ret pe_bl))
  pss_nil)
  (pss_cons (ps_set (i := 13) sc_law.nd rfl (Or.inl rfl) (pe_cmpR (op_eqD hr.units) (pv 5) (pv 7) (nomark _)))
  (pss_cons (ps_if (PW.pt (pw_or (pt_cmpR op_ne (pe_cmpR (op_eqOwn EQ F_eq (hr.mono (by decide))) (pv 8) (pv 9) (nomark _)) (pv 13) (nomark _)) (pw_or1 (pt_cmpR op_eq (pe_cmpR (op_neOwn EQ F_eq (hr.mono (by decide))) (pv 8) (pv 9) (nomark _)) (pv 13) (nomark _)))))
  (pss_one (ps_ret pe_bl))
  pss_nil)
  (pss_one (ps_if (PW.pt (pw_or (pt_cmpR (op_eqOwn EQ F_eq (hr.mono (by decide))) (pv 8) (pe_join pe_str (pv 5)) (nomark _)) (pw_or (pt_cmpR (op_eqOwn EQ F_eq (hr.mono (by decide))) (pv 8) (pv 5) (nomark _)) (pw_or1 (pt_cmpR (op_neOwn EQ F_eq (hr.mono (by decide))) (pv 8) (pe_mkw C_L hr (by first | decide | omega) rfl (pa_cons (pe_callTy (cr_strOwn hasS fnS F_str (hr.mono (by decide))) (by rfl) T.str (by decide +kernel) (pa_cons (pv 8) pa_nil)) pa_nil)) (nomark _))))))
  (pss_one (ps_ret pe_bl))
  pss_nil)))))))))))))))))
  (pss_one (ps_ret pe_bl))), ?_⟩
    have hlm : (ns.map V.int).length = ns.length := List.length_map ..
    obtain ⟨N, hN, hN2⟩ : ∃ N : Int, N = (if (if ((ns.map V.int).length : Int) < 6 then ((ns.map V.int).length : Int) else 6) > 1 then (if ((ns.map V.int).length : Int) < 6 then ((ns.map V.int).length : Int) else 6) else 1) ∧ 0 ≤ N ∧ N ≤ 10 := by
      refine ⟨_, rfl, ?_, ?_⟩ <;> (repeat' split) <;> omega
    refine ⟨_, rfl, a, _, rfl, .inl hS, _, _, rfl, _, _, rfl, N, (by rw [hN]), by omega, by omega, for_range (lo := 0) (n := N.toNat) (fun i σ H1 => ∃ v1 v2 v3 v4 v5 v6 v7 v8 v9 v10 v11 v12 v13 v14 v15, σ = [some (.ref a), v1, v2, v3, v4, v5, v6, v7, v8, v9, v10, v11, v12, v13, v14, v15] ∧ Same H H1) ⟨_, _, _, _, _, _, _, _, _, _, _, _, _, _, _, rfl, fun _ _ e => e⟩ ?_ ?_⟩
    · rintro i σ H1 hi ⟨v1, v2, v3, v4, v5, v6, v7, v8, v9, v10, v11, v12, v13, v14, v15, rfl, s1⟩
      refine ⟨_, rfl, _, rfl, a, ns, i, (by rw [Int.zero_add]; rfl), s1.seq hS, by omega, fun p o hp hp1 => ?_⟩
      have hp0 : H p = none := s1.free hp
      have s2 : Same H (upd H1 p o) := s1.trans (Same.new hp)
      generalize upd H1 p o = G at hp1 s2 ⊢
      have nw : ∀ {H' : Hp} {y : Addr} {k : Int}, PoolAt H' p k → H' y = none → p ≠ y := fun {H' y k} h e => by
        obtain ⟨_, _, _, z, _⟩ := h
        exact ne_of_none z e
      refine ⟨_, rfl, _, rfl, p, 4, _, rfl, hp1, by omega, by decide, by decide, fun d o1 d0 d4 hp4 => ⟨_, _, rfl, rfl, (by show 0 ≤ sizeLine; decide), fun t nt => ?_⟩⟩
      obtain ⟨d, rfl⟩ : ∃ m : Nat, d = m := ⟨d.toNat, by omega⟩
      have s5 := Same.new (o := .lst []) nt
      have t5 : upd (upd G p o1) t (.lst []) t = some (.lst (([] : List Str).map V.str)) := upd_same
      have hp5 : PoolAt (upd (upd G p o1) t (.lst [])) p 1 := (hp4.mv fun u e => s5 _ _ e).up (by omega)
      have k5 : Kp [p] G (upd (upd G p o1) t (.lst [])) := (Kp.at_ (by simp)).trans (Kp.same s5)
      have pt := nw hp4 nt
      generalize upd (upd G p o1) t (.lst []) = G5 at t5 hp5 k5 ⊢
      refine ⟨p, t, [], 1 + d, _, (by push_cast; rfl), hp5, by omega, t5, pt.symm, by omega, by decide, fun Nn G6 nl lN ndN wN nnl hnl hp6 k6 => ?_⟩
      have nlp : nl ≠ p := (nw hp5 nnl).symm
      refine ⟨_, rfl, _, rfl, p, 2, _, rfl, hp6, by omega, by decide, by decide, fun d2 o2 d20 d22 hp7 => ⟨_, _, rfl, rfl, _, rfl, ?_⟩⟩
      obtain ⟨d2, rfl⟩ : ∃ m : Nat, d2 = m := ⟨d2.toNat, by omega⟩
      have hnl7 : upd G6 p o2 nl = some (.lst (Nn.map V.str)) := by
        rw [upd_ne nlp]
        exact hnl
      refine ⟨p, nl, Nn, 1 + d2, _, (by push_cast; rfl), hp7, by omega, hnl7, nlp, by omega, by omega, fun O G8 ol lO ndO wO nol hol hp8 k8 => ?_⟩
      have olp : ol ≠ p := (nw hp7 nol).symm
      have hnl8 := k8 _ _ hnl7 (by simpa using nlp)
      have k08 : Kp [p] G G8 := (k5.trans k6).trans ((Kp.at_ (by simp)).trans k8)
      refine ⟨_, rfl, _, rfl, _, rfl, (by show 2 ≤ sizeLine; decide), fun rm nrm => ?_⟩
      have s9 := Same.new (o := .lst [.int 10, .int 4]) nrm
      have prm := nw hp8 nrm
      have low : ∀ {H' : Hp} {y : Addr} {k : Int}, Kp [p] G H' → PoolAt H' p k → H' y = none → G y = none := fun {H' y k} kp h e => none_back kp (fun z hz => by
        rw [List.mem_singleton.mp hz]
        obtain ⟨_, _, _, e, _⟩ := h
        rw [e]
        exact nofun) e
      have rm0 := low k08 hp8 nrm
      have hp9 : PoolAt (upd G8 rm (.lst [.int 10, .int 4])) p 200 := (hp8.mv fun u e => s9 _ _ e).up (by omega)
      have oN : ∀ {z : Addr}, z ∈ [nl, ol] → G8 z ≠ none := fun {z} hz => by
        simp only [List.mem_cons, List.not_mem_nil, or_false] at hz
        rcases hz with rfl | rfl
        · rw [hnl8]
          exact nofun
        · rw [hol]
          exact nofun
      have Nne : Nn ≠ [] := fun e => by rw [e] at lN; change 0 = _ at lN; omega
      have One : O ≠ [] := fun e => by rw [e] at lO; change 0 = _ at lO; omega
      refine ⟨p, nl, ol, rm, Nn, O, _, 10, rfl, hp9, by omega, s9 _ _ hnl8, s9 _ _ hol, upd_same, by decide, prm.symm, fun y hy => ?_, Nne, by omega, ndN, fun z hz => (wN z hz).1, One, by omega, wO, fun G10 rl L sP nrl hrl k10 hp10 ln => ?_⟩
      · simp only [List.mem_cons, List.not_mem_nil, or_false] at hy
        rcases hy with rfl | rfl
        · simp [nlp, ne_of_none hnl8 nrm]
        · simp [olp, ne_of_none hol nrm]
      have kp10 : Kp [p] G8 G10 := fun y u e m => k10 y u (s9 _ _ e) (by
        simp only [List.mem_singleton] at m
        simp [m, ne_of_none e nrm])
      have k010 := k08.trans kp10
      have hnl10 := kp10 _ _ hnl8 (by simpa using nlp)
      have hol10 := kp10 _ _ hol (by simpa using olp)
      have rlp : rl ≠ p := (nw hp9 nrl).symm
      refine ⟨(by show 2 ≤ sizeLine; decide), fun rm2 nrm2 => ⟨_, _, rfl, ?_⟩⟩
      have s11 := Same.new (o := .lst [.int 8, .int 4]) nrm2
      have hrm2 : upd G10 rm2 (.lst [.int 8, .int 4]) rm2 = some (.lst [.int 8, .int 4]) := upd_same
      have rm20 := low k010 hp10 nrm2
      have prm2 : p ≠ rm2 := nw hp10 nrm2
      have hp11 : PoolAt (upd G10 rm2 (.lst [.int 8, .int 4])) p 10200 := hp10.mv fun u e => s11 _ _ e
      have nlr2 : nl ≠ rm2 := ne_of_none hnl10 nrm2
      have olr2 : ol ≠ rm2 := ne_of_none hol10 nrm2
      have rlr2 : rl ≠ rm2 := ne_of_none hrl nrm2
      have k011 : Kp [p] G (upd G10 rm2 (.lst [.int 8, .int 4])) := k010.trans (Kp.same s11)
      have hnl11 := s11 _ _ hnl10
      have hol11 := s11 _ _ hol10
      have hrl11 := s11 _ _ hrl
      generalize upd G10 rm2 (.lst [.int 8, .int 4]) = G11 at hrm2 hp11 k011 hnl11 hol11 hrl11 ⊢
      refine ⟨_, rfl, rl, _, rfl, .inl (SqL.of hrl11), fun se nse => ?_⟩
      have s12 := Same.new (o := .lst (L.map fun r => V.str (rowT r.1 r.2))) nse
      have hse : upd G11 se (.lst (L.map fun r => V.str (rowT r.1 r.2))) se = some (.lst (L.map fun r => V.str (rowT r.1 r.2))) := upd_same
      have hp12 : PoolAt (upd G11 se (.lst (L.map fun r => V.str (rowT r.1 r.2)))) p 10200 := hp11.mv fun u e => s12 _ _ e
      have ser : se ≠ rm2 := (ne_of_none hrm2 nse).symm
      have sep : se ≠ p := (nw hp11 nse).symm
      have k012 := k011.trans (Kp.same (l := [p]) s12)
      have hnl12 := s12 _ _ hnl11
      have hol12 := s12 _ _ hol11
      have hrl12 := s12 _ _ hrl11
      have hrm12 := s12 _ _ hrm2
      generalize upd G11 se (.lst (L.map fun r => V.str (rowT r.1 r.2))) = G12 at hse hp12 k012 hnl12 hol12 hrl12 hrm12 ⊢
      refine ⟨fun σ' G' => ∃ (l2 : Addr) (L2 : List Row) (s2P : PSt), σ' = [some (.ref a), some (.int (0 + i)), some (.ref p), some (.ref nl), some (.ref ol), some (.ref rl), some (.ref rm2), some (.ref l2), v8, v9, v10, v11, v12, v13, v14, v15] ∧ Kp [p, rm2] G12 G' ∧ PoolAt G' p 30000 ∧ G' l2 = some (.lst (L2.map fun r => .str (rowT r.1 r.2))) ∧ Lines L2 s2P, ?_, ?_⟩
      · refine ⟨_, rfl, p, 3, _, rfl, hp12, by omega, by decide, by decide, fun d3 o3 d30 d33 hp13 => ⟨_, _, rfl, rfl, _, rfl, ite2 (fun c1 => ?_) (fun c1 => ?_)⟩⟩
        · refine ⟨_, rfl, _, rfl, _, rfl, _, rfl, p, nl, ol, rm2, Nn, O, _, 8, rfl, hp13, by omega, (by rw [upd_ne nlp]; exact hnl12), (by rw [upd_ne olp]; exact hol12), (by rw [upd_ne prm2.symm]; exact hrm12), by decide, prm2.symm, fun y hy => ?_, Nne, by omega, ndN, fun z hz => (wN z hz).1, One, by omega, wO, fun G14 l2 L2 s2P nl2 hl2 k14 hp14 ln2 => ?_⟩
          · simp only [List.mem_cons, List.not_mem_nil, or_false] at hy
            rcases hy with rfl | rfl
            · simp [nlp, nlr2]
            · simp [olp, olr2]
          · exact ⟨l2, L2, s2P, rfl, (Kp.at_ (p := p) (o := o3) (by simp)).trans k14, hp14.up (by omega), hl2, ln2⟩
        · exact ⟨se, L, sP, rfl, Kp.at_ (p := p) (o := o3) (by simp), hp13.up (by omega), (by rw [upd_ne sep]; exact hse), ln⟩
      · rintro σ' G14 ⟨l2, L2, s2P, rfl, k14, hp14, hl2, ln2⟩
        have hnl14 := k14 _ _ hnl12 (by simp [nlp, nlr2])
        have hol14 := k14 _ _ hol12 (by simp [olp, olr2])
        have hrl14 := k14 _ _ hrl12 (by simp [rlp, rlr2])
        have k014 : Kp [p] G G14 := fun y u e m => k14 y u (k012 y u e m) (by
          simp only [List.mem_singleton] at m
          simp [m, ne_of_none e rm20])
        have tex : ∀ M : List Row, (M.map fun r => V.str (rowT r.1 r.2)) = (M.map fun r => rowT r.1 r.2).map V.str := fun M => by
          rw [List.map_map]
          rfl
        refine ⟨⟨_, rfl⟩, _, rfl, _, rl, L.map fun r => rowT r.1 r.2, rfl, rfl, .inl (SqL.of (by rw [hrl14, tex])), join_fits ln, fun x dx nx ndx nxd => ?_⟩
        refine ⟨x, dx, L, sP, rfl, upd_same, ln, fun G16 R rr bd sl k16 lb ws fresh frR => ⟨rfl, ?_⟩⟩
        have s15 : Same G14 (upd (upd G14 dx (.own x)) x (.ins CL dx [])) := fun y u e => by
          rw [upd_ne (ne_of_none e nx), upd_ne (ne_of_none e ndx)]
          exact e
        generalize upd (upd G14 dx (.own x)) x (.ins CL dx []) = G15 at s15 k16 fresh frR
        have s16 : Same G14 G16 := fun y u e => k16 y u (s15 _ _ e) (by
          rw [List.mem_singleton]
          exact ne_of_none e nx)
        have hp15 : PoolAt G15 p 30000 := hp14.mv fun u e => s15 _ _ e
        refine ⟨⟨_, rfl⟩, _, rfl, _, l2, L2.map fun r => rowT r.1 r.2, rfl, rfl, .inl (SqL.of (by rw [s16 _ _ hl2, tex])), join_fits ln2, fun y dy ny ndy nyd => ?_⟩
        refine ⟨y, dy, L2, s2P, rfl, upd_same, ln2, fun G18 R2 rr2 bd2 sl2 k18 lb2 ws2 fresh2 frR2 => ⟨rfl, ?_⟩⟩
        have s17 : Same G16 (upd (upd G16 dy (.own y)) y (.ins CL dy [])) := fun z u e => by
          rw [upd_ne (ne_of_none e ny), upd_ne (ne_of_none e ndy)]
          exact e
        generalize upd (upd G16 dy (.own y)) y (.ins CL dy []) = G17 at s17 k18 fresh2 frR2
        have s18 : Same G16 G18 := fun z u e => k18 z u (s17 _ _ e) (by
          rw [List.mem_singleton]
          exact ne_of_none e ny)
        have hp17 : PoolAt G17 p 30000 := (hp14.mv fun u e => s16 _ _ e).mv fun u e => s17 _ _ e
        have s1418 := s16.trans s18
        have lb18 := lb.same s18
        refine ⟨_, _, rfl, ?_⟩
        have hp18 : PoolAt G18 p 30000 := hp14.mv fun u e => s1418 _ _ e
        have hnl18 := s1418 _ _ hnl14
        have hol18 := s1418 _ _ hol14
        refine ⟨_, rfl, _, rfl, nl, ol, _, _, rfl, rfl, hnl18, hol18, Nat.le_of_lt (small1000 (by rw [List.length_map, List.length_map]; omega)), fun c1 nc1 => ?_⟩
        have s19 := Same.new (o := .lst (Nn.map V.str ++ O.map V.str)) nc1
        have hc1 : upd G18 c1 (.lst (Nn.map V.str ++ O.map V.str)) c1 = some (.lst (Nn.map V.str ++ O.map V.str)) := upd_same
        have c1p : c1 ≠ p := (nw hp18 nc1).symm
        have hp19 : PoolAt (upd G18 c1 (.lst (Nn.map V.str ++ O.map V.str))) p 30000 := hp18.mv fun u e => s19 _ _ e
        generalize upd G18 c1 (.lst (Nn.map V.str ++ O.map V.str)) = G19 at s19 hc1 hp19 ⊢
        refine ⟨_, rfl, p, _, rfl, hp19, by omega, fun wd G20 hwd hp20 k20 => ?_⟩
        have s1419 := s1418.trans s19
        have nst19 : Nst G19 [p] := fun y hy => by
          rw [List.mem_singleton.mp hy]
          obtain ⟨a1, b1, c1, e, _⟩ := hp19
          refine ⟨_, e, fun z hz => ?_⟩
          unfold pl at hz
          simp at hz
        have noP : ∀ {G' : Hp} {y : Addr} {k : Int}, PoolAt G' p k → G' y = none → y ∉ [p] := fun {G' y k} h e => by
          simp [(nw h e).symm]
        have lb20 : LbAt c CL G20 R x dx (rowsT L) rr bd sl := (lb18.same s19).keep nst19 ⟨⟨noP hp14 nx, noP hp15 (fresh rr (by simp)), noP hp15 (fresh bd (by simp)), noP hp15 (fresh sl (by simp))⟩, fun r hr' => ⟨noP hp15 (frR r hr').1, fun e => noP hp15 ((frR r hr').2 e)⟩⟩ k20
        have lb220 : LbAt c CL G20 R2 y dy (rowsT L2) rr2 bd2 sl2 := (lb2.same s19).keep nst19 ⟨⟨noP (hp14.mv fun u e => s16 _ _ e) ny, noP hp17 (fresh2 rr2 (by simp)), noP hp17 (fresh2 bd2 (by simp)), noP hp17 (fresh2 sl2 (by simp))⟩, fun r hr' => ⟨noP hp17 (frR2 r hr').1, fun e => noP hp17 ((frR2 r hr').2 e)⟩⟩ k20
        have l2p : l2 ∉ [p] := nst19.strs (ws := L2.map fun r => rowT r.1 r.2) (by rw [s1419 _ _ hl2, tex]) fun e => ln2.ne (List.map_eq_nil_iff.mp e)
        have pr1 : Pr c CL G20 rl x L := ⟨dx, rr, bd, sl, R, sP, k20 _ _ (s1419 _ _ hrl14) (by simpa using rlp), lb20, ws, ln⟩
        have pr2 : Pr c CL G20 l2 y L2 := ⟨dy, rr2, bd2, sl2, R2, s2P, k20 _ _ (s1419 _ _ hl2) l2p, lb220, ws2, ln2⟩
        have hnl20 := k20 _ _ (s19 _ _ hnl18) (by simpa using nlp)
        have hc120 := k20 _ _ hc1 (by simpa using c1p)
        have k020 : Kp [p] G G20 := (k014.trans (Kp.same s1419)).trans k20
        refine ⟨(by show 4 ≤ sizeLine; decide), fun q nq => ?_⟩
        have s21 := Same.new (o := .lst [.str wd, .str "", .str "function", .non]) nq
        refine ⟨c1, q, _, _, rfl, rfl, s21 _ _ hc120, upd_same, Nat.le_of_lt (small1000 (by rw [List.length_append, List.length_map, List.length_map]; show Nn.length + O.length + 4 ≤ 1000; omega)), fun th nth => ?_⟩
        have s22 := s21.trans (Same.new (o := .lst (Nn.map V.str ++ O.map V.str ++ [.str wd, .str "", .str "function", .non])) nth)
        have hth : upd (upd G20 q (.lst [.str wd, .str "", .str "function", .non])) th (.lst (Nn.map V.str ++ O.map V.str ++ [.str wd, .str "", .str "function", .non])) th = some (.lst (Nn.map V.str ++ O.map V.str ++ [.str wd, .str "", .str "function", .non])) := upd_same
        generalize upd (upd G20 q (.lst [.str wd, .str "", .str "function", .non])) th (.lst (Nn.map V.str ++ O.map V.str ++ [.str wd, .str "", .str "function", .non])) = G22 at s22 hth ⊢
        obtain ⟨n0, hn0⟩ : ∃ n0, Nn[0]? = some n0 := by
          cases hN0 : Nn with
          | nil => exact absurd hN0 Nne
          | cons a r => exact ⟨a, rfl⟩
        have wn0 := (wN n0 (List.mem_of_getElem? hn0)).1
        have at0n : atI (Nn.map V.str) 0 = some (.str n0) := atI_nat (j := 0) (by rw [List.getElem?_map, hn0]; rfl)
        have hnl22 := s22 _ _ hnl20
        refine ⟨_, rfl, _, rfl, nl, _, 0, _, rfl, rfl, SqL.of hnl22, at0n, (by show 1 ≤ sizeLine; decide), fun t1 nt1 => ?_⟩
        have s23 := Same.new (o := .tup [.str n0]) nt1
        have ht1 : upd G22 t1 (.tup [.str n0]) t1 = some (.tup [.str n0]) := upd_same
        have hth23 := s23 _ _ hth
        generalize upd G22 t1 (.tup [.str n0]) = G23 at s23 ht1 hth23 ⊢
        have ln0 := wn0.2.1
        have ln0' := len_tl n0
        have e1 : (Str.ofString " ").length = 1 := by decide +kernel
        refine ⟨_, rfl, nl, _, 0, _, rfl, rfl, SqL.of (s23 _ _ hnl22), at0n, _, _, rfl, rfl, big (by omega), ?_⟩
        refine ⟨_, rfl, nl, _, 0, _, rfl, rfl, SqL.of (s23 _ _ hnl22), at0n, (by show 1 ≤ sizeLine; decide), fun l3 nl3 => ?_⟩
        have s24 := Same.new (o := .lst [.str n0]) nl3
        have hl3 : upd G23 l3 (.lst [.str n0]) l3 = some (.lst ([n0].map V.str)) := upd_same
        have ht124 := s24 _ _ ht1
        have hth24 := s24 _ _ hth23
        generalize upd G23 l3 (.lst [.str n0]) = G24 at s24 hl3 ht124 hth24 ⊢
        refine ⟨(by show 0 ≤ sizeLine; decide), fun l4 nl4 => ⟨(by show 1 ≤ sizeLine; decide), fun l5 nl5 => ⟨(by show 5 ≤ sizeLine; decide), fun q2 nq2 => ?_⟩⟩⟩
        have s25 := Same.new (o := .lst []) nl4
        have s26 := s25.trans (Same.new (o := .lst [.ref l4]) nl5)
        have hl5 : upd (upd G24 l4 (.lst [])) l5 (.lst [.ref l4]) l5 = some (.lst [.ref l4]) := upd_same
        have hl4 : upd (upd G24 l4 (.lst [])) l5 (.lst [.ref l4]) l4 = some (.lst []) := (Same.new (o := .lst [.ref l4]) nl5) _ _ upd_same
        generalize upd (upd G24 l4 (.lst [])) l5 (.lst [.ref l4]) = G26 at s26 hl5 hl4 nq2 ⊢
        have s27 := Same.new (o := .lst [.int 0, .ref t1, .str (n0 ++ Str.ofString " "), .ref l3, .ref l5]) nq2
        refine ⟨th, q2, _, _, rfl, rfl, s27 _ _ (s26 _ _ hth24), upd_same, Nat.le_of_lt (small1000 (by rw [List.length_append, List.length_append, List.length_map, List.length_map]; show Nn.length + O.length + 4 + 5 ≤ 1000; omega)), fun th2 nth2 => ?_⟩
        have s28 := s27.trans (Same.new (o := .lst (Nn.map V.str ++ O.map V.str ++ [.str wd, .str "", .str "function", .non] ++ [.int 0, .ref t1, .str (n0 ++ Str.ofString " "), .ref l3, .ref l5])) nth2)
        have hth2 : upd (upd G26 q2 (.lst [.int 0, .ref t1, .str (n0 ++ Str.ofString " "), .ref l3, .ref l5])) th2 (.lst (Nn.map V.str ++ O.map V.str ++ [.str wd, .str "", .str "function", .non] ++ [.int 0, .ref t1, .str (n0 ++ Str.ofString " "), .ref l3, .ref l5])) th2 = some (.lst (Nn.map V.str ++ O.map V.str ++ [.str wd, .str "", .str "function", .non] ++ [.int 0, .ref t1, .str (n0 ++ Str.ofString " "), .ref l3, .ref l5])) := upd_same
        have s2028 := s22.trans (s23.trans (s24.trans (s26.trans s28)))
        have ht128 := s28 _ _ (s26 _ _ ht124)
        have hl328 := s28 _ _ (s26 _ _ hl3)
        have hl528 := s28 _ _ hl5
        have hl428 := s28 _ _ hl4
        have k028 : Kp [p] G (upd (upd G26 q2 (.lst [.int 0, .ref t1, .str (n0 ++ Str.ofString " "), .ref l3, .ref l5])) th2 (.lst (Nn.map V.str ++ O.map V.str ++ [.str wd, .str "", .str "function", .non] ++ [.int 0, .ref t1, .str (n0 ++ Str.ofString " "), .ref l3, .ref l5]))) := k020.trans (Kp.same s2028)
        generalize upd (upd G26 q2 (.lst [.int 0, .ref t1, .str (n0 ++ Str.ofString " "), .ref l3, .ref l5])) th2 (.lst (Nn.map V.str ++ O.map V.str ++ [.str wd, .str "", .str "function", .non] ++ [.int 0, .ref t1, .str (n0 ++ Str.ofString " "), .ref l3, .ref l5])) = G28 at hth2 s2028 ht128 hl328 hl528 hl428 k028 ⊢
        have p1 := pr1.same s2028
        have p2 := pr2.same s2028
        have s028 : Same H G28 := fun z u e => k028 z u (s2 _ _ e) (by
          rw [List.mem_singleton]
          exact ne_of_none e hp0)
        have dats : ∀ v ∈ Nn.map V.str ++ O.map V.str ++ [.str wd, .str "", .str "function", .non] ++ [.int 0, .ref t1, .str (n0 ++ Str.ofString " "), .ref l3, .ref l5], ∃ d, Dat K G28 v d := fun v hv => by
          have okw : ∀ {z : Str}, IsW z → ∃ d, Dat K G28 (.str z) d := fun {z} h => ⟨_, dat_str (by have := h.2.1; omega) fun c hc => (h.2.2 c hc).ok⟩
          have sh2 : ∀ {d : PyData}, PyData.canLay0 d = true → PyData.depth d ≤ 20 → SeqAt.shaped (.tuple [.str "none", d]) = true := fun {d} h1 h2 => by
            have h : SeqAt.shaped (.list [.str "none", d]) = true := shaped_list fun x hx => by
              simp only [List.mem_cons, List.not_mem_nil, or_false] at hx
              rcases hx with rfl | rfl
              · exact ⟨by decide +kernel, Nat.zero_le _⟩
              · exact ⟨h1, h2⟩
            exact h
          have ok0 : PyData.strOk n0 = true := strOk_of fun c hc => (wn0.2.2 c hc).ok
          rcases List.mem_append.mp hv with hv | hv
          · rcases List.mem_append.mp hv with hv | hv
            · rcases List.mem_append.mp hv with hv | hv
              · obtain ⟨z, hz, rfl⟩ := List.mem_map.mp hv
                exact okw (wN z hz).1
              · obtain ⟨z, hz, rfl⟩ := List.mem_map.mp hv
                exact okw (wO z hz).1
            · simp only [List.mem_cons, List.not_mem_nil, or_false] at hv
              rcases hv with rfl | rfl | rfl | rfl
              · exact okw hwd
              · exact ⟨_, dat_str (by decide +kernel) fun c hc => by
                  rw [show tl (Str.ofString "") = [] by decide +kernel] at hc
                  cases hc⟩
              · exact ⟨_, dat_str (by decide +kernel) fun c hc => by
                  have : ∀ c ∈ tl (Str.ofString "function"), c < 1114112 := by decide +kernel
                  exact this c hc⟩
              · exact ⟨.none, fun _ _ => .non, sh2 rfl (Nat.zero_le _), rfl, .inr oth_non⟩
          · simp only [List.mem_cons, List.not_mem_nil, or_false] at hv
            rcases hv with rfl | rfl | rfl | rfl | rfl
            · exact ⟨.int 0, fun _ _ => .int 0, sh2 rfl (Nat.zero_le _), rfl, .inr oth_int⟩
            · refine ⟨.tuple [.str n0], fun H' s' => .tup (SqT.of (s' _ _ ht128)) (.cons (.str _) .nil), sh2 ?_ (by show max 0 0 + 1 ≤ 20; decide), ?_, .inr (oth_tup ht128)⟩
              · show (PyData.strOk n0 && true) = true
                rw [ok0]
                rfl
              · show ((n0 == n0) && true) = true
                simp
            · refine ⟨_, dat_str ?_ fun c hc => ?_⟩
              · rw [tl_append, List.length_append, tl_sp]
                show _ + 1 ≤ 1000
                omega
              · rw [tl_append, tl_sp] at hc
                rcases List.mem_append.mp hc with h | h
                · exact (wn0.2.2 c h).ok
                · rw [List.mem_singleton.mp h]
                  unfold Okc
                  decide
            · refine ⟨.list [.str n0], fun H' s' => .lst (SqL.of (s' _ _ hl328)) (.cons (.str _) .nil), sh2 ?_ (by show max 0 0 + 1 ≤ 20; decide), ?_, .inr (oth_lst hl328)⟩
              · show (PyData.strOk n0 && true) = true
                rw [ok0]
                rfl
              · show ((n0 == n0) && true) = true
                simp
            · exact ⟨.list [.list []], fun H' s' => .lst (SqL.of (s' _ _ hl528)) (.cons (.lst (SqL.of (s' _ _ hl428)) .nil) .nil), sh2 rfl (by show max (0 + 1) 0 + 1 ≤ 20; decide), rfl, .inr (oth_lst hl528)⟩
        generalize Nn.map V.str ++ O.map V.str ++ [.str wd, .str "", .str "function", .non] ++ [.int 0, .ref t1, .str (n0 ++ Str.ofString " "), .ref l3, .ref l5] = ths at hth2 dats
        clear hth hth23 hth24 hc1 hc120
        refine ⟨_, rfl, _, rfl, (by show 2 ≤ sizeLine; decide), fun u1 nu1 => ⟨_, rfl, _, rfl, (by show 2 ≤ sizeLine; decide), fun u2 nu2 => ⟨_, rfl, _, rfl, (by show 2 ≤ sizeLine; decide), fun u3 nu3 => ⟨(by show 3 ≤ sizeLine; decide), fun pr npr => ?_⟩⟩⟩⟩
        have z1 := Same.new (o := .tup [.ref x, .ref rl]) nu1
        have z2 := Same.new (o := .tup [.ref y, .ref l2]) nu2
        have z3 := Same.new (o := .tup [.ref x, .ref rl]) nu3
        have z4 := Same.new (o := .lst [.ref u1, .ref u2, .ref u3]) npr
        have hpr : upd (upd (upd (upd G28 u1 (.tup [.ref x, .ref rl])) u2 (.tup [.ref y, .ref l2])) u3 (.tup [.ref x, .ref rl])) pr (.lst [.ref u1, .ref u2, .ref u3]) pr = some (.lst ([u1, u2, u3].map V.ref)) := upd_same
        have hu1 := z4 _ _ (z3 _ _ (z2 _ _ (show upd G28 u1 (.tup [.ref x, .ref rl]) u1 = some (.tup [.ref x, .ref rl]) from upd_same)))
        have hu2 := z4 _ _ (z3 _ _ (show upd (upd G28 u1 (.tup [.ref x, .ref rl])) u2 (.tup [.ref y, .ref l2]) u2 = some (.tup [.ref y, .ref l2]) from upd_same))
        have hu3 := z4 _ _ (show upd (upd (upd G28 u1 (.tup [.ref x, .ref rl])) u2 (.tup [.ref y, .ref l2])) u3 (.tup [.ref x, .ref rl]) u3 = some (.tup [.ref x, .ref rl]) from upd_same)
        have z14 := z1.trans (z2.trans (z3.trans z4))
        generalize upd (upd (upd (upd G28 u1 (.tup [.ref x, .ref rl])) u2 (.tup [.ref y, .ref l2])) u3 (.tup [.ref x, .ref rl])) pr (.lst [.ref u1, .ref u2, .ref u3]) = Gp at hpr hu1 hu2 hu3 z14 ⊢
        have p1 := p1.same z14
        have p2 := p2.same z14
        have hthp := z14 _ _ hth2
        have s0p := s028.trans z14
        have all3 : ∀ t ∈ [u1, u2, u3], ∃ (x' rl' : Addr) (L' : List Row), Gp t = some (.tup [.ref x', .ref rl']) ∧ Pr c CL Gp rl' x' L' := fun t ht => by
          simp only [List.mem_cons, List.not_mem_nil, or_false] at ht
          rcases ht with rfl | rfl | rfl
          · exact ⟨_, _, _, hu1, p1⟩
          · exact ⟨_, _, _, hu2, p2⟩
          · exact ⟨_, _, _, hu3, p1⟩
        refine ⟨_, rfl, th2, rfl, ⟨_, SqL.of hthp⟩, ?_⟩
        refine for_list (K := K) (a := th2) (xs := ths) (fun i2 σ' G' => ∃ v12 v13 v14 v15 : Option V, σ' = [some (.ref a), some (.int (0 + i)), some (.ref p), some (.ref nl), some (.ref ol), some (.ref rl), some (.ref rm2), some (.ref l2), some (.ref x), some (.ref y), some (.ref th2), some (.ref pr), v12, v13, v14, v15] ∧ Same Gp G') ⟨_, _, _, _, rfl, Same.refl _⟩ (fun i2 σ' G' _ h => ?_) (fun i2 v σ' G' hi2 h => ?_) (fun σ' G' h => ?_)
        · obtain ⟨_, _, _, _, _, sx⟩ := h
          exact SqL.of (sx _ _ hthp)
        · obtain ⟨v12, v13, v14, v15, rfl, sx⟩ := h
          obtain ⟨dd, dat⟩ := dats v (List.mem_of_getElem? hi2)
          have dat := dat.same z14
          refine ⟨_, rfl, pr, rfl, ⟨_, SqL.of (sx _ _ hpr)⟩, ?_⟩
          refine for_list (K := K) (a := pr) (xs := [u1, u2, u3].map V.ref) (fun i3 σ' G' => ∃ v13 v14 v15 : Option V, σ' = [some (.ref a), some (.int (0 + i)), some (.ref p), some (.ref nl), some (.ref ol), some (.ref rl), some (.ref rm2), some (.ref l2), some (.ref x), some (.ref y), some (.ref th2), some (.ref pr), some v, v13, v14, v15] ∧ Same Gp G') ⟨_, _, _, rfl, sx⟩ (fun i3 σ' G' _ h => ?_) (fun i3 v' σ' G' hi3 h => ?_) (fun σ' G' h => ?_)
          · obtain ⟨_, _, _, _, sy⟩ := h
            exact SqL.of (sy _ _ hpr)
          · obtain ⟨v13, v14, v15, rfl, sy⟩ := h
            obtain ⟨t, ht, rfl⟩ := List.mem_map.mp (List.mem_of_getElem? hi3)
            obtain ⟨x', rl', L', htup, prt⟩ := all3 t ht
            obtain ⟨dx', rr', bd', sl', R', sP', hrl', lb', ws', ln'⟩ := prt.same sy
            refine ⟨t, _, rfl, SqT.of (sy _ _ htup), rfl, _, _, rfl, _, _, rfl, rfl, ?_⟩
            exact ⟨_, rfl, _, rfl, _, rfl, R', x', dx', L', rr', bd', sl', rl', v, dd, sP', rfl, lb', ws', ln', hrl', dat.same sy, fun H' s' => ⟨true, rfl, iteF ⟨_, _, _, rfl, sy.trans s'⟩⟩⟩
          · obtain ⟨v13, v14, v15, rfl, sy⟩ := h
            exact ⟨_, _, _, _, rfl, sy⟩
        · obtain ⟨v12, v13, v14, v15, rfl, sx⟩ := h
          have q1 := p1.same sx
          have q2 := p2.same sx
          have lx1 := q1.lbx
          have lx2 := q2.lbx
          obtain ⟨dx1, rr1, bd1, sl1, R1, sP1, hrl1, lb1, ws1, ln1⟩ := q1
          obtain ⟨dx3, rr3, bd3, sl3, R3, sP3, hrl3, lb3, ws3, ln3⟩ := q2
          have hrl1' : G' rl = some (.lst ((L.map fun r => rowT r.1 r.2).map V.str)) := by rw [hrl1, tex]
          have hrl3' : G' l2 = some (.lst ((L2.map fun r => rowT r.1 r.2).map V.str)) := by rw [hrl3, tex]
          have j1 : Txt.join (Str.ofString "\n") (L.map fun r => rowT r.1 r.2) = rowsT L := rfl
          have j2 : Txt.join (Str.ofString "\n") (L2.map fun r => rowT r.1 r.2) = rowsT L2 := rfl
          have nn : ∀ t : Str, (!decide (V.str t = V.str t)) = false := fun t => by
            rw [decide_eq_true rfl]
            rfl
          refine ⟨_, rfl, x, dx1, _, rfl, lb1.o, x, rowsT L, rfl, lx1, ⟨rowsT L, rfl, ⟨_, rfl⟩, _, rfl, _, rl, _, rfl, rfl, .inl (SqL.of hrl1'), join_fits ln1, rfl, ?_⟩⟩
          rw [j1, nn]
          refine ⟨_, rfl, iteF ?_⟩
          refine ⟨_, rfl, y, dx3, _, rfl, lb3.o, y, rowsT L2, rfl, lx2, ⟨rowsT L2, rfl, ⟨_, rfl⟩, _, rfl, _, l2, _, rfl, rfl, .inl (SqL.of hrl3'), join_fits ln3, rfl, ?_⟩⟩
          rw [j2, nn]
          refine ⟨_, rfl, iteF ?_⟩
          have shx : ∀ {M : List Row} {t : PSt}, Lines M t → SeqAt.shaped (.list ((M.map fun r => rowT r.1 r.2).map PyData.str)) = true := fun {M t} lm => shaped_strs _ fun y hy c hc => by
            obtain ⟨p, hp, rfl⟩ := List.mem_map.mp hy
            exact okz_row (lm.rd.ok p hp) c hc
          refine ⟨_, rfl, _, rfl, _, _, dpL hrl1', dpL hrl3', shx ln1, shx ln3, ?_⟩
          rw [eqvL]
          have eqb : decide ((L.map fun r => rowT r.1 r.2) = L2.map fun r => rowT r.1 r.2) = decide (rowsT L = rowsT L2) := by
            rw [Bool.eq_iff_iff, decide_eq_true_iff, decide_eq_true_iff]
            exact (texts_eq ln1 ln3).symm
          rw [eqb]
          refine ⟨_, rfl, _, rfl, x, dx1, _, .ref CL, rfl, lb1.o, EQ.ty lb3.o, far_own, x, rowsT L, .ref y, rfl, lx1, .inl ⟨y, rowsT L2, rfl, lx2, _, rfl, rfl, ?_⟩⟩
          rw [show (!decide (V.bl (decide (rowsT L = rowsT L2)) = V.bl (decide (rowsT L = rowsT L2)))) = false from by rw [decide_eq_true rfl]; rfl]
          refine ⟨_, rfl, iteF ?_⟩
          refine ⟨_, rfl, _, rfl, x, y, dx1, dx3, _, _, rfl, rfl, lb1.o, lb3.o, x, rowsT L, .ref y, rfl, lx1, .inl ⟨y, rowsT L2, rfl, lx2, _, rfl, _, rfl, rfl, ?_⟩⟩
          rw [show decide (V.bl (!decide (rowsT L = rowsT L2)) = V.bl (decide (rowsT L = rowsT L2))) = false from decide_eq_false fun h => by
            cases hh : decide (rowsT L = rowsT L2) <;> rw [hh] at h <;> cases h]
          refine ⟨_, rfl, iteF ?_⟩
          have subL : PySem.W.subIn K (.type "list") (.ref CL) = some false := sub_far (l := ["list", "object"]) (by decide +kernel)
          refine ⟨_, rfl, ⟨_, rfl⟩, _, rfl, _, rl, _, rfl, rfl, .inl (SqL.of hrl1'), join_fits ln1, x, dx1, _, .type "str", rfl, lb1.o, .base (.str _), far_of sub_str, x, rowsT L, _, rfl, lx1, .inr ⟨.type "str", .base (.str _), EQ.kit sub_str, _, rfl, iteF ?_⟩⟩
          refine ⟨_, rfl, _, rfl, x, dx1, _, .type "list", rfl, lb1.o, .base (.lst hrl1'), far_of subL, x, rowsT L, _, rfl, lx1, .inr ⟨.type "list", .base (.lst hrl1'), EQ.kit subL, _, rfl, iteF ?_⟩⟩
          refine ⟨_, rfl, _, rfl, x, dx1, _, rfl, lb1.o, x, rowsT L, rfl, lx1, ⟨rowsT L, rfl, fun z dz nz ndz nzd => ?_⟩⟩
          refine ⟨z, dz, L, sP1, rfl, upd_same, ln1, fun G4 R4 rr4 bd4 sl4 k4 lb4 ws4 fresh4 frR4 => ⟨rfl, ?_⟩⟩
          have sz : Same G' (upd (upd G' dz (.own z)) z (.ins CL dz [])) := fun q u e => by
            rw [upd_ne (ne_of_none e nz), upd_ne (ne_of_none e ndz)]
            exact e
          have sG4 : Same G' G4 := fun q u e => k4 q u (sz _ _ e) (by
            rw [List.mem_singleton]
            exact ne_of_none e nz)
          refine ⟨x, z, dx1, dz, _, _, rfl, rfl, sG4 _ _ lb1.o, lb4.o, x, rowsT L, .ref z, rfl, lx1.same sG4, .inl ⟨z, rowsT L, rfl, ⟨dz, _, _, _, lb4.o⟩, _, rfl, ?_⟩⟩
          rw [decide_eq_true rfl]
          exact ⟨_, rfl, iteF ⟨_, _, _, _, _, _, _, _, _, _, _, _, _, _, _, rfl, s0p.trans (sx.trans sG4)⟩⟩
    · rintro σ H1 ⟨v1, v2, v3, v4, v5, v6, v7, v8, v9, v10, v11, v12, v13, v14, v15, rfl, s1⟩
      exact k _
end
end IC
namespace IC
open PySem L2 TL PyProof.Rows
theorem no_make {more sl : Int} {ks : Int → Int} {vs : List V} {H : Hp} {Q : VK} {E : XK} (h : spMake 0 more sl ks vs H Q E) : False := by
  obtain ⟨p, wa, rm, n, Rc, Er, Ot, O, N, u, a, b, pn, _, nd, _⟩ := h
  omega
theorem no_ung {c : LC} {vs : List V} {H : Hp} {Q : VK} {E : XK} (h : spUng c 0 vs H Q E) : False := by
  obtain ⟨R, p, _, L, hp, h9, _⟩ := h
  have := L.t.n8 p hp
  omega
theorem no_gua {c : LC} {vs : List V} {H : Hp} {Q : VK} {E : XK} (h : spGua c 0 vs H Q E) : False := by
  obtain ⟨R, p, _, L, hp, h9, _⟩ := h
  have := L.t.n8 p hp
  omega
end IC
namespace IC
open PySem L2 TL
theorem all_mk {l : PySem.W.OpenLaw} {w : World} {K : PySem.W.Frag} {h : Heap} {mg : Str → Option Value} {fa f0 f1 f2 f3 f4 f5 f6 f7 f8 f9 f10 f11 f12 f13 f14 f15 f16 f17 f18 f19 f20 f21 f22 f23 f24 f25 f26 f27 f28 f29 f30 f31 f32 f33 f34 f35 f36 f37 f38 f39 f40 f41 f42 f43 f44 f45 f46 f47 f48 f49 f50 f51 f52 f53 f54 f55 : Addr} (X : K.In h) (G : h.Ns mainGlobals mg) (hfa : mg "law" = some (.ref fa))
    {od0 an0 od1 an1 od2 an2 od3 an3 od4 an4 od5 an5 od6 an6 od7 an7 od8 an8 od9 an9 od10 an10 od11 an11 od12 an12 od13 an13 od14 an14 od15 an15 od16 an16 od17 an17 od18 an18 od19 an19 od20 an20 od21 an21 od22 an22 od23 an23 od24 an24 od25 an25 od26 an26 od27 an27 od28 an28 od29 an29 od30 an30 od31 an31 od32 an32 od33 an33 od34 an34 od35 an35 od36 an36 od37 an37 od38 an38 od39 an39 od40 an40 od41 an41 od42 an42 od43 an43 od44 an44 od45 an45 od46 an46 od47 an47 od48 an48 od49 an49 od50 an50 od51 an51 od52 an52 od53 an53 od54 an54 od55 an55 : Option Addr} {sl0 sl1 sl2 sl3 sl4 sl5 sl6 sl7 sl8 sl9 sl10 sl11 sl12 sl13 sl14 sl15 sl16 sl17 sl18 sl19 sl20 sl21 sl22 sl23 sl24 sl25 sl26 sl27 sl28 sl29 sl30 sl31 sl32 sl33 sl34 sl35 sl36 sl37 sl38 sl39 sl40 sl41 sl42 sl43 sl44 sl45 sl46 sl47 sl48 sl49 sl50 sl51 sl52 sl53 sl54 sl55 : Array (Option Value)} {oc0 dc0 pm0 ct0 kV0 cd0 oc1 dc1 pm1 ct1 kV1 cd1 oc2 dc2 pm2 ct2 kV2 cd2 oc3 dc3 pm3 ct3 kV3 cd3 oc4 dc4 pm4 ct4 kV4 cd4 oc5 dc5 pm5 ct5 kV5 cd5 oc6 dc6 pm6 ct6 kV6 cd6 oc7 dc7 pm7 ct7 kV7 cd7 oc8 dc8 pm8 ct8 kV8 cd8 oc9 dc9 pm9 ct9 kV9 cd9 oc10 dc10 pm10 ct10 kV10 cd10 oc11 dc11 pm11 ct11 kV11 cd11 oc12 dc12 pm12 ct12 kV12 cd12 oc13 dc13 pm13 ct13 kV13 cd13 oc14 dc14 pm14 ct14 kV14 cd14 oc15 dc15 pm15 ct15 kV15 cd15 oc16 dc16 pm16 ct16 kV16 cd16 oc17 dc17 pm17 ct17 kV17 cd17 oc18 dc18 pm18 ct18 kV18 cd18 oc19 dc19 pm19 ct19 kV19 cd19 oc20 dc20 pm20 ct20 kV20 cd20 oc21 dc21 pm21 ct21 kV21 cd21 oc22 dc22 pm22 ct22 kV22 cd22 oc23 dc23 pm23 ct23 kV23 cd23 oc24 dc24 pm24 ct24 kV24 cd24 oc25 dc25 pm25 ct25 kV25 cd25 oc26 dc26 pm26 ct26 kV26 cd26 oc27 dc27 pm27 ct27 kV27 cd27 oc28 dc28 pm28 ct28 kV28 cd28 oc29 dc29 pm29 ct29 kV29 cd29 oc30 dc30 pm30 ct30 kV30 cd30 oc31 dc31 pm31 ct31 kV31 cd31 oc32 dc32 pm32 ct32 kV32 cd32 oc33 dc33 pm33 ct33 kV33 cd33 oc34 dc34 pm34 ct34 kV34 cd34 oc35 dc35 pm35 ct35 kV35 cd35 oc36 dc36 pm36 ct36 kV36 cd36 oc37 dc37 pm37 ct37 kV37 cd37 oc38 dc38 pm38 ct38 kV38 cd38 oc39 dc39 pm39 ct39 kV39 cd39 oc40 dc40 pm40 ct40 kV40 cd40 oc41 dc41 pm41 ct41 kV41 cd41 oc42 dc42 pm42 ct42 kV42 cd42 oc43 dc43 pm43 ct43 kV43 cd43 oc44 dc44 pm44 ct44 kV44 cd44 oc45 dc45 pm45 ct45 kV45 cd45 oc46 dc46 pm46 ct46 kV46 cd46 oc47 dc47 pm47 ct47 kV47 cd47 oc48 dc48 pm48 ct48 kV48 cd48 oc49 dc49 pm49 ct49 kV49 cd49 oc50 dc50 pm50 ct50 kV50 cd50 oc51 dc51 pm51 ct51 kV51 cd51 oc52 dc52 pm52 ct52 kV52 cd52 oc53 dc53 pm53 ct53 kV53 cd53 oc54 dc54 pm54 ct54 kV54 cd54 oc55 dc55 pm55 ct55 kV55 cd55 : Value} {CM pM tM : Addr} {rsM : List Value} {ddM : Option Addr} {nM : Nat} {slM : Array (Option Value)} {y0 y1 y2 y3 y4 y5 y6 y7 w0 w1 w2 w3 w4 w5 w6 w7 : Tok} {CS CH CR CL tL tF tG tN tC : Addr} {ddL : Option Addr} {nnL : Nat} {llL : Array (Option Value)} {qL0 qL1 qL2 qL3 : Tok} {ddF : Option Addr} {nnF : Nat} {llF : Array (Option Value)} {qF0 qF1 : Tok} {ddG : Option Addr} {nnG : Nat} {llG : Array (Option Value)} {qG0 qG1 : Tok} {ddN : Option Addr} {nnN : Nat} {llN : Array (Option Value)} {qN0 qN1 qN2 : Tok} {ddC : Option Addr} {nnC : Nat} {llC : Array (Option Value)} {qC0 qC1 qC2 qC3 qC4 : Tok} {tkD : Tok} {tkH : Tok} {tkO : Tok} {EN CI : Addr} {nm2 qn2 : Str} {N2 : Addr} {bs2 : List Value} {sn2 : List Str} {su2 : List Value} {ab2 : Bool} {co2 : Option Bool} {dd2 : Option Addr} {ka2 kb2 kc2 kd2 ke2 : Option Value}
    (a0 : PySem.W.nsIn K mainGlobals "_law_pool" = some (some (.ref f0))) (l0 : K.lookup f0 = some ⟨oc0, od0, .func (PySem.W.fnOf "_law_pool" "_law_pool" (defArgs s_law_pool) (defBody s_law_pool) (defScope s_law_pool) .none kV0 dc0 pm0 an0 cd0 ct0), sl0⟩) (c0 : PySem.W.codeIn K cd0 "_law_pool" = true) (k0 : PySem.W.keepIn K (.ref f0) = true)
    (a1 : PySem.W.nsIn K mainGlobals "_law_draw" = some (some (.ref f1))) (l1 : K.lookup f1 = some ⟨oc1, od1, .func (PySem.W.fnOf "_law_draw" "_law_draw" (defArgs s_law_draw) (defBody s_law_draw) (defScope s_law_draw) .none kV1 dc1 pm1 an1 cd1 ct1), sl1⟩) (c1 : PySem.W.codeIn K cd1 "_law_draw" = true) (k1 : PySem.W.keepIn K (.ref f1) = true)
    (a2 : PySem.W.nsIn K mainGlobals "_law_word" = some (some (.ref f2))) (l2 : K.lookup f2 = some ⟨oc2, od2, .func (PySem.W.fnOf "_law_word" "_law_word" (defArgs s_law_word) (defBody s_law_word) (defScope s_law_word) .none kV2 dc2 pm2 an2 cd2 ct2), sl2⟩) (c2 : PySem.W.codeIn K cd2 "_law_word" = true) (k2 : PySem.W.keepIn K (.ref f2) = true)
    (a3 : PySem.W.nsIn K mainGlobals "is_word" = some (some (.ref f3))) (l3 : K.lookup f3 = some ⟨oc3, od3, .func (PySem.W.fnOf "is_word" "is_word" (defArgs s_is_word) (defBody s_is_word) (defScope s_is_word) .none kV3 dc3 pm3 an3 cd3 ct3), sl3⟩) (c3 : PySem.W.codeIn K cd3 "is_word" = true) (k3 : PySem.W.keepIn K (.ref f3) = true)
    (a4 : PySem.W.recIn K pM "staticmethod" = some (.ref f4 :: rsM)) (l4 : K.lookup f4 = some ⟨oc4, od4, .func (PySem.W.fnOf "is_mode" "Mode.is_mode" (defArgs s_Mode_is_mode) (defBody s_Mode_is_mode) (defScope s_Mode_is_mode) .none kV4 dc4 pm4 an4 cd4 ct4), sl4⟩) (c4 : PySem.W.codeIn K cd4 "Mode.is_mode" = true) (k4 : PySem.W.keepIn K (.ref f4) = true)
    (a5 : PySem.W.nsIn K mainGlobals "_are_keeping" = some (some (.ref f5))) (l5 : K.lookup f5 = some ⟨oc5, od5, .func (PySem.W.fnOf "_are_keeping" "_are_keeping" (defArgs s_are_keeping) (defBody s_are_keeping) (defScope s_are_keeping) .none kV5 dc5 pm5 an5 cd5 ct5), sl5⟩) (c5 : PySem.W.codeIn K cd5 "_are_keeping" = true) (k5 : PySem.W.keepIn K (.ref f5) = true)
    (a6 : PySem.W.nsIn K mainGlobals "_are_formed" = some (some (.ref f6))) (l6 : K.lookup f6 = some ⟨oc6, od6, .func (PySem.W.fnOf "_are_formed" "_are_formed" (defArgs s_are_formed) (defBody s_are_formed) (defScope s_are_formed) .none kV6 dc6 pm6 an6 cd6 ct6), sl6⟩) (c6 : PySem.W.codeIn K cd6 "_are_formed" = true) (k6 : PySem.W.keepIn K (.ref f6) = true)
    (a7 : PySem.W.nsIn K mainGlobals "_can_nest" = some (some (.ref f7))) (l7 : K.lookup f7 = some ⟨oc7, od7, .func (PySem.W.fnOf "_can_nest" "_can_nest" (defArgs s_can_nest) (defBody s_can_nest) (defScope s_can_nest) .none kV7 dc7 pm7 an7 cd7 ct7), sl7⟩) (c7 : PySem.W.codeIn K cd7 "_can_nest" = true) (k7 : PySem.W.keepIn K (.ref f7) = true)
    (a8 : PySem.W.nsIn K mainGlobals "split_line" = some (some (.ref f8))) (l8 : K.lookup f8 = some ⟨oc8, od8, .func (PySem.W.fnOf "split_line" "split_line" (defArgs s_split_line) (defBody s_split_line) (defScope s_split_line) .none kV8 dc8 pm8 an8 cd8 ct8), sl8⟩) (c8 : PySem.W.codeIn K cd8 "split_line" = true) (k8 : PySem.W.keepIn K (.ref f8) = true)
    (a9 : PySem.W.findIn K (.ref CS) "__init__" = some (some (.ref f9))) (l9 : K.lookup f9 = some ⟨oc9, od9, .func (PySem.W.fnOf "__init__" "Statement.__init__" (defArgs s_Statement___init__) (defBody s_Statement___init__) (defScope s_Statement___init__) .none kV9 dc9 pm9 an9 cd9 ct9), sl9⟩) (c9 : PySem.W.codeIn K cd9 "Statement.__init__" = true) (k9 : PySem.W.keepIn K (.ref f9) = true) (i9 : PySem.W.isFn K (.ref f9) = true)
    (a10 : PySem.W.findIn K (.ref CH) "__init__" = some (some (.ref f10))) (l10 : K.lookup f10 = some ⟨oc10, od10, .func (PySem.W.fnOf "__init__" "Header.__init__" (defArgs s_Header___init__) (defBody s_Header___init__) (defScope s_Header___init__) .none kV10 dc10 pm10 an10 cd10 ct10), sl10⟩) (c10 : PySem.W.codeIn K cd10 "Header.__init__" = true) (k10 : PySem.W.keepIn K (.ref f10) = true) (i10 : PySem.W.isFn K (.ref f10) = true)
    (a11 : PySem.W.findIn K (.ref CH) "is_bare_try" = some (some (.ref f11))) (l11 : K.lookup f11 = some ⟨oc11, od11, .func (PySem.W.fnOf "is_bare_try" "Header.is_bare_try" (defArgs s_Header_is_bare_try) (defBody s_Header_is_bare_try) (defScope s_Header_is_bare_try) .none kV11 dc11 pm11 an11 cd11 ct11), sl11⟩) (c11 : PySem.W.codeIn K cd11 "Header.is_bare_try" = true) (k11 : PySem.W.keepIn K (.ref f11) = true) (i11 : PySem.W.isFn K (.ref f11) = true)
    (a12 : PySem.W.findIn K (.ref CH) "can_go_on" = some (some (.ref f12))) (l12 : K.lookup f12 = some ⟨oc12, od12, .func (PySem.W.fnOf "can_go_on" "Header.can_go_on" (defArgs s_Header_can_go_on) (defBody s_Header_can_go_on) (defScope s_Header_can_go_on) .none kV12 dc12 pm12 an12 cd12 ct12), sl12⟩) (c12 : PySem.W.codeIn K cd12 "Header.can_go_on" = true) (k12 : PySem.W.keepIn K (.ref f12) = true) (i12 : PySem.W.isFn K (.ref f12) = true)
    (a13 : PySem.W.findIn K (.ref CR) "_lacks_body" = some (some (.ref f13))) (l13 : K.lookup f13 = some ⟨oc13, od13, .func (PySem.W.fnOf "_lacks_body" "Reader._lacks_body" (defArgs s_Reader__lacks_body) (defBody s_Reader__lacks_body) (defScope s_Reader__lacks_body) .none kV13 dc13 pm13 an13 cd13 ct13), sl13⟩) (c13 : PySem.W.codeIn K cd13 "Reader._lacks_body" = true) (k13 : PySem.W.keepIn K (.ref f13) = true) (i13 : PySem.W.isFn K (.ref f13) = true)
    (a14 : PySem.W.findIn K (.ref CR) "_leaves_bare_try" = some (some (.ref f14))) (l14 : K.lookup f14 = some ⟨oc14, od14, .func (PySem.W.fnOf "_leaves_bare_try" "Reader._leaves_bare_try" (defArgs s_Reader__leaves_bare_try) (defBody s_Reader__leaves_bare_try) (defScope s_Reader__leaves_bare_try) .none kV14 dc14 pm14 an14 cd14 ct14), sl14⟩) (c14 : PySem.W.codeIn K cd14 "Reader._leaves_bare_try" = true) (k14 : PySem.W.keepIn K (.ref f14) = true) (i14 : PySem.W.isFn K (.ref f14) = true)
    (a15 : PySem.W.findIn K (.ref CR) "_can_follow" = some (some (.ref f15))) (l15 : K.lookup f15 = some ⟨oc15, od15, .func (PySem.W.fnOf "_can_follow" "Reader._can_follow" (defArgs s_Reader__can_follow) (defBody s_Reader__can_follow) (defScope s_Reader__can_follow) .none kV15 dc15 pm15 an15 cd15 ct15), sl15⟩) (c15 : PySem.W.codeIn K cd15 "Reader._can_follow" = true) (k15 : PySem.W.keepIn K (.ref f15) = true) (i15 : PySem.W.isFn K (.ref f15) = true)
    (a16 : PySem.W.findIn K (.ref CR) "_add_function" = some (some (.ref f16))) (l16 : K.lookup f16 = some ⟨oc16, od16, .func (PySem.W.fnOf "_add_function" "Reader._add_function" (defArgs s_Reader__add_function) (defBody s_Reader__add_function) (defScope s_Reader__add_function) .none kV16 dc16 pm16 an16 cd16 ct16), sl16⟩) (c16 : PySem.W.codeIn K cd16 "Reader._add_function" = true) (k16 : PySem.W.keepIn K (.ref f16) = true) (i16 : PySem.W.isFn K (.ref f16) = true)
    (a17 : PySem.W.findIn K (.ref CR) "_add_following" = some (some (.ref f17))) (l17 : K.lookup f17 = some ⟨oc17, od17, .func (PySem.W.fnOf "_add_following" "Reader._add_following" (defArgs s_Reader__add_following) (defBody s_Reader__add_following) (defScope s_Reader__add_following) .none kV17 dc17 pm17 an17 cd17 ct17), sl17⟩) (c17 : PySem.W.codeIn K cd17 "Reader._add_following" = true) (k17 : PySem.W.keepIn K (.ref f17) = true) (i17 : PySem.W.isFn K (.ref f17) = true)
    (a18 : PySem.W.findIn K (.ref CR) "_add_statement" = some (some (.ref f18))) (l18 : K.lookup f18 = some ⟨oc18, od18, .func (PySem.W.fnOf "_add_statement" "Reader._add_statement" (defArgs s_Reader__add_statement) (defBody s_Reader__add_statement) (defScope s_Reader__add_statement) .none kV18 dc18 pm18 an18 cd18 ct18), sl18⟩) (c18 : PySem.W.codeIn K cd18 "Reader._add_statement" = true) (k18 : PySem.W.keepIn K (.ref f18) = true) (i18 : PySem.W.isFn K (.ref f18) = true)
    (a19 : PySem.W.findIn K (.ref CR) "__init__" = some (some (.ref f19))) (l19 : K.lookup f19 = some ⟨oc19, od19, .func (PySem.W.fnOf "__init__" "Reader.__init__" (defArgs s_Reader___init__) (defBody s_Reader___init__) (defScope s_Reader___init__) .none kV19 dc19 pm19 an19 cd19 ct19), sl19⟩) (c19 : PySem.W.codeIn K cd19 "Reader.__init__" = true) (k19 : PySem.W.keepIn K (.ref f19) = true) (i19 : PySem.W.isFn K (.ref f19) = true)
    (a20 : PySem.W.findIn K (.ref CR) "read" = some (some (.ref f20))) (l20 : K.lookup f20 = some ⟨oc20, od20, .func (PySem.W.fnOf "read" "Reader.read" (defArgs s_Reader_read) (defBody s_Reader_read) (defScope s_Reader_read) .none kV20 dc20 pm20 an20 cd20 ct20), sl20⟩) (c20 : PySem.W.codeIn K cd20 "Reader.read" = true) (k20 : PySem.W.keepIn K (.ref f20) = true) (i20 : PySem.W.isFn K (.ref f20) = true)
    (a21 : PySem.W.findIn K (.ref CR) "finish" = some (some (.ref f21))) (l21 : K.lookup f21 = some ⟨oc21, od21, .func (PySem.W.fnOf "finish" "Reader.finish" (defArgs s_Reader_finish) (defBody s_Reader_finish) (defScope s_Reader_finish) .none kV21 dc21 pm21 an21 cd21 ct21), sl21⟩) (c21 : PySem.W.codeIn K cd21 "Reader.finish" = true) (k21 : PySem.W.keepIn K (.ref f21) = true) (i21 : PySem.W.isFn K (.ref f21) = true)
    (a22 : PySem.W.findIn K (.ref CS) "inner_bodies" = some (some (.ref f22))) (l22 : K.lookup f22 = some ⟨oc22, od22, .func (PySem.W.fnOf "inner_bodies" "Statement.inner_bodies" (defArgs s_Statement_inner_bodies) (defBody s_Statement_inner_bodies) (defScope s_Statement_inner_bodies) .none kV22 dc22 pm22 an22 cd22 ct22), sl22⟩) (c22 : PySem.W.codeIn K cd22 "Statement.inner_bodies" = true) (k22 : PySem.W.keepIn K (.ref f22) = true) (i22 : PySem.W.isFn K (.ref f22) = true)
    (a23 : PySem.W.nsIn K mainGlobals "unguarded" = some (some (.ref f23))) (l23 : K.lookup f23 = some ⟨oc23, od23, .func (PySem.W.fnOf "unguarded" "unguarded" (defArgs s_unguarded) (defBody s_unguarded) (defScope s_unguarded) .none kV23 dc23 pm23 an23 cd23 ct23), sl23⟩) (c23 : PySem.W.codeIn K cd23 "unguarded" = true) (k23 : PySem.W.keepIn K (.ref f23) = true)
    (a24 : PySem.W.nsIn K mainGlobals "guarded_bodies" = some (some (.ref f24))) (l24 : K.lookup f24 = some ⟨oc24, od24, .func (PySem.W.fnOf "guarded_bodies" "guarded_bodies" (defArgs s_guarded_bodies) (defBody s_guarded_bodies) (defScope s_guarded_bodies) .none kV24 dc24 pm24 an24 cd24 ct24), sl24⟩) (c24 : PySem.W.codeIn K cd24 "guarded_bodies" = true) (k24 : PySem.W.keepIn K (.ref f24) = true)
    (a25 : PySem.W.nsIn K mainGlobals "calls_in" = some (some (.ref f25))) (l25 : K.lookup f25 = some ⟨oc25, od25, .func (PySem.W.fnOf "calls_in" "calls_in" (defArgs s_calls_in) (defBody s_calls_in) (defScope s_calls_in) .none kV25 dc25 pm25 an25 cd25 ct25), sl25⟩) (c25 : PySem.W.codeIn K cd25 "calls_in" = true) (k25 : PySem.W.keepIn K (.ref f25) = true)
    (a26 : PySem.W.nsIn K mainGlobals "_weight" = some (some (.ref f26))) (l26 : K.lookup f26 = some ⟨oc26, od26, .func (PySem.W.fnOf "_weight" "_weight" (defArgs s_weight) (defBody s_weight) (defScope s_weight) .none kV26 dc26 pm26 an26 cd26 ct26), sl26⟩) (c26 : PySem.W.codeIn K cd26 "_weight" = true) (k26 : PySem.W.keepIn K (.ref f26) = true)
    (a27 : PySem.W.nsIn K mainGlobals "_comes_back" = some (some (.ref f27))) (l27 : K.lookup f27 = some ⟨oc27, od27, .func (PySem.W.fnOf "_comes_back" "_comes_back" (defArgs s_comes_back) (defBody s_comes_back) (defScope s_comes_back) .none kV27 dc27 pm27 an27 cd27 ct27), sl27⟩) (c27 : PySem.W.codeIn K cd27 "_comes_back" = true) (k27 : PySem.W.keepIn K (.ref f27) = true)
    (a28 : PySem.W.nsIn K mainGlobals "_weigh" = some (some (.ref f28))) (l28 : K.lookup f28 = some ⟨oc28, od28, .func (PySem.W.fnOf "_weigh" "_weigh" (defArgs s_weigh) (defBody s_weigh) (defScope s_weigh) .none kV28 dc28 pm28 an28 cd28 ct28), sl28⟩) (c28 : PySem.W.codeIn K cd28 "_weigh" = true) (k28 : PySem.W.keepIn K (.ref f28) = true)
    (a29 : PySem.W.nsIn K mainGlobals "check_calls" = some (some (.ref f29))) (l29 : K.lookup f29 = some ⟨oc29, od29, .func (PySem.W.fnOf "check_calls" "check_calls" (defArgs s_check_calls) (defBody s_check_calls) (defScope s_check_calls) .none kV29 dc29 pm29 an29 cd29 ct29), sl29⟩) (c29 : PySem.W.codeIn K cd29 "check_calls" = true) (k29 : PySem.W.keepIn K (.ref f29) = true)
    (a30 : PySem.W.nsIn K mainGlobals "mentioned_errors" = some (some (.ref f30))) (l30 : K.lookup f30 = some ⟨oc30, od30, .func (PySem.W.fnOf "mentioned_errors" "mentioned_errors" (defArgs s_mentioned_errors) (defBody s_mentioned_errors) (defScope s_mentioned_errors) .none kV30 dc30 pm30 an30 cd30 ct30), sl30⟩) (c30 : PySem.W.codeIn K cd30 "mentioned_errors" = true) (k30 : PySem.W.keepIn K (.ref f30) = true)
    (a31 : PySem.W.findIn K (.ref CL) "functions" = some (some (.ref f31))) (l31 : K.lookup f31 = some ⟨oc31, od31, .func (PySem.W.fnOf "functions" "Library.functions" (defArgs s_Library_functions) (defBody s_Library_functions) (defScope s_Library_functions) .none kV31 dc31 pm31 an31 cd31 ct31), sl31⟩) (c31 : PySem.W.codeIn K cd31 "Library.functions" = true) (k31 : PySem.W.keepIn K (.ref f31) = true) (i31 : PySem.W.isFn K (.ref f31) = true)
    (a32 : PySem.W.findIn K (.ref CL) "records" = some (some (.ref f32))) (l32 : K.lookup f32 = some ⟨oc32, od32, .func (PySem.W.fnOf "records" "Library.records" (defArgs s_Library_records) (defBody s_Library_records) (defScope s_Library_records) .none kV32 dc32 pm32 an32 cd32 ct32), sl32⟩) (c32 : PySem.W.codeIn K cd32 "Library.records" = true) (k32 : PySem.W.keepIn K (.ref f32) = true) (i32 : PySem.W.isFn K (.ref f32) = true)
    (a33 : PySem.W.findIn K (.ref CL) "errors" = some (some (.ref f33))) (l33 : K.lookup f33 = some ⟨oc33, od33, .func (PySem.W.fnOf "errors" "Library.errors" (defArgs s_Library_errors) (defBody s_Library_errors) (defScope s_Library_errors) .none kV33 dc33 pm33 an33 cd33 ct33), sl33⟩) (c33 : PySem.W.codeIn K cd33 "Library.errors" = true) (k33 : PySem.W.keepIn K (.ref f33) = true) (i33 : PySem.W.isFn K (.ref f33) = true)
    (a34 : PySem.W.findIn K (.ref CL) "unknown" = some (some (.ref f34))) (l34 : K.lookup f34 = some ⟨oc34, od34, .func (PySem.W.fnOf "unknown" "Library.unknown" (defArgs s_Library_unknown) (defBody s_Library_unknown) (defScope s_Library_unknown) .none kV34 dc34 pm34 an34 cd34 ct34), sl34⟩) (c34 : PySem.W.codeIn K cd34 "Library.unknown" = true) (k34 : PySem.W.keepIn K (.ref f34) = true) (i34 : PySem.W.isFn K (.ref f34) = true)
    (a35 : PySem.W.findIn K (.ref CL) "blocks" = some (some (.ref f35))) (l35 : K.lookup f35 = some ⟨oc35, od35, .func (PySem.W.fnOf "blocks" "Library.blocks" (defArgs s_Library_blocks) (defBody s_Library_blocks) (defScope s_Library_blocks) .none kV35 dc35 pm35 an35 cd35 ct35), sl35⟩) (c35 : PySem.W.codeIn K cd35 "Library.blocks" = true) (k35 : PySem.W.keepIn K (.ref f35) = true) (i35 : PySem.W.isFn K (.ref f35) = true)
    (a36 : PySem.W.findIn K (.ref CL) "_check_counts" = some (some (.ref f36))) (l36 : K.lookup f36 = some ⟨oc36, od36, .func (PySem.W.fnOf "_check_counts" "Library._check_counts" (defArgs s_Library__check_counts) (defBody s_Library__check_counts) (defScope s_Library__check_counts) .none kV36 dc36 pm36 an36 cd36 ct36), sl36⟩) (c36 : PySem.W.codeIn K cd36 "Library._check_counts" = true) (k36 : PySem.W.keepIn K (.ref f36) = true) (i36 : PySem.W.isFn K (.ref f36) = true)
    (a37 : PySem.W.findIn K (.ref CL) "__len__" = some (some (.ref f37))) (l37 : K.lookup f37 = some ⟨oc37, od37, .func (PySem.W.fnOf "__len__" "Library.__len__" (defArgs s_Library___len__) (defBody s_Library___len__) (defScope s_Library___len__) .none kV37 dc37 pm37 an37 cd37 ct37), sl37⟩) (c37 : PySem.W.codeIn K cd37 "Library.__len__" = true) (k37 : PySem.W.keepIn K (.ref f37) = true) (i37 : PySem.W.isFn K (.ref f37) = true)
    (a38 : PySem.W.findIn K (.ref CL) "_take" = some (some (.ref f38))) (l38 : K.lookup f38 = some ⟨oc38, od38, .func (PySem.W.fnOf "_take" "Library._take" (defArgs s_Library__take) (defBody s_Library__take) (defScope s_Library__take) .none kV38 dc38 pm38 an38 cd38 ct38), sl38⟩) (c38 : PySem.W.codeIn K cd38 "Library._take" = true) (k38 : PySem.W.keepIn K (.ref f38) = true) (i38 : PySem.W.isFn K (.ref f38) = true)
    (a39 : PySem.W.findIn K (.ref CL) "__init__" = some (some (.ref f39))) (l39 : K.lookup f39 = some ⟨oc39, od39, .func (PySem.W.fnOf "__init__" "Library.__init__" (defArgs s_Library___init__) (defBody s_Library___init__) (defScope s_Library___init__) .none kV39 dc39 pm39 an39 cd39 ct39), sl39⟩) (c39 : PySem.W.codeIn K cd39 "Library.__init__" = true) (k39 : PySem.W.keepIn K (.ref f39) = true) (i39 : PySem.W.isFn K (.ref f39) = true)
    (a40 : PySem.W.nsIn K mainGlobals "_law_different" = some (some (.ref f40))) (l40 : K.lookup f40 = some ⟨oc40, od40, .func (PySem.W.fnOf "_law_different" "_law_different" (defArgs s_law_different) (defBody s_law_different) (defScope s_law_different) .none kV40 dc40 pm40 an40 cd40 ct40), sl40⟩) (c40 : PySem.W.codeIn K cd40 "_law_different" = true) (k40 : PySem.W.keepIn K (.ref f40) = true)
    (a41 : PySem.W.nsIn K mainGlobals "_law_pick" = some (some (.ref f41))) (l41 : K.lookup f41 = some ⟨oc41, od41, .func (PySem.W.fnOf "_law_pick" "_law_pick" (defArgs s_law_pick) (defBody s_law_pick) (defScope s_law_pick) .none kV41 dc41 pm41 an41 cd41 ct41), sl41⟩) (c41 : PySem.W.codeIn K cd41 "_law_pick" = true) (k41 : PySem.W.keepIn K (.ref f41) = true)
    (a42 : PySem.W.nsIn K mainGlobals "_law_row" = some (some (.ref f42))) (l42 : K.lookup f42 = some ⟨oc42, od42, .func (PySem.W.fnOf "_law_row" "_law_row" (defArgs s_law_row) (defBody s_law_row) (defScope s_law_row) .none kV42 dc42 pm42 an42 cd42 ct42), sl42⟩) (c42 : PySem.W.codeIn K cd42 "_law_row" = true) (k42 : PySem.W.keepIn K (.ref f42) = true)
    (a43 : PySem.W.nsIn K mainGlobals "_law_body" = some (some (.ref f43))) (l43 : K.lookup f43 = some ⟨oc43, od43, .func (PySem.W.fnOf "_law_body" "_law_body" (defArgs s_law_body) (defBody s_law_body) (defScope s_law_body) .none kV43 dc43 pm43 an43 cd43 ct43), sl43⟩) (c43 : PySem.W.codeIn K cd43 "_law_body" = true) (k43 : PySem.W.keepIn K (.ref f43) = true)
    (a44 : PySem.W.nsIn K mainGlobals "_law_statement" = some (some (.ref f44))) (l44 : K.lookup f44 = some ⟨oc44, od44, .func (PySem.W.fnOf "_law_statement" "_law_statement" (defArgs s_law_statement) (defBody s_law_statement) (defScope s_law_statement) .none kV44 dc44 pm44 an44 cd44 ct44), sl44⟩) (c44 : PySem.W.codeIn K cd44 "_law_statement" = true) (k44 : PySem.W.keepIn K (.ref f44) = true)
    (a45 : PySem.W.nsIn K mainGlobals "_law_try" = some (some (.ref f45))) (l45 : K.lookup f45 = some ⟨oc45, od45, .func (PySem.W.fnOf "_law_try" "_law_try" (defArgs s_law_try) (defBody s_law_try) (defScope s_law_try) .none kV45 dc45 pm45 an45 cd45 ct45), sl45⟩) (c45 : PySem.W.codeIn K cd45 "_law_try" = true) (k45 : PySem.W.keepIn K (.ref f45) = true)
    (a46 : PySem.W.nsIn K mainGlobals "_law_library" = some (some (.ref f46))) (l46 : K.lookup f46 = some ⟨oc46, od46, .func (PySem.W.fnOf "_law_library" "_law_library" (defArgs s_law_library) (defBody s_law_library) (defScope s_law_library) .none kV46 dc46 pm46 an46 cd46 ct46), sl46⟩) (c46 : PySem.W.codeIn K cd46 "_law_library" = true) (k46 : PySem.W.keepIn K (.ref f46) = true)
    (a47 : PySem.W.findIn K (.ref EN) "__init__" = some (some (.ref f47))) (l47 : K.lookup f47 = some ⟨oc47, od47, .func (PySem.W.fnOf "__init__" "NoFunction.__init__" (defArgs s_NoFunction___init__) (defBody s_NoFunction___init__) (defScope s_NoFunction___init__) .none kV47 dc47 pm47 an47 cd47 ct47), sl47⟩) (c47 : PySem.W.codeIn K cd47 "NoFunction.__init__" = true) (k47 : PySem.W.keepIn K (.ref f47) = true) (t47 : PySem.W.typeIn K (.ref f47) = some (.type "function"))
    (a48 : PySem.W.findIn K (.ref CL) "__contains__" = some (some (.ref f48))) (l48 : K.lookup f48 = some ⟨oc48, od48, .func (PySem.W.fnOf "__contains__" "Library.__contains__" (defArgs s_Library___contains__) (defBody s_Library___contains__) (defScope s_Library___contains__) .none kV48 dc48 pm48 an48 cd48 ct48), sl48⟩) (c48 : PySem.W.codeIn K cd48 "Library.__contains__" = true) (k48 : PySem.W.keepIn K (.ref f48) = true) (i48 : PySem.W.isFn K (.ref f48) = true)
    (a49 : PySem.W.findIn K (.ref CL) "__getitem__" = some (some (.ref f49))) (l49 : K.lookup f49 = some ⟨oc49, od49, .func (PySem.W.fnOf "__getitem__" "Library.__getitem__" (defArgs s_Library___getitem__) (defBody s_Library___getitem__) (defScope s_Library___getitem__) .none kV49 dc49 pm49 an49 cd49 ct49), sl49⟩) (c49 : PySem.W.codeIn K cd49 "Library.__getitem__" = true) (k49 : PySem.W.keepIn K (.ref f49) = true) (i49 : PySem.W.isFn K (.ref f49) = true)
    (a50 : PySem.W.findIn K (.ref CL) "__eq__" = some (some (.ref f50))) (l50 : K.lookup f50 = some ⟨oc50, od50, .func (PySem.W.fnOf "__eq__" "Library.__eq__" (defArgs s_Library___eq__) (defBody s_Library___eq__) (defScope s_Library___eq__) .none kV50 dc50 pm50 an50 cd50 ct50), sl50⟩) (c50 : PySem.W.codeIn K cd50 "Library.__eq__" = true) (k50 : PySem.W.keepIn K (.ref f50) = true) (i50 : PySem.W.isFn K (.ref f50) = true)
    (a51 : PySem.W.findIn K (.ref CL) "__str__" = some (some (.ref f51))) (l51 : K.lookup f51 = some ⟨oc51, od51, .func (PySem.W.fnOf "__str__" "Library.__str__" (defArgs s_Library___str__) (defBody s_Library___str__) (defScope s_Library___str__) .none kV51 dc51 pm51 an51 cd51 ct51), sl51⟩) (c51 : PySem.W.codeIn K cd51 "Library.__str__" = true) (k51 : PySem.W.keepIn K (.ref f51) = true) (i51 : PySem.W.isFn K (.ref f51) = true)
    (a52 : PySem.W.nsIn K mainGlobals "_law_lines" = some (some (.ref f52))) (l52 : K.lookup f52 = some ⟨oc52, od52, .func (PySem.W.fnOf "_law_lines" "_law_lines" (defArgs s_law_lines) (defBody s_law_lines) (defScope s_law_lines) .none kV52 dc52 pm52 an52 cd52 ct52), sl52⟩) (c52 : PySem.W.codeIn K cd52 "_law_lines" = true) (k52 : PySem.W.keepIn K (.ref f52) = true)
    (a53 : PySem.W.nsIn K mainGlobals "_law_due" = some (some (.ref f53))) (l53 : K.lookup f53 = some ⟨oc53, od53, .func (PySem.W.fnOf "_law_due" "_law_due" (defArgs s_law_due) (defBody s_law_due) (defScope s_law_due) .none kV53 dc53 pm53 an53 cd53 ct53), sl53⟩) (c53 : PySem.W.codeIn K cd53 "_law_due" = true) (k53 : PySem.W.keepIn K (.ref f53) = true)
    (a54 : PySem.W.nsIn K mainGlobals "_law_asked" = some (some (.ref f54))) (l54 : K.lookup f54 = some ⟨oc54, od54, .func (PySem.W.fnOf "_law_asked" "_law_asked" (defArgs s_law_asked) (defBody s_law_asked) (defScope s_law_asked) .none kV54 dc54 pm54 an54 cd54 ct54), sl54⟩) (c54 : PySem.W.codeIn K cd54 "_law_asked" = true) (k54 : PySem.W.keepIn K (.ref f54) = true)
    (a55 : PySem.W.nsIn K mainGlobals "law" = some (some (.ref f55))) (l55 : K.lookup f55 = some ⟨oc55, od55, .func (PySem.W.fnOf "law" "law" (defArgs s_law) (defBody s_law) (defScope s_law) .none kV55 dc55 pm55 an55 cd55 ct55), sl55⟩) (c55 : PySem.W.codeIn K cd55 "law" = true) (k55 : PySem.W.keepIn K (.ref f55) = true)
    (z_int : PySem.W.nsIn K mainGlobals "int" = some none)
    (z_len : PySem.W.nsIn K mainGlobals "len" = some none)
    (z_abs : PySem.W.nsIn K mainGlobals "abs" = some none)
    (z_range : PySem.W.nsIn K mainGlobals "range" = some none)
    (z_max : PySem.W.nsIn K mainGlobals "max" = some none)
    (z_min : PySem.W.nsIn K mainGlobals "min" = some none)
    (z_isi : PySem.W.nsIn K mainGlobals "isinstance" = some none)
    (z_str : PySem.W.nsIn K mainGlobals "str" = some none)
    (z_all : PySem.W.nsIn K mainGlobals "all" = some none)
    (z_any : PySem.W.nsIn K mainGlobals "any" = some none)
    (z_list : PySem.W.nsIn K mainGlobals "list" = some none)
    (z_tuple : PySem.W.nsIn K mainGlobals "tuple" = some none)
    (z_set : PySem.W.nsIn K mainGlobals "set" = some none)
    (z_sorted : PySem.W.nsIn K mainGlobals "sorted" = some none)
    (z_sum : PySem.W.nsIn K mainGlobals "sum" = some none)
    (z_bool : PySem.W.nsIn K mainGlobals "bool" = some none)
    (mo : PySem.W.nsIn K mainGlobals "Mode" = some (some (.ref CM)))
    (mrd : PySem.W.readsIn K CM (.type "type") = true)
    (mga : PySem.W.specialIn K (.ref CM) "__getattribute__" = some (some (.builtin "type.__getattribute__")))
    (mall : PySem.W.findCls K (.ref CM) (.type "type") "ALL" = some (.val (.ref tM)))
    (mlt : K.lookup tM = some ⟨.type "tuple", ddM, .seq #[.str "join" y0, .str "inner" y1, .str "apart" y2, .str "must" y3, .str "either" y4, .str "never" y5, .str "outside" y6, .str "alone" y7] nM, slM⟩)
    (m0 : PySem.W.findCls K (.ref CM) (.type "type") "JOIN" = some (.val (.str "join" w0)))
    (m1 : PySem.W.findCls K (.ref CM) (.type "type") "INNER" = some (.val (.str "inner" w1)))
    (m2 : PySem.W.findCls K (.ref CM) (.type "type") "APART" = some (.val (.str "apart" w2)))
    (m3 : PySem.W.findCls K (.ref CM) (.type "type") "MUST" = some (.val (.str "must" w3)))
    (m4 : PySem.W.findCls K (.ref CM) (.type "type") "EITHER" = some (.val (.str "either" w4)))
    (m5 : PySem.W.findCls K (.ref CM) (.type "type") "NEVER" = some (.val (.str "never" w5)))
    (m6 : PySem.W.findCls K (.ref CM) (.type "type") "OUTSIDE" = some (.val (.str "outside" w6)))
    (m7 : PySem.W.findCls K (.ref CM) (.type "type") "ALONE" = some (.val (.str "alone" w7)))
    (msm : PySem.W.findCls K (.ref CM) (.type "type") "is_mode" = some (.get (.builtin "staticmethod.__get__") (.ref pM) .none (.ref CM)))
    (gS : PySem.W.nsIn K mainGlobals "Statement" = some (some (.ref CS)))
    (pgS : PySem.W.plainGet K CS Str.empty = true)
    (hdS : PySem.W.hasDictIn K CS = true)
    (poS : PySem.W.plainOver K CS = true)
    (saS : PySem.W.findIn K (.ref CS) "__setattr__" = some (some (.builtin "object.__setattr__")))
    (mkS : PySem.W.makesIn K CS = true)
    (kpS : PySem.W.keepIn K (.ref CS) = true)
    (nS_kind : PySem.W.findIn K (.ref CS) "kind" = some none)
    (nS_number : PySem.W.findIn K (.ref CS) "number" = some none)
    (nS_word : PySem.W.findIn K (.ref CS) "word" = some none)
    (nS_kept : PySem.W.findIn K (.ref CS) "kept" = some none)
    (nS_body : PySem.W.findIn K (.ref CS) "body" = some none)
    (nS_handlers : PySem.W.findIn K (.ref CS) "handlers" = some none)
    (nS_last : PySem.W.findIn K (.ref CS) "last" = some none)
    (gH : PySem.W.nsIn K mainGlobals "Header" = some (some (.ref CH)))
    (pgH : PySem.W.plainGet K CH Str.empty = true)
    (hdH : PySem.W.hasDictIn K CH = true)
    (poH : PySem.W.plainOver K CH = true)
    (saH : PySem.W.findIn K (.ref CH) "__setattr__" = some (some (.builtin "object.__setattr__")))
    (mkH : PySem.W.makesIn K CH = true)
    (kpH : PySem.W.keepIn K (.ref CH) = true)
    (nH_words : PySem.W.findIn K (.ref CH) "words" = some none)
    (nH_statement : PySem.W.findIn K (.ref CH) "statement" = some none)
    (nH_body : PySem.W.findIn K (.ref CH) "body" = some none)
    (gR : PySem.W.nsIn K mainGlobals "Reader" = some (some (.ref CR)))
    (pgR : PySem.W.plainGet K CR Str.empty = true)
    (hdR : PySem.W.hasDictIn K CR = true)
    (poR : PySem.W.plainOver K CR = true)
    (saR : PySem.W.findIn K (.ref CR) "__setattr__" = some (some (.builtin "object.__setattr__")))
    (mkR : PySem.W.makesIn K CR = true)
    (kpR : PySem.W.keepIn K (.ref CR) = true)
    (nR_rows : PySem.W.findIn K (.ref CR) "rows" = some none)
    (nR_bodies : PySem.W.findIn K (.ref CR) "bodies" = some none)
    (nR_headers : PySem.W.findIn K (.ref CR) "_headers" = some none)
    (nR_many_blocks : PySem.W.findIn K (.ref CR) "_many_blocks" = some none)
    (gLb : PySem.W.nsIn K mainGlobals "Library" = some (some (.ref CL)))
    (pgLb : PySem.W.plainGet K CL Str.empty = true)
    (hdLb : PySem.W.hasDictIn K CL = true)
    (poLb : PySem.W.plainOver K CL = true)
    (saLb : PySem.W.findIn K (.ref CL) "__setattr__" = some (some (.builtin "object.__setattr__")))
    (mkL : PySem.W.makesIn K CL = true)
    (kpL : PySem.W.keepIn K (.ref CL) = true)
    (nLb_text : PySem.W.findIn K (.ref CL) "_text" = some none)
    (nLb_rows : PySem.W.findIn K (.ref CL) "_rows" = some none)
    (nLb_bodies : PySem.W.findIn K (.ref CL) "_bodies" = some none)
    (nLb_statements : PySem.W.findIn K (.ref CL) "_statements" = some none)
    (gtL : PySem.W.nsIn K mainGlobals "LEADING" = some (some (.ref tL)))
    (ltL : K.lookup tL = some ⟨.type "tuple", ddL, .seq #[.str "block" qL0, .str "maybe" qL1, .str "repeat" qL2, .str "try" qL3] nnL, llL⟩)
    (gtF : PySem.W.nsIn K mainGlobals "FOLLOWING" = some (some (.ref tF)))
    (ltF : K.lookup tF = some ⟨.type "tuple", ddF, .seq #[.str "except" qF0, .str "finally" qF1] nnF, llF⟩)
    (gtG : PySem.W.nsIn K mainGlobals "GUARDING" = some (some (.ref tG)))
    (ltG : K.lookup tG = some ⟨.type "tuple", ddG, .seq #[.str "maybe" qG0, .str "repeat" qG1] nnG, llG⟩)
    (gtN : PySem.W.nsIn K mainGlobals "NO_STATEMENTS" = some (some (.ref tN)))
    (ltN : K.lookup tN = some ⟨.type "tuple", ddN, .seq #[.str "function" qN0, .str "except" qN1, .str "finally" qN2] nnN, llN⟩)
    (gtC : PySem.W.nsIn K mainGlobals "COMMON_ERRORS" = some (some (.ref tC)))
    (ltC : K.lookup tC = some ⟨.type "tuple", ddC, .seq #[.str "doomed" qC0, .str "missing" qC1, .str "present" qC2, .str "refused" qC3, .str "waits" qC4] nnC, llC⟩)
    (giD : PySem.W.nsIn K mainGlobals "DEEPEST" = some (some (.int 8 tkD)))
    (giH : PySem.W.nsIn K mainGlobals "HEAVIEST" = some (some (.int 400 tkH)))
    (giO : PySem.W.nsIn K mainGlobals "LONGEST" = some (some (.int 6000 tkO)))
    (gNF : PySem.W.nsIn K mainGlobals "NoFunction" = some (some (.ref EN)))
    (xEN : K.lookup EN = some (excClassObj nm2 qn2 EN N2 bs2 [.ref CI, .type "ValueError", .type "Exception", .type "BaseException", .type "object"] true sn2 su2 ab2 co2 dd2 ka2 kb2 kc2 kd2 ke2 "ValueError.__new__"))
    (sENa : PySem.W.findIn K (.ref EN) "__setattr__" = some (some (.builtin "object.__setattr__")))
    (sENg : PySem.W.findIn K (.ref EN) "__getattribute__" = some (some (.builtin "BaseException.__getattribute__")))
    (sENh : PySem.W.findIn K (.ref EN) "__getattr__" = some none)
    (nNn : PySem.W.findIn K (.ref EN) "name" = some none)
    (kEN : PySem.W.keepIn K (.ref EN) = true)
    (eENb : PySem.W.subIn K (.ref EN) (.type "BaseException") = some true)
    (eENt : PySem.W.typeIn K (.ref EN) = some (.type "type"))
    (eENh : PySem.W.hasDictIn K EN = true)
    (eENc : PySem.W.isClsIn K EN = true)
    (uEN : PySem.W.subIn K (.ref EN) (.ref EN) = some true)
    (neL : PySem.W.findIn K (.ref CL) "__ne__" = some (some (.builtin "object.__ne__")))
    (obL : PySem.W.mroIn K CL (.type "object") = some true)
    (gclL : PySem.W.findIn K (.ref CL) "__class__" = some (some (.builtin "object.__class__")))
    (cgtL : PySem.W.specialIn K (.builtin "object.__class__") "__get__" = some (some (.builtin "getset_descriptor.__get__")))
    (ctkL : PySem.W.takesIn K (.builtin "object.__class__") = some true)
    (iclL : PySem.W.isClsIn K CL = true)
    (tycL : PySem.W.typeIn K (.ref CL) = some (.type "type"))
    (fiIn : PySem.W.fnIn K f48 = true)
    (fiAt : PySem.W.fnIn K f49 = true)
    : ∃ fd : FuncData, (∀ (s : Shared) (v : Value), BindsTo s fd ⟨[v], []⟩ [("script", v)]) ∧ ∀ base : Heap, K.In base → base.Ns mainGlobals mg → FnOk l.prog w K mg base CX0 27 fa fd ["script"] (spLaw K) := by
  have e := hfa.symm.trans (PySem.W.mg_of X G a55)
  cases e
  have T : Bn mg := ⟨PySem.W.mg_none_of X G z_int, PySem.W.mg_none_of X G z_len, PySem.W.mg_none_of X G z_abs, PySem.W.mg_none_of X G z_range, PySem.W.mg_none_of X G z_max, PySem.W.mg_none_of X G z_min, PySem.W.mg_none_of X G z_isi, PySem.W.mg_none_of X G z_str, PySem.W.mg_none_of X G z_all, PySem.W.mg_none_of X G z_any, PySem.W.mg_none_of X G z_list, PySem.W.mg_none_of X G z_tuple, PySem.W.mg_none_of X G z_set, PySem.W.mg_none_of X G z_sorted, PySem.W.mg_none_of X G z_sum, PySem.W.mg_none_of X G z_bool⟩
  have F0 := fun_mk (st := s_law_pool) l0 c0 k0
  have b0 := F0.binds (ps := ["script", "at"]) fun _ _ _ _ _ _ us hl => match us, hl with | [_, _], _ => rfl
  have F1 := fun_mk (st := s_law_draw) l1 c1 k1
  have b1 := F1.binds (ps := ["pool", "many"]) fun _ _ _ _ _ _ us hl => match us, hl with | [_, _], _ => rfl
  have F2 := fun_mk (st := s_law_word) l2 c2 k2
  have b2 := F2.binds (ps := ["pool"]) fun _ _ _ _ _ _ us hl => match us, hl with | [_], _ => rfl
  have F3 := fun_mk (st := s_is_word) l3 c3 k3
  have b3 := F3.binds (ps := ["thing"]) fun _ _ _ _ _ _ us hl => match us, hl with | [_], _ => rfl
  have F4 := fun_mk (st := s_Mode_is_mode) l4 c4 k4
  have b4 := F4.binds (ps := ["thing"]) fun _ _ _ _ _ _ us hl => match us, hl with | [_], _ => rfl
  have F5 := fun_mk (st := s_are_keeping) l5 c5 k5
  have b5 := F5.binds (ps := ["words"]) fun _ _ _ _ _ _ us hl => match us, hl with | [_], _ => rfl
  have F6 := fun_mk (st := s_are_formed) l6 c6 k6
  have b6 := F6.binds (ps := ["words"]) fun _ _ _ _ _ _ us hl => match us, hl with | [_], _ => rfl
  have F7 := fun_mk (st := s_can_nest) l7 c7 k7
  have b7 := F7.binds (ps := ["kind", "nesting"]) fun _ _ _ _ _ _ us hl => match us, hl with | [_, _], _ => rfl
  have F8 := fun_mk (st := s_split_line) l8 c8 k8
  have b8 := F8.binds (ps := ["line"]) fun _ _ _ _ _ _ us hl => match us, hl with | [_], _ => rfl
  have F9 := fun_mk (st := s_Statement___init__) l9 c9 k9
  have b9 := F9.binds (ps := ["self", "words", "number"]) fun _ _ _ _ _ _ us hl => match us, hl with | [_, _, _], _ => rfl
  have F10 := fun_mk (st := s_Header___init__) l10 c10 k10
  have b10 := F10.binds (ps := ["self", "words", "statement", "body"]) fun _ _ _ _ _ _ us hl => match us, hl with | [_, _, _, _], _ => rfl
  have F11 := fun_mk (st := s_Header_is_bare_try) l11 c11 k11
  have b11 := F11.binds (ps := ["self"]) fun _ _ _ _ _ _ us hl => match us, hl with | [_], _ => rfl
  have F12 := fun_mk (st := s_Header_can_go_on) l12 c12 k12
  have b12 := F12.binds (ps := ["self", "kind"]) fun _ _ _ _ _ _ us hl => match us, hl with | [_, _], _ => rfl
  have F13 := fun_mk (st := s_Reader__lacks_body) l13 c13 k13
  have b13 := F13.binds (ps := ["self"]) fun _ _ _ _ _ _ us hl => match us, hl with | [_], _ => rfl
  have F14 := fun_mk (st := s_Reader__leaves_bare_try) l14 c14 k14
  have b14 := F14.binds (ps := ["self", "nesting"]) fun _ _ _ _ _ _ us hl => match us, hl with | [_, _], _ => rfl
  have F15 := fun_mk (st := s_Reader__can_follow) l15 c15 k15
  have b15 := F15.binds (ps := ["self", "nesting", "words"]) fun _ _ _ _ _ _ us hl => match us, hl with | [_, _, _], _ => rfl
  have F16 := fun_mk (st := s_Reader__add_function) l16 c16 k16
  have b16 := F16.binds (ps := ["self", "words"]) fun _ _ _ _ _ _ us hl => match us, hl with | [_, _], _ => rfl
  have F17 := fun_mk (st := s_Reader__add_following) l17 c17 k17
  have b17 := F17.binds (ps := ["self", "nesting", "words"]) fun _ _ _ _ _ _ us hl => match us, hl with | [_, _, _], _ => rfl
  have F18 := fun_mk (st := s_Reader__add_statement) l18 c18 k18
  have b18 := F18.binds (ps := ["self", "nesting", "words"]) fun _ _ _ _ _ _ us hl => match us, hl with | [_, _, _], _ => rfl
  have F19 := fun_mk (st := s_Reader___init__) l19 c19 k19
  have b19 := F19.binds (ps := ["self"]) fun _ _ _ _ _ _ us hl => match us, hl with | [_], _ => rfl
  have F20 := fun_mk (st := s_Reader_read) l20 c20 k20
  have b20 := F20.binds (ps := ["self", "line"]) fun _ _ _ _ _ _ us hl => match us, hl with | [_, _], _ => rfl
  have F21 := fun_mk (st := s_Reader_finish) l21 c21 k21
  have b21 := F21.binds (ps := ["self"]) fun _ _ _ _ _ _ us hl => match us, hl with | [_], _ => rfl
  have F22 := fun_mk (st := s_Statement_inner_bodies) l22 c22 k22
  have b22 := F22.binds (ps := ["self"]) fun _ _ _ _ _ _ us hl => match us, hl with | [_], _ => rfl
  have F23 := fun_mk (st := s_unguarded) l23 c23 k23
  have b23 := F23.binds (ps := ["body"]) fun _ _ _ _ _ _ us hl => match us, hl with | [_], _ => rfl
  have F24 := fun_mk (st := s_guarded_bodies) l24 c24 k24
  have b24 := F24.binds (ps := ["body"]) fun _ _ _ _ _ _ us hl => match us, hl with | [_], _ => rfl
  have F25 := fun_mk (st := s_calls_in) l25 c25 k25
  have b25 := F25.binds (ps := ["body", "bodies"]) fun _ _ _ _ _ _ us hl => match us, hl with | [_, _], _ => rfl
  have F26 := fun_mk (st := s_weight) l26 c26 k26
  have b26 := F26.binds (ps := ["body", "bodies", "weights"]) fun _ _ _ _ _ _ us hl => match us, hl with | [_, _, _], _ => rfl
  have F27 := fun_mk (st := s_comes_back) l27 c27 k27
  have b27 := F27.binds (ps := ["name", "called"]) fun _ _ _ _ _ _ us hl => match us, hl with | [_, _], _ => rfl
  have F28 := fun_mk (st := s_weigh) l28 c28 k28
  have b28 := F28.binds (ps := ["name", "bodies", "weights"]) fun _ _ _ _ _ _ us hl => match us, hl with | [_, _, _], _ => rfl
  have F29 := fun_mk (st := s_check_calls) l29 c29 k29
  have b29 := F29.binds (ps := ["bodies"]) fun _ _ _ _ _ _ us hl => match us, hl with | [_], _ => rfl
  have F30 := fun_mk (st := s_mentioned_errors) l30 c30 k30
  have b30 := F30.binds (ps := ["words"]) fun _ _ _ _ _ _ us hl => match us, hl with | [_], _ => rfl
  have F31 := fun_mk (st := s_Library_functions) l31 c31 k31
  have b31 := F31.binds (ps := ["self"]) fun _ _ _ _ _ _ us hl => match us, hl with | [_], _ => rfl
  have F32 := fun_mk (st := s_Library_records) l32 c32 k32
  have b32 := F32.binds (ps := ["self"]) fun _ _ _ _ _ _ us hl => match us, hl with | [_], _ => rfl
  have F33 := fun_mk (st := s_Library_errors) l33 c33 k33
  have b33 := F33.binds (ps := ["self"]) fun _ _ _ _ _ _ us hl => match us, hl with | [_], _ => rfl
  have F34 := fun_mk (st := s_Library_unknown) l34 c34 k34
  have b34 := F34.binds (ps := ["self"]) fun _ _ _ _ _ _ us hl => match us, hl with | [_], _ => rfl
  have F35 := fun_mk (st := s_Library_blocks) l35 c35 k35
  have b35 := F35.binds (ps := ["self"]) fun _ _ _ _ _ _ us hl => match us, hl with | [_], _ => rfl
  have F36 := fun_mk (st := s_Library__check_counts) l36 c36 k36
  have b36 := F36.binds (ps := ["self"]) fun _ _ _ _ _ _ us hl => match us, hl with | [_], _ => rfl
  have F37 := fun_mk (st := s_Library___len__) l37 c37 k37
  have b37 := F37.binds (ps := ["self"]) fun _ _ _ _ _ _ us hl => match us, hl with | [_], _ => rfl
  have F38 := fun_mk (st := s_Library__take) l38 c38 k38
  have b38 := F38.binds (ps := ["self", "text"]) fun _ _ _ _ _ _ us hl => match us, hl with | [_, _], _ => rfl
  have F39 := fun_mk (st := s_Library___init__) l39 c39 k39
  have b39 := F39.binds (ps := ["self", "text"]) fun _ _ _ _ _ _ us hl => match us, hl with | [_, _], _ => rfl
  have F40 := fun_mk (st := s_law_different) l40 c40 k40
  have b40 := F40.binds (ps := ["pool", "many", "taken"]) fun _ _ _ _ _ _ us hl => match us, hl with | [_, _, _], _ => rfl
  have F41 := fun_mk (st := s_law_pick) l41 c41 k41
  have b41 := F41.binds (ps := ["pool", "some"]) fun _ _ _ _ _ _ us hl => match us, hl with | [_, _], _ => rfl
  have F42 := fun_mk (st := s_law_row) l42 c42 k42
  have b42 := F42.binds (ps := ["nesting", "words"]) fun _ _ _ _ _ _ us hl => match us, hl with | [_, _], _ => rfl
  have F43 := fun_mk (st := s_law_body) l43 c43 k43
  have b43 := F43.binds (ps := ["pool", "nesting", "words", "room"]) fun _ _ _ _ _ _ us hl => match us, hl with | [_, _, _, _], _ => rfl
  have F44 := fun_mk (st := s_law_statement) l44 c44 k44
  have b44 := F44.binds (ps := ["pool", "nesting", "words", "room"]) fun _ _ _ _ _ _ us hl => match us, hl with | [_, _, _, _], _ => rfl
  have F45 := fun_mk (st := s_law_try) l45 c45 k45
  have b45 := F45.binds (ps := ["pool", "nesting", "words", "room"]) fun _ _ _ _ _ _ us hl => match us, hl with | [_, _, _, _], _ => rfl
  have F46 := fun_mk (st := s_law_library) l46 c46 k46
  have b46 := F46.binds (ps := ["pool", "names", "others", "room"]) fun _ _ _ _ _ _ us hl => match us, hl with | [_, _, _, _], _ => rfl
  have F47 := fun_mk (st := s_NoFunction___init__) l47 c47 k47
  have b47 := F47.binds (ps := ["self", "name"]) fun _ _ _ _ _ _ us hl => match us, hl with | [_, _], _ => rfl
  have F48 := fun_mk (st := s_Library___contains__) l48 c48 k48
  have b48 := F48.binds (ps := ["self", "x"]) fun _ _ _ _ _ _ us hl => match us, hl with | [_, _], _ => rfl
  have F49 := fun_mk (st := s_Library___getitem__) l49 c49 k49
  have b49 := F49.binds (ps := ["self", "at"]) fun _ _ _ _ _ _ us hl => match us, hl with | [_, _], _ => rfl
  have F50 := fun_mk (st := s_Library___eq__) l50 c50 k50
  have b50 := F50.binds (ps := ["self", "other"]) fun _ _ _ _ _ _ us hl => match us, hl with | [_, _], _ => rfl
  have F51 := fun_mk (st := s_Library___str__) l51 c51 k51
  have b51 := F51.binds (ps := ["self"]) fun _ _ _ _ _ _ us hl => match us, hl with | [_], _ => rfl
  have F52 := fun_mk (st := s_law_lines) l52 c52 k52
  have b52 := F52.binds (ps := ["library", "name"]) fun _ _ _ _ _ _ us hl => match us, hl with | [_, _], _ => rfl
  have F53 := fun_mk (st := s_law_due) l53 c53 k53
  have b53 := F53.binds (ps := ["rows", "name"]) fun _ _ _ _ _ _ us hl => match us, hl with | [_, _], _ => rfl
  have F54 := fun_mk (st := s_law_asked) l54 c54 k54
  have b54 := F54.binds (ps := ["library", "lines", "thing"]) fun _ _ _ _ _ _ us hl => match us, hl with | [_, _, _], _ => rfl
  have F55 := fun_mk (st := s_law) l55 c55 k55
  refine ⟨PySem.W.fnOf "law" "law" (defArgs s_law) (defBody s_law) (defScope s_law) .none kV55 dc55 pm55 an55 cd55 ct55, fun s v => .of_eq rfl, fun base hbK hbG => ?_⟩
  have conM : ∀ nm z : Str, (nm, z) ∈ ([("JOIN", "join"), ("INNER", "inner"), ("APART", "apart"), ("MUST", "must"), ("EITHER", "either"), ("NEVER", "never"), ("OUTSIDE", "outside"), ("ALONE", "alone")] : List (Str × Str)) → ∃ u, ClX.CVal K CM (.type "type") nm (.str z) u := by
    intro nm z hz
    simp only [List.mem_cons, List.not_mem_nil, or_false, Prod.mk.injEq] at hz
    rcases hz with ⟨rfl, rfl⟩ | ⟨rfl, rfl⟩ | ⟨rfl, rfl⟩ | ⟨rfl, rfl⟩ | ⟨rfl, rfl⟩ | ⟨rfl, rfl⟩ | ⟨rfl, rfl⟩ | ⟨rfl, rfl⟩
    · exact ⟨_, m0, ⟨_, rfl⟩⟩
    · exact ⟨_, m1, ⟨_, rfl⟩⟩
    · exact ⟨_, m2, ⟨_, rfl⟩⟩
    · exact ⟨_, m3, ⟨_, rfl⟩⟩
    · exact ⟨_, m4, ⟨_, rfl⟩⟩
    · exact ⟨_, m5, ⟨_, rfl⟩⟩
    · exact ⟨_, m6, ⟨_, rfl⟩⟩
    · exact ⟨_, m7, ⟨_, rfl⟩⟩
  have M : ModeTxt K mg CM pM f4 tM (.type "type") := { mo := PySem.W.mg_of X G mo, rd := ⟨mrd, mga⟩, all := ⟨mall, rfl⟩, tup := ⟨_, _, _, mlt, rfl, rfl, (by show 8 ≤ sizeLine; decide), .cons ⟨_, rfl⟩ (.cons ⟨_, rfl⟩ (.cons ⟨_, rfl⟩ (.cons ⟨_, rfl⟩ (.cons ⟨_, rfl⟩ (.cons ⟨_, rfl⟩ (.cons ⟨_, rfl⟩ (.cons ⟨_, rfl⟩ .nil)))))))⟩, con := conM, sm := ⟨⟨mrd, mga⟩, msm, ⟨_, a4⟩, k4⟩ }
  have bIM := b4
  have B : CTx K mg (⟨CS, CH, CR⟩ : LC) := ⟨⟨pgS, hdS, poS, saS⟩, ⟨pgH, hdH, poH, saH⟩, ⟨pgR, hdR, poR, saR⟩, nS_kind, nS_number, nS_word, nS_kept, nS_body, nS_handlers, nS_last, nH_words, nH_statement, nH_body, nR_rows, nR_bodies, nR_headers, nR_many_blocks⟩
  have LB : LbT K CL := ⟨⟨pgLb, hdLb, poLb, saLb⟩, nLb_text, nLb_rows, nLb_bodies, nLb_statements⟩
  have gL : TupG K mg "LEADING" tL leadS := ⟨PySem.W.mg_of X G gtL, _, _, _, ltL, rfl, rfl, (by show 4 ≤ sizeLine; decide), (.cons ⟨_, rfl⟩ (.cons ⟨_, rfl⟩ (.cons ⟨_, rfl⟩ (.cons ⟨_, rfl⟩ .nil))))⟩
  have gF : TupG K mg "FOLLOWING" tF follS := ⟨PySem.W.mg_of X G gtF, _, _, _, ltF, rfl, rfl, (by show 2 ≤ sizeLine; decide), (.cons ⟨_, rfl⟩ (.cons ⟨_, rfl⟩ .nil))⟩
  have gG : TupG K mg "GUARDING" tG guaS := ⟨PySem.W.mg_of X G gtG, _, _, _, ltG, rfl, rfl, (by show 2 ≤ sizeLine; decide), (.cons ⟨_, rfl⟩ (.cons ⟨_, rfl⟩ .nil))⟩
  have gN : TupG K mg "NO_STATEMENTS" tN nonS := ⟨PySem.W.mg_of X G gtN, _, _, _, ltN, rfl, rfl, (by show 3 ≤ sizeLine; decide), (.cons ⟨_, rfl⟩ (.cons ⟨_, rfl⟩ (.cons ⟨_, rfl⟩ .nil)))⟩
  have gC : TupG K mg "COMMON_ERRORS" tC comS := ⟨PySem.W.mg_of X G gtC, _, _, _, ltC, rfl, rfl, (by show 5 ≤ sizeLine; decide), (.cons ⟨_, rfl⟩ (.cons ⟨_, rfl⟩ (.cons ⟨_, rfl⟩ (.cons ⟨_, rfl⟩ (.cons ⟨_, rfl⟩ .nil)))))⟩
  have gDv : ∃ u, mg "DEEPEST" = some u ∧ RelV (.int 8) u := ⟨_, PySem.W.mg_of X G giD, ⟨_, rfl⟩⟩
  have gHv : ∃ u, mg "HEAVIEST" = some u ∧ RelV (.int 400) u := ⟨_, PySem.W.mg_of X G giH, ⟨_, rfl⟩⟩
  have gLo : ∃ u, mg "LONGEST" = some u ∧ RelV (.int 6000) u := ⟨_, PySem.W.mg_of X G giO, ⟨_, rfl⟩⟩
  have Lx : LTxt K mg tL tF := ⟨gL, gF, gDv⟩
  have ON : OexC K EN := ⟨⟨_, _, _, _, _, _, _, _, _, _, _, _, _, _, _, xEN, by rfl⟩, sENa, eENb, eENt, kEN⟩
  have XN : XfC K EN := ⟨sENg, sENh, eENb, eENh⟩
  have NF : NFx K mg EN := ⟨PySem.W.mg_of X G gNF, XN, nNn, exm_pair eENb eENc eENt uEN⟩
  have D_law_pool : Df l.prog w K mg base 1 "_law_pool" ["script", "at"] (spPool K) := ⟨f0, _, ok_pool F0 T, PySem.W.mg_of X G a0, k0, b0⟩
  have D_law_draw : Df l.prog w K mg base 1 "_law_draw" ["pool", "many"] spDraw := ⟨f1, _, ok_draw F1 T, PySem.W.mg_of X G a1, k1, b1⟩
  have D_law_word : Df l.prog w K mg base 2 "_law_word" ["pool"] spWord := ⟨f2, _, ok_word F2 T D_law_draw, PySem.W.mg_of X G a2, k2, b2⟩
  have D_is_word : Df l.prog w K mg base 1 "is_word" ["thing"] (spIsWord K) := ⟨f3, _, ok_is_word F3 T, PySem.W.mg_of X G a3, k3, b3⟩
  have F_is_mode : FnOk l.prog w K mg base CX0 1 f4 _ ["thing"] (spIsMode K) := ok_is_mode F4 T M
  have D_are_keeping : Df l.prog w K mg base 1 "_are_keeping" ["words"] spKeeping := ⟨f5, _, ok_keeping F5 T, PySem.W.mg_of X G a5, k5, b5⟩
  have D_are_formed : Df l.prog w K mg base 2 "_are_formed" ["words"] spFormed := ⟨f6, _, ok_formed F6 T M F_is_mode bIM D_are_keeping, PySem.W.mg_of X G a6, k6, b6⟩
  have D_can_nest : Df l.prog w K mg base 1 "_can_nest" ["kind", "nesting"] _ := ⟨f7, _, ok_can_nest F7 T Lx, PySem.W.mg_of X G a7, k7, b7⟩
  have D_split_line : Df l.prog w K mg base 3 "split_line" ["line"] spSplit := ⟨f8, _, ok_split F8 T D_is_word D_are_formed D_can_nest, PySem.W.mg_of X G a8, k8, b8⟩
  have C_S : CDfA l.prog w K mg base 1 "Statement" CS ["self", "words", "number"] (spSt (⟨CS, CH, CR⟩ : LC)) := ⟨f9, _, ⟨mkS, a9, i9, kpS⟩, ok_st F9 T B, b9, PySem.W.mg_of X G gS⟩
  have C_H : CDfA l.prog w K mg base 1 "Header" CH ["self", "words", "statement", "body"] (spHdI (⟨CS, CH, CR⟩ : LC)) := ⟨f10, _, ⟨mkH, a10, i10, kpH⟩, ok_hd F10 B, b10, PySem.W.mg_of X G gH⟩
  have M_bare : MDf l.prog w K mg base CX0 1 CH "is_bare_try" ["self"] [] _ := ⟨f11, _, [], ok_bare F11 B, ⟨a11, i11, k11⟩, b11, .nil⟩
  have M_goOn : MDf l.prog w K mg base CX0 1 CH "can_go_on" ["self", "kind"] [] _ := ⟨f12, _, [], ok_goOn F12 T B, ⟨a12, i12, k12⟩, b12, .nil⟩
  have M_lacks : MDf l.prog w K mg base CX0 1 CR "_lacks_body" ["self"] [] _ := ⟨f13, _, [], ok_lacks F13 T B, ⟨a13, i13, k13⟩, b13, .nil⟩
  have M_leaves : MDf l.prog w K mg base CX0 2 CR "_leaves_bare_try" ["self", "nesting"] [] _ := ⟨f14, _, [], ok_leaves F14 T B M_bare, ⟨a14, i14, k14⟩, b14, .nil⟩
  have M_can : MDf l.prog w K mg base CX0 3 CR "_can_follow" ["self", "nesting", "words"] [] _ := ⟨f15, _, [], ok_can F15 T B Lx M_lacks M_leaves M_goOn, ⟨a15, i15, k15⟩, b15, .nil⟩
  have M_addF : MDf l.prog w K mg base CX0 3 CR "_add_function" ["self", "words"] [] _ := ⟨f16, _, [], ok_addF F16 T B C_H, ⟨a16, i16, k16⟩, b16, .nil⟩
  have M_addL : MDf l.prog w K mg base CX0 3 CR "_add_following" ["self", "nesting", "words"] [] _ := ⟨f17, _, [], ok_addL F17 T B C_H, ⟨a17, i17, k17⟩, b17, .nil⟩
  have M_addS : MDf l.prog w K mg base CX0 3 CR "_add_statement" ["self", "nesting", "words"] [] _ := ⟨f18, _, [], ok_addS F18 T B Lx C_S C_H, ⟨a18, i18, k18⟩, b18, .nil⟩
  have C_R : CDf0 l.prog w K mg base 1 "Reader" CR (spRdI (⟨CS, CH, CR⟩ : LC)) := ⟨f19, _, ⟨mkR, a19, i19, kpR⟩, ok_rdI F19 B, b19, PySem.W.mg_of X G gR⟩
  have M_read : MDf l.prog w K mg base CX0 4 CR "read" ["self", "line"] [] _ := ⟨f20, _, [], ok_read F20 T B Lx D_split_line M_can M_addF M_addL M_addS, ⟨a20, i20, k20⟩, b20, .nil⟩
  have M_finish : MDf l.prog w K mg base CX0 3 CR "finish" ["self"] [] _ := ⟨f21, _, [], ok_finish F21 B M_lacks M_leaves, ⟨a21, i21, k21⟩, b21, .nil⟩
  have M_inner : MDf l.prog w K mg base CX0 1 CS "inner_bodies" ["self"] [] _ := ⟨f22, _, [], ok_inner F22 B, ⟨a22, i22, k22⟩, b22, .nil⟩
  have R_unguarded : ∀ n, Df l.prog w K mg base (1 + n) "unguarded" ["body"] (spUng (⟨CS, CH, CR⟩ : LC) n) := fun n => by
    induction n with
    | zero => exact ⟨f23, _, ⟨fun _ _ _ _ h => (no_ung h).elim, by
      intros
      rename_i h
      exact (no_ung h).elim⟩, PySem.W.mg_of X G a23, k23, b23⟩
    | succ n ih =>
      have e : 1 + (n + 1) = 2 + n := by omega
      rw [e]
      exact ⟨f23, _, ok_ung F23 B T gG M_inner n ih, PySem.W.mg_of X G a23, k23, b23⟩
  have D_unguarded := R_unguarded 9
  have R_guarded_bodies : ∀ n, Df l.prog w K mg base (1 + n) "guarded_bodies" ["body"] (spGua (⟨CS, CH, CR⟩ : LC) n) := fun n => by
    induction n with
    | zero => exact ⟨f24, _, ⟨fun _ _ _ _ h => (no_gua h).elim, by
      intros
      rename_i h
      exact (no_gua h).elim⟩, PySem.W.mg_of X G a24, k24, b24⟩
    | succ n ih =>
      have e : 1 + (n + 1) = 2 + n := by omega
      rw [e]
      exact ⟨f24, _, ok_gua F24 B T gG M_inner n ih, PySem.W.mg_of X G a24, k24, b24⟩
  have D_guarded_bodies := R_guarded_bodies 9
  have D_calls_in : Df l.prog w K mg base 11 "calls_in" ["body", "bodies"] (spCalls (⟨CS, CH, CR⟩ : LC)) := ⟨f25, _, ok_calls F25 B T D_unguarded, PySem.W.mg_of X G a25, k25, b25⟩
  have D_weight : Df l.prog w K mg base 12 "_weight" ["body", "bodies", "weights"] (spWt (⟨CS, CH, CR⟩ : LC)) := ⟨f26, _, ok_wt F26 B T D_unguarded D_calls_in, PySem.W.mg_of X G a26, k26, b26⟩
  have D_comes_back : Df l.prog w K mg base 1 "_comes_back" ["name", "called"] _ := ⟨f27, _, ok_cb F27 T, PySem.W.mg_of X G a27, k27, b27⟩
  have D_weigh : Df l.prog w K mg base 13 "_weigh" ["name", "bodies", "weights"] (spWgh (⟨CS, CH, CR⟩ : LC)) := ⟨f28, _, ok_wgh F28 B T D_calls_in D_weight, PySem.W.mg_of X G a28, k28, b28⟩
  have D_check_calls : Df l.prog w K mg base 14 "check_calls" ["bodies"] (spChk (⟨CS, CH, CR⟩ : LC)) := ⟨f29, _, ok_chk F29 B T gHv D_calls_in D_weight D_weigh D_comes_back D_guarded_bodies, PySem.W.mg_of X G a29, k29, b29⟩
  have D_mentioned_errors : Df l.prog w K mg base 1 "mentioned_errors" ["words"] _ := ⟨f30, _, ok_ment F30 T, PySem.W.mg_of X G a30, k30, b30⟩
  have M_functions : MDf l.prog w K mg base CX0 1 CL "functions" ["self"] [] _ := ⟨f31, _, [], ok_functions (c := (⟨CS, CH, CR⟩ : LC)) F31 T LB, ⟨a31, i31, k31⟩, b31, .nil⟩
  have M_records : MDf l.prog w K mg base CX0 1 CL "records" ["self"] [] _ := ⟨f32, _, [], ok_records (c := (⟨CS, CH, CR⟩ : LC)) F32 T LB, ⟨a32, i32, k32⟩, b32, .nil⟩
  have M_errors : MDf l.prog w K mg base CX0 2 CL "errors" ["self"] [] _ := ⟨f33, _, [], ok_errors (c := (⟨CS, CH, CR⟩ : LC)) F33 T LB gC D_mentioned_errors, ⟨a33, i33, k33⟩, b33, .nil⟩
  have M_unknown : MDf l.prog w K mg base CX0 1 CL "unknown" ["self"] [] _ := ⟨f34, _, [], ok_unknown (c := (⟨CS, CH, CR⟩ : LC)) F34 T LB, ⟨a34, i34, k34⟩, b34, .nil⟩
  have M_blocks : MDf l.prog w K mg base CX0 1 CL "blocks" ["self"] [] _ := ⟨f35, _, [], ok_blocks (c := (⟨CS, CH, CR⟩ : LC)) F35 T LB, ⟨a35, i35, k35⟩, b35, .nil⟩
  have M_cnt : MDf l.prog w K mg base CX0 3 CL "_check_counts" ["self"] [] _ := ⟨f36, _, [], ok_cnt F36 T LB M_records M_errors M_blocks M_unknown, ⟨a36, i36, k36⟩, b36, .nil⟩
  have M_take : MDf l.prog w K mg base CX0 15 CL "_take" ["self", "text"] [] _ := ⟨f38, _, [], ok_take F38 T B LB gN C_R M_read M_finish M_cnt D_check_calls, ⟨a38, i38, k38⟩, b38, .nil⟩
  have C_L : CDfA l.prog w K mg base 16 "Library" CL ["self", "text"] (spTake (⟨CS, CH, CR⟩ : LC) CL) := ⟨f39, _, ⟨mkL, a39, i39, kpL⟩, ok_lbI F39 T LB gLo M_take, b39, PySem.W.mg_of X G gLb⟩
  have D_law_different : Df l.prog w K mg base 3 "_law_different" ["pool", "many", "taken"] (spDiff K) := ⟨f40, _, ok_diff F40 T D_law_word, PySem.W.mg_of X G a40, k40, b40⟩
  have D_law_pick : Df l.prog w K mg base 2 "_law_pick" ["pool", "some"] spPick := ⟨f41, _, ok_pick F41 T D_law_draw, PySem.W.mg_of X G a41, k41, b41⟩
  have D_law_row : Df l.prog w K mg base 1 "_law_row" ["nesting", "words"] spRow := ⟨f42, _, ok_row F42 T, PySem.W.mg_of X G a42, k42, b42⟩
  have W_body := fun (k : Nat) (sp : Sp) (ok : FnOk l.prog w K mg base CX0 k f43 _ ["pool", "nesting", "words", "room"] sp) => (⟨f43, _, ok, PySem.W.mg_of X G a43, k43, b43⟩ : Df l.prog w K mg base k "_law_body" ["pool", "nesting", "words", "room"] sp)
  have FF_body := F43
  have W_stmt := fun (k : Nat) (sp : Sp) (ok : FnOk l.prog w K mg base CX0 k f44 _ ["pool", "nesting", "words", "room"] sp) => (⟨f44, _, ok, PySem.W.mg_of X G a44, k44, b44⟩ : Df l.prog w K mg base k "_law_statement" ["pool", "nesting", "words", "room"] sp)
  have FF_stmt := F44
  have D_body : ∀ n, Df l.prog w K mg base (3 * n + 1) "_law_body" ["pool", "nesting", "words", "room"] (spMake n 0 0 fun _ => 1) := fun n => by
    induction n with
    | zero => exact W_body _ _ ⟨fun _ _ _ _ h => (no_make h).elim, by
      intros
      rename_i h
      exact (no_make h).elim⟩
    | succ n ih => exact W_body _ _ (ok_body FF_body T D_law_draw n (W_stmt _ _ (ok_stmt FF_stmt T D_law_draw D_law_pick D_law_row n ih ⟨f45, _, ok_try F45 T D_law_draw D_law_pick D_law_row n ih, PySem.W.mg_of X G a45, k45, b45⟩)))
  have D_body8 := D_body 8
  have D_law_library : Df l.prog w K mg base 26 "_law_library" ["pool", "names", "others", "room"] spLibr := ⟨f46, _, ok_library F46 T D_law_draw D_law_different D_body8, PySem.W.mg_of X G a46, k46, b46⟩
  have E_NF : EDf l.prog w K mg base 1 "NoFunction" EN "name" fsNF := ⟨f47, _, ⟨PySem.W.mg_of X G gNF, ON, XN, a47, t47⟩, ok_NoFunction F47 ON nNn, b47⟩
  have C_in : SpD l.prog w K mg base CX0 2 CL "__contains__" (spConL K (⟨CS, CH, CR⟩ : LC) CL) := ⟨f48, a48, i48, fiIn, ((ok_conL (c := (⟨CS, CH, CR⟩ : LC)) F48 T LB D_is_word).raw b48 .nil).imp fun vs H Q E h => by
    rw [List.append_nil]
    exact h⟩
  have C_at : SpD l.prog w K mg base (L2.CX l.prog w) 4 CL "__getitem__" (spAtL K (⟨CS, CH, CR⟩ : LC) CL EN) := ⟨f49, a49, i49, fiAt, ((ok_atL (c := (⟨CS, CH, CR⟩ : LC)) F49 T LB D_is_word E_NF kEN).raw b49 .nil).imp fun vs H Q E h => by
    rw [List.append_nil]
    exact h⟩
  have EQ : EqTxt K CL f50 := ⟨a50, i50, neL, obL, iclL, tycL, gclL, cgtL, ctkL, ⟨pgLb, hdLb, poLb, saLb⟩⟩
  have F_eq : FnR l.prog w K mg base CX0 1 f50 (spEqL K CL) := ((ok_eqL F50 T LB EQ (PySem.W.mg_of X G gLb)).raw b50 .nil).imp fun vs H Q E h => by
    rw [List.append_nil]
    exact h
  have F_str : FnR l.prog w K mg base CX0 1 f51 (spStrL CL) := ((ok_strL F51 T LB).raw b51 .nil).imp fun vs H Q E h => by
    rw [List.append_nil]
    exact h
  have O : LbOps l.prog w K mg base CL := ⟨⟨_, EQ, F_eq⟩, ⟨f51, a51, i51, F_str⟩⟩
  have D_law_lines : Df l.prog w K mg base 6 "_law_lines" ["library", "name"] (spLns K (⟨CS, CH, CR⟩ : LC) CL) := ⟨f52, _, ok_lns F52 T NF C_at, PySem.W.mg_of X G a52, k52, b52⟩
  have D_law_due : Df l.prog w K mg base 1 "_law_due" ["rows", "name"] (spDue K) := ⟨f53, _, ok_due F53 T, PySem.W.mg_of X G a53, k53, b53⟩
  have D_law_asked : Df l.prog w K mg base 7 "_law_asked" ["library", "lines", "thing"] (spAsked K (⟨CS, CH, CR⟩ : LC) CL) := ⟨f54, _, ok_asked F54 T D_law_due D_law_lines C_in, PySem.W.mg_of X G a54, k54, b54⟩
  exact ok_law20 F55 T D_law_pool D_law_draw D_law_word D_law_different D_law_library C_L D_law_asked O
theorem walk {l : PySem.W.OpenLaw} {q : Program} {loose : List Str} {XP : (Str → Option Value) → Heap → Prop} {YP : World → Heap → Prop} {d : DefRec} {K : Params → PySem.W.Frag} (hn : l.most = some 63) (hdf : d.params.defaults = [])
    (hY : ∀ (w : World) (h : Heap), YP w h → (K w.params).In h)
    (F : ∀ (w : World) (mg : Str → Option Value) (fa : Addr) (h : Heap), (K w.params).In h → h.Ns mainGlobals mg → mg d.name = some (.ref fa) →
      ∃ fd : FuncData, (∀ (s : Shared) (u : Value), BindsTo s fd ⟨[u], []⟩ [("script", u)]) ∧ ∀ base : Heap, (K w.params).In base → base.Ns mainGlobals mg → FnOk l.prog w (K w.params) mg base CX0 27 fa fd ["script"] (spLaw (K w.params))) :
    PySem.W.WalkO q loose XP YP l.row.toRowW d [] (fun f vs => PySem.call f vs) :=
  L2.walk_of (n := 63) (k := 27) (x := "script") (CX := fun _ => CX0) (sp := fun w => spLaw (K w.params)) hn (by decide) hdf ⟨rfl, by decide, by decide⟩ hY F (fun _ _ a ns hl _ hS => ⟨a, ns, rfl, hS, hl, fun _ => rfl⟩) fun _ _ _ _ _ z => z
end IC
open PySem PySem.W PyProof.Rows
set_option maxRecDepth 100000 in
set_option maxHeartbeats 0 in
theorem PySem.Challenge.cw_innercommits_k20_parts_of_libraries_holds : PySem.Challenge.rw_innercommits_k20_parts_of_libraries.Holds := by
  w_on; o_law; k_head; (case hw => w_witness2)
  k_fill
  refine IC.walk (l := PySem.Challenge.rw_innercommits_k20_parts_of_libraries) rfl rfl (fun w h Y => PySem.W.kIn_of Y) ?F
  case F =>
    intro w mg fa h KX G hmg
    refine' IC.all_mk KX G hmg ?a0 ?l0 ?c0 ?k0 ?a1 ?l1 ?c1 ?k1 ?a2 ?l2 ?c2 ?k2 ?a3 ?l3 ?c3 ?k3 ?a4 ?l4 ?c4 ?k4 ?a5 ?l5 ?c5 ?k5 ?a6 ?l6 ?c6 ?k6 ?a7 ?l7 ?c7 ?k7 ?a8 ?l8 ?c8 ?k8 ?a9 ?l9 ?c9 ?k9 ?i9 ?a10 ?l10 ?c10 ?k10 ?i10 ?a11 ?l11 ?c11 ?k11 ?i11 ?a12 ?l12 ?c12 ?k12 ?i12 ?a13 ?l13 ?c13 ?k13 ?i13 ?a14 ?l14 ?c14 ?k14 ?i14 ?a15 ?l15 ?c15 ?k15 ?i15 ?a16 ?l16 ?c16 ?k16 ?i16 ?a17 ?l17 ?c17 ?k17 ?i17 ?a18 ?l18 ?c18 ?k18 ?i18 ?a19 ?l19 ?c19 ?k19 ?i19 ?a20 ?l20 ?c20 ?k20 ?i20 ?a21 ?l21 ?c21 ?k21 ?i21 ?a22 ?l22 ?c22 ?k22 ?i22 ?a23 ?l23 ?c23 ?k23 ?a24 ?l24 ?c24 ?k24 ?a25 ?l25 ?c25 ?k25 ?a26 ?l26 ?c26 ?k26 ?a27 ?l27 ?c27 ?k27 ?a28 ?l28 ?c28 ?k28 ?a29 ?l29 ?c29 ?k29 ?a30 ?l30 ?c30 ?k30 ?a31 ?l31 ?c31 ?k31 ?i31 ?a32 ?l32 ?c32 ?k32 ?i32 ?a33 ?l33 ?c33 ?k33 ?i33 ?a34 ?l34 ?c34 ?k34 ?i34 ?a35 ?l35 ?c35 ?k35 ?i35 ?a36 ?l36 ?c36 ?k36 ?i36 ?a37 ?l37 ?c37 ?k37 ?i37 ?a38 ?l38 ?c38 ?k38 ?i38 ?a39 ?l39 ?c39 ?k39 ?i39 ?a40 ?l40 ?c40 ?k40 ?a41 ?l41 ?c41 ?k41 ?a42 ?l42 ?c42 ?k42 ?a43 ?l43 ?c43 ?k43 ?a44 ?l44 ?c44 ?k44 ?a45 ?l45 ?c45 ?k45 ?a46 ?l46 ?c46 ?k46 ?a47 ?l47 ?c47 ?k47 ?t47 ?a48 ?l48 ?c48 ?k48 ?i48 ?a49 ?l49 ?c49 ?k49 ?i49 ?a50 ?l50 ?c50 ?k50 ?i50 ?a51 ?l51 ?c51 ?k51 ?i51 ?a52 ?l52 ?c52 ?k52 ?a53 ?l53 ?c53 ?k53 ?a54 ?l54 ?c54 ?k54 ?a55 ?l55 ?c55 ?k55 ?z_int ?z_len ?z_abs ?z_range ?z_max ?z_min ?z_isi ?z_str ?z_all ?z_any ?z_list ?z_tuple ?z_set ?z_sorted ?z_sum ?z_bool ?mo ?mrd ?mga ?mall ?mlt ?m0 ?m1 ?m2 ?m3 ?m4 ?m5 ?m6 ?m7 ?msm ?gS ?pgS ?hdS ?poS ?saS ?mkS ?kpS ?nS_kind ?nS_number ?nS_word ?nS_kept ?nS_body ?nS_handlers ?nS_last ?gH ?pgH ?hdH ?poH ?saH ?mkH ?kpH ?nH_words ?nH_statement ?nH_body ?gR ?pgR ?hdR ?poR ?saR ?mkR ?kpR ?nR_rows ?nR_bodies ?nR_headers ?nR_many_blocks ?gLb ?pgLb ?hdLb ?poLb ?saLb ?mkL ?kpL ?nLb_text ?nLb_rows ?nLb_bodies ?nLb_statements ?gtL ?ltL ?gtF ?ltF ?gtG ?ltG ?gtN ?ltN ?gtC ?ltC ?giD ?giH ?giO ?gNF ?xEN ?sENa ?sENg ?sENh ?nNn ?kEN ?eENb ?eENt ?eENh ?eENc ?uEN ?neL ?obL ?gclL ?cgtL ?ctkL ?iclL ?tycL ?fiIn ?fiAt
    (case mo => k_is)
    (case mrd => k_is)
    (case mga => k_is)
    (case mall => k_is)
    (case mlt => k_is)
    (case m0 => k_is)
    (case m1 => k_is)
    (case m2 => k_is)
    (case m3 => k_is)
    (case m4 => k_is)
    (case m5 => k_is)
    (case m6 => k_is)
    (case m7 => k_is)
    (case msm => k_is)
    (case gS => k_is)
    (case pgS => k_is)
    (case hdS => k_is)
    (case poS => k_is)
    (case saS => k_is)
    (case mkS => k_is)
    (case kpS => k_is)
    (case nS_kind => k_is)
    (case nS_number => k_is)
    (case nS_word => k_is)
    (case nS_kept => k_is)
    (case nS_body => k_is)
    (case nS_handlers => k_is)
    (case nS_last => k_is)
    (case gH => k_is)
    (case pgH => k_is)
    (case hdH => k_is)
    (case poH => k_is)
    (case saH => k_is)
    (case mkH => k_is)
    (case kpH => k_is)
    (case nH_words => k_is)
    (case nH_statement => k_is)
    (case nH_body => k_is)
    (case gR => k_is)
    (case pgR => k_is)
    (case hdR => k_is)
    (case poR => k_is)
    (case saR => k_is)
    (case mkR => k_is)
    (case kpR => k_is)
    (case nR_rows => k_is)
    (case nR_bodies => k_is)
    (case nR_headers => k_is)
    (case nR_many_blocks => k_is)
    (case gLb => k_is)
    (case pgLb => k_is)
    (case hdLb => k_is)
    (case poLb => k_is)
    (case saLb => k_is)
    (case mkL => k_is)
    (case kpL => k_is)
    (case nLb_text => k_is)
    (case nLb_rows => k_is)
    (case nLb_bodies => k_is)
    (case nLb_statements => k_is)
    (case gtL => k_is)
    (case ltL => k_is)
    (case gtF => k_is)
    (case ltF => k_is)
    (case gtG => k_is)
    (case ltG => k_is)
    (case gtN => k_is)
    (case ltN => k_is)
    (case gtC => k_is)
    (case ltC => k_is)
    (case giD => k_is)
    (case giH => k_is)
    (case giO => k_is)
    (case gNF => k_is)
    (case xEN => k_is)
    (case sENa => k_is)
    (case sENg => k_is)
    (case sENh => k_is)
    (case nNn => k_is)
    (case kEN => k_is)
    (case eENb => k_is)
    (case eENt => k_is)
    (case eENh => k_is)
    (case eENc => k_is)
    (case uEN => k_is)
    (case neL => k_is)
    (case obL => k_is)
    (case gclL => k_is)
    (case cgtL => k_is)
    (case ctkL => k_is)
    (case iclL => k_is)
    (case tycL => k_is)
    (case a0 => k_is)
    (case l0 => k_is)
    (case c0 => k_is)
    (case k0 => k_is)
    (case a1 => k_is)
    (case l1 => k_is)
    (case c1 => k_is)
    (case k1 => k_is)
    (case a2 => k_is)
    (case l2 => k_is)
    (case c2 => k_is)
    (case k2 => k_is)
    (case a3 => k_is)
    (case l3 => k_is)
    (case c3 => k_is)
    (case k3 => k_is)
    (case a4 => k_is)
    (case l4 => k_is)
    (case c4 => k_is)
    (case k4 => k_is)
    (case a5 => k_is)
    (case l5 => k_is)
    (case c5 => k_is)
    (case k5 => k_is)
    (case a6 => k_is)
    (case l6 => k_is)
    (case c6 => k_is)
    (case k6 => k_is)
    (case a7 => k_is)
    (case l7 => k_is)
    (case c7 => k_is)
    (case k7 => k_is)
    (case a8 => k_is)
    (case l8 => k_is)
    (case c8 => k_is)
    (case k8 => k_is)
    (case a9 => k_is)
    (case l9 => k_is)
    (case c9 => k_is)
    (case k9 => k_is)
    (case i9 => k_is)
    (case a10 => k_is)
    (case l10 => k_is)
    (case c10 => k_is)
    (case k10 => k_is)
    (case i10 => k_is)
    (case a11 => k_is)
    (case l11 => k_is)
    (case c11 => k_is)
    (case k11 => k_is)
    (case i11 => k_is)
    (case a12 => k_is)
    (case l12 => k_is)
    (case c12 => k_is)
    (case k12 => k_is)
    (case i12 => k_is)
    (case a13 => k_is)
    (case l13 => k_is)
    (case c13 => k_is)
    (case k13 => k_is)
    (case i13 => k_is)
    (case a14 => k_is)
    (case l14 => k_is)
    (case c14 => k_is)
    (case k14 => k_is)
    (case i14 => k_is)
    (case a15 => k_is)
    (case l15 => k_is)
    (case c15 => k_is)
    (case k15 => k_is)
    (case i15 => k_is)
    (case a16 => k_is)
    (case l16 => k_is)
    (case c16 => k_is)
    (case k16 => k_is)
    (case i16 => k_is)
    (case a17 => k_is)
    (case l17 => k_is)
    (case c17 => k_is)
    (case k17 => k_is)
    (case i17 => k_is)
    (case a18 => k_is)
    (case l18 => k_is)
    (case c18 => k_is)
    (case k18 => k_is)
    (case i18 => k_is)
    (case a19 => k_is)
    (case l19 => k_is)
    (case c19 => k_is)
    (case k19 => k_is)
    (case i19 => k_is)
    (case a20 => k_is)
    (case l20 => k_is)
    (case c20 => k_is)
    (case k20 => k_is)
    (case i20 => k_is)
    (case a21 => k_is)
    (case l21 => k_is)
    (case c21 => k_is)
    (case k21 => k_is)
    (case i21 => k_is)
    (case a22 => k_is)
    (case l22 => k_is)
    (case c22 => k_is)
    (case k22 => k_is)
    (case i22 => k_is)
    (case a23 => k_is)
    (case l23 => k_is)
    (case c23 => k_is)
    (case k23 => k_is)
    (case a24 => k_is)
    (case l24 => k_is)
    (case c24 => k_is)
    (case k24 => k_is)
    (case a25 => k_is)
    (case l25 => k_is)
    (case c25 => k_is)
    (case k25 => k_is)
    (case a26 => k_is)
    (case l26 => k_is)
    (case c26 => k_is)
    (case k26 => k_is)
    (case a27 => k_is)
    (case l27 => k_is)
    (case c27 => k_is)
    (case k27 => k_is)
    (case a28 => k_is)
    (case l28 => k_is)
    (case c28 => k_is)
    (case k28 => k_is)
    (case a29 => k_is)
    (case l29 => k_is)
    (case c29 => k_is)
    (case k29 => k_is)
    (case a30 => k_is)
    (case l30 => k_is)
    (case c30 => k_is)
    (case k30 => k_is)
    (case a31 => k_is)
    (case l31 => k_is)
    (case c31 => k_is)
    (case k31 => k_is)
    (case i31 => k_is)
    (case a32 => k_is)
    (case l32 => k_is)
    (case c32 => k_is)
    (case k32 => k_is)
    (case i32 => k_is)
    (case a33 => k_is)
    (case l33 => k_is)
    (case c33 => k_is)
    (case k33 => k_is)
    (case i33 => k_is)
    (case a34 => k_is)
    (case l34 => k_is)
    (case c34 => k_is)
    (case k34 => k_is)
    (case i34 => k_is)
    (case a35 => k_is)
    (case l35 => k_is)
    (case c35 => k_is)
    (case k35 => k_is)
    (case i35 => k_is)
    (case a36 => k_is)
    (case l36 => k_is)
    (case c36 => k_is)
    (case k36 => k_is)
    (case i36 => k_is)
    (case a37 => k_is)
    (case l37 => k_is)
    (case c37 => k_is)
    (case k37 => k_is)
    (case i37 => k_is)
    (case a38 => k_is)
    (case l38 => k_is)
    (case c38 => k_is)
    (case k38 => k_is)
    (case i38 => k_is)
    (case a39 => k_is)
    (case l39 => k_is)
    (case c39 => k_is)
    (case k39 => k_is)
    (case i39 => k_is)
    (case a40 => k_is)
    (case l40 => k_is)
    (case c40 => k_is)
    (case k40 => k_is)
    (case a41 => k_is)
    (case l41 => k_is)
    (case c41 => k_is)
    (case k41 => k_is)
    (case a42 => k_is)
    (case l42 => k_is)
    (case c42 => k_is)
    (case k42 => k_is)
    (case a43 => k_is)
    (case l43 => k_is)
    (case c43 => k_is)
    (case k43 => k_is)
    (case a44 => k_is)
    (case l44 => k_is)
    (case c44 => k_is)
    (case k44 => k_is)
    (case a45 => k_is)
    (case l45 => k_is)
    (case c45 => k_is)
    (case k45 => k_is)
    (case a46 => k_is)
    (case l46 => k_is)
    (case c46 => k_is)
    (case k46 => k_is)
    (case a47 => k_is)
    (case l47 => k_is)
    (case c47 => k_is)
    (case k47 => k_is)
    (case t47 => k_is)
    (case a48 => k_is)
    (case l48 => k_is)
    (case c48 => k_is)
    (case k48 => k_is)
    (case i48 => k_is)
    (case a49 => k_is)
    (case l49 => k_is)
    (case c49 => k_is)
    (case k49 => k_is)
    (case i49 => k_is)
    (case a50 => k_is)
    (case l50 => k_is)
    (case c50 => k_is)
    (case k50 => k_is)
    (case i50 => k_is)
    (case a51 => k_is)
    (case l51 => k_is)
    (case c51 => k_is)
    (case k51 => k_is)
    (case i51 => k_is)
    (case a52 => k_is)
    (case l52 => k_is)
    (case c52 => k_is)
    (case k52 => k_is)
    (case a53 => k_is)
    (case l53 => k_is)
    (case c53 => k_is)
    (case k53 => k_is)
    (case a54 => k_is)
    (case l54 => k_is)
    (case c54 => k_is)
    (case k54 => k_is)
    (case a55 => k_is)
    (case l55 => k_is)
    (case c55 => k_is)
    (case k55 => k_is)
    (case z_int => k_is)
    (case z_len => k_is)
    (case z_abs => k_is)
    (case z_range => k_is)
    (case z_max => k_is)
    (case z_min => k_is)
    (case z_isi => k_is)
    (case z_str => k_is)
    (case z_all => k_is)
    (case z_any => k_is)
    (case z_list => k_is)
    (case z_tuple => k_is)
    (case z_set => k_is)
    (case z_sorted => k_is)
    (case z_sum => k_is)
    (case z_bool => k_is)
    (case fiIn => k_is)
    (case fiAt => k_is)
#print axioms PySem.Challenge.cw_innercommits_k20_parts_of_libraries_holds
