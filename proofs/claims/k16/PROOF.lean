import PyProof.Rows.All
import Wide.All
import OpenK.AllK
import Wide.FinOn
import HandS.ForMost
import HandS.Wide
import HandS.IsInst
import HandS.Style
import HandS.Flow
import HandS.Evl
import HandS.Walk
import HandS.Codes
import PyProof.Rows.ReprR
import HandS.Exc
import HandS.ExcInit
import HandS.ExcField
import HandS.Property
import HandS.Defaults
import HandS.ClsMeth
import PyProof.ListStr
import HandS.CallSlots
import HandS.WordsExc
import PyProof.ReprBulk
import HandS.Set
import HandS.Strs
import HandS.Zip
import HandS.SetFor
import PyProof.Rows.SortShellAny
import HandS.DictComp
import HandS.Star
import HandS.More
import HandS.FStr
import HandS.Conv
import HandS.TryMany
import KE.KOpsOwn
import HandS.TupAny
import KE.KCallOwn
import HandS.SetBool
import PyProof.InstNe
import PySem.Challenge.RW_innercommits_k16_rules_that_are_equal
set_option Elab.async false
set_option linter.all false
set_option maxRecDepth 100000
set_option maxHeartbeats 4000000
namespace IC
open PySem L2 TL
/-! ### heaps: all but the addresses of l stand as they stood -/
def Kp (l : List Addr) (H H' : Hp) : Prop := ∀ b o, H b = some o → b ∉ l → H' b = some o
theorem Kp.refl (l : List Addr) (H : Hp) : Kp l H H := fun _ _ e _ => e
theorem Kp.trans {l : List Addr} {H H1 H2 : Hp} (a : Kp l H H1) (b : Kp l H1 H2) : Kp l H H2 := fun c o e h => b c o (a c o e h) h
theorem Kp.same {l : List Addr} {H H' : Hp} (a : Same H H') : Kp l H H' := fun b o e _ => a b o e
theorem Kp.at_ {l : List Addr} {H : Hp} {p : Addr} {o : HO} (h : p ∈ l) : Kp l H (upd H p o) := fun b u e hb => by
  have q : b ≠ p := fun z => hb (by rw [z]; exact h)
  rw [upd_ne q]; exact e
theorem Kp.new {l : List Addr} {H : Hp} {p : Addr} {o : HO} (h : H p = none) : Kp l H (upd H p o) := fun b u e _ => by
  rw [upd_ne (ne_of_none e h)]; exact e
theorem Kp.mut {l : List Addr} {H H' : Hp} {p : Addr} {o : HO} (a : Kp l H H') (h : H p = none) : Kp l H (upd H' p o) := fun b u e hb => by
  rw [upd_ne (ne_of_none e h)]; exact a b u e hb
theorem Kp.mutAt {l : List Addr} {H H' : Hp} {p : Addr} {o : HO} (a : Kp l H H') (h : p ∈ l) : Kp l H (upd H' p o) := a.trans (Kp.at_ h)
theorem none_of {H : Hp} {p D : Addr} {o : HO} (h : upd H p o D = none) : p ≠ D ∧ H D = none := by
  have q : p ≠ D := ne_of_none upd_same h
  rw [upd_ne q.symm] at h
  exact ⟨q, h⟩
theorem Same.new {H : Hp} {p : Addr} {o : HO} (h : H p = none) : Same H (upd H p o) := fun b u e => by
  rw [upd_ne (ne_of_none e h)]; exact e

/-! ### the pool of numbers -/
def pl (a b c : Int) : List V := [.int a, .int b, .int c]
def PoolAt (H : Hp) (p : Addr) (n : Int) : Prop := ∃ a b c : Int, H p = some (.lst (pl a b c)) ∧ 0 ≤ a ∧ 0 ≤ b ∧ b < 2 ^ 62 ∧ 0 ≤ c ∧ c ≤ n
theorem PoolAt.up {H : Hp} {p : Addr} {n m : Int} (h : PoolAt H p n) (e : n ≤ m) : PoolAt H p m := by
  obtain ⟨a, b, c, h1, h2, h3, h4, h5, h6⟩ := h
  exact ⟨a, b, c, h1, h2, h3, h4, h5, Int.le_trans h6 e⟩
theorem PoolAt.mv {H H' : Hp} {p : Addr} {n : Int} (h : PoolAt H p n) (e : ∀ o, H p = some o → H' p = some o) : PoolAt H' p n := by
  obtain ⟨a, b, c, h1, h⟩ := h
  exact ⟨a, b, c, e _ h1, h⟩
/-- _law_draw(pool, many): a number below many; only the pool changes -/
def spDraw : Sp := fun vs H Q _ => ∃ (p : Addr) (m n : Int), vs = [.ref p, .int m] ∧ PoolAt H p n ∧ n < 1000000000 ∧ 0 < m ∧ m.natAbs < 2 ^ 200 ∧
  ∀ (d : Int) (o : HO), 0 ≤ d → d < m → PoolAt (upd H p o) p (n + 1) → Q (.int d) (upd H p o)
/-- _law_pool(script, at): a new pool -/
def spPool (K : PySem.W.Frag) : Sp := fun vs H Q _ => ∃ (a : Addr) (ns : List Int) (j : Nat), vs = [.ref a, .int j] ∧ SqL K H a (ns.map V.int) ∧ j < 64 ∧
  ∀ (p : Addr) (o : HO), H p = none → PoolAt (upd H p o) p 0 → Q (.ref p) (upd H p o)

/-- a def of the text by its name: it keeps the promise sp -/
structure Df (P : Program) (w : World) (K : PySem.W.Frag) (mg : Str → Option Value) (base : Heap) (k : Nat) (x : Str) (ps : List Str) (sp : Sp) : Prop where
  ex : ∃ (f : Addr) (fd : FuncData), FnOk P w K mg base CX0 k f fd ps sp ∧ mg x = some (.ref f) ∧ PySem.W.keepIn K (.ref f) = true ∧ Binds K fd ps []
theorem pe_df {X : Cx} {k j : Nat} {x : Str} {ps : List Str} {sp : Sp} {e : Expr} {es : List Expr} {t : TA} {p pos : Pos} (D : Df X.prog X.w X.K X.mg X.base k x ps sp) (hr : Room j X.A) (hk : k ≤ j) (hg : Gl X x)
    (ha : PA X (e :: es) t) (hdb : (x == ("__debug__" : Str)) = false := by decide) (he : starEach (e :: es) X.env = (false, eval e X.env) :: starEach es X.env := by rfl) (hpl : (backTo pos (starEach es X.env)).any (·.1) = false := by rfl) :
    PE X (.Call (.Name x p) (e :: es) [] pos) (tCall sp [] E0 t) := by
  obtain ⟨f, fd, F, hm, hkp, hb⟩ := D.ex
  exact pe_call F (hr.mono hk) hg hm hkp hb .nil pass0 ha hdb he hpl

/-! ### words -/
def Lt (c : Nat) : Prop := 97 ≤ c ∧ c ≤ 122
def IsW (z : Str) : Prop := 1 ≤ (tl z).length ∧ (tl z).length ≤ 8 ∧ ∀ c ∈ tl z, Lt c
def sgn (c : Nat) : Str := ⟨#[c]⟩
theorem joinL_one : ∀ cs : List Nat, joinL [] (cs.map fun c => [c]) = cs
  | [] => rfl
  | [c] => rfl
  | c :: d :: r => by
    show [c] ++ ([] ++ joinL [] ((d :: r).map fun c => [c])) = c :: d :: r
    rw [joinL_one (d :: r)]
    rfl
theorem tl_joined (cs : List Nat) : tl (Txt.join (Str.ofString "") (cs.map sgn)) = cs := by
  rw [join_eq, tl_join, List.map_map]
  exact joinL_one cs
def spWord : Sp := fun vs H Q _ => ∃ (p : Addr) (n : Int), vs = [.ref p] ∧ PoolAt H p n ∧ n < 900000000 ∧
  ∀ (z : Str) (H' : Hp), IsW z → PoolAt H' p (n + 9) → Kp [p] H H' → Q (.str z) H'
theorem abc_at (d : Int) (h0 : 0 ≤ d) (h1 : d < 26) : ∃ c, atI (Str.ofString "abcdefghijklmnopqrstuvwxyz").cps.toList d = some c ∧ Lt c := by
  have e : (Str.ofString "abcdefghijklmnopqrstuvwxyz").cps.toList = [97,98,99,100,101,102,103,104,105,106,107,108,109,110,111,112,113,114,115,116,117,118,119,120,121,122] := by decide +kernel
  rw [e]
  obtain ⟨j, rfl⟩ : ∃ j : Nat, d = j := ⟨d.toNat, by omega⟩
  have hj : j < 26 := by omega
  refine ⟨97 + j, atI_nat ?_, by unfold Lt; omega⟩
  have all : ∀ k : Fin 26, ([97,98,99,100,101,102,103,104,105,106,107,108,109,110,111,112,113,114,115,116,117,118,119,120,121,122] : List Nat)[k.val]? = some (97 + k.val) := by decide
  exact all ⟨j, hj⟩
/-- no text: a value of another type -/
def Oth (K : PySem.W.Frag) (H : Hp) (v : V) : Prop := ∃ T : String, TyX K H v (.type T) ∧ kitB T "str" = some false
def lB (c : Nat) : Bool := decide (97 ≤ c) && decide (c ≤ 122)
/-- is the text a word -/
def wB (z : Str) : Bool := decide (1 ≤ (tl z).length) && (decide ((tl z).length ≤ 8) && (tl z).all lB)
def spIsWord (K : PySem.W.Frag) : Sp := fun vs H Q _ => ∃ v : V, vs = [v] ∧ ((∃ z : Str, v = .str z ∧ (tl z).length ≤ 1000 ∧ ∀ H', Same H H' → Q (.bl (wB z)) H') ∨ (Oth K H v ∧ ∀ H', Same H H' → Q (.bl false) H'))
theorem len_le {z : Str} (h : (tl z).length ≤ 1000) : z.length ≤ sizeLine := by
  rw [len_tl]; exact Nat.le_of_lt (small1000 h)
theorem tl_one (c : Nat) : tl (⟨#[c]⟩ : Str) = [c] := rfl
theorem one_lt (c d : Nat) : ([c] < [d]) ↔ ¬ d ≤ c := by
  rw [List.cons_lt_cons_iff]
  simp
theorem lt_a (c : Nat) : decide ((⟨#[c]⟩ : Str).cps.toList < (Str.ofString "a").cps.toList) = !decide (97 ≤ c) := by
  have e : (Str.ofString "a").cps.toList = [97] := by decide +kernel
  rw [e]
  show decide ([c] < [97]) = _
  rw [Bool.eq_iff_iff, decide_eq_true_iff, Bool.not_eq_true', decide_eq_false_iff_not]
  exact one_lt c 97
theorem z_lt (c : Nat) : decide ((Str.ofString "z").cps.toList < (⟨#[c]⟩ : Str).cps.toList) = !decide (c ≤ 122) := by
  have e : (Str.ofString "z").cps.toList = [122] := by decide +kernel
  rw [e]
  show decide ([122] < [c]) = _
  rw [Bool.eq_iff_iff, decide_eq_true_iff, Bool.not_eq_true', decide_eq_false_iff_not]
  exact one_lt 122 c
theorem abc_mem (c : Nat) : decide (c ∈ (Str.ofString "abcdefghijklmnopqrstuvwxyz").cps.toList) = lB c := by
  have e : (Str.ofString "abcdefghijklmnopqrstuvwxyz").cps.toList = [97,98,99,100,101,102,103,104,105,106,107,108,109,110,111,112,113,114,115,116,117,118,119,120,121,122] := by decide +kernel
  rw [e]
  unfold lB
  rw [Bool.eq_iff_iff]
  simp
  omega
theorem shaped_all {xs : List PyData} (h : ∀ x ∈ xs, PyData.canLay0 x = true ∧ PyData.depth x ≤ 20) : PyData.canLayAll0 xs = true ∧ PyData.depthAll xs ≤ 20 := by
  induction xs with
  | nil => exact ⟨rfl, Nat.zero_le _⟩
  | cons x r ih =>
    have h1 := h x List.mem_cons_self
    have h2 := ih fun y hy => h y (List.mem_cons_of_mem _ hy)
    refine ⟨?_, ?_⟩
    · show (PyData.canLay0 x && PyData.canLayAll0 r) = true
      rw [h1.1, h2.1]
      rfl
    · show max (PyData.depth x) (PyData.depthAll r) ≤ 20
      omega
theorem shaped_list {xs : List PyData} (h : ∀ x ∈ xs, PyData.canLay0 x = true ∧ PyData.depth x ≤ 20) : SeqAt.shaped (.list xs) = true := by
  obtain ⟨h1, h2⟩ := shaped_all h
  show (PyData.canLay0 (.list xs) && decide (PyData.depth (.list xs) ≤ 64)) = true
  have e1 : PyData.canLay0 (.list xs) = true := h1
  have e2 : PyData.depth (.list xs) = PyData.depthAll xs + 1 := rfl
  rw [e1, e2, decide_eq_true (by omega)]
  rfl
theorem dpAll_strs {K : PySem.W.Frag} {H : Hp} : ∀ zs : List Str, DpAll K H (zs.map V.str) (zs.map PyData.str)
  | [] => .nil
  | z :: r => .cons (.str z) (dpAll_strs r)
def Okc (c : Nat) : Prop := c < 1114112
theorem strOk_of {z : Str} (h : ∀ c ∈ tl z, Okc c) : PyData.strOk z = true := by
  unfold PyData.strOk
  rw [Array.all_eq_true_iff_forall_mem]
  intro c hc
  exact decide_eq_true (h c (by simpa [tl] using hc))
theorem shaped_strs (zs : List Str) (h : ∀ z ∈ zs, ∀ c ∈ tl z, Okc c) : SeqAt.shaped (.list (zs.map PyData.str)) = true := shaped_list fun x hx => by
  obtain ⟨z, hz, rfl⟩ := List.mem_map.mp hx
  exact ⟨strOk_of (h z hz), Nat.zero_le _⟩
/-- a comprehension over range(n) whose element is a drawn letter -/
theorem lc_draw {te : TE} {gi : Nat} {σ : L2.St} {H1 : Hp} {D p : Addr} {Qd : Hp → Prop} (n : Nat) (m : Int) (hn : n ≤ 1000) (hp : PoolAt H1 p m) (hD : H1 D = none)
    (hte : ∀ (x : V) (m' : Int) (H : Hp) (Q : VK), PoolAt H p m' → m' ≤ m + n → (∀ c o, Lt c → PoolAt (upd H p o) p (m' + 1) → Q (.str (sgn c)) (upd H p o)) → te ((σ.set gi none).set gi (some x)) H Q)
    (hd : ∀ (cs : List Nat) (H' : Hp), cs.length = n → (∀ c ∈ cs, Lt c) → H' D = some (.lst ((cs.map sgn).map V.str)) → PoolAt H' p (m + n) → Kp [p] H1 H' → Qd H') :
    ∃ W : Nat → Nat → Hp → Prop, (∃ m, W 0 m (upd H1 D (.lst []))) ∧ ∀ i m H, W i m H →
      ((Itr 0 n).stop i H ∧ Qd H) ∨ ((Itr 0 n).go i H ∧ ∃ Nx : Hp → Prop, (∀ H', Nx H' → ∃ m', m' < m ∧ W (i + 1) m' H') ∧ ∀ x H', (Itr 0 n).yld i H x H' → gName gi x (wipe σ [gi]) H' fun σ2 H2 => wipe σ2 [gi] = wipe σ [gi] ∧ tYes σ2 H2 fun b H3 =>
        if b = true then te σ2 H3 fun y H4 => ∃ acc, H4 D = some (.lst acc) ∧ acc.length < sizeLine ∧ Nx (upd H4 D (.lst (acc ++ [y]))) else Nx H3) := by
  have hpD : p ≠ D := by
    obtain ⟨a, b, c, e, _⟩ := hp
    exact ne_of_none e hD
  refine lc_range (lo := 0) (n := n) (fun i H' => ∃ cs : List Nat, cs.length = i ∧ (∀ c ∈ cs, Lt c) ∧ H' D = some (.lst ((cs.map sgn).map V.str)) ∧ PoolAt H' p (m + i) ∧ Kp [p] H1 H')
    ⟨[], rfl, by simp, upd_same, (hp.mv fun u e => by rw [upd_ne hpD]; exact e).up (by omega), Kp.new hD⟩ ?_ ?_
  · rintro i H' hi ⟨cs, hl, hc, hcD, hp2, kp⟩
    refine ⟨by simp [wipe], ?_⟩
    refine hte _ (m + i) H' _ hp2 (by omega) fun c o hL hp3 => ?_
    refine ⟨_, (by rw [upd_ne hpD.symm]; exact hcD), small1000 (by rw [List.length_map, List.length_map]; omega), cs ++ [c], by simp [hl], ?_, ?_, ?_, (kp.mutAt (by simp)).mut hD⟩
    · intro x hx
      rcases List.mem_append.mp hx with hx | hx
      · exact hc x hx
      · rw [List.mem_singleton.mp hx]; exact hL
    · rw [upd_same, List.map_append, List.map_append]
      rfl
    · exact (hp3.mv fun u q => by rw [upd_ne hpD]; exact q).up (by omega)
  · rintro H' ⟨cs, hl, hc, hcD, hp2, kp⟩
    exact hd cs H' hl hc hcD hp2 kp
theorem sum_sgn (cs : List Nat) : (List.map (fun z : Str => z.length) (cs.map sgn)).sum = cs.length := by
  rw [List.map_map]
  induction cs with
  | nil => rfl
  | cons c r ih => rw [List.map_cons, List.sum_cons, ih, List.length_cons]; show 1 + r.length = r.length + 1; omega
theorem Lt.ok {c : Nat} (h : Lt c) : Okc c := by
  have := h.2
  unfold Okc
  omega
/-- a text of few signs, or a thing of another kind -/
def Txt1 (z : Str) : Prop := (tl z).length ≤ 1000 ∧ ∀ c ∈ tl z, Okc c
def Thing (K : PySem.W.Frag) (H : Hp) (v : V) : Prop := (∃ z : Str, v = .str z ∧ Txt1 z) ∨ Oth K H v
theorem cutS_mem (z : Str) (lo hi : Option Int) : ∀ c ∈ tl (cutS z lo hi), c ∈ tl z := by
  intro c hc
  exact List.mem_of_mem_drop (List.mem_of_mem_take hc)
theorem oth_int {K : PySem.W.Frag} {H : Hp} {i : Int} : Oth K H (.int i) := ⟨"int", .base (.int i), by decide +kernel⟩
theorem oth_bl {K : PySem.W.Frag} {H : Hp} {b : Bool} : Oth K H (.bl b) := ⟨"bool", .base (.bl b), by decide +kernel⟩
theorem oth_non {K : PySem.W.Frag} {H : Hp} : Oth K H .non := ⟨"NoneType", .base .non, by decide +kernel⟩
theorem oth_lst {K : PySem.W.Frag} {H : Hp} {a : Addr} {xs : List V} (h : H a = some (.lst xs)) : Oth K H (.ref a) := ⟨"list", .base (.lst h), by decide +kernel⟩
theorem oth_tup {K : PySem.W.Frag} {H : Hp} {a : Addr} {xs : List V} (h : H a = some (.tup xs)) : Oth K H (.ref a) := ⟨"tuple", .base (.tup h), by decide +kernel⟩
theorem Kp.newAt {l : List Addr} {H H' : Hp} {p : Addr} {o : HO} (a : Kp l H H') (h : H' p = none) : Kp l H (upd H' p o) := a.trans (Kp.new h)
theorem Same.kp {H0 H H' : Hp} {p : Addr} (a : Same H0 H) (k : Kp [p] H H') (h : H0 p = none) : Same H0 H' := fun b o e => k b o (a b o e) (by
  intro z
  have q := List.mem_singleton.mp z
  rw [q, h] at e
  cases e)
theorem Oth.mv {K : PySem.W.Frag} {H H' : Hp} {v : V} (h : Oth K H v) (s : Same H H') : Oth K H' v := by
  obtain ⟨T, ty, kb⟩ := h
  refine ⟨T, ?_, kb⟩
  cases ty with
  | base b =>
    generalize ht : Value.type T = t at b
    cases b with
    | non => injection ht with ht; subst ht; exact .base .non
    | bl x => injection ht with ht; subst ht; exact .base (.bl x)
    | int i => injection ht with ht; subst ht; exact .base (.int i)
    | str x => injection ht with ht; subst ht; exact .base (.str x)
    | flt x => injection ht with ht; subst ht; exact .base (.flt x)
    | lst e => injection ht with ht; subst ht; exact .base (.lst (s _ _ e))
    | frz e => injection ht with ht; subst ht; exact .base (.frz (s _ _ e))
    | tup e => injection ht with ht; subst ht; exact .base (.tup (s _ _ e))
    | dK e => injection ht with ht; subst ht; exact .base (.dK (s _ _ e))
    | dT e => injection ht with ht; subst ht; exact .base (.dT (s _ _ e))
    | ins e => cases ht
  | byt b => exact .byt b
  | set e => exact .set (s _ _ e)
  | kList e c => exact .kList e c
  | kTuple e c => exact .kTuple e c
  | kDict e c => exact .kDict e c
  | fTuple e => exact .fTuple (s _ _ e)
  | fDict e => exact .fDict (s _ _ e)
def spLaw (K : PySem.W.Frag) : Sp := fun vs H Q _ => ∃ (a : Addr) (ns : List Int), vs = [.ref a] ∧ SqL K H a (ns.map V.int) ∧ ns.length ≤ 63 ∧ ∀ H', Q (.bl true) H'
end IC
namespace IC
open PySem L2 TL
/-! ### a static method called by its class; list(text) -/
/-- C.m is a static method: its record at p, its def at g -/
structure SMet (K : PySem.W.Frag) (C : Addr) (mc : Value) (m : Str) (p g : Addr) : Prop where
  rd : ClX.CRead K C mc
  fnd : PySem.W.findCls K (.ref C) mc m = some (.get (.builtin "staticmethod.__get__") (.ref p) .none (.ref C))
  rec_ : ∃ rest, PySem.W.recIn K p "staticmethod" = some (.ref g :: rest)
  kp : PySem.W.keepIn K (.ref g) = true
def tSM (C : Addr) (sp : Sp) (ta : TE) (t : TA) : TE := fun σ H Q => ta σ H fun x H1 => x = .ref C ∧ t σ H1 fun vs H2 => sp vs H2 Q E0
theorem pe_smeth {X : Cx} {k j : Nat} {C p g : Addr} {mc : Value} {fd : FuncData} {ps : List Str} {sp : Sp} {o e : Expr} {es : List Expr} {m : Str} {pos apos : Pos} {ta : TE} {t : TA} {pl : Sem Bool}
    (ho : PE X o ta) (S : SMet X.K C mc m p g) (F : FnOk X.prog X.w X.K X.mg X.base CX0 k g fd ps sp) (hb : Binds X.K fd ps []) (hr : Room j X.A) (hk : k ≤ j) (ha : PA X (e :: es) t)
    (he : starEach (e :: es) X.env = (false, eval e X.env) :: starEach es X.env := by rfl) (hpl : (backTo pos (starEach es X.env)).any (·.1) = false := by rfl)
    (ht : eval (.Call (.Attribute o m apos) (e :: es) [] pos) X.env = (do
      let ov ← eval o X.env; standAt apos.atName
      let (f, first) ← holding [ov] (getMethod ov m pl); callWith pos f first (backTo pos (starEach (e :: es) X.env)) (backToKw pos (keywordEach [] X.env))) := by rfl) :
    PE X (.Call (.Attribute o m apos) (e :: es) [] pos) (tSM C sp ta t) := by
  refine ⟨fun pins s σ H Q I h => PySem.W.methodCall_KW (pl := pl) (thn (ho.run pins s σ H _ I h) fun u s1 ⟨x, H1, I1, rx, ex, q⟩ => ?_) ht⟩
  subst ex
  obtain rfl : u = Value.ref C := rx
  obtain ⟨rest, hrc⟩ := S.rec_
  refine PySem.W.method_cls I1.kIn S.rd.ga (PySem.W.cls_bind I1.kIn S.rd.rd S.fnd ?_)
  refine wpAny_call (PySem.W.sm_get (s := { s1 with toks := s1.toks + 1 }) I1.kIn hrc (PySem.W.handed_on rfl ?_))
  have I2 : Inv X pins σ H1 { s1 with toks := s1.toks + 1 } := I1.tok _
  exact PySem.W.callWith_K (h₀ := X.base) I2.ok.mod.kin S.kp (thn (ha.run pos pins _ σ H1 _ I2 q) fun us s3 ⟨vs, H3, I3, rv, q3⟩ => ⟨I3.kIn, run_fn F (hr.mono hk) hb .nil pass0 I3 rv (by rw [List.append_nil]; exact q3)⟩) he hpl
theorem vals_some : ∀ (its : List Value), (∀ u ∈ its, ∃ y, RelV y u) → ∃ ys, Vals ys its
  | [], _ => ⟨[], .nil⟩
  | u :: r, h => by
    obtain ⟨y, hy⟩ := h u List.mem_cons_self
    obtain ⟨ys, hys⟩ := vals_some r fun v hv => h v (List.mem_cons_of_mem _ hv)
    exact ⟨y :: ys, .cons hy hys⟩
/-- list(text): a new list -/
theorem call_list_txt {X : Cx} (hc : X.A.handled = none) : CallR X (.type "list") (fun xs H Q => ∃ z : Str, xs = [.str z] ∧ z.length ≤ sizeLine ∧ ∀ l ys, H l = none → Q (.ref l) (upd H l (.lst ys))) := by
  intro pins s σ H xs us Q I r h
  obtain ⟨z, rfl, hz, q⟩ := h
  obtain ⟨u, rfl, rx⟩ := vals1 r
  obtain ⟨t, rfl⟩ := rx
  refine call_list_str hc z t (fun h' tk acc c' kp e it => ?_) hz
  obtain ⟨ys, hys⟩ := vals_some acc.toList fun u hu => by
    obtain ⟨j, hj, e1⟩ := List.getElem_of_mem hu
    obtain ⟨c, w, _, rfl⟩ := it.2 j u (by
      rw [← e1]
      simp)
    exact ⟨.str ⟨#[c]⟩, w, rfl⟩
  have hl := hys.length
  refine ⟨.ref s.heap.objs.size, _, I.laid (t' := tk) kp (Nat.le_refl _) (show ObjOk X.prog X.w _ h' _ (.lst ys) from ⟨?_, acc.toList, c', hys, by simpa using e⟩), rfl, q _ ys (I.hok.fresh (Nat.le_refl _))⟩
  have h1 : acc.size = z.cps.size := it.1
  have h2 : acc.toList.length = acc.size := Array.length_toList
  rw [hl, h2, h1]
  exact hz
end IC
namespace IC
open PySem L2 TL
open PyProof.Rows (envOfC)
/-! ### defs that ask repr: no repr may be under way around them -/
structure FnG (P : Program) (w : World) (K : PySem.W.Frag) (mg : Str → Option Value) (base : Heap) (k : Nat) (f : Addr) (fd : FuncData) (ps : List Str) (sp : Sp) : Prop where
  len : ∀ vs H Q E, sp vs H Q E → vs.length = ps.length
  run : ∀ (B : Around) (outer : List Env) (s : Shared) (H : Hp) (args : Args) (us : List Value) (vs : List V) (Q : VK) (E : XK), B.guards = some [] → Room k B → Env0 P w K mg base B outer s H → BindsTo s fd args (ps.zip us) → Vals vs us →
    sp vs H Q E → codeAny (model P w) B (.call (.ref f) args) (CR CX0 outer P w H s Q E) s
section
variable {P : Program} {w : World} {K : PySem.W.Frag} {mg : Str → Option Value} {base : Heap}
theorem FnOk.g {k : Nat} {f : Addr} {fd : FuncData} {ps : List Str} {sp : Sp} (F : FnOk P w K mg base CX0 k f fd ps sp) : FnG P w K mg base k f fd ps sp :=
  ⟨F.len, fun B outer s H args us vs Q E _ => F.run B outer s H args us vs Q E⟩
theorem FnG.mono {j k : Nat} {f : Addr} {fd : FuncData} {ps : List Str} {sp : Sp} (F : FnG P w K mg base j f fd ps sp) (h : j ≤ k) : FnG P w K mg base k f fd ps sp :=
  ⟨F.len, fun B outer s H args us vs Q E hg hr => F.run B outer s H args us vs Q E hg (hr.mono h)⟩
theorem Fun.okG {x qual : Str} {st : Stmt} {f : Addr} {fd : FuncData} {N ps : List Str} {k : Nat} {sp : Sp} (F : Fun K x qual st f fd) (S : FnScope N ps (defScope st)) (len : ∀ vs H Q E, sp vs H Q E → vs.length = ps.length)
    (hbody : ∀ (cdv : Value) (B : Around) (outer : List Env) (s : Shared) (H : Hp) (vs : List V) (Q : VK) (E : XK), (B.deeper (envOfC qual (defScope st) s.heap.objs.size f cdv)).guards = some [] →
      Room k (B.deeper (envOfC qual (defScope st) s.heap.objs.size f cdv)) → sp vs H Q E →
      ∃ t, PSs (cxOf CX0 P w K mg base N qual (defScope st) f cdv B outer s H E).nox (defBody st) t ∧ t { nx := fun _ H' => Q .non H', rt := Q } (start N vs) H) : FnG P w K mg base (k + 1) f fd ps sp := by
  obtain ⟨oc, od, kV, doc, pm, an, cdv, ct, osl, rfl, lk, hcd⟩ := F.ex
  refine ⟨len, fun B outer s H args us vs Q E hg hr e0 hb r hsp => ?_⟩
  have inK : K.In s.heap := e0.mod.kin.keeps fun b o e => And.left (e0.bs b o e)
  have noL : s.heap.NoLimit := e0.mod.nolimit.keeps fun b o e => And.left (e0.bs b o e)
  have kinds : ∀ y ∈ ps.zip us, (defScope st).names.lookup y.1 = some .local ∨ ((defScope st).names.lookup y.1 = some .cell ∧ ((cellsFrom (s.heap.objs.size + 1) (defScope st).names []).lookup y.1).isSome = true) := by
    rintro ⟨n, v⟩ hy
    cases S.par n (And.left (List.of_mem_zip hy)) with
    | inl q => exact Or.inl q
    | inr q => exact Or.inr (And.intro q (PySem.W.cellsFrom_some _ _ _ (Or.inl q)))
  refine codeAny_call_function (Room.depth hr) (inK _ _ lk) rfl S.co S.gen rfl (PySem.W.codeRec_of inK hcd) (hb _ _ _ _ (wpAny_newFunctionEnv_cells S.kind kinds fun env he s1 x => ?_))
  subst he
  obtain ⟨t, ht, hq⟩ := hbody cdv B outer s H vs Q E hg (Room.deeper hr _) hsp
  have I0 := inv_start (CX := CX0) (E := E) S (Room.hd hr) e0 (len _ _ _ _ hsp) r x
  refine And.intro (noL.keeps (And.left (And.intro x.toInCall.keep trivial))) (codeAny_func (wpAny_mono (ht.nox.run [] s1 (start N vs) H _ I0 hq) (fun fl s' hs => ?_) fun _ _ z => z))
  cases fl with
  | ret u =>
    obtain ⟨v, σ', H', J, rv, q⟩ := hs
    exact Exists.intro v (Exists.intro H' ⟨J.os, J.bare, J.base, J.hok, rv, q⟩)
  | next =>
    obtain ⟨σ', H', J, q⟩ := hs
    exact Exists.intro V.non (Exists.intro H' ⟨J.os, J.bare, J.base, J.hok, rfl, q⟩)
  | brk =>
    obtain ⟨_, _, _, q⟩ := hs
    exact q.elim
  | cont =>
    obtain ⟨_, _, _, q⟩ := hs
    exact q.elim
/-- a def of the text by its name, for a caller around which no repr is under way -/
structure DfG (P : Program) (w : World) (K : PySem.W.Frag) (mg : Str → Option Value) (base : Heap) (k : Nat) (x : Str) (ps : List Str) (sp : Sp) : Prop where
  ex : ∃ (f : Addr) (fd : FuncData), FnG P w K mg base k f fd ps sp ∧ mg x = some (.ref f) ∧ PySem.W.keepIn K (.ref f) = true ∧ Binds K fd ps []
theorem pe_dfG {X : Cx} {k j : Nat} {x : Str} {ps : List Str} {sp : Sp} {e : Expr} {es : List Expr} {t : TA} {p pos : Pos} (D : DfG X.prog X.w X.K X.mg X.base k x ps sp) (hgd : X.A.guards = some []) (hr : Room j X.A) (hk : k ≤ j) (hg : Gl X x)
    (ha : PA X (e :: es) t) (hdb : (x == ("__debug__" : Str)) = false := by decide) (he : starEach (e :: es) X.env = (false, eval e X.env) :: starEach es X.env := by rfl) (hpl : (backTo pos (starEach es X.env)).any (·.1) = false := by rfl) :
    PE X (.Call (.Name x p) (e :: es) [] pos) (tCall sp [] E0 t) := by
  obtain ⟨f, fd, F, hm, hkp, hb⟩ := D.ex
  refine ⟨fun pins s σ H Q I h => wpAny_Call_Name_kw (ld_glob I hg hm (PySem.W.callWith_K (h₀ := X.base) I.ok.mod.kin hkp (thn (ha.run pos pins s σ H _ I h) fun us s1 hh => ?_) he hpl) hdb)⟩
  obtain ⟨vs, H1, I1, r, q⟩ := hh
  refine And.intro I1.kIn ?_
  rw [List.append_nil] at q
  have hl : us.length = ps.length := by rw [← r.length]; exact F.len _ _ _ _ q
  refine wpAny_call (codeAny_mono (F.run X.A X.stack s1 H1 ⟨us, []⟩ us vs Q E0 hgd (hr.mono hk) I1.env0 (by have z := hb s1 us I1.kIn (by rw [List.append_nil]; exact hl); rw [List.append_nil] at z; exact z) r q) fun r s' hq => ?_)
  cases r with
  | error er => exact False.elim hq
  | ok fl =>
    cases fl with
    | ret u => exact I1.after hq
    | next => exact False.elim hq
    | brk => exact False.elim hq
    | cont => exact False.elim hq
/-- repr of data -/
theorem call_reprD {X : Cx} (hgd : X.A.guards = some []) (hu : X.A.units + 64 < cLine) : CallR X (.builtin "repr") (fun xs H Q => ∃ (a : Addr) (d : PyData), xs = [.ref a] ∧ Dp X.K H (.ref a) d ∧ d.showable = true ∧ d.hasDict = false ∧ d.depth ≤ 20 ∧ d.shown.length ≤ sizeLine ∧ Q (.str d.shown) H) := by
  intro pins s σ H xs us Q I r h
  obtain ⟨a, d, rfl, hd, h1, h2, h3, h4, q⟩ := h
  obtain ⟨u, rfl, ru⟩ := vals1 r
  obtain rfl : u = Value.ref a := ru
  obtain ⟨as, rd⟩ := hd.reads I _ _ _ rfl
  refine repr_of_reads' rd h1 (fun e => by rw [h2] at e; cases e) hgd (by omega) (fun _ _ e => e) (fun h' w' tk kp => ⟨.str d.shown, H, I.kept (t' := tk) kp, ⟨_, rfl⟩, q⟩) h4
end
end IC
namespace IC
open PySem L2 TL PyProof.Rows
/-- the law's own call, where its def is an FnG -/
theorem call_law {P : Program} {w : World} {K : PySem.W.Frag} {mg mb : Str → Option Value} {k : Nat} {fa a : Addr} {fd : FuncData} {s0 : Shared} {vs : List Value} {ns : List Int}
    (inK : K.In s0.heap) (gl : s0.heap.Ns mainGlobals mg) (bl : s0.heap.Ns builtinsNs mb) (bo : ∀ x : Str, x ≠ "__name__" → mb x = bootBuiltins x) (noL : s0.heap.NoLimit) (gn : s0.gens = #[])
    (at_ : s0.heap.get? a = some { cls := .type "list", data := .seq vs.toArray }) (are : IntsAre vs ns) (small : ns.length ≤ sizeLine) (hr : Room k callerA) (hg : callerA.guards = some [])
    (F : ∀ base : Heap, K.In base → base.Ns mainGlobals mg → FnG P w K mg base k fa fd ["script"] (spLaw K)) (bnd : ∀ (s : Shared) (u : Value), BindsTo s fd ⟨[u], []⟩ [("script", u)]) (few : ns.length ≤ 63) :
    codeAny (model P w) callerA (.call (.ref fa) ⟨[.ref a], []⟩) (fun r s' => r = .ok (.ret (.bool true)) ∧ OldK s0.heap s'.heap ∧ s'.os = s0.os ∧ AllBare s'.gens) s0 := by
  have rel := vals_ints are
  have main : ∀ G : Hp, Only G → SqL K G a (ns.map V.int) → HOk P w G s0.heap → (∀ b, G b ≠ none → b = a ∧ K.lookup a = none) →
      codeAny (model P w) callerA (.call (.ref fa) ⟨[.ref a], []⟩) (fun r s' => r = .ok (.ret (.bool true)) ∧ OldK s0.heap s'.heap ∧ s'.os = s0.os ∧ AllBare s'.gens) s0 := by
    intro G only sq hok one
    have down : ∀ {b : Addr} {o : Obj}, s0.heap.get? b = some o → G b = none → (hidT s0.heap G).get? b = some o := fun {b o} e n => hidT_get e n
    have free : ∀ {b : Addr} {o : Obj} {es : Array DictEntry} {ep : Nat}, s0.heap.get? b = some o → o.data = .dict es ep → G b = none := by
      intro b o es ep e d
      cases q : G b with
      | none => rfl
      | some u =>
        obtain ⟨rfl, _⟩ := one b (by rw [q]; simp)
        rw [at_] at e
        cases e
        cases d
    have names : ∀ {b : Addr} {m : Str → Option Value}, s0.heap.Ns b m → (hidT s0.heap G).Ns b m := by
      rintro b m ⟨o, es, ep, e, d, r⟩
      exact ⟨o, es, ep, down e (free e d), d, r⟩
    have inB : K.In (hidT s0.heap G) := by
      intro b o e
      refine down (inK b o e) ?_
      cases q : G b with
      | none => rfl
      | some u =>
        obtain ⟨rfl, n⟩ := one b (by rw [q]; simp)
        rw [n] at e
        cases e
    obtain ⟨mc, c1, c2⟩ := noL
    have env : Env0 P w K mg (hidT s0.heap G) callerA [] s0 G := ⟨rfl, ⟨inB, names gl, ⟨mb, names bl, bo⟩, ⟨mc, names c1, c2⟩⟩, fun b o e => of_hidT e, Nat.le_of_eq (hidT_size _ _), trivial, fun b hb => absurd (show b ∈ ([] : List Addr) from hb) (by simp), hok, .of_eq gn⟩
    have go := (F _ inB (names gl)).run callerA [] s0 G ⟨[.ref a], []⟩ [.ref a] [.ref a] (fun v _ => v = .bl true) (fun _ _ _ => False) hg hr env (bnd s0 (.ref a)) (.cons rfl .nil) ⟨a, ns, rfl, sq, few, fun _ => rfl⟩
    refine codeAny_mono go (fun r s' h => ?_)
    match r, h with
    | .error e, h => exact False.elim h
    | .ok .next, h => exact False.elim h
    | .ok .brk, h => exact False.elim h
    | .ok .cont, h => exact False.elim h
    | .ok (.ret u), ⟨v, G', o1, o2, un, hok', r', q⟩ =>
      have q : v = V.bl true := q
      subst q
      obtain rfl : u = Value.bool true := r'
      refine And.intro rfl (And.intro (OldK.of_keep fun b o e => ?_) (And.intro o1 o2))
      cases q : G b with
      | none => exact un.keep b o e q (fun z => absurd (show b ∈ ([] : List Addr) from z) (by simp)) (by simp)
      | some u =>
        rcases only b with z | ⟨ob, xs, z⟩
        · rw [q] at z
          cases z
        · have t1 := And.left (hok b _ z)
          have t2 := And.left (hok' b _ (un.frzs b ob _ z))
          rw [e] at t1
          cases t1
          exact t2
  cases hk : K.lookup a with
  | some o =>
    have e := inK a o hk
    rw [at_] at e
    cases e
    exact main (fun _ => none) (fun _ => Or.inl rfl) (Or.inr ⟨_, vs.toArray, _, hk, rfl, rfl, rfl, by rw [List.size_toArray, are.length]; exact small, by simpa using rel⟩) (fun b u z => nomatch (show (none : Option HO) = some u from z)) (fun b z => absurd rfl z)
  | none =>
    have only1 : ∀ b, (if b = a then some (HO.frz { cls := .type "list", data := .seq vs.toArray } (.lst (ns.map V.int))) else none) ≠ none → b = a := by
      intro b z
      by_cases hb : b = a
      · exact hb
      · rw [if_neg hb] at z
        exact absurd rfl z
    refine main (fun b => if b = a then some (.frz { cls := .type "list", data := .seq vs.toArray } (.lst (ns.map V.int))) else none) (fun b => ?_) (Or.inl (Or.inr ⟨_, if_pos rfl⟩)) (fun b u z => ?_) (fun b z => And.intro (only1 b z) hk)
    · by_cases hb : b = a
      · exact Or.inr ⟨_, _, if_pos hb⟩
      · exact Or.inl (if_neg hb)
    · have hb := only1 b (by rw [show (if b = a then some (HO.frz { cls := .type "list", data := .seq vs.toArray } (.lst (ns.map V.int))) else none) = some u from z]; simp)
      subst hb
      have z2 := (if_pos rfl).symm.trans z
      cases z2
      exact And.intro at_ (And.intro (by rw [List.length_map]; exact small) ⟨vs, _, rel, at_⟩)
theorem walkG {l : PySem.W.OpenLaw} {k : Nat} {q : Program} {loose : List Str} {XP : (Str → Option Value) → Heap → Prop} {YP : World → Heap → Prop} {d : DefRec} {K : Params → PySem.W.Frag} (hn : l.most = some 63) (hdf : d.params.defaults = []) (hr : Room k callerA)
    (hY : ∀ (w : World) (h : Heap), YP w h → (K w.params).In h)
    (F : ∀ (w : World) (mg : Str → Option Value) (fa : Addr) (h : Heap), (K w.params).In h → h.Ns mainGlobals mg → mg d.name = some (.ref fa) →
      ∃ fd : FuncData, (∀ (s : Shared) (u : Value), BindsTo s fd ⟨[u], []⟩ [("script", u)]) ∧ ∀ base : Heap, (K w.params).In base → base.Ns mainGlobals mg → FnG l.prog w (K w.params) mg base k fa fd ["script"] (spLaw (K w.params))) :
    PySem.W.WalkO q loose XP YP l.row.toRowW d [] (fun f vs => PySem.call f vs) := by
  refine Att.attach_call hn hdf fun w s₀ s₁ mg mb fa o pm cd doc a vs ns G Y ho hd hcd hmg hobj hints hlen hg => ?_
  obtain ⟨fd, hb, hF⟩ := F w mg fa _ (hY w _ Y) G.T.g hmg
  exact call_law (hY w _ Y) G.T.g G.T.b G.T.builtins G.T.nolimit hg hobj hints (Nat.le_trans hlen (by decide)) hr rfl hF hb hlen
end IC
namespace IC
open PySem L2 TL
/-! ### what is never come to -/
section
variable {X : Cx}
theorem ps_dead {st : Stmt} : PS X st (fun _ _ _ => False) := ⟨fun _ _ _ _ _ _ h => h.elim⟩
theorem pss_dead {ss : List Stmt} : PSs X ss (fun _ _ _ => False) := ⟨fun _ _ _ _ _ _ h => h.elim⟩
theorem pt_dead {e : Expr} : PT X e (fun _ _ _ => False) := ⟨fun _ _ _ _ _ _ h => h.elim⟩
theorem pe_dead {e : Expr} : PE X e (fun _ _ _ => False) := ⟨fun _ _ _ _ _ _ h => h.elim⟩
end
/-! ### methods by their class -/
structure MDf (P : Program) (w : World) (K : PySem.W.Frag) (mg : Str → Option Value) (base : Heap) (CX : CXT) (k : Nat) (C : Addr) (m : Str) (ps : List Str) (dvs : List V) (sp : Sp) : Prop where
  ex : ∃ (f : Addr) (fd : FuncData) (ds : List Value), FnOk P w K mg base CX k f fd ps sp ∧ Meth K C m f ∧ Binds K fd ps ds ∧ Vals dvs ds
/-- o.m(..), what is raised is wished for at the caller's slots -/
def tMethS (C : Addr) (m : Str) (sp : Sp) (dvs : List V) (E : L2.St → XK) (ta : TE) (t : TA) : TE := fun σ H Q => ta σ H fun x H1 => ∃ a dx fs, x = .ref a ∧ H1 a = some (.ins C dx fs) ∧ fs.lookup m = none ∧
  t σ H1 fun vs H2 => sp (x :: (vs ++ dvs)) H2 Q (E σ)
section
variable {X : Cx} {k j : Nat} {C : Addr} {m : Str} {ps : List Str} {dvs : List V} {sp : Sp} {o e : Expr} {es : List Expr} {pos apos : Pos} {ta : TE} {t : TA} {pl : Sem Bool} {W : WX}
theorem pe_md (D : MDf X.prog X.w X.K X.mg X.base CX0 k C m ps dvs sp) (c : Cls X.K C) (hr : Room j X.A) (hk : k ≤ j) (he : PE X o ta) (ha : PA X (e :: es) t)
    (hst : starEach (e :: es) X.env = (false, eval e X.env) :: starEach es X.env := by rfl) (hpl : (backTo pos (starEach es X.env)).any (·.1) = false := by rfl)
    (ht : eval (.Call (.Attribute o m apos) (e :: es) [] pos) X.env = (do
      let ov ← eval o X.env; standAt apos.atName
      let (f, first) ← holding [ov] (getMethod ov m pl); callWith pos f first (backTo pos (starEach (e :: es) X.env)) (backToKw pos (keywordEach [] X.env))) := by rfl) :
    PE X (.Call (.Attribute o m apos) (e :: es) [] pos) (tMeth C m sp dvs E0 ta t) := by
  obtain ⟨f, fd, ds, F, hm, hb, hd⟩ := D.ex
  exact pe_meth he c hm F (hr.mono hk) hb hd pass0 ha hst hpl ht
theorem pe_md0 (D : MDf X.prog X.w X.K X.mg X.base CX0 k C m ps dvs sp) (c : Cls X.K C) (hr : Room j X.A) (hk : k ≤ j) (he : PE X o ta)
    (ht : eval (.Call (.Attribute o m apos) [] [] pos) X.env = (do
      let ov ← eval o X.env; standAt apos.atName
      let (f, first) ← holding [ov] (getMethod ov m pl); callWith pos f first (backTo pos (starEach [] X.env)) (backToKw pos (keywordEach [] X.env))) := by rfl) :
    PE X (.Call (.Attribute o m apos) [] [] pos) (tMeth C m sp dvs E0 ta tNil) := by
  obtain ⟨f, fd, ds, F, hm, hb, hd⟩ := D.ex
  exact pe_meth0 he c hm F (hr.mono hk) hb hd pass0 ht
theorem pe_mdX (D : MDf X.prog X.w X.K X.mg X.base (L2.CX X.prog X.w) k C m ps dvs sp) (c : Cls X.K C) (tk : Takes X W) (hr : Room j X.A) (hk : k ≤ j) (he : PE X o ta) (ha : PA X (e :: es) t)
    (hst : starEach (e :: es) X.env = (false, eval e X.env) :: starEach es X.env := by rfl) (hpl : (backTo pos (starEach es X.env)).any (·.1) = false := by rfl)
    (ht : eval (.Call (.Attribute o m apos) (e :: es) [] pos) X.env = (do
      let ov ← eval o X.env; standAt apos.atName
      let (f, first) ← holding [ov] (getMethod ov m pl); callWith pos f first (backTo pos (starEach (e :: es) X.env)) (backToKw pos (keywordEach [] X.env))) := by rfl) :
    PE X (.Call (.Attribute o m apos) (e :: es) [] pos) (tMethS C m sp dvs (WE W) ta t) := by
  obtain ⟨f, fd, ds, F, hm, hb, hd⟩ := D.ex
  refine ⟨fun pins s σ H Q I h => PySem.W.methodCall_KW (pl := pl) (thn (he.run pins s σ H _ I h) fun u s1 ⟨x, H1, I1, rx, a, dx, fs, ex, ea, l, q⟩ => ?_) ht⟩
  subst ex
  obtain rfl : u = Value.ref a := rx
  refine getmeth_ok I1 ea c hm l (PySem.W.callWith_K (first := [.ref a]) (h₀ := X.base) I1.ok.mod.kin hm.kp (thn (ha.run pos pins s1 σ H1 _ I1 q) fun us s2 ⟨vs, H2, I2, r, q2⟩ => ⟨I2.kIn, ?_⟩) hst hpl)
  exact run_fnSD (us := .ref a :: us) (vs := .ref a :: vs) F (hr.mono hk) hb hd (passAt tk σ) I2 (.cons rfl r) q2
theorem pe_mdX0 (D : MDf X.prog X.w X.K X.mg X.base (L2.CX X.prog X.w) k C m ps dvs sp) (c : Cls X.K C) (tk : Takes X W) (hr : Room j X.A) (hk : k ≤ j) (he : PE X o ta)
    (ht : eval (.Call (.Attribute o m apos) [] [] pos) X.env = (do
      let ov ← eval o X.env; standAt apos.atName
      let (f, first) ← holding [ov] (getMethod ov m pl); callWith pos f first (backTo pos (starEach [] X.env)) (backToKw pos (keywordEach [] X.env))) := by rfl) :
    PE X (.Call (.Attribute o m apos) [] [] pos) (tMethS C m sp dvs (WE W) ta tNil) := by
  obtain ⟨f, fd, ds, F, hm, hb, hd⟩ := D.ex
  refine ⟨fun pins s σ H Q I h => PySem.W.methodCall_KW (pl := pl) (thn (he.run pins s σ H _ I h) fun u s1 ⟨x, H1, I1, rx, a, dx, fs, ex, ea, l, q⟩ => ?_) ht⟩
  subst ex
  obtain rfl : u = Value.ref a := rx
  refine getmeth_ok I1 ea c hm l ?_
  exact PySem.W.callWith_K0 (first := [.ref a]) I1.kIn hm.kp (run_fnSD (us := [.ref a]) (vs := [.ref a]) F (hr.mono hk) hb hd (passAt tk σ) I1 (.cons rfl .nil) q)
end
/-- a property by its class -/
structure PDf (P : Program) (w : World) (K : PySem.W.Frag) (mg : Str → Option Value) (base : Heap) (k : Nat) (C : Addr) (f : Str) (sp : Sp) : Prop where
  ex : ∃ (p g : Addr) (fd : FuncData), PropOf K C f p g ∧ FnOk P w K mg base CX0 k g fd ["self"] sp ∧ Binds K fd ["self"] []
theorem pe_pd {X : Cx} {k j : Nat} {C : Addr} {f : Str} {sp : Sp} {e : Expr} {ta : TE} {pos : Pos} (D : PDf X.prog X.w X.K X.mg X.base k C f sp) (c : Cls X.K C) (hr : Room j X.A) (hk : k + 1 ≤ j) (he : PE X e ta)
    (hab : attributeBase e f X.env (eval e X.env) = eval e X.env := by rfl) : PE X (.Attribute e f pos) (tProp C sp [] E0 ta) := by
  obtain ⟨p, g, fd, hp, F, hb⟩ := D.ex
  exact pe_prop he c hp F (hr.mono hk) hb .nil pass0 hab
/-! ### own errors with fields -/
structure ErrC (K : PySem.W.Frag) (mg : Str → Option Value) (x : Str) (C fI : Addr) : Prop where
  gC : mg x = some (.ref C)
  ox : OexC K C
  xf : XfC K C
  iC : PySem.W.findIn K (.ref C) "__init__" = some (some (.ref fI))
  tI : PySem.W.typeIn K (.ref fI) = some (.type "function")
/-- __init__(self, v): the fields fs v are laid -/
def spErr (C : Addr) (fs : V → List (Str × V)) : Sp := fun vs H Q _ => ∃ (a : Addr) (v : V), vs = [.ref a, v] ∧ H a = some (exo a C none) ∧
  ∀ (d : Addr) (H' : Hp), H d = none → d ≠ a → H' a = some (exo a C (some d)) → H' d = some (exd d (fs v)) → (∀ b, b ≠ a → b ≠ d → H' b = H b) → Q .non H'
structure EDf (P : Program) (w : World) (K : PySem.W.Frag) (mg : Str → Option Value) (base : Heap) (k : Nat) (x : Str) (C : Addr) (p : Str) (fs : V → List (Str × V)) : Prop where
  ex : ∃ (fI : Addr) (fd : FuncData), ErrC K mg x C fI ∧ FnOk P w K mg base CX0 k fI fd ["self", p] (spErr C fs) ∧ Binds K fd ["self", p] []
def tMkE (C : Addr) (fs : V → List (Str × V)) (ta : TA) : L2.St → Hp → XK → Prop := tMkO C (spErr C fs) [] ta
theorem pmk_ed {X : Cx} {k j : Nat} {x q : Str} {C : Addr} {fs : V → List (Str × V)} {e : Expr} {ta : TA} {p pos : Pos} (D : EDf X.prog X.w X.K X.mg X.base k x C q fs) (kC : PySem.W.keepIn X.K (.ref C) = true) (hr : Room j X.A) (hk : k + 1 ≤ j) (hg : Gl X x) (ha : PA X [e] ta)
    (hdb : (x == ("__debug__" : Str)) = false := by decide) (he : starEach [e] X.env = (false, eval e X.env) :: starEach [] X.env := by rfl) (hpl : (backTo pos (starEach [] X.env)).any (·.1) = false := by rfl) :
    PMk X (.Call (.Name x p) [e] [] pos) (tMkE C fs ta) := by
  obtain ⟨fI, fd, T, F, hb⟩ := D.ex
  exact pmk_oex T.ox T.iC T.tI F (hr.mono hk) hb .nil pass0 hg T.gC ha hdb he hpl
theorem upd_del {H1 H2 : Hp} {a d : Addr} {o : HO} (ha : H1 a = none) (e : ∀ b, b ≠ a → b ≠ d → H2 b = H1 b) (hd : d ≠ a) : upd (del H2 a) d o = upd H1 d o := by
  funext b
  by_cases h1 : b = d
  · rw [h1, upd_same, upd_same]
  · rw [upd_ne h1, upd_ne h1]
    by_cases h2 : b = a
    · rw [h2, del_same, ha]
    · rw [del_ne h2]
      exact e b h2 h1
/-- what the making of such an error asks -/
theorem mke {C : Addr} {fs : V → List (Str × V)} {vs : List V} {H1 : Hp} {Q : XK} (v : V) (hv : vs = [v]) (h : ∀ d, H1 d = none → Q (.ref C) (some d) (upd H1 d (.xd (fs v)))) :
    vs.length ≤ 1000 ∧ ∀ a, H1 a = none → spErr C fs (.ref a :: (vs ++ [])) (upd H1 a (exo a C none))
      (fun v H2 => v = .non ∧ ∃ (d : Addr) (fs : List (Str × V)), H2 a = some (exo a C (some d)) ∧ H2 d = some (exd d fs) ∧ H1 d = none ∧ Q (.ref C) (some d) (upd (del H2 a) d (.xd fs))) (fun _ _ _ => False) := by
  subst hv
  refine ⟨by show 1 ≤ 1000; omega, fun a ha => ⟨a, v, rfl, upd_same, fun d H' hd hda e1 e2 e3 => ⟨rfl, d, fs v, e1, e2, ?_, ?_⟩⟩⟩
  · rw [upd_ne hda] at hd
    exact hd
  · rw [upd_ne hda] at hd
    rw [upd_del ha (fun b h1 h2 => by rw [e3 b h1 h2, upd_ne h1]) hda]
    exact h d hd
end IC
namespace IC
open PySem PySem.Spec PyProof.Rows L2
/-! ### sets of texts that can be walked -/
def tk (e : Int × Value) : Str := match e.2 with
  | .str z _ => z
  | _ => Str.empty
def TxE (w : World) (e : Int × Value) : Prop := ∃ z k, e.2 = Value.str z k ∧ e.1 = hashStr w z
/-- at a a set of the texts L, none of them twice -/
def TxS (w : World) (h : Heap) (a : Addr) (L : List Str) : Prop :=
  ∃ o es ep t, h.get? a = some o ∧ o.ExactSet ∧ o.data = .set es ep t ∧ (∀ e ∈ es.toList, TxE w e) ∧ (es.toList.map tk).Perm L ∧ L.Nodup ∧ es.size < scanBound ∧ t.fits es.size = true ∧ Ris t.place.toList ∧ (w.params.followText "set-order" = true ∨ t.led = true)
section
variable {P : Program} {w : World} {h h' : Heap} {a : Addr} {L M : List Str}
theorem TxS.keep (R : TxS w h a L) (k : ∀ o, h.get? a = some o → h'.get? a = some o) : TxS w h' a L := by
  rcases R with ⟨o, es, ep, t, at_, r⟩
  exact ⟨o, es, ep, t, k o at_, r⟩
theorem TxS.perm (R : TxS w h a L) (p : L.Perm M) : TxS w h a M := by
  rcases R with ⟨o, es, ep, t, r1, r2, r3, r4, r5, r6, r7⟩
  exact ⟨o, es, ep, t, r1, r2, r3, r4, r5.trans p, p.nodup_iff.mp r6, r7⟩
theorem tx_elems {l : List (Int × Value)} (g : ∀ e ∈ l, TxE w e) : ElemsOf (PySem.strKind P w) l := fun e he => by
  rcases g e he with ⟨z, k, e1, e2⟩
  refine ⟨⟨z, ?_, e2⟩, ?_⟩
  · rw [e1]
    exact strKind_is P w z k
  · rw [e1]
    rfl
theorem tx_is {e : Int × Value} (g : TxE w e) (z : Str) : (PySem.strKind P w).is z e.2 = true ↔ tk e = z := by
  rcases g with ⟨y, k, e1, _⟩
  unfold tk
  rw [e1]
  show ((y == z) = true) ↔ y = z
  exact beq_iff_eq
end
section
variable {P : Program} {w : World} {A : Around} {E : Value → Shared → Prop} {s : Shared} {a : Addr} {L : List Str}
/-- the table is stored, and laid anew where it is too full -/
theorem tx_store {say : Bool → Sem Unit} (quiet : ∀ (b : Bool) (u : Shared) (R : Unit → Shared → Prop), R () u → wpAny (model P w) A (say b) R E u) {o : Obj} {es es1 : Array (Int × Value)} {ep : Nat} {t t1 : SetTable} (at_ : s.heap.get? a = some o) (ex : o.ExactSet) (dt : o.data = .set es ep t)
    (g : ∀ e ∈ es1.toList, TxE w e) (pm : (es1.toList.map tk).Perm L) (nd : L.Nodup) (few : es1.size < scanBound) (fit : t1.fits es1.size = true) (ris : Ris t1.place.toList) (led : w.params.followText "set-order" = true ∨ t1.led = true) {dummy : Bool} {R : Option Bool → Shared → Prop}
    (fin : ∀ h', Heap.SameBut a s.heap h' → TxS w h' a L → R (some true) { s with heap := h' }) :
    wpAny (model P w) A (do
      storeSet a es1 t1
      if (!dummy && t1.tooFull) = true then do
        say (relayAll t1 es1 (SetTable.grown es1.size)).2.2
        storeSet a (relayAll t1 es1 (SetTable.grown es1.size)).1 (relayAll t1 es1 (SetTable.grown es1.size)).2.1
        pure (some true)
      else pure (some true)) R E s := by
  have at1 := store_at (es' := es1) (t' := t1) at_ dt
  have sb := Heap.SameBut.update s.heap a (Obj.putSet es1 t1)
  refine wpAny_bind (wpAny_storeSet_of at_ dt ?_ (fits_of_scanBound few))
  by_cases full : (!dummy && t1.tooFull) = true
  · rw [if_pos full]
    have q1 := relayAll_perm t1 es1 (SetTable.grown es1.size)
    have q2 := relayAll_fits t1 es1 (SetTable.grown es1.size)
    have q3 := relayAll_ris t1 es1 (SetTable.grown es1.size)
    have q4 := relayAll_led t1 es1 (SetTable.grown es1.size)
    generalize relayAll t1 es1 (SetTable.grown es1.size) = Z at q1 q2 q3 q4 ⊢
    rcases Z with ⟨es2, t2, way⟩
    have size : es2.size = es1.size := by rw [← Array.length_toList, ← Array.length_toList]; exact q1.length_eq
    have few2 : es2.size < scanBound := by rw [size]; exact few
    refine wpAny_bind (quiet _ _ _ (wpAny_bind (wpAny_storeSet_of at1 rfl ?_ (fits_of_scanBound few2))))
    refine wpAny_pure (fin _ (sb.trans (Heap.SameBut.update _ a _)) ⟨_, es2, _, t2, store_at (es' := es2) (t' := t2) at1 rfl, ex, rfl, fun e he => g e (q1.mem_iff.mp he), (q1.map tk).trans pm, nd, few2, q2, q3, led.imp id fun z => ?_⟩)
    exact Eq.trans q4 z
  · rw [if_neg full]
    exact wpAny_pure (fin _ sb ⟨_, es1, _, t1, at1, ex, rfl, g, pm, nd, few, fit, ris, led⟩)
/-- z is added: the members are those of L, and z -/
theorem tx_add {z : Str} {k : Tok} {Q : Bool → Shared → Prop} (R : TxS w s.heap a L) (room : L.length + 1 < scanBound)
    (fin : ∀ h' b M, Heap.SameBut a s.heap h' → TxS w h' a M → M.length ≤ L.length + 1 → (∀ y, y ∈ M ↔ y ∈ L ∨ y = z) → Q b { s with heap := h' }) :
    wpAny (model P w) A (setAddHashed a (.str z k) ((PySem.strKind P w).hash z)) Q E s := by
  rcases R with ⟨o, es, ep, t, at_, ex, dt, g, pm, nd, few, fit, ris, led⟩
  have mine : (PySem.strKind P w).is z (.str z k) = true := strKind_is P w z k
  have scan : (Value.str z k).scannable = true := rfl
  have els : ElemsOf (PySem.strKind P w) es.toList := tx_elems g
  have size : es.size = L.length := by
    rw [← Array.length_toList, ← pm.length_eq, List.length_map]
  unfold setAddHashed setAddHashedIn
  refine wpAny_holding (wpAny_bind (wpAny_setState_of at_ dt fit ?_))
  dsimp only
  rw [byScan_of scan few els, if_pos rfl]
  unfold setAddByScan
  refine wpAny_bind (wpAny_bind (wpAny_rule (wpAny_bind (wpAny_setScan_of mine at_ dt fit els ?_))))
  cases find : List.findIdx? (fun e => (PySem.strKind P w).is z e.2) es.toList with
  | some j =>
    rcases List.findIdx?_eq_some_iff_getElem.mp find with ⟨hj, pj, _⟩
    have there : z ∈ L := pm.mem_iff.mp (List.mem_map.mpr ⟨es.toList[j], List.getElem_mem hj, (tx_is (P := P) (g _ (List.getElem_mem hj)) z).mp pj⟩)
    dsimp only
    refine wpAny_pure (wpAny_pure (fin s.heap _ L (Heap.SameBut.refl a s.heap) ⟨o, es, ep, t, at_, ex, dt, g, pm, nd, few, fit, ris, led⟩ (Nat.le_succ _) fun y => ⟨.inl, fun q => q.elim id fun e => e ▸ there⟩))
  | none =>
    have new : z ∉ L := fun q => by
      rcases List.mem_map.mp (pm.mem_iff.mpr q) with ⟨e, he, q2⟩
      have c := List.findIdx?_eq_none_iff.mp find e he
      rw [(tx_is (P := P) (g e he) z).mpr q2] at c
      cases c
    dsimp only
    have q1 := layNew_perm t es ((PySem.strKind P w).hash z) (.str z k)
    have q2 := layNew_fits t es ((PySem.strKind P w).hash z) (.str z k)
    have q3 := layNew_ris t es ((PySem.strKind P w).hash z) (.str z k) ris
    have q4 := layNew_led t es ((PySem.strKind P w).hash z) (.str z k)
    generalize layNew t es ((PySem.strKind P w).hash z) (.str z k) = Z at q1 q2 q3 q4 ⊢
    rcases Z with ⟨es1, t1, dummy, way⟩
    dsimp only at q1 q2 q3 q4 ⊢
    rw [Array.toList_push] at q1
    have pc : es1.toList.Perm (((PySem.strKind P w).hash z, Value.str z k) :: es.toList) := q1.trans (List.perm_append_singleton _ _)
    have pk : (es1.toList.map tk).Perm (z :: L) := (pc.map tk).trans (pm.cons z)
    have g1 : ∀ e ∈ es1.toList, TxE w e := fun e he => by
      rcases List.mem_cons.mp (pc.mem_iff.mp he) with y | y
      · rw [y]
        exact ⟨z, k, rfl, rfl⟩
      · exact g e y
    have few1 : es1.size < scanBound := by
      have e := pk.length_eq
      rw [List.length_map, Array.length_toList, List.length_cons] at e
      omega
    have led1 : w.params.followText "set-order" = true ∨ t1.led = true := led.imp id fun y => Eq.trans q4 y
    have out : ∀ h', Heap.SameBut a s.heap h' → TxS w h' a (z :: L) → Q true { s with heap := h' } := fun h' sb r => fin h' _ _ sb r (Nat.le_refl _) fun y => by
      rw [List.mem_cons]
      exact Or.comm
    have says : ∀ (b : Bool) (u : Shared) (R : Unit → Shared → Prop), R () u → wpAny (model P w) A (match b with | true => rule "set.scan.the-table-gave-way" | false => pure ()) R E u := fun b u R r => by
      cases b
      · exact wpAny_pure r
      · exact wpAny_rule r
    refine wpAny_bind (says _ _ _ ?_)
    split
    · refine wpAny_bind ?_
      rw [hashByValue_scannable 8 scan]
      refine wpAny_pure ?_
      refine tx_store says at_ ex dt g1 pk (List.nodup_cons.mpr ⟨new, nd⟩) few1 ?_ ?_ ?_ fun h' sb r => ?_
      · first | exact q2 | (split <;> first | exact q2 | exact SetTable.fits_plain_off q2)
      · first | exact q3 | (split <;> exact q3)
      · first | exact led1 | (split <;> exact led1)
      · exact wpAny_pure (out h' sb r)
    · refine wpAny_bind (wpAny_pure ?_)
      rw [if_pos rfl]
      refine tx_store says at_ ex dt g1 pk (List.nodup_cons.mpr ⟨new, nd⟩) few1 q2 q3 led1 fun h' sb r => ?_
      exact wpAny_pure (out h' sb r)
end
end IC
namespace IC
open PySem PySem.Spec PyProof.Rows L2
def new0 (w : World) : Obj := { cls := .type "set", dict := none, data := .set #[] 0 (.fresh 0 0 (!w.params.followText "set-order")) }
theorem tx_new {w : World} {h : Heap} {a : Addr} (e : h.get? a = some (new0 w)) : TxS w h a [] := by
  refine ⟨_, #[], 0, _, e, ⟨rfl, rfl, rfl⟩, rfl, fun e he => by simp at he, by simp, by simp, by decide, by rfl, List.Pairwise.nil, ?_⟩
  show _ ∨ (!w.params.followText "set-order") = true
  cases w.params.followText "set-order" <;> simp
theorem txs_at {us : List Value} {xs : List Str} (h : StrsAre us xs) : ∀ (i : Nat) (v : Value), us[i]? = some v → ∃ t, v = .str (xs.getD i Str.empty) t := by
  induction h with
  | nil => exact fun i v e => by simp at e
  | cons z t _ ih =>
    intro i v e
    cases i with
    | zero =>
      injection e with e
      exact ⟨t, e.symm⟩
    | succ j => exact ih j v e
section
variable {P : Program} {w : World} {A : Around}
/-- the loop that puts the texts xs into the set at S -/
theorem set_loop {I : Addr} {fp wr : List Addr} {G : Array GenState → Array GenState → Prop} {n : Nat} {Pv : Nat → Value → Prop} {St : Nat → Shared → Prop} {R : Result → Shared → Prop} (W : WalksS P w A.in1 I fp wr G n Pv St) (S : Addr) (out : S ∉ fp) (xs : List Str) (many : xs.length = n) (few : xs.length + 1 < scanBound)
    (val : ∀ i v, Pv i v → ∃ t, v = .str (xs.getD i Str.empty) t) (h0 : Heap) (new : ∀ b ∈ S :: wr, h0.get? b = none) : ∀ (k i : Nat) (s : Shared), n - i = k → i ≤ n → St i s →
      (∃ M, TxS w s.heap S M ∧ M.length ≤ i ∧ ∀ z, z ∈ M ↔ z ∈ xs.take i) → (∀ b o, h0.get? b = some o → s.heap.get? b = some o) →
      (∀ t M, Moved (S :: wr) G s t → TxS w t.heap S M → M.length ≤ n → (∀ z, z ∈ M ↔ z ∈ xs.take n) → (∀ b o, h0.get? b = some o → t.heap.get? b = some o) → R (.ok (.ret .none)) t) →
      codeAny (model P w) A (.builtin "set.update.loop" ⟨[.ref S, .ref I], []⟩) R s := by
  have nw : S ∉ wr := fun h => out (W.sub _ h)
  have up : ∀ b ∈ wr, b ∈ S :: wr := fun b hb => List.mem_cons_of_mem _ hb
  intro k
  induction k with
  | zero =>
    rintro i s hk hi st ⟨M, RM, len, mem⟩ old fin
    obtain rfl : i = n := by omega
    refine codeAny_builtin F.entry_set_update_loop ?_
    rw [Around.under_plainId F.plain_set_update_loop _]
    show wpAny _ A.in1 (pyNext (.ref I) >>= _) _ _ s
    refine wpAny_bind (W.done s _ _ st fun t mv => ?_)
    show wpAny _ A.in1 (ret Value.none) _ _ t
    exact wpAny_pure (fin t M (mv.mono up) (RM.keep fun o e => mv.heap S o nw e) len mem fun b o e => mv.heap b o (fun hb => by rw [new b (up b hb)] at e; cases e) (old b o e))
  | succ k ih =>
    rintro i s hk hi st ⟨M, RM, len, mem⟩ old fin
    have lt : i < n := by omega
    refine codeAny_builtin F.entry_set_update_loop ?_
    rw [Around.under_plainId F.plain_set_update_loop _]
    show wpAny _ A.in1 (pyNext (.ref I) >>= _) _ _ s
    refine wpAny_bind (W.item i s _ _ lt st fun v t hv st1 mv => ?_)
    rcases val i v hv with ⟨tok, rfl⟩
    have RM1 : TxS w t.heap S M := RM.keep fun o e => mv.heap S o nw e
    show wpAny _ A.in1 (holding [Value.str (xs.getD i Str.empty) tok] (setAdd S (.str (xs.getD i Str.empty) tok)) >>= _) _ _ t
    refine wpAny_bind (wpAny_holding ?_)
    unfold setAdd
    refine wpAny_holding (wpAny_bind ((PySem.strKind P w).pyHash (k := xs.getD i Str.empty) (strKind_is P w _ _) ?_))
    refine tx_add (s := { t with toks := t.toks + 1 }) RM1 (by omega) fun h' b M' sb R2 len2 mem2 => ?_
    have hx : xs[i]? = some (xs.getD i Str.empty) := by
      have hi2 : i < xs.length := by omega
      rw [List.getD_eq_getElem?_getD, List.getElem?_eq_getElem hi2]
      rfl
    refine wpAny_pure ⟨plainId_quiet F.plain_set_update_loop _, ih (i + 1) _ (by omega) lt (W.frame _ t _ _ st1 (Nat.le_succ _) fun b hb o e => ?_) ⟨M', R2, by omega, fun z => ?_⟩ (fun b o e => ?_) fun t2 M2 mv2 R3 l3 m3 old3 => ?_⟩
    · rw [sb.2 b fun e1 => out (e1 ▸ hb)]
      exact e
    · rw [mem2 z, mem z, List.take_add_one, hx]
      simp
    · have ne : b ≠ S := fun e1 => by
        rw [e1, new S List.mem_cons_self] at e
        cases e
      rw [sb.2 b ne]
      exact mv.heap b o (fun hb => by rw [new b (up b hb)] at e; cases e) (old b o e)
    · refine fin t2 M2 (Moved.trans W.gtrans ((mv.mono up).then_heap (Nat.le_succ _) fun b o hb e => ?_) mv2) R3 l3 m3 old3
      rw [sb.2 b fun e1 => hb (by rw [e1]; exact List.mem_cons_self)]
      exact e
end
section
variable {P : Program} {w : World} {A : Around} {E : Value → Shared → Prop} {s : Shared}
set_option maxHeartbeats 8000000 in
theorem call_set_lst {l : Addr} {items : Array Value} {xs : List Str} {Q : Value → Shared → Prop} (calm : A.handled = none) (isl : s.heap.IsList l items) (are : StrsAre items.toList xs) (few : xs.length + 1 < scanBound)
    (fin : ∀ (h' : Heap) (tk : Nat) (M : List Str), TxS w h' s.heap.objs.size M → M.length ≤ xs.length → (∀ z, z ∈ M ↔ z ∈ xs) → (∀ b o, s.heap.get? b = some o → h'.get? b = some o) → Q (.ref s.heap.objs.size) { s with heap := h', toks := tk }) :
    wpAny (model P w) A (call (.type "set") [.ref l]) Q E s := by
  have many : xs.length = items.size := by rw [← StrsAre.len_eq are, Array.length_toList]
  rcases F.called_set.mro with ⟨_, _, mro⟩
  have made := F.called_set.made
  have sub := F.called_set.sub
  refine wpAny_call (codeAny_of_tree ?_)
  show wpAny _ _ (callAny (.type "set") _) _ _ _
  refine wpAny_pure ⟨Code.quiet_builtin _ (by decide +kernel), codeAny_builtin F.entry_type_call ?_⟩
  rw [Around.under_plain (weight_type_call_type "set" [.ref l] []) rfl]
  have noT := F.called_set.notType
  have can := F.called_set.canCreate
  have one := F.typeCall_set_1 (.ref l)
  repeat (any_goals (first | assumption | wp_step))
  refine codeAny_mono (code_set_led1 (.ref l) (E := E) (Q₁ := fun v t => v = .ref s.heap.objs.size ∧ t = { s with heap := s.heap.push (new0 w) }) ⟨rfl, rfl⟩) fun r t made1 => ?_
  cases r with
  | error e => exact made1
  | ok fl =>
    cases fl with
    | next => exact made1.elim
    | brk => exact made1.elim
    | cont => exact made1.elim
    | ret v =>
    rcases made1 with ⟨rfl, rfl⟩
    have at_ : (s.heap.push (new0 w)).get? s.heap.objs.size = some (new0 w) := Heap.get?_push_size _ rfl
    have isT : Shared.TypeIs { s with heap := s.heap.push (new0 w) } (.ref s.heap.objs.size) "set" := ⟨_, at_, rfl⟩
    have look := F.called_set.init.lookup
    have bind := F.called_set.init.bind (.ref s.heap.objs.size)
    repeat (any_goals (first | assumption | wp_step))
    refine codeAny_mono (codeAny_call_builtin (R := wants (fun r t => r = .none ∧ ∃ h' tk M, t = { s with heap := h', toks := tk } ∧ TxS w h' s.heap.objs.size M ∧ M.length ≤ xs.length ∧ (∀ z, z ∈ M ↔ z ∈ xs) ∧ ∀ b o, s.heap.get? b = some o → h'.get? b = some o) E)
      F.called_set.init.plain F.entry_set_init (check_set_init_1 isT ?_)) fun r2 t2 filled => ?_
    · rcases isl with ⟨⟨kl, dl, xl, sl⟩, atl, rfl, nl, dt⟩
      have dt : xl = .seq items nl := dt
      subst dt
      have atl1 : (s.heap.push (new0 w)).get? l = some _ := Heap.get?_push_of_some _ atl
      have no1 := F.sub_list_set
      have no2 := F.sub_list_frozenset
      have no3 : (Value.type "list" == Value.type "dict") = false := by decide
      have isl1 : (s.heap.push (new0 w)).IsList l items := ⟨_, atl1, rfl, nl, rfl⟩
      unfold Builtin.«set.__init__» noKeywords Builtin.Frozenset.updateFrom
      generalize it : pyIter = IT
      wp_walk
      subst it
      refine wpAny_pyIter_list isl1 (wpAny_bind (wpAny_runValue ?_))
      have size : (s.heap.push (new0 w)).objs.size = s.heap.objs.size + 1 := Heap.size_push ..
      have ltl : l < s.heap.objs.size := Heap.lt_size atl
      have calm3 : A.in1.in1.in1.handled = none := calm
      have neI : l ≠ (s.heap.push (new0 w)).objs.size := fun e => by
        rw [e, size] at ltl
        exact absurd ltl (Nat.not_lt.mpr (Nat.le_succ _))
      refine set_loop ((Walks.list calm3 _ l neI items).toS) s.heap.objs.size ?_ xs many few (fun i v hv => txs_at are i v (by rw [Array.getElem?_toList]; exact hv)) s.heap ?_ (items.size - 0) 0 _ (by omega) (Nat.zero_le _)
        ⟨⟨_, Heap.get?_push_size _ rfl, rfl, rfl⟩, isl1.push _⟩ ⟨[], tx_new (Heap.get?_push_of_some _ at_), Nat.le_refl _, fun z => by simp⟩ (fun b o e => Heap.get?_push_of_some _ (Heap.get?_push_of_some _ e)) fun t3 M mv R len mem old => ?_
      · rw [size]
        simp only [List.mem_cons, List.not_mem_nil, or_false, not_or]
        exact ⟨Nat.ne_of_lt (Nat.lt_succ_self _), fun e => Nat.lt_irrefl _ (e ▸ ltl)⟩
      · intro b hb
        rw [size] at hb
        have lt : s.heap.objs.size ≤ b := by
          simp only [List.mem_cons, List.not_mem_nil, or_false] at hb
          rcases hb with e | e
          · rw [e]
            exact Nat.le_refl _
          · rw [e]
            exact Nat.le_succ _
        cases e : s.heap.get? b with
        | none => rfl
        | some o => exact absurd (Heap.lt_size e) (Nat.not_lt.mpr lt)
      · rcases t3 with ⟨h3, g3, d3, k3, o3⟩
        have e1 : g3 = s.gens := mv.gens
        have e2 : d3 = s.drawn := mv.drawn
        have e3 : o3 = s.os := mv.os
        subst e1
        subst e2
        subst e3
        show wpAny _ _ _ _ _ _
        refine wpAny_pure ?_
        show wpAny _ _ (ret Value.none) _ _ _
        rw [← many] at len
        refine wpAny_pure ⟨rfl, h3, k3, M, rfl, R, len, fun z => ?_, old⟩
        rw [mem z, ← many, List.take_length]
    · cases r2 with
      | error e => exact filled
      | ok fl2 =>
        cases fl2 with
        | next => exact filled.elim
        | brk => exact filled.elim
        | cont => exact filled.elim
        | ret v =>
        rcases filled with ⟨rfl, h', tk, M, rfl, R, len, mem, old⟩
        repeat (any_goals (first | assumption | wp_step))
        exact fin h' tk M R len mem old
set_option maxHeartbeats 8000000 in
theorem call_set_tup {l : Addr} {items : Array Value} {xs : List Str} {Q : Value → Shared → Prop} (calm : A.handled = none) (isl : s.heap.IsTuple l items) (are : StrsAre items.toList xs) (few : xs.length + 1 < scanBound)
    (fin : ∀ (h' : Heap) (tk : Nat) (M : List Str), TxS w h' s.heap.objs.size M → M.length ≤ xs.length → (∀ z, z ∈ M ↔ z ∈ xs) → (∀ b o, s.heap.get? b = some o → h'.get? b = some o) → Q (.ref s.heap.objs.size) { s with heap := h', toks := tk }) :
    wpAny (model P w) A (call (.type "set") [.ref l]) Q E s := by
  have many : xs.length = items.size := by rw [← StrsAre.len_eq are, Array.length_toList]
  rcases F.called_set.mro with ⟨_, _, mro⟩
  have made := F.called_set.made
  have sub := F.called_set.sub
  refine wpAny_call (codeAny_of_tree ?_)
  show wpAny _ _ (callAny (.type "set") _) _ _ _
  refine wpAny_pure ⟨Code.quiet_builtin _ (by decide +kernel), codeAny_builtin F.entry_type_call ?_⟩
  rw [Around.under_plain (weight_type_call_type "set" [.ref l] []) rfl]
  have noT := F.called_set.notType
  have can := F.called_set.canCreate
  have one := F.typeCall_set_1 (.ref l)
  repeat (any_goals (first | assumption | wp_step))
  refine codeAny_mono (code_set_led1 (.ref l) (E := E) (Q₁ := fun v t => v = .ref s.heap.objs.size ∧ t = { s with heap := s.heap.push (new0 w) }) ⟨rfl, rfl⟩) fun r t made1 => ?_
  cases r with
  | error e => exact made1
  | ok fl =>
    cases fl with
    | next => exact made1.elim
    | brk => exact made1.elim
    | cont => exact made1.elim
    | ret v =>
    rcases made1 with ⟨rfl, rfl⟩
    have at_ : (s.heap.push (new0 w)).get? s.heap.objs.size = some (new0 w) := Heap.get?_push_size _ rfl
    have isT : Shared.TypeIs { s with heap := s.heap.push (new0 w) } (.ref s.heap.objs.size) "set" := ⟨_, at_, rfl⟩
    have look := F.called_set.init.lookup
    have bind := F.called_set.init.bind (.ref s.heap.objs.size)
    repeat (any_goals (first | assumption | wp_step))
    refine codeAny_mono (codeAny_call_builtin (R := wants (fun r t => r = .none ∧ ∃ h' tk M, t = { s with heap := h', toks := tk } ∧ TxS w h' s.heap.objs.size M ∧ M.length ≤ xs.length ∧ (∀ z, z ∈ M ↔ z ∈ xs) ∧ ∀ b o, s.heap.get? b = some o → h'.get? b = some o) E)
      F.called_set.init.plain F.entry_set_init (check_set_init_1 isT ?_)) fun r2 t2 filled => ?_
    · rcases isl with ⟨⟨kl, dl, xl, sl⟩, atl, rfl, nl, dt⟩
      have dt : xl = .seq items nl := dt
      subst dt
      have atl1 : (s.heap.push (new0 w)).get? l = some _ := Heap.get?_push_of_some _ atl
      have no1 := F.sub_tuple_set
      have no2 := F.sub_tuple_frozenset
      have no3 : (Value.type "tuple" == Value.type "dict") = false := by decide
      have isl1 : (s.heap.push (new0 w)).IsTuple l items := ⟨_, atl1, rfl, nl, rfl⟩
      unfold Builtin.«set.__init__» noKeywords Builtin.Frozenset.updateFrom
      generalize it : pyIter = IT
      wp_walk
      subst it
      refine wpAny_pyIter_tuple isl1 (wpAny_bind (wpAny_runValue ?_))
      have size : (s.heap.push (new0 w)).objs.size = s.heap.objs.size + 1 := Heap.size_push ..
      have ltl : l < s.heap.objs.size := Heap.lt_size atl
      have calm3 : A.in1.in1.in1.handled = none := calm
      have neI : l ≠ (s.heap.push (new0 w)).objs.size := fun e => by
        rw [e, size] at ltl
        exact absurd ltl (Nat.not_lt.mpr (Nat.le_succ _))
      refine set_loop ((Walks.tuple calm3 _ l neI items).toS) s.heap.objs.size ?_ xs many few (fun i v hv => txs_at are i v (by rw [Array.getElem?_toList]; exact hv)) s.heap ?_ (items.size - 0) 0 _ (by omega) (Nat.zero_le _)
        ⟨⟨_, Heap.get?_push_size _ rfl, rfl, rfl⟩, isl1.push _⟩ ⟨[], tx_new (Heap.get?_push_of_some _ at_), Nat.le_refl _, fun z => by simp⟩ (fun b o e => Heap.get?_push_of_some _ (Heap.get?_push_of_some _ e)) fun t3 M mv R len mem old => ?_
      · rw [size]
        simp only [List.mem_cons, List.not_mem_nil, or_false, not_or]
        exact ⟨Nat.ne_of_lt (Nat.lt_succ_self _), fun e => Nat.lt_irrefl _ (e ▸ ltl)⟩
      · intro b hb
        rw [size] at hb
        have lt : s.heap.objs.size ≤ b := by
          simp only [List.mem_cons, List.not_mem_nil, or_false] at hb
          rcases hb with e | e
          · rw [e]
            exact Nat.le_refl _
          · rw [e]
            exact Nat.le_succ _
        cases e : s.heap.get? b with
        | none => rfl
        | some o => exact absurd (Heap.lt_size e) (Nat.not_lt.mpr lt)
      · rcases t3 with ⟨h3, g3, d3, k3, o3⟩
        have e1 : g3 = s.gens := mv.gens
        have e2 : d3 = s.drawn := mv.drawn
        have e3 : o3 = s.os := mv.os
        subst e1
        subst e2
        subst e3
        show wpAny _ _ _ _ _ _
        refine wpAny_pure ?_
        show wpAny _ _ (ret Value.none) _ _ _
        rw [← many] at len
        refine wpAny_pure ⟨rfl, h3, k3, M, rfl, R, len, fun z => ?_, old⟩
        rw [mem z, ← many, List.take_length]
    · cases r2 with
      | error e => exact filled
      | ok fl2 =>
        cases fl2 with
        | next => exact filled.elim
        | brk => exact filled.elim
        | cont => exact filled.elim
        | ret v =>
        rcases filled with ⟨rfl, h', tk, M, rfl, R, len, mem, old⟩
        repeat (any_goals (first | assumption | wp_step))
        exact fin h' tk M R len mem old
end
end IC
namespace IC
open PySem PySem.Spec PyProof.Rows L2
def TxO (w : World) (a : Addr) (L : List Str) : HO := .ext fun h => TxS w h a L
section
variable {X : Cx}
theorem txO_ok {P : Program} {w : World} {H : Hp} {h : Heap} {a : Addr} {L : List Str} (R : TxS w h a L) : ObjOk P w H h a (TxO w a L) := by
  have R2 := R
  rcases R2 with ⟨o, _, _, _, e, _⟩
  exact ⟨R, ⟨o, e⟩, fun h1 h2 p k => TxS.keep p k⟩
/-- set(xs), xs a list or a tuple of texts -/
def rSetTx (K : PySem.W.Frag) (w : World) : List V → Hp → VK → Prop := fun vs H Q => ∃ (a : Addr) (xs : List Str), vs = [.ref a] ∧ (SqL K H a (xs.map V.str) ∨ SqT K H a (xs.map V.str)) ∧ xs.length ≤ 4000 ∧
  ∀ (p : Addr) (M : List Str), H p = none → M.length ≤ xs.length → (∀ z, z ∈ M ↔ z ∈ xs) → M.Nodup → Q (.ref p) (upd H p (TxO w p M))
theorem cr_setTx (calm : X.calm = true) : CallR X (.type "set") (rSetTx X.K X.w) := by
  rintro pins s σ H vs us Q I rel ⟨a, xs, rfl, sq, few, q⟩
  rcases vals1 rel with ⟨u, rfl, ru⟩
  cases ru
  have few2 : xs.length + 1 < scanBound := by
    show xs.length + 1 < 4096
    omega
  have fin : ∀ (h' : Heap) (tk : Nat) (M : List Str), TxS X.w h' s.heap.objs.size M → M.length ≤ xs.length → (∀ z, z ∈ M ↔ z ∈ xs) → (∀ b o, s.heap.get? b = some o → h'.get? b = some o) → EP X pins σ Q (.ref s.heap.objs.size) { s with heap := h', toks := tk } := fun h' tk M R len mem old => by
    have nd : M.Nodup := by
      rcases R with ⟨_, _, _, _, _, _, _, _, _, nd, _⟩
      exact nd
    exact ⟨.ref s.heap.objs.size, _, I.laid (t' := tk) old (Nat.le_refl _) (txO_ok R), rfl, q _ M (I.hok.fresh (Nat.le_refl _)) len mem nd⟩
  rcases sq with sq | sq
  · rcases I.list sq with ⟨its, rv, pl, _⟩
    exact call_set_lst (I.ok.hd calm) pl.isList (by simpa using rv.strs) few2 fin
  · rcases I.tuple sq with ⟨its, rv, pl, _⟩
    exact call_set_tup (I.ok.hd calm) pl (by simpa using rv.strs) few2 fin
/-- sorted(a set of texts) -/
def rSortTx (w : World) : List V → Hp → VK → Prop := fun vs H Q => ∃ (a : Addr) (M : List Str), vs = [.ref a] ∧ H a = some (TxO w a M) ∧ ∀ (ys : List Str) (p : Addr), ys.Perm M → sortedS ys = true → H p = none → Q (.ref p) (upd H p (.lst (ys.map V.str)))
theorem txs_of {w : World} : ∀ {vs : List Value} {es : List (Int × Value)}, (∀ e ∈ es, TxE w e) → vs = es.map (·.2) → StrsAre vs (es.map tk)
  | _, [], _, e => by
    subst e
    exact .nil
  | _, p :: es, g, e => by
    subst e
    rcases g p List.mem_cons_self with ⟨z, k, e1, _⟩
    have r := txs_of (vs := es.map (·.2)) (fun x hx => g x (List.mem_cons_of_mem _ hx)) rfl
    have e2 : tk p = z := by
      unfold tk
      rw [e1]
    rw [List.map_cons, List.map_cons, e1, e2]
    exact .cons z k r
theorem perm_lift {α β : Type} {f : α → β} : ∀ {ys xs : List β} (_ : ys.Perm xs) {l : List α}, xs = l.map f → ∃ l' : List α, l'.Perm l ∧ ys = l'.map f := by
  intro ys xs p
  induction p with
  | nil =>
    intro l e
    have e : l = [] := List.map_eq_nil_iff.mp e.symm
    subst e
    exact ⟨[], .nil, rfl⟩
  | cons x _ ih =>
    intro l e
    cases l with
    | nil => cases e
    | cons y l =>
      injection e with e1 e2
      rcases ih e2 with ⟨l', p', e'⟩
      exact ⟨y :: l', p'.cons y, by rw [List.map_cons, ← e', e1]⟩
  | swap x y r =>
    intro l e
    match l, e with
    | u :: v :: l, e =>
      injection e with e1 e2
      injection e2 with e2 e3
      exact ⟨v :: u :: l, .swap .., by rw [List.map_cons, List.map_cons, e1, e2, e3]⟩
  | trans _ _ ih1 ih2 =>
    intro l e
    rcases ih2 e with ⟨l2, p2, e2⟩
    rcases ih1 e2 with ⟨l1, p1, e1⟩
    exact ⟨l1, p1.trans p2, e1⟩
theorem cr_sortTx (calm : X.calm = true) : CallR X (.builtin "sorted") (rSortTx X.w) := by
  rintro pins s σ H vs us Q I rel ⟨a, M, rfl, at_, q⟩
  have R : TxS X.w s.heap a M := (I.hok a _ at_).1
  rcases vals1 rel with ⟨u, rfl, ru⟩
  cases ru
  rcases R with ⟨o, es, ep, t, ho, ex, dt, g, pm, nd, few, fit, ris, led⟩
  refine Calls.call_function_entry kind_sorted plain_sorted entry_sorted (args_sorted1 _) ?_
  unfold Builtin.«sorted»
  refine wpAny_bind (m := checkCount "sorted" 1 1 _) (wpAny_pure ?_)
  refine wpAny_bind (collect_set (A := X.A.in1) (I.ok.hd calm) ⟨o, ho, ex.1, dt⟩ fit few ris led fun t1 out old grow gens os pm2 => ?_)
  rcases perm_lift pm2 rfl with ⟨es2, p2, e2⟩
  have are : StrsAre out (es2.map tk) := txs_of (fun e he => g e (p2.mem_iff.mp he)) e2
  have pM : (es2.map tk).Perm M := (p2.map tk).trans pm
  have len : out.length ≤ sizeLine := by
    have e := p2.length_eq
    rw [e2, List.length_map, e, Array.length_toList, sizeLine_eq]
    have : es.size < 4096 := few
    omega
  refine wpAny_bind (wpAny_newList ?_ len)
  have at1 : (t1.heap.push (seqObj "list" out.toArray 0)).get? t1.heap.objs.size = some (seqObj "list" out.toArray 0) := Heap.get?_push_size _ rfl
  refine wpAny_bind (wpAny_holding (wpAny_call_entry slot_list_sort ⟨_, at1, rfl⟩ entry_list_sort (list_sort_treeKAny strKind_oneLt at1 are.keysOf (fun v1 v2 rest e => keyKind_strs (by rw [← e]; exact are)) len fun st hp hs => ⟨_, rfl, ?_⟩) (args_list_sort _)))
  rcases sorted_out_str are hp hs with ⟨ys, g1, g2, g3⟩
  rcases sortedHeap_at (vs := out) (out := (arrOf st).map (·.2)) at1 with ⟨c, hc⟩
  have lenY : (ys.map V.str).length ≤ sizeLine := by
    rw [List.length_map, g2.length_eq, ← StrsAre.length are]
    exact len
  have keep : ∀ b u, s.heap.get? b = some u → (sortedHeap (t1.heap.push (seqObj "list" out.toArray 0)) t1.heap.objs.size out ((arrOf st).map (·.2))).get? b = some u := fun b u e => by
    have e1 := old b u e
    have lt := Heap.lt_size e1
    rw [sortedHeap_old (Nat.ne_of_lt lt) (by rw [size_push']; exact Nat.lt_succ_of_lt lt)]
    exact Heap.get?_push_of_some _ e1
  have J : Inv X pins σ (upd H t1.heap.objs.size (.lst (ys.map V.str))) { s with heap := sortedHeap (t1.heap.push (seqObj "list" out.toArray 0)) t1.heap.objs.size out ((arrOf st).map (·.2)), gens := t1.gens, drawn := t1.drawn, toks := t1.toks } :=
    I.call (ch := []) (Un.laid keep grow (I.hok.fresh grow)) (I.hok.laid keep grow ⟨lenY, ((arrOf st).map (·.2)).toList, c, vals_of_strs g1, by rw [Array.toArray_toList]; exact hc⟩) (by rw [gens]; exact I.bare) (fun _ z => nomatch z)
  refine wpAny_pure ⟨_, rfl, ?_⟩
  rcases t1 with ⟨h1, g1', d1, k1, o1⟩
  have os : o1 = s.os := os
  subst os
  exact ⟨.ref h1.objs.size, _, J, rfl, q ys _ (g2.trans pM) g3 (I.hok.fresh grow)⟩
/-- sorted(a list of texts), however many -/
theorem cr_sortLT : CallR X (.builtin "sorted") (fun vs H Q => ∃ (a : Addr) (xs : List Str), vs = [.ref a] ∧ SqL X.K H a (xs.map V.str) ∧ ∀ (ys : List Str) (p : Addr), ys.Perm xs → sortedS ys = true → H p = none → Q (.ref p) (upd H p (.lst (ys.map V.str)))) := by
  rintro pins s σ H vs us Q I rel ⟨a, xs, rfl, sq, q⟩
  rcases vals1 rel with ⟨u, rfl, ru⟩
  cases ru
  rcases I.list sq with ⟨its, rv, pl, small⟩
  have e0 := rv.length
  rw [List.length_map] at e0
  rw [List.length_map] at small
  refine sorted_strsAny pl.isList rv.strs (by rw [← e0]; exact small) fun out ys h1 h2 h3 => ?_
  rcases sortedAll_at s.heap its out with ⟨ep, he⟩
  have len : (ys.map V.str).length ≤ sizeLine := by
    rw [List.length_map, h2.length_eq]
    exact small
  exact ⟨.ref _, upd H (s.heap.objs.size + 1) (.lst (ys.map V.str)), I.laid (t' := s.toks) (fun _ _ => sortedAll_old) (Nat.le_succ _) ⟨len, out.toList, ep, vals_of_strs h1, he⟩, rfl, q ys _ h2 h3 (I.hok.fresh (Nat.le_succ _))⟩
end
end IC
namespace IC
open PySem PySem.Spec PyProof.Rows L2
abbrev VSt := List (Option V)
/-! ### {k: v for x in xs}, the keys tuples of texts and numbers -/
theorem put_tup {X : Cx} {pins : List (Addr × Obj)} {σ : VSt} {H : Hp} {s : Shared} {B : Value → Shared → Prop} {D b : Addr} {kvs : List (List Key × V)} {k : List Key} {v : V} {r : Value} {Q : Unit → Shared → Prop} (room : X.A.units < cLine) (I : Inv X pins σ H s) (at_ : H D = some (.dT kvs))
    (key : H b = some (.tup (k.map kV))) (few : kvs.length < sizeLine) (rel : RelV v r) (fin : ∀ t, Inv X pins σ (upd H D (.dT (putK kvs k v))) t → Q () t) : wpAny (model X.prog X.w) X.A (dictSet D (.ref b) r) Q B s := by
  rcases dt_of I.hok at_ with ⟨z, sys, xs, kt, dd⟩
  have many : xs.length ≤ sizeLine := by
    rw [← Paired.length kt]
    exact z
  have more : (putK kvs k v).length ≤ sizeLine := Nat.le_trans (length_putK kvs k v) few
  refine wpAny_dictSet_heap (hsz := many) (show (tupleKind (mixKind X.prog X.w)).room X.A from room) (key_of I.hok key) dd fun h' dd' sb => fin _ ?_
  rcases dd' with ⟨o, es, ep, e1, e2, e3, e4, _, e5⟩
  refine d_write I (by rw [at_]; exact True.intro) sb ⟨o, e1⟩ ⟨more, sys, _, (kt.put k key rel).keeps fun c ys ec => ?_, o, es, ep, e1, e2, e3, e4, e5⟩
  rw [upd_ne (ne_of ec at_ (fun z => nomatch z))]
  exact ec
section
variable {X : Cx}
def tDct (wi : TI) (g : TG) (tt : TT) (tk tv : TE) (vs : List Nat) : TE := fun σ H Q => wi σ H fun J H1 => ∀ D, H1 D = none → ∃ W : Nat → Nat → Hp → Prop, (∃ m, W 0 m (upd H1 D (.dT []))) ∧ ∀ i m G, W i m G →
  (J.stop i G ∧ Q (.ref D) G) ∨ (J.go i G ∧ ∃ Nx : Hp → Prop, (∀ G', Nx G' → ∃ m', m' < m ∧ W (i + 1) m' G') ∧ ∀ x G', J.yld i G x G' → g x (wipe σ vs) G' fun τ G2 => wipe τ vs = wipe σ vs ∧ tt τ G2 fun b G3 =>
    if b = true then tk τ G3 fun y G4 => tv τ G4 fun z G5 => ∃ (kvs : List (List Key × V)) (k : List Key) (b : Addr), y = .ref b ∧ G5 b = some (.tup (k.map kV)) ∧ G5 D = some (.dT kvs) ∧ kvs.length < sizeLine ∧ Nx (upd G5 D (.dT (putK kvs k z))) else Nx G3)
theorem pe_dct {kx vx tg iter : Expr} {ifs : List Expr} {sc : Scope} {own : List (Str × Nat)} {pos : Pos} {wi : TI} {g : TG} {tt : TT} {tk tv : TE} (calm : X.calm = true) (nd : X.N.Nodup) (room : X.A.units < cLine) (walk : PI X tg iter wi) (blk : BlkOk X.N X.env.scope sc own)
    (hg : ∀ (s : Shared) (H : Hp) (C : Addr) (cl : List (Str × Addr)) (fp : List Addr), PG (X.blk s H sc (compEnvC sc cl C X.env) fp) tg g) (ht : ∀ (s : Shared) (H : Hp) (C : Addr) (cl : List (Str × Addr)) (fp : List Addr), PTs (X.blk s H sc (compEnvC sc cl C X.env) fp) ifs tt)
    (hk : ∀ (s : Shared) (H : Hp) (C : Addr) (cl : List (Str × Addr)) (fp : List Addr), PE (X.blk s H sc (compEnvC sc cl C X.env) fp) kx tk) (hv : ∀ (s : Shared) (H : Hp) (C : Addr) (cl : List (Str × Addr)) (fp : List Addr), PE (X.blk s H sc (compEnvC sc cl C X.env) fp) vx tv)
    (noset : ∀ x, foldedSetIterable iter X.env x = pure x := by intro _; rfl) : PE X (.DictComp kx vx [⟨tg, iter, ifs, 0⟩] sc pos) (tDct wi g tt tk tv (own.map (·.2))) := by
  constructor
  intro pins s σ H Q I wish
  rw [arm_eval_DictComp]
  have frees : ∀ y ∈ sc.names, y.2 = .free → ∃ c, X.env.cells.lookup y.1 = some c := fun y hy e => (blk.free y hy e).elim (fun q => I.ok.has _ (.inl q)) fun q => I.ok.has _ (.inr q)
  refine wpAny_comprehension_free (use := _) rfl noset (closure_ok frees) blk.kind (fun y hy e => by rw [blk.uniq y hy, e]) (thn (walk.run pins s σ H _ I wish) fun xv s1 h1 => thn h1 fun itv s2 h2 => ?_)
  rcases h2 with ⟨it, fp, tn, J, H2, rfl, I2, T, st2, out2, q⟩
  refine wpAny_newObj_type (newEnv_comp ?_)
  obtain ⟨D, hD⟩ : ∃ D, s2.heap.objs.size = D := ⟨_, rfl⟩
  rw [hD]
  rcases q D (I2.hok.fresh (Nat.le_of_eq hD)) with ⟨W, ⟨m0, w0⟩, turn⟩
  obtain ⟨s3, hs3⟩ : ∃ t : Shared, t = { s2 with heap := s2.heap.push { cls := .type "dict", data := .dict #[] } } := ⟨_, rfl⟩
  rw [← hs3]
  have up3 : s3.heap = s2.heap.push { cls := .type "dict", data := .dict #[] } := by rw [hs3]
  have I3 : Inv X pins σ (upd H2 D (.dT [])) s3 := by
    rw [hs3]
    refine I2.laid (t' := s2.toks) (fun b o e => Heap.get?_push_of_some _ e) (Nat.le_of_eq hD) ?_
    rw [← hD]
    exact dt_empty s2.heap I2.big
  have low : ∀ b ∈ fp, b < s2.heap.objs.size := fun b hb => (T.obj _ _ st2 b hb).elim fun o e => Heap.lt_size e.1
  have out3 : ∀ b ∈ fp, FpOk X pins (upd H2 D (.dT [])) b ∧ b < s3.heap.objs.size := fun b hb => by
    have lt := low b hb
    have ne : b ≠ D := by
      rw [← hD]
      exact Nat.ne_of_lt lt
    refine ⟨⟨(upd_ne ne).trans (out2 b hb).1, (out2 b hb).2⟩, ?_⟩
    rw [up3, Heap.size_push]
    exact Nat.lt_succ_of_lt lt
  have st3 : tn 0 s3.heap := T.keep _ _ _ st2 fun b _ o e => by
    rw [up3]
    exact Heap.get?_push_of_some _ e
  have I4 := block_start I3 blk nd out3
  obtain ⟨cl, hcl⟩ : ∃ l, l = cellsFrom (s3.heap.objs.size + 1) sc.names (cloFrom X.env.cells sc.names []) := ⟨_, rfl⟩
  rw [← hcl] at I4 ⊢
  obtain ⟨G3, hG3⟩ : ∃ G, G = upd H2 D (.dT []) := ⟨_, rfl⟩
  rw [← hG3] at I3 I4 out3 w0
  have pg := hg s3 G3 s3.heap.objs.size cl fp
  have pt := ht s3 G3 s3.heap.objs.size cl fp
  have pk := hk s3 G3 s3.heap.objs.size cl fp
  have pv := hv s3 G3 s3.heap.objs.size cl fp
  have loc : (compEnvC sc cl s3.heap.objs.size X.env).locals = s3.heap.objs.size := rfl
  have fp0 : ∀ b ∈ fp, G3 b = none := fun b hb => (out3 b hb).1.1
  obtain ⟨s4, hs4⟩ : ∃ t : Shared, t = { s3 with heap := pushCells (s3.heap.push { cls := .type "dict", data := .dict #[] }) sc.names } := ⟨_, rfl⟩
  show codeAny _ _ (.compStart (.DictComp kx vx [⟨tg, iter, ifs, 0⟩] sc pos) 0 (.ref it) (.ref D) (compEnvC sc cl s3.heap.objs.size X.env)) (compPost (model X.prog X.w) X.A X.xe none (EP X pins σ Q) (.ref D) s3.heap.objs.size) { s3 with heap := pushCells (s3.heap.push { cls := .type "dict", data := .dict #[] }) sc.names }
  generalize compEnvC sc cl s3.heap.objs.size X.env = ce at I4 pg pt pk pv loc ⊢
  rw [← hs4] at I4 ⊢
  have st4 : tn 0 s4.heap := T.keep _ _ _ st3 fun b _ o e => by
    rw [hs4]
    exact pushCells_keeps _ _ _ _ (Heap.get?_push_of_some _ e)
  have still : ∀ {τ : VSt} {G : Hp} {t : Shared}, Inv (X.blk s3 G3 sc ce fp) [] τ G t → (∀ b ∈ fp, G b = none) → ∀ b ∈ fp, FpOk (X.blk s3 G3 sc ce fp) [] G b := fun J n b hb => ⟨n b hb, (J.ok.exf b hb).1, J.ok.exfs b hb, .inl hb, fun x c e => (J.ok.exf b hb).2 x c e, fun p hp => by cases hp⟩
  refine codeAny_compStart_dict ?loop (T.self X.A 0 _ _ _ st4 ?loop)
  refine compLoop_anyD (fun n t => ∃ i G, Inv (X.blk s3 G3 sc ce fp) [] (wipe σ (own.map (·.2))) G t ∧ tn i t.heap ∧ (∀ b ∈ fp, G b = none) ∧ W i n G) ?_ m0 ⟨0, G3, I4, st4, fp0, w0⟩
  rintro n s5 ⟨i, G5, I5, st5, n5, w5⟩
  rcases turn i n G5 w5 with ⟨stop, done⟩ | ⟨go, Nx, next, step⟩
  · refine thnF (T.done (X.blk s3 G3 sc ce fp) rfl rfl rfl calm i [] s5 _ G5 (fun _ _ => False) I5 (still I5 n5) st5 stop) fun r s6 ⟨hr, I6⟩ => ?_
    subst hr
    have I7 : Inv X pins σ G5 s6 := I3.call' (ch := fp) I6.os I6.base I6.hok I6.bare fun b hb => ⟨(out3 b hb).1.2.2.2.1, (out3 b hb).1.2.1, (out3 b hb).1.2.2.2.2.1, (out3 b hb).1.2.2.2.2.2⟩
    have no : G5 ce.locals = none := I6.free
    rcases I6.loc with ⟨m, ns, _⟩
    have ns : s6.heap.Ns ce.locals m := ns
    rw [loc] at no ns
    rcases I3.fpOk (Nat.le_refl _) no with ⟨f0, f1, f2, f3, f4, f5⟩
    exact ⟨m, ns, fun h'' sb => ⟨.ref D, G5, I7.turned (t' := s6.toks) (fun b o hb e => (sb.2 b hb).trans e) f0 f1 f3 f4 f5, rfl, done⟩⟩
  · refine thnF (T.item (X.blk s3 G3 sc ce fp) rfl rfl rfl calm i [] s5 _ G5 (fun _ _ => False) I5 (still I5 n5) st5 go) fun r s6 ⟨u, hr, h6⟩ => ?_
    subst hr
    refine thnF h6 fun _ s7 ⟨x, G7, I7, r7, y7, st7, n7⟩ => ?_
    refine thnF (pg.run _ s7 _ G7 x u _ (I7.pinned (still I7 n7) (T.obj _ _ st7)) r7 (step x G7 y7)) fun _ s8 ⟨τ, G8, I8, same, q8⟩ => ?_
    refine thnF (pt.run _ s8 τ G8 _ I8 q8) fun b s9 ⟨G9, I9, q9⟩ => ?_
    have back : ∀ {t : Shared} {G : Hp}, Inv (X.blk s3 G3 sc ce fp) ([] ++ pinsAt fp s7.heap) τ G t → Nx G → ∃ m, m < n ∧ ∃ i G', Inv (X.blk s3 G3 sc ce fp) [] (wipe σ (own.map (·.2))) G' t ∧ tn i t.heap ∧ (∀ b ∈ fp, G' b = none) ∧ W i m G' := fun {t G} J nx => by
      rcases next G nx with ⟨m', lt, w'⟩
      have pinned : ∀ b ∈ fp, ∀ o, s7.heap.get? b = some o → t.heap.get? b = some o ∧ G b = none := fun b hb o e => by
        have z := J.pin (b, o) (List.mem_append_right _ (List.mem_append_right _ (mem_pinsAt hb e)))
        exact ⟨z.1, z.2.1⟩
      refine ⟨m', lt, i + 1, G, (J.unpinned (pins := [])).weak (by rw [← same, wipe_length]) fun j v e => ?_, T.keep _ _ _ st7 fun b hb o e => (pinned b hb o e).1, fun b hb => ?_, w'⟩
      · rw [← same] at e
        exact (wipe_some e).1
      · rcases T.obj _ _ st7 b hb with ⟨o, e, _⟩
        exact (pinned b hb o e).2
    cases b with
    | false => exact back I9 q9
    | true =>
      refine thnF (pk.run _ s9 τ G9 _ I9 q9) fun z s10 ⟨yk, G10, I10, r10, q10⟩ => ?_
      refine thnF (pv.run _ s10 τ G10 _ I10 q10) fun z2 s11 ⟨yv, G11, I11, r11, kvs, k, c, ek, hc, hD11, few, nx⟩ => ?_
      subst ek
      cases r10
      exact put_tup (X := X.blk s3 G3 sc ce fp) room I11 hD11 hc few r11 fun t J => back J nx
/-- over a list that stays -/
theorem dct_list {K : PySem.W.Frag} {a : Addr} {xs : List V} {g : TG} {tt : TT} {tk tv : TE} {vs : List Nat} {σ : VSt} {H1 : Hp} {D : Addr} {Qd : Hp → Prop} (Pv : Nat → Hp → Prop) (h0 : Pv 0 (upd H1 D (.dT []))) (stays : ∀ i G, i ≤ xs.length → Pv i G → SqL K G a xs)
    (one : ∀ i x G, xs[i]? = some x → Pv i G → g x (wipe σ vs) G fun τ G2 => wipe τ vs = wipe σ vs ∧ tt τ G2 fun b G3 =>
      if b = true then tk τ G3 fun y G4 => tv τ G4 fun z G5 => ∃ (kvs : List (List Key × V)) (k : List Key) (c : Addr), y = .ref c ∧ G5 c = some (.tup (k.map kV)) ∧ G5 D = some (.dT kvs) ∧ kvs.length < sizeLine ∧ Pv (i + 1) (upd G5 D (.dT (putK kvs k z))) else Pv (i + 1) G3) (fin : ∀ G, Pv xs.length G → Qd G) :
    ∃ W : Nat → Nat → Hp → Prop, (∃ m, W 0 m (upd H1 D (.dT []))) ∧ ∀ i m G, W i m G →
      ((Itl K a).stop i G ∧ Qd G) ∨ ((Itl K a).go i G ∧ ∃ Nx : Hp → Prop, (∀ G', Nx G' → ∃ m', m' < m ∧ W (i + 1) m' G') ∧ ∀ x G', (Itl K a).yld i G x G' → g x (wipe σ vs) G' fun τ G2 => wipe τ vs = wipe σ vs ∧ tt τ G2 fun b G3 =>
        if b = true then tk τ G3 fun y G4 => tv τ G4 fun z G5 => ∃ (kvs : List (List Key × V)) (k : List Key) (c : Addr), y = .ref c ∧ G5 c = some (.tup (k.map kV)) ∧ G5 D = some (.dT kvs) ∧ kvs.length < sizeLine ∧ Nx (upd G5 D (.dT (putK kvs k z))) else Nx G3) := by
  refine ⟨fun i m G => m = xs.length - i ∧ i ≤ xs.length ∧ Pv i G, ⟨xs.length, rfl, Nat.zero_le _, h0⟩, ?_⟩
  rintro i m G ⟨rfl, le, p⟩
  have sq := stays i G le p
  rcases Nat.lt_or_ge i xs.length with lt | ge
  · refine .inr ⟨⟨xs, xs[i], sq, List.getElem?_eq_getElem lt⟩, Pv (i + 1), fun G' p' => ⟨xs.length - (i + 1), by omega, rfl, lt, p'⟩, fun x G' y => ?_⟩
    rcases y with ⟨e, y⟩
    subst e
    exact one i x _ (y xs sq) p
  · obtain rfl : i = xs.length := Nat.le_antisymm le ge
    exact .inl ⟨⟨xs, sq, Nat.le_refl _⟩, fin G p⟩
end
end IC
namespace IC
open PySem L2 TL
/-! ### static methods by a promise of any arguments -/
theorem pe_smR {X : Cx} {k j : Nat} {C p g : Addr} {mc : Value} {sp : Sp} {o e : Expr} {es : List Expr} {m : Str} {pos apos : Pos} {ta : TE} {t : TA} {pl : Sem Bool} (ho : PE X o ta) (S : SMet X.K C mc m p g) (F : FnR X.prog X.w X.K X.mg X.base CX0 k g sp) (hr : Room j X.A) (hk : k ≤ j) (ha : PA X (e :: es) t)
    (he : starEach (e :: es) X.env = (false, eval e X.env) :: starEach es X.env := by rfl) (hpl : (backTo pos (starEach es X.env)).any (·.1) = false := by rfl)
    (ht : eval (.Call (.Attribute o m apos) (e :: es) [] pos) X.env = (do
      let ov ← eval o X.env; standAt apos.atName
      let (f, first) ← holding [ov] (getMethod ov m pl); callWith pos f first (backTo pos (starEach (e :: es) X.env)) (backToKw pos (keywordEach [] X.env))) := by rfl) :
    PE X (.Call (.Attribute o m apos) (e :: es) [] pos) (tSM C sp ta t) := by
  constructor
  intro pins s σ H Q I h
  refine PySem.W.methodCall_KW (pl := pl) (thn (ho.run pins s σ H _ I h) fun u s1 h1 => ?_) ht
  rcases h1 with ⟨_, H1, I1, ru, rfl, q⟩
  cases ru
  rcases S.rec_ with ⟨more, isRec⟩
  refine PySem.W.method_cls I1.kIn S.rd.ga (PySem.W.cls_bind I1.kIn S.rd.rd S.fnd (wpAny_call (PySem.W.sm_get (s := { s1 with toks := s1.toks + 1 }) I1.kIn isRec (PySem.W.handed_on rfl ?_))))
  have I2 : Inv X pins σ H1 { s1 with toks := s1.toks + 1 } := I1.tok _
  refine PySem.W.callWith_K (h₀ := X.base) I2.ok.mod.kin S.kp (thn (ha.run pos pins _ σ H1 _ I2 q) fun us s3 h3 => ?_) he hpl
  rcases h3 with ⟨vs, H3, I3, rv, q3⟩
  exact ⟨I3.kIn, wpAny_call (run_fnR F (hr.mono hk) pass0 I3 rv q3)⟩
theorem pe_smR0 {X : Cx} {k j : Nat} {C p g : Addr} {mc : Value} {sp : Sp} {o : Expr} {m : Str} {pos apos : Pos} {ta : TE} {pl : Sem Bool} (ho : PE X o ta) (S : SMet X.K C mc m p g) (F : FnR X.prog X.w X.K X.mg X.base CX0 k g sp) (hr : Room j X.A) (hk : k ≤ j)
    (ht : eval (.Call (.Attribute o m apos) [] [] pos) X.env = (do
      let ov ← eval o X.env; standAt apos.atName
      let (f, first) ← holding [ov] (getMethod ov m pl); callWith pos f first (backTo pos (starEach [] X.env)) (backToKw pos (keywordEach [] X.env))) := by rfl) :
    PE X (.Call (.Attribute o m apos) [] [] pos) (tSM C sp ta tNil) := by
  constructor
  intro pins s σ H Q I h
  refine PySem.W.methodCall_KW (pl := pl) (thn (ho.run pins s σ H _ I h) fun u s1 h1 => ?_) ht
  rcases h1 with ⟨_, H1, I1, ru, rfl, q⟩
  cases ru
  rcases S.rec_ with ⟨more, isRec⟩
  refine PySem.W.method_cls I1.kIn S.rd.ga (PySem.W.cls_bind I1.kIn S.rd.rd S.fnd (wpAny_call (PySem.W.sm_get (s := { s1 with toks := s1.toks + 1 }) I1.kIn isRec (PySem.W.handed_on rfl ?_))))
  have I2 : Inv X pins σ H1 { s1 with toks := s1.toks + 1 } := I1.tok _
  exact PySem.W.callWith_K0 I2.kIn S.kp (wpAny_call (run_fnR F (hr.mono hk) pass0 I2 .nil q))
/-- def f(*v) -/
theorem Fun.star {P : Program} {w : World} {K : PySem.W.Frag} {mg : Str → Option Value} {base : Heap} {x qual v : Str} {st : Stmt} {fa : Addr} {fd : FuncData} {M : List Str} {n : Nat} {sp : Sp} (D : Fun K x qual st fa fd) (S : FnScope M [v] (defScope st))
    (bind : ∀ (oc : Value) (kV doc pm : Value) (an : Option Addr) (cdv ct : Value) (rest : List Value), bindArgs (PySem.W.fnOf x qual (defArgs st) (defBody st) (defScope st) .none kV doc pm an cdv ct) ⟨rest, []⟩ = (newTuple rest >>= fun t => pure [(v, t)]))
    (walk : ∀ (cdv : Value) (B : Around) (out : List Env) (s : Shared) (H : Hp) (vs : List V) (Q : VK) (E : XK), Room n (B.deeper (PyProof.Rows.envOfC qual (defScope st) s.heap.objs.size fa cdv)) → sp vs H Q E →
      ∃ t, PSs (cxOf CX0 P w K mg base M qual (defScope st) fa cdv B out s H E) (defBody st) t ∧ t { nx := fun _ G => Q .non G, rt := Q } (L2.start M vs) H) :
    FnR P w K mg base CX0 (n + 1) fa (fun vs H Q E => vs.length ≤ sizeLine ∧ ∀ p, H p = none → sp [.ref p] (upd H p (.tup vs)) Q E) := by
  rcases D.ex with ⟨oc, _, kV, doc, pm, an, cv, ct, _, rfl, at_, code⟩
  refine FnR.imp (StX.fn_star (ps := []) (pv := v) (sp := sp) at_ code S StX.cxUp_none (fun us rest e => ?_) (fun B out s H vs Q E room h => walk cv B out s H vs Q E room h)) fun vs H Q E h => ⟨[], vs, rfl, rfl, h.1, h.2⟩
  have e0 : us = [] := List.length_eq_zero_iff.mp e
  subst e0
  exact bind oc kV doc pm an cv ct rest
/-! ### rules: what stands of one -/
def dictR (al : List (List Str)) : List (List Key × V) := al.foldl (fun kvs k => putK kvs (k.map Sum.inr) (.bl true)) []
abbrev rlf (t d : Addr) (z : Str) : List (Str × V) := [("_names", .ref t), ("_allowed", .ref d), ("_text", .str z)]
def RuleAt (C : Addr) (H : Hp) (r : Addr) (ns : List Str) (al : List (List Str)) (z : Str) : Prop := ∃ dx t d : Addr, H r = some (.ins C dx (rlf t d z)) ∧ H t = some (.tup (ns.map V.str)) ∧ H d = some (.dT (dictR al))
theorem RuleAt.same {C : Addr} {H H' : Hp} {r : Addr} {ns : List Str} {al : List (List Str)} {z : Str} (h : RuleAt C H r ns al z) (s : Same H H') : RuleAt C H' r ns al z := by
  rcases h with ⟨dx, t, d, h1, h2, h3⟩
  exact ⟨dx, t, d, s _ _ h1, s _ _ h2, s _ _ h3⟩
theorem RuleAt.mv {C : Addr} {H H' : Hp} {r p : Addr} {ns : List Str} {al : List (List Str)} {z : Str} {xs : List V} (h : RuleAt C H r ns al z) (k : Kp [p] H H') (hp : H p = some (.lst xs)) : RuleAt C H' r ns al z := by
  rcases h with ⟨dx, t, d, h1, h2, h3⟩
  have ne : ∀ {b : Addr} {o : HO}, H b = some o → (∀ ys, o ≠ .lst ys) → b ∉ [p] := fun e n hb => by
    rw [List.mem_singleton.mp hb, hp] at e
    cases e
    exact n _ rfl
  exact ⟨dx, t, d, k _ _ h1 (ne h1 fun _ z => by cases z), k _ _ h2 (ne h2 fun _ z => by cases z), k _ _ h3 (ne h3 fun _ z => by cases z)⟩
theorem inr_inj {a b : List Str} : (a.map Sum.inr : List Key) = b.map Sum.inr ↔ a = b := by
  constructor
  · intro h
    induction a generalizing b with
    | nil => cases b with
      | nil => rfl
      | cons y b => cases h
    | cons x a ih => cases b with
      | nil => cases h
      | cons y b =>
        injection h with h1 h2
        injection h1 with h1
        rw [h1, ih h2]
  · intro h
    rw [h]
theorem dictR_get (al : List (List Str)) (k : List Str) : valV (dictR al) (k.map Sum.inr) = if k ∈ al then some (.bl true) else none := by
  have all : ∀ (al : List (List Str)) (kvs : List (List Key × V)), valV (al.foldl (fun kvs k => putK kvs (k.map Sum.inr) (.bl true)) kvs) (k.map Sum.inr) = if k ∈ al then some (.bl true) else valV kvs (k.map Sum.inr) := by
    intro al
    induction al with
    | nil => intro kvs; simp
    | cons a al ih =>
      intro kvs
      rw [List.foldl_cons, ih, valV_put]
      by_cases h1 : k ∈ al
      · simp [h1]
      · by_cases h2 : k = a
        · subst h2
          simp [h1]
        · have h3 : ¬ (k.map Sum.inr : List Key) = a.map Sum.inr := fun e => h2 (inr_inj.mp e)
          simp [h1, h2, h3]
  exact all al []
theorem room_units {k : Nat} {A : Around} (hr : Room k A) : A.units < cLine := by
  have := hr.un
  omega
theorem pe_gv2 {X : Cx} {x : Str} {v : V} {pos : Pos} (h : ∃ u, X.mg x = some u ∧ RelV v u) (hg : Gl X x) (hdb : (x == ("__debug__" : Str)) = false := by decide) : PE X (.Name x pos) (tC v) := by
  rcases h with ⟨u, e, r⟩
  exact pe_glob hg e r hdb
theorem ite_eq {α : Type} [DecidableEq α] {p q : Prop} {v : α} (h : p) : if decide (v = v) = true then p else q := by
  rw [if_pos (decide_eq_true rfl)]
  exact h
theorem inV_strs (z : Str) (ks : List Str) : inV (.str z) (ks.map V.str) = decide (z ∈ ks) := by
  unfold inV
  induction ks with
  | nil => rfl
  | cons y ks ih =>
    rw [List.map_cons, List.any_cons, ih]
    have e : eqV (.str y) (.str z) = decide (z = y) := by
      show (y == z) = decide (z = y)
      rw [Bool.eq_iff_iff, beq_iff_eq, decide_eq_true_iff]
      exact eq_comm
    rw [e, Bool.eq_iff_iff, Bool.or_eq_true, decide_eq_true_iff, decide_eq_true_iff, decide_eq_true_iff, List.mem_cons]
theorem flat_ks (ks : List Str) : (ks.map V.str).all flatV = true := by
  rw [List.all_eq_true]
  intro x hx
  rcases List.mem_map.mp hx with ⟨y, _, rfl⟩
  rfl
theorem kv_inr (k : List Str) : (k.map Sum.inr : List Key).map kV = k.map V.str := by
  rw [List.map_map]
  rfl
/-- the tuples rs of the texts al -/
def Tups (H : Hp) (rs : List Addr) (al : List (List Str)) : Prop := rs.length = al.length ∧ ∀ (i : Nat) (r : Addr) (k : List Str), rs[i]? = some r → al[i]? = some k → H r = some (.tup (k.map V.str))
def spRInit (C : Addr) : Sp := fun vs H Q _ => ∃ (x dx t l : Addr) (ns : List Str) (al : List (List Str)) (rs : List Addr) (z : Str), vs = [.ref x, .ref t, .ref l, .str z] ∧ H x = some (.ins C dx []) ∧ H t = some (.tup (ns.map V.str)) ∧ H l = some (.lst (rs.map V.ref)) ∧ Tups H rs al ∧ al.length ≤ 100 ∧
  ∀ H', Kp [x] H H' → RuleAt C H' x ns al z → Q .non H'
structure RDf (P : Program) (w : World) (K : PySem.W.Frag) (mg : Str → Option Value) (base : Heap) (k : Nat) (C : Addr) : Prop where
  ex : ∃ (f : Addr) (fd : FuncData), Mk K C f ∧ FnOk P w K mg base CX0 k f fd ["self", "names", "allowed", "text"] (spRInit C) ∧ Binds K fd ["self", "names", "allowed", "text"] [] ∧ mg "Rule" = some (.ref C)
theorem pe_mkR {X : Cx} {k j : Nat} {C : Addr} {e : Expr} {es : List Expr} {t : TA} {p pos : Pos} (D : RDf X.prog X.w X.K X.mg X.base k C) (hr : Room j X.A) (hk : k + 1 ≤ j) (hg : Gl X "Rule") (ha : PA X (e :: es) t)
    (he : starEach (e :: es) X.env = (false, eval e X.env) :: starEach es X.env := by rfl) (hpl : (backTo pos (starEach es X.env)).any (·.1) = false := by rfl) : PE X (.Call (.Name "Rule" p) (e :: es) [] pos) (tMake C (spRInit C) [] E0 t) := by
  rcases D.ex with ⟨f, fd, M, F, hb, hm⟩
  exact pe_make M F (hr.mono hk) hg hm hb .nil pass0 ha (by decide) he hpl
/-- what stands of the class -/
structure RTxt (K : PySem.W.Frag) (mg : Str → Option Value) (C : Addr) : Prop where
  c : Cls K C
  n : NoAttr K C "_names"
  a : NoAttr K C "_allowed"
  t : NoAttr K C "_text"
  gC : mg "Rule" = some (.ref C)
  gM : ∃ u, mg "MOST_RECORDS" = some u ∧ RelV (.int 6) u
/-- a new rule -/
def NewR (C : Addr) (H : Hp) (ns : List Str) (al : List (List Str)) (z : Str) (Q : VK) : Prop := ∀ (H' : Hp) (r : Addr), Same H H' → RuleAt C H' r ns al z → Q (.ref r) H'
theorem NewR.same {C : Addr} {H H1 : Hp} {ns : List Str} {al : List (List Str)} {z : Str} {Q : VK} (h : NewR C H ns al z Q) (s : Same H H1) : NewR C H1 ns al z Q := fun H' r s2 q => h H' r (s.trans s2) q
theorem make_rule {C : Addr} {H : Hp} {Q : VK} {t l : Addr} {ns : List Str} {al : List (List Str)} {rs : List Addr} {z : Str} (ht : H t = some (.tup (ns.map V.str))) (hl : H l = some (.lst (rs.map V.ref))) (tu : Tups H rs al) (few : al.length ≤ 100)
    (k : NewR C H ns al z Q) : ∀ x dx, H x = none → H dx = none → dx ≠ x → spRInit C [.ref x, .ref t, .ref l, .str z] (upd (upd H dx (.own x)) x (.ins C dx [])) (fun v H2 => v = .non ∧ Q (.ref x) H2) E0 := by
  intro x dx nx nd ne
  have s1 : Same H (upd (upd H dx (.own x)) x (.ins C dx [])) := (Same.new nd).trans (Same.new (by rw [upd_ne ne.symm]; exact nx))
  refine ⟨x, dx, t, l, ns, al, rs, z, rfl, upd_same, s1 _ _ ht, s1 _ _ hl, ⟨tu.1, fun i r k e1 e2 => s1 _ _ (tu.2 i r k e1 e2)⟩, few, fun H' kp ra => ⟨rfl, k H' x (Same.kp s1 kp nx) ra⟩⟩
def spHas (C : Addr) : Sp := fun vs H Q _ => ∃ z : Str, vs = [.str z] ∧ IsW z ∧ NewR C H [z] [[z]] z Q
def spFew : Sp := fun vs H Q _ => ∃ (t : Addr) (ns : List Str), vs = [.ref t] ∧ H t = some (.tup (ns.map V.str)) ∧ ns.length ≤ 6 ∧ Q .non H
def togT (ys : List Str) : Str := Str.empty ++ Str.ofString "together(" ++ Txt.join (Str.ofString " ") ys ++ Str.ofString ")"
def spTog (C : Addr) : Sp := fun vs H Q _ => ∃ (t : Addr) (zs : List Str), vs = [.ref t] ∧ H t = some (.tup (zs.map V.str)) ∧ (∀ z ∈ zs, IsW z) ∧ zs.length ≤ 6 ∧
  ∀ (M ys : List Str), M.Nodup → M.length ≤ zs.length → (∀ z, z ∈ M ↔ z ∈ zs) → ys.Perm M → PyProof.Rows.sortedS ys = true → NewR C H ys [[], ys] (togT ys) Q
def spAlways (C : Addr) : Sp := fun vs H Q _ => vs = [] ∧ NewR C H [] [[]] (Str.ofString "always()") Q
/-- a list or a tuple of texts -/
def SqS (H : Hp) (a : Addr) (ks : List Str) : Prop := H a = some (.lst (ks.map V.str)) ∨ H a = some (.tup (ks.map V.str))
theorem SqS.same {H H' : Hp} {a : Addr} {ks : List Str} (h : SqS H a ks) (s : Same H H') : SqS H' a ks := h.imp (s _ _) (s _ _)
def may (ns : List Str) (al : List (List Str)) (ks : List Str) : Bool := decide (ns.filter (fun n => decide (n ∈ ks)) ∈ al)
def spAsk (C : Addr) : Sp := fun vs H Q _ => ∃ (r a : Addr) (ns ks : List Str) (al : List (List Str)) (z : Str), vs = [.ref r, .ref a] ∧ RuleAt C H r ns al z ∧ SqS H a ks ∧ ns.length ≤ 100 ∧ ∀ H', Same H H' → Q (.bl (may ns al ks)) H'
def spRecs (C : Addr) : Sp := fun vs H Q _ => ∃ (r : Addr) (ns : List Str) (al : List (List Str)) (z : Str), vs = [.ref r] ∧ RuleAt C H r ns al z ∧ ∀ p, H p = none → Q (.ref p) (upd H p (.lst (ns.map V.str)))
/-! ### two sorted lists of the same texts are one -/
def leS (a b : Str) : Prop := PySem.Spec.ltCps b.cps.toList a.cps.toList = false
theorem rise_all : ∀ (l : List Str) (p : Str), PyProof.Rows.risingS p l = true → leS p (l.headD p) ∧ PyProof.Rows.sortedS l = true
  | [], p, _ => ⟨by
      show PySem.Spec.ltCps p.cps.toList p.cps.toList = false
      rw [PyProof.Rows.ltCps_eq]
      exact decide_eq_false (List.lt_irrefl _), rfl⟩
  | x :: r, p, h => by
    have h : (!PySem.Spec.ltCps x.cps.toList p.cps.toList && PyProof.Rows.risingS x r) = true := h
    rw [Bool.and_eq_true, Bool.not_eq_true'] at h
    exact ⟨h.1, h.2⟩
theorem leS_iff {a b : Str} : leS a b ↔ ¬ b.cps.toList < a.cps.toList := by
  unfold leS
  rw [PyProof.Rows.ltCps_eq, decide_eq_false_iff_not]
theorem leS_trans {a b c : Str} (h1 : leS a b) (h2 : leS b c) : leS a c := by
  rw [leS_iff] at *
  exact fun h => h1 (List.lt_of_le_of_lt (List.not_lt.mp h2) h)
theorem leS_anti {a b : Str} (h1 : leS a b) (h2 : leS b a) : a = b := by
  rw [leS_iff] at *
  have e : a.cps.toList = b.cps.toList := List.le_antisymm (List.not_lt.mp h1) (List.not_lt.mp h2)
  rcases a with ⟨⟨a⟩⟩
  rcases b with ⟨⟨b⟩⟩
  have e : a = b := e
  rw [e]
theorem sorted_pw : ∀ l : List Str, PyProof.Rows.sortedS l = true → l.Pairwise leS
  | [], _ => .nil
  | x :: r, h => by
    have z := rise_all r x h
    have ih := sorted_pw r z.2
    refine List.pairwise_cons.mpr ⟨fun y hy => ?_, ih⟩
    cases r with
    | nil => cases hy
    | cons u r =>
      have hu : leS x u := z.1
      rcases List.mem_cons.mp hy with rfl | hy
      · exact hu
      · exact leS_trans hu ((List.pairwise_cons.mp ih).1 y hy)
theorem sorted_one {l m : List Str} (p : l.Perm m) (h1 : PyProof.Rows.sortedS l = true) (h2 : PyProof.Rows.sortedS m = true) : l = m :=
  p.eq_of_pairwise (le := leS) (fun a b _ _ => leS_anti) (sorted_pw l h1) (sorted_pw m h2)
theorem perm_mem {l m : List Str} (h1 : l.Nodup) (h2 : m.Nodup) (h : ∀ z, z ∈ l ↔ z ∈ m) : l.Perm m := (List.perm_ext_iff_of_nodup h1 h2).mpr h
theorem wB_of {z : Str} (h : IsW z) : wB z = true := by
  obtain ⟨h1, h2, h3⟩ := h
  unfold wB
  rw [decide_eq_true h1, decide_eq_true h2]
  show (tl z).all lB = true
  rw [List.all_eq_true]
  intro x hx
  have q := h3 x hx
  unfold lB
  rw [decide_eq_true q.1, decide_eq_true q.2]
  rfl
end IC
namespace IC
open PySem PySem.W PySem.Calls PyProof.Rows
/-! ### an operator of an own class, both sides its instances -/
section
variable {prog : Program} {w : World} {A : Around} {E : Value → Shared → Prop} {s : Shared} {K : Frag} {x y C f : Addr} {ox oy : Obj} {od oe : Option Obj}
theorem own_bin {op : Operator} {Q : Value → Shared → Prop} (X : K.In s.heap) (I : InstAt s.heap x ox C od) (J : InstAt s.heap y oy C oe) (first : selfFirst K C = true) (has : findIn K (.ref C) (PySem.dunder op.info.2) = some (some (.ref f))) (fn : isFn K (.ref f) = true)
    (h : wpAny (model prog w) A (call (.ref f) [.ref x, .ref y]) (PySem.W.CmpBack Q) E s) : wpAny (model prog w) A (binaryOp op (.ref x) (.ref y)) Q E s := by
  rcases ksp_first first with ⟨cd, rest, hcd, hm⟩
  cases info : op.info with
  | mk sign nm =>
    rw [info] at has
    dsimp only at has
    have go := ksp_try X I has fn h
    have tx : Looks (model prog w) s.heap (typeOf (.ref x)) (.ref C) := I.type
    have ty : Looks (model prog w) s.heap (typeOf (.ref y)) (.ref C) := J.type
    have left : Looks (model prog w) s.heap (fillsNumberSlot (.ref C) nm) true := fills_K X hcd hm has
    obtain ⟨hp, g, dr, tk, os⟩ := s
    have eqC : (Value.ref C == Value.ref C) = true := beq_self_eq_true _
    simp only [binaryOp, info]
    refine wpAny_holding (wpAny_bind ?_)
    unfold binaryOp1
    refine wpAny_bind (tx.at (wpAny_bind (ty.at (wpAny_bind (left.at ?_)))))
    simp only [eqC, if_true]
    ksp_lk
    refine wpAny_mono go (fun r s' e => ?_) fun _ _ e => e
    rcases e with ⟨v, rfl, q⟩
    ksp_lk
    exact q
theorem own_inv {M : Model} {Q : Value → Shared → Prop} (X : K.In s.heap) (I : InstAt s.heap x ox C od) (has : findIn K (.ref C) "__invert__" = some (some (.ref f))) (fn : isFn K (.ref f) = true) (go : wpAny M A (call (.ref f) [.ref x]) Q E s) :
    wpAny M A (unaryOp .Invert (.ref x)) Q E s := by
  unfold unaryOp
  have plain := beq_iff_eq.mp fn
  exact wpAny_holding (wpAny_bind (special_fn X I has plain (wpAny_mono go (fun _ _ q => wpAny_pure q) fun _ _ q => q)))
end
end IC
namespace IC
open PySem L2 TL
section
variable {X : Cx}
theorem no_ni {v : V} : ¬ RelV v Value.notImplemented := fun h => by
  cases v <;> first | exact (nomatch h) | (rcases h with ⟨_, h⟩; exact (nomatch h))
def rOwn (C : Addr) (sp : Sp) : R2 := fun x y H Q => ∃ (p q dx dy : Addr) (fs gs : List (Str × V)), x = .ref p ∧ y = .ref q ∧ H p = some (.ins C dx fs) ∧ H q = some (.ins C dy gs) ∧ sp [.ref p, .ref q] H Q E0
theorem op_own {op : Operator} {C g : Addr} {k : Nat} {sp : Sp} (first : PySem.W.selfFirst X.K C = true) (has : PySem.W.findIn X.K (.ref C) (PySem.dunder op.info.2) = some (some (.ref g))) (fn : PySem.W.isFn X.K (.ref g) = true) (F : FnR X.prog X.w X.K X.mg X.base CX0 k g sp) (hr : Room k X.A) :
    OpR X (binaryOp op) (rOwn C sp) := by
  rintro pins s σ H x y v u Q I rx ry ⟨p, q, dx, dy, fs, gs, rfl, rfl, hp, hq, h⟩
  cases rx
  cases ry
  rcases StX.insC_at I (.inr ⟨dx, fs, hp⟩) with ⟨ox, od, J1, _⟩
  rcases StX.insC_at I (.inr ⟨dy, gs, hq⟩) with ⟨oy, oe, J2, _⟩
  refine own_bin I.kIn J1 J2 first has fn (wpAny_mono (wpAny_call (run_fnR F hr pass0 I (.cons (show RelV (V.ref p) (Value.ref p) from rfl) (.cons (show RelV (V.ref q) (Value.ref q) from rfl) .nil)) h)) (fun r s' e => ?_) fun _ _ e => e)
  have e2 := e
  rcases e2 with ⟨y, H2, I2, ry, _⟩
  cases r <;> first | exact e | exact absurd ry no_ni
def rOwn1 (C : Addr) (sp : Sp) : V → Hp → VK → Prop := fun x H Q => ∃ (p dx : Addr) (fs : List (Str × V)), x = .ref p ∧ H p = some (.ins C dx fs) ∧ sp [.ref p] H Q E0
theorem un_own {C g : Addr} {k : Nat} {sp : Sp} (has : PySem.W.findIn X.K (.ref C) "__invert__" = some (some (.ref g))) (fn : PySem.W.isFn X.K (.ref g) = true) (F : FnR X.prog X.w X.K X.mg X.base CX0 k g sp) (hr : Room k X.A) : UnR X (unaryOp .Invert) (rOwn1 C sp) := by
  rintro pins s σ H x v Q I rx ⟨p, dx, fs, rfl, hp, h⟩
  cases rx
  rcases StX.insC_at I (.inr ⟨dx, fs, hp⟩) with ⟨ox, od, J1, _⟩
  exact own_inv I.kIn J1 has fn (wpAny_call (run_fnR F hr pass0 I (.cons (show RelV (V.ref p) (Value.ref p) from rfl) .nil) h))
/-- str(x), x an instance of C that has its own __str__ -/
def rStrOwn (C : Addr) (sp : Sp) : List V → Hp → VK → Prop := fun vs H Q => ∃ (p dx : Addr) (fs : List (Str × V)), vs = [.ref p] ∧ H p = some (.ins C dx fs) ∧ sp [.ref p] H (fun v H' => ∃ z : Str, v = .str z ∧ Q v H') E0
theorem cr_strOwn {C g : Addr} {k : Nat} {sp : Sp} (has : PySem.W.findIn X.K (.ref C) "__str__" = some (some (.ref g))) (fn : PySem.W.isFn X.K (.ref g) = true) (F : FnR X.prog X.w X.K X.mg X.base CX0 k g sp) (hr : Room (k + 2) X.A) : CallR X (.type "str") (rStrOwn C sp) := by
  rintro pins s σ H vs us Q I rel ⟨p, dx, fs, rfl, hp, h⟩
  rcases vals1 rel with ⟨u, rfl, ru⟩
  cases ru
  rcases StX.insC_at I (.inr ⟨dx, fs, hp⟩) with ⟨ox, od, J, _⟩
  have run := F X.A.in1.in1 X.stack s H [Value.ref p] [V.ref p] _ E0 hr.in1.in1 I.env0.in1.in1 (.cons (show RelV (V.ref p) (Value.ref p) from rfl) .nil) h
  refine PySem.W.kso_call hr.in1.in1.units0 I.kIn J has fn (wpAny_call (codeAny_mono run fun r s' hq => ?_))
  match r, hq with
  | .error er, z => exact pass0 pins σ H s er s' I z
  | .ok .next, z => exact False.elim z
  | .ok .brk, z => exact False.elim z
  | .ok .cont, z => exact False.elim z
  | .ok (.ret u), z =>
    rcases I.after z with ⟨y, H2, I2, ry, t, rfl, q⟩
    rcases ry with ⟨tk, rfl⟩
    exact ⟨.str t, H2, I2, ⟨tk, rfl⟩, q⟩
end
end IC
namespace IC
open PySem PySem.W PySem.Calls PyProof.Rows
/-! ### != where the class has its own == and no other != than that of object -/
section
variable {prog : Program} {w : World} {A : Around} {E : Value → Shared → Prop} {s : Shared} {K : Frag} {x y C f : Addr} {ox : Obj} {od : Option Obj}
theorem ne_body {Q : Fin → Shared → Prop} (X : K.In s.heap) (I : InstAt s.heap x ox C od) (has : findIn K (.ref C) "__eq__" = some (some (.ref f))) (fn : isFn K (.ref f) = true) (hu : A.units < cLine)
    (go : wpAny (model prog w) A (call (.ref f) [.ref x, .ref y]) (fun v s' => ∃ b, v = .bool b ∧ Q (.done (.ret (.bool (!b)))) s') E s) :
    wpAny (model prog w) A (Builtin.«object.__ne__» ⟨[.ref x, .ref y], []⟩) Q E s := by
  unfold Builtin.«object.__ne__»
  repeat (first
    | with_reducible refine wpAny_cRoomFor hu ?_
    | (refine wpAny_bind (m := callSpecialIfBound? (.ref x) (Str.ofString "__eq__") [.ref y]) (ifBound_K X I has fn (wpAny_mono go (fun r s' z => by
        rcases z with ⟨b, rfl, q⟩
        repeat (first | exact q | exact wpAny_pure q | exact wpAny_truthy_bool q | (refine wpAny_bind (m := truthy (.bool _)) (wpAny_truthy_bool ?_)) | wp_step)) fun _ _ e => e)))
    | wp_step)
theorem ne_bound {M : Model} {B : Around} {args : List Value} {Q : Option Value → Shared → Prop} (X : K.In s.heap) (I : InstAt s.heap x ox C od) (hs : findIn K (.ref C) "__ne__" = some (some (.builtin "object.__ne__")))
    (go : wpAny M B (call (.builtin "object.__ne__") (.ref x :: args)) (fun v => Q (some v)) E s) : wpAny M B (callSpecialIfBound? (.ref x) "__ne__" args) Q E s := by
  simp only [callSpecialIfBound?, bindSpecialIfBound?]
  have last : wpAny M B (call (.builtin "object.__ne__") ([.ref x] ++ args) >>= fun v => pure (some v)) Q E s := wpAny_bind (wpAny_mono go (fun v s' q => wpAny_pure q) fun _ _ q => q)
  refine wpAny_holding (wpAny_bind (wpAny_bind (wpAny_bind (I.type.here ((looks_findIn X hs).here (wpAny_bind (wpAny_askSetting (wpAny_ite ?_))))))))
  split
  · exact wpAny_bind (wpAny_of_eq (F.cmp_object.ne.bind _) (wpAny_pure (by exact last)))
  · exact wpAny_tryCatch (wpAny_bind (wpAny_of_eq (F.cmp_object.ne.bind _) (wpAny_pure (by exact last))))
theorem own_ne {oy : Obj} {oe : Option Obj} {Q : Value → Shared → Prop} (hu : A.units + 1 < cLine) (X : K.In s.heap) (I : InstAt s.heap x ox C od) (J : InstAt s.heap y oy C oe) (hm : mroIn K C (.type "object") = some true)
    (hne : findIn K (.ref C) "__ne__" = some (some (.builtin "object.__ne__"))) (has : findIn K (.ref C) "__eq__" = some (some (.ref f))) (fn : isFn K (.ref f) = true)
    (go : wpAny (model prog w) A.in1 (call (.ref f) [.ref x, .ref y]) (fun v s' => ∃ b, v = .bool b ∧ Q (.bool (!b)) s') E s) : wpAny (model prog w) A (richCompare .NotEq (.ref x) (.ref y)) Q E s := by
  have one : wpAny (model prog w) A (tryCompare (.ref x) "__ne__" (.ref y)) (fun r s' => ∃ b, r = some (.bool b) ∧ Q (.bool b) s') E s := by
    unfold tryCompare
    refine wpAny_bind (ne_bound X I hne (wpAny_call (codeAny_call_builtin F.cmp_object.ne.plain F.cmpEntry_ne (check_slot F.cmpKind_ne F.cmpSplit_ne (I.type.andThen (looks_mroIn X hm)) (F.cmpArgs_ne _ _) (ne_body X I has fn (A := A.in1) hu (wpAny_mono go (fun v s' z => ?_) fun _ _ e => e))))))
    rcases z with ⟨b, rfl, q⟩
    exact ⟨b, rfl, wpAny_pure ⟨_, rfl, q⟩⟩
  unfold richCompare
  simp only [oneThing_ref]
  refine wpAny_holding (wpAny_bind (wpAny_cRoomFor (Nat.lt_of_succ_lt hu) (wpAny_bind (I.type.here (wpAny_bind (J.type.here ?_))))))
  have eqC : (Value.ref C != Value.ref C) = false := by simp
  rw [eqC]
  simp only [Bool.false_eq_true, if_false]
  refine wpAny_bind (wpAny_pure ?_)
  simp only [Bool.false_eq_true, if_false]
  refine wpAny_bind (wpAny_mono one (fun r s' z => ?_) fun _ _ e => e)
  rcases z with ⟨b, rfl, q⟩
  exact wpAny_pure q
end
end IC
namespace IC
open PySem L2 TL
section
variable {X : Cx}
/-- an instance of C with its own == and the != of object -/
structure EqTxt (K : PySem.W.Frag) (C : Addr) (g : Addr) : Prop where
  eq : PySem.W.findIn K (.ref C) "__eq__" = some (some (.ref g))
  fn : PySem.W.isFn K (.ref g) = true
  ne : PySem.W.findIn K (.ref C) "__ne__" = some (some (.builtin "object.__ne__"))
  obj : PySem.W.mroIn K C (.type "object") = some true
  icl : PySem.W.isClsIn K C = true
  tyc : PySem.W.typeIn K (.ref C) = some (.type "type")
  gcl : PySem.W.findIn K (.ref C) "__class__" = some (some (.builtin "object.__class__"))
  cget : PySem.W.specialIn K (.builtin "object.__class__") "__get__" = some (some (.builtin "getset_descriptor.__get__"))
  ctk : PySem.W.takesIn K (.builtin "object.__class__") = some true
  cls : Cls K C
theorem EqTxt.ty {K : PySem.W.Frag} {C g : Addr} (E : EqTxt K C g) {H : Hp} {p d : Addr} {fs : List (Str × V)} (h : H p = some (.ins C d fs)) : TyX K H (.ref p) (.ref C) := .base (.ins h E.cls E.gcl E.cget E.ctk E.obj)
theorem sub_far {K : PySem.W.Frag} {C : Addr} {T : String} {l : List String} (h : PySem.fastBuiltinMro T = some (l.map Value.type)) : PySem.W.subIn K (.type T) (.ref C) = some false := by
  have no : ∀ l : List String, (l.map Value.type).contains (Value.ref C) = false := by
    intro l
    induction l with
    | nil => rfl
    | cons x l ih =>
      rw [List.map_cons, List.contains_cons, ih]
      simp
  show (PySem.fastBuiltinMro T).map (·.contains (.ref C)) = some false
  rw [h]
  exact congrArg some (no l)
theorem far_of {K : PySem.W.Frag} {C : Addr} {T : String} (e : PySem.W.subIn K (.type T) (.ref C) = some false) : PySem.W.notFirst K C (.type T) = true := by
  unfold PySem.W.notFirst
  rw [e]
  simp
theorem EqTxt.kit {K : PySem.W.Frag} {C g : Addr} (E : EqTxt K C g) {T : String} (e : PySem.W.subIn K (.type T) (.ref C) = some false) : PySem.W.kitOne K (.type T) (.ref C) = some false := by
  unfold PySem.W.kitOne
  rw [if_neg (by simp)]
  show (if ((PySem.W.clsIn K C).isSome && PySem.W.typeIn K (.ref C) == some (.type "type")) = true then PySem.W.subIn K (.type T) (.ref C) else none) = some false
  rw [if_pos (by
    rw [Bool.and_eq_true, E.tyc]
    exact ⟨E.icl, by simp⟩)]
  exact e
theorem EqTxt.self {K : PySem.W.Frag} {C g : Addr} (_ : EqTxt K C g) : PySem.W.kitOne K (.ref C) (.ref C) = some true := by
  unfold PySem.W.kitOne
  exact if_pos (by simp)
theorem sub_tup {K : PySem.W.Frag} {C : Addr} : PySem.W.subIn K (.type "tuple") (.ref C) = some false := sub_far (l := ["tuple", "object"]) (by decide +kernel)
theorem sub_str {K : PySem.W.Frag} {C : Addr} : PySem.W.subIn K (.type "str") (.ref C) = some false := sub_far (l := ["str", "object"]) (by decide +kernel)
theorem sub_non {K : PySem.W.Frag} {C : Addr} : PySem.W.subIn K (.type "NoneType") (.ref C) = some false := sub_far (l := ["NoneType", "object"]) (by decide +kernel)
theorem far_own {K : PySem.W.Frag} {C : Addr} : PySem.W.notFirst K C (.ref C) = true := by simp [PySem.W.notFirst]
def rEqOwn (K : PySem.W.Frag) (C : Addr) (sp : Sp) : R2 := fun x y H Q => ∃ (p dx : Addr) (fs : List (Str × V)) (t : Value), x = .ref p ∧ H p = some (.ins C dx fs) ∧ TyX K H y t ∧ PySem.W.notFirst K C t = true ∧ sp [.ref p, y] H Q E0
theorem op_eqOwn {C g : Addr} {k : Nat} {sp : Sp} (T : EqTxt X.K C g) (F : FnR X.prog X.w X.K X.mg X.base CX0 k g sp) (hr : Room k X.A) : OpR X (compareOp .Eq) (rEqOwn X.K C sp) := by
  rintro pins s σ H x y v u Q I rx ry ⟨p, dx, fs, t, rfl, hp, ty, far, h⟩
  cases rx
  rcases StX.insC_at I (.inr ⟨dx, fs, hp⟩) with ⟨ox, od, J1, _⟩
  rcases kit_of I ry ty with ⟨P, kx, px, _⟩
  rcases I.fr with ⟨m, hF⟩
  show wpAny (model X.prog X.w) X.A (richCompare .Eq (.ref p) u) (EP X pins σ Q) X.xe s
  refine PySem.W.cmp_K (op := .Eq) (tb := t) hr.units0 hF I.ok.mod.kin J1 (kx.ty _ _ I.kIn px) far T.eq T.fn ?_
  refine wpAny_mono (wpAny_call (run_fnR F hr pass0 I (.cons (show RelV (V.ref p) (Value.ref p) from rfl) (.cons ry .nil)) h)) (fun r s' e => ?_) fun _ _ e => e
  have e2 := e
  rcases e2 with ⟨y, H2, I2, ry, _⟩
  cases r <;> first | exact e | exact absurd ry no_ni
def rNeOwn (C : Addr) (sp : Sp) : R2 := fun x y H Q => ∃ (p q dx dy : Addr) (fs gs : List (Str × V)), x = .ref p ∧ y = .ref q ∧ H p = some (.ins C dx fs) ∧ H q = some (.ins C dy gs) ∧ sp [.ref p, .ref q] H (fun v H' => ∃ b : Bool, v = .bl b ∧ Q (.bl (!b)) H') E0
theorem op_neOwn {C g : Addr} {k : Nat} {sp : Sp} (T : EqTxt X.K C g) (F : FnR X.prog X.w X.K X.mg X.base CX0 k g sp) (hr : Room (k + 1) X.A) : OpR X (compareOp .NotEq) (rNeOwn C sp) := by
  rintro pins s σ H x y v u Q I rx ry ⟨p, q, dx, dy, fs, gs, rfl, rfl, hp, hq, h⟩
  cases rx
  cases ry
  rcases StX.insC_at I (.inr ⟨dx, fs, hp⟩) with ⟨ox, od, J1, _⟩
  rcases StX.insC_at I (.inr ⟨dy, gs, hq⟩) with ⟨oy, oe, J2, _⟩
  have run := F X.A.in1 X.stack s H [Value.ref p, Value.ref q] [V.ref p, V.ref q] _ E0 hr.in1 I.env0.in1 (.cons (show RelV (V.ref p) (Value.ref p) from rfl) (.cons (show RelV (V.ref q) (Value.ref q) from rfl) .nil)) h
  show wpAny (model X.prog X.w) X.A (richCompare .NotEq (.ref p) (.ref q)) (EP X pins σ Q) X.xe s
  refine own_ne hr.in1.units0 I.kIn J1 J2 T.obj T.ne T.eq T.fn (wpAny_call (codeAny_mono run fun r s' z => ?_))
  match r, z with
  | .error er, z => exact pass0 pins σ H s er s' I z
  | .ok .next, z => exact False.elim z
  | .ok .brk, z => exact False.elim z
  | .ok .cont, z => exact False.elim z
  | .ok (.ret u), z =>
    rcases I.after z with ⟨y, H2, I2, ry, b, rfl, q⟩
    have ry : u = Value.bool b := ry
    subst ry
    exact ⟨b, rfl, .bl (!b), H2, I2, rfl, q⟩
end
end IC
namespace IC
open PySem L2 TL
/-! ### the text by places -/
def top (i : Nat) : Stmt := PySem.Challenge.pw_innercommits_k16_rules_that_are_equal.main.body.getD i (.Pass ⟨0, 0, 0, 0⟩)
abbrev s_law_pool : Stmt := top 13
abbrev s_law_draw : Stmt := top 14
abbrev s_law_word : Stmt := top 15
abbrev s_is_word : Stmt := top 5
abbrev s_subsets : Stmt := top 8
abbrev s_united : Stmt := top 9
abbrev s_check_few : Stmt := top 10
abbrev s_Rule___init__ : Stmt := inClass (top 11) 0
abbrev s_Rule_has : Stmt := inClass (top 11) 1
abbrev s_Rule_together : Stmt := inClass (top 11) 2
abbrev s_Rule_always : Stmt := inClass (top 11) 3
abbrev s_Rule__allows : Stmt := inClass (top 11) 4
abbrev s_Rule___call__ : Stmt := inClass (top 11) 5
abbrev s_Rule__names_with : Stmt := inClass (top 11) 6
abbrev s_Rule___and__ : Stmt := inClass (top 11) 7
abbrev s_Rule___or__ : Stmt := inClass (top 11) 8
abbrev s_Rule___rshift__ : Stmt := inClass (top 11) 9
abbrev s_Rule___invert__ : Stmt := inClass (top 11) 10
abbrev s_Rule___str__ : Stmt := inClass (top 11) 13
abbrev s_Rule___eq__ : Stmt := inClass (top 11) 12
abbrev s_law_built : Stmt := top 16
abbrev s_law_allows : Stmt := top 17
abbrev s_law_subsets : Stmt := top 18
abbrev s_Rule_records : Stmt := inClass (top 11) 11
abbrev s_law : Stmt := top 19
theorem sc_law_pool : FnScope ["script", "at", "cell", "size", "seed"] ["script", "at"] (defScope s_law_pool) := ⟨rfl, rfl, rfl, by decide +kernel, rfl, by decide +kernel, by decide +kernel⟩
theorem sc_law_draw : FnScope ["pool", "many", "digit", "count", "mixed"] ["pool", "many"] (defScope s_law_draw) := ⟨rfl, rfl, rfl, by decide +kernel, rfl, by decide +kernel, by decide +kernel⟩
theorem sc_law_word : FnScope ["pool", "letters", "k"] ["pool"] (defScope s_law_word) := ⟨rfl, rfl, rfl, by decide +kernel, rfl, by decide +kernel, by decide +kernel⟩
theorem sc_is_word : FnScope ["thing", "letter"] ["thing"] (defScope s_is_word) := ⟨rfl, rfl, rfl, by decide +kernel, rfl, by decide +kernel, by decide +kernel⟩
theorem sc_subsets : FnScope ["names", "found", "name", "some"] ["names"] (defScope s_subsets) := ⟨rfl, rfl, rfl, by decide +kernel, rfl, by decide +kernel, by decide +kernel⟩
theorem sc_united : FnScope ["names", "others"] ["names", "others"] (defScope s_united) := ⟨rfl, rfl, rfl, by decide +kernel, rfl, by decide +kernel, by decide +kernel⟩
theorem sc_check_few : FnScope ["names"] ["names"] (defScope s_check_few) := ⟨rfl, rfl, rfl, by decide +kernel, rfl, by decide +kernel, by decide +kernel⟩
theorem sc_Rule___init__ : FnScope ["self", "names", "allowed", "text", "some"] ["self", "names", "allowed", "text"] (defScope s_Rule___init__) := ⟨rfl, rfl, rfl, by decide +kernel, rfl, by decide +kernel, by decide +kernel⟩
theorem sc_Rule_has : FnScope ["record"] ["record"] (defScope s_Rule_has) := ⟨rfl, rfl, rfl, by decide +kernel, rfl, by decide +kernel, by decide +kernel⟩
theorem sc_Rule_together : FnScope ["records", "record", "names", "text"] ["records"] (defScope s_Rule_together) := ⟨rfl, rfl, rfl, by decide +kernel, rfl, by decide +kernel, by decide +kernel⟩
theorem sc_Rule_always : FnScope [] [] (defScope s_Rule_always) := ⟨rfl, rfl, rfl, by decide +kernel, rfl, by decide +kernel, by decide +kernel⟩
theorem sc_Rule__allows : FnScope ["self", "kept", "name"] ["self", "kept"] (defScope s_Rule__allows) := ⟨rfl, rfl, rfl, by decide +kernel, rfl, by decide +kernel, by decide +kernel⟩
theorem sc_Rule___call__ : FnScope ["self", "kept"] ["self", "kept"] (defScope s_Rule___call__) := ⟨rfl, rfl, rfl, by decide +kernel, rfl, by decide +kernel, by decide +kernel⟩
theorem sc_Rule__names_with : FnScope ["self", "other", "names"] ["self", "other"] (defScope s_Rule__names_with) := ⟨rfl, rfl, rfl, by decide +kernel, rfl, by decide +kernel, by decide +kernel⟩
theorem sc_Rule___and__ : FnScope ["self", "other", "names", "allowed", "some"] ["self", "other"] (defScope s_Rule___and__) := ⟨rfl, rfl, rfl, by decide +kernel, rfl, by decide +kernel, by decide +kernel⟩
theorem sc_Rule___or__ : FnScope ["self", "other", "names", "allowed", "some"] ["self", "other"] (defScope s_Rule___or__) := ⟨rfl, rfl, rfl, by decide +kernel, rfl, by decide +kernel, by decide +kernel⟩
theorem sc_Rule___rshift__ : FnScope ["self", "other", "names", "allowed", "some"] ["self", "other"] (defScope s_Rule___rshift__) := ⟨rfl, rfl, rfl, by decide +kernel, rfl, by decide +kernel, by decide +kernel⟩
theorem sc_Rule___invert__ : FnScope ["self", "allowed", "some"] ["self"] (defScope s_Rule___invert__) := ⟨rfl, rfl, rfl, by decide +kernel, rfl, by decide +kernel, by decide +kernel⟩
theorem sc_Rule___str__ : FnScope ["self"] ["self"] (defScope s_Rule___str__) := ⟨rfl, rfl, rfl, by decide +kernel, rfl, by decide +kernel, by decide +kernel⟩
theorem sc_Rule___eq__ : FnScope ["self", "other", "every", "some"] ["self", "other"] (defScope s_Rule___eq__) := ⟨rfl, rfl, rfl, by decide +kernel, rfl, by decide +kernel, by decide +kernel⟩
theorem sc_law_built : FnScope ["pool", "records", "depth", "sort", "some", "record", "one", "first", "other", "second", "k"] ["pool", "records", "depth"] (defScope s_law_built) := ⟨rfl, rfl, rfl, by decide +kernel, rfl, by decide +kernel, by decide +kernel⟩
theorem sc_law_allows : FnScope ["node", "kept", "word", "record"] ["node", "kept"] (defScope s_law_allows) := ⟨rfl, rfl, rfl, by decide +kernel, rfl, by decide +kernel, by decide +kernel⟩
theorem sc_law_subsets : FnScope ["records", "found", "record", "some"] ["records"] (defScope s_law_subsets) := ⟨rfl, rfl, rfl, by decide +kernel, rfl, by decide +kernel, by decide +kernel⟩
theorem sc_Rule_records : FnScope ["self"] ["self"] (defScope s_Rule_records) := ⟨rfl, rfl, rfl, by decide +kernel, rfl, by decide +kernel, by decide +kernel⟩
theorem sc_law : FnScope ["script", "at", "pool", "records", "one", "first", "other", "second", "due", "some", "same", "words", "far", "third", "k"] ["script"] (defScope s_law) := ⟨rfl, rfl, rfl, by decide +kernel, rfl, by decide +kernel, by decide +kernel⟩
/-- the built-in names that no line of the text binds -/
structure Bn (mg : Str → Option Value) : Prop where
  int : mg "int" = none
  len : mg "len" = none
  abs : mg "abs" = none
  range : mg "range" = none
  max : mg "max" = none
  min : mg "min" = none
  isi : mg "isinstance" = none
  str : mg "str" = none
  all : mg "all" = none
  repr : mg "repr" = none
  list : mg "list" = none
  tuple : mg "tuple" = none
  set : mg "set" = none
  sorted : mg "sorted" = none
end IC
namespace IC
open PySem L2 TL
section
variable {P : Program} {w : World} {K : PySem.W.Frag} {mg : Str → Option Value} {base : Heap}
theorem ok_draw {f : Addr} {fd : FuncData} (F : Fun K "_law_draw" "_law_draw" s_law_draw f fd) (T : Bn mg) : FnOk P w K mg base CX0 1 f fd ["pool", "many"] spDraw := by
  refine F.ok sc_law_draw (fun vs H Q E h => ?_) (fun cdv A outer s H vs Q E hr h => ?_)
  · obtain ⟨p, m, n, rfl, _⟩ := h
    rfl
  · obtain ⟨p, m, n, rfl, ⟨a, b, c, hp, a0, b0, b1, c0, c1⟩, hn, m0, m1, k⟩ := h
    refine ⟨_, (pss_cons (ps_if (pt_cmpR op_gt (pe_ix ix_list (pv 0) pe_int (fun _ _ => rfl)) pe_int (nomark _))
  (pss_cons (ps_set (i := 2) sc_law_draw.nd rfl (Or.inl rfl) (pe_op op_mod (pe_callTy call_int1 (by rfl) T.int (by decide +kernel) (pa_cons (pe_ix ix_list (pv 0) pe_int (fun _ _ => rfl)) pa_nil)) (pv 1)))
  (pss_cons (ps_asg (pe_op op_fdivW (pe_ix ix_list (pv 0) pe_int (fun _ _ => rfl)) (pv 1)) (pg_sub (pv 0) pe_int set_list))
  (pss_one (ps_ret (pv 2)))))
  pss_nil)
  (pss_cons (ps_set (i := 3) sc_law_draw.nd rfl (Or.inl rfl) (pe_op op_add (pe_ix ix_list (pv 0) pe_int (fun _ _ => rfl)) pe_int))
  (pss_cons (ps_asg (pv 3) (pg_sub (pv 0) pe_int set_list))
  (pss_cons (ps_set (i := 4) sc_law_draw.nd rfl (Or.inl rfl) (pe_op op_mod (pe_callTy call_int1 (by rfl) T.int (by decide +kernel) (pa_cons (pe_op op_add (pe_op op_pow (pe_op op_add (pe_ix ix_list (pv 0) pe_int (fun _ _ => rfl)) (pe_op op_mul pe_int (pv 3))) pe_int) (pe_op op_mul pe_int (pv 3))) pa_nil)) pe_int))
  (pss_cons (ps_set (i := 4) sc_law_draw.nd rfl (Or.inl rfl) (pe_op op_mod (pe_callTy call_int1 (by rfl) T.int (by decide +kernel) (pa_cons (pe_op op_pow (pe_op op_add (pv 4) (pe_op op_mul pe_int (pv 3))) pe_int) pa_nil)) pe_int))
  (pss_one (ps_ret (pe_op op_mod (pe_callTy call_int1 (by rfl) T.int (by decide +kernel) (pa_cons (pe_op op_fdiv (pv 4) pe_int) pa_nil)) (pv 1))))))))), ?_⟩
    have g0 : atI (pl a b c) 0 = some (.int a) := rfl
    have g1 : atI (pl a b c) 1 = some (.int b) := rfl
    have g2 : atI (pl a b c) 2 = some (.int c) := rfl
    refine ⟨_, rfl, p, pl a b c, 0, _, rfl, rfl, SqL.of hp, g0, a, 0, rfl, rfl, _, rfl, ?_⟩
    refine ite2 (fun hpos => ?_) (fun hneg => ?_)
    · refine ⟨_, rfl, p, pl a b c, 0, _, rfl, rfl, SqL.of hp, g0, .inl ⟨a, rfl, _, rfl, a, m, rfl, rfl, m0, ?_⟩⟩
      refine ⟨_, rfl, p, pl a b c, 0, _, rfl, rfl, SqL.of hp, g0, _, rfl, a, m, rfl, rfl, wide_div m0 m1 (by decide) (by decide), _, rfl, p, pl a b c, 0, 0, rfl, rfl, hp, rfl, ?_⟩
      refine ⟨_, rfl, ?_⟩
      refine k (a % m) _ (Int.emod_nonneg _ (by omega)) (Int.emod_lt_of_pos _ m0) ⟨a / m, b, c, upd_same, Int.ediv_nonneg a0 (by omega), b0, b1, c0, by omega⟩
    · refine ⟨_, rfl, p, pl a b c, 2, _, rfl, rfl, SqL.of hp, g2, c, 1, rfl, rfl, ?_⟩
      refine ⟨_, rfl, _, rfl, p, pl a b c, 2, 2, rfl, rfl, hp, rfl, ?_⟩
      have g1' : atI ((pl a b c).set 2 (.int (c + 1))) 1 = some (.int b) := rfl
      refine ⟨_, rfl, p, _, 1, _, rfl, rfl, SqL.of upd_same, g1', _, rfl, 48611, c + 1, rfl, rfl, .inl (by decide), b, _, rfl, rfl, _, 3, rfl, rfl, ⟨by decide, by decide, by omega⟩, _, rfl, 17, c + 1, rfl, rfl, .inl (by decide), _, _, rfl, rfl, .inl ⟨_, rfl, _, _, rfl, rfl, (by show (0 : Int) < 2305843009213693921; decide), ?_⟩⟩
      have hX : 0 ≤ ((b + 48611 * (c + 1)) ^ Int.toNat 3 + 17 * (c + 1)) % 2305843009213693921 ∧ ((b + 48611 * (c + 1)) ^ Int.toNat 3 + 17 * (c + 1)) % 2305843009213693921 < 2305843009213693921 :=
        ⟨Int.emod_nonneg _ (by decide), Int.emod_lt_of_pos _ (by decide)⟩
      dsimp only
      generalize ((b + 48611 * (c + 1)) ^ Int.toNat 3 + 17 * (c + 1)) % 2305843009213693921 = X at hX ⊢
      obtain ⟨x0, x1⟩ := hX
      refine ⟨_, rfl, _, rfl, 104729, c + 1, rfl, rfl, .inl (by decide), X, _, rfl, rfl, _, 3, rfl, rfl, ⟨by decide, by decide, by omega⟩, .inl ⟨_, rfl, _, _, rfl, rfl, (by show (0 : Int) < 1000000000000000003; decide), ?_⟩⟩
      have hY : 0 ≤ (X + 104729 * (c + 1)) ^ Int.toNat 3 % 1000000000000000003 := Int.emod_nonneg _ (by decide)
      refine ⟨_, rfl, _, _, rfl, rfl, ⟨by decide, by decide⟩, .inl ⟨_, rfl, _, rfl, _, m, rfl, rfl, m0, ?_⟩⟩
      refine k _ _ (Int.emod_nonneg _ (by omega)) (Int.emod_lt_of_pos _ m0) ⟨a, b, c + 1, upd_same, a0, b0, b1, by omega, by omega⟩
theorem ok_pool {f : Addr} {fd : FuncData} (F : Fun K "_law_pool" "_law_pool" s_law_pool f fd) (T : Bn mg) : FnOk P w K mg base CX0 1 f fd ["script", "at"] (spPool K) := by
  refine F.ok sc_law_pool (fun vs H Q E h => ?_) (fun cdv A outer s H vs Q E hr h => ?_)
  · obtain ⟨a, ns, j, rfl, _⟩ := h
    rfl
  · obtain ⟨a, ns, j, rfl, hS, hj, k⟩ := h
    refine ⟨_, (Evl.pss_cut (ps_set (i := 2) sc_law_pool.nd rfl (Or.inl rfl) (pe_ifExp (pt_cmpR op_lt (pv 1) (pe_callB call_len_seq (by rfl) T.len PySem.boot_len (pa_cons (pv 0) pa_nil)) (nomark _)) (pe_ix ix_list (pv 0) (pv 1) (fun _ _ => rfl)) pe_int))
  (pss_cons (ps_set (i := 3) sc_law_pool.nd rfl (Or.inl rfl) (pe_callB call_abs (by rfl) T.abs PyProof.Rows.boot_abs (pa_cons (pv 2) pa_nil)))
  (pss_cons (ps_set (i := 4) sc_law_pool.nd rfl (Or.inl rfl) (pe_op op_mod (pe_callTy call_int1 (by rfl) T.int (by decide +kernel) (pa_cons (pe_op op_add (pe_op op_add (pe_op op_mul (pv 3) pe_int) (pe_op op_mul pe_int (pv 1))) (pe_callTy call_int1 (by rfl) T.int (by decide +kernel) (pa_cons (pe_cmpR op_lt (pv 2) pe_int (nomark _)) pa_nil))) pa_nil)) pe_int))
  (pss_one (ps_ret (pe_lst (pa_cons (pe_ifExp (pt_cmpR op_ge (pv 3) (pe_op op_pow pe_int pe_int) (nomark _)) (pv 3) pe_int) (pa_cons (pe_op op_add (pv 4) pe_int) (pa_cons pe_int pa_nil))))))))), ?_⟩
    have hj' : (j : Int) < 64 := by omega
    refine ⟨fun σ H' => H' = H ∧ ∃ c : Int, σ = [some (.ref a), some (.int j), some (.int c), none, none], ?_, ?_⟩
    · refine ⟨_, rfl, _, rfl, a, _, rfl, .inl hS, _, _, rfl, rfl, _, rfl, ?_⟩
      refine ite2 (fun hlt => ?_) (fun _ => ⟨rfl, 0, rfl⟩)
      have hlt := of_decide_eq_true hlt
      have hl : j < ns.length := by
        rw [List.length_map] at hlt
        exact Int.ofNat_lt.mp hlt
      have hz : (ns.map V.int)[j]? = some (V.int ns[j]) := by
        rw [List.getElem?_map, List.getElem?_eq_getElem hl]
        rfl
      exact ⟨_, rfl, _, rfl, a, _, _, _, rfl, rfl, hS, atI_nat hz, rfl, _, rfl⟩
    · rintro σ H' ⟨rfl, c, rfl⟩
      refine ⟨_, rfl, c, rfl, ?_⟩
      refine ⟨_, rfl, _, 6, rfl, rfl, .inr (by decide), _, rfl, 2, j, rfl, rfl, .inl (by decide), _, _, rfl, rfl, _, rfl, c, 0, rfl, rfl, .inr ⟨_, rfl, _, _, rfl, rfl, .inl ⟨_, rfl, _, _, rfl, rfl, (by show (0 : Int) < 2305843009213693951; decide), ?_⟩⟩⟩
      refine ⟨_, rfl, 10, 18, rfl, rfl, ⟨by decide, by decide, by decide⟩, _, _, rfl, rfl, _, rfl, ?_⟩
      have h0 : (0 : Int) ≤ if c < 0 then -c else c := by split <;> omega
      have fin : ∀ x y : Int, 0 ≤ x → ∀ p, H' p = none → Q (.ref p) (upd H' p (.lst [.int x, .int (y % 2305843009213693951 + 12345), .int 0])) := fun x y hx p hp => by
        have e1 := Int.emod_nonneg y (show (2305843009213693951 : Int) ≠ 0 by decide)
        have e2 := Int.emod_lt_of_pos y (show (0 : Int) < 2305843009213693951 by decide)
        exact k p _ hp ⟨x, _, 0, upd_same, hx, by omega, by omega, by omega, by omega⟩
      refine ite2 (fun _ => ?_) (fun _ => ?_)
      · exact ⟨_, rfl, _, rfl, _, _, rfl, rfl, (by show 3 ≤ sizeLine; decide), fun p hp => fin _ _ h0 p hp⟩
      · exact ⟨_, rfl, _, _, rfl, rfl, (by show 3 ≤ sizeLine; decide), fun p hp => fin 0 _ (by decide) p hp⟩
end
end IC
namespace IC
open PySem L2 TL
section
variable {P : Program} {w : World} {K : PySem.W.Frag} {mg : Str → Option Value} {base : Heap}
theorem ok_word {f : Addr} {fd : FuncData} (F : Fun K "_law_word" "_law_word" s_law_word f fd) (T : Bn mg) (D_law_draw : Df P w K mg base 1 "_law_draw" ["pool", "many"] spDraw) : FnOk P w K mg base CX0 2 f fd ["pool"] spWord := by
  refine F.ok sc_law_word (fun vs H Q E h => ?_) (fun cdv A outer s H vs Q E hr h => ?_)
  · obtain ⟨p, n, rfl, _⟩ := h
    rfl
  · obtain ⟨p, n, rfl, hp, hn, k⟩ := h
    refine ⟨_, (pss_cons (ps_set (i := 1) sc_law_word.nd rfl (Or.inr rfl) pe_str)
  (pss_one (ps_ret (pe_join pe_str (pe_lc (own := [("k", 2)]) (g := gName 2) (tt := tYes) rfl sc_law_word.nd (pi_range1 rfl T.range (pa_cons (pe_op op_add pe_int (pe_df D_law_draw hr (by first | decide | omega) rfl (pa_cons (pv 0) (pa_cons pe_int pa_nil)))) pa_nil)) (blkOk_by (N := ["pool", "letters", "k"]) (sc := defScope s_law_word) (by decide +kernel)) (fun _ _ _ _ _ => pg_name (i := 2) sc_law_word.nd rfl (Or.inl rfl)) (fun _ _ _ _ _ => pts_nil) (fun _ _ _ _ _ => (pe_ix ix_str (pv 1) (pe_df D_law_draw hr (by first | decide | omega) rfl (pa_cons (pv 0) (pa_cons pe_int pa_nil))) (fun _ _ => rfl)))))))), ?_⟩
    refine ⟨⟨_, rfl⟩, _, rfl, p, 8, n, rfl, hp, by omega, by decide, by decide, fun d o d0 d8 hp1 => ⟨_, _, rfl, rfl, _, rfl, by omega, by omega, fun D hD => ?_⟩⟩
    obtain ⟨hpD, hDn⟩ := none_of hD
    refine lc_range (lo := 0) (n := (1 + d).toNat) (fun i H' => ∃ cs : List Nat, cs.length = i ∧ (∀ c ∈ cs, Lt c) ∧ H' D = some (.lst ((cs.map sgn).map V.str)) ∧ PoolAt H' p (n + 1 + i) ∧ Kp [p] H H')
      ⟨[], rfl, by simp, upd_same, (hp1.mv fun u e => by rw [upd_ne hpD]; exact e).up (by omega), (Kp.at_ (by simp)).trans (Kp.new hD)⟩ ?_ ?_
    · rintro i H' hi ⟨cs, hl, hc, hcD, hp2, kp⟩
      refine ⟨rfl, ?_⟩
      refine ⟨_, rfl, _, rfl, p, 26, n + 1 + i, rfl, hp2, by omega, by decide, by decide, fun e o2 e0 e1 hp3 => ?_⟩
      obtain ⟨c, hat, hL⟩ := abc_at e e0 e1
      refine ⟨_, e, c, rfl, rfl, by decide +kernel, hat, ?_⟩
      refine ⟨_, (by rw [upd_ne hpD.symm]; exact hcD), small1000 (by rw [List.length_map, List.length_map]; omega), cs ++ [c], by simp [hl], ?_, ?_, ?_, (kp.mutAt (by simp)).mut hDn⟩
      · intro x hx
        rcases List.mem_append.mp hx with hx | hx
        · exact hc x hx
        · rw [List.mem_singleton.mp hx]; exact hL
      · rw [upd_same, List.map_append, List.map_append]
        rfl
      · exact (hp3.mv fun u q => by rw [upd_ne hpD]; exact q).up (by omega)
    · rintro H' ⟨cs, hl, hc, hcD, hp2, kp⟩
      refine ⟨_, D, cs.map sgn, rfl, rfl, .inl (SqL.of hcD), ?_, ?_⟩
      · have e : (List.map (fun z : Str => z.length) (cs.map sgn)).sum = cs.length := by
          rw [List.map_map]
          clear hl hc hcD hp2 kp
          induction cs with
          | nil => rfl
          | cons c r ih => rw [List.map_cons, List.sum_cons, ih, List.length_cons]; show 1 + r.length = r.length + 1; omega
        rw [e, List.length_map, hl]
        show (1 + d).toNat + (1 + d).toNat * 0 ≤ 16777216
        omega
      · have et := tl_joined cs
        refine k _ H' ⟨?_, ?_, ?_⟩ (hp2.up (by omega)) kp
        · rw [et, hl]; omega
        · rw [et, hl]; omega
        · rw [et]; exact hc
end
end IC
namespace IC
open PySem L2 TL
section
variable {P : Program} {w : World} {K : PySem.W.Frag} {mg : Str → Option Value} {base : Heap}
theorem ok_is_word {f : Addr} {fd : FuncData} (F : Fun K "is_word" "is_word" s_is_word f fd) (T : Bn mg) : FnOk P w K mg base CX0 1 f fd ["thing"] (spIsWord K) := by
  refine F.ok sc_is_word (fun vs H Q E h => ?_) (fun cdv A outer s H vs Q E hr h => ?_)
  · obtain ⟨v, rfl, _⟩ := h
    rfl
  · obtain ⟨v, rfl, h⟩ := h
    refine ⟨_, (pss_cons (ps_if (PW.pt (pw_or (pt_not (pt_val (pe_callB call_isi (by rfl) T.isi PyProof.Rows.boot_isinstance (pa_cons (pv 0) (pa_cons (pe_bltn (v := .ty "str") (by rfl) T.str (by decide +kernel) rfl) pa_nil))))) (pw_or1 (pt_not (pt_chain op_le op_le pe_int (pe_callB call_len_str (by rfl) T.len PySem.boot_len (pa_cons (pv 0) pa_nil)) pe_int)))))
  (pss_one (ps_ret pe_bl))
  pss_nil)
  (pss_one (ps_ret (pe_callB (cr_all rfl) (by rfl) T.all (by decide +kernel) (pa_cons (pe_lc (own := [("letter", 1)]) (g := gName 1) (tt := tYes) rfl sc_is_word.nd (pi_str (pv 0)) (blkOk_by (N := ["thing", "letter"]) (sc := defScope s_is_word) (by decide +kernel)) (fun _ _ _ _ _ => pg_name (i := 1) sc_is_word.nd rfl (Or.inl rfl)) (fun _ _ _ _ _ => pts_nil) (fun _ _ _ _ _ => (pe_chain op_le_str op_le_str pe_str (pv 1) pe_str))) pa_nil))))), ?_⟩
    rcases h with ⟨z, rfl, hl, k⟩ | ⟨⟨T', ty, kb⟩, k⟩
    · refine ⟨_, rfl, .str z, .ty "str", .type "str", .type "str", true, rfl, .ty "str", .base (.str z), kit_ty (by decide +kernel), true, rfl, ?_⟩
      refine ⟨_, rfl, z, rfl, len_le hl, 1, z.length, rfl, rfl, _, rfl, ?_⟩
      refine ite2 (fun h1 => ?_) (fun h1 => ?_)
      · have h1 := of_decide_eq_true h1
        refine ⟨_, _, rfl, rfl, _, rfl, ?_⟩
        cases hd : decide ((z.length : Int) ≤ 8) with
        | true =>
          refine ⟨_, rfl, z, rfl, fun D hD => ?_⟩
          have hz : z.cps.size = (tl z).length := by simp [tl]
          refine lc_it (walk_str (z := z)) (fun i H' => H' D = some (.lst (((tl z).take i).map fun c => V.bl (lB c))) ∧ Same H H') ⟨upd_same, Same.new hD⟩ (fun _ _ _ _ => trivial) ?_ ?_
          · rintro i x _ H' hi ⟨hcD, sm⟩ ⟨rfl, c, hc, rfl⟩
            have hc' : (tl z)[i]? = some c := by simpa [tl] using hc
            have fin : ∃ acc, H' D = some (.lst acc) ∧ acc.length < sizeLine ∧ upd H' D (.lst (acc ++ [V.bl (lB c)])) D = some (.lst (((tl z).take (i + 1)).map fun c => V.bl (lB c))) ∧ Same H (upd H' D (.lst (acc ++ [V.bl (lB c)]))) := by
              refine ⟨_, hcD, small1000 (by rw [List.length_map, List.length_take]; omega), ?_, ?_⟩
              · rw [upd_same, List.take_add_one, hc', List.map_append]
                rfl
              · exact fun b o e => by rw [upd_ne (ne_of_none e hD)]; exact sm b o e
            refine ⟨rfl, ?_⟩
            refine ⟨_, rfl, _, _, rfl, rfl, _, rfl, ?_⟩
            rw [lt_a c]
            unfold lB at fin
            cases h97 : decide (97 ≤ c) with
            | true =>
              rw [h97] at fin
              refine ⟨_, _, rfl, rfl, ?_⟩
              rw [z_lt c, Bool.not_not]
              exact fin
            | false =>
              rw [h97] at fin
              exact fin
          · rintro H' ⟨hcD, sm⟩
            have e : wB z = (((tl z).map lB).all id) := by
              have h8 := of_decide_eq_true hd
              rw [len_tl] at h1 h8
              unfold wB
              rw [decide_eq_true (by omega), decide_eq_true (by omega), Bool.true_and, Bool.true_and, List.all_map]
              rfl
            refine ⟨D, (tl z).map lB, rfl, SqL.of ?_, ?_⟩
            · rw [hcD, hz, List.take_length, List.map_map]
              rfl
            · have q := k H' sm
              rw [e] at q
              exact q
        | false =>
          have e : wB z = false := by
            have q := of_decide_eq_false hd
            rw [len_tl] at q
            unfold wB
            rw [decide_eq_false (p := (tl z).length ≤ 8) (by omega), Bool.false_and, Bool.and_false]
          have q := k H (Same.refl H)
          rw [e] at q
          exact q
      · rw [Bool.not_eq_true] at h1
        have e : wB z = false := by
          have q := of_decide_eq_false h1
          rw [len_tl] at q
          unfold wB
          rw [decide_eq_false (by omega)]
          rfl
        have q := k H (Same.refl H)
        rw [e] at q
        exact ⟨_, rfl, q⟩
    · refine ⟨_, rfl, v, .ty "str", .type T', .type "str", false, rfl, .ty "str", ty, kit_ty kb, false, rfl, ?_⟩
      exact k H (Same.refl H)
end
end IC
namespace IC
open PySem L2 TL
section
variable {P : Program} {w : World} {K : PySem.W.Frag} {mg : Str → Option Value} {base : Heap} {C : Addr}
theorem dict_take {al : List (List Str)} {i : Nat} {k : List Str} (h : al[i]? = some k) : putK (dictR (al.take i)) (k.map Sum.inr) (.bl true) = dictR (al.take (i + 1)) := by
  unfold dictR
  rw [List.take_add_one, h, List.foldl_append]
  rfl
theorem dict_small (al : List (List Str)) : (dictR al).length ≤ al.length := by
  have all : ∀ (al : List (List Str)) (kvs : List (List Key × V)), (al.foldl (fun kvs k => putK kvs (k.map Sum.inr) (.bl true)) kvs).length ≤ kvs.length + al.length := by
    intro al
    induction al with
    | nil => intro kvs; exact Nat.le_refl _
    | cons a al ih =>
      intro kvs
      rw [List.foldl_cons]
      refine Nat.le_trans (ih _) ?_
      have z := length_putK kvs (a.map Sum.inr : List Key) (.bl true)
      rw [List.length_cons]
      omega
  have z := all al []
  simpa [dictR] using z
theorem ok_rinit {f : Addr} {fd : FuncData} (F : Fun K "__init__" "Rule.__init__" s_Rule___init__ f fd) (R : RTxt K mg C) : FnOk P w K mg base CX0 1 f fd ["self", "names", "allowed", "text"] (spRInit C) := by
  refine F.ok sc_Rule___init__ (fun vs H Q E h => ?_) (fun cdv A outer s H vs Q E hr h => ?_)
  · obtain ⟨x, dx, t, l, ns, al, rs, z, rfl, _⟩ := h
    rfl
  · obtain ⟨x, dx, t, l, ns, al, rs, z, rfl, hx, ht, hl, tu, few, k⟩ := h
    refine ⟨_, (pss_cons (ps_fld (pv 0) (pv 1) rfl)
  (pss_cons (ps_fld (pv 0) (pe_dct (own := [("some", 4)]) (g := gName 4) (tt := tYes) rfl sc_Rule___init__.nd (room_units hr) (pi_list (pv 2)) (blkOk_by (N := ["self", "names", "allowed", "text", "some"]) (sc := defScope s_Rule___init__) (by decide +kernel)) (fun _ _ _ _ _ => pg_name (i := 4) sc_Rule___init__.nd rfl (Or.inl rfl)) (fun _ _ _ _ _ => pts_nil) (fun _ _ _ _ _ => (pv 4)) (fun _ _ _ _ _ => pe_bl)) rfl)
  (pss_one (ps_fld (pv 0) (pv 3) rfl)))), ?_⟩
    have kx : ∀ {o : HO}, Kp [x] H (upd H x o) := Kp.at_ (List.mem_singleton.mpr rfl)
    have nx : ∀ {b : Addr} {o : HO}, H b = some o → (∀ C dx fs, o ≠ .ins C dx fs) → b ≠ x := fun e n eq => by
      rw [eq, hx] at e
      cases e
      exact n _ _ _ rfl
    refine ⟨_, rfl, _, rfl, x, C, dx, [], rfl, hx, R.c, R.n, (by show 0 < 1000; decide), ?_⟩
    have hl1 : upd H x (.ins C dx [("_names", .ref t)]) l = some (.lst (rs.map V.ref)) := by
      rw [upd_ne (nx hl fun _ _ _ z => by cases z)]
      exact hl
    refine ⟨_, rfl, l, rfl, ⟨_, SqL.of hl1⟩, fun D nD => ?_⟩
    have sD := Same.new (o := .dT []) nD
    refine dct_list (K := K) (a := l) (xs := rs.map V.ref) (fun i G => Same (upd H x (.ins C dx [("_names", .ref t)])) G ∧ G D = some (.dT (dictR (al.take i)))) ⟨Same.new nD, upd_same⟩ (fun i G _ h => SqL.of (h.1 _ _ hl1)) (fun i y G hi h => ?_) (fun G h => ?_)
    · rw [List.getElem?_map] at hi
      cases er : rs[i]? with
      | none =>
        rw [er] at hi
        cases hi
      | some r =>
        rw [er] at hi
        cases hi
        have li : i < al.length := by
          rw [← tu.1]
          exact (List.getElem?_eq_some_iff.mp er).1
        have ek : al[i]? = some al[i] := List.getElem?_eq_getElem li
        have hr1 := tu.2 i r _ er ek
        have ne : r ≠ x := nx hr1 fun _ _ _ z => by cases z
        have hG : G r = some (.tup ((al[i].map Sum.inr : List Key).map kV)) := by
          rw [kv_inr]
          exact h.1 _ _ (by rw [upd_ne ne]; exact hr1)
        refine ⟨by simp [wipe], ?_⟩
        refine ⟨_, rfl, dictR (al.take i), al[i].map Sum.inr, r, rfl, hG, h.2, ?_, ?_, ?_⟩
        · have z1 := dict_small (al.take i)
          have z2 : (al.take i).length ≤ al.length := by rw [List.length_take]; omega
          exact small1000 (by omega)
        · exact fun b o e => by
            have ne : b ≠ D := ne_of_none e nD
            rw [upd_ne ne]
            exact h.1 b o e
        · rw [upd_same, dict_take ek]
    · have er : rs.length = al.length := tu.1
      have hG := h.2
      rw [List.length_map, er, List.take_length] at hG
      have xD : x ≠ D := ne_of_none upd_same nD
      have gx : G x = some (.ins C dx [("_names", .ref t)]) := h.1 _ _ upd_same
      refine ⟨_, rfl, x, C, dx, _, rfl, gx, R.c, R.a, (by show 1 < 1000; decide), ?_⟩
      refine ⟨_, rfl, _, rfl, x, C, dx, _, rfl, upd_same, R.c, R.t, (by show 2 < 1000; decide), ?_⟩
      refine k _ (((kx.trans (Kp.same h.1)).mutAt (List.mem_singleton.mpr rfl)).mutAt (List.mem_singleton.mpr rfl)) ⟨dx, t, D, upd_same, ?_, ?_⟩
      · have ne : t ≠ x := nx ht fun _ _ _ z => by cases z
        rw [upd_ne ne, upd_ne ne]
        exact h.1 _ _ (by rw [upd_ne ne]; exact ht)
      · rw [upd_ne xD.symm, upd_ne xD.symm]
        exact hG
theorem ok_few {f : Addr} {fd : FuncData} (F : Fun K "check_few" "check_few" s_check_few f fd) (T : Bn mg) (R : RTxt K mg C) : FnOk P w K mg base CX0 1 f fd ["names"] spFew := by
  refine F.ok sc_check_few (fun vs H Q E h => ?_) (fun cdv A outer s H vs Q E hr h => ?_)
  · obtain ⟨t, ns, rfl, _⟩ := h
    rfl
  · obtain ⟨t, ns, rfl, ht, few, k⟩ := h
    refine ⟨_, (pss_one (ps_if (pt_cmpR op_gt (pe_callB call_len_seq (by rfl) T.len PySem.boot_len (pa_cons (pv 0) pa_nil)) (pe_gv2 R.gM rfl) (nomark _))
  pss_dead
  pss_nil)), ?_⟩
    refine ⟨_, rfl, t, _, rfl, .inr (SqT.of ht), _, _, rfl, rfl, _, rfl, ?_⟩
    have e : decide ((6 : Int) < ((ns.map V.str).length : Int)) = false := by
      rw [List.length_map]
      exact decide_eq_false (by omega)
    dsimp only
    rw [show decide (((ns.map V.str).length : Int) > 6) = false from e]
    exact iteF k
theorem ok_has {f : Addr} {fd : FuncData} (F : Fun K "has" "Rule.has" s_Rule_has f fd) (R : RTxt K mg C) (D_is_word : Df P w K mg base 1 "is_word" ["thing"] (spIsWord K)) (C_R : RDf P w K mg base 1 C) : FnOk P w K mg base CX0 3 f fd ["record"] (spHas C) := by
  refine F.ok sc_Rule_has (fun vs H Q E h => ?_) (fun cdv A outer s H vs Q E hr h => ?_)
  · obtain ⟨z, rfl, _⟩ := h
    rfl
  · obtain ⟨z, rfl, hz, k⟩ := h
    refine ⟨_, (pss_cons (ps_if (pt_not (pt_val (pe_df D_is_word hr (by first | decide | omega) rfl (pa_cons (pv 0) pa_nil))))
  pss_dead
  pss_nil)
  (pss_one (ps_ret (pe_mkR C_R hr (by first | decide | omega) rfl (pa_cons (pe_tup (pa_cons (pv 0) pa_nil)) (pa_cons (pe_lst (pa_cons (pe_tup (pa_cons (pv 0) pa_nil)) pa_nil)) (pa_cons (pv 0) pa_nil))))))), ?_⟩
    have one : ∀ {v : V}, [v].length ≤ sizeLine := by intro v; show 1 ≤ sizeLine; decide
    refine ⟨_, rfl, .str z, rfl, .inl ⟨z, rfl, by have := hz.2.1; omega, fun H1 s1 => ⟨_, rfl, ?_⟩⟩⟩
    rw [wB_of hz]
    refine iteF ?_
    refine ⟨_, rfl, one, fun t nt => ⟨_, rfl, one, fun t2 nt2 => ⟨one, fun l nl => ⟨_, rfl, ?_⟩⟩⟩⟩
    have sa : Same H1 (upd H1 t (.tup [.str z])) := Same.new nt
    have sb : Same (upd H1 t (.tup [.str z])) (upd (upd H1 t (.tup [.str z])) t2 (.tup [.str z])) := Same.new nt2
    have sc : Same (upd (upd H1 t (.tup [.str z])) t2 (.tup [.str z])) (upd (upd (upd H1 t (.tup [.str z])) t2 (.tup [.str z])) l (.lst [.ref t2])) := Same.new nl
    refine make_rule (ns := [z]) (al := [[z]]) (rs := [t2]) (z := z) (sc _ _ (sb _ _ upd_same)) upd_same ⟨rfl, fun i r k e1 e2 => ?_⟩ (by show 1 ≤ 100; decide) (k.same (((s1.trans sa).trans sb).trans sc))
    cases i with
    | zero =>
      cases e1
      cases e2
      exact sc _ _ upd_same
    | succ i => cases e1
theorem ok_always {f : Addr} {fd : FuncData} (F : Fun K "always" "Rule.always" s_Rule_always f fd) (C_R : RDf P w K mg base 1 C) : FnOk P w K mg base CX0 3 f fd [] (spAlways C) := by
  refine F.ok sc_Rule_always (fun vs H Q E h => ?_) (fun cdv A outer s H vs Q E hr h => ?_)
  · obtain ⟨rfl, _⟩ := h
    rfl
  · obtain ⟨rfl, k⟩ := h
    refine ⟨_, (pss_one (ps_ret (pe_mkR C_R hr (by first | decide | omega) rfl (pa_cons (pe_tup pa_nil) (pa_cons (pe_lst (pa_cons (pe_tup pa_nil) pa_nil)) (pa_cons pe_str pa_nil)))))), ?_⟩
    refine ⟨by show 0 ≤ sizeLine; decide, fun t nt => ⟨by show 0 ≤ sizeLine; decide, fun t2 nt2 => ⟨by show 1 ≤ sizeLine; decide, fun l nl => ?_⟩⟩⟩
    have sa : Same H (upd H t (.tup [])) := Same.new nt
    have sb : Same (upd H t (.tup [])) (upd (upd H t (.tup [])) t2 (.tup [])) := Same.new nt2
    have sc : Same (upd (upd H t (.tup [])) t2 (.tup [])) (upd (upd (upd H t (.tup [])) t2 (.tup [])) l (.lst [.ref t2])) := Same.new nl
    refine make_rule (ns := []) (al := [[]]) (rs := [t2]) (sc _ _ (sb _ _ upd_same)) upd_same ⟨rfl, fun i r k e1 e2 => ?_⟩ (by decide) (k.same ((sa.trans sb).trans sc))
    cases i with
    | zero =>
      cases e1
      cases e2
      exact sc _ _ upd_same
    | succ i => cases e1
theorem ok_recs {f : Addr} {fd : FuncData} (F : Fun K "records" "Rule.records" s_Rule_records f fd) (T : Bn mg) (R : RTxt K mg C) : FnOk P w K mg base CX0 1 f fd ["self"] (spRecs C) := by
  refine F.ok sc_Rule_records (fun vs H Q E h => ?_) (fun cdv A outer s H vs Q E hr h => ?_)
  · obtain ⟨r, ns, al, z, rfl, _⟩ := h
    rfl
  · obtain ⟨r, ns, al, z, rfl, ⟨dx, t, d, h1, h2, h3⟩, k⟩ := h
    refine ⟨_, (pss_one (ps_ret (pe_callTy call_list_of (by rfl) T.list (by decide +kernel) (pa_cons (pe_fld (pv 0) rfl) pa_nil)))), ?_⟩
    exact ⟨_, rfl, r, C, dx, _, _, rfl, h1, R.c, R.n, rfl, t, _, rfl, .inr (SqT.of h2), k⟩
theorem ok_allows {f : Addr} {fd : FuncData} (F : Fun K "_allows" "Rule._allows" s_Rule__allows f fd) (T : Bn mg) (R : RTxt K mg C) : FnOk P w K mg base CX0 1 f fd ["self", "kept"] (spAsk C) := by
  refine F.ok sc_Rule__allows (fun vs H Q E h => ?_) (fun cdv A outer s H vs Q E hr h => ?_)
  · obtain ⟨r, a, ns, ks, al, z, rfl, _⟩ := h
    rfl
  · obtain ⟨r, a, ns, ks, al, z, rfl, ⟨dx, t, d, h1, h2, h3⟩, hk, few, k⟩ := h
    have hu := hu_of hr
    refine ⟨_, (pss_one (ps_ret (pe_cmp (pc_din hu (pe_callTy call_tuple_of (by rfl) T.tuple (by decide +kernel) (pa_cons (pe_lc (own := [("name", 2)]) (g := gName 2) rfl sc_Rule__allows.nd (pi_tup (pe_fld (pv 0) rfl)) (blkOk_by (N := ["self", "kept", "name"]) (sc := defScope s_Rule__allows) (by decide +kernel)) (fun _ _ _ _ _ => pg_name (i := 2) sc_Rule__allows.nd rfl (Or.inl rfl)) (fun _ _ _ _ _ => pts_one (pt_cmpR (show OpR _ _ (rIn K false) from op_in_seq) (pv 2) (pv 1) (by rfl))) (fun _ _ _ _ _ => (pv 2))) pa_nil)) (pe_fld (pv 0) rfl)) rfl))), ?_⟩
    refine ⟨_, rfl, r, C, dx, _, _, rfl, h1, R.c, R.n, rfl, t, rfl, ⟨_, SqT.of h2⟩, fun D nD => ?_⟩
    refine lc_tup (K := K) (a := t) (xs := ns.map V.str) (fun i G => Same H G ∧ G D = some (.lst (((ns.take i).filter (fun n => decide (n ∈ ks))).map V.str))) ⟨Same.new nD, upd_same⟩ (fun i G _ h => SqT.of (h.1 _ _ h2)) (fun i y G hi h => ?_) (fun G h => ?_)
    · rw [List.getElem?_map] at hi
      cases en : ns[i]? with
      | none =>
        rw [en] at hi
        cases hi
      | some n =>
        rw [en] at hi
        cases hi
        have li : i < ns.length := (List.getElem?_eq_some_iff.mp en).1
        have et : (ns.take (i + 1)).filter (fun n => decide (n ∈ ks)) = (ns.take i).filter (fun n => decide (n ∈ ks)) ++ [n].filter (fun n => decide (n ∈ ks)) := by
          rw [List.take_add_one, en, List.filter_append]
          rfl
        refine ⟨by simp [wipe], ?_⟩
        have hk2 := hk.same h.1
        have small : (((ns.take i).filter (fun n => decide (n ∈ ks))).map V.str).length < sizeLine := by
          rw [List.length_map]
          have z1 := List.length_filter_le (fun n => decide (n ∈ ks)) (ns.take i)
          have z2 : (ns.take i).length ≤ ns.length := by rw [List.length_take]; omega
          exact small1000 (by omega)
        refine ⟨_, rfl, _, rfl, a, ks.map V.str, rfl, hk2.imp SqL.of SqT.of, rfl, flat_ks ks, _, rfl, ?_⟩
        rw [if_neg (by decide), inV_strs]
        cases ec : decide (n ∈ ks) with
        | false =>
          refine iteF ⟨h.1, ?_⟩
          rw [et]
          simp [ec, h.2]
        | true =>
          refine iteT ⟨_, rfl, _, h.2, small, fun b o e => ?_, ?_⟩
          · rw [upd_ne (ne_of_none e nD)]
            exact h.1 b o e
          · rw [upd_same, et]
            simp [ec]
    · rw [List.length_map, List.take_length] at h
      refine ⟨D, _, rfl, .inl ⟨SqL.of h.2, fun p np => ?_⟩⟩
      have s2 : Same G (upd G p (.tup ((ns.filter (fun n => decide (n ∈ ks))).map V.str))) := Same.new np
      refine ⟨_, rfl, r, C, dx, _, _, rfl, (h.1.trans s2) _ _ h1, R.c, R.a, rfl, d, _, rfl, DGet.t (k := (ns.filter (fun n => decide (n ∈ ks))).map Sum.inr) ((h.1.trans s2) _ _ h3) (by rw [kv_inr]; exact upd_same), ?_⟩
      have e : (valV (dictR al) ((ns.filter (fun n => decide (n ∈ ks))).map Sum.inr)).isSome = may ns al ks := by
        rw [dictR_get]
        unfold may
        by_cases hm : ns.filter (fun n => decide (n ∈ ks)) ∈ al
        · rw [if_pos hm, decide_eq_true hm]
          rfl
        · rw [if_neg hm, decide_eq_false hm]
          rfl
      rw [e]
      exact k _ (h.1.trans s2)
theorem ok_call {f : Addr} {fd : FuncData} (F : Fun K "__call__" "Rule.__call__" s_Rule___call__ f fd) (R : RTxt K mg C) (M_allows : MDf P w K mg base CX0 1 C "_allows" ["self", "kept"] [] (spAsk C)) : FnOk P w K mg base CX0 2 f fd ["self", "kept"] (spAsk C) := by
  refine F.ok sc_Rule___call__ (fun vs H Q E h => ?_) (fun cdv A outer s H vs Q E hr h => ?_)
  · obtain ⟨r, a, ns, ks, al, z, rfl, _⟩ := h
    rfl
  · obtain ⟨r, a, ns, ks, al, z, rfl, ra, hk, few, k⟩ := h
    refine ⟨_, (pss_one (ps_ret (pe_md M_allows R.c hr (by first | decide | omega) (pv 0) (pa_cons (pv 1) pa_nil)))), ?_⟩
    obtain ⟨dx, t, d, h1, h2, h3⟩ := ra
    refine ⟨_, rfl, r, dx, _, rfl, h1, rfl, _, rfl, ?_⟩
    exact ⟨r, a, ns, ks, al, z, rfl, ⟨dx, t, d, h1, h2, h3⟩, hk, few, k⟩
end
end IC
namespace IC
open PySem L2 TL
section
variable {P : Program} {w : World} {K : PySem.W.Frag} {mg : Str → Option Value} {base : Heap} {C : Addr}
theorem sum_le8 : ∀ l : List Str, (∀ z ∈ l, z.length ≤ 8) → (l.map (·.length)).sum ≤ 8 * l.length
  | [], _ => Nat.le_refl _
  | x :: r, h => by
    have z1 := h x (List.mem_cons_self ..)
    have z2 := sum_le8 r fun z hz => h z (List.mem_cons_of_mem _ hz)
    rw [List.map_cons, List.sum_cons, List.length_cons]
    omega
theorem len_app (x y : Str) : (x ++ y).length = x.length + y.length := by
  rw [len_tl, len_tl, len_tl, tl_append, List.length_append]
theorem join_len0 (y : Str) : ∀ l : List Str, (Str.join y l).length ≤ (l.map (·.length)).sum + l.length * y.length
  | [] => Nat.zero_le _
  | [x] => by
    show x.length ≤ _
    simp
  | x :: z :: r => by
    have ih := join_len0 y (z :: r)
    show (x ++ y ++ Str.join y (z :: r)).length ≤ _
    rw [len_app, len_app]
    rw [List.map_cons, List.sum_cons, List.length_cons, Nat.succ_mul]
    omega
theorem join_len (y : Str) (l : List Str) : (Txt.join y l).length ≤ (l.map (·.length)).sum + l.length * y.length := by
  rw [join_eq]
  exact join_len0 y l
theorem ok_together {f : Addr} {fd : FuncData} (F : Fun K "together" "Rule.together" s_Rule_together f fd) (T : Bn mg) (D_is_word : Df P w K mg base 1 "is_word" ["thing"] (spIsWord K)) (D_check_few : Df P w K mg base 1 "check_few" ["names"] spFew) (C_R : RDf P w K mg base 1 C) : FnR P w K mg base CX0 4 f (fun vs H Q E => vs.length ≤ sizeLine ∧ ∀ p, H p = none → spTog C [.ref p] (upd H p (.tup vs)) Q E) := by
  refine Fun.star (n := 3) (sp := spTog C) (v := "records") F sc_Rule_together (fun oc kV doc pm an cdv ct rest => by cases rest <;> rfl) (fun cdv A outer s H vs Q E hr h => ?_)
  obtain ⟨t, zs, rfl, ht, hw, few, k⟩ := h
  refine ⟨_, PSs.nox (pss_cons (ps_for PassesOwn.never rfl (pi_tup (pv 0)) (pg_name (i := 1) sc_Rule_together.nd rfl (Or.inl rfl))
  (pss_one (ps_if (pt_not (pt_val (pe_df D_is_word hr (by first | decide | omega) rfl (pa_cons (pv 1) pa_nil))))
  pss_dead
  pss_nil)))
  (pss_cons (ps_set (i := 2) sc_Rule_together.nd rfl (Or.inl rfl) (pe_callTy call_tuple_of (by rfl) T.tuple (by decide +kernel) (pa_cons (pe_callB (cr_sortTx rfl) (by rfl) T.sorted (by decide +kernel) (pa_cons (pe_callTy (cr_setTx rfl) (by rfl) T.set (by decide +kernel) (pa_cons (pv 0) pa_nil)) pa_nil)) pa_nil)))
  (pss_cons (ps_expr (pe_df D_check_few hr (by first | decide | omega) rfl (pa_cons (pv 2) pa_nil)))
  (pss_cons (ps_set (i := 3) sc_Rule_together.nd rfl (Or.inl rfl) (pe_join pe_str (pv 2)))
  (pss_one (ps_ret (pe_mkR C_R hr (by first | decide | omega) rfl (pa_cons (pv 2) (pa_cons (pe_lst (pa_cons (pe_tup pa_nil) (pa_cons (pv 2) pa_nil))) (pa_cons (pe_joined (PJ.cons pe_str (PJ.cons (pe_fmt (pv 3)) (PJ.cons pe_str PJ.nil)))) pa_nil)))))))))), ?_⟩
  refine ⟨_, rfl, t, rfl, ⟨_, SqT.of ht⟩, for_tup (K := K) (a := t) (xs := zs.map V.str) (fun i σ H' => ∃ o : Option V, σ = [some (.ref t), o, none, none] ∧ Same H H') ⟨_, rfl, Same.refl H⟩ (fun i σ H' _ e => ?_) (fun i x σ H' hi e => ?_) (fun σ H' e => ?_)⟩
  · obtain ⟨o, rfl, s1⟩ := e
    exact SqT.of (s1 _ _ ht)
  · obtain ⟨o, rfl, s1⟩ := e
    rw [List.getElem?_map] at hi
    cases ez : zs[i]? with
    | none =>
      rw [ez] at hi
      cases hi
    | some z =>
      rw [ez] at hi
      cases hi
      have hz := hw z (List.mem_of_getElem? ez)
      refine ⟨_, rfl, .str z, rfl, .inl ⟨z, rfl, by have := hz.2.1; omega, fun H1 s2 => ⟨_, rfl, ?_⟩⟩⟩
      rw [wB_of hz]
      exact iteF ⟨_, rfl, s1.trans s2⟩
  · obtain ⟨o, rfl, s1⟩ := e
    refine ⟨_, rfl, t, zs, rfl, .inr (SqT.of (s1 _ _ ht)), by omega, fun p M np ml mem nd => ⟨p, M, rfl, upd_same, fun ys q perm so nq => ⟨q, _, rfl, .inl ⟨SqL.of upd_same, fun l nl => ?_⟩⟩⟩⟩
    have sp : Same H' (upd H' p (TxO w p M)) := Same.new np
    have sq : Same (upd H' p (TxO w p M)) (upd (upd H' p (TxO w p M)) q (.lst (ys.map V.str))) := Same.new nq
    have sl : Same (upd (upd H' p (TxO w p M)) q (.lst (ys.map V.str))) (upd (upd (upd H' p (TxO w p M)) q (.lst (ys.map V.str))) l (.tup (ys.map V.str))) := Same.new nl
    have s2 := ((s1.trans sp).trans sq).trans sl
    have at_ : upd (upd (upd H' p (TxO w p M)) q (.lst (ys.map V.str))) l (.tup (ys.map V.str)) l = some (.tup (ys.map V.str)) := upd_same
    have ylen : ys.length ≤ 6 := by
      have z := perm.length_eq
      omega
    have y8 : ∀ z ∈ ys, z.length ≤ 8 := fun z hz => by
      have q := hw z ((mem z).mp (perm.mem_iff.mp hz))
      rw [len_tl]
      exact q.2.1
    have ysum := sum_le8 ys y8
    have jl := join_len " " ys
    have e1 : (" " : Str).length = 1 := by decide +kernel
    rw [e1] at jl
    refine ⟨_, rfl, l, ys, rfl, at_, ylen, ?_⟩
    refine ⟨⟨_, rfl⟩, _, rfl, _, l, ys, rfl, rfl, .inr (SqT.of at_), by rw [e1]; omega, ?_⟩
    refine ⟨_, rfl, by show 0 ≤ sizeLine; decide, fun t2 n2 => ⟨_, rfl, by show 2 ≤ sizeLine; decide, fun lb nlb => ?_⟩⟩
    refine ⟨_, rfl, by decide +kernel, _, rfl, .inl ⟨_, rfl, Nat.le_of_lt (small1000 (by omega)), _, rfl, ?_, _, rfl, ?_, ?_⟩⟩
    · have e2 : (Str.empty ++ Str.ofString "together(").length = 9 := by decide +kernel
      rw [len_app, e2]
      exact Nat.le_of_lt (small1000 (by omega))
    · have e2 : (Str.empty ++ Str.ofString "together(").length = 9 := by decide +kernel
      have e3 : (Str.ofString ")").length = 1 := by decide +kernel
      rw [len_app, len_app, e2, e3]
      exact Nat.le_of_lt (small1000 (by omega))
    · have sa := Same.new (o := HO.tup []) n2
      have sb := Same.new (o := HO.lst [.ref t2, .ref l]) nlb
      refine make_rule (ns := ys) (al := [[], ys]) (rs := [t2, l]) ((sa.trans sb) _ _ at_) upd_same ⟨rfl, fun i r k e1 e2 => ?_⟩ (by show 2 ≤ 100; decide) ((k M ys nd ml mem perm so).same ((s2.trans sa).trans sb))
      match i with
      | 0 =>
        cases e1
        cases e2
        exact sb _ _ upd_same
      | 1 =>
        cases e1
        cases e2
        exact (sa.trans sb) _ _ at_
      | i + 2 => cases e1
end
end IC
namespace IC
open PySem L2 TL
theorem eqv_strs : ∀ xs ys : List Str, PyData.eqvAll (xs.map PyData.str) (ys.map PyData.str) = decide (xs = ys)
  | [], [] => rfl
  | [], _ :: _ => rfl
  | _ :: _, [] => rfl
  | x :: xs, y :: ys => by
    show (x == y && PyData.eqvAll (xs.map PyData.str) (ys.map PyData.str)) = _
    rw [eqv_strs xs ys, Bool.eq_iff_iff, Bool.and_eq_true, beq_iff_eq, decide_eq_true_iff, decide_eq_true_iff, List.cons.injEq]
theorem eqv_lists (xs ys : List Str) : PyData.eqv (.list (xs.map PyData.str)) (.list (ys.map PyData.str)) = decide (xs = ys) := eqv_strs xs ys
theorem shaped_ws {zs : List Str} (h : ∀ z ∈ zs, IsW z) : SeqAt.shaped (.list (zs.map PyData.str)) = true := shaped_strs zs fun z hz c hc => ((h z hz).2.2 c hc).ok
theorem dp_ws {K : PySem.W.Frag} {H : Hp} {a : Addr} {zs : List Str} (h : H a = some (.lst (zs.map V.str))) : Dp K H (.ref a) (.list (zs.map PyData.str)) := .lst (SqL.of h) (dpAll_strs zs)
theorem may_one (z : Str) (ks : List Str) : may [z] [[z]] ks = decide (z ∈ ks) := by
  unfold may
  by_cases h : z ∈ ks <;> simp [h]
theorem may_all (ks : List Str) : may [] [[]] ks = true := by
  unfold may
  simp
theorem may_tog {ls ys ks : List Str} (mem : ∀ z, z ∈ ys ↔ z ∈ ls) : may ys [[], ys] ks = (decide (ls.filter (fun n => decide (n ∈ ks)) = []) || decide (ls.filter (fun n => decide (n ∈ ks)) = ls)) := by
  unfold may
  rw [Bool.eq_iff_iff, decide_eq_true_iff, Bool.or_eq_true, decide_eq_true_iff, decide_eq_true_iff, List.mem_cons, List.mem_singleton]
  rw [List.filter_eq_nil_iff, List.filter_eq_nil_iff, List.filter_eq_self, List.filter_eq_self]
  constructor
  · rintro (h | h)
    · exact .inl fun a ha => h a ((mem a).mpr ha)
    · exact .inr fun a ha => h a ((mem a).mpr ha)
  · rintro (h | h)
    · exact .inl fun a ha => h a ((mem a).mp ha)
    · exact .inr fun a ha => h a ((mem a).mp ha)
/-- what stands while the law asks its three rules -/
structure LSt (C p wl ll r1 r2 r3 : Addr) (ws ls : List Str) (w0 : Str) (ys : List Str) (H : Hp) : Prop where
  w : H wl = some (.lst (ws.map V.str))
  l : H ll = some (.lst (ls.map V.str))
  a : ∃ z, RuleAt C H r1 [w0] [[w0]] z
  b : ∃ z, RuleAt C H r2 ys [[], ys] z
  c : ∃ z, RuleAt C H r3 [] [[]] z
theorem LSt.same {C p wl ll r1 r2 r3 : Addr} {ws ls : List Str} {w0 : Str} {ys : List Str} {H H' : Hp} (h : LSt C p wl ll r1 r2 r3 ws ls w0 ys H) (s : Same H H') : LSt C p wl ll r1 r2 r3 ws ls w0 ys H' :=
  ⟨s _ _ h.w, s _ _ h.l, h.a.elim fun z q => ⟨z, q.same s⟩, h.b.elim fun z q => ⟨z, q.same s⟩, h.c.elim fun z q => ⟨z, q.same s⟩⟩
theorem LSt.mv {C p wl ll r1 r2 r3 : Addr} {ws ls : List Str} {w0 : Str} {ys : List Str} {H H' : Hp} {n : Int} (h : LSt C p wl ll r1 r2 r3 ws ls w0 ys H) (k : Kp [p] H H') (hp : PoolAt H p n) (nw : wl ≠ p) (nl : ll ≠ p) : LSt C p wl ll r1 r2 r3 ws ls w0 ys H' := by
  rcases hp with ⟨a, b, c, hp, _⟩
  exact ⟨k _ _ h.w fun e => nw (List.mem_singleton.mp e), k _ _ h.l fun e => nl (List.mem_singleton.mp e), h.a.elim fun z q => ⟨z, q.mv k hp⟩, h.b.elim fun z q => ⟨z, q.mv k hp⟩, h.c.elim fun z q => ⟨z, q.mv k hp⟩⟩
theorem RuleAt.ins {C : Addr} {H : Hp} {r : Addr} {ns : List Str} {al : List (List Str)} {z : Str} (h : RuleAt C H r ns al z) : ∃ dx fs, H r = some (.ins C dx fs) ∧ fs.lookup (Str.ofString "records") = none := by
  rcases h with ⟨dx, t, d, h1, _⟩
  exact ⟨dx, _, h1, rfl⟩
end IC
namespace IC
open PySem L2 TL
/-- the sublists of ns, in the order of the program -/
def subs (ns : List Str) : List (List Str) := ns.foldl (fun acc n => acc ++ acc.map (· ++ [n])) [[]]
theorem subs_take {ns : List Str} {i : Nat} {n : Str} (h : ns[i]? = some n) : subs (ns.take (i + 1)) = subs (ns.take i) ++ (subs (ns.take i)).map (· ++ [n]) := by
  unfold subs
  rw [List.take_add_one, h, List.foldl_append]
  rfl
theorem subs_len (ns : List Str) : (subs ns).length = 2 ^ ns.length := by
  have all : ∀ (ns : List Str) (acc : List (List Str)), (ns.foldl (fun acc n => acc ++ acc.map (· ++ [n])) acc).length = acc.length * 2 ^ ns.length := by
    intro ns
    induction ns with
    | nil => intro acc; simp
    | cons n ns ih =>
      intro acc
      rw [List.foldl_cons, ih, List.length_append, List.length_map, List.length_cons, Nat.pow_succ]
      rw [← Nat.two_mul, Nat.mul_comm 2, Nat.mul_assoc, Nat.mul_comm 2]
  have z := all ns [[]]
  simpa [subs] using z
theorem subs_few {ns : List Str} (h : ns.length ≤ 6) : (subs ns).length ≤ 64 := by
  rw [subs_len]
  exact Nat.pow_le_pow_right (by decide) h
theorem subs_few8 {ns : List Str} (h : ns.length ≤ 8) : (subs ns).length ≤ 256 := by
  rw [subs_len]
  exact Nat.pow_le_pow_right (by decide) h
theorem subs_snoc (ns : List Str) (n : Str) : subs (ns ++ [n]) = subs ns ++ (subs ns).map (· ++ [n]) := by
  unfold subs
  rw [List.foldl_append]
  rfl
theorem subs_all : ∀ (m : Nat) (ns : List Str), ns.length = m → ∀ k, k ∈ subs ns ↔ k.Sublist ns
  | 0, [], _, k => by
    show k ∈ [[]] ↔ _
    rw [List.mem_singleton, List.sublist_nil]
  | m + 1, ns, h, k => by
    rcases List.eq_nil_or_concat ns with rfl | ⟨ms, n, rfl⟩
    · cases h
    · rw [List.concat_eq_append] at *
      rw [List.length_append, List.length_singleton] at h
      have ih := subs_all m ms (by omega)
      rw [subs_snoc, List.mem_append, List.mem_map, List.sublist_append_iff, ih k]
      constructor
      · rintro (q | ⟨k2, q, rfl⟩)
        · exact ⟨k, [], (List.append_nil k).symm, q, List.nil_sublist _⟩
        · exact ⟨k2, [n], rfl, (ih k2).mp q, List.Sublist.refl _⟩
      · rintro ⟨k1, k2, rfl, q1, q2⟩
        cases q2 with
        | cons _ q =>
          rw [List.sublist_nil.mp q, List.append_nil]
          exact .inl q1
        | cons_cons _ q =>
          rw [List.sublist_nil.mp q]
          exact .inr ⟨k1, (subs_all m ms (by omega) k1).mpr q1, rfl⟩
theorem subs_iff {ns k : List Str} : k ∈ subs ns ↔ k.Sublist ns := subs_all _ ns rfl k
theorem Tups.same {H H' : Hp} {rs : List Addr} {al : List (List Str)} (h : Tups H rs al) (s : Same H H') : Tups H' rs al := ⟨h.1, fun i r k e1 e2 => s _ _ (h.2 i r k e1 e2)⟩
theorem Tups.snoc {H : Hp} {rs : List Addr} {al : List (List Str)} {r : Addr} {k : List Str} (h : Tups H rs al) (hr : H r = some (.tup (k.map V.str))) : Tups H (rs ++ [r]) (al ++ [k]) := by
  refine ⟨by rw [List.length_append, List.length_append, h.1]; rfl, fun i r2 k2 e1 e2 => ?_⟩
  rcases Nat.lt_trichotomy i rs.length with lt | eq | gt
  · rw [List.getElem?_append_left lt] at e1
    rw [List.getElem?_append_left (by rw [← h.1]; exact lt)] at e2
    exact h.2 i r2 k2 e1 e2
  · subst eq
    rw [List.getElem?_append_right (Nat.le_refl _), Nat.sub_self] at e1
    rw [List.getElem?_append_right (by rw [← h.1]; exact Nat.le_refl _), ← h.1, Nat.sub_self] at e2
    cases e1
    cases e2
    exact hr
  · rw [List.getElem?_eq_none (by rw [List.length_append]; exact gt)] at e1
    cases e1
theorem Tups.append {H : Hp} {rs ss : List Addr} {al bl : List (List Str)} (h : Tups H rs al) (g : Tups H ss bl) : Tups H (rs ++ ss) (al ++ bl) := by
  refine ⟨by rw [List.length_append, List.length_append, h.1, g.1], fun i r k e1 e2 => ?_⟩
  rcases Nat.lt_or_ge i rs.length with lt | ge
  · rw [List.getElem?_append_left lt] at e1
    rw [List.getElem?_append_left (by rw [← h.1]; exact lt)] at e2
    exact h.2 i r k e1 e2
  · rw [List.getElem?_append_right ge] at e1
    rw [List.getElem?_append_right (by rw [← h.1]; exact ge), ← h.1] at e2
    exact g.2 _ r k e1 e2
theorem Tups.atL {H : Hp} {rs : List Addr} {al : List (List Str)} {D : Addr} {xs ys : List V} (h : Tups H rs al) (hD : H D = some (.lst xs)) : Tups (upd H D (.lst ys)) rs al := ⟨h.1, fun i r k e1 e2 => by
  have q := h.2 i r k e1 e2
  have ne : r ≠ D := fun e => by
    rw [e, hD] at q
    cases q
  rw [upd_ne ne]
  exact q⟩
def spSubs : Sp := fun vs H Q _ => ∃ (t : Addr) (ns : List Str), vs = [.ref t] ∧ H t = some (.tup (ns.map V.str)) ∧ ns.length ≤ 8 ∧
  ∀ (H' : Hp) (l : Addr) (rs : List Addr), Same H H' → H' l = some (.lst (rs.map V.ref)) → Tups H' rs (subs ns) → Q (.ref l) H'
section
variable {P : Program} {w : World} {K : PySem.W.Frag} {mg : Str → Option Value} {base : Heap} {C : Addr}
theorem ok_subsets {f : Addr} {fd : FuncData} (F : Fun K "subsets" "subsets" s_subsets f fd) : FnOk P w K mg base CX0 1 f fd ["names"] spSubs := by
  refine F.ok sc_subsets (fun vs H Q E h => ?_) (fun cdv A outer s H vs Q E hr h => ?_)
  · obtain ⟨t, ns, rfl, _⟩ := h
    rfl
  · obtain ⟨t, ns, rfl, ht, few, k⟩ := h
    refine ⟨_, (pss_cons (ps_set (i := 1) sc_subsets.nd rfl (Or.inl rfl) (pe_lst (pa_cons (pe_tup pa_nil) pa_nil)))
  (pss_cons (ps_for PassesOwn.never rfl (pi_tup (pv 0)) (pg_name (i := 2) sc_subsets.nd rfl (Or.inr rfl))
  (pss_one (ps_set (i := 1) sc_subsets.nd rfl (Or.inl rfl) (pe_op op_cat (pv 1) (pe_lc (own := [("some", 3)]) (g := gName 3) (tt := tYes) rfl sc_subsets.nd (pi_list (pv 1)) (blkOk_by (N := ["names", "found", "name", "some"]) (sc := defScope s_subsets) (by decide +kernel)) (fun _ _ _ _ _ => pg_name (i := 3) sc_subsets.nd rfl (Or.inl rfl)) (fun _ _ _ _ _ => pts_nil) (fun _ _ _ _ _ => (pe_op (show OpR _ _ (rCatA K) from op_catA) (pv 3) (pe_tup (pa_cons (pv 2) pa_nil)))))))))
  (pss_one (ps_ret (pv 1))))), ?_⟩
    refine ⟨by show 0 ≤ sizeLine; decide, fun u nu => ⟨by show 1 ≤ sizeLine; decide, fun l nl => ?_⟩⟩
    have su := Same.new (o := HO.tup []) nu
    have sl := Same.new (o := HO.lst [.ref u]) nl
    have t0 : Tups (upd (upd H u (.tup [])) l (.lst [.ref u])) [u] (subs []) := ⟨rfl, fun i r k e1 e2 => by
      cases i with
      | zero =>
        cases e1
        cases e2
        exact sl _ _ upd_same
      | succ i => cases e1⟩
    refine ⟨_, rfl, t, rfl, ⟨_, SqT.of ((su.trans sl) _ _ ht)⟩, for_tup (K := K) (a := t) (xs := ns.map V.str) (fun i σ H' => ∃ (l : Addr) (rs : List Addr) (o : Option V), σ = [some (.ref t), some (.ref l), o, none] ∧ Same H H' ∧ H' l = some (.lst (rs.map V.ref)) ∧ Tups H' rs (subs (ns.take i))) ⟨l, [u], _, rfl, su.trans sl, upd_same, t0⟩ (fun i σ H' _ e => ?_) (fun i x σ H' hi e => ?_) (fun σ H' e => ?_)⟩
    · obtain ⟨l, rs, o, rfl, s1, _⟩ := e
      exact SqT.of (s1 _ _ ht)
    · obtain ⟨l, rs, o, rfl, s1, hl, tu⟩ := e
      rw [List.getElem?_map] at hi
      cases en : ns[i]? with
      | none =>
        rw [en] at hi
        cases hi
      | some n =>
        rw [en] at hi
        cases hi
        have li : i < ns.length := (List.getElem?_eq_some_iff.mp en).1
        have m64 : (subs (ns.take i)).length ≤ 256 := subs_few8 (by rw [List.length_take]; omega)
        have rl := tu.1
        refine ⟨_, rfl, _, rfl, l, rfl, ⟨_, SqL.of hl⟩, fun D nD => ?_⟩
        refine lc_list (K := K) (a := l) (xs := rs.map V.ref) (fun j G => Same H' G ∧ ∃ ss : List Addr, G D = some (.lst (ss.map V.ref)) ∧ Tups G ss (((subs (ns.take i)).take j).map (· ++ [n]))) ⟨Same.new nD, [], upd_same, rfl, fun i r k e1 e2 => by cases e1⟩ (fun j G _ h => SqL.of (h.1 _ _ hl)) (fun j y G hj h => ?_) (fun G h => ?_)
        · obtain ⟨s2, ss, hD, ts⟩ := h
          rw [List.getElem?_map] at hj
          cases er : rs[j]? with
          | none =>
            rw [er] at hj
            cases hj
          | some r =>
            rw [er] at hj
            cases hj
            have lj : j < (subs (ns.take i)).length := by
              rw [← rl]
              exact (List.getElem?_eq_some_iff.mp er).1
            have ek : (subs (ns.take i))[j]? = some (subs (ns.take i))[j] := List.getElem?_eq_getElem lj
            generalize (subs (ns.take i))[j] = key at ek
            have hr1 := s2 _ _ (tu.2 j r key er ek)
            have et : ((subs (ns.take i)).take (j + 1)).map (· ++ [n]) = ((subs (ns.take i)).take j).map (· ++ [n]) ++ [key ++ [n]] := by
              rw [List.take_add_one, ek, List.map_append]
              rfl
            have put : ∀ {G2 : Hp} {p : Addr}, Same G G2 → G2 p = some (.tup ((key ++ [n]).map V.str)) → ∃ acc, G2 D = some (.lst acc) ∧ acc.length < sizeLine ∧ Same H' (upd G2 D (.lst (acc ++ [.ref p]))) ∧ ∃ ss : List Addr, upd G2 D (.lst (acc ++ [.ref p])) D = some (.lst (ss.map V.ref)) ∧ Tups (upd G2 D (.lst (acc ++ [.ref p]))) ss (((subs (ns.take i)).take (j + 1)).map (· ++ [n])) := fun {G2 p} s3 hp => by
              have hD2 := s3 _ _ hD
              refine ⟨_, hD2, small1000 ?_, fun b o e => ?_, ss ++ [p], ?_, ?_⟩
              · rw [List.length_map, ts.1, List.length_map, List.length_take]
                omega
              · rw [upd_ne (ne_of_none e nD)]
                exact (s2.trans s3) _ _ e
              · rw [upd_same, List.map_append]
                rfl
              · rw [et]
                exact ((ts.same s3).snoc hp).atL hD2
            refine ⟨by simp [wipe], ?_⟩
            refine ⟨_, rfl, _, rfl, by show 1 ≤ sizeLine; decide, fun b nb => ?_⟩
            have sb := Same.new (o := HO.tup [.str n]) nb
            have kl : key.length ≤ 8 := by
              have q := (subs_iff.mp (List.mem_of_getElem? ek)).length_le
              rw [List.length_take] at q
              omega
            refine ⟨r, b, key.map V.str, [.str n], rfl, rfl, SqT.of (sb _ _ hr1), SqT.of upd_same, Nat.le_of_lt (small1000 (by rw [List.length_map]; show key.length + 1 ≤ 1000; omega)), fun e => ?_, (fun _ e => by cases e), fun _ _ p np => ?_⟩
            · have e0 : key = [] := List.map_eq_nil_iff.mp e
              subst e0
              exact put sb upd_same
            · refine put (sb.trans (Same.new np)) ?_
              rw [upd_same, List.map_append]
              rfl
        · obtain ⟨s2, ss, hD, ts⟩ := h
          rw [List.length_map, rl, List.take_length] at ts
          refine ⟨l, D, _, _, rfl, rfl, s2 _ _ hl, hD, Nat.le_of_lt (small1000 ?_), fun p np => ?_⟩
          · rw [List.length_map, List.length_map, rl, ts.1, List.length_map]
            omega
          · have sp := Same.new (o := HO.lst (rs.map V.ref ++ ss.map V.ref)) np
            refine ⟨p, rs ++ ss, _, rfl, (s1.trans s2).trans sp, ?_, ?_⟩
            · rw [upd_same, List.map_append]
            · rw [subs_take en]
              exact ((tu.same s2).append ts).same sp
    · obtain ⟨l, rs, o, rfl, s1, hl, tu⟩ := e
      rw [List.length_map, List.take_length] at tu
      exact ⟨_, rfl, k H' l rs s1 hl tu⟩
end
end IC
namespace IC
open PySem L2 TL
theorem wipe_len {σ : L2.St} {gi : Nat} : List.length (wipe σ [gi]) = σ.length := by
  show (σ.set gi none).length = σ.length
  rw [List.length_set]
/-- a comprehension that keeps the tuples of texts for which c holds -/
theorem lc_keep {K : PySem.W.Frag} {tt : TT} {gi : Nat} {σ : L2.St} {H1 : Hp} {D l : Addr} {rs : List Addr} {al : List (List Str)} {Qd : Hp → Prop} (c : List Str → Bool) (hg : gi < σ.length) (hl : H1 l = some (.lst (rs.map V.ref))) (tu : Tups H1 rs al) (few : al.length ≤ 100) (nD : H1 D = none)
    (test : ∀ (r : Addr) (key : List Str) (G : Hp) (Q : Bool → Hp → Prop), key ∈ al → Same H1 G → G r = some (.tup (key.map V.str)) → (∀ G', Same G G' → Q (c key) G') → tt ((σ.set gi none).set gi (some (.ref r))) G Q)
    (fin : ∀ (G : Hp) (ss : List Addr), Same H1 G → G D = some (.lst (ss.map V.ref)) → Tups G ss (al.filter c) → Qd G) :
    ∃ W : Nat → Nat → Hp → Prop, (∃ m, W 0 m (upd H1 D (.lst []))) ∧ ∀ i m H, W i m H →
      ((Itl K l).stop i H ∧ Qd H) ∨ ((Itl K l).go i H ∧ ∃ Nx : Hp → Prop, (∀ H', Nx H' → ∃ m', m' < m ∧ W (i + 1) m' H') ∧ ∀ x H', (Itl K l).yld i H x H' → gName gi x (wipe σ [gi]) H' fun σ2 H2 => wipe σ2 [gi] = wipe σ [gi] ∧ tt σ2 H2 fun b H3 =>
        if b = true then tVar gi σ2 H3 fun y H4 => ∃ acc, H4 D = some (.lst acc) ∧ acc.length < sizeLine ∧ Nx (upd H4 D (.lst (acc ++ [y]))) else Nx H3) := by
  have rl := tu.1
  refine lc_list (K := K) (a := l) (xs := rs.map V.ref) (fun j G => Same H1 G ∧ ∃ ss : List Addr, G D = some (.lst (ss.map V.ref)) ∧ Tups G ss ((al.take j).filter c)) ⟨Same.new nD, [], upd_same, rfl, fun i r k e1 e2 => by cases e1⟩ (fun j G _ h => SqL.of (h.1 _ _ hl)) (fun j y G hj h => ?_) (fun G h => ?_)
  · obtain ⟨s2, ss, hD, ts⟩ := h
    rw [List.getElem?_map] at hj
    cases er : rs[j]? with
    | none =>
      rw [er] at hj
      cases hj
    | some r =>
      rw [er] at hj
      cases hj
      have lj : j < al.length := by
        rw [← rl]
        exact (List.getElem?_eq_some_iff.mp er).1
      have ek : al[j]? = some al[j] := List.getElem?_eq_getElem lj
      generalize al[j] = key at ek
      have hr1 := s2 _ _ (tu.2 j r key er ek)
      have et : (al.take (j + 1)).filter c = (al.take j).filter c ++ [key].filter c := by
        rw [List.take_add_one, ek, List.filter_append]
        rfl
      refine ⟨by simp [wipe], ?_⟩
      refine test r key G _ (List.mem_of_getElem? ek) s2 hr1 fun G2 s3 => ?_
      cases ec : c key with
      | false =>
        refine iteF ⟨s2.trans s3, ss, s3 _ _ hD, ?_⟩
        rw [et]
        simp only [List.filter_cons, ec, List.filter_nil]
        have q := ts.same s3
        simpa using q
      | true =>
        have hD2 := s3 _ _ hD
        refine iteT ⟨.ref r, ?_, _, hD2, small1000 ?_, fun b o e => ?_, ss ++ [r], ?_, ?_⟩
        · exact List.getElem?_set_self (by rw [wipe_len]; exact hg)
        · have q1 := List.length_filter_le c (al.take j)
          have q2 : (al.take j).length ≤ al.length := by rw [List.length_take]; omega
          rw [List.length_map, ts.1]
          omega
        · rw [upd_ne (ne_of_none e nD)]
          exact (s2.trans s3) _ _ e
        · rw [upd_same, List.map_append]
          rfl
        · rw [et]
          simp only [List.filter_cons, ec, List.filter_nil, if_true]
          exact ((ts.same s3).snoc (s3 _ _ hr1)).atL hD2
  · obtain ⟨s2, ss, hD, ts⟩ := h
    rw [List.length_map, rl, List.take_length] at ts
    exact fin G ss s2 hD ts
def spUnited : Sp := fun vs H Q _ => ∃ (a b : Addr) (ns ms : List Str), vs = [.ref a, .ref b] ∧ H a = some (.tup (ns.map V.str)) ∧ H b = some (.tup (ms.map V.str)) ∧ ns.length ≤ 100 ∧ ms.length ≤ 100 ∧
  ∀ (M ys : List Str), M.Nodup → (∀ z, z ∈ M ↔ z ∈ ns ∨ z ∈ ms) → ys.Perm M → PyProof.Rows.sortedS ys = true → ∀ (H' : Hp) (p : Addr), Same H H' → H' p = some (.tup (ys.map V.str)) → Q (.ref p) H'
/-- self._names_with(other) -/
def spWith (C : Addr) : Sp := fun vs H Q _ => ∃ (r s : Addr) (ns ms : List Str) (al bl : List (List Str)) (z y : Str), vs = [.ref r, .ref s] ∧ RuleAt C H r ns al z ∧ RuleAt C H s ms bl y ∧ ns.length ≤ 100 ∧ ms.length ≤ 100 ∧ (∀ M : List Str, M.Nodup → (∀ z ∈ M, z ∈ ns ∨ z ∈ ms) → M.length ≤ 6) ∧
  ∀ (M ys : List Str), M.Nodup → (∀ z, z ∈ M ↔ z ∈ ns ∨ z ∈ ms) → ys.Perm M → PyProof.Rows.sortedS ys = true → ∀ (H' : Hp) (p : Addr), Same H H' → H' p = some (.tup (ys.map V.str)) → Q (.ref p) H'
section
variable {P : Program} {w : World} {K : PySem.W.Frag} {mg : Str → Option Value} {base : Heap} {C : Addr}
theorem ok_united {f : Addr} {fd : FuncData} (F : Fun K "united" "united" s_united f fd) (T : Bn mg) : FnOk P w K mg base CX0 1 f fd ["names", "others"] spUnited := by
  refine F.ok sc_united (fun vs H Q E h => ?_) (fun cdv A outer s H vs Q E hr h => ?_)
  · obtain ⟨a, b, ns, ms, rfl, _⟩ := h
    rfl
  · obtain ⟨a, b, ns, ms, rfl, ha, hb, l1, l2, k⟩ := h
    refine ⟨_, (pss_one (ps_ret (pe_callTy call_tuple_of (by rfl) T.tuple (by decide +kernel) (pa_cons (pe_callB (cr_sortTx rfl) (by rfl) T.sorted (by decide +kernel) (pa_cons (pe_callTy (cr_setTx rfl) (by rfl) T.set (by decide +kernel) (pa_cons (pe_op op_catA (pv 0) (pv 1)) pa_nil)) pa_nil)) pa_nil)))), ?_⟩
    have put : ∀ (G : Hp) (c : Addr), Same H G → G c = some (.tup ((ns ++ ms).map V.str)) → rSetTx K w [.ref c] G (fun x H1 => rSortTx w [x] H1 fun y H2 => ∃ p ys, [y] = [V.ref p] ∧ ((SqL K H2 p ys ∧ ∀ l, H2 l = none → Q (.ref l) (upd H2 l (.tup ys))) ∨ (SqT K H2 p ys ∧ Q (.ref p) H2))) := fun G c s1 hc =>
      ⟨c, ns ++ ms, rfl, .inr (SqT.of hc), by rw [List.length_append]; omega, fun p M np ml mem nd => ⟨p, M, rfl, upd_same, fun ys q perm so nq => ⟨q, _, rfl, .inl ⟨SqL.of upd_same, fun l nl => k M ys nd (fun z => (mem z).trans List.mem_append) perm so _ l (((s1.trans (Same.new np)).trans (Same.new nq)).trans (Same.new nl)) upd_same⟩⟩⟩⟩
    refine ⟨_, rfl, _, rfl, a, b, _, _, rfl, rfl, SqT.of ha, SqT.of hb, Nat.le_of_lt (small1000 (by rw [List.length_map, List.length_map]; omega)), fun e => ?_, fun _ e => ?_, fun _ _ p np => ?_⟩
    · have e0 : ns = [] := List.map_eq_nil_iff.mp e
      subst e0
      exact put H b (Same.refl H) hb
    · have e0 : ms = [] := List.map_eq_nil_iff.mp e
      subst e0
      exact put H a (Same.refl H) (by rw [List.append_nil]; exact ha)
    · exact put _ p (Same.new np) (by rw [upd_same, List.map_append])
theorem ok_with {f : Addr} {fd : FuncData} (F : Fun K "_names_with" "Rule._names_with" s_Rule__names_with f fd) (T : Bn mg) (R : RTxt K mg C) (D_united : Df P w K mg base 1 "united" ["names", "others"] spUnited) (D_check_few : Df P w K mg base 1 "check_few" ["names"] spFew) : FnOk P w K mg base CX0 2 f fd ["self", "other"] (spWith C) := by
  refine F.ok sc_Rule__names_with (fun vs H Q E h => ?_) (fun cdv A outer s H vs Q E hr h => ?_)
  · obtain ⟨r, q, ns, ms, al, bl, z, y, rfl, _⟩ := h
    rfl
  · obtain ⟨r, q, ns, ms, al, bl, z, y, rfl, ⟨dx, t, d, h1, h2, h3⟩, ⟨dy, u, e, g1, g2, g3⟩, l1, l2, few, k⟩ := h
    refine ⟨_, (pss_cons (ps_set (i := 2) sc_Rule__names_with.nd rfl (Or.inl rfl) (pe_df D_united hr (by first | decide | omega) rfl (pa_cons (pe_fld (pv 0) rfl) (pa_cons (pe_fld (pv 1) rfl) pa_nil))))
  (pss_cons (ps_expr (pe_df D_check_few hr (by first | decide | omega) rfl (pa_cons (pv 2) pa_nil)))
  (pss_one (ps_ret (pv 2))))), ?_⟩
    refine ⟨_, rfl, r, C, dx, _, _, rfl, h1, R.c, R.n, rfl, _, rfl, q, C, dy, _, _, rfl, g1, R.c, R.n, rfl, t, u, ns, ms, rfl, h2, g2, l1, l2, fun M ys nd mem perm so H' p s1 hp => ?_⟩
    refine ⟨_, rfl, p, ys, rfl, hp, ?_, ?_⟩
    · rw [perm.length_eq]
      exact few M nd fun z hz => (mem z).mp hz
    · exact ⟨_, rfl, k M ys nd mem perm so H' p s1 hp⟩
end
end IC
namespace IC
open PySem L2 TL
def opT (w z y : Str) : Str := Str.empty ++ Str.ofString "(" ++ z ++ w ++ y ++ Str.ofString ")"
def notT (z : Str) : Str := Str.empty ++ Str.ofString "not " ++ z
/-- an operator of two rules -/
def spOp2 (C : Addr) (c : Bool → Bool → Bool) (w : Str) : Sp := fun vs H Q _ => ∃ (r s : Addr) (ns ms : List Str) (al bl : List (List Str)) (z y : Str), vs = [.ref r, .ref s] ∧ RuleAt C H r ns al z ∧ RuleAt C H s ms bl y ∧ ns.length ≤ 100 ∧ ms.length ≤ 100 ∧ (∀ M : List Str, M.Nodup → (∀ z ∈ M, z ∈ ns ∨ z ∈ ms) → M.length ≤ 6) ∧ z.length ≤ 40000 ∧ y.length ≤ 40000 ∧
  ∀ (M ys : List Str), M.Nodup → (∀ z, z ∈ M ↔ z ∈ ns ∨ z ∈ ms) → ys.Perm M → PyProof.Rows.sortedS ys = true → NewR C H ys ((subs ys).filter fun k => c (may ns al k) (may ms bl k)) (opT w z y) Q
def spNot (C : Addr) : Sp := fun vs H Q _ => ∃ (r : Addr) (ns : List Str) (al : List (List Str)) (z : Str), vs = [.ref r] ∧ RuleAt C H r ns al z ∧ ns.length ≤ 6 ∧ z.length ≤ 40000 ∧ NewR C H ns ((subs ns).filter fun k => !may ns al k) (notT z) Q
theorem big {n : Nat} (h : n ≤ 100000) : n ≤ sizeLine := Nat.le_trans h (by decide)
section
variable {P : Program} {w : World} {K : PySem.W.Frag} {mg : Str → Option Value} {base : Heap} {C : Addr}
theorem ok_and {f : Addr} {fd : FuncData} (F : Fun K "__and__" "Rule.__and__" s_Rule___and__ f fd) (R : RTxt K mg C) (D_subsets : Df P w K mg base 1 "subsets" ["names"] spSubs) (M_allows : MDf P w K mg base CX0 1 C "_allows" ["self", "kept"] [] (spAsk C)) (M_with : MDf P w K mg base CX0 2 C "_names_with" ["self", "other"] [] (spWith C)) (C_R : RDf P w K mg base 1 C) : FnOk P w K mg base CX0 3 f fd ["self", "other"] (spOp2 C (fun a b => a && b) (Str.ofString " and ")) := by
  refine F.ok sc_Rule___and__ (fun vs H Q E h => ?_) (fun cdv A outer s H vs Q E hr h => ?_)
  · obtain ⟨r, q, ns, ms, al, bl, z, y, rfl, _⟩ := h
    rfl
  · obtain ⟨r, q, ns, ms, al, bl, z, y, rfl, ra, rb, l1, l2, few, lz, ly, k⟩ := h
    refine ⟨_, (pss_cons (ps_set (i := 2) sc_Rule___and__.nd rfl (Or.inl rfl) (pe_md M_with R.c hr (by first | decide | omega) (pv 0) (pa_cons (pv 1) pa_nil)))
  (pss_cons (ps_setLc (i := 3) (own := [("some", 4)]) (g := gName 4) rfl sc_Rule___and__.nd rfl rfl rfl (pi_list (pe_df D_subsets hr (by first | decide | omega) rfl (pa_cons (pv 2) pa_nil))) (blkOk_by (N := ["self", "other", "names", "allowed", "some"]) (sc := defScope s_Rule___and__) (by decide +kernel)) (fun _ _ _ _ _ => pg_name (i := 4) sc_Rule___and__.nd rfl (Or.inl rfl)) (fun _ _ _ _ _ => pts_one (PW.pt (pw_and (pt_val (pe_md M_allows R.c hr (by first | decide | omega) (pv 0) (pa_cons (pv 4) pa_nil))) (pw_and1 (pt_val (pe_md M_allows R.c hr (by first | decide | omega) (pv 1) (pa_cons (pv 4) pa_nil))))))) (fun _ _ _ _ _ => (pv 4)))
  (pss_one (ps_ret (pe_mkR C_R hr (by first | decide | omega) rfl (pa_cons (pv 2) (pa_cons (pv 3) (pa_cons (pe_joined (PJ.cons pe_str (PJ.cons (pe_fmt (pe_fld (pv 0) rfl)) (PJ.cons pe_str (PJ.cons (pe_fmt (pe_fld (pv 1) rfl)) (PJ.cons pe_str PJ.nil)))))) pa_nil)))))))), ?_⟩
    have ins : ∀ {G : Hp} {r : Addr} {ns : List Str} {al : List (List Str)} {z : Str}, RuleAt C G r ns al z → ∃ dx fs, G r = some (.ins C dx fs) ∧ fs.lookup (Str.ofString "_names_with") = none ∧ fs.lookup (Str.ofString "_allows") = none ∧ ∃ t d, fs = rlf t d z := fun h => by
      obtain ⟨dx, t, d, h1, _⟩ := h
      exact ⟨dx, _, h1, rfl, rfl, t, d, rfl⟩
    obtain ⟨dx, fs, e1, e2, _⟩ := ins ra
    refine ⟨_, rfl, r, dx, fs, rfl, e1, e2, _, rfl, r, q, ns, ms, al, bl, z, y, rfl, ra, rb, l1, l2, few, fun M ys nd mem perm so H1 t s1 ht => ?_⟩
    have y6 : ys.length ≤ 6 := by
      rw [perm.length_eq]
      exact few M nd fun z hz => (mem z).mp hz
    refine ⟨_, rfl, t, ys, rfl, ht, Nat.le_trans y6 (by decide), fun H2 l rs s2 hl tu => ?_⟩
    refine ⟨l, rfl, ⟨_, SqL.of hl⟩, fun D nD => ?_⟩
    have sH : Same H H2 := s1.trans s2
    refine lc_keep (K := K) (gi := 4) (fun k => (fun a b => a && b) (may ns al k) (may ms bl k)) (by show 4 < 5; decide) hl tu (Nat.le_trans (subs_few y6) (by decide)) nD (fun x key G Q2 hin s3 hx cont => ?_) (fun G ss s3 hD ts => ?_)
    · have ra3 := ra.same (sH.trans s3)
      have rb3 := rb.same (sH.trans s3)
      obtain ⟨da, fa, a1, _, a2, _⟩ := ins ra3
      obtain ⟨db, fb, b1, _, b2, _⟩ := ins rb3
      refine ⟨_, rfl, r, da, fa, rfl, a1, a2, _, rfl, r, x, ns, key, al, z, rfl, ra3, .inr hx, l1, fun G2 s4 => ⟨_, rfl, ?_⟩⟩
      cases ea : may ns al key with
      | false =>
        refine iteF ?_
        have u := cont G2 s4
        simpa [ea] using u
      | true =>
        refine iteT ⟨_, rfl, q, db, fb, rfl, s4 _ _ b1, b2, _, rfl, q, x, ms, key, bl, y, rfl, rb3.same s4, .inr (s4 _ _ hx), l2, fun G3 s5 => ⟨_, rfl, ?_⟩⟩
        have u := cont G3 (s4.trans s5)
        simpa [ea] using u
    · have ra3 := ra.same (sH.trans s3)
      have rb3 := rb.same (sH.trans s3)
      obtain ⟨da, fa, a1, _, _, ta, ea, rfl⟩ := ins ra3
      obtain ⟨db, fb, b1, _, _, tb, eb, rfl⟩ := ins rb3
      have c1 : (Str.empty ++ Str.ofString "(").length = 1 := by decide +kernel
      have c2 : (Str.ofString " and ").length = 5 := by decide +kernel
      have c3 : (Str.ofString ")").length = 1 := by decide +kernel
      refine ⟨_, rfl, _, rfl, _, rfl, by decide +kernel, _, rfl, r, C, da, _, _, rfl, a1, R.c, R.t, rfl, .inl ⟨z, rfl, big (by omega), z, rfl, big (by rw [len_app, c1]; omega), _, rfl, big (by rw [len_app, len_app, c1, c2]; omega), _, rfl, q, C, db, _, _, rfl, b1, R.c, R.t, rfl, .inl ⟨y, rfl, big (by omega), y, rfl, big (by rw [len_app, len_app, len_app, c1, c2]; omega), _, rfl, big (by rw [len_app, len_app, len_app, len_app, c1, c2, c3]; omega), ?_⟩⟩⟩
      have fl := List.length_filter_le (fun k => (fun a b => a && b) (may ns al k) (may ms bl k)) (subs ys)
      exact make_rule ((s2.trans s3) _ _ ht) hD ts (Nat.le_trans fl (Nat.le_trans (subs_few y6) (by decide))) ((k M ys nd mem perm so).same (sH.trans s3))
theorem ok_or {f : Addr} {fd : FuncData} (F : Fun K "__or__" "Rule.__or__" s_Rule___or__ f fd) (R : RTxt K mg C) (D_subsets : Df P w K mg base 1 "subsets" ["names"] spSubs) (M_allows : MDf P w K mg base CX0 1 C "_allows" ["self", "kept"] [] (spAsk C)) (M_with : MDf P w K mg base CX0 2 C "_names_with" ["self", "other"] [] (spWith C)) (C_R : RDf P w K mg base 1 C) : FnOk P w K mg base CX0 3 f fd ["self", "other"] (spOp2 C (fun a b => a || b) (Str.ofString " or ")) := by
  refine F.ok sc_Rule___or__ (fun vs H Q E h => ?_) (fun cdv A outer s H vs Q E hr h => ?_)
  · obtain ⟨r, q, ns, ms, al, bl, z, y, rfl, _⟩ := h
    rfl
  · obtain ⟨r, q, ns, ms, al, bl, z, y, rfl, ra, rb, l1, l2, few, lz, ly, k⟩ := h
    refine ⟨_, (pss_cons (ps_set (i := 2) sc_Rule___or__.nd rfl (Or.inl rfl) (pe_md M_with R.c hr (by first | decide | omega) (pv 0) (pa_cons (pv 1) pa_nil)))
  (pss_cons (ps_setLc (i := 3) (own := [("some", 4)]) (g := gName 4) rfl sc_Rule___or__.nd rfl rfl rfl (pi_list (pe_df D_subsets hr (by first | decide | omega) rfl (pa_cons (pv 2) pa_nil))) (blkOk_by (N := ["self", "other", "names", "allowed", "some"]) (sc := defScope s_Rule___or__) (by decide +kernel)) (fun _ _ _ _ _ => pg_name (i := 4) sc_Rule___or__.nd rfl (Or.inl rfl)) (fun _ _ _ _ _ => pts_one (PW.pt (pw_or (pt_val (pe_md M_allows R.c hr (by first | decide | omega) (pv 0) (pa_cons (pv 4) pa_nil))) (pw_or1 (pt_val (pe_md M_allows R.c hr (by first | decide | omega) (pv 1) (pa_cons (pv 4) pa_nil))))))) (fun _ _ _ _ _ => (pv 4)))
  (pss_one (ps_ret (pe_mkR C_R hr (by first | decide | omega) rfl (pa_cons (pv 2) (pa_cons (pv 3) (pa_cons (pe_joined (PJ.cons pe_str (PJ.cons (pe_fmt (pe_fld (pv 0) rfl)) (PJ.cons pe_str (PJ.cons (pe_fmt (pe_fld (pv 1) rfl)) (PJ.cons pe_str PJ.nil)))))) pa_nil)))))))), ?_⟩
    have ins : ∀ {G : Hp} {r : Addr} {ns : List Str} {al : List (List Str)} {z : Str}, RuleAt C G r ns al z → ∃ dx fs, G r = some (.ins C dx fs) ∧ fs.lookup (Str.ofString "_names_with") = none ∧ fs.lookup (Str.ofString "_allows") = none ∧ ∃ t d, fs = rlf t d z := fun h => by
      obtain ⟨dx, t, d, h1, _⟩ := h
      exact ⟨dx, _, h1, rfl, rfl, t, d, rfl⟩
    obtain ⟨dx, fs, e1, e2, _⟩ := ins ra
    refine ⟨_, rfl, r, dx, fs, rfl, e1, e2, _, rfl, r, q, ns, ms, al, bl, z, y, rfl, ra, rb, l1, l2, few, fun M ys nd mem perm so H1 t s1 ht => ?_⟩
    have y6 : ys.length ≤ 6 := by
      rw [perm.length_eq]
      exact few M nd fun z hz => (mem z).mp hz
    refine ⟨_, rfl, t, ys, rfl, ht, Nat.le_trans y6 (by decide), fun H2 l rs s2 hl tu => ?_⟩
    refine ⟨l, rfl, ⟨_, SqL.of hl⟩, fun D nD => ?_⟩
    have sH : Same H H2 := s1.trans s2
    refine lc_keep (K := K) (gi := 4) (fun k => (fun a b => a || b) (may ns al k) (may ms bl k)) (by show 4 < 5; decide) hl tu (Nat.le_trans (subs_few y6) (by decide)) nD (fun x key G Q2 hin s3 hx cont => ?_) (fun G ss s3 hD ts => ?_)
    · have ra3 := ra.same (sH.trans s3)
      have rb3 := rb.same (sH.trans s3)
      obtain ⟨da, fa, a1, _, a2, _⟩ := ins ra3
      obtain ⟨db, fb, b1, _, b2, _⟩ := ins rb3
      refine ⟨_, rfl, r, da, fa, rfl, a1, a2, _, rfl, r, x, ns, key, al, z, rfl, ra3, .inr hx, l1, fun G2 s4 => ⟨_, rfl, ?_⟩⟩
      cases ea : may ns al key with
      | true =>
        refine iteT ?_
        have u := cont G2 s4
        simpa [ea] using u
      | false =>
        refine iteF ⟨_, rfl, q, db, fb, rfl, s4 _ _ b1, b2, _, rfl, q, x, ms, key, bl, y, rfl, rb3.same s4, .inr (s4 _ _ hx), l2, fun G3 s5 => ⟨_, rfl, ?_⟩⟩
        have u := cont G3 (s4.trans s5)
        simpa [ea] using u
    · have ra3 := ra.same (sH.trans s3)
      have rb3 := rb.same (sH.trans s3)
      obtain ⟨da, fa, a1, _, _, ta, ea, rfl⟩ := ins ra3
      obtain ⟨db, fb, b1, _, _, tb, eb, rfl⟩ := ins rb3
      have c1 : (Str.empty ++ Str.ofString "(").length = 1 := by decide +kernel
      have c2 : (Str.ofString " or ").length = 4 := by decide +kernel
      have c3 : (Str.ofString ")").length = 1 := by decide +kernel
      refine ⟨_, rfl, _, rfl, _, rfl, by decide +kernel, _, rfl, r, C, da, _, _, rfl, a1, R.c, R.t, rfl, .inl ⟨z, rfl, big (by omega), z, rfl, big (by rw [len_app, c1]; omega), _, rfl, big (by rw [len_app, len_app, c1, c2]; omega), _, rfl, q, C, db, _, _, rfl, b1, R.c, R.t, rfl, .inl ⟨y, rfl, big (by omega), y, rfl, big (by rw [len_app, len_app, len_app, c1, c2]; omega), _, rfl, big (by rw [len_app, len_app, len_app, len_app, c1, c2, c3]; omega), ?_⟩⟩⟩
      have fl := List.length_filter_le (fun k => (fun a b => a || b) (may ns al k) (may ms bl k)) (subs ys)
      exact make_rule ((s2.trans s3) _ _ ht) hD ts (Nat.le_trans fl (Nat.le_trans (subs_few y6) (by decide))) ((k M ys nd mem perm so).same (sH.trans s3))
theorem ok_needs {f : Addr} {fd : FuncData} (F : Fun K "__rshift__" "Rule.__rshift__" s_Rule___rshift__ f fd) (R : RTxt K mg C) (D_subsets : Df P w K mg base 1 "subsets" ["names"] spSubs) (M_allows : MDf P w K mg base CX0 1 C "_allows" ["self", "kept"] [] (spAsk C)) (M_with : MDf P w K mg base CX0 2 C "_names_with" ["self", "other"] [] (spWith C)) (C_R : RDf P w K mg base 1 C) : FnOk P w K mg base CX0 3 f fd ["self", "other"] (spOp2 C (fun a b => b || !a) (Str.ofString " needs ")) := by
  refine F.ok sc_Rule___rshift__ (fun vs H Q E h => ?_) (fun cdv A outer s H vs Q E hr h => ?_)
  · obtain ⟨r, q, ns, ms, al, bl, z, y, rfl, _⟩ := h
    rfl
  · obtain ⟨r, q, ns, ms, al, bl, z, y, rfl, ra, rb, l1, l2, few, lz, ly, k⟩ := h
    refine ⟨_, (pss_cons (ps_set (i := 2) sc_Rule___rshift__.nd rfl (Or.inl rfl) (pe_md M_with R.c hr (by first | decide | omega) (pv 0) (pa_cons (pv 1) pa_nil)))
  (pss_cons (ps_setLc (i := 3) (own := [("some", 4)]) (g := gName 4) rfl sc_Rule___rshift__.nd rfl rfl rfl (pi_list (pe_df D_subsets hr (by first | decide | omega) rfl (pa_cons (pv 2) pa_nil))) (blkOk_by (N := ["self", "other", "names", "allowed", "some"]) (sc := defScope s_Rule___rshift__) (by decide +kernel)) (fun _ _ _ _ _ => pg_name (i := 4) sc_Rule___rshift__.nd rfl (Or.inl rfl)) (fun _ _ _ _ _ => pts_one (PW.pt (pw_or (pt_val (pe_md M_allows R.c hr (by first | decide | omega) (pv 1) (pa_cons (pv 4) pa_nil))) (pw_or1 (pt_not (pt_val (pe_md M_allows R.c hr (by first | decide | omega) (pv 0) (pa_cons (pv 4) pa_nil)))))))) (fun _ _ _ _ _ => (pv 4)))
  (pss_one (ps_ret (pe_mkR C_R hr (by first | decide | omega) rfl (pa_cons (pv 2) (pa_cons (pv 3) (pa_cons (pe_joined (PJ.cons pe_str (PJ.cons (pe_fmt (pe_fld (pv 0) rfl)) (PJ.cons pe_str (PJ.cons (pe_fmt (pe_fld (pv 1) rfl)) (PJ.cons pe_str PJ.nil)))))) pa_nil)))))))), ?_⟩
    have ins : ∀ {G : Hp} {r : Addr} {ns : List Str} {al : List (List Str)} {z : Str}, RuleAt C G r ns al z → ∃ dx fs, G r = some (.ins C dx fs) ∧ fs.lookup (Str.ofString "_names_with") = none ∧ fs.lookup (Str.ofString "_allows") = none ∧ ∃ t d, fs = rlf t d z := fun h => by
      obtain ⟨dx, t, d, h1, _⟩ := h
      exact ⟨dx, _, h1, rfl, rfl, t, d, rfl⟩
    obtain ⟨dx, fs, e1, e2, _⟩ := ins ra
    refine ⟨_, rfl, r, dx, fs, rfl, e1, e2, _, rfl, r, q, ns, ms, al, bl, z, y, rfl, ra, rb, l1, l2, few, fun M ys nd mem perm so H1 t s1 ht => ?_⟩
    have y6 : ys.length ≤ 6 := by
      rw [perm.length_eq]
      exact few M nd fun z hz => (mem z).mp hz
    refine ⟨_, rfl, t, ys, rfl, ht, Nat.le_trans y6 (by decide), fun H2 l rs s2 hl tu => ?_⟩
    refine ⟨l, rfl, ⟨_, SqL.of hl⟩, fun D nD => ?_⟩
    have sH : Same H H2 := s1.trans s2
    refine lc_keep (K := K) (gi := 4) (fun k => (fun a b => b || !a) (may ns al k) (may ms bl k)) (by show 4 < 5; decide) hl tu (Nat.le_trans (subs_few y6) (by decide)) nD (fun x key G Q2 hin s3 hx cont => ?_) (fun G ss s3 hD ts => ?_)
    · have ra3 := ra.same (sH.trans s3)
      have rb3 := rb.same (sH.trans s3)
      obtain ⟨da, fa, a1, _, a2, _⟩ := ins ra3
      obtain ⟨db, fb, b1, _, b2, _⟩ := ins rb3
      refine ⟨_, rfl, q, db, fb, rfl, b1, b2, _, rfl, q, x, ms, key, bl, y, rfl, rb3, .inr hx, l2, fun G2 s4 => ⟨_, rfl, ?_⟩⟩
      cases ea : may ms bl key with
      | true =>
        refine iteT ?_
        have u := cont G2 s4
        simpa [ea] using u
      | false =>
        refine iteF ⟨_, rfl, r, da, fa, rfl, s4 _ _ a1, a2, _, rfl, r, x, ns, key, al, z, rfl, ra3.same s4, .inr (s4 _ _ hx), l1, fun G3 s5 => ⟨_, rfl, ?_⟩⟩
        have u := cont G3 (s4.trans s5)
        simpa [ea] using u
    · have ra3 := ra.same (sH.trans s3)
      have rb3 := rb.same (sH.trans s3)
      obtain ⟨da, fa, a1, _, _, ta, ea, rfl⟩ := ins ra3
      obtain ⟨db, fb, b1, _, _, tb, eb, rfl⟩ := ins rb3
      have c1 : (Str.empty ++ Str.ofString "(").length = 1 := by decide +kernel
      have c2 : (Str.ofString " needs ").length = 7 := by decide +kernel
      have c3 : (Str.ofString ")").length = 1 := by decide +kernel
      refine ⟨_, rfl, _, rfl, _, rfl, by decide +kernel, _, rfl, r, C, da, _, _, rfl, a1, R.c, R.t, rfl, .inl ⟨z, rfl, big (by omega), z, rfl, big (by rw [len_app, c1]; omega), _, rfl, big (by rw [len_app, len_app, c1, c2]; omega), _, rfl, q, C, db, _, _, rfl, b1, R.c, R.t, rfl, .inl ⟨y, rfl, big (by omega), y, rfl, big (by rw [len_app, len_app, len_app, c1, c2]; omega), _, rfl, big (by rw [len_app, len_app, len_app, len_app, c1, c2, c3]; omega), ?_⟩⟩⟩
      have fl := List.length_filter_le (fun k => (fun a b => b || !a) (may ns al k) (may ms bl k)) (subs ys)
      exact make_rule ((s2.trans s3) _ _ ht) hD ts (Nat.le_trans fl (Nat.le_trans (subs_few y6) (by decide))) ((k M ys nd mem perm so).same (sH.trans s3))
theorem ok_invert {f : Addr} {fd : FuncData} (F : Fun K "__invert__" "Rule.__invert__" s_Rule___invert__ f fd) (R : RTxt K mg C) (D_subsets : Df P w K mg base 1 "subsets" ["names"] spSubs) (M_allows : MDf P w K mg base CX0 1 C "_allows" ["self", "kept"] [] (spAsk C)) (C_R : RDf P w K mg base 1 C) : FnOk P w K mg base CX0 3 f fd ["self"] (spNot C) := by
  refine F.ok sc_Rule___invert__ (fun vs H Q E h => ?_) (fun cdv A outer s H vs Q E hr h => ?_)
  · obtain ⟨r, ns, al, z, rfl, _⟩ := h
    rfl
  · obtain ⟨r, ns, al, z, rfl, ra, n6, lz, k⟩ := h
    refine ⟨_, (pss_cons (ps_setLc (i := 1) (own := [("some", 2)]) (g := gName 2) rfl sc_Rule___invert__.nd rfl rfl rfl (pi_list (pe_df D_subsets hr (by first | decide | omega) rfl (pa_cons (pe_fld (pv 0) rfl) pa_nil))) (blkOk_by (N := ["self", "allowed", "some"]) (sc := defScope s_Rule___invert__) (by decide +kernel)) (fun _ _ _ _ _ => pg_name (i := 2) sc_Rule___invert__.nd rfl (Or.inl rfl)) (fun _ _ _ _ _ => pts_one (pt_not (pt_val (pe_md M_allows R.c hr (by first | decide | omega) (pv 0) (pa_cons (pv 2) pa_nil))))) (fun _ _ _ _ _ => (pv 2)))
  (pss_one (ps_ret (pe_mkR C_R hr (by first | decide | omega) rfl (pa_cons (pe_fld (pv 0) rfl) (pa_cons (pv 1) (pa_cons (pe_joined (PJ.cons pe_str (PJ.cons (pe_fmt (pe_fld (pv 0) rfl)) PJ.nil))) pa_nil))))))), ?_⟩
    obtain ⟨dx, t, d, h1, h2, h3⟩ := ra
    refine ⟨_, rfl, r, C, dx, _, _, rfl, h1, R.c, R.n, rfl, t, ns, rfl, h2, Nat.le_trans n6 (by decide), fun H2 l rs s2 hl tu => ?_⟩
    refine ⟨l, rfl, ⟨_, SqL.of hl⟩, fun D nD => ?_⟩
    refine lc_keep (K := K) (gi := 2) (fun k => !may ns al k) (by show 2 < 3; decide) hl tu (Nat.le_trans (subs_few n6) (by decide)) nD (fun x key G Q2 hin s3 hx cont => ?_) (fun G ss s3 hD ts => ?_)
    · have sG := s2.trans s3
      exact ⟨_, rfl, r, dx, _, rfl, sG _ _ h1, rfl, _, rfl, r, x, ns, key, al, z, rfl, ⟨dx, t, d, sG _ _ h1, sG _ _ h2, sG _ _ h3⟩, .inr hx, by omega, fun G2 s4 => ⟨_, rfl, cont G2 s4⟩⟩
    · have sG := s2.trans s3
      have c1 : (Str.empty ++ Str.ofString "not ").length = 4 := by decide +kernel
      refine ⟨_, rfl, r, C, dx, _, _, rfl, sG _ _ h1, R.c, R.n, rfl, _, rfl, _, rfl, by decide +kernel, _, rfl, r, C, dx, _, _, rfl, sG _ _ h1, R.c, R.t, rfl, .inl ⟨z, rfl, big (by omega), z, rfl, big (by rw [len_app, c1]; omega), ?_⟩⟩
      have fl := List.length_filter_le (fun k => !may ns al k) (subs ns)
      exact make_rule (sG _ _ h2) hD ts (Nat.le_trans fl (Nat.le_trans (subs_few n6) (by decide))) (k.same sG)
end
end IC
namespace IC
open PySem L2 TL
/-! ### what a rule was built of -/
inductive Nd where
  | has (z : Str)
  | tog (zs : List Str)
  | alw
  | no (a : Nd)
  | two (k : Fin 3) (a b : Nd)
def opW : Fin 3 → Str
  | 0 => Str.ofString "and"
  | 1 => Str.ofString "or"
  | 2 => Str.ofString "needs"
def opS : Fin 3 → Str
  | 0 => Str.ofString " and "
  | 1 => Str.ofString " or "
  | 2 => Str.ofString " needs "
def opB : Fin 3 → Bool → Bool → Bool
  | 0 => fun a b => a && b
  | 1 => fun a b => a || b
  | 2 => fun a b => b || !a
def Nd.sat (ks : List Str) : Nd → Bool
  | .has z => decide (z ∈ ks)
  | .tog zs => decide (zs.filter (fun n => decide (n ∈ ks)) = []) || decide (zs.filter (fun n => decide (n ∈ ks)) = zs)
  | .alw => true
  | .no a => !a.sat ks
  | .two k a b => opB k (a.sat ks) (b.sat ks)
def Nd.hgt : Nd → Nat
  | .has _ => 0
  | .tog _ => 0
  | .alw => 0
  | .no a => a.hgt + 1
  | .two _ a b => max a.hgt b.hgt + 1
/-- the words of it -/
def Nd.wds (recs : List Str) : Nd → Prop
  | .has z => z ∈ recs
  | .tog zs => (∀ z ∈ zs, z ∈ recs) ∧ zs.length ≤ 3
  | .alw => True
  | .no a => a.wds recs
  | .two _ a b => a.wds recs ∧ b.wds recs
/-- the words of it, as they are mentioned -/
def Nd.recs : Nd → List Str
  | .has z => [z]
  | .tog zs => zs
  | .alw => []
  | .no a => a.recs
  | .two _ a b => a.recs ++ b.recs
def Nd.txt : Nd → Str → Prop
  | .has z, t => t = z
  | .tog zs, t => ∃ M ys : List Str, M.Nodup ∧ (∀ z, z ∈ M ↔ z ∈ zs) ∧ ys.Perm M ∧ PyProof.Rows.sortedS ys = true ∧ t = togT ys
  | .alw, t => t = Str.ofString "always()"
  | .no a, t => ∃ s, a.txt s ∧ t = notT s
  | .two k a b, t => ∃ s u, a.txt s ∧ b.txt u ∧ t = opT (opS k) s u
theorem Nd.txt_one : ∀ (n : Nd) {s t : Str}, n.txt s → n.txt t → s = t
  | .has _, _, _, h1, h2 => h1.trans h2.symm
  | .alw, _, _, h1, h2 => h1.trans h2.symm
  | .tog zs, _, _, ⟨M, ys, a1, a2, a3, a4, a5⟩, ⟨N, xs, b1, b2, b3, b4, b5⟩ => by
    have e : ys = xs := sorted_one (a3.trans ((perm_mem a1 b1 fun z => (a2 z).trans (b2 z).symm).trans b3.symm)) a4 b4
    rw [a5, b5, e]
  | .no a, _, _, ⟨s, a1, a2⟩, ⟨u, b1, b2⟩ => by rw [a2, b2, Nd.txt_one a a1 b1]
  | .two k a b, _, _, ⟨s, u, a1, a2, a3⟩, ⟨s', u', b1, b2, b3⟩ => by rw [a3, b3, Nd.txt_one a a1 b1, Nd.txt_one b a2 b2]
/-- the node v in the heap -/
def Nd.at_ (H : Hp) : Nd → V → Prop
  | .has z, v => ∃ p : Addr, v = .ref p ∧ H p = some (.tup [.str (Str.ofString "has"), .str z])
  | .tog zs, v => ∃ p l : Addr, v = .ref p ∧ H p = some (.tup [.str (Str.ofString "together"), .ref l]) ∧ H l = some (.lst (zs.map V.str))
  | .alw, v => ∃ p : Addr, v = .ref p ∧ H p = some (.tup [.str (Str.ofString "always")])
  | .no a, v => ∃ (p : Addr) (x : V), v = .ref p ∧ H p = some (.tup [.str (Str.ofString "not"), x]) ∧ a.at_ H x
  | .two k a b, v => ∃ (p : Addr) (x y : V), v = .ref p ∧ H p = some (.tup [.str (opW k), x, y]) ∧ a.at_ H x ∧ b.at_ H y
theorem Nd.keep {H H' : Hp} {q : Addr} {a b c : Int} (hq : H q = some (.lst (pl a b c))) (k : Kp [q] H H') : ∀ (n : Nd) {v : V}, n.at_ H v → n.at_ H' v := by
  have kt : ∀ {p : Addr} {xs : List V}, H p = some (.tup xs) → H' p = some (.tup xs) := fun {p xs} h => k _ _ h fun e => by
    rw [List.mem_singleton.mp e, hq] at h
    cases h
  intro n
  induction n with
  | has z =>
    rintro v ⟨p, e, h⟩
    exact ⟨p, e, kt h⟩
  | tog zs =>
    rintro v ⟨p, l, e, h, h2⟩
    refine ⟨p, l, e, kt h, k _ _ h2 fun e => ?_⟩
    rw [List.mem_singleton.mp e, hq] at h2
    cases zs with
    | nil => cases h2
    | cons z zs => cases h2
  | alw =>
    rintro v ⟨p, e, h⟩
    exact ⟨p, e, kt h⟩
  | no a ih =>
    rintro v ⟨p, x, e, h, h2⟩
    exact ⟨p, x, e, kt h, ih h2⟩
  | two o a b iha ihb =>
    rintro v ⟨p, x, y, e, h, h2, h3⟩
    exact ⟨p, x, y, e, kt h, iha h2, ihb h3⟩
theorem Nd.same {H H' : Hp} (s : Same H H') : ∀ (n : Nd) {v : V}, n.at_ H v → n.at_ H' v := by
  intro n
  induction n with
  | has z =>
    rintro v ⟨p, e, h⟩
    exact ⟨p, e, s _ _ h⟩
  | tog zs =>
    rintro v ⟨p, l, e, h, h2⟩
    exact ⟨p, l, e, s _ _ h, s _ _ h2⟩
  | alw =>
    rintro v ⟨p, e, h⟩
    exact ⟨p, e, s _ _ h⟩
  | no a ih =>
    rintro v ⟨p, x, e, h, h2⟩
    exact ⟨p, x, e, s _ _ h, ih h2⟩
  | two o a b iha ihb =>
    rintro v ⟨p, x, y, e, h, h2, h3⟩
    exact ⟨p, x, y, e, s _ _ h, iha h2, ihb h3⟩
theorem nodup_len : ∀ (L M : List Str), M.Nodup → (∀ z ∈ M, z ∈ L) → M.length ≤ L.length
  | [], M, _, h => by
    cases M with
    | nil => exact Nat.le_refl _
    | cons x M => exact absurd (h x (List.mem_cons_self ..)) (by simp)
  | x :: L, M, nd, h => by
    have q := nodup_len L (M.filter fun z => decide (z ≠ x)) (nd.sublist List.filter_sublist) fun z hz => by
      have hz := List.mem_filter.mp hz
      rcases List.mem_cons.mp (h z hz.1) with e | e
      · exact absurd e (of_decide_eq_true hz.2)
      · exact e
    have one : ∀ M : List Str, M.Nodup → M.length ≤ (M.filter fun z => decide (z ≠ x)).length + 1 := by
      intro M
      induction M with
      | nil => intro _; exact Nat.zero_le _
      | cons y M ih =>
        intro nd
        rw [List.nodup_cons] at nd
        by_cases e : y = x
        · subst e
          have all : M.filter (fun z => decide (z ≠ y)) = M := by
            rw [List.filter_eq_self]
            intro z hz
            exact decide_eq_true fun e => nd.1 (e ▸ hz)
          rw [List.filter_cons, all, List.length_cons]
          by_cases u : decide (y ≠ y) = true
          · rw [if_pos u, List.length_cons]
            omega
          · rw [if_neg u]
            omega
        · have := ih nd.2
          rw [List.filter_cons, if_pos (decide_eq_true e), List.length_cons, List.length_cons]
          omega
    have z := one M nd
    rw [List.length_cons]
    omega
theorem may_part {ns ys ks : List Str} {al : List (List Str)} (h : ∀ z ∈ ns, z ∈ ys) : may ns al (ys.filter fun n => decide (n ∈ ks)) = may ns al ks := by
  unfold may
  have e : ns.filter (fun n => decide (n ∈ ys.filter fun n => decide (n ∈ ks))) = ns.filter fun n => decide (n ∈ ks) := by
    refine List.filter_congr fun z hz => ?_
    rw [decide_eq_decide, List.mem_filter, decide_eq_true_iff]
    exact ⟨fun q => q.2, fun q => ⟨h z hz, q⟩⟩
  rw [e]
theorem may_of {ys ks : List Str} (c : List Str → Bool) : may ys ((subs ys).filter c) ks = c (ys.filter fun n => decide (n ∈ ks)) := by
  unfold may
  rw [Bool.eq_iff_iff, decide_eq_true_iff, List.mem_filter, subs_iff]
  exact ⟨fun q => q.2, fun q => ⟨List.filter_sublist, q⟩⟩
end IC
namespace IC
open PySem L2 TL
def spStr (C : Addr) : Sp := fun vs H Q _ => ∃ (r : Addr) (ns : List Str) (al : List (List Str)) (z : Str), vs = [.ref r] ∧ RuleAt C H r ns al z ∧ Q (.str z) H
theorem cr_strS {X : Cx} : CallR X (.type "str") (fun vs H Q => ∃ z : Str, vs = [.str z] ∧ Q (.str z) H) := by
  rintro pins s σ H vs us Q I rel ⟨z, rfl, q⟩
  rcases vals1 rel with ⟨u, rfl, tk, rfl⟩
  exact PySem.P.str_of_str ⟨.str z, H, I, ⟨tk, rfl⟩, q⟩
section
variable {P : Program} {w : World} {K : PySem.W.Frag} {mg : Str → Option Value} {base : Heap} {C : Addr}
theorem ok_str {f : Addr} {fd : FuncData} (F : Fun K "__str__" "Rule.__str__" s_Rule___str__ f fd) (T : Bn mg) (R : RTxt K mg C) : FnOk P w K mg base CX0 1 f fd ["self"] (spStr C) := by
  refine F.ok sc_Rule___str__ (fun vs H Q E h => ?_) (fun cdv A outer s H vs Q E hr h => ?_)
  · obtain ⟨r, ns, al, z, rfl, _⟩ := h
    rfl
  · obtain ⟨r, ns, al, z, rfl, ⟨dx, t, d, h1, h2, h3⟩, k⟩ := h
    refine ⟨_, (pss_one (ps_ret (pe_callTy cr_strS (by rfl) T.str (by decide +kernel) (pa_cons (pe_fld (pv 0) rfl) pa_nil)))), ?_⟩
    exact ⟨_, rfl, r, C, dx, _, _, rfl, h1, R.c, R.t, rfl, z, rfl, k⟩
end
end IC
namespace IC
open PySem L2 TL
def rLenK (K : PySem.W.Frag) : List V → Hp → VK → Prop := fun xs H Q => ∃ p ys, xs = [V.ref p] ∧ (SqL K H p ys ∨ SqT K H p ys) ∧ Q (V.int ys.length) H
/-- a comprehension over range(n) whose elements are texts that come from the pool -/
theorem lc_strs {te : TE} {gi : Nat} {σ : L2.St} {H1 : Hp} {D p : Addr} {Qd : Hp → Prop} (Ok : Str → Prop) (n : Nat) (m : Int) (hn : n ≤ 1000) (hp : PoolAt H1 p m) (hD : H1 D = none)
    (hte : ∀ (x : V) (m' : Int) (H : Hp) (Q : VK), PoolAt H p m' → m' ≤ m + 9 * n → Kp [p] H1 H → (∀ z H', Ok z → PoolAt H' p (m' + 9) → Kp [p] H H' → Q (.str z) H') → te ((σ.set gi none).set gi (some x)) H Q)
    (hd : ∀ (zs : List Str) (H' : Hp), zs.length = n → (∀ z ∈ zs, Ok z) → H' D = some (.lst (zs.map V.str)) → PoolAt H' p (m + 9 * n) → Kp [p] H1 H' → Qd H') :
    ∃ W : Nat → Nat → Hp → Prop, (∃ m, W 0 m (upd H1 D (.lst []))) ∧ ∀ i m H, W i m H →
      ((Itr 0 n).stop i H ∧ Qd H) ∨ ((Itr 0 n).go i H ∧ ∃ Nx : Hp → Prop, (∀ H', Nx H' → ∃ m', m' < m ∧ W (i + 1) m' H') ∧ ∀ x H', (Itr 0 n).yld i H x H' → gName gi x (wipe σ [gi]) H' fun σ2 H2 => wipe σ2 [gi] = wipe σ [gi] ∧ tYes σ2 H2 fun b H3 =>
        if b = true then te σ2 H3 fun y H4 => ∃ acc, H4 D = some (.lst acc) ∧ acc.length < sizeLine ∧ Nx (upd H4 D (.lst (acc ++ [y]))) else Nx H3) := by
  have hpD : p ≠ D := by
    obtain ⟨a, b, c, e, _⟩ := hp
    exact ne_of_none e hD
  have Dp : D ∉ [p] := fun h => hpD (List.mem_singleton.mp h).symm
  refine lc_range (lo := 0) (n := n) (fun i H' => ∃ zs : List Str, zs.length = i ∧ (∀ z ∈ zs, Ok z) ∧ H' D = some (.lst (zs.map V.str)) ∧ PoolAt H' p (m + 9 * i) ∧ Kp [p] H1 H')
    ⟨[], rfl, by simp, upd_same, (hp.mv fun u e => by rw [upd_ne hpD]; exact e).up (by omega), Kp.new hD⟩ ?_ ?_
  · rintro i H' hi ⟨zs, hl, hz, hzD, hp2, kp⟩
    refine ⟨by simp [wipe], ?_⟩
    refine hte _ (m + 9 * i) H' _ hp2 (by omega) kp fun z H2 hOk hp3 k2 => ?_
    refine ⟨_, k2 _ _ hzD Dp, small1000 (by rw [List.length_map]; omega), zs ++ [z], by simp [hl], ?_, ?_, ?_, ((kp.trans k2).mut hD)⟩
    · intro x hx
      rcases List.mem_append.mp hx with hx | hx
      · exact hz x hx
      · rw [List.mem_singleton.mp hx]; exact hOk
    · rw [upd_same, List.map_append]
      rfl
    · exact (hp3.mv fun u q => by rw [upd_ne hpD]; exact q).up (by omega)
  · rintro H' ⟨zs, hl, hz, hzD, hp2, kp⟩
    exact hd zs H' hl hz hzD hp2 kp
theorem at_strs {ws : List Str} {d : Int} (h0 : 0 ≤ d) (h1 : d < ws.length) : ∃ z ∈ ws, atI (ws.map V.str) d = some (.str z) := by
  have lt : d.toNat < ws.length := by omega
  refine ⟨ws[d.toNat], List.getElem_mem lt, ?_⟩
  have z := atI_nat (xs := ws.map V.str) (j := d.toNat) (v := .str ws[d.toNat]) (by rw [List.getElem?_map, List.getElem?_eq_getElem lt]; rfl)
  rwa [Int.toNat_of_nonneg h0] at z
def spStar (C : Addr) : Sp := fun vs H Q E => vs.length ≤ sizeLine ∧ ∀ p, H p = none → spTog C [.ref p] (upd H p (.tup vs)) Q E
end IC
namespace IC
open PySem L2 TL
/-- how long a text of such a height may be -/
def lenB : Nat → Nat
  | 0 => 64
  | h + 1 => 2 * lenB h + 10
theorem lenB_le {h : Nat} (e : h ≤ 4) : lenB h ≤ 2000 := by
  match h, e with
  | 0, _ => decide
  | 1, _ => decide
  | 2, _ => decide
  | 3, _ => decide
  | 4, _ => decide
/-- the rule r is what n tells -/
structure Is (C : Addr) (recs : List Str) (h : Nat) (H : Hp) (r : Addr) (n : Nd) (ns : List Str) (al : List (List Str)) (z : Str) : Prop where
  at_ : RuleAt C H r ns al z
  few : ns.length ≤ 6
  sub : ∀ x ∈ ns, x ∈ recs
  sem : ∀ ks, may ns al ks = n.sat ks
  txt : n.txt z
  len : z.length ≤ lenB h
  hgt : n.hgt ≤ h
  wds : n.wds recs
  mem : ∀ x, x ∈ ns ↔ x ∈ n.recs
  nd : ns.Nodup
  so : PyProof.Rows.sortedS ns = true
theorem lenB_up {h g : Nat} (e : h ≤ g) : lenB h ≤ lenB g := by
  induction e with
  | refl => exact Nat.le_refl _
  | step _ ih =>
    show lenB h ≤ 2 * lenB _ + 10
    omega
theorem Is.same {C : Addr} {recs : List Str} {h : Nat} {H H' : Hp} {r : Addr} {n : Nd} {ns : List Str} {al : List (List Str)} {z : Str} (q : Is C recs h H r n ns al z) (s : Same H H') : Is C recs h H' r n ns al z := { q with at_ := q.at_.same s }
theorem Is.up {C : Addr} {recs : List Str} {h g : Nat} {H : Hp} {r : Addr} {n : Nd} {ns : List Str} {al : List (List Str)} {z : Str} (q : Is C recs h H r n ns al z) (e : h ≤ g) : Is C recs g H r n ns al z := { q with len := Nat.le_trans q.len (lenB_up e), hgt := Nat.le_trans q.hgt e }
theorem Is.mv {C : Addr} {recs : List Str} {h : Nat} {H H' : Hp} {p r : Addr} {n : Nd} {ns : List Str} {al : List (List Str)} {z : Str} {xs : List V} (q : Is C recs h H r n ns al z) (k : Kp [p] H H') (hp : H p = some (.lst xs)) : Is C recs h H' r n ns al z := { q with at_ := q.at_.mv k hp }
theorem is_two {C : Addr} {recs : List Str} {h : Nat} {H : Hp} {r1 r2 r : Addr} {n m : Nd} {ns ms ys : List Str} {al bl : List (List Str)} {z y : Str} {k : Fin 3} (a : Is C recs h H r1 n ns al z) (b : Is C recs h H r2 m ms bl y) (mem : ∀ x, x ∈ ys ↔ x ∈ ns ∨ x ∈ ms) (y6 : ys.length ≤ 6) (nd : ys.Nodup) (so : PyProof.Rows.sortedS ys = true)
    (hr : RuleAt C H r ys ((subs ys).filter fun q => opB k (may ns al q) (may ms bl q)) (opT (opS k) z y)) : Is C recs (h + 1) H r (.two k n m) ys ((subs ys).filter fun q => opB k (may ns al q) (may ms bl q)) (opT (opS k) z y) where
  at_ := hr
  few := y6
  sub := fun x hx => ((mem x).mp hx).elim (a.sub x) (b.sub x)
  sem := fun ks => by
    rw [may_of (c := fun q => opB k (may ns al q) (may ms bl q))]
    show opB k (may ns al _) (may ms bl _) = opB k (n.sat ks) (m.sat ks)
    rw [may_part (fun x hx => (mem x).mpr (.inl hx)), may_part (fun x hx => (mem x).mpr (.inr hx)), a.sem, b.sem]
  txt := ⟨z, y, a.txt, b.txt, rfl⟩
  len := by
    have e1 : (Str.empty ++ Str.ofString "(").length = 1 := by decide +kernel
    have e2 : (opS k).length ≤ 7 := by
      match k with
      | 0 => decide +kernel
      | 1 => decide +kernel
      | 2 => decide +kernel
    have e3 : (Str.ofString ")").length = 1 := by decide +kernel
    have l1 := a.len
    have l2 := b.len
    show (Str.empty ++ Str.ofString "(" ++ z ++ opS k ++ y ++ Str.ofString ")").length ≤ 2 * lenB h + 10
    rw [len_app, len_app, len_app, len_app, e1, e3]
    omega
  hgt := by
    show max n.hgt m.hgt + 1 ≤ h + 1
    have := a.hgt
    have := b.hgt
    omega
  wds := ⟨a.wds, b.wds⟩
  mem := fun x => by
    show x ∈ ys ↔ x ∈ n.recs ++ m.recs
    rw [mem, List.mem_append, a.mem, b.mem]
  nd := nd
  so := so
theorem is_no {C : Addr} {recs : List Str} {h : Nat} {H : Hp} {r1 r : Addr} {n : Nd} {ns : List Str} {al : List (List Str)} {z : Str} (a : Is C recs h H r1 n ns al z) (hr : RuleAt C H r ns ((subs ns).filter fun q => !may ns al q) (notT z)) : Is C recs (h + 1) H r (.no n) ns ((subs ns).filter fun q => !may ns al q) (notT z) where
  at_ := hr
  few := a.few
  sub := a.sub
  sem := fun ks => by
    rw [may_of (c := fun q => !may ns al q)]
    show (!may ns al _) = !n.sat ks
    rw [may_part (fun x hx => hx), a.sem]
  txt := ⟨z, a.txt, rfl⟩
  len := by
    have e1 : (Str.empty ++ Str.ofString "not ").length = 4 := by decide +kernel
    have l1 := a.len
    show (Str.empty ++ Str.ofString "not " ++ z).length ≤ 2 * lenB h + 10
    rw [len_app, e1]
    omega
  hgt := Nat.succ_le_succ a.hgt
  wds := a.wds
  mem := a.mem
  nd := a.nd
  so := a.so
theorem is_has {C : Addr} {recs : List Str} {H : Hp} {r : Addr} {z : Str} (hz : z ∈ recs) (wz : IsW z) (hr : RuleAt C H r [z] [[z]] z) : Is C recs 0 H r (.has z) [z] [[z]] z where
  at_ := hr
  few := by show 1 ≤ 6; decide
  sub := fun x hx => by
    rw [List.mem_singleton.mp hx]
    exact hz
  sem := may_one z
  txt := rfl
  len := by
    have := wz.2.1
    rw [len_tl]
    show _ ≤ 64
    omega
  hgt := Nat.le_refl _
  wds := hz
  mem := fun _ => Iff.rfl
  nd := by simp
  so := rfl
theorem is_alw {C : Addr} {recs : List Str} {H : Hp} {r : Addr} (hr : RuleAt C H r [] [[]] (Str.ofString "always()")) : Is C recs 0 H r .alw [] [[]] (Str.ofString "always()") where
  at_ := hr
  few := by show 0 ≤ 6; decide
  sub := fun x hx => by cases hx
  sem := may_all
  txt := rfl
  len := by decide +kernel
  hgt := Nat.le_refl _
  wds := True.intro
  mem := fun _ => Iff.rfl
  nd := .nil
  so := rfl
theorem is_tog {C : Addr} {recs zs M ys : List Str} {H : Hp} {r : Addr} (hz : ∀ z ∈ zs, z ∈ recs) (wz : ∀ z ∈ zs, IsW z) (l3 : zs.length ≤ 3) (nd : M.Nodup) (ml : M.length ≤ zs.length) (mem : ∀ z, z ∈ M ↔ z ∈ zs) (perm : ys.Perm M) (so : PyProof.Rows.sortedS ys = true) (hr : RuleAt C H r ys [[], ys] (togT ys)) : Is C recs 0 H r (.tog zs) ys [[], ys] (togT ys) where
  at_ := hr
  few := by
    rw [perm.length_eq]
    omega
  sub := fun x hx => hz x ((mem x).mp (perm.mem_iff.mp hx))
  sem := fun ks => may_tog fun z => (perm.mem_iff).trans (mem z)
  txt := ⟨M, ys, nd, mem, perm, so, rfl⟩
  len := by
    have e1 : (Str.empty ++ Str.ofString "together(").length = 9 := by decide +kernel
    have e2 : (Str.ofString " ").length = 1 := by decide +kernel
    have e3 : (Str.ofString ")").length = 1 := by decide +kernel
    have y3 := perm.length_eq
    have s8 := sum_le8 ys fun z q => by
      have w := (wz z ((mem z).mp (perm.mem_iff.mp q))).2.1
      rw [len_tl]
      exact w
    have jl := join_len (Str.ofString " ") ys
    rw [e2] at jl
    show (Str.empty ++ Str.ofString "together(" ++ Txt.join (Str.ofString " ") ys ++ Str.ofString ")").length ≤ 64
    rw [len_app, len_app, e1, e3]
    omega
  hgt := Nat.le_refl _
  wds := ⟨hz, l3⟩
  mem := fun x => (perm.mem_iff).trans (mem x)
  nd := perm.nodup_iff.mpr nd
  so := so
def cost : Nat → Nat
  | 0 => 100
  | h + 1 => 100 + 2 * cost h
/-- _law_built(pool, records, depth), depth + h = 4 -/
def spB (C : Addr) : Nat → Sp
  | 0 => fun _ _ _ _ => False
  | h + 1 => fun vs H Q _ => ∃ (p rl : Addr) (m : Int) (ws : List Str) (d : Nat), vs = [.ref p, .ref rl, .int d] ∧ d + h = 4 ∧ PoolAt H p m ∧ m + cost h < 800000000 ∧ H rl = some (.lst (ws.map V.str)) ∧ rl ≠ p ∧ 1 ≤ ws.length ∧ ws.length ≤ 6 ∧ (∀ z ∈ ws, IsW z) ∧
    ∀ (H' : Hp) (t r : Addr) (v : V) (n : Nd) (ns : List Str) (al : List (List Str)) (z : Str), Kp [p] H H' → H' t = some (.tup [.ref r, v]) → Is C ws h H' r n ns al z → n.at_ H' v → PoolAt H' p (m + cost h) → Q (.ref t) H'
end IC
namespace IC
open PySem L2 TL
/-- what the operators of the class keep -/
structure ROps (P : Program) (w : World) (K : PySem.W.Frag) (mg : Str → Option Value) (base : Heap) (C : Addr) : Prop where
  first : PySem.W.selfFirst K C = true
  a : ∃ g, PySem.W.findIn K (.ref C) "__and__" = some (some (.ref g)) ∧ PySem.W.isFn K (.ref g) = true ∧ FnR P w K mg base CX0 3 g (spOp2 C (opB 0) (opS 0))
  o : ∃ g, PySem.W.findIn K (.ref C) "__or__" = some (some (.ref g)) ∧ PySem.W.isFn K (.ref g) = true ∧ FnR P w K mg base CX0 3 g (spOp2 C (opB 1) (opS 1))
  n : ∃ g, PySem.W.findIn K (.ref C) "__rshift__" = some (some (.ref g)) ∧ PySem.W.isFn K (.ref g) = true ∧ FnR P w K mg base CX0 3 g (spOp2 C (opB 2) (opS 2))
  i : ∃ g, PySem.W.findIn K (.ref C) "__invert__" = some (some (.ref g)) ∧ PySem.W.isFn K (.ref g) = true ∧ FnR P w K mg base CX0 3 g (spNot C)
  s : ∃ g, PySem.W.findIn K (.ref C) "__str__" = some (some (.ref g)) ∧ PySem.W.isFn K (.ref g) = true ∧ FnR P w K mg base CX0 1 g (spStr C)
section
variable {X : Cx} {C : Addr} {j : Nat} {a b : Expr} {ta tb : TE} {pos : Pos}
theorem pe_and2 (O : ROps X.prog X.w X.K X.mg X.base C) (hr : Room j X.A) (hk : 3 ≤ j) (ha : PE X a ta) (hb : PE X b tb) : PE X (.BinOp a .BitAnd b pos) (tOp (rOwn C (spOp2 C (opB 0) (opS 0))) ta tb) := by
  rcases O.a with ⟨g, h1, h2, F⟩
  exact pe_op (op_own O.first h1 h2 F (hr.mono hk)) ha hb
theorem pe_or2 (O : ROps X.prog X.w X.K X.mg X.base C) (hr : Room j X.A) (hk : 3 ≤ j) (ha : PE X a ta) (hb : PE X b tb) : PE X (.BinOp a .BitOr b pos) (tOp (rOwn C (spOp2 C (opB 1) (opS 1))) ta tb) := by
  rcases O.o with ⟨g, h1, h2, F⟩
  exact pe_op (op_own O.first h1 h2 F (hr.mono hk)) ha hb
theorem pe_needs2 (O : ROps X.prog X.w X.K X.mg X.base C) (hr : Room j X.A) (hk : 3 ≤ j) (ha : PE X a ta) (hb : PE X b tb) : PE X (.BinOp a .RShift b pos) (tOp (rOwn C (spOp2 C (opB 2) (opS 2))) ta tb) := by
  rcases O.n with ⟨g, h1, h2, F⟩
  exact pe_op (op_own O.first h1 h2 F (hr.mono hk)) ha hb
theorem pe_no (O : ROps X.prog X.w X.K X.mg X.base C) (hr : Room j X.A) (hk : 3 ≤ j) (ha : PE X a ta) : PE X (.UnaryOp .Invert a pos) (tUn (rOwn1 C (spNot C)) ta) := by
  rcases O.i with ⟨g, h1, h2, F⟩
  exact pe_un (un_own h1 h2 F (hr.mono hk)) ha
end
section
variable {P : Program} {w : World} {K : PySem.W.Frag} {mg : Str → Option Value} {base : Heap} {C : Addr}
theorem ok_built {f : Addr} {fd : FuncData} {pT fT pH fH pA fA : Addr} (F : Fun K "_law_built" "_law_built" s_law_built f fd) (T : Bn mg) (R : RTxt K mg C) (D_law_draw : Df P w K mg base 1 "_law_draw" ["pool", "many"] spDraw) (S_t : SMet K C (.type "type") "together" pT fT) (F_t : FnR P w K mg base CX0 4 fT (spStar C))
    (S_h : SMet K C (.type "type") "has" pH fH) (F_h : FnR P w K mg base CX0 3 fH (spHas C)) (S_a : SMet K C (.type "type") "always" pA fA) (F_a : FnR P w K mg base CX0 3 fA (spAlways C)) (O : ROps P w K mg base C) (h : Nat) (D_law_built : Df P w K mg base (5 + h) "_law_built" ["pool", "records", "depth"] (spB C h)) :
    FnOk P w K mg base CX0 (6 + h) f fd ["pool", "records", "depth"] (spB C (h + 1)) := by
  have lv : 6 + h = 5 + h + 1 := by omega
  rw [lv]
  refine F.ok sc_law_built (fun vs H Q E h => ?_) (fun cdv A outer s H vs Q E hr hh => ?_)
  · obtain ⟨p, rl, m, ws, d, rfl, _⟩ := h
    rfl
  · obtain ⟨p, rl, m, ws, d, rfl, dh, hp, hm, hw, ne, l1, l6, okw, k⟩ := hh
    have c20 : (100 : Int) ≤ cost h := by
      cases h with
      | zero => decide
      | succ h =>
        have : cost (h + 1) = 100 + 2 * cost h := rfl
        omega
    have wE : ∀ {G G' : Hp}, Kp [p] G G' → ∀ {u : HO}, G rl = some u → G' rl = some u := fun k u e => k _ _ e fun q => ne (List.mem_singleton.mp q)
    refine ⟨_, (Evl.pss_cut (ps_set (i := 3) sc_law_built.nd rfl (Or.inl rfl) (pe_ifExp (pt_cmpR op_lt (pv 2) pe_int (nomark _)) (pe_df D_law_draw hr (by first | decide | omega) rfl (pa_cons (pv 0) (pa_cons pe_int pa_nil))) (pe_df D_law_draw hr (by first | decide | omega) rfl (pa_cons (pv 0) (pa_cons pe_int pa_nil)))))
  (pss_cons (ps_if (pt_cmpR op_eq (pv 3) pe_int (nomark _))
  (pss_cons (ps_setLc (i := 4) (own := [("k", 10)]) (g := gName 10) (tt := tYes) rfl sc_law_built.nd rfl rfl rfl (pi_range1 rfl T.range (pa_cons (pe_df D_law_draw hr (by first | decide | omega) rfl (pa_cons (pv 0) (pa_cons pe_int pa_nil))) pa_nil)) (blkOk_by (N := ["pool", "records", "depth", "sort", "some", "record", "one", "first", "other", "second", "k"]) (sc := defScope s_law_built) (by decide +kernel)) (fun _ _ _ _ _ => pg_name (i := 10) sc_law_built.nd rfl (Or.inl rfl)) (fun _ _ _ _ _ => pts_nil) (fun _ _ _ _ _ => (pe_ix (show IxR _ (rIxL K) from ix_list) (pv 1) (pe_df D_law_draw hr (by first | decide | omega) rfl (pa_cons (pv 0) (pa_cons (pe_callB (show CallR _ (.builtin "len") (rLenK K) from call_len_seq) (by rfl) T.len PySem.boot_len (pa_cons (pv 1) pa_nil)) pa_nil))) (fun _ _ => rfl))))
  (pss_cons (ps_if (pt_cmpR op_eq (pe_callB call_len_seq (by rfl) T.len PySem.boot_len (pa_cons (pv 4) pa_nil)) pe_int (nomark _))
  (pss_one (ps_ret (pe_tup (pa_cons (pe_smR0 (pe_glob (v := .ref _) rfl R.gC rfl) S_t F_t hr (by first | decide | omega)) (pa_cons (pe_tup (pa_cons pe_str (pa_cons (pe_lst pa_nil) pa_nil))) pa_nil)))))
  pss_nil)
  (pss_cons (ps_if (pt_cmpR op_eq (pe_callB call_len_seq (by rfl) T.len PySem.boot_len (pa_cons (pv 4) pa_nil)) pe_int (nomark _))
  (pss_one (ps_ret (pe_tup (pa_cons (pe_smR (pe_glob (v := .ref _) rfl R.gC rfl) S_t F_t hr (by first | decide | omega) (pa_cons (pe_ix ix_list (pv 4) pe_int (fun _ _ => rfl)) pa_nil)) (pa_cons (pe_tup (pa_cons pe_str (pa_cons (pv 4) pa_nil))) pa_nil)))))
  pss_nil)
  (pss_cons (ps_if (pt_cmpR op_eq (pe_callB call_len_seq (by rfl) T.len PySem.boot_len (pa_cons (pv 4) pa_nil)) pe_int (nomark _))
  (pss_one (ps_ret (pe_tup (pa_cons (pe_smR (pe_glob (v := .ref _) rfl R.gC rfl) S_t F_t hr (by first | decide | omega) (pa_cons (pe_ix ix_list (pv 4) pe_int (fun _ _ => rfl)) (pa_cons (pe_ix ix_list (pv 4) pe_int (fun _ _ => rfl)) pa_nil))) (pa_cons (pe_tup (pa_cons pe_str (pa_cons (pv 4) pa_nil))) pa_nil)))))
  pss_nil)
  (pss_one (ps_ret (pe_tup (pa_cons (pe_smR (pe_glob (v := .ref _) rfl R.gC rfl) S_t F_t hr (by first | decide | omega) (pa_cons (pe_ix ix_list (pv 4) pe_int (fun _ _ => rfl)) (pa_cons (pe_ix ix_list (pv 4) pe_int (fun _ _ => rfl)) (pa_cons (pe_ix ix_list (pv 4) pe_int (fun _ _ => rfl)) pa_nil)))) (pa_cons (pe_tup (pa_cons pe_str (pa_cons (pe_slice sl_list (pv 4) po_none (po_some pe_int)) pa_nil))) pa_nil)))))))))
  pss_nil)
  (Evl.pss_cut (ps_if (PW.pt (pw_and (pt_cmpR op_eq (pv 3) pe_int (nomark _)) (pw_and1 (pt_cmpR op_eq (pe_df D_law_draw hr (by first | decide | omega) rfl (pa_cons (pv 0) (pa_cons pe_int pa_nil))) pe_int (nomark _)))))
  (pss_one (ps_ret (pe_tup (pa_cons (pe_smR0 (pe_glob (v := .ref _) rfl R.gC rfl) S_a F_a hr (by first | decide | omega)) (pa_cons (pe_tup (pa_cons pe_str pa_nil)) pa_nil)))))
  pss_nil)
  (pss_cons (ps_if (pt_cmpR op_lt (pv 3) pe_int (nomark _))
  (pss_cons (ps_set (i := 5) sc_law_built.nd rfl (Or.inl rfl) (pe_ix (show IxR _ (rIxL K) from ix_list) (pv 1) (pe_df D_law_draw hr (by first | decide | omega) rfl (pa_cons (pv 0) (pa_cons (pe_callB (show CallR _ (.builtin "len") (rLenK K) from call_len_seq) (by rfl) T.len PySem.boot_len (pa_cons (pv 1) pa_nil)) pa_nil))) (fun _ _ => rfl)))
  (pss_one (ps_ret (pe_tup (pa_cons (pe_smR (pe_glob (v := .ref _) rfl R.gC rfl) S_h F_h hr (by first | decide | omega) (pa_cons (pv 5) pa_nil)) (pa_cons (pe_tup (pa_cons pe_str (pa_cons (pv 5) pa_nil))) pa_nil))))))
  pss_nil)
  (pss_cons (ps_asg (pe_df D_law_built hr (by first | decide | omega) rfl (pa_cons (pv 0) (pa_cons (pv 1) (pa_cons (pe_op op_add (pv 2) pe_int) pa_nil)))) (pg_tup rfl (pgs_cons (pg_name (i := 6) sc_law_built.nd rfl (Or.inl rfl)) (pgs_cons (pg_name (i := 7) sc_law_built.nd rfl (Or.inl rfl)) pgs_nil))))
  (pss_cons (ps_if (pt_cmpR op_eq (pv 3) pe_int (nomark _))
  (pss_one (ps_ret (pe_tup (pa_cons (pe_no O hr (by first | decide | omega) (pv 6)) (pa_cons (pe_tup (pa_cons pe_str (pa_cons (pv 7) pa_nil))) pa_nil)))))
  pss_nil)
  (pss_cons (ps_asg (pe_df D_law_built hr (by first | decide | omega) rfl (pa_cons (pv 0) (pa_cons (pv 1) (pa_cons (pe_op op_add (pv 2) pe_int) pa_nil)))) (pg_tup rfl (pgs_cons (pg_name (i := 8) sc_law_built.nd rfl (Or.inl rfl)) (pgs_cons (pg_name (i := 9) sc_law_built.nd rfl (Or.inl rfl)) pgs_nil))))
  (pss_cons (ps_if (pt_cmpR op_eq (pv 3) pe_int (nomark _))
  (pss_one (ps_ret (pe_tup (pa_cons (pe_and2 O hr (by first | decide | omega) (pv 6) (pv 8)) (pa_cons (pe_tup (pa_cons pe_str (pa_cons (pv 7) (pa_cons (pv 9) pa_nil)))) pa_nil)))))
  pss_nil)
  (pss_cons (ps_if (pt_cmpR op_eq (pv 3) pe_int (nomark _))
  (pss_one (ps_ret (pe_tup (pa_cons (pe_or2 O hr (by first | decide | omega) (pv 6) (pv 8)) (pa_cons (pe_tup (pa_cons pe_str (pa_cons (pv 7) (pa_cons (pv 9) pa_nil)))) pa_nil)))))
  pss_nil)
  (pss_one (ps_ret (pe_tup (pa_cons (pe_needs2 O hr (by first | decide | omega) (pv 6) (pv 8)) (pa_cons (pe_tup (pa_cons pe_str (pa_cons (pv 7) (pa_cons (pv 9) pa_nil)))) pa_nil)))))))))))))), ?_⟩
    refine ⟨fun σ H' => ∃ (sort : Int), σ = [some (.ref p), some (.ref rl), some (.int d), some (.int sort), none, none, none, none, none, none, none] ∧ 0 ≤ sort ∧ sort < 9 ∧ (h = 0 → sort < 3) ∧ PoolAt H' p (m + 1) ∧ Kp [p] H H', ?_, ?_⟩
    · refine ⟨_, rfl, (d : Int), 4, rfl, rfl, _, rfl, ?_⟩
      refine ite2 (fun lt => ?_) (fun _ => ?_)
      · exact ⟨_, rfl, p, 9, m, rfl, hp, by omega, by decide, by decide, fun x o x0 x9 hp1 => ⟨x, rfl, x0, x9, (fun e => by
          have := of_decide_eq_true lt
          omega), hp1, Kp.at_ (by simp)⟩⟩
      · exact ⟨_, rfl, p, 3, m, rfl, hp, by omega, by decide, by decide, fun x o x0 x9 hp1 => ⟨x, rfl, x0, by omega, (fun e => x9), hp1, Kp.at_ (by simp)⟩⟩
    · rintro σ H1 ⟨sort, rfl, s0, s9, s3, hp1, kp1⟩
      have leaf : ∀ {G : Hp} {r v : Addr} {n : Nd} {ns : List Str} {al : List (List Str)} {z : Str}, Kp [p] H G → PoolAt G p (m + 100) → Is C ws 0 G r n ns al z → n.at_ G (.ref v) → ∀ t, G t = none → Q (.ref t) (upd G t (.tup [.ref r, .ref v])) := fun {G r v n ns al z} kp hp2 is av t nt =>
        k _ t r (.ref v) n ns al z (kp.newAt nt) upd_same ((is.up (Nat.zero_le h)).same (Same.new nt)) (n.same (Same.new nt) av) ((hp2.mv fun u e => Same.new nt _ _ e).up (by omega))
      have twoL : ∀ {a b : V}, [a, b].length ≤ sizeLine := by
        intro a b
        show 2 ≤ sizeLine
        decide
      refine ⟨_, rfl, rfl, _, rfl, ?_⟩
      refine ite2 (fun _ => ?_) (fun n0 => ?_)
      · refine ⟨_, rfl, p, 5, _, rfl, hp1, by omega, by decide, by decide, fun x o x0 x5 hp2 => ⟨_, rfl, by omega, by omega, fun D hD => ?_⟩⟩
        have hw2 : upd H1 p o rl = some (.lst (ws.map V.str)) := by
          rw [upd_ne ne]
          exact wE kp1 hw
        refine lc_strs (p := p) (gi := 10) (· ∈ ws) x.toNat _ (by omega) hp2 hD (fun x m' G Q2 hq hm kq cont => ?_) (fun zs G lz okz hz hp3 kp3 => ?_)
        · have hw5 := wE kq hw2
          refine ⟨_, rfl, _, rfl, _, rfl, rl, _, rfl, .inl (SqL.of hw5), p, _, m', rfl, hq, by omega, by rw [List.length_map]; omega, by rw [List.length_map]; omega, fun e o3 e0 e1 hp6 => ?_⟩
          rw [List.length_map] at e1
          obtain ⟨z, hz, at_⟩ := at_strs e0 e1
          exact ⟨rl, _, e, .str z, rfl, rfl, SqL.of (by rw [upd_ne ne]; exact hw5), at_, cont z _ hz (hp6.up (by omega)) (Kp.at_ (by simp))⟩
        · have kG : Kp [p] H G := (kp1.mutAt (by simp)).trans kp3
          have star : ∀ (xs : List Str) (Q' : VK), xs.length ≤ 3 → (∀ z ∈ xs, z ∈ ws) → (∀ M ys : List Str, M.Nodup → M.length ≤ xs.length → (∀ z, z ∈ M ↔ z ∈ xs) → ys.Perm M → PyProof.Rows.sortedS ys = true → NewR C G ys [[], ys] (togT ys) Q') → spStar C (xs.map V.str) G Q' E0 := fun xs Q' l3 inW q =>
            ⟨Nat.le_of_lt (small1000 (by rw [List.length_map]; omega)), fun t nt => ⟨t, xs, rfl, upd_same, fun z hz => okw z (inW z hz), by omega, fun M ys a b c d e => (q M ys a b c d e).same (Same.new nt)⟩⟩
          have fin : ∀ (xs : List Str) (M ys : List Str) (G' : Hp) (r l : Addr), xs.length ≤ 3 → (∀ z ∈ xs, z ∈ ws) → M.Nodup → M.length ≤ xs.length → (∀ z, z ∈ M ↔ z ∈ xs) → ys.Perm M → PyProof.Rows.sortedS ys = true → Kp [p] G G' → RuleAt C G' r ys [[], ys] (togT ys) → PoolAt G' p (m + 90) → G' l = some (.lst (xs.map V.str)) →
              ∀ v, G' v = none → ∀ t, upd G' v (.tup [.str (Str.ofString "together"), .ref l]) t = none → Q (.ref t) (upd (upd G' v (.tup [.str (Str.ofString "together"), .ref l])) t (.tup [.ref r, .ref v])) := fun xs M ys G' r l l3 inW nd ml mem perm so kk ra hpp hl v nv t nt =>
            leaf ((kG.trans kk).newAt nv) ((hpp.mv fun u e => Same.new nv _ _ e).up (by omega)) ((is_tog (C := C) (recs := ws) inW (fun z hz => okw z (inW z hz)) l3 nd ml mem perm so ra).same (Same.new nv)) ⟨v, l, rfl, upd_same, Same.new nv _ _ hl⟩ t nt
          match zs, lz, okz, hz with
          | [], lz, okz, hz =>
            refine ⟨_, rfl, D, _, rfl, .inl (SqL.of hz), rfl, _, rfl, iteT ⟨rfl, star [] _ (by decide) okz fun M ys nd ml mem perm so G' r s1 ra => ?_⟩⟩
            refine ⟨Nat.zero_le _, fun e ne2 => ⟨twoL, fun v nv => ⟨twoL, fun t nt => ?_⟩⟩⟩
            exact fin [] M ys _ r e (by decide) okz nd ml mem perm so (Kp.same (s1.trans (Same.new ne2))) (ra.same (Same.new ne2)) ((hp3.mv fun u q => (s1.trans (Same.new ne2)) _ _ q).up (by omega)) upd_same v nv t nt
          | [z1], lz, okz, hz =>
            refine ⟨_, rfl, D, _, rfl, .inl (SqL.of hz), rfl, _, rfl, iteF ⟨_, rfl, D, _, rfl, .inl (SqL.of hz), rfl, _, rfl, iteT ⟨rfl, _, rfl, D, _, 0, _, rfl, rfl, SqL.of hz, rfl, star [z1] _ (by show 1 ≤ 3; decide) okz fun M ys nd ml mem perm so G' r s1 ra => ?_⟩⟩⟩
            refine ⟨_, rfl, twoL, fun v nv => ⟨twoL, fun t nt => ?_⟩⟩
            exact fin [z1] M ys _ r D (by show 1 ≤ 3; decide) okz nd ml mem perm so (Kp.same s1) ra ((hp3.mv fun u q => s1 _ _ q).up (by omega)) (s1 _ _ hz) v nv t nt
          | [z1, z2], lz, okz, hz =>
            refine ⟨_, rfl, D, _, rfl, .inl (SqL.of hz), rfl, _, rfl, iteF ⟨_, rfl, D, _, rfl, .inl (SqL.of hz), rfl, _, rfl, iteF ⟨_, rfl, D, _, rfl, .inl (SqL.of hz), rfl, _, rfl, iteT ⟨rfl, _, rfl, D, _, 0, _, rfl, rfl, SqL.of hz, rfl, _, rfl, D, _, 1, _, rfl, rfl, SqL.of hz, rfl, star [z1, z2] _ (by show 2 ≤ 3; decide) okz fun M ys nd ml mem perm so G' r s1 ra => ?_⟩⟩⟩⟩
            refine ⟨_, rfl, twoL, fun v nv => ⟨twoL, fun t nt => ?_⟩⟩
            exact fin [z1, z2] M ys _ r D (by show 2 ≤ 3; decide) okz nd ml mem perm so (Kp.same s1) ra ((hp3.mv fun u q => s1 _ _ q).up (by omega)) (s1 _ _ hz) v nv t nt
          | z1 :: z2 :: z3 :: zr, lz, okz, hz =>
            have nE : ∀ c : Int, c < 3 → decide (V.int (((z1 :: z2 :: z3 :: zr).map V.str).length : Int) = V.int c) = false := fun c lt => by
              rw [dec_int]
              have e : ((((z1 :: z2 :: z3 :: zr).map V.str).length : Nat) : Int) = (zr.length : Int) + 3 := by
                rw [List.length_map]
                rfl
              rw [e]
              exact beq_eq_false_iff_ne.mpr (by omega)
            have inW : ∀ z ∈ [z1, z2, z3], z ∈ ws := fun z q => okz z (by
              rcases List.mem_cons.mp q with e | q
              · rw [e]; exact List.mem_cons_self ..
              · rcases List.mem_cons.mp q with e | q
                · rw [e]; exact List.mem_cons_of_mem _ (List.mem_cons_self ..)
                · rw [List.mem_singleton.mp q]
                  exact List.mem_cons_of_mem _ (List.mem_cons_of_mem _ (List.mem_cons_self ..)))
            have cut3 : cutV ((z1 :: z2 :: z3 :: zr).map V.str) none (some 3) = [z1, z2, z3].map V.str := by
              simp [cutV, HT.sIx]
            refine ⟨_, rfl, D, _, rfl, .inl (SqL.of hz), rfl, _, rfl, ?_⟩
            rw [nE 0 (by decide)]
            refine iteF ⟨_, rfl, D, _, rfl, .inl (SqL.of hz), rfl, _, rfl, ?_⟩
            rw [nE 1 (by decide)]
            refine iteF ⟨_, rfl, D, _, rfl, .inl (SqL.of hz), rfl, _, rfl, ?_⟩
            rw [nE 2 (by decide)]
            refine iteF ⟨rfl, _, rfl, D, _, 0, _, rfl, rfl, SqL.of hz, atI_nat (j := 0) rfl, _, rfl, D, _, 1, _, rfl, rfl, SqL.of hz, atI_nat (j := 1) rfl, _, rfl, D, _, 2, _, rfl, rfl, SqL.of hz, atI_nat (j := 2) rfl, star [z1, z2, z3] _ (by show 3 ≤ 3; decide) inW fun M ys nd ml mem perm so G' r s1 ra => ?_⟩
            refine ⟨_, rfl, 3, rfl, D, _, rfl, SqL.of (s1 _ _ hz), fun e ne2 => ⟨twoL, fun v nv => ⟨twoL, fun t nt => ?_⟩⟩⟩
            rw [cut3] at nv nt ⊢
            exact fin [z1, z2, z3] M ys _ r e (by show 3 ≤ 3; decide) inW nd ml mem perm so (Kp.same (s1.trans (Same.new ne2))) (ra.same (Same.new ne2)) ((hp3.mv fun u q => (s1.trans (Same.new ne2)) _ _ q).up (by omega)) upd_same v nv t nt
      · have n0 : ¬ sort = 0 := fun e => by
          rw [e] at n0
          exact n0 (decide_eq_true rfl)
        refine ⟨fun σ H' => σ = [some (.ref p), some (.ref rl), some (.int d), some (.int sort), none, none, none, none, none, none, none] ∧ PoolAt H' p (m + 2) ∧ Kp [p] H H', ?_, ?_⟩
        · refine ⟨_, rfl, rfl, _, rfl, ?_⟩
          refine ite2 (fun _ => ?_) (fun _ => iteF ⟨rfl, hp1.up (by omega), kp1⟩)
          refine ⟨_, rfl, p, 3, _, rfl, hp1, by omega, by decide, by decide, fun y o y0 y3 hp2 => ⟨rfl, _, rfl, ?_⟩⟩
          refine ite2 (fun _ => ?_) (fun _ => ⟨rfl, hp2.up (by omega), kp1.mutAt (by simp)⟩)
          refine ⟨rfl, rfl, fun G r s1 ra => ?_⟩
          refine ⟨by show 1 ≤ sizeLine; decide, fun v nv => ⟨twoL, fun t nt => ?_⟩⟩
          exact leaf (((kp1.mutAt (by simp)).trans (Kp.same s1)).newAt nv) ((hp2.mv fun u q => (s1.trans (Same.new nv)) _ _ q).up (by omega)) (is_alw (ra.same (Same.new nv))) ⟨v, rfl, upd_same⟩ t nt
        · rintro σ G ⟨rfl, hp2, kp2⟩
          have hw2 := wE kp2 hw
          refine ⟨_, rfl, sort, 4, rfl, rfl, _, rfl, ?_⟩
          refine ite2 (fun _ => ?_) (fun ge => ?_)
          · refine ⟨_, rfl, _, rfl, _, rfl, rl, _, rfl, .inl (SqL.of hw2), p, _, _, rfl, hp2, by omega, by rw [List.length_map]; omega, by rw [List.length_map]; omega, fun e o3 e0 e1 hp6 => ?_⟩
            rw [List.length_map] at e1
            obtain ⟨z, hz, at_⟩ := at_strs e0 e1
            refine ⟨rl, _, e, .str z, rfl, rfl, SqL.of (by rw [upd_ne ne]; exact hw2), at_, ?_⟩
            refine ⟨rfl, _, rfl, z, rfl, okw z hz, fun G' r s1 ra => ?_⟩
            refine ⟨_, rfl, twoL, fun v nv => ⟨twoL, fun t nt => ?_⟩⟩
            exact leaf (((kp2.mutAt (by simp)).trans (Kp.same s1)).newAt nv) ((hp6.mv fun u q => (s1.trans (Same.new nv)) _ _ q).up (by omega)) (is_has hz (okw z hz) (ra.same (Same.new nv))) ⟨v, rfl, upd_same⟩ t nt
          · have ge : ¬ sort < 4 := fun e => ge (decide_eq_true e)
            cases h with
            | zero => exact absurd (s3 rfl) (by omega)
            | succ h =>
              have hc : ((cost (h + 1) : Nat) : Int) = 100 + 2 * (cost h : Nat) := by
                have : cost (h + 1) = 100 + 2 * cost h := rfl
                omega
              have h4 : h ≤ 4 := by omega
              have insO : ∀ {G : Hp} {r : Addr} {ns : List Str} {al : List (List Str)} {z : Str}, RuleAt C G r ns al z → ∃ dx fs, G r = some (.ins C dx fs) := fun q => by
                obtain ⟨dx, t, d, q, _⟩ := q
                exact ⟨dx, _, q⟩
              refine ⟨_, rfl, _, rfl, _, rfl, (d : Int), 1, rfl, rfl, p, rl, m + 2, ws, d + 1, rfl, by omega, hp2, by omega, hw2, ne, l1, l6, okw, fun G1 t1 r1 v1 n1 ns1 al1 z1 k1 ht1 is1 at1 hp3 => ?_⟩
              refine ⟨t1, _, rfl, SqT.of ht1, rfl, _, _, rfl, _, _, rfl, rfl, ?_⟩
              have kp3 := kp2.trans k1
              have zl := Nat.le_trans is1.len (lenB_le h4)
              refine ⟨_, rfl, rfl, _, rfl, ?_⟩
              refine ite2 (fun _ => ?_) (fun _ => ?_)
              · obtain ⟨dx, fs, e1⟩ := insO is1.at_
                refine ⟨_, rfl, r1, dx, fs, rfl, e1, r1, ns1, al1, z1, rfl, is1.at_, is1.few, by omega, fun G2 r s1 ra => ?_⟩
                refine ⟨_, rfl, twoL, fun v nv => ⟨twoL, fun t nt => ?_⟩⟩
                have sv := Same.new (o := HO.tup [.str (Str.ofString "not"), v1]) nv
                have st := Same.new (o := HO.tup [.ref r, .ref v]) nt
                exact k _ t r (.ref v) (.no n1) _ _ _ (kp3.trans (Kp.same ((s1.trans sv).trans st))) upd_same ((is_no (is1.same s1) ra).same (sv.trans st)) ⟨v, v1, rfl, st _ _ upd_same, n1.same ((s1.trans sv).trans st) at1⟩ ((hp3.mv fun u q => ((s1.trans sv).trans st) _ _ q).up (by omega))
              · refine ⟨_, rfl, _, rfl, _, rfl, (d : Int), 1, rfl, rfl, p, rl, _, ws, d + 1, rfl, by omega, hp3, by omega, wE kp3 hw, ne, l1, l6, okw, fun G2 t2 r2 v2 n2 ns2 al2 z2 k2 ht2 is2 at2 hp4 => ?_⟩
                refine ⟨t2, _, rfl, SqT.of ht2, rfl, _, _, rfl, _, _, rfl, rfl, ?_⟩
                obtain ⟨pa, pb, pc, hpl, _⟩ := hp3
                have kp4 := kp3.trans k2
                have is1' := is1.mv k2 hpl
                have at1' := n1.keep hpl k2 at1
                have yl := Nat.le_trans is2.len (lenB_le h4)
                have l1n := is1.few
                have l2n := is2.few
                have few : ∀ M : List Str, M.Nodup → (∀ z ∈ M, z ∈ ns1 ∨ z ∈ ns2) → M.length ≤ 6 := fun M nd q => Nat.le_trans (nodup_len ws M nd fun z hz => (q z hz).elim (is1.sub z) (is2.sub z)) l6
                obtain ⟨dx, fs, e1⟩ := insO is1'.at_
                obtain ⟨dy, gs, e2⟩ := insO is2.at_
                have op : ∀ (i : Fin 3) (M ys : List Str), M.Nodup → (∀ z, z ∈ M ↔ z ∈ ns1 ∨ z ∈ ns2) → ys.Perm M → PyProof.Rows.sortedS ys = true → ∀ (G3 : Hp) (r : Addr), Same G2 G3 → RuleAt C G3 r ys ((subs ys).filter fun q => opB i (may ns1 al1 q) (may ns2 al2 q)) (opT (opS i) z1 z2) →
                    ∀ v, G3 v = none → ∀ t, upd G3 v (.tup [.str (opW i), v1, v2]) t = none → Q (.ref t) (upd (upd G3 v (.tup [.str (opW i), v1, v2])) t (.tup [.ref r, .ref v])) := fun i M ys nd mem perm so G3 r s1 ra v nv t nt => by
                  have sv := Same.new (o := HO.tup [.str (opW i), v1, v2]) nv
                  have st := Same.new (o := HO.tup [.ref r, .ref v]) nt
                  have y6 : ys.length ≤ 6 := by
                    rw [perm.length_eq]
                    exact few M nd fun z hz => (mem z).mp hz
                  exact k _ t r (.ref v) (.two i n1 n2) _ _ _ (kp4.trans (Kp.same ((s1.trans sv).trans st))) upd_same ((is_two (is1'.same s1) (is2.same s1) (fun z => (perm.mem_iff).trans (mem z)) y6 (perm.nodup_iff.mpr nd) so ra).same (sv.trans st)) ⟨v, v1, v2, rfl, st _ _ upd_same, n1.same ((s1.trans sv).trans st) at1', n2.same ((s1.trans sv).trans st) at2⟩ ((hp4.mv fun u q => ((s1.trans sv).trans st) _ _ q).up (by omega))
                have threeL : ∀ {a b c : V}, [a, b, c].length ≤ sizeLine := by
                  intro a b c
                  show 3 ≤ sizeLine
                  decide
                refine ⟨_, rfl, rfl, _, rfl, ?_⟩
                refine ite2 (fun _ => ?_) (fun _ => ?_)
                · refine ⟨_, rfl, _, rfl, r1, r2, dx, dy, fs, gs, rfl, rfl, e1, e2, r1, r2, ns1, ns2, al1, al2, z1, z2, rfl, is1'.at_, is2.at_, by omega, by omega, few, by omega, by omega, fun M ys nd mem perm so G3 r s1 ra => ?_⟩
                  exact ⟨_, rfl, _, rfl, threeL, fun v nv => ⟨twoL, fun t nt => op 0 M ys nd mem perm so G3 r s1 ra v nv t nt⟩⟩
                · refine ⟨_, rfl, rfl, _, rfl, ?_⟩
                  refine ite2 (fun _ => ?_) (fun _ => ?_)
                  · refine ⟨_, rfl, _, rfl, r1, r2, dx, dy, fs, gs, rfl, rfl, e1, e2, r1, r2, ns1, ns2, al1, al2, z1, z2, rfl, is1'.at_, is2.at_, by omega, by omega, few, by omega, by omega, fun M ys nd mem perm so G3 r s1 ra => ?_⟩
                    exact ⟨_, rfl, _, rfl, threeL, fun v nv => ⟨twoL, fun t nt => op 1 M ys nd mem perm so G3 r s1 ra v nv t nt⟩⟩
                  · refine ⟨_, rfl, _, rfl, r1, r2, dx, dy, fs, gs, rfl, rfl, e1, e2, r1, r2, ns1, ns2, al1, al2, z1, z2, rfl, is1'.at_, is2.at_, by omega, by omega, few, by omega, by omega, fun M ys nd mem perm so G3 r s1 ra => ?_⟩
                    exact ⟨_, rfl, _, rfl, threeL, fun v nv => ⟨twoL, fun t nt => op 2 M ys nd mem perm so G3 r s1 ra v nv t nt⟩⟩
end
end IC
namespace IC
open PySem L2 TL
/-- _law_allows(node, kept), the node lower than h -/
def spA : Nat → Sp
  | 0 => fun _ _ _ _ => False
  | h + 1 => fun vs H Q _ => ∃ (v : V) (a : Addr) (n : Nd) (ks recs : List Str), vs = [v, .ref a] ∧ n.hgt ≤ h ∧ n.wds recs ∧ n.at_ H v ∧ H a = some (.lst (ks.map V.str)) ∧ ∀ H', Same H H' → Q (.bl (n.sat ks)) H'
end IC
namespace IC
open PySem PySem.Spec PyProof.Rows L2 PpSet
theorem bool_at {us : List Value} {xs : List Bool} (h : us = xs.map Value.bool) (i : Nat) (v : Value) (e : us[i]? = some v) : v = .bool (xs.getD i false) := by
  subst h
  rw [List.getElem?_map] at e
  rw [List.getD_eq_getElem?_getD]
  cases q : xs[i]? with
  | none =>
    rw [q] at e
    cases e
  | some b =>
    rw [q] at e
    cases e
    rfl
section
variable {P : Program} {w : World} {A : Around}
/-- the loop that puts the bools xs into the set at S -/
theorem setB_loop {I : Addr} {fp wr : List Addr} {G : Array GenState → Array GenState → Prop} {n : Nat} {Pv : Nat → Value → Prop} {St : Nat → Shared → Prop} {R : Result → Shared → Prop} (W : WalksS P w A.in1 I fp wr G n Pv St) (S : Addr) (out : S ∉ fp) (xs : List Bool) (many : xs.length = n) (few : xs.length + 1 < scanBound)
    (val : ∀ i v, Pv i v → v = .bool (xs.getD i false)) (h0 : Heap) (new : ∀ b ∈ S :: wr, h0.get? b = none) : ∀ (k i : Nat) (s : Shared), n - i = k → i ≤ n → St i s →
      (∃ (M : Bool → Bool) (c : Nat), SetB w s.heap S M c ∧ c ≤ i ∧ ∀ z, M z = true ↔ z ∈ xs.take i) → (∀ b o, h0.get? b = some o → s.heap.get? b = some o) →
      (∀ t (M : Bool → Bool) (c : Nat), Moved (S :: wr) G s t → SetB w t.heap S M c → c ≤ n → (∀ z, M z = true ↔ z ∈ xs.take n) → (∀ b o, h0.get? b = some o → t.heap.get? b = some o) → R (.ok (.ret .none)) t) →
      codeAny (model P w) A (.builtin "set.update.loop" ⟨[.ref S, .ref I], []⟩) R s := by
  have nw : S ∉ wr := fun h => out (W.sub _ h)
  have up : ∀ b ∈ wr, b ∈ S :: wr := fun b hb => List.mem_cons_of_mem _ hb
  intro k
  induction k with
  | zero =>
    rintro i s hk hi st ⟨M, c, RM, len, mem⟩ old fin
    obtain rfl : i = n := by omega
    refine codeAny_builtin F.entry_set_update_loop ?_
    rw [Around.under_plainId F.plain_set_update_loop _]
    show wpAny _ A.in1 (pyNext (.ref I) >>= _) _ _ s
    refine wpAny_bind (W.done s _ _ st fun t mv => ?_)
    show wpAny _ A.in1 (ret Value.none) _ _ t
    exact wpAny_pure (fin t M c (mv.mono up) (RM.at fun o e => mv.heap S o nw e) len mem fun b o e => mv.heap b o (fun hb => by rw [new b (up b hb)] at e; cases e) (old b o e))
  | succ k ih =>
    rintro i s hk hi st ⟨M, c, RM, len, mem⟩ old fin
    have lt : i < n := by omega
    refine codeAny_builtin F.entry_set_update_loop ?_
    rw [Around.under_plainId F.plain_set_update_loop _]
    show wpAny _ A.in1 (pyNext (.ref I) >>= _) _ _ s
    refine wpAny_bind (W.item i s _ _ lt st fun v t hv st1 mv => ?_)
    have ev := val i v hv
    subst ev
    have RM1 : SetB w t.heap S M c := RM.at fun o e => mv.heap S o nw e
    show wpAny _ A.in1 (holding [Value.bool (xs.getD i false)] (setAdd S (.bool (xs.getD i false))) >>= _) _ _ t
    refine wpAny_bind (wpAny_holding ?_)
    unfold setAdd
    refine wpAny_holding (wpAny_bind ((boolK P w).pyHash (k := xs.getD i false) (boolK_is P w _) ?_))
    refine setB_add_hashed (s := { t with toks := t.toks + 1 }) RM1 (by omega) fun h' sb R2 => ?_
    have hx : xs[i]? = some (xs.getD i false) := by
      have hi2 : i < xs.length := by omega
      rw [List.getD_eq_getElem?_getD, List.getElem?_eq_getElem hi2]
      rfl
    refine wpAny_pure ⟨plainId_quiet F.plain_set_update_loop _, ih (i + 1) _ (by omega) lt (W.frame _ t _ _ st1 (Nat.le_succ _) fun b hb o e => ?_) ⟨_, _, R2, by split <;> omega, fun z => ?_⟩ (fun b o e => ?_) fun t2 M2 c2 mv2 R3 l3 m3 old3 => ?_⟩
    · rw [sb.2 b fun e1 => out (e1 ▸ hb)]
      exact e
    · show (M z || decide (z = xs.getD i false)) = true ↔ _
      rw [Bool.or_eq_true, mem z, decide_eq_true_iff, List.take_add_one, hx]
      simp
    · have ne : b ≠ S := fun e1 => by
        rw [e1, new S List.mem_cons_self] at e
        cases e
      rw [sb.2 b ne]
      exact mv.heap b o (fun hb => by rw [new b (up b hb)] at e; cases e) (old b o e)
    · refine fin t2 M2 c2 (Moved.trans W.gtrans ((mv.mono up).then_heap (Nat.le_succ _) fun b o hb e => ?_) mv2) R3 l3 m3 old3
      rw [sb.2 b fun e1 => hb (by rw [e1]; exact List.mem_cons_self)]
      exact e
end
section
variable {P : Program} {w : World} {A : Around} {E : Value → Shared → Prop} {s : Shared}
set_option maxHeartbeats 8000000 in
theorem call_setB_lst {l : Addr} {items : Array Value} {xs : List Bool} {Q : Value → Shared → Prop} (calm : A.handled = none) (isl : s.heap.IsList l items) (are : items.toList = xs.map Value.bool) (few : xs.length + 1 < scanBound)
    (fin : ∀ (h' : Heap) (tk : Nat) (M : Bool → Bool) (c : Nat), SetB w h' s.heap.objs.size M c → c ≤ xs.length → (∀ z, M z = true ↔ z ∈ xs) → (∀ b o, s.heap.get? b = some o → h'.get? b = some o) → Q (.ref s.heap.objs.size) { s with heap := h', toks := tk }) :
    wpAny (model P w) A (call (.type "set") [.ref l]) Q E s := by
  have many : xs.length = items.size := by rw [← Array.length_toList, are, List.length_map]
  rcases F.called_set.mro with ⟨_, _, mro⟩
  have made := F.called_set.made
  have sub := F.called_set.sub
  refine wpAny_call (codeAny_of_tree ?_)
  show wpAny _ _ (callAny (.type "set") _) _ _ _
  refine wpAny_pure ⟨Code.quiet_builtin _ (by decide +kernel), codeAny_builtin F.entry_type_call ?_⟩
  rw [Around.under_plain (weight_type_call_type "set" [.ref l] []) rfl]
  have noT := F.called_set.notType
  have can := F.called_set.canCreate
  have one := F.typeCall_set_1 (.ref l)
  repeat (any_goals (first | assumption | wp_step))
  refine codeAny_mono (code_set_led1 (.ref l) (E := E) (Q₁ := fun v t => v = .ref s.heap.objs.size ∧ t = { s with heap := s.heap.push (new0 w) }) ⟨rfl, rfl⟩) fun r t made1 => ?_
  cases r with
  | error e => exact made1
  | ok fl =>
    cases fl with
    | next => exact made1.elim
    | brk => exact made1.elim
    | cont => exact made1.elim
    | ret v =>
    rcases made1 with ⟨rfl, rfl⟩
    have at_ : (s.heap.push (new0 w)).get? s.heap.objs.size = some (new0 w) := Heap.get?_push_size _ rfl
    have isT : Shared.TypeIs { s with heap := s.heap.push (new0 w) } (.ref s.heap.objs.size) "set" := ⟨_, at_, rfl⟩
    have look := F.called_set.init.lookup
    have bind := F.called_set.init.bind (.ref s.heap.objs.size)
    repeat (any_goals (first | assumption | wp_step))
    refine codeAny_mono (codeAny_call_builtin (R := wants (fun r t => r = .none ∧ ∃ (h' : Heap) (tk : Nat) (M : Bool → Bool) (c : Nat), t = { s with heap := h', toks := tk } ∧ SetB w h' s.heap.objs.size M c ∧ c ≤ xs.length ∧ (∀ z, M z = true ↔ z ∈ xs) ∧ ∀ b o, s.heap.get? b = some o → h'.get? b = some o) E)
      F.called_set.init.plain F.entry_set_init (check_set_init_1 isT ?_)) fun r2 t2 filled => ?_
    · rcases isl with ⟨⟨kl, dl, xl, sl⟩, atl, rfl, nl, dt⟩
      have dt : xl = .seq items nl := dt
      subst dt
      have atl1 : (s.heap.push (new0 w)).get? l = some _ := Heap.get?_push_of_some _ atl
      have no1 := F.sub_list_set
      have no2 := F.sub_list_frozenset
      have no3 : (Value.type "list" == Value.type "dict") = false := by decide
      have isl1 : (s.heap.push (new0 w)).IsList l items := ⟨_, atl1, rfl, nl, rfl⟩
      unfold Builtin.«set.__init__» noKeywords Builtin.Frozenset.updateFrom
      generalize it : pyIter = IT
      wp_walk
      subst it
      refine wpAny_pyIter_list isl1 (wpAny_bind (wpAny_runValue ?_))
      have size : (s.heap.push (new0 w)).objs.size = s.heap.objs.size + 1 := Heap.size_push ..
      have ltl : l < s.heap.objs.size := Heap.lt_size atl
      have calm3 : A.in1.in1.in1.handled = none := calm
      have neI : l ≠ (s.heap.push (new0 w)).objs.size := fun e => by
        rw [e, size] at ltl
        exact absurd ltl (Nat.not_lt.mpr (Nat.le_succ _))
      refine setB_loop ((Walks.list calm3 _ l neI items).toS) s.heap.objs.size ?_ xs many few (fun i v hv => bool_at are i v (by rw [Array.getElem?_toList]; exact hv)) s.heap ?_ (items.size - 0) 0 _ (by omega) (Nat.zero_le _)
        ⟨⟨_, Heap.get?_push_size _ rfl, rfl, rfl⟩, isl1.push _⟩ ⟨fun _ => false, 0, (show SetB w (s.heap.push (new0 w)) s.heap.objs.size (fun _ => false) 0 from setB_fresh w).at fun o e => Heap.get?_push_of_some _ e, Nat.le_refl _, fun z => by simp⟩ (fun b o e => Heap.get?_push_of_some _ (Heap.get?_push_of_some _ e)) fun t3 M c mv R len mem old => ?_
      · rw [size]
        simp only [List.mem_cons, List.not_mem_nil, or_false, not_or]
        exact ⟨Nat.ne_of_lt (Nat.lt_succ_self _), fun e => Nat.lt_irrefl _ (e ▸ ltl)⟩
      · intro b hb
        rw [size] at hb
        have lt : s.heap.objs.size ≤ b := by
          simp only [List.mem_cons, List.not_mem_nil, or_false] at hb
          rcases hb with e | e
          · rw [e]
            exact Nat.le_refl _
          · rw [e]
            exact Nat.le_succ _
        cases e : s.heap.get? b with
        | none => rfl
        | some o => exact absurd (Heap.lt_size e) (Nat.not_lt.mpr lt)
      · rcases t3 with ⟨h3, g3, d3, k3, o3⟩
        have e1 : g3 = s.gens := mv.gens
        have e2 : d3 = s.drawn := mv.drawn
        have e3 : o3 = s.os := mv.os
        subst e1
        subst e2
        subst e3
        show wpAny _ _ _ _ _ _
        refine wpAny_pure ?_
        show wpAny _ _ (ret Value.none) _ _ _
        rw [← many] at len
        refine wpAny_pure ⟨rfl, h3, k3, M, c, rfl, R, len, fun z => ?_, old⟩
        rw [mem z, ← many, List.take_length]
    · cases r2 with
      | error e => exact filled
      | ok fl2 =>
        cases fl2 with
        | next => exact filled.elim
        | brk => exact filled.elim
        | cont => exact filled.elim
        | ret v =>
        rcases filled with ⟨rfl, h', tk, M, c, rfl, R, len, mem, old⟩
        repeat (any_goals (first | assumption | wp_step))
        exact fin h' tk M c R len mem old
end
end IC
namespace IC
open PySem PySem.Spec PyProof.Rows L2 PpSet
theorem vals_bools : ∀ {bs : List Bool} {its : List Value}, Vals (bs.map V.bl) its → its = bs.map Value.bool
  | [], _, .nil => rfl
  | b :: bs, _, .cons r t => by
    have e := vals_bools t
    cases r
    rw [List.map_cons, e]
section
variable {X : Cx}
def rSetB (K : PySem.W.Frag) (w : World) : List V → Hp → VK → Prop := fun vs H Q => ∃ (a : Addr) (bs : List Bool), vs = [.ref a] ∧ SqL K H a (bs.map V.bl) ∧ bs.length ≤ 4000 ∧
  ∀ (p : Addr) (M : Bool → Bool) (c : Nat), H p = none → (∀ z, M z = true ↔ z ∈ bs) → Q (.ref p) (upd H p (SetBO w p M c))
theorem cr_setB (calm : X.calm = true) : CallR X (.type "set") (rSetB X.K X.w) := by
  rintro pins s σ H vs us Q I rel ⟨a, xs, rfl, sq, few, q⟩
  rcases vals1 rel with ⟨u, rfl, ru⟩
  cases ru
  have few2 : xs.length + 1 < scanBound := by
    show xs.length + 1 < 4096
    omega
  rcases I.list sq with ⟨its, rv, pl, _⟩
  refine call_setB_lst (I.ok.hd calm) pl.isList (by simpa using vals_bools rv) few2 fun h' tk M c R len mem old => ?_
  exact ⟨.ref s.heap.objs.size, _, I.laid (t' := tk) old (Nat.le_refl _) (setBO_new R), rfl, q _ M c (I.hok.fresh (Nat.le_refl _)) mem⟩
theorem setB_count {w : World} {h : Heap} {a : Addr} {M : Bool → Bool} {c : Nat} (R : SetB w h a M c) : c = (if M true = true then 1 else 0) + (if M false = true then 1 else 0) := by
  rcases R with ⟨o, es, ep, t, _, _, _, _, nd, mem, _, _, e, _⟩
  have len : (es.toList.map keyB).length = c := by rw [List.length_map, Array.length_toList, e]
  generalize es.toList.map keyB = l at nd mem len
  rw [← len]
  have all : ∀ l : List Bool, l.Nodup → l.length = (if true ∈ l then 1 else 0) + (if false ∈ l then 1 else 0) := by
    intro l nd
    match l, nd with
    | [], _ => rfl
    | [true], _ => rfl
    | [false], _ => rfl
    | [true, false], _ => rfl
    | [false, true], _ => rfl
    | [true, true], nd => exact absurd nd (by decide)
    | [false, false], nd => exact absurd nd (by decide)
    | a :: b :: c :: r, nd =>
      exfalso
      rw [List.nodup_cons, List.nodup_cons] at nd
      have n1 := nd.1
      have n2 := nd.2.1
      cases a <;> cases b <;> cases c <;> simp at n1 n2
  rw [all l nd]
  simp only [mem]
def rLenSB (w : World) : List V → Hp → VK → Prop := fun vs H Q => ∃ (a : Addr) (M : Bool → Bool) (c : Nat), vs = [.ref a] ∧ H a = some (SetBO w a M c) ∧ Q (.int (((if M true = true then 1 else 0) + (if M false = true then 1 else 0) : Nat))) H
theorem cr_lenSB : CallR X (.builtin "len") (rLenSB X.w) := by
  rintro pins s σ H vs us Q I rel ⟨a, M, c, rfl, hM, q⟩
  rcases vals1 rel with ⟨u, rfl, ru⟩
  cases ru
  have R := setBO_get I hM
  have n := setB_count R
  rw [← n] at q
  rcases R with ⟨o, es, ep, t, ho, ex, dt, _, _, _, fw, fit, e, _⟩
  have small : (es.size : Int) < 2 ^ 63 := by
    have : es.size < 4096 := fw
    omega
  refine PySem.call_len_set ho ex dt fit small ⟨.int es.size, H, I.tok _, ⟨_, rfl⟩, ?_⟩
  rw [e]
  exact q
end
end IC
namespace IC
open PySem L2 TL PpSet
section
variable {P : Program} {w : World} {K : PySem.W.Frag} {mg : Str → Option Value} {base : Heap} {C : Addr}
theorem two_one (zs ks : List Str) (bs : List Bool) (hb : bs = zs.map fun z => decide (z ∈ ks)) (M : Bool → Bool) (mem : ∀ z, M z = true ↔ z ∈ bs) :
    decide ((((if M true = true then 1 else 0) + (if M false = true then 1 else 0) : Nat) : Int) < 2) = (Nd.tog zs).sat ks := by
  show _ = (decide (zs.filter (fun n => decide (n ∈ ks)) = []) || decide (zs.filter (fun n => decide (n ∈ ks)) = zs))
  have t1 : M true = true ↔ ∃ z ∈ zs, z ∈ ks := by
    rw [mem, hb, List.mem_map]
    exact ⟨fun ⟨z, h1, h2⟩ => ⟨z, h1, of_decide_eq_true h2⟩, fun ⟨z, h1, h2⟩ => ⟨z, h1, decide_eq_true h2⟩⟩
  have t2 : M false = true ↔ ∃ z ∈ zs, ¬ z ∈ ks := by
    rw [mem, hb, List.mem_map]
    exact ⟨fun ⟨z, h1, h2⟩ => ⟨z, h1, of_decide_eq_false h2⟩, fun ⟨z, h1, h2⟩ => ⟨z, h1, decide_eq_false h2⟩⟩
  rw [Bool.eq_iff_iff, Bool.or_eq_true, decide_eq_true_iff, decide_eq_true_iff, decide_eq_true_iff, List.filter_eq_nil_iff, List.filter_eq_self]
  by_cases h1 : M true = true <;> by_cases h2 : M false = true
  · rw [if_pos h1, if_pos h2]
    rcases t1.mp h1 with ⟨x, x1, x2⟩
    rcases t2.mp h2 with ⟨y, y1, y2⟩
    constructor
    · intro q
      exact absurd q (by decide)
    · rintro (q | q)
      · exact absurd (decide_eq_true x2) (q x x1)
      · exact absurd (of_decide_eq_true (q y y1)) y2
  · rw [if_pos h1, if_neg h2]
    refine ⟨fun _ => .inr fun z hz => decide_eq_true ?_, fun _ => by decide⟩
    by_cases q : z ∈ ks
    · exact q
    · exact absurd (t2.mpr ⟨z, hz, q⟩) h2
  · rw [if_neg h1, if_pos h2]
    exact ⟨fun _ => .inl fun z hz q => h1 (t1.mpr ⟨z, hz, of_decide_eq_true q⟩), fun _ => by decide⟩
  · rw [if_neg h1, if_neg h2]
    exact ⟨fun _ => .inl fun z hz q => h1 (t1.mpr ⟨z, hz, of_decide_eq_true q⟩), fun _ => by decide⟩
theorem ok_sat {f : Addr} {fd : FuncData} (F : Fun K "_law_allows" "_law_allows" s_law_allows f fd) (T : Bn mg) (h : Nat) (D_law_allows : Df P w K mg base (1 + h) "_law_allows" ["node", "kept"] (spA h)) : FnOk P w K mg base CX0 (2 + h) f fd ["node", "kept"] (spA (h + 1)) := by
  have lv : 2 + h = 1 + h + 1 := by omega
  rw [lv]
  refine F.ok sc_law_allows (fun vs H Q E q => ?_) (fun cdv A outer s H vs Q E hr q => ?_)
  · obtain ⟨v, a, n, ks, recs, rfl, _⟩ := q
    rfl
  · obtain ⟨v, a, n, ks, recs, rfl, hh, hw, hv, ha, k⟩ := q
    refine ⟨_, (pss_cons (ps_set (i := 2) sc_law_allows.nd rfl (Or.inl rfl) (pe_ix ix_tup (pv 0) pe_int (fun _ _ => rfl)))
  (pss_cons (ps_if (pt_cmpR op_eq (pv 2) pe_str (nomark _))
  (pss_one (ps_ret (pe_cmpR op_in_seq (pe_ix ix_tup (pv 0) pe_int (fun _ _ => rfl)) (pv 1) (by rfl))))
  pss_nil)
  (pss_cons (ps_if (pt_cmpR op_eq (pv 2) pe_str (nomark _))
  (pss_one (ps_ret (pe_cmpR op_lt (pe_callB cr_lenSB (by rfl) T.len PySem.boot_len (pa_cons (pe_callTy (cr_setB rfl) (by rfl) T.set (by decide +kernel) (pa_cons (pe_lc (own := [("record", 3)]) (g := gName 3) (tt := tYes) rfl sc_law_allows.nd (pi_list (pe_ix ix_tup (pv 0) pe_int (fun _ _ => rfl))) (blkOk_by (N := ["node", "kept", "word", "record"]) (sc := defScope s_law_allows) (by decide +kernel)) (fun _ _ _ _ _ => pg_name (i := 3) sc_law_allows.nd rfl (Or.inl rfl)) (fun _ _ _ _ _ => pts_nil) (fun _ _ _ _ _ => (pe_cmpR (show OpR _ _ (rIn K false) from op_in_seq) (pv 3) (pv 1) (by rfl)))) pa_nil)) pa_nil)) pe_int (nomark _))))
  pss_nil)
  (pss_cons (ps_if (pt_cmpR op_eq (pv 2) pe_str (nomark _))
  (pss_one (ps_ret pe_bl))
  pss_nil)
  (pss_cons (ps_if (pt_cmpR op_eq (pv 2) pe_str (nomark _))
  (pss_one (ps_ret (pe_not (pe_df D_law_allows hr (by first | decide | omega) rfl (pa_cons (pe_ix ix_tup (pv 0) pe_int (fun _ _ => rfl)) (pa_cons (pv 1) pa_nil))))))
  pss_nil)
  (pss_cons (ps_if (pt_cmpR op_eq (pv 2) pe_str (nomark _))
  (pss_one (ps_ret (pe_and (pe_df D_law_allows hr (by first | decide | omega) rfl (pa_cons (pe_ix ix_tup (pv 0) pe_int (fun _ _ => rfl)) (pa_cons (pv 1) pa_nil))) (pe_one (pe_df D_law_allows hr (by first | decide | omega) rfl (pa_cons (pe_ix ix_tup (pv 0) pe_int (fun _ _ => rfl)) (pa_cons (pv 1) pa_nil)))))))
  pss_nil)
  (pss_cons (ps_if (pt_cmpR op_eq (pv 2) pe_str (nomark _))
  (pss_one (ps_ret (pe_or (pe_df D_law_allows hr (by first | decide | omega) rfl (pa_cons (pe_ix ix_tup (pv 0) pe_int (fun _ _ => rfl)) (pa_cons (pv 1) pa_nil))) (pe_one (pe_df D_law_allows hr (by first | decide | omega) rfl (pa_cons (pe_ix ix_tup (pv 0) pe_int (fun _ _ => rfl)) (pa_cons (pv 1) pa_nil)))))))
  pss_nil)
  (pss_one (ps_ret (pe_or (pe_not (pe_df D_law_allows hr (by first | decide | omega) rfl (pa_cons (pe_ix ix_tup (pv 0) pe_int (fun _ _ => rfl)) (pa_cons (pv 1) pa_nil)))) (pe_one (pe_df D_law_allows hr (by first | decide | omega) rfl (pa_cons (pe_ix ix_tup (pv 0) pe_int (fun _ _ => rfl)) (pa_cons (pv 1) pa_nil)))))))))))))), ?_⟩
    cases n with
    | has z =>
      obtain ⟨p, rfl, hp⟩ := hv
      refine ⟨_, rfl, p, _, 0, _, rfl, rfl, SqT.of hp, rfl, ?_⟩
      refine ⟨_, rfl, rfl, _, rfl, iteT ⟨_, rfl, p, _, 1, _, rfl, rfl, SqT.of hp, rfl, _, rfl, a, ks.map V.str, rfl, .inl (SqL.of ha), rfl, flat_ks ks, ?_⟩⟩
      rw [if_neg (by decide), inV_strs]
      exact k H (Same.refl H)
    | tog zs =>
      obtain ⟨p, l, rfl, hp, hl⟩ := hv
      refine ⟨_, rfl, p, _, 0, _, rfl, rfl, SqT.of hp, rfl, ?_⟩
      refine ⟨_, rfl, rfl, _, rfl, ?_⟩
      rw [show decide (V.str (Str.ofString "together") = V.str (Str.ofString "has")) = false by decide +kernel]
      refine iteF ⟨_, rfl, rfl, _, rfl, iteT ?_⟩
      have l3 := hw.2
      refine ⟨_, rfl, p, _, 1, _, rfl, rfl, SqT.of hp, rfl, l, rfl, ⟨_, SqL.of hl⟩, fun D nD => ?_⟩
      refine lc_list (K := K) (a := l) (xs := zs.map V.str) (fun i G => Same H G ∧ G D = some (.lst (((zs.take i).map fun z => decide (z ∈ ks)).map V.bl))) ⟨Same.new nD, upd_same⟩ (fun i G _ h => SqL.of (h.1 _ _ hl)) (fun i y G hi h => ?_) (fun G h => ?_)
      · rw [List.getElem?_map] at hi
        cases en : zs[i]? with
        | none =>
          rw [en] at hi
          cases hi
        | some z =>
          rw [en] at hi
          cases hi
          refine ⟨by simp [wipe], ?_⟩
          refine ⟨_, rfl, _, rfl, a, ks.map V.str, rfl, .inl (SqL.of (h.1 _ _ ha)), rfl, flat_ks ks, ?_⟩
          rw [if_neg (by decide), inV_strs]
          refine ⟨_, h.2, small1000 ?_, fun b o e => ?_, ?_⟩
          · rw [List.length_map, List.length_map, List.length_take]
            omega
          · rw [upd_ne (ne_of_none e nD)]
            exact h.1 b o e
          · rw [upd_same, List.take_add_one, en, List.map_append, List.map_append]
            rfl
      · rw [List.length_map, List.take_length] at h
        refine ⟨D, zs.map fun z => decide (z ∈ ks), rfl, SqL.of h.2, by rw [List.length_map]; omega, fun q M c nq mem => ⟨q, M, c, rfl, upd_same, ?_⟩⟩
        refine ⟨_, 2, rfl, rfl, ?_⟩
        dsimp only
        rw [two_one zs ks _ rfl M mem]
        exact k _ (h.1.trans (Same.new nq))
    | alw =>
      obtain ⟨p, rfl, hp⟩ := hv
      refine ⟨_, rfl, p, _, 0, _, rfl, rfl, SqT.of hp, rfl, ?_⟩
      refine ⟨_, rfl, rfl, _, rfl, ?_⟩
      rw [show decide (V.str (Str.ofString "always") = V.str (Str.ofString "has")) = false by decide +kernel]
      refine iteF ⟨_, rfl, rfl, _, rfl, ?_⟩
      rw [show decide (V.str (Str.ofString "always") = V.str (Str.ofString "together")) = false by decide +kernel]
      exact iteF ⟨_, rfl, rfl, _, rfl, iteT (k H (Same.refl H))⟩
    | no b =>
      obtain ⟨p, x, rfl, hp, hx⟩ := hv
      have hb : b.hgt + 1 ≤ h := hh
      cases h with
      | zero => omega
      | succ h =>
        refine ⟨_, rfl, p, _, 0, _, rfl, rfl, SqT.of hp, rfl, ?_⟩
        refine ⟨_, rfl, rfl, _, rfl, ?_⟩
        rw [show decide (V.str (Str.ofString "not") = V.str (Str.ofString "has")) = false by decide +kernel]
        refine iteF ⟨_, rfl, rfl, _, rfl, ?_⟩
        rw [show decide (V.str (Str.ofString "not") = V.str (Str.ofString "together")) = false by decide +kernel]
        refine iteF ⟨_, rfl, rfl, _, rfl, ?_⟩
        rw [show decide (V.str (Str.ofString "not") = V.str (Str.ofString "always")) = false by decide +kernel]
        refine iteF ⟨_, rfl, rfl, _, rfl, iteT ?_⟩
        exact ⟨_, rfl, p, _, 1, _, rfl, rfl, SqT.of hp, rfl, _, rfl, x, a, b, ks, recs, rfl, by omega, hw, hx, ha, fun H' s1 => ⟨_, rfl, k H' s1⟩⟩
    | two o b c =>
      obtain ⟨p, x, y, rfl, hp, hx, hy⟩ := hv
      have hab : max b.hgt c.hgt + 1 ≤ h := hh
      have w1 : ∀ o : Fin 3, decide (V.str (opW o) = V.str (Str.ofString "has")) = false := by decide +kernel
      have w2 : ∀ o : Fin 3, decide (V.str (opW o) = V.str (Str.ofString "together")) = false := by decide +kernel
      have w3 : ∀ o : Fin 3, decide (V.str (opW o) = V.str (Str.ofString "always")) = false := by decide +kernel
      have w4 : ∀ o : Fin 3, decide (V.str (opW o) = V.str (Str.ofString "not")) = false := by decide +kernel
      cases h with
      | zero => omega
      | succ h =>
        refine ⟨_, rfl, p, _, 0, _, rfl, rfl, SqT.of hp, rfl, ?_⟩
        refine ⟨_, rfl, rfl, _, rfl, ?_⟩
        rw [w1 o]
        refine iteF ⟨_, rfl, rfl, _, rfl, ?_⟩
        rw [w2 o]
        refine iteF ⟨_, rfl, rfl, _, rfl, ?_⟩
        rw [w3 o]
        refine iteF ⟨_, rfl, rfl, _, rfl, ?_⟩
        rw [w4 o]
        refine iteF ?_
        match o with
        | 0 =>
          refine ⟨_, rfl, rfl, _, rfl, iteT ?_⟩
          refine ⟨_, rfl, p, _, 1, _, rfl, rfl, SqT.of hp, rfl, _, rfl, x, a, b, ks, recs, rfl, by omega, hw.1, hx, ha, fun H1 s1 => ⟨_, rfl, ?_⟩⟩
          cases eb : b.sat ks with
          | true =>
            refine iteT ⟨_, rfl, p, _, 2, _, rfl, rfl, SqT.of (s1 _ _ hp), rfl, _, rfl, y, a, c, ks, recs, rfl, by omega, hw.2, c.same s1 hy, s1 _ _ ha, fun H2 s2 => ?_⟩
            have q := k H2 (s1.trans s2)
            simpa [Nd.sat, opB, eb] using q
          | false =>
            refine iteF ?_
            have q := k H1 s1
            simpa [Nd.sat, opB, eb] using q
        | 1 =>
          refine ⟨_, rfl, rfl, _, rfl, ?_⟩
          rw [show decide (V.str (opW 1) = V.str (Str.ofString "and")) = false by decide +kernel]
          refine iteF ⟨_, rfl, rfl, _, rfl, iteT ?_⟩
          refine ⟨_, rfl, p, _, 1, _, rfl, rfl, SqT.of hp, rfl, _, rfl, x, a, b, ks, recs, rfl, by omega, hw.1, hx, ha, fun H1 s1 => ⟨_, rfl, ?_⟩⟩
          cases eb : b.sat ks with
          | true =>
            refine iteT ?_
            have q := k H1 s1
            simpa [Nd.sat, opB, eb] using q
          | false =>
            refine iteF ⟨_, rfl, p, _, 2, _, rfl, rfl, SqT.of (s1 _ _ hp), rfl, _, rfl, y, a, c, ks, recs, rfl, by omega, hw.2, c.same s1 hy, s1 _ _ ha, fun H2 s2 => ?_⟩
            have q := k H2 (s1.trans s2)
            simpa [Nd.sat, opB, eb] using q
        | 2 =>
          refine ⟨_, rfl, rfl, _, rfl, ?_⟩
          rw [show decide (V.str (opW 2) = V.str (Str.ofString "and")) = false by decide +kernel]
          refine iteF ⟨_, rfl, rfl, _, rfl, ?_⟩
          rw [show decide (V.str (opW 2) = V.str (Str.ofString "or")) = false by decide +kernel]
          refine iteF ?_
          refine ⟨_, rfl, p, _, 1, _, rfl, rfl, SqT.of hp, rfl, _, rfl, x, a, b, ks, recs, rfl, by omega, hw.1, hx, ha, fun H1 s1 => ⟨_, rfl, _, rfl, ?_⟩⟩
          cases eb : b.sat ks with
          | true =>
            refine iteF ⟨_, rfl, p, _, 2, _, rfl, rfl, SqT.of (s1 _ _ hp), rfl, _, rfl, y, a, c, ks, recs, rfl, by omega, hw.2, c.same s1 hy, s1 _ _ ha, fun H2 s2 => ?_⟩
            have q := k H2 (s1.trans s2)
            simpa [Nd.sat, opB, eb] using q
          | false =>
            refine iteT ?_
            have q := k H1 s1
            simpa [Nd.sat, opB, eb] using q
end
end IC
namespace IC
open PySem L2 TL
theorem sat_mem {ks ls : List Str} (h : ∀ z, z ∈ ks ↔ z ∈ ls) : ∀ n : Nd, n.sat ks = n.sat ls := by
  have e : (fun n : Str => decide (n ∈ ks)) = fun n => decide (n ∈ ls) := funext fun z => by
    rw [decide_eq_decide]
    exact h z
  intro n
  induction n with
  | has z =>
    show decide (z ∈ ks) = decide (z ∈ ls)
    rw [decide_eq_decide]
    exact h z
  | tog zs =>
    show (decide (zs.filter (fun n => decide (n ∈ ks)) = []) || decide (zs.filter (fun n => decide (n ∈ ks)) = zs)) = (decide (zs.filter (fun n => decide (n ∈ ls)) = []) || decide (zs.filter (fun n => decide (n ∈ ls)) = zs))
    rw [e]
  | alw => rfl
  | no a ih =>
    show (!a.sat ks) = !a.sat ls
    rw [ih]
  | two k a b iha ihb =>
    show opB k (a.sat ks) (b.sat ks) = opB k (a.sat ls) (b.sat ls)
    rw [iha, ihb]
theorem sat_part : ∀ (n : Nd) {ks ls : List Str}, (∀ z ∈ n.recs, z ∈ ks ↔ z ∈ ls) → n.sat ks = n.sat ls
  | .has z, ks, ls, h => by
    show decide (z ∈ ks) = decide (z ∈ ls)
    rw [decide_eq_decide]
    exact h z (List.mem_singleton.mpr rfl)
  | .tog zs, ks, ls, h => by
    show (decide (zs.filter (fun n => decide (n ∈ ks)) = []) || decide (zs.filter (fun n => decide (n ∈ ks)) = zs)) = (decide (zs.filter (fun n => decide (n ∈ ls)) = []) || decide (zs.filter (fun n => decide (n ∈ ls)) = zs))
    have e : zs.filter (fun n => decide (n ∈ ks)) = zs.filter (fun n => decide (n ∈ ls)) := List.filter_congr fun z hz => by
      rw [decide_eq_decide]
      exact h z hz
    rw [e]
  | .alw, _, _, _ => rfl
  | .no a, ks, ls, h => by
    show (!a.sat ks) = !a.sat ls
    rw [sat_part a h]
  | .two k a b, ks, ls, h => by
    show opB k (a.sat ks) (b.sat ks) = opB k (a.sat ls) (b.sat ls)
    rw [sat_part a fun z hz => h z (List.mem_append_left _ hz), sat_part b fun z hz => h z (List.mem_append_right _ hz)]
end IC
namespace IC
open PySem L2 TL
/-- the lists rs of the texts al -/
def Lsts (H : Hp) (rs : List Addr) (al : List (List Str)) : Prop := rs.length = al.length ∧ ∀ (i : Nat) (r : Addr) (k : List Str), rs[i]? = some r → al[i]? = some k → H r = some (.lst (k.map V.str))
theorem Lsts.same {H H' : Hp} {rs : List Addr} {al : List (List Str)} (h : Lsts H rs al) (s : Same H H') : Lsts H' rs al := ⟨h.1, fun i r k e1 e2 => s _ _ (h.2 i r k e1 e2)⟩
theorem Lsts.snoc {H : Hp} {rs : List Addr} {al : List (List Str)} {r : Addr} {k : List Str} (h : Lsts H rs al) (hr : H r = some (.lst (k.map V.str))) : Lsts H (rs ++ [r]) (al ++ [k]) := by
  refine ⟨by rw [List.length_append, List.length_append, h.1]; rfl, fun i r2 k2 e1 e2 => ?_⟩
  rcases Nat.lt_trichotomy i rs.length with lt | eq | gt
  · rw [List.getElem?_append_left lt] at e1
    rw [List.getElem?_append_left (by rw [← h.1]; exact lt)] at e2
    exact h.2 i r2 k2 e1 e2
  · subst eq
    rw [List.getElem?_append_right (Nat.le_refl _), Nat.sub_self] at e1
    rw [List.getElem?_append_right (by rw [← h.1]; exact Nat.le_refl _), ← h.1, Nat.sub_self] at e2
    cases e1
    cases e2
    exact hr
  · rw [List.getElem?_eq_none (by rw [List.length_append]; exact gt)] at e1
    cases e1
theorem Lsts.append {H : Hp} {rs ss : List Addr} {al bl : List (List Str)} (h : Lsts H rs al) (g : Lsts H ss bl) : Lsts H (rs ++ ss) (al ++ bl) := by
  refine ⟨by rw [List.length_append, List.length_append, h.1, g.1], fun i r k e1 e2 => ?_⟩
  rcases Nat.lt_or_ge i rs.length with lt | ge
  · rw [List.getElem?_append_left lt] at e1
    rw [List.getElem?_append_left (by rw [← h.1]; exact lt)] at e2
    exact h.2 i r k e1 e2
  · rw [List.getElem?_append_right ge] at e1
    rw [List.getElem?_append_right (by rw [← h.1]; exact ge), ← h.1] at e2
    exact g.2 _ r k e1 e2
theorem Lsts.atL {H : Hp} {rs : List Addr} {al : List (List Str)} {D : Addr} {o : HO} (h : Lsts H rs al) (no : D ∉ rs) : Lsts (upd H D o) rs al := ⟨h.1, fun i r k e1 e2 => by
  have nr : r ≠ D := fun e => no (e ▸ List.mem_of_getElem? e1)
  rw [upd_ne nr]
  exact h.2 i r k e1 e2⟩
/-- _law_subsets(records) -/
def spLSubs : Sp := fun vs H Q _ => ∃ (t : Addr) (ns : List Str), vs = [.ref t] ∧ H t = some (.lst (ns.map V.str)) ∧ ns.length ≤ 8 ∧
  ∀ (H' : Hp) (l : Addr) (rs : List Addr), Same H H' → H' l = some (.lst (rs.map V.ref)) → Lsts H' rs (subs ns) → Q (.ref l) H'
section
variable {P : Program} {w : World} {K : PySem.W.Frag} {mg : Str → Option Value} {base : Heap} {C : Addr}
theorem ok_lsubs {f : Addr} {fd : FuncData} (F : Fun K "_law_subsets" "_law_subsets" s_law_subsets f fd) : FnOk P w K mg base CX0 1 f fd ["records"] spLSubs := by
  refine F.ok sc_law_subsets (fun vs H Q E h => ?_) (fun cdv A outer s H vs Q E hr h => ?_)
  · obtain ⟨t, ns, rfl, _⟩ := h
    rfl
  · obtain ⟨t, ns, rfl, ht, few, k⟩ := h
    refine ⟨_, (pss_cons (ps_set (i := 1) sc_law_subsets.nd rfl (Or.inl rfl) (pe_lst (pa_cons (pe_lst pa_nil) pa_nil)))
  (pss_cons (ps_for PassesOwn.never rfl (pi_list (pv 0)) (pg_name (i := 2) sc_law_subsets.nd rfl (Or.inr rfl))
  (pss_one (ps_set (i := 1) sc_law_subsets.nd rfl (Or.inl rfl) (pe_op op_cat (pv 1) (pe_lc (own := [("some", 3)]) (g := gName 3) (tt := tYes) rfl sc_law_subsets.nd (pi_list (pv 1)) (blkOk_by (N := ["records", "found", "record", "some"]) (sc := defScope s_law_subsets) (by decide +kernel)) (fun _ _ _ _ _ => pg_name (i := 3) sc_law_subsets.nd rfl (Or.inl rfl)) (fun _ _ _ _ _ => pts_nil) (fun _ _ _ _ _ => (pe_op op_cat (pv 3) (pe_lst (pa_cons (pv 2) pa_nil)))))))))
  (pss_one (ps_ret (pv 1))))), ?_⟩
    refine ⟨by show 0 ≤ sizeLine; decide, fun u nu => ⟨by show 1 ≤ sizeLine; decide, fun l nl => ?_⟩⟩
    have su := Same.new (o := HO.lst []) nu
    have sl := Same.new (o := HO.lst [.ref u]) nl
    have t0 : Lsts (upd (upd H u (.lst [])) l (.lst [.ref u])) [u] (subs []) := ⟨rfl, fun i r k e1 e2 => by
      cases i with
      | zero =>
        cases e1
        cases e2
        exact sl _ _ upd_same
      | succ i => cases e1⟩
    refine ⟨_, rfl, t, rfl, ⟨_, SqL.of ((su.trans sl) _ _ ht)⟩, for_list (K := K) (a := t) (xs := ns.map V.str) (fun i σ H' => ∃ (l : Addr) (rs : List Addr) (o : Option V), σ = [some (.ref t), some (.ref l), o, none] ∧ Same H H' ∧ H' l = some (.lst (rs.map V.ref)) ∧ Lsts H' rs (subs (ns.take i))) ⟨l, [u], _, rfl, su.trans sl, upd_same, t0⟩ (fun i σ H' _ e => ?_) (fun i x σ H' hi e => ?_) (fun σ H' e => ?_)⟩
    · obtain ⟨l, rs, o, rfl, s1, _⟩ := e
      exact SqL.of (s1 _ _ ht)
    · obtain ⟨l, rs, o, rfl, s1, hl, tu⟩ := e
      rw [List.getElem?_map] at hi
      cases en : ns[i]? with
      | none =>
        rw [en] at hi
        cases hi
      | some n =>
        rw [en] at hi
        cases hi
        have li : i < ns.length := (List.getElem?_eq_some_iff.mp en).1
        have m64 : (subs (ns.take i)).length ≤ 256 := subs_few8 (by rw [List.length_take]; omega)
        have rl := tu.1
        refine ⟨_, rfl, _, rfl, l, rfl, ⟨_, SqL.of hl⟩, fun D nD => ?_⟩
        refine lc_list (K := K) (a := l) (xs := rs.map V.ref) (fun j G => Same H' G ∧ ∃ ss : List Addr, G D = some (.lst (ss.map V.ref)) ∧ D ∉ ss ∧ Lsts G ss (((subs (ns.take i)).take j).map (· ++ [n]))) ⟨Same.new nD, [], upd_same, by simp, rfl, fun i r k e1 e2 => by cases e1⟩ (fun j G _ h => SqL.of (h.1 _ _ hl)) (fun j y G hj h => ?_) (fun G h => ?_)
        · obtain ⟨s2, ss, hD, no, ts⟩ := h
          rw [List.getElem?_map] at hj
          cases er : rs[j]? with
          | none =>
            rw [er] at hj
            cases hj
          | some r =>
            rw [er] at hj
            cases hj
            have lj : j < (subs (ns.take i)).length := by
              rw [← rl]
              exact (List.getElem?_eq_some_iff.mp er).1
            have ek : (subs (ns.take i))[j]? = some (subs (ns.take i))[j] := List.getElem?_eq_getElem lj
            generalize (subs (ns.take i))[j] = key at ek
            have hr1 := s2 _ _ (tu.2 j r key er ek)
            have et : ((subs (ns.take i)).take (j + 1)).map (· ++ [n]) = ((subs (ns.take i)).take j).map (· ++ [n]) ++ [key ++ [n]] := by
              rw [List.take_add_one, ek, List.map_append]
              rfl
            have put : ∀ {G2 : Hp} {p : Addr}, Same G G2 → G2 p = some (.lst ((key ++ [n]).map V.str)) → D ≠ p → ∃ acc, G2 D = some (.lst acc) ∧ acc.length < sizeLine ∧ Same H' (upd G2 D (.lst (acc ++ [.ref p]))) ∧ ∃ ss : List Addr, upd G2 D (.lst (acc ++ [.ref p])) D = some (.lst (ss.map V.ref)) ∧ D ∉ ss ∧ Lsts (upd G2 D (.lst (acc ++ [.ref p]))) ss (((subs (ns.take i)).take (j + 1)).map (· ++ [n])) := fun {G2 p} s3 hp np => by
              have hD2 := s3 _ _ hD
              have no2 : D ∉ ss ++ [p] := by
                rw [List.mem_append, List.mem_singleton]
                exact fun h => h.elim no np
              refine ⟨_, hD2, small1000 ?_, fun b o e => ?_, ss ++ [p], ?_, no2, ?_⟩
              · rw [List.length_map, ts.1, List.length_map, List.length_take]
                omega
              · rw [upd_ne (ne_of_none e nD)]
                exact (s2.trans s3) _ _ e
              · rw [upd_same, List.map_append]
                rfl
              · rw [et]
                exact ((ts.same s3).snoc hp).atL no2
            refine ⟨by simp [wipe], ?_⟩
            refine ⟨_, rfl, _, rfl, by show 1 ≤ sizeLine; decide, fun b nb => ?_⟩
            have sb := Same.new (o := HO.lst [.str n]) nb
            have kl : key.length ≤ 8 := by
              have q := (subs_iff.mp (List.mem_of_getElem? ek)).length_le
              rw [List.length_take] at q
              omega
            refine ⟨r, b, key.map V.str, [.str n], rfl, rfl, sb _ _ hr1, upd_same, Nat.le_of_lt (small1000 (by rw [List.length_map]; show key.length + 1 ≤ 1000; omega)), fun p np => ?_⟩
            refine put (sb.trans (Same.new np)) ?_ (ne_of_none (sb _ _ hD) np)
            rw [upd_same, List.map_append]
            rfl
        · obtain ⟨s2, ss, hD, no, ts⟩ := h
          rw [List.length_map, rl, List.take_length] at ts
          refine ⟨l, D, _, _, rfl, rfl, s2 _ _ hl, hD, Nat.le_of_lt (small1000 ?_), fun p np => ?_⟩
          · rw [List.length_map, List.length_map, rl, ts.1, List.length_map]
            omega
          · have sp := Same.new (o := HO.lst (rs.map V.ref ++ ss.map V.ref)) np
            refine ⟨p, rs ++ ss, _, rfl, (s1.trans s2).trans sp, ?_, ?_⟩
            · rw [upd_same, List.map_append]
            · rw [subs_take en]
              exact ((tu.same s2).append ts).same sp
    · obtain ⟨l, rs, o, rfl, s1, hl, tu⟩ := e
      rw [List.length_map, List.take_length] at tu
      exact ⟨_, rfl, k H' l rs s1 hl tu⟩
end
end IC
namespace IC
open PySem L2 TL
/-- the own == of rules -/
def spEqR (K : PySem.W.Frag) (C : Addr) : Sp := fun vs H Q _ => ∃ (r : Addr) (v : V) (ns : List Str) (al : List (List Str)) (z : Str), vs = [.ref r, v] ∧ RuleAt C H r ns al z ∧ ns.length ≤ 8 ∧
  ((∃ (s : Addr) (ms : List Str) (bl : List (List Str)) (y : Str), v = .ref s ∧ RuleAt C H s ms bl y ∧ ms.length ≤ 8 ∧ (∀ M : List Str, M.Nodup → (∀ z ∈ M, z ∈ ns ∨ z ∈ ms) → M.length ≤ 8) ∧ ∀ (b : Bool) (H' : Hp), Same H H' → (b = true ↔ ∀ ks, may ns al ks = may ms bl ks) → Q (.bl b) H') ∨
   (∃ t, TyX K H v t ∧ PySem.W.kitOne K t (.ref C) = some false ∧ ∀ H', Same H H' → Q (.bl false) H'))
theorem eq_all {ns ms ys : List Str} {al bl : List (List Str)} (mem : ∀ z, z ∈ ys ↔ z ∈ ns ∨ z ∈ ms) : (((subs ys).map fun k => decide (V.bl (may ns al k) = V.bl (may ms bl k))).all id = true) ↔ ∀ ks, may ns al ks = may ms bl ks := by
  rw [List.all_eq_true]
  constructor
  · intro h ks
    have q := of_decide_eq_true (h _ (List.mem_map.mpr ⟨ys.filter fun n => decide (n ∈ ks), subs_iff.mpr List.filter_sublist, rfl⟩))
    injection q with q
    rw [may_part (fun x hx => (mem x).mpr (.inl hx)), may_part (fun x hx => (mem x).mpr (.inr hx))] at q
    exact q
  · intro h b hb
    obtain ⟨k, _, rfl⟩ := List.mem_map.mp hb
    exact decide_eq_true (by rw [h k])
section
variable {P : Program} {w : World} {K : PySem.W.Frag} {mg : Str → Option Value} {base : Heap} {C : Addr}
theorem ok_eq {f : Addr} {fd : FuncData} {g : Addr} (F : Fun K "__eq__" "Rule.__eq__" s_Rule___eq__ f fd) (T : Bn mg) (R : RTxt K mg C) (EQ : EqTxt K C g) (D_subsets : Df P w K mg base 1 "subsets" ["names"] spSubs) (D_united : Df P w K mg base 1 "united" ["names", "others"] spUnited) (M_allows : MDf P w K mg base CX0 1 C "_allows" ["self", "kept"] [] (spAsk C)) : FnOk P w K mg base CX0 2 f fd ["self", "other"] (spEqR K C) := by
  refine F.ok sc_Rule___eq__ (fun vs H Q E h => ?_) (fun cdv A outer s H vs Q E hr h => ?_)
  · obtain ⟨r, v, ns, al, z, rfl, _⟩ := h
    rfl
  · obtain ⟨r, v, ns, al, z, rfl, ra, l8, cs⟩ := h
    refine ⟨_, (pss_cons (ps_if (pt_not (pt_val (pe_callB call_isi (by rfl) T.isi PyProof.Rows.boot_isinstance (pa_cons (pv 1) (pa_cons (pe_glob (v := .ref _) rfl R.gC rfl) pa_nil)))))
  (pss_one (ps_ret pe_bl))
  pss_nil)
  (pss_cons (ps_set (i := 2) sc_Rule___eq__.nd rfl (Or.inl rfl) (pe_df D_subsets hr (by first | decide | omega) rfl (pa_cons (pe_df D_united hr (by first | decide | omega) rfl (pa_cons (pe_fld (pv 0) rfl) (pa_cons (pe_fld (pv 1) rfl) pa_nil))) pa_nil)))
  (pss_one (ps_ret (pe_callB (cr_all rfl) (by rfl) T.all (by decide +kernel) (pa_cons (pe_lc (own := [("some", 3)]) (g := gName 3) (tt := tYes) rfl sc_Rule___eq__.nd (pi_list (pv 2)) (blkOk_by (N := ["self", "other", "every", "some"]) (sc := defScope s_Rule___eq__) (by decide +kernel)) (fun _ _ _ _ _ => pg_name (i := 3) sc_Rule___eq__.nd rfl (Or.inl rfl)) (fun _ _ _ _ _ => pts_nil) (fun _ _ _ _ _ => (pe_cmpR op_eq (pe_md M_allows R.c hr (by first | decide | omega) (pv 0) (pa_cons (pv 3) pa_nil)) (pe_md M_allows R.c hr (by first | decide | omega) (pv 1) (pa_cons (pv 3) pa_nil)) (nomark _)))) pa_nil)))))), ?_⟩
    have ins : ∀ {G : Hp} {r : Addr} {ns : List Str} {al : List (List Str)} {z : Str}, RuleAt C G r ns al z → ∃ dx fs, G r = some (.ins C dx fs) ∧ fs.lookup (Str.ofString "_allows") = none := fun h => by
      obtain ⟨dx, t, d, h1, _⟩ := h
      exact ⟨dx, _, h1, rfl⟩
    rcases cs with ⟨q, ms, bl, y, rfl, rb, m8, u8, k⟩ | ⟨t, ty, kit, k⟩
    · have rb0 := rb
      obtain ⟨dy, u, e, g1, g2, g3⟩ := rb0
      have ra0 := ra
      obtain ⟨dx, t, d, h1, h2, h3⟩ := ra0
      refine ⟨_, rfl, .ref q, .ref C, .ref C, .ref C, true, rfl, .own C, EQ.ty g1, EQ.self, true, rfl, ?_⟩
      refine ⟨_, rfl, r, C, dx, _, _, rfl, h1, R.c, R.n, rfl, _, rfl, q, C, dy, _, _, rfl, g1, R.c, R.n, rfl, t, u, ns, ms, rfl, h2, g2, by omega, by omega, fun M ys nd mem perm so H1 p s1 hp => ?_⟩
      have y8 : ys.length ≤ 8 := by
        rw [perm.length_eq]
        exact u8 M nd fun z hz => (mem z).mp hz
      have memY : ∀ z, z ∈ ys ↔ z ∈ ns ∨ z ∈ ms := fun z => (perm.mem_iff).trans (mem z)
      refine ⟨p, ys, rfl, hp, y8, fun H2 l rs s2 hl tu => ?_⟩
      have sH := s1.trans s2
      have rl := tu.1
      have m256 := subs_few8 y8
      refine ⟨_, rfl, l, rfl, ⟨_, SqL.of hl⟩, fun D nD => ?_⟩
      refine lc_list (K := K) (a := l) (xs := rs.map V.ref) (fun j G => Same H2 G ∧ G D = some (.lst ((((subs ys).take j).map fun k => decide (V.bl (may ns al k) = V.bl (may ms bl k))).map V.bl))) ⟨Same.new nD, upd_same⟩ (fun j G _ h => SqL.of (h.1 _ _ hl)) (fun j y G hj h => ?_) (fun G h => ?_)
      · obtain ⟨s3, hD⟩ := h
        rw [List.getElem?_map] at hj
        cases er : rs[j]? with
        | none =>
          rw [er] at hj
          cases hj
        | some x =>
          rw [er] at hj
          cases hj
          have lj : j < (subs ys).length := by
            rw [← rl]
            exact (List.getElem?_eq_some_iff.mp er).1
          have ek : (subs ys)[j]? = some (subs ys)[j] := List.getElem?_eq_getElem lj
          generalize (subs ys)[j] = key at ek
          have hx := s3 _ _ (tu.2 j x key er ek)
          have ra3 := ra.same (sH.trans s3)
          have rb3 := rb.same (sH.trans s3)
          obtain ⟨da, fa, a1, a2⟩ := ins ra3
          obtain ⟨db, fb, b1, b2⟩ := ins rb3
          refine ⟨by simp [wipe], ?_⟩
          refine ⟨_, rfl, r, da, fa, rfl, a1, a2, _, rfl, r, x, ns, key, al, _, rfl, ra3, .inr hx, by omega, fun G2 s4 => ?_⟩
          refine ⟨_, rfl, q, db, fb, rfl, s4 _ _ b1, b2, _, rfl, q, x, ms, key, bl, _, rfl, rb3.same s4, .inr (s4 _ _ hx), by omega, fun G3 s5 => ⟨rfl, ?_⟩⟩
          have s45 := s4.trans s5
          refine ⟨_, s45 _ _ hD, small1000 (by rw [List.length_map, List.length_map, List.length_take]; omega), fun b o e => ?_, ?_⟩
          · rw [upd_ne (ne_of_none e nD)]
            exact (s3.trans s45) _ _ e
          · rw [upd_same, List.take_add_one, ek, List.map_append, List.map_append]
            rfl
      · obtain ⟨s3, hD⟩ := h
        rw [List.length_map, rl, List.take_length] at hD
        exact ⟨D, _, rfl, SqL.of hD, k _ _ (sH.trans s3) (eq_all memY)⟩
    · refine ⟨_, rfl, v, .ref C, t, .ref C, false, rfl, .own C, ty, kit, false, rfl, ?_⟩
      exact k H (Same.refl H)
end
end IC
namespace IC
open PySem L2 TL
theorem ite_no {p q : Prop} {c : Bool} (h : c = false) (x : q) : if c = true then p else q := by
  rw [h]
  exact iteF x
/-- a rule that is what n tells -/
def IsX (C : Addr) (ws : List Str) (h : Nat) (H : Hp) (r : Addr) (n : Nd) : Prop := ∃ ns al z, Is C ws h H r n ns al z
theorem IsX.same {C : Addr} {ws : List Str} {h : Nat} {H H' : Hp} {r : Addr} {n : Nd} : IsX C ws h H r n → Same H H' → IsX C ws h H' r n := fun ⟨ns, al, z, a⟩ s => ⟨ns, al, z, a.same s⟩
theorem IsX.mv {C : Addr} {ws : List Str} {h : Nat} {H H' : Hp} {p r : Addr} {n : Nd} {xs : List V} : IsX C ws h H r n → Kp [p] H H' → H p = some (.lst xs) → IsX C ws h H' r n := fun ⟨ns, al, z, a⟩ k e => ⟨ns, al, z, a.mv k e⟩
theorem wds_up {a b : List Str} (sub : ∀ z ∈ a, z ∈ b) (n : Nd) : n.wds a → n.wds b := by
  induction n with
  | has z => exact fun w => sub z w
  | tog zs => exact fun w => ⟨fun z q => sub z (w.1 z q), w.2⟩
  | alw => exact fun _ => True.intro
  | no a ih => exact ih
  | two k a b iha ihb => exact fun w => ⟨iha w.1, ihb w.2⟩
theorem cut_to (xs : List V) (k : Nat) : cutV xs none (some (k : Int)) = xs.take k := by
  have e : HT.sIx xs.length xs.length (some (k : Int)) = min k xs.length := by
    show (if (k : Int) < 0 then ((k : Int) + (xs.length : Int)).toNat else min (k : Int).toNat xs.length) = _
    rw [if_neg (by omega), Int.toNat_natCast]
  unfold cutV
  rw [e]
  show (xs.drop 0).take (min k xs.length - 0) = xs.take k
  rw [List.drop_zero, Nat.sub_zero]
  by_cases h : k ≤ xs.length
  · rw [Nat.min_eq_left h]
  · rw [Nat.min_eq_right (by omega), List.take_of_length_le (Nat.le_refl _), List.take_of_length_le (by omega)]
theorem cut_from (xs : List V) (i : Int) : ∃ j, cutV xs (some i) none = xs.drop j ∧ j = HT.sIx xs.length 0 (some i) := by
  refine ⟨_, ?_, rfl⟩
  unfold cutV
  refine List.take_of_length_le ?_
  rw [List.length_drop]
  exact Nat.le_refl _
theorem last5 {n : Nat} (h4 : 4 ≤ n) : 1 ≤ n - HT.sIx n 0 (some ((n : Int) - 5)) ∧ n - HT.sIx n 0 (some ((n : Int) - 5)) ≤ 5 := by
  unfold HT.sIx
  by_cases h : (n : Int) - 5 < 0
  · simp only [h, if_true]
    omega
  · simp only [h, if_false]
    omega
theorem IsX.up {C : Addr} {ws : List Str} {h g : Nat} {H : Hp} {r : Addr} {n : Nd} : IsX C ws h H r n → h ≤ g → IsX C ws g H r n := fun ⟨ns, al, z, a⟩ e => ⟨ns, al, z, a.up e⟩
theorem IsX.ins {C : Addr} {ws : List Str} {h : Nat} {H : Hp} {r : Addr} {n : Nd} : IsX C ws h H r n → ∃ dx fs, H r = some (.ins C dx fs) := fun ⟨_, _, _, a⟩ => by
  obtain ⟨dx, t, d, q, _⟩ := a.at_
  exact ⟨dx, _, q⟩
section
variable {K : PySem.W.Frag} {C : Addr} {ws vs : List Str} {h h2 : Nat} {G : Hp} {r1 r2 g : Addr} {n m : Nd} {Q : VK}
theorem few_of (w6 : ws.length ≤ 6) {ns ms : List Str} (a : ∀ x ∈ ns, x ∈ ws) (b : ∀ x ∈ ms, x ∈ ws) (M : List Str) (nd : M.Nodup) (q : ∀ z ∈ M, z ∈ ns ∨ z ∈ ms) : M.length ≤ 6 := Nat.le_trans (nodup_len ws M nd fun z hz => (q z hz).elim (a z) (b z)) w6
theorem do_two (k : Fin 3) (a : IsX C ws h G r1 n) (b : IsX C ws h G r2 m) (w6 : ws.length ≤ 6) (hh : h ≤ 7) (go : ∀ G3 r, Same G G3 → IsX C ws (h + 1) G3 r (.two k n m) → Q (.ref r) G3) : rOwn C (spOp2 C (opB k) (opS k)) (.ref r1) (.ref r2) G Q := by
  obtain ⟨ns, al, z, a⟩ := a
  obtain ⟨ms, bl, y, b⟩ := b
  have big7 : lenB 7 ≤ 40000 := by decide
  have lz := Nat.le_trans a.len (Nat.le_trans (lenB_up hh) big7)
  have ly := Nat.le_trans b.len (Nat.le_trans (lenB_up hh) big7)
  have l1 := a.few
  have l2 := b.few
  obtain ⟨dx, fs, e1⟩ := IsX.ins ⟨ns, al, z, a⟩
  obtain ⟨dy, gs, e2⟩ := IsX.ins ⟨ms, bl, y, b⟩
  refine ⟨r1, r2, dx, dy, fs, gs, rfl, rfl, e1, e2, r1, r2, ns, ms, al, bl, z, y, rfl, a.at_, b.at_, by omega, by omega, few_of w6 a.sub b.sub, lz, ly, fun M ys nd mem perm so G3 r s1 ra => ?_⟩
  have y6 : ys.length ≤ 6 := by
    rw [perm.length_eq]
    exact few_of w6 a.sub b.sub M nd fun z hz => (mem z).mp hz
  exact go G3 r s1 ⟨_, _, _, is_two (a.same s1) (b.same s1) (fun z => (perm.mem_iff).trans (mem z)) y6 (perm.nodup_iff.mpr nd) so ra⟩
theorem do_no (a : IsX C ws h G r1 n) (hh : h ≤ 7) (go : ∀ G3 r, Same G G3 → IsX C ws (h + 1) G3 r (.no n) → Q (.ref r) G3) : rOwn1 C (spNot C) (.ref r1) G Q := by
  obtain ⟨ns, al, z, a⟩ := a
  have big7 : lenB 7 ≤ 40000 := by decide
  have lz := Nat.le_trans a.len (Nat.le_trans (lenB_up hh) big7)
  obtain ⟨dx, fs, e1⟩ := IsX.ins ⟨ns, al, z, a⟩
  exact ⟨r1, dx, fs, rfl, e1, r1, ns, al, z, rfl, a.at_, a.few, lz, fun G3 r s1 ra => go G3 r s1 ⟨_, _, _, is_no (a.same s1) ra⟩⟩
theorem do_alw (go : ∀ G3 r, Same G G3 → IsX C ws 0 G3 r .alw → Q (.ref r) G3) : spAlways C [] G Q E0 := ⟨rfl, fun G3 r s1 ra => go G3 r s1 ⟨_, _, _, is_alw ra⟩⟩
theorem do_tog1 {z : Str} (hz : z ∈ ws) (wz : IsW z) (go : ∀ G3 r, Same G G3 → IsX C ws 0 G3 r (.tog [z]) → Q (.ref r) G3) : spStar C [.str z] G Q E0 := by
  refine ⟨by show 1 ≤ sizeLine; decide, fun t nt => ⟨t, [z], rfl, upd_same, fun x hx => ?_, by show 1 ≤ 6; decide, fun M ys nd ml mem perm so G3 r s1 ra => ?_⟩⟩
  · rw [List.mem_singleton.mp hx]
    exact wz
  · refine go G3 r ((Same.new nt).trans s1) ⟨_, _, _, is_tog (fun x hx => ?_) (fun x hx => ?_) (by show 1 ≤ 3; decide) nd ml mem perm so ra⟩
    · rw [List.mem_singleton.mp hx]
      exact hz
    · rw [List.mem_singleton.mp hx]
      exact wz
theorem do_eq (EQ : EqTxt K C g) (a : IsX C ws h G r1 n) (b : IsX C vs h2 G r2 m) (u8 : ∀ M : List Str, M.Nodup → (∀ z ∈ M, z ∈ ws ∨ z ∈ vs) → M.length ≤ 8) (go : ∀ (c : Bool) G3, Same G G3 → (c = true ↔ ∀ ks, n.sat ks = m.sat ks) → Q (.bl c) G3) : rEqOwn K C (spEqR K C) (.ref r1) (.ref r2) G Q := by
  obtain ⟨dx, fs, e1⟩ := a.ins
  obtain ⟨dy, gs, e2⟩ := b.ins
  obtain ⟨ns, al, z, a⟩ := a
  obtain ⟨ms, bl, y, b⟩ := b
  refine ⟨r1, dx, fs, .ref C, rfl, e1, EQ.ty e2, far_own, r1, .ref r2, ns, al, z, rfl, a.at_, Nat.le_trans a.few (by decide), .inl ⟨r2, ms, bl, y, rfl, b.at_, Nat.le_trans b.few (by decide), fun M nd q => u8 M nd fun z hz => (q z hz).imp (a.sub z) (b.sub z), fun c G3 s1 e => go c G3 s1 (e.trans (forall_congr' fun ks => ?_))⟩⟩
  rw [a.sem, b.sem]
theorem do_ne (a : IsX C ws h G r1 n) (b : IsX C vs h2 G r2 m) (u8 : ∀ M : List Str, M.Nodup → (∀ z ∈ M, z ∈ ws ∨ z ∈ vs) → M.length ≤ 8) (go : ∀ (c : Bool) G3, Same G G3 → (c = true ↔ ∀ ks, n.sat ks = m.sat ks) → Q (.bl (!c)) G3) : rNeOwn C (spEqR K C) (.ref r1) (.ref r2) G Q := by
  obtain ⟨dx, fs, e1⟩ := a.ins
  obtain ⟨dy, gs, e2⟩ := b.ins
  obtain ⟨ns, al, z, a⟩ := a
  obtain ⟨ms, bl, y, b⟩ := b
  refine ⟨r1, r2, dx, dy, fs, gs, rfl, rfl, e1, e2, r1, .ref r2, ns, al, z, rfl, a.at_, Nat.le_trans a.few (by decide), .inl ⟨r2, ms, bl, y, rfl, b.at_, Nat.le_trans b.few (by decide), fun M nd q => u8 M nd fun z hz => (q z hz).imp (a.sub z) (b.sub z), fun c G3 s1 e => ⟨c, rfl, go c G3 s1 (e.trans (forall_congr' fun ks => ?_))⟩⟩⟩
  rw [a.sem, b.sem]
theorem u_one (w6 : ws.length ≤ 6) (M : List Str) (nd : M.Nodup) (q : ∀ z ∈ M, z ∈ ws ∨ z ∈ ws) : M.length ≤ 8 := Nat.le_trans (few_of w6 (fun _ x => x) (fun _ x => x) M nd q) (by decide)
theorem eq_yes (EQ : EqTxt K C g) (w6 : ws.length ≤ 6) (a : IsX C ws h G r1 n) (b : IsX C ws h2 G r2 m) (all : ∀ ks, n.sat ks = m.sat ks) (go : ∀ G3, Same G G3 → Q (.bl true) G3) : rEqOwn K C (spEqR K C) (.ref r1) (.ref r2) G Q :=
  do_eq EQ a b (u_one w6) fun c G3 s1 e => by
    rw [e.mpr all]
    exact go G3 s1
theorem do_far {v : V} {T : String} (EQ : EqTxt K C g) (a : IsX C ws h G r1 n) (ty : TyX K G v (.type T)) (sf : PySem.W.subIn K (.type T) (.ref C) = some false) (go : ∀ G3, Same G G3 → Q (.bl false) G3) : rEqOwn K C (spEqR K C) (.ref r1) v G Q := by
  obtain ⟨dx, fs, e1⟩ := a.ins
  obtain ⟨ns, al, z, a⟩ := a
  exact ⟨r1, dx, fs, .type T, rfl, e1, ty, far_of sf, r1, v, ns, al, z, rfl, a.at_, Nat.le_trans a.few (by decide), .inr ⟨.type T, ty, EQ.kit sf, go⟩⟩
end
theorem at_tup {H : Hp} : ∀ {n : Nd} {v : V}, n.at_ H v → ∃ p xs, v = .ref p ∧ H p = some (.tup xs)
  | .has _, _, ⟨p, e, h⟩ => ⟨p, _, e, h⟩
  | .tog _, _, ⟨p, _, e, h, _⟩ => ⟨p, _, e, h⟩
  | .alw, _, ⟨p, e, h⟩ => ⟨p, _, e, h⟩
  | .no _, _, ⟨p, _, e, h, _⟩ => ⟨p, _, e, h⟩
  | .two _ _ _, _, ⟨p, _, _, e, h, _⟩ => ⟨p, _, e, h⟩
/-- whether both allow the first j sets -/
def duJ (n m : Nd) (ys : List Str) (j : Nat) : Bool := ((subs ys).take j).all fun k => n.sat k == m.sat k
theorem duJ_all {n m : Nd} {ys ws vs : List Str} (wn : n.wds ws) (wm : m.wds vs) (mem : ∀ z, z ∈ ys ↔ z ∈ ws ∨ z ∈ vs) : duJ n m ys (subs ys).length = true ↔ ∀ ks, n.sat ks = m.sat ks := by
  have inW : ∀ (n : Nd) (ws : List Str), n.wds ws → ∀ z ∈ n.recs, z ∈ ws := by
    intro n ws
    induction n with
    | has z =>
      intro w x hx
      rw [List.mem_singleton.mp hx]
      exact w
    | tog zs => exact fun w => w.1
    | alw => exact fun _ x hx => nomatch hx
    | no a ih => exact ih
    | two k a b iha ihb => exact fun w x hx => (List.mem_append.mp hx).elim (iha w.1 x) (ihb w.2 x)
  unfold duJ
  rw [List.take_length, List.all_eq_true]
  constructor
  · intro h ks
    have q := h _ (subs_iff.mpr (List.filter_sublist (p := fun n => decide (n ∈ ks)) (l := ys)))
    rw [beq_iff_eq] at q
    have part : ∀ z ∈ ys, z ∈ ys.filter (fun n => decide (n ∈ ks)) ↔ z ∈ ks := fun z hz => by
      rw [List.mem_filter, decide_eq_true_iff]
      exact ⟨fun q => q.2, fun q => ⟨hz, q⟩⟩
    rw [sat_part n fun z hz => part z ((mem z).mpr (.inl (inW n ws wn z hz))), sat_part m fun z hz => part z ((mem z).mpr (.inr (inW m vs wm z hz)))] at q
    exact q
  · intro h k _
    rw [beq_iff_eq]
    exact h k
theorem duJ_next {n m : Nd} {ys : List Str} {j : Nat} {k : List Str} (e : (subs ys)[j]? = some k) : duJ n m ys (j + 1) = (duJ n m ys j && (n.sat k == m.sat k)) := by
  unfold duJ
  rw [List.take_add_one, e, List.all_append]
  simp
theorem bl_eq (a b : Bool) : decide (V.bl a = V.bl b) = (a == b) := by
  cases a <;> cases b <;> decide
end IC
namespace IC
open PySem L2 TL
theorem cr_str2 {X : Cx} {C : Addr} {j : Nat} (O : ROps X.prog X.w X.K X.mg X.base C) (hr : Room j X.A) (hk : 3 ≤ j) : CallR X (.type "str") (rStrOwn C (spStr C)) := by
  rcases O.s with ⟨g, h1, h2, F⟩
  exact cr_strOwn h1 h2 F (hr.mono hk)
end IC
namespace IC
open PySem L2 TL
section
variable {P : Program} {w : World} {K : PySem.W.Frag} {mg : Str → Option Value} {base : Heap} {C : Addr}
theorem ok_law16 {f : Addr} {fd : FuncData} {g pT fT pA fA : Addr} (F : Fun K "law" "law" s_law f fd) (T : Bn mg) (R : RTxt K mg C) (D_law_pool : Df P w K mg base 1 "_law_pool" ["script", "at"] (spPool K)) (D_law_draw : Df P w K mg base 1 "_law_draw" ["pool", "many"] spDraw) (D_law_word : Df P w K mg base 2 "_law_word" ["pool"] spWord)
    (D_law_subsets : Df P w K mg base 1 "_law_subsets" ["records"] spLSubs) (D_law_built : Df P w K mg base 10 "_law_built" ["pool", "records", "depth"] (spB C 5)) (D_law_built1 : Df P w K mg base 9 "_law_built" ["pool", "records", "depth"] (spB C 4)) (D_law_allows : Df P w K mg base 6 "_law_allows" ["node", "kept"] (spA 5)) (O : ROps P w K mg base C)
    (S_t : SMet K C (.type "type") "together" pT fT) (F_t : FnR P w K mg base CX0 4 fT (spStar C)) (S_a : SMet K C (.type "type") "always" pA fA) (F_a : FnR P w K mg base CX0 3 fA (spAlways C)) (EQ : EqTxt K C g) (F_eq : FnR P w K mg base CX0 2 g (spEqR K C)) : FnOk P w K mg base CX0 12 f fd ["script"] (spLaw K) := by
  refine F.ok sc_law (fun vs H Q E h => ?_) (fun cdv A outer s H vs Q E hr h => ?_)
  · obtain ⟨a, ns, rfl, _⟩ := h
    rfl
  · obtain ⟨a, ns, rfl, hS, hlen, k⟩ := h
    refine ⟨_, (pss_cons (ps_for PassesOwn.never rfl (pi_range1 rfl T.range (pa_cons (pe_callB (call_max2 rfl) (by rfl) T.max PyProof.Rows.boot_max (pa_cons pe_int (pa_cons (pe_callB (call_min2 rfl) (by rfl) T.min PyProof.Rows.boot_min (pa_cons pe_int (pa_cons (pe_callB call_len_seq (by rfl) T.len PySem.boot_len (pa_cons (pv 0) pa_nil)) pa_nil))) pa_nil))) pa_nil)) (pg_name (i := 1) sc_law.nd rfl (Or.inl rfl))
  (pss_cons (ps_set (i := 2) sc_law.nd rfl (Or.inr rfl) (pe_df D_law_pool hr (by first | decide | omega) rfl (pa_cons (pv 0) (pa_cons (pv 1) pa_nil))))
  (pss_cons (ps_setLc (i := 3) (own := [("k", 14)]) (g := gName 14) (tt := tYes) rfl sc_law.nd rfl rfl rfl (pi_range1 rfl T.range (pa_cons (pe_op op_add pe_int (pe_df D_law_draw hr (by first | decide | omega) rfl (pa_cons (pv 2) (pa_cons pe_int pa_nil)))) pa_nil)) (blkOk_by (N := ["script", "at", "pool", "records", "one", "first", "other", "second", "due", "some", "same", "words", "far", "third", "k"]) (sc := defScope s_law) (by decide +kernel)) (fun _ _ _ _ _ => pg_name (i := 14) sc_law.nd rfl (Or.inl rfl)) (fun _ _ _ _ _ => pts_nil) (fun _ _ _ _ _ => (pe_df D_law_word hr (by first | decide | omega) rfl (pa_cons (pv 2) pa_nil))))
  (pss_cons (ps_asg (pe_df D_law_built hr (by first | decide | omega) rfl (pa_cons (pv 2) (pa_cons (pv 3) (pa_cons pe_int pa_nil)))) (pg_tup rfl (pgs_cons (pg_name (i := 4) sc_law.nd rfl (Or.inl rfl)) (pgs_cons (pg_name (i := 5) sc_law.nd rfl (Or.inl rfl)) pgs_nil))))
  (pss_cons (ps_asg (pe_df D_law_built hr (by first | decide | omega) rfl (pa_cons (pv 2) (pa_cons (pv 3) (pa_cons pe_int pa_nil)))) (pg_tup rfl (pgs_cons (pg_name (i := 6) sc_law.nd rfl (Or.inl rfl)) (pgs_cons (pg_name (i := 7) sc_law.nd rfl (Or.inl rfl)) pgs_nil))))
  (pss_cons (ps_set (i := 8) sc_law.nd rfl (Or.inl rfl) pe_bl)
  (pss_cons (ps_for PassesOwn.never rfl (pi_list (pe_df D_law_subsets hr (by first | decide | omega) rfl (pa_cons (pe_callB (cr_sortTx rfl) (by rfl) T.sorted (by decide +kernel) (pa_cons (pe_callTy (cr_setTx rfl) (by rfl) T.set (by decide +kernel) (pa_cons (pv 3) pa_nil)) pa_nil)) pa_nil))) (pg_name (i := 9) sc_law.nd rfl (Or.inl rfl))
  (pss_one (ps_set (i := 8) sc_law.nd rfl (Or.inl rfl) (pe_and (pv 8) (pe_one (pe_cmpR op_eq (pe_df D_law_allows hr (by first | decide | omega) rfl (pa_cons (pv 5) (pa_cons (pv 9) pa_nil))) (pe_df D_law_allows hr (by first | decide | omega) rfl (pa_cons (pv 7) (pa_cons (pv 9) pa_nil))) (nomark _)))))))
  (pss_cons (ps_if (PW.pt (pw_or (pt_cmpR op_ne (pe_cmpR (show OpR _ _ (rEqOwn K C (spEqR K C)) from op_eqOwn EQ F_eq (hr.mono (by decide))) (pv 4) (pv 6) (nomark _)) (pv 8) (nomark _)) (pw_or (pt_cmpR op_ne (pe_cmpR (show OpR _ _ (rEqOwn K C (spEqR K C)) from op_eqOwn EQ F_eq (hr.mono (by decide))) (pv 6) (pv 4) (nomark _)) (pv 8) (nomark _)) (pw_or1 (pt_cmpR op_eq (pe_cmpR (show OpR _ _ (rNeOwn C (spEqR K C)) from op_neOwn EQ F_eq (hr.mono (by decide))) (pv 4) (pv 6) (nomark _)) (pv 8) (nomark _))))))
  (pss_one (ps_ret pe_bl))
  pss_nil)
  (pss_cons (ps_set (i := 10) sc_law.nd rfl (Or.inl rfl) (pe_lst (pa_cons (pe_cmpR (show OpR _ _ (rEqOwn K C (spEqR K C)) from op_eqOwn EQ F_eq (hr.mono (by decide))) (pv 4) (pv 4) (nomark _)) (pa_cons (pe_cmpR (show OpR _ _ (rEqOwn K C (spEqR K C)) from op_eqOwn EQ F_eq (hr.mono (by decide))) (pe_needs2 O hr (by first | decide | omega) (pv 4) (pv 6)) (pe_or2 O hr (by first | decide | omega) (pe_no O hr (by first | decide | omega) (pv 4)) (pv 6)) (nomark _)) (pa_cons (pe_cmpR (show OpR _ _ (rEqOwn K C (spEqR K C)) from op_eqOwn EQ F_eq (hr.mono (by decide))) (pe_no O hr (by first | decide | omega) (pe_no O hr (by first | decide | omega) (pv 4))) (pv 4) (nomark _)) (pa_cons (pe_cmpR (show OpR _ _ (rEqOwn K C (spEqR K C)) from op_eqOwn EQ F_eq (hr.mono (by decide))) (pe_and2 O hr (by first | decide | omega) (pv 4) (pv 6)) (pe_no O hr (by first | decide | omega) (pe_or2 O hr (by first | decide | omega) (pe_no O hr (by first | decide | omega) (pv 4)) (pe_no O hr (by first | decide | omega) (pv 6)))) (nomark _)) pa_nil))))))
  (pss_cons (ps_set (i := 10) sc_law.nd rfl (Or.inl rfl) (pe_op op_cat (pv 10) (pe_lst (pa_cons (pe_cmpR (show OpR _ _ (rEqOwn K C (spEqR K C)) from op_eqOwn EQ F_eq (hr.mono (by decide))) (pe_and2 O hr (by first | decide | omega) (pv 4) (pv 6)) (pe_and2 O hr (by first | decide | omega) (pv 6) (pv 4)) (nomark _)) (pa_cons (pe_cmpR (show OpR _ _ (rEqOwn K C (spEqR K C)) from op_eqOwn EQ F_eq (hr.mono (by decide))) (pe_or2 O hr (by first | decide | omega) (pv 4) (pv 6)) (pe_or2 O hr (by first | decide | omega) (pv 6) (pv 4)) (nomark _)) (pa_cons (pe_cmpR (show OpR _ _ (rEqOwn K C (spEqR K C)) from op_eqOwn EQ F_eq (hr.mono (by decide))) (pe_and2 O hr (by first | decide | omega) (pv 4) (pe_smR0 (pe_glob (v := .ref _) rfl R.gC rfl) S_a F_a hr (by first | decide | omega))) (pv 4) (nomark _)) pa_nil))))))
  (pss_cons (ps_set (i := 10) sc_law.nd rfl (Or.inl rfl) (pe_op op_cat (pv 10) (pe_lst (pa_cons (pe_cmpR (show OpR _ _ (rEqOwn K C (spEqR K C)) from op_eqOwn EQ F_eq (hr.mono (by decide))) (pe_or2 O hr (by first | decide | omega) (pv 4) (pe_smR0 (pe_glob (v := .ref _) rfl R.gC rfl) S_a F_a hr (by first | decide | omega))) (pe_smR0 (pe_glob (v := .ref _) rfl R.gC rfl) S_a F_a hr (by first | decide | omega)) (nomark _)) (pa_cons (pe_cmpR (show OpR _ _ (rEqOwn K C (spEqR K C)) from op_eqOwn EQ F_eq (hr.mono (by decide))) (pe_and2 O hr (by first | decide | omega) (pv 4) (pe_no O hr (by first | decide | omega) (pv 4))) (pe_no O hr (by first | decide | omega) (pe_smR0 (pe_glob (v := .ref _) rfl R.gC rfl) S_a F_a hr (by first | decide | omega))) (nomark _)) pa_nil)))))
  (pss_cons (ps_set (i := 10) sc_law.nd rfl (Or.inl rfl) (pe_op op_cat (pv 10) (pe_lst (pa_cons (pe_cmpR (show OpR _ _ (rEqOwn K C (spEqR K C)) from op_eqOwn EQ F_eq (hr.mono (by decide))) (pe_smR (pe_glob (v := .ref _) rfl R.gC rfl) S_t F_t hr (by first | decide | omega) (pa_cons (pe_ix ix_list (pv 3) pe_int (fun _ _ => rfl)) pa_nil)) (pe_smR0 (pe_glob (v := .ref _) rfl R.gC rfl) S_a F_a hr (by first | decide | omega)) (nomark _)) pa_nil))))
  (pss_cons (ps_if (pt_cmpR op_in_seq pe_bl (pv 10) (by rfl))
  (pss_one (ps_ret pe_bl))
  pss_nil)
  (pss_cons (ps_set (i := 11) sc_law.nd rfl (Or.inl rfl) (pe_op op_cat (pe_slice sl_list (pe_callB (cr_sortTx rfl) (by rfl) T.sorted (by decide +kernel) (pa_cons (pe_callTy (cr_setTx rfl) (by rfl) T.set (by decide +kernel) (pa_cons (pv 3) pa_nil)) pa_nil)) po_none (po_some pe_int)) (pe_lc (own := [("k", 14)]) (g := gName 14) (tt := tYes) rfl sc_law.nd (pi_range1 rfl T.range (pa_cons pe_int pa_nil)) (blkOk_by (N := ["script", "at", "pool", "records", "one", "first", "other", "second", "due", "some", "same", "words", "far", "third", "k"]) (sc := defScope s_law) (by decide +kernel)) (fun _ _ _ _ _ => pg_name (i := 14) sc_law.nd rfl (Or.inl rfl)) (fun _ _ _ _ _ => pts_nil) (fun _ _ _ _ _ => (pe_df D_law_word hr (by first | decide | omega) rfl (pa_cons (pv 2) pa_nil))))))
  (pss_cons (ps_asg (pe_df D_law_built1 hr (by first | decide | omega) rfl (pa_cons (pv 2) (pa_cons (pe_slice sl_list (pv 11) (po_some (pe_op op_sub (pe_callB call_len_seq (by rfl) T.len PySem.boot_len (pa_cons (pv 11) pa_nil)) pe_int)) po_none) (pa_cons pe_int pa_nil)))) (pg_tup rfl (pgs_cons (pg_name (i := 12) sc_law.nd rfl (Or.inl rfl)) (pgs_cons (pg_name (i := 13) sc_law.nd rfl (Or.inl rfl)) pgs_nil))))
  (pss_cons (ps_set (i := 8) sc_law.nd rfl (Or.inl rfl) pe_bl)
  (pss_cons (ps_for PassesOwn.never rfl (pi_list (pe_df D_law_subsets hr (by first | decide | omega) rfl (pa_cons (pe_callB (cr_sortTx rfl) (by rfl) T.sorted (by decide +kernel) (pa_cons (pe_callTy (cr_setTx rfl) (by rfl) T.set (by decide +kernel) (pa_cons (pe_op op_cat (pv 11) (pv 3)) pa_nil)) pa_nil)) pa_nil))) (pg_name (i := 9) sc_law.nd rfl (Or.inl rfl))
  (pss_one (ps_set (i := 8) sc_law.nd rfl (Or.inl rfl) (pe_and (pv 8) (pe_one (pe_cmpR op_eq (pe_df D_law_allows hr (by first | decide | omega) rfl (pa_cons (pv 5) (pa_cons (pv 9) pa_nil))) (pe_df D_law_allows hr (by first | decide | omega) rfl (pa_cons (pv 13) (pa_cons (pv 9) pa_nil))) (nomark _)))))))
  (pss_cons (ps_if (PW.pt (pw_or (pt_cmpR op_ne (pe_cmpR (show OpR _ _ (rEqOwn K C (spEqR K C)) from op_eqOwn EQ F_eq (hr.mono (by decide))) (pv 4) (pv 12) (nomark _)) (pv 8) (nomark _)) (pw_or1 (pt_cmpR op_ne (pe_cmpR (show OpR _ _ (rEqOwn K C (spEqR K C)) from op_eqOwn EQ F_eq (hr.mono (by decide))) (pv 12) (pv 4) (nomark _)) (pv 8) (nomark _)))))
  (pss_one (ps_ret pe_bl))
  pss_nil)
  (pss_one (ps_if (PW.pt (pw_or (pt_cmpR (show OpR _ _ (rEqOwn K C (spEqR K C)) from op_eqOwn EQ F_eq (hr.mono (by decide))) (pv 4) (pv 5) (nomark _)) (pw_or (pt_cmpR (show OpR _ _ (rEqOwn K C (spEqR K C)) from op_eqOwn EQ F_eq (hr.mono (by decide))) (pv 4) (pe_callTy (cr_str2 O hr (by first | decide | omega)) (by rfl) T.str (by decide +kernel) (pa_cons (pv 4) pa_nil)) (nomark _)) (pw_or (pt_cmpR (show OpR _ _ (rEqOwn K C (spEqR K C)) from op_eqOwn EQ F_eq (hr.mono (by decide))) (pv 4) pe_non (nomark _)) (pw_or (pt_cmpR (show OpR _ _ (rEqOwn K C (spEqR K C)) from op_eqOwn EQ F_eq (hr.mono (by decide))) (pv 4) (pe_ix ix_list (pv 3) pe_int (fun _ _ => rfl)) (nomark _)) (pw_or1 (pt_cmpR (show OpR _ _ (rEqOwn K C (spEqR K C)) from op_eqOwn EQ F_eq (hr.mono (by decide))) (pv 4) (pe_no O hr (by first | decide | omega) (pv 4)) (nomark _))))))))
  (pss_one (ps_ret pe_bl))
  pss_nil))))))))))))))))))))
  (pss_one (ps_ret pe_bl))), ?_⟩
    have hlm : (ns.map V.int).length = ns.length := List.length_map ..
    obtain ⟨N, hN, hN2⟩ : ∃ N : Int, N = (if (if ((ns.map V.int).length : Int) < 3 then ((ns.map V.int).length : Int) else 3) > 1 then (if ((ns.map V.int).length : Int) < 3 then ((ns.map V.int).length : Int) else 3) else 1) ∧ 0 ≤ N ∧ N ≤ 3 := by
      refine ⟨_, rfl, ?_, ?_⟩ <;> (repeat' split) <;> omega
    refine ⟨_, rfl, a, _, rfl, .inl hS, _, _, rfl, _, _, rfl, N, (by rw [hN]), by omega, by omega, for_range (lo := 0) (n := N.toNat) (fun i σ H1 => ∃ v1 v2 v3 v4 v5 v6 v7 v8 v9 v10 v11 v12 v13 v14, σ = [some (.ref a), v1, v2, v3, v4, v5, v6, v7, v8, v9, v10, v11, v12, v13, v14] ∧ Same H H1) ⟨_, _, _, _, _, _, _, _, _, _, _, _, _, _, rfl, fun _ _ e => e⟩ ?_ ?_⟩
    · rintro i σ H1 hi ⟨o1, o2, o3, o4, o5, o6, o7, o8, o9, o10, o11, o12, o13, o14, rfl, s1⟩
      refine ⟨_, rfl, _, rfl, a, ns, i, (by rw [Int.zero_add]; rfl), s1.seq hS, by omega, fun p o hp hp1 => ?_⟩
      have hp0 : H p = none := s1.free hp
      refine ⟨_, rfl, p, 5, 0, rfl, hp1, by omega, by decide, by decide, fun d o1 d0 d6 hp2 => ⟨_, _, rfl, rfl, _, rfl, by omega, by omega, fun D hD => ?_⟩⟩
      refine lc_strs (p := p) (gi := 14) IsW (1 + d).toNat (0 + 1) (by omega) hp2 hD (fun x m' G Q2 hq hm kq cont => ⟨_, rfl, p, m', rfl, hq, by omega, fun z G' wz hp' kp' => cont z G' wz hp' kp'⟩) (fun ws G2 lw okw hw hp3 kp3 => ?_)
      have Dp : D ≠ p := (none_of hD).1.symm
      have kD : ∀ {G G' : Hp}, Kp [p] G G' → ∀ {u : HO}, G D = some u → G' D = some u := fun k u e => k _ _ e fun h => Dp (List.mem_singleton.mp h)
      have sG : Same H G2 := by
        have k1 : Kp [p] H1 (upd (upd H1 p o) p o1) := (Kp.new hp).mutAt (by simp)
        exact Same.kp s1 (k1.trans kp3) hp0
      have l1 : 1 ≤ ws.length := by omega
      have l5 : ws.length ≤ 5 := by omega
      have w6 : ws.length ≤ 6 := by omega
      have hp4 := hp3.up (m := 100) (by omega)
      have c4 : ((cost 4 : Nat) : Int) = 3100 := by decide
      have k3c : ((cost 3 : Nat) : Int) = 1500 := by decide
      clear hp3 hp2 hp1
      refine ⟨_, rfl, _, rfl, p, D, 100, ws, 0, rfl, rfl, hp4, (by show (100 : Int) + ((cost 4 : Nat) : Int) < 800000000; rw [c4]; decide), hw, Dp, l1, w6, okw, fun G3 t1 r1 v1 n1 ns1 al1 z1 k1 ht1 is1 at1 hp5 => ?_⟩
      refine ⟨t1, _, rfl, SqT.of ht1, rfl, _, _, rfl, _, _, rfl, rfl, ?_⟩
      refine ⟨_, rfl, _, rfl, p, D, _, ws, 0, rfl, rfl, hp5, (by show (100 : Int) + ((cost 4 : Nat) : Int) + ((cost 4 : Nat) : Int) < 800000000; rw [c4]; decide), kD k1 hw, Dp, l1, w6, okw, fun G4 t2 r2 v2 n2 ns2 al2 z2 k2 ht2 is2 at2 hp6 => ?_⟩
      refine ⟨t2, _, rfl, SqT.of ht2, rfl, _, _, rfl, _, _, rfl, rfl, ?_⟩
      obtain ⟨pa, pb, pc, hpl, _⟩ := hp5
      have wd1 := is1.wds
      have wd2 := is2.wds
      have hg1 : n1.hgt ≤ 4 := is1.hgt
      have hg2 : n2.hgt ≤ 4 := is2.hgt
      have ix1 : IsX C ws 4 G4 r1 n1 := ⟨_, _, _, is1.mv k2 hpl⟩
      have ix2 : IsX C ws 4 G4 r2 n2 := ⟨_, _, _, is2⟩
      have at1 := n1.keep hpl k2 at1
      have hw4 := kD k2 (kD k1 hw)
      have s4 : Same H G4 := Same.kp sG (k1.trans k2) hp0
      have hp7 := hp6.up (m := 10000) (by show (100 : Int) + ((cost 4 : Nat) : Int) + ((cost 4 : Nat) : Int) ≤ 10000; rw [c4]; decide)
      clear is1 is2 hpl hp6
      refine ⟨_, rfl, D, ws, rfl, .inl (SqL.of hw4), by omega, fun q M nq ml mem nd => ⟨q, M, rfl, upd_same, fun ys u perm so nu => ?_⟩⟩
      have yl := perm.length_eq
      refine ⟨u, ys, rfl, upd_same, by omega, fun G6 l rs s6' hl ls => ?_⟩
      have memY : ∀ z, z ∈ ys ↔ z ∈ ws ∨ z ∈ ws := fun z => ((perm.mem_iff).trans (mem z)).trans (or_self_iff).symm
      have s6 : Same G4 G6 := ((Same.new nq).trans (Same.new nu)).trans s6'
      have ix1 := ix1.same s6
      have ix2 := ix2.same s6
      have at1 := n1.same s6 at1
      have at2 := n2.same s6 at2
      have hw6 := s6 _ _ hw4
      have hp7 := hp7.mv fun u q => s6 _ _ q
      have sH : Same H G6 := s4.trans s6
      refine ⟨l, rfl, ⟨_, SqL.of hl⟩, for_list (K := K) (a := l) (xs := rs.map V.ref) (fun j σ G => ∃ w9, σ = [some (.ref a), some (.int (0 + (i : Int))), some (.ref p), some (.ref D), some (.ref r1), some v1, some (.ref r2), some v2, some (.bl (duJ n1 n2 ys j)), w9, o10, o11, o12, o13, o14] ∧ Same G6 G) ⟨_, rfl, Same.refl _⟩ (fun j σ G _ e => ?_) (fun j x σ G hj e => ?_) (fun σ G e => ?_)⟩
      · obtain ⟨w9, rfl, s7⟩ := e
        exact SqL.of (s7 _ _ hl)
      · obtain ⟨w9, rfl, s7⟩ := e
        rw [List.getElem?_map] at hj
        cases er : rs[j]? with
        | none =>
          rw [er] at hj
          cases hj
        | some r =>
          rw [er] at hj
          cases hj
          have lj : j < (subs ys).length := by
            rw [← ls.1]
            exact (List.getElem?_eq_some_iff.mp er).1
          have ek : (subs ys)[j]? = some (subs ys)[j] := List.getElem?_eq_getElem lj
          generalize (subs ys)[j] = key at ek
          have hr1 := s7 _ _ (ls.2 j r key er ek)
          have nx := duJ_next (n := n1) (m := n2) ek
          refine ⟨_, rfl, duJ n1 n2 ys j, rfl, ?_⟩
          cases ed : duJ n1 n2 ys j with
          | false =>
            refine iteF ⟨some (.ref r), ?_, s7⟩
            rw [nx, ed]
            rfl
          | true =>
            refine iteT ?_
            refine ⟨_, rfl, _, rfl, v1, r, n1, key, ws, rfl, hg1, wd1, n1.same s7 at1, hr1, fun G7 s8 => ?_⟩
            refine ⟨_, rfl, _, rfl, v2, r, n2, key, ws, rfl, hg2, wd2, n2.same (s7.trans s8) at2, s8 _ _ hr1, fun G8 s9 => ⟨rfl, ?_⟩⟩
            refine ⟨some (.ref r), ?_, (s7.trans s8).trans s9⟩
            rw [nx, ed, Bool.true_and, bl_eq]
            rfl
      · obtain ⟨w9, rfl, s7⟩ := e
        have hdu : duJ n1 n2 ys (rs.map V.ref).length = true ↔ ∀ ks, n1.sat ks = n2.sat ks := by
          rw [List.length_map, ls.1]
          exact duJ_all wd1 wd2 memY
        generalize duJ n1 n2 ys (rs.map V.ref).length = due at hdu ⊢
        have bd : ∀ b : Bool, (b = true ↔ ∀ ks, n1.sat ks = n2.sat ks) → b = due := fun b e => Bool.eq_iff_iff.mpr (e.trans hdu.symm)
        have bd2 : ∀ b : Bool, (b = true ↔ ∀ ks, n2.sat ks = n1.sat ks) → b = due := fun b e => bd b (e.trans (forall_congr' fun _ => eq_comm))
        have nd1 : decide (V.bl (!due) = V.bl due) = false := by
          rw [bl_eq]
          cases due <;> rfl
        have u1 := u_one w6
        have ix1 := ix1.same s7
        have ix2 := ix2.same s7
        refine ⟨_, rfl, _, rfl, do_eq EQ ix1 ix2 u1 fun c1 G7 s8 e1 => ⟨_, rfl, rfl, ?_⟩⟩
        rw [bd c1 e1, decide_eq_true rfl]
        refine ⟨_, rfl, iteF ?_⟩
        refine ⟨_, rfl, _, rfl, do_eq EQ (ix2.same s8) (ix1.same s8) u1 fun c2 G8 s9 e2 => ⟨_, rfl, rfl, ?_⟩⟩
        rw [bd2 c2 e2, decide_eq_true rfl]
        refine ⟨_, rfl, iteF ?_⟩
        have s89 := s8.trans s9
        refine ⟨_, rfl, _, rfl, do_ne (ix1.same s89) (ix2.same s89) u1 fun c3 G9 s10 e3 => ⟨_, rfl, rfl, ?_⟩⟩
        rw [bd c3 e3, nd1]
        refine ⟨_, rfl, iteF ?_⟩
        have sA := s89.trans s10
        have ix1 := ix1.same sA
        have ix2 := ix2.same sA
        -- same, the first four
        refine ⟨_, rfl, _, rfl, eq_yes EQ w6 ix1 ix1 (fun _ => rfl) fun G10 a1 => ?_⟩
        refine ⟨_, rfl, _, rfl, do_two 2 (ix1.same a1) (ix2.same a1) w6 (by decide) fun G11 x1 a2 i1 => ?_⟩
        have b2 := a1.trans a2
        refine ⟨_, rfl, do_no (ix1.same b2) (by decide) fun G12 x2 a3 i2 => ?_⟩
        have b3 := b2.trans a3
        refine ⟨_, rfl, do_two 1 i2 ((ix2.same b3).up (by decide)) w6 (by decide) fun G13 x3 a4 i3 => ?_⟩
        have m1 : ∀ x y : Bool, opB 2 x y = opB 1 (!x) y := by decide
        refine eq_yes EQ w6 (i1.same (a3.trans a4)) i3 (fun ks => m1 _ _) fun G14 a5 => ?_
        have b5 := (b3.trans a4).trans a5
        refine ⟨_, rfl, do_no (ix1.same b5) (by decide) fun G15 x4 a6 i4 => do_no i4 (by decide) fun G16 x5 a7 i5 => ?_⟩
        have b7 := (b5.trans a6).trans a7
        refine ⟨_, rfl, eq_yes EQ w6 i5 (ix1.same b7) (fun ks => Bool.not_not _) fun G17 a8 => ?_⟩
        have b8 := b7.trans a8
        refine ⟨_, rfl, _, rfl, do_two 0 (ix1.same b8) (ix2.same b8) w6 (by decide) fun G18 x6 a9 i6 => ?_⟩
        have b9 := b8.trans a9
        refine ⟨_, rfl, do_no (ix1.same b9) (by decide) fun G19 x7 a10 i7 => ?_⟩
        have b10 := b9.trans a10
        refine ⟨_, rfl, do_no (ix2.same b10) (by decide) fun G20 x8 a11 i8 => ?_⟩
        have b11 := b10.trans a11
        refine do_two 1 (i7.same a11) i8 w6 (by decide) fun G21 x9 a12 i9 => do_no i9 (by decide) fun G22 x10 a13 i10 => ?_
        have b13 := (b11.trans a12).trans a13
        have m2 : ∀ x y : Bool, opB 0 x y = !(opB 1 (!x) (!y)) := by decide
        refine eq_yes EQ w6 (i6.same (((a10.trans a11).trans a12).trans a13)) i10 (fun ks => m2 _ _) fun G23 a14 => ?_
        have b14 := b13.trans a14
        refine ⟨by show 4 ≤ sizeLine; decide, fun q1 nq1 => ?_⟩
        have b15 := b14.trans (Same.new (o := HO.lst [.bl true, .bl true, .bl true, .bl true]) nq1)
        -- three more
        refine ⟨_, rfl, _, rfl, _, rfl, do_two 0 (ix1.same b15) (ix2.same b15) w6 (by decide) fun G24 x11 a16 i11 => ?_⟩
        have b16 := b15.trans a16
        refine ⟨_, rfl, _, rfl, do_two 0 (ix2.same b16) (ix1.same b16) w6 (by decide) fun G25 x12 a17 i12 => ?_⟩
        have m3 : ∀ x y : Bool, opB 0 x y = opB 0 y x := by decide
        refine eq_yes EQ w6 (i11.same a17) i12 (fun ks => m3 _ _) fun G26 a18 => ?_
        have b18 := (b16.trans a17).trans a18
        refine ⟨_, rfl, _, rfl, do_two 1 (ix1.same b18) (ix2.same b18) w6 (by decide) fun G27 x13 a19 i13 => ?_⟩
        have b19 := b18.trans a19
        refine ⟨_, rfl, _, rfl, do_two 1 (ix2.same b19) (ix1.same b19) w6 (by decide) fun G28 x14 a20 i14 => ?_⟩
        have m4 : ∀ x y : Bool, opB 1 x y = opB 1 y x := by decide
        refine eq_yes EQ w6 (i13.same a20) i14 (fun ks => m4 _ _) fun G29 a21 => ?_
        have b21 := (b19.trans a20).trans a21
        refine ⟨_, rfl, rfl, do_alw (ws := ws) fun G30 x15 a22 i15 => ?_⟩
        have b22 := b21.trans a22
        refine do_two 0 (ix1.same b22) (i15.up (by decide)) w6 (by decide) fun G31 x16 a23 i16 => ?_
        have m5 : ∀ x : Bool, opB 0 x true = x := by decide
        refine ⟨_, rfl, eq_yes EQ w6 i16 (ix1.same (b22.trans a23)) (fun ks => m5 _) fun G32 a24 => ?_⟩
        have b24 := (b22.trans a23).trans a24
        refine ⟨by show 3 ≤ sizeLine; decide, fun q2 nq2 => ?_⟩
        have b25 := b24.trans (Same.new (o := HO.lst [.bl true, .bl true, .bl true]) nq2)
        have hq1 : upd G32 q2 (.lst [.bl true, .bl true, .bl true]) q1 = some (.lst [.bl true, .bl true, .bl true, .bl true]) := (((((((((a16.trans a17).trans a18).trans a19).trans a20).trans a21).trans a22).trans a23).trans a24).trans (Same.new nq2)) _ _ upd_same
        refine ⟨q1, q2, _, _, rfl, rfl, hq1, upd_same, by show 7 ≤ sizeLine; decide, fun q3 nq3 => ?_⟩
        have b26 := b25.trans (Same.new (o := HO.lst [.bl true, .bl true, .bl true, .bl true, .bl true, .bl true, .bl true]) nq3)
        -- two more
        refine ⟨_, rfl, _, rfl, rfl, do_alw (ws := ws) fun G33 x17 a27 i17 => ?_⟩
        have b27 := b26.trans a27
        refine do_two 1 (ix1.same b27) (i17.up (by decide)) w6 (by decide) fun G34 x18 a28 i18 => ?_
        have b28 := b27.trans a28
        refine ⟨rfl, do_alw (ws := ws) fun G35 x19 a29 i19 => ?_⟩
        have m6 : ∀ x : Bool, opB 1 x true = true := by decide
        refine eq_yes EQ w6 (i18.same a29) i19 (fun ks => m6 _) fun G36 a30 => ?_
        have b30 := (b28.trans a29).trans a30
        refine ⟨_, rfl, _, rfl, do_no (ix1.same b30) (by decide) fun G37 x20 a31 i20 => ?_⟩
        have b31 := b30.trans a31
        refine do_two 0 ((ix1.same b31).up (by decide)) i20 w6 (by decide) fun G38 x21 a32 i21 => ?_
        have b32 := b31.trans a32
        refine ⟨rfl, do_alw (ws := ws) fun G39 x22 a33 i22 => ?_⟩
        refine do_no i22 (by decide) fun G40 x23 a34 i23 => ?_
        have m7 : ∀ x : Bool, opB 0 x (!x) = !true := by decide
        refine eq_yes EQ w6 (i21.same (a33.trans a34)) i23 (fun ks => m7 _) fun G41 a35 => ?_
        have b35 := ((b32.trans a33).trans a34).trans a35
        refine ⟨by show 2 ≤ sizeLine; decide, fun q4 nq4 => ?_⟩
        have b36 := b35.trans (Same.new (o := HO.lst [.bl true, .bl true]) nq4)
        have hq3 : upd G41 q4 (.lst [.bl true, .bl true]) q3 = some (.lst ([.bl true, .bl true, .bl true, .bl true] ++ [.bl true, .bl true, .bl true])) := (((((((((a27.trans a28).trans a29).trans a30).trans a31).trans a32).trans a33).trans a34).trans a35).trans (Same.new nq4)) _ _ upd_same
        refine ⟨q3, q4, _, _, rfl, rfl, hq3, upd_same, by show 9 ≤ sizeLine; decide, fun q5 nq5 => ?_⟩
        have b37 := b36.trans (Same.new (o := HO.lst ([.bl true, .bl true, .bl true, .bl true] ++ [.bl true, .bl true, .bl true] ++ [.bl true, .bl true])) nq5)
        -- the last one
        obtain ⟨w0, hw0, at0⟩ := at_strs (ws := ws) (d := 0) (by decide) (by omega)
        have sW := s7.trans sA
        refine ⟨_, rfl, rfl, _, rfl, D, _, 0, _, rfl, rfl, SqL.of (b37 _ _ (sW _ _ hw6)), at0, do_tog1 (ws := ws) hw0 (okw _ hw0) fun G42 x24 a38 i24 => ?_⟩
        have b38 := b37.trans a38
        refine ⟨rfl, do_alw (ws := ws) fun G43 x25 a39 i25 => ?_⟩
        have m8 : ∀ ks, (Nd.tog [w0]).sat ks = Nd.alw.sat ks := fun ks => by
          show (decide ([w0].filter (fun n => decide (n ∈ ks)) = []) || decide ([w0].filter (fun n => decide (n ∈ ks)) = [w0])) = true
          by_cases h : w0 ∈ ks <;> simp [h]
        refine eq_yes EQ w6 (i24.same a39) i25 m8 fun G44 a40 => ?_
        have b40 := (b38.trans a39).trans a40
        refine ⟨by show 1 ≤ sizeLine; decide, fun q6 nq6 => ?_⟩
        have b41 := b40.trans (Same.new (o := HO.lst [.bl true]) nq6)
        have hq5 : upd G44 q6 (.lst [.bl true]) q5 = some (.lst ([.bl true, .bl true, .bl true, .bl true] ++ [.bl true, .bl true, .bl true] ++ [.bl true, .bl true])) := (((a38.trans a39).trans a40).trans (Same.new nq6)) _ _ upd_same
        refine ⟨q5, q6, _, _, rfl, rfl, hq5, upd_same, by show 10 ≤ sizeLine; decide, fun q7 nq7 => ?_⟩
        have b42 := b41.trans (Same.new (o := HO.lst ([.bl true, .bl true, .bl true, .bl true] ++ [.bl true, .bl true, .bl true] ++ [.bl true, .bl true] ++ [.bl true])) nq7)
        refine ⟨_, rfl, q7, _, rfl, .inl (SqL.of upd_same), rfl, rfl, ?_⟩
        rw [if_neg (by decide)]
        refine ⟨_, rfl, ite_no (by decide) ?_⟩
        -- words
        have sX := sW.trans b42
        have ix1 := ix1.same b42
        have hwX := sX _ _ hw6
        have hpX := hp7.mv fun u q => sX _ _ q
        refine ⟨_, rfl, D, ws, rfl, .inl (SqL.of hwX), by omega, fun q' M2 nq' ml2 mem2 nd2 => ⟨q', M2, rfl, upd_same, fun ys2 u2 perm2 so2 nu2 => ?_⟩⟩
        refine ⟨4, rfl, u2, _, rfl, SqL.of upd_same, fun cl ncl => ?_⟩
        have s20 := ((Same.new (o := TxO w q' M2) nq').trans (Same.new (o := HO.lst (ys2.map V.str)) nu2)).trans (Same.new (o := HO.lst (cutV (ys2.map V.str) none (some 4))) ncl)
        have hpY := hpX.mv fun u q => s20 _ _ q
        refine ⟨3, rfl, by decide, by decide, fun D2 hD2 => ?_⟩
        refine lc_strs (p := p) (gi := 14) IsW (3 : Int).toNat 10000 (by decide) hpY hD2 (fun x m' G Q2 hq hm kq cont => ⟨_, rfl, p, m', rfl, hq, by have : ((3 : Int).toNat : Int) = 3 := rfl; omega, fun z G' wz hp' kp' => cont z G' wz hp' kp'⟩) (fun zs GA lz okz hz hp8 kp8 => ?_)
        obtain ⟨ya, yb, yc, hyl, _⟩ := hpY
        have clp : cl ≠ p := by
          obtain ⟨xa, xb, xc, hxl, _⟩ := hpX.mv fun u q => ((Same.new (o := TxO w q' M2) nq').trans (Same.new (o := HO.lst (ys2.map V.str)) nu2)) _ _ q
          exact (ne_of_none hxl ncl).symm
        have hcl := kp8 cl _ upd_same fun h => clp (List.mem_singleton.mp h)
        have DpA : D ≠ p := Dp
        have hDA := kp8 D _ (s20 _ _ hwX) fun h => DpA (List.mem_singleton.mp h)
        have ixA := (ix1.same s20).mv kp8 hyl
        have atA := n1.keep hyl kp8 (n1.same (sX.trans s20) at1)
        have sHA : Same H GA := Same.kp ((sH.trans sX).trans s20) kp8 hp0
        have c4' : cutV (ys2.map V.str) none (some 4) = (ys2.take 4).map V.str := by
          rw [List.map_take]
          exact cut_to (ys2.map V.str) 4
        rw [c4'] at hcl
        have y2 := perm2.length_eq
        have ly2 : (ys2.take 4).length ≤ 4 := by
          rw [List.length_take]
          omega
        refine ⟨cl, D2, _, _, rfl, rfl, hcl, hz, Nat.le_of_lt (small1000 (by rw [List.length_map, List.length_map, lz]; have : (3 : Int).toNat = 3 := rfl; omega)), fun wl nwl => ?_⟩
        rw [← List.map_append]
        have z3 : zs.length = 3 := lz
        obtain ⟨W, hW⟩ : ∃ W : List Str, W = ys2.take 4 ++ zs := ⟨_, rfl⟩
        rw [← hW]
        have lW : 4 ≤ W.length ∧ W.length ≤ 7 := by
          have l0 : 1 ≤ ys2.length := by
            have e : ws[0] ∈ ys2 := perm2.mem_iff.mpr ((mem2 _).mpr (List.getElem_mem (by omega)))
            exact List.length_pos_of_mem e
          rw [hW, List.length_append, List.length_take]
          omega
        have inW : ∀ z ∈ W, z ∈ ws ∨ z ∈ zs := fun z hz => by
          rw [hW] at hz
          exact (List.mem_append.mp hz).imp (fun q => (mem2 z).mp (perm2.mem_iff.mp (List.mem_of_mem_take q))) fun q => q
        have okW : ∀ z ∈ W, IsW z := fun z hz => (inW z hz).elim (okw z) (okz z)
        have few8 : ∀ M : List Str, M.Nodup → (∀ z ∈ M, z ∈ ws ∨ z ∈ zs) → M.length ≤ 8 := fun M nd q => by
          have := nodup_len (ws ++ zs) M nd fun z hz => List.mem_append.mpr (q z hz)
          rw [List.length_append] at this
          omega
        have sW2 := Same.new (o := HO.lst (W.map V.str)) nwl
        -- far
        obtain ⟨j5, ej, hj5⟩ := cut_from (W.map V.str) (((W.map V.str).length : Int) - 5)
        rw [List.length_map] at hj5
        have l55 := last5 lW.1
        rw [← hj5] at l55
        refine ⟨_, rfl, _, rfl, _, rfl, wl, _, rfl, .inl (SqL.of upd_same), _, _, rfl, rfl, _, rfl, wl, _, rfl, SqL.of upd_same, fun c2 nc2 => ?_⟩
        have hpB := hp8.mv fun u q => sW2 _ _ q
        obtain ⟨xa, xb, xc, hxl, _⟩ := hpB
        have c2p : c2 ≠ p := (ne_of_none hxl nc2).symm
        have sC2 := Same.new (o := HO.lst (cutV (W.map V.str) (some (((W.map V.str).length : Int) - 5)) none)) nc2
        have hpC := ((hp8.mv fun u q => sW2 _ _ q).mv fun u q => sC2 _ _ q).up (m := 20000) (by have : ((3 : Int).toNat : Int) = 3 := rfl; omega)
        have hc2 : upd (upd GA wl (.lst (W.map V.str))) c2 (.lst (cutV (W.map V.str) (some (((W.map V.str).length : Int) - 5)) none)) c2 = some (.lst ((W.drop j5).map V.str)) := by
          rw [upd_same, ej, List.map_drop]
        have ok5 : ∀ z ∈ W.drop j5, IsW z := fun z hz => okW z (List.mem_of_mem_drop hz)
        have l15 : 1 ≤ (W.drop j5).length := by
          rw [List.length_drop]
          exact l55.1
        have l65 : (W.drop j5).length ≤ 5 := by
          rw [List.length_drop]
          exact l55.2
        refine ⟨p, c2, 20000, W.drop j5, 1, rfl, rfl, hpC, (by show (20000 : Int) + ((cost 3 : Nat) : Int) < 800000000; rw [k3c]; decide), hc2, c2p, l15, by omega, ok5, fun G50 t3 r3 v3 n3 ns3 al3 z3' k3 ht3 is3 at3 hp9 => ?_⟩
        refine ⟨t3, _, rfl, SqT.of ht3, rfl, _, _, rfl, _, _, rfl, rfl, ?_⟩
        obtain ⟨xa', xb', xc', hxl', _⟩ := hpC
        have sWC := sW2.trans sC2
        have wd3 : n3.wds W := wds_up (fun z hz => List.mem_of_mem_drop hz) n3 is3.wds
        have hg3 : n3.hgt ≤ 4 := Nat.le_trans is3.hgt (by decide)
        have ix3 : IsX C (W.drop j5) 3 G50 r3 n3 := ⟨_, _, _, is3⟩
        have ixB := (ixA.same sWC).mv k3 hxl'
        have atB := n1.keep hxl' k3 (n1.same sWC atA)
        have wlp : wl ≠ p := by
          obtain ⟨xa, xb, xc, hxl, _⟩ := hp8
          exact (ne_of_none hxl nwl).symm
        have hwlB := k3 wl _ (sC2 _ _ upd_same) fun h => wlp (List.mem_singleton.mp h)
        have hDB := k3 D _ (sWC _ _ hDA) fun h => Dp (List.mem_singleton.mp h)
        have sHB : Same H G50 := Same.kp (sHA.trans sWC) k3 hp0
        clear is3 hxl' hxl hyl
        refine ⟨_, rfl, _, rfl, wl, D, _, _, rfl, rfl, hwlB, hDB, Nat.le_of_lt (small1000 (by rw [List.length_map, List.length_map]; omega)), fun c3' nc3 => ?_⟩
        have sc3 := Same.new (o := HO.lst (W.map V.str ++ ws.map V.str)) nc3
        refine ⟨c3', W ++ ws, rfl, .inl (SqL.of (by rw [upd_same, List.map_append])), by rw [List.length_append]; omega, fun q3' M3 nq3' ml3 mem3 nd3 => ⟨q3', M3, rfl, upd_same, fun ys3 u3 perm3 so3 nu3 => ?_⟩⟩
        have memZ : ∀ z, z ∈ ys3 ↔ z ∈ ws ∨ z ∈ W := fun z => (((perm3.mem_iff).trans (mem3 z)).trans List.mem_append).trans or_comm
        have y8 : ys3.length ≤ 8 := by
          rw [perm3.length_eq]
          exact few8 M3 nd3 fun z hz => ((memZ z).mp (perm3.mem_iff.mpr hz)).elim .inl (inW z)
        refine ⟨u3, ys3, rfl, upd_same, y8, fun G51 l' rs' s51 hl' ls' => ?_⟩
        have sD := ((sc3.trans (Same.new (o := TxO w q3' M3) nq3')).trans (Same.new (o := HO.lst (ys3.map V.str)) nu3)).trans s51
        have ix1 := ixB.same sD
        have ix3 := ix3.same sD
        have at1 := n1.same sD atB
        have at3 := n3.same sD at3
        have sHC := sHB.trans sD
        have hDC := sD _ _ hDB
        refine ⟨l', rfl, ⟨_, SqL.of hl'⟩, for_list (K := K) (a := l') (xs := rs'.map V.ref) (fun j σ G => ∃ w9, σ = [some (.ref a), some (.int (0 + (i : Int))), some (.ref p), some (.ref D), some (.ref r1), some v1, some (.ref r2), some v2, some (.bl (duJ n1 n3 ys3 j)), w9, some (.ref q7), some (.ref wl), some (.ref r3), some v3, o14] ∧ Same G51 G) ⟨_, rfl, Same.refl _⟩ (fun j σ G _ e => ?_) (fun j x σ G hj e => ?_) (fun σ G e => ?_)⟩
        · obtain ⟨w9, rfl, s7⟩ := e
          exact SqL.of (s7 _ _ hl')
        · obtain ⟨w9, rfl, s7⟩ := e
          rw [List.getElem?_map] at hj
          cases er : rs'[j]? with
          | none =>
            rw [er] at hj
            cases hj
          | some r =>
            rw [er] at hj
            cases hj
            have lj : j < (subs ys3).length := by
              rw [← ls'.1]
              exact (List.getElem?_eq_some_iff.mp er).1
            have ek : (subs ys3)[j]? = some (subs ys3)[j] := List.getElem?_eq_getElem lj
            generalize (subs ys3)[j] = key at ek
            have hr1 := s7 _ _ (ls'.2 j r key er ek)
            have nx := duJ_next (n := n1) (m := n3) ek
            refine ⟨_, rfl, duJ n1 n3 ys3 j, rfl, ?_⟩
            cases ed : duJ n1 n3 ys3 j with
            | false =>
              refine iteF ⟨some (.ref r), ?_, s7⟩
              rw [nx, ed]
              rfl
            | true =>
              refine iteT ?_
              refine ⟨_, rfl, _, rfl, v1, r, n1, key, ws, rfl, hg1, wd1, n1.same s7 at1, hr1, fun G7 s8 => ?_⟩
              refine ⟨_, rfl, _, rfl, v3, r, n3, key, W, rfl, hg3, wd3, n3.same (s7.trans s8) at3, s8 _ _ hr1, fun G8 s9 => ⟨rfl, ?_⟩⟩
              refine ⟨some (.ref r), ?_, (s7.trans s8).trans s9⟩
              rw [nx, ed, Bool.true_and, bl_eq]
              rfl
        · obtain ⟨w9, rfl, s52⟩ := e
          have hdu3 : duJ n1 n3 ys3 (rs'.map V.ref).length = true ↔ ∀ ks, n1.sat ks = n3.sat ks := by
            rw [List.length_map, ls'.1]
            exact duJ_all wd1 wd3 memZ
          generalize duJ n1 n3 ys3 (rs'.map V.ref).length = due3 at hdu3 ⊢
          have bd : ∀ b : Bool, (b = true ↔ ∀ ks, n1.sat ks = n3.sat ks) → b = due3 := fun b e => Bool.eq_iff_iff.mpr (e.trans hdu3.symm)
          have bd2 : ∀ b : Bool, (b = true ↔ ∀ ks, n3.sat ks = n1.sat ks) → b = due3 := fun b e => bd b (e.trans (forall_congr' fun _ => eq_comm))
          have u13 : ∀ M : List Str, M.Nodup → (∀ z ∈ M, z ∈ ws ∨ z ∈ W.drop j5) → M.length ≤ 8 := fun M nd q => few8 M nd fun z hz => (q z hz).elim .inl fun e => inW z (List.mem_of_mem_drop e)
          have u31 : ∀ M : List Str, M.Nodup → (∀ z ∈ M, z ∈ W.drop j5 ∨ z ∈ ws) → M.length ≤ 8 := fun M nd q => u13 M nd fun z hz => (q z hz).symm
          have ix1 := ix1.same s52
          have ix3 := ix3.same s52
          refine ⟨_, rfl, _, rfl, do_eq EQ ix1 ix3 u13 fun c1 G53 s53 e1 => ⟨_, rfl, rfl, ?_⟩⟩
          rw [bd c1 e1, decide_eq_true rfl]
          refine ⟨_, rfl, iteF ?_⟩
          refine ⟨_, rfl, _, rfl, do_eq EQ (ix3.same s53) (ix1.same s53) u31 fun c2 G54 s54 e2 => ⟨_, rfl, rfl, ?_⟩⟩
          rw [bd2 c2 e2, decide_eq_true rfl]
          refine ⟨_, rfl, iteF ?_⟩
          have s55 := s53.trans s54
          have ix1 := ix1.same s55
          have at1 := n1.same (s52.trans s55) at1
          have hDE := (s52.trans s55) _ _ hDC
          obtain ⟨p1, xs1, ev1, hv1⟩ := at_tup at1
          refine ⟨_, rfl, _, rfl, do_far EQ ix1 (T := "tuple") (by rw [ev1]; exact .base (.tup hv1)) sub_tup fun G55 s56 => ⟨_, rfl, iteF ?_⟩⟩
          have ix1 := ix1.same s56
          have ix1s := ix1
          obtain ⟨nsx, alx, zx, isx⟩ := ix1s
          obtain ⟨dx, fs, e1⟩ := ix1.ins
          refine ⟨_, rfl, _, rfl, r1, dx, fs, rfl, e1, r1, nsx, alx, zx, rfl, isx.at_, zx, rfl, do_far EQ ix1 (T := "str") (.base (.str zx)) sub_str fun G56 s57 => ⟨_, rfl, iteF ?_⟩⟩
          have ix1 := ix1.same s57
          refine ⟨_, rfl, do_far EQ ix1 (T := "NoneType") (.base .non) sub_non fun G57 s58 => ⟨_, rfl, iteF ?_⟩⟩
          have ix1 := ix1.same s58
          refine ⟨_, rfl, _, rfl, D, _, 0, _, rfl, rfl, SqL.of (((s56.trans s57).trans s58) _ _ hDE), at0, do_far EQ ix1 (T := "str") (.base (.str w0)) sub_str fun G58 s59 => ⟨_, rfl, iteF ?_⟩⟩
          have ix1 := ix1.same s59
          refine ⟨_, rfl, _, rfl, do_no ix1 (by decide) fun G59 x30 s60 i30 => do_eq EQ (ix1.same s60) i30 u1 fun c5 G60 s61 e5 => ?_⟩
          have c5f : c5 = false := by
            cases c5 with
            | false => rfl
            | true =>
              have q : n1.sat [] = !n1.sat [] := e5.mp rfl []
              cases h : n1.sat [] <;> rw [h] at q <;> cases q
          rw [c5f]
          exact ⟨_, rfl, iteF ⟨_, _, _, _, _, _, _, _, _, _, _, _, _, _, rfl, ((((((sHC.trans s52).trans s55).trans s56).trans s57).trans (s58.trans s59)).trans s60).trans s61⟩⟩
    · rintro σ H1 ⟨v1, v2, v3, v4, v5, v6, v7, v8, v9, v10, v11, v12, v13, v14, rfl, s1⟩
      exact k _
end
end IC
namespace IC
open PySem L2 TL
theorem all_mk {l : PySem.W.OpenLaw} {w : World} {K : PySem.W.Frag} {h : Heap} {mg : Str → Option Value} {fa f0 f1 f2 f3 f4 f5 f6 f7 f8 f9 f10 f11 f12 f13 f14 f15 f16 f17 f18 f19 f20 f21 f22 f23 : Addr} (X : K.In h) (G : h.Ns mainGlobals mg) (hfa : mg "law" = some (.ref fa))
    {od0 an0 od1 an1 od2 an2 od3 an3 od4 an4 od5 an5 od6 an6 od7 an7 od8 an8 od9 an9 od10 an10 od11 an11 od12 an12 od13 an13 od14 an14 od15 an15 od16 an16 od17 an17 od18 an18 od19 an19 od20 an20 od21 an21 od22 an22 od23 an23 : Option Addr} {sl0 sl1 sl2 sl3 sl4 sl5 sl6 sl7 sl8 sl9 sl10 sl11 sl12 sl13 sl14 sl15 sl16 sl17 sl18 sl19 sl20 sl21 sl22 sl23 : Array (Option Value)} {oc0 kV0 dc0 pm0 cd0 ct0 oc1 kV1 dc1 pm1 cd1 ct1 oc2 kV2 dc2 pm2 cd2 ct2 oc3 kV3 dc3 pm3 cd3 ct3 oc4 kV4 dc4 pm4 cd4 ct4 oc5 kV5 dc5 pm5 cd5 ct5 oc6 kV6 dc6 pm6 cd6 ct6 oc7 kV7 dc7 pm7 cd7 ct7 oc8 kV8 dc8 pm8 cd8 ct8 oc9 kV9 dc9 pm9 cd9 ct9 oc10 kV10 dc10 pm10 cd10 ct10 oc11 kV11 dc11 pm11 cd11 ct11 oc12 kV12 dc12 pm12 cd12 ct12 oc13 kV13 dc13 pm13 cd13 ct13 oc14 kV14 dc14 pm14 cd14 ct14 oc15 kV15 dc15 pm15 cd15 ct15 oc16 kV16 dc16 pm16 cd16 ct16 oc17 kV17 dc17 pm17 cd17 ct17 oc18 kV18 dc18 pm18 cd18 ct18 oc19 kV19 dc19 pm19 cd19 ct19 oc20 kV20 dc20 pm20 cd20 ct20 oc21 kV21 dc21 pm21 cd21 ct21 oc22 kV22 dc22 pm22 cd22 ct22 oc23 kV23 dc23 pm23 cd23 ct23 : Value} {CR pH pT pA : Addr} {rsH rsT rsA : List Value} {tkR : Tok}
    (a0 : PySem.W.nsIn K mainGlobals "_law_pool" = some (some (.ref f0))) (l0 : K.lookup f0 = some ⟨oc0, od0, .func (PySem.W.fnOf "_law_pool" "_law_pool" (defArgs s_law_pool) (defBody s_law_pool) (defScope s_law_pool) .none kV0 dc0 pm0 an0 cd0 ct0), sl0⟩) (c0 : PySem.W.codeIn K cd0 "_law_pool" = true) (k0 : PySem.W.keepIn K (.ref f0) = true)
    (a1 : PySem.W.nsIn K mainGlobals "_law_draw" = some (some (.ref f1))) (l1 : K.lookup f1 = some ⟨oc1, od1, .func (PySem.W.fnOf "_law_draw" "_law_draw" (defArgs s_law_draw) (defBody s_law_draw) (defScope s_law_draw) .none kV1 dc1 pm1 an1 cd1 ct1), sl1⟩) (c1 : PySem.W.codeIn K cd1 "_law_draw" = true) (k1 : PySem.W.keepIn K (.ref f1) = true)
    (a2 : PySem.W.nsIn K mainGlobals "_law_word" = some (some (.ref f2))) (l2 : K.lookup f2 = some ⟨oc2, od2, .func (PySem.W.fnOf "_law_word" "_law_word" (defArgs s_law_word) (defBody s_law_word) (defScope s_law_word) .none kV2 dc2 pm2 an2 cd2 ct2), sl2⟩) (c2 : PySem.W.codeIn K cd2 "_law_word" = true) (k2 : PySem.W.keepIn K (.ref f2) = true)
    (a3 : PySem.W.nsIn K mainGlobals "is_word" = some (some (.ref f3))) (l3 : K.lookup f3 = some ⟨oc3, od3, .func (PySem.W.fnOf "is_word" "is_word" (defArgs s_is_word) (defBody s_is_word) (defScope s_is_word) .none kV3 dc3 pm3 an3 cd3 ct3), sl3⟩) (c3 : PySem.W.codeIn K cd3 "is_word" = true) (k3 : PySem.W.keepIn K (.ref f3) = true)
    (a4 : PySem.W.nsIn K mainGlobals "subsets" = some (some (.ref f4))) (l4 : K.lookup f4 = some ⟨oc4, od4, .func (PySem.W.fnOf "subsets" "subsets" (defArgs s_subsets) (defBody s_subsets) (defScope s_subsets) .none kV4 dc4 pm4 an4 cd4 ct4), sl4⟩) (c4 : PySem.W.codeIn K cd4 "subsets" = true) (k4 : PySem.W.keepIn K (.ref f4) = true)
    (a5 : PySem.W.nsIn K mainGlobals "united" = some (some (.ref f5))) (l5 : K.lookup f5 = some ⟨oc5, od5, .func (PySem.W.fnOf "united" "united" (defArgs s_united) (defBody s_united) (defScope s_united) .none kV5 dc5 pm5 an5 cd5 ct5), sl5⟩) (c5 : PySem.W.codeIn K cd5 "united" = true) (k5 : PySem.W.keepIn K (.ref f5) = true)
    (a6 : PySem.W.nsIn K mainGlobals "check_few" = some (some (.ref f6))) (l6 : K.lookup f6 = some ⟨oc6, od6, .func (PySem.W.fnOf "check_few" "check_few" (defArgs s_check_few) (defBody s_check_few) (defScope s_check_few) .none kV6 dc6 pm6 an6 cd6 ct6), sl6⟩) (c6 : PySem.W.codeIn K cd6 "check_few" = true) (k6 : PySem.W.keepIn K (.ref f6) = true)
    (a7 : PySem.W.findIn K (.ref CR) "__init__" = some (some (.ref f7))) (l7 : K.lookup f7 = some ⟨oc7, od7, .func (PySem.W.fnOf "__init__" "Rule.__init__" (defArgs s_Rule___init__) (defBody s_Rule___init__) (defScope s_Rule___init__) .none kV7 dc7 pm7 an7 cd7 ct7), sl7⟩) (c7 : PySem.W.codeIn K cd7 "Rule.__init__" = true) (k7 : PySem.W.keepIn K (.ref f7) = true) (i7 : PySem.W.isFn K (.ref f7) = true)
    (a8 : PySem.W.recIn K pH "staticmethod" = some (.ref f8 :: rsH)) (l8 : K.lookup f8 = some ⟨oc8, od8, .func (PySem.W.fnOf "has" "Rule.has" (defArgs s_Rule_has) (defBody s_Rule_has) (defScope s_Rule_has) .none kV8 dc8 pm8 an8 cd8 ct8), sl8⟩) (c8 : PySem.W.codeIn K cd8 "Rule.has" = true) (k8 : PySem.W.keepIn K (.ref f8) = true)
    (a9 : PySem.W.recIn K pT "staticmethod" = some (.ref f9 :: rsT)) (l9 : K.lookup f9 = some ⟨oc9, od9, .func (PySem.W.fnOf "together" "Rule.together" (defArgs s_Rule_together) (defBody s_Rule_together) (defScope s_Rule_together) .none kV9 dc9 pm9 an9 cd9 ct9), sl9⟩) (c9 : PySem.W.codeIn K cd9 "Rule.together" = true) (k9 : PySem.W.keepIn K (.ref f9) = true)
    (a10 : PySem.W.recIn K pA "staticmethod" = some (.ref f10 :: rsA)) (l10 : K.lookup f10 = some ⟨oc10, od10, .func (PySem.W.fnOf "always" "Rule.always" (defArgs s_Rule_always) (defBody s_Rule_always) (defScope s_Rule_always) .none kV10 dc10 pm10 an10 cd10 ct10), sl10⟩) (c10 : PySem.W.codeIn K cd10 "Rule.always" = true) (k10 : PySem.W.keepIn K (.ref f10) = true)
    (a11 : PySem.W.findIn K (.ref CR) "_allows" = some (some (.ref f11))) (l11 : K.lookup f11 = some ⟨oc11, od11, .func (PySem.W.fnOf "_allows" "Rule._allows" (defArgs s_Rule__allows) (defBody s_Rule__allows) (defScope s_Rule__allows) .none kV11 dc11 pm11 an11 cd11 ct11), sl11⟩) (c11 : PySem.W.codeIn K cd11 "Rule._allows" = true) (k11 : PySem.W.keepIn K (.ref f11) = true) (i11 : PySem.W.isFn K (.ref f11) = true)
    (a12 : PySem.W.findIn K (.ref CR) "__call__" = some (some (.ref f12))) (l12 : K.lookup f12 = some ⟨oc12, od12, .func (PySem.W.fnOf "__call__" "Rule.__call__" (defArgs s_Rule___call__) (defBody s_Rule___call__) (defScope s_Rule___call__) .none kV12 dc12 pm12 an12 cd12 ct12), sl12⟩) (c12 : PySem.W.codeIn K cd12 "Rule.__call__" = true) (k12 : PySem.W.keepIn K (.ref f12) = true) (i12 : PySem.W.isFn K (.ref f12) = true)
    (a13 : PySem.W.findIn K (.ref CR) "_names_with" = some (some (.ref f13))) (l13 : K.lookup f13 = some ⟨oc13, od13, .func (PySem.W.fnOf "_names_with" "Rule._names_with" (defArgs s_Rule__names_with) (defBody s_Rule__names_with) (defScope s_Rule__names_with) .none kV13 dc13 pm13 an13 cd13 ct13), sl13⟩) (c13 : PySem.W.codeIn K cd13 "Rule._names_with" = true) (k13 : PySem.W.keepIn K (.ref f13) = true) (i13 : PySem.W.isFn K (.ref f13) = true)
    (a14 : PySem.W.findIn K (.ref CR) "__and__" = some (some (.ref f14))) (l14 : K.lookup f14 = some ⟨oc14, od14, .func (PySem.W.fnOf "__and__" "Rule.__and__" (defArgs s_Rule___and__) (defBody s_Rule___and__) (defScope s_Rule___and__) .none kV14 dc14 pm14 an14 cd14 ct14), sl14⟩) (c14 : PySem.W.codeIn K cd14 "Rule.__and__" = true) (k14 : PySem.W.keepIn K (.ref f14) = true) (i14 : PySem.W.isFn K (.ref f14) = true)
    (a15 : PySem.W.findIn K (.ref CR) "__or__" = some (some (.ref f15))) (l15 : K.lookup f15 = some ⟨oc15, od15, .func (PySem.W.fnOf "__or__" "Rule.__or__" (defArgs s_Rule___or__) (defBody s_Rule___or__) (defScope s_Rule___or__) .none kV15 dc15 pm15 an15 cd15 ct15), sl15⟩) (c15 : PySem.W.codeIn K cd15 "Rule.__or__" = true) (k15 : PySem.W.keepIn K (.ref f15) = true) (i15 : PySem.W.isFn K (.ref f15) = true)
    (a16 : PySem.W.findIn K (.ref CR) "__rshift__" = some (some (.ref f16))) (l16 : K.lookup f16 = some ⟨oc16, od16, .func (PySem.W.fnOf "__rshift__" "Rule.__rshift__" (defArgs s_Rule___rshift__) (defBody s_Rule___rshift__) (defScope s_Rule___rshift__) .none kV16 dc16 pm16 an16 cd16 ct16), sl16⟩) (c16 : PySem.W.codeIn K cd16 "Rule.__rshift__" = true) (k16 : PySem.W.keepIn K (.ref f16) = true) (i16 : PySem.W.isFn K (.ref f16) = true)
    (a17 : PySem.W.findIn K (.ref CR) "__invert__" = some (some (.ref f17))) (l17 : K.lookup f17 = some ⟨oc17, od17, .func (PySem.W.fnOf "__invert__" "Rule.__invert__" (defArgs s_Rule___invert__) (defBody s_Rule___invert__) (defScope s_Rule___invert__) .none kV17 dc17 pm17 an17 cd17 ct17), sl17⟩) (c17 : PySem.W.codeIn K cd17 "Rule.__invert__" = true) (k17 : PySem.W.keepIn K (.ref f17) = true) (i17 : PySem.W.isFn K (.ref f17) = true)
    (a18 : PySem.W.findIn K (.ref CR) "__str__" = some (some (.ref f18))) (l18 : K.lookup f18 = some ⟨oc18, od18, .func (PySem.W.fnOf "__str__" "Rule.__str__" (defArgs s_Rule___str__) (defBody s_Rule___str__) (defScope s_Rule___str__) .none kV18 dc18 pm18 an18 cd18 ct18), sl18⟩) (c18 : PySem.W.codeIn K cd18 "Rule.__str__" = true) (k18 : PySem.W.keepIn K (.ref f18) = true) (i18 : PySem.W.isFn K (.ref f18) = true)
    (a19 : PySem.W.findIn K (.ref CR) "__eq__" = some (some (.ref f19))) (l19 : K.lookup f19 = some ⟨oc19, od19, .func (PySem.W.fnOf "__eq__" "Rule.__eq__" (defArgs s_Rule___eq__) (defBody s_Rule___eq__) (defScope s_Rule___eq__) .none kV19 dc19 pm19 an19 cd19 ct19), sl19⟩) (c19 : PySem.W.codeIn K cd19 "Rule.__eq__" = true) (k19 : PySem.W.keepIn K (.ref f19) = true) (i19 : PySem.W.isFn K (.ref f19) = true)
    (a20 : PySem.W.nsIn K mainGlobals "_law_built" = some (some (.ref f20))) (l20 : K.lookup f20 = some ⟨oc20, od20, .func (PySem.W.fnOf "_law_built" "_law_built" (defArgs s_law_built) (defBody s_law_built) (defScope s_law_built) .none kV20 dc20 pm20 an20 cd20 ct20), sl20⟩) (c20 : PySem.W.codeIn K cd20 "_law_built" = true) (k20 : PySem.W.keepIn K (.ref f20) = true)
    (a21 : PySem.W.nsIn K mainGlobals "_law_allows" = some (some (.ref f21))) (l21 : K.lookup f21 = some ⟨oc21, od21, .func (PySem.W.fnOf "_law_allows" "_law_allows" (defArgs s_law_allows) (defBody s_law_allows) (defScope s_law_allows) .none kV21 dc21 pm21 an21 cd21 ct21), sl21⟩) (c21 : PySem.W.codeIn K cd21 "_law_allows" = true) (k21 : PySem.W.keepIn K (.ref f21) = true)
    (a22 : PySem.W.nsIn K mainGlobals "_law_subsets" = some (some (.ref f22))) (l22 : K.lookup f22 = some ⟨oc22, od22, .func (PySem.W.fnOf "_law_subsets" "_law_subsets" (defArgs s_law_subsets) (defBody s_law_subsets) (defScope s_law_subsets) .none kV22 dc22 pm22 an22 cd22 ct22), sl22⟩) (c22 : PySem.W.codeIn K cd22 "_law_subsets" = true) (k22 : PySem.W.keepIn K (.ref f22) = true)
    (a23 : PySem.W.nsIn K mainGlobals "law" = some (some (.ref f23))) (l23 : K.lookup f23 = some ⟨oc23, od23, .func (PySem.W.fnOf "law" "law" (defArgs s_law) (defBody s_law) (defScope s_law) .none kV23 dc23 pm23 an23 cd23 ct23), sl23⟩) (c23 : PySem.W.codeIn K cd23 "law" = true) (k23 : PySem.W.keepIn K (.ref f23) = true)
    (z_int : PySem.W.nsIn K mainGlobals "int" = some none)
    (z_len : PySem.W.nsIn K mainGlobals "len" = some none)
    (z_abs : PySem.W.nsIn K mainGlobals "abs" = some none)
    (z_range : PySem.W.nsIn K mainGlobals "range" = some none)
    (z_max : PySem.W.nsIn K mainGlobals "max" = some none)
    (z_min : PySem.W.nsIn K mainGlobals "min" = some none)
    (z_isi : PySem.W.nsIn K mainGlobals "isinstance" = some none)
    (z_str : PySem.W.nsIn K mainGlobals "str" = some none)
    (z_all : PySem.W.nsIn K mainGlobals "all" = some none)
    (z_repr : PySem.W.nsIn K mainGlobals "repr" = some none)
    (z_list : PySem.W.nsIn K mainGlobals "list" = some none)
    (z_tuple : PySem.W.nsIn K mainGlobals "tuple" = some none)
    (z_set : PySem.W.nsIn K mainGlobals "set" = some none)
    (z_sorted : PySem.W.nsIn K mainGlobals "sorted" = some none)
    (gR : PySem.W.nsIn K mainGlobals "Rule" = some (some (.ref CR)))
    (rrd : PySem.W.readsIn K CR (.type "type") = true)
    (rga : PySem.W.specialIn K (.ref CR) "__getattribute__" = some (some (.builtin "type.__getattribute__")))
    (smH : PySem.W.findCls K (.ref CR) (.type "type") "has" = some (.get (.builtin "staticmethod.__get__") (.ref pH) .none (.ref CR)))
    (smT : PySem.W.findCls K (.ref CR) (.type "type") "together" = some (.get (.builtin "staticmethod.__get__") (.ref pT) .none (.ref CR)))
    (smA : PySem.W.findCls K (.ref CR) (.type "type") "always" = some (.get (.builtin "staticmethod.__get__") (.ref pA) .none (.ref CR)))
    (pgR : PySem.W.plainGet K CR Str.empty = true)
    (hdR : PySem.W.hasDictIn K CR = true)
    (poR : PySem.W.plainOver K CR = true)
    (saR : PySem.W.findIn K (.ref CR) "__setattr__" = some (some (.builtin "object.__setattr__")))
    (mkR : PySem.W.makesIn K CR = true)
    (kpR : PySem.W.keepIn K (.ref CR) = true)
    (nR0 : PySem.W.findIn K (.ref CR) "_names" = some none)
    (nR1 : PySem.W.findIn K (.ref CR) "_allowed" = some none)
    (nR2 : PySem.W.findIn K (.ref CR) "_text" = some none)
    (gMR : PySem.W.nsIn K mainGlobals "MOST_RECORDS" = some (some (.int 6 tkR)))
    (fsR : PySem.W.selfFirst K CR = true)
    (neR : PySem.W.findIn K (.ref CR) "__ne__" = some (some (.builtin "object.__ne__")))
    (obR : PySem.W.mroIn K CR (.type "object") = some true)
    (gclR : PySem.W.findIn K (.ref CR) "__class__" = some (some (.builtin "object.__class__")))
    (cgtR : PySem.W.specialIn K (.builtin "object.__class__") "__get__" = some (some (.builtin "getset_descriptor.__get__")))
    (ctkR : PySem.W.takesIn K (.builtin "object.__class__") = some true)
    (iclR : PySem.W.isClsIn K CR = true)
    (tycR : PySem.W.typeIn K (.ref CR) = some (.type "type"))
    (fiC : PySem.W.fnIn K f12 = true)
    : ∃ fd : FuncData, (∀ (s : Shared) (v : Value), BindsTo s fd ⟨[v], []⟩ [("script", v)]) ∧ ∀ base : Heap, K.In base → base.Ns mainGlobals mg → FnOk l.prog w K mg base CX0 12 fa fd ["script"] (spLaw K) := by
  have e := hfa.symm.trans (PySem.W.mg_of X G a23)
  cases e
  have T : Bn mg := ⟨PySem.W.mg_none_of X G z_int, PySem.W.mg_none_of X G z_len, PySem.W.mg_none_of X G z_abs, PySem.W.mg_none_of X G z_range, PySem.W.mg_none_of X G z_max, PySem.W.mg_none_of X G z_min, PySem.W.mg_none_of X G z_isi, PySem.W.mg_none_of X G z_str, PySem.W.mg_none_of X G z_all, PySem.W.mg_none_of X G z_repr, PySem.W.mg_none_of X G z_list, PySem.W.mg_none_of X G z_tuple, PySem.W.mg_none_of X G z_set, PySem.W.mg_none_of X G z_sorted⟩
  have F0 := fun_mk (st := s_law_pool) l0 c0 k0
  have b0 := F0.binds (ps := ["script", "at"]) fun _ _ _ _ _ _ us hl => match us, hl with | [_, _], _ => rfl
  have F1 := fun_mk (st := s_law_draw) l1 c1 k1
  have b1 := F1.binds (ps := ["pool", "many"]) fun _ _ _ _ _ _ us hl => match us, hl with | [_, _], _ => rfl
  have F2 := fun_mk (st := s_law_word) l2 c2 k2
  have b2 := F2.binds (ps := ["pool"]) fun _ _ _ _ _ _ us hl => match us, hl with | [_], _ => rfl
  have F3 := fun_mk (st := s_is_word) l3 c3 k3
  have b3 := F3.binds (ps := ["thing"]) fun _ _ _ _ _ _ us hl => match us, hl with | [_], _ => rfl
  have F4 := fun_mk (st := s_subsets) l4 c4 k4
  have b4 := F4.binds (ps := ["names"]) fun _ _ _ _ _ _ us hl => match us, hl with | [_], _ => rfl
  have F5 := fun_mk (st := s_united) l5 c5 k5
  have b5 := F5.binds (ps := ["names", "others"]) fun _ _ _ _ _ _ us hl => match us, hl with | [_, _], _ => rfl
  have F6 := fun_mk (st := s_check_few) l6 c6 k6
  have b6 := F6.binds (ps := ["names"]) fun _ _ _ _ _ _ us hl => match us, hl with | [_], _ => rfl
  have F7 := fun_mk (st := s_Rule___init__) l7 c7 k7
  have b7 := F7.binds (ps := ["self", "names", "allowed", "text"]) fun _ _ _ _ _ _ us hl => match us, hl with | [_, _, _, _], _ => rfl
  have F8 := fun_mk (st := s_Rule_has) l8 c8 k8
  have b8 := F8.binds (ps := ["record"]) fun _ _ _ _ _ _ us hl => match us, hl with | [_], _ => rfl
  have F9 := fun_mk (st := s_Rule_together) l9 c9 k9
  have F10 := fun_mk (st := s_Rule_always) l10 c10 k10
  have b10 := F10.binds (ps := []) fun _ _ _ _ _ _ us hl => match us, hl with | [], _ => rfl
  have F11 := fun_mk (st := s_Rule__allows) l11 c11 k11
  have b11 := F11.binds (ps := ["self", "kept"]) fun _ _ _ _ _ _ us hl => match us, hl with | [_, _], _ => rfl
  have F12 := fun_mk (st := s_Rule___call__) l12 c12 k12
  have b12 := F12.binds (ps := ["self", "kept"]) fun _ _ _ _ _ _ us hl => match us, hl with | [_, _], _ => rfl
  have F13 := fun_mk (st := s_Rule__names_with) l13 c13 k13
  have b13 := F13.binds (ps := ["self", "other"]) fun _ _ _ _ _ _ us hl => match us, hl with | [_, _], _ => rfl
  have F14 := fun_mk (st := s_Rule___and__) l14 c14 k14
  have b14 := F14.binds (ps := ["self", "other"]) fun _ _ _ _ _ _ us hl => match us, hl with | [_, _], _ => rfl
  have F15 := fun_mk (st := s_Rule___or__) l15 c15 k15
  have b15 := F15.binds (ps := ["self", "other"]) fun _ _ _ _ _ _ us hl => match us, hl with | [_, _], _ => rfl
  have F16 := fun_mk (st := s_Rule___rshift__) l16 c16 k16
  have b16 := F16.binds (ps := ["self", "other"]) fun _ _ _ _ _ _ us hl => match us, hl with | [_, _], _ => rfl
  have F17 := fun_mk (st := s_Rule___invert__) l17 c17 k17
  have b17 := F17.binds (ps := ["self"]) fun _ _ _ _ _ _ us hl => match us, hl with | [_], _ => rfl
  have F18 := fun_mk (st := s_Rule___str__) l18 c18 k18
  have b18 := F18.binds (ps := ["self"]) fun _ _ _ _ _ _ us hl => match us, hl with | [_], _ => rfl
  have F19 := fun_mk (st := s_Rule___eq__) l19 c19 k19
  have b19 := F19.binds (ps := ["self", "other"]) fun _ _ _ _ _ _ us hl => match us, hl with | [_, _], _ => rfl
  have F20 := fun_mk (st := s_law_built) l20 c20 k20
  have b20 := F20.binds (ps := ["pool", "records", "depth"]) fun _ _ _ _ _ _ us hl => match us, hl with | [_, _, _], _ => rfl
  have F21 := fun_mk (st := s_law_allows) l21 c21 k21
  have b21 := F21.binds (ps := ["node", "kept"]) fun _ _ _ _ _ _ us hl => match us, hl with | [_, _], _ => rfl
  have F22 := fun_mk (st := s_law_subsets) l22 c22 k22
  have b22 := F22.binds (ps := ["records"]) fun _ _ _ _ _ _ us hl => match us, hl with | [_], _ => rfl
  have F23 := fun_mk (st := s_law) l23 c23 k23
  refine ⟨PySem.W.fnOf "law" "law" (defArgs s_law) (defBody s_law) (defScope s_law) .none kV23 dc23 pm23 an23 cd23 ct23, fun s v => .of_eq rfl, fun base hbK hbG => ?_⟩
  have R : RTxt K mg CR := ⟨⟨pgR, hdR, poR, saR⟩, nR0, nR1, nR2, PySem.W.mg_of X G gR, ⟨_, PySem.W.mg_of X G gMR, ⟨_, rfl⟩⟩⟩
  have S_h : SMet K CR (.type "type") "has" pH f8 := ⟨⟨rrd, rga⟩, smH, ⟨_, a8⟩, k8⟩
  have S_t : SMet K CR (.type "type") "together" pT f9 := ⟨⟨rrd, rga⟩, smT, ⟨_, a9⟩, k9⟩
  have S_a : SMet K CR (.type "type") "always" pA f10 := ⟨⟨rrd, rga⟩, smA, ⟨_, a10⟩, k10⟩
  have D_law_pool : Df l.prog w K mg base 1 "_law_pool" ["script", "at"] (spPool K) := ⟨f0, _, ok_pool F0 T, PySem.W.mg_of X G a0, k0, b0⟩
  have D_law_draw : Df l.prog w K mg base 1 "_law_draw" ["pool", "many"] spDraw := ⟨f1, _, ok_draw F1 T, PySem.W.mg_of X G a1, k1, b1⟩
  have D_law_word : Df l.prog w K mg base 2 "_law_word" ["pool"] spWord := ⟨f2, _, ok_word F2 T D_law_draw, PySem.W.mg_of X G a2, k2, b2⟩
  have D_is_word : Df l.prog w K mg base 1 "is_word" ["thing"] (spIsWord K) := ⟨f3, _, ok_is_word F3 T, PySem.W.mg_of X G a3, k3, b3⟩
  have D_subsets : Df l.prog w K mg base 1 "subsets" ["names"] spSubs := ⟨f4, _, ok_subsets F4, PySem.W.mg_of X G a4, k4, b4⟩
  have D_united : Df l.prog w K mg base 1 "united" ["names", "others"] spUnited := ⟨f5, _, ok_united F5 T, PySem.W.mg_of X G a5, k5, b5⟩
  have D_check_few : Df l.prog w K mg base 1 "check_few" ["names"] spFew := ⟨f6, _, ok_few F6 T R, PySem.W.mg_of X G a6, k6, b6⟩
  have C_R : RDf l.prog w K mg base 1 CR := ⟨f7, _, ⟨mkR, a7, i7, kpR⟩, ok_rinit F7 R, b7, PySem.W.mg_of X G gR⟩
  have F_h : FnR l.prog w K mg base CX0 3 f8 (spHas CR) := ((ok_has F8 R D_is_word C_R).raw b8 .nil).imp fun vs H Q E h => by
    rw [List.append_nil]
    exact h
  have F_t : FnR l.prog w K mg base CX0 4 f9 (spStar CR) := ok_together F9 T D_is_word D_check_few C_R
  have F_a : FnR l.prog w K mg base CX0 3 f10 (spAlways CR) := ((ok_always F10 C_R).raw b10 .nil).imp fun vs H Q E h => by
    rw [List.append_nil]
    exact h
  have M_allows : MDf l.prog w K mg base CX0 1 CR "_allows" ["self", "kept"] [] (spAsk CR) := ⟨f11, _, [], ok_allows F11 T R, ⟨a11, i11, k11⟩, b11, .nil⟩
  have F_c : FnR l.prog w K mg base CX0 2 f12 (fun vs H Q E => spAsk CR (vs ++ []) H Q E) := (ok_call F12 R M_allows).raw b12 .nil
  have CO : StX.CallO K CR f12 := ⟨a12, i12, fiC⟩
  have M_with : MDf l.prog w K mg base CX0 2 CR "_names_with" ["self", "other"] [] (spWith CR) := ⟨f13, _, [], ok_with F13 T R D_united D_check_few, ⟨a13, i13, k13⟩, b13, .nil⟩
  have F_and : FnR l.prog w K mg base CX0 3 f14 (spOp2 CR (opB 0) (opS 0)) := ((ok_and F14 R D_subsets M_allows M_with C_R).raw b14 .nil).imp fun vs H Q E h => by
    rw [List.append_nil]
    exact h
  have F_or : FnR l.prog w K mg base CX0 3 f15 (spOp2 CR (opB 1) (opS 1)) := ((ok_or F15 R D_subsets M_allows M_with C_R).raw b15 .nil).imp fun vs H Q E h => by
    rw [List.append_nil]
    exact h
  have F_needs : FnR l.prog w K mg base CX0 3 f16 (spOp2 CR (opB 2) (opS 2)) := ((ok_needs F16 R D_subsets M_allows M_with C_R).raw b16 .nil).imp fun vs H Q E h => by
    rw [List.append_nil]
    exact h
  have F_inv : FnR l.prog w K mg base CX0 3 f17 (spNot CR) := ((ok_invert F17 R D_subsets M_allows C_R).raw b17 .nil).imp fun vs H Q E h => by
    rw [List.append_nil]
    exact h
  have F_str : FnR l.prog w K mg base CX0 1 f18 (spStr CR) := ((ok_str F18 T R).raw b18 .nil).imp fun vs H Q E h => by
    rw [List.append_nil]
    exact h
  have O : ROps l.prog w K mg base CR := ⟨fsR, ⟨_, a14, i14, F_and⟩, ⟨_, a15, i15, F_or⟩, ⟨_, a16, i16, F_needs⟩, ⟨_, a17, i17, F_inv⟩, ⟨_, a18, i18, F_str⟩⟩
  have EQ : EqTxt K CR f19 := ⟨a19, i19, neR, obR, iclR, tycR, gclR, cgtR, ctkR, R.c⟩
  have F_eq : FnR l.prog w K mg base CX0 2 f19 (spEqR K CR) := ((ok_eq F19 T R EQ D_subsets D_united M_allows).raw b19 .nil).imp fun vs H Q E h => by
    rw [List.append_nil]
    exact h
  have D_built : ∀ n, Df l.prog w K mg base (5 + n) "_law_built" ["pool", "records", "depth"] (spB CR n) := fun n => by
    induction n with
    | zero => exact ⟨f20, _, ⟨fun _ _ _ _ h => False.elim h, by
      intros
      rename_i h
      exact (show False from h).elim⟩, PySem.W.mg_of X G a20, k20, b20⟩
    | succ n ih =>
      have e : 5 + (n + 1) = 6 + n := by omega
      rw [e]
      exact ⟨f20, _, ok_built F20 T R D_law_draw S_t F_t S_h F_h S_a F_a O n ih, PySem.W.mg_of X G a20, k20, b20⟩
  have D_sat : ∀ n, Df l.prog w K mg base (1 + n) "_law_allows" ["node", "kept"] (spA n) := fun n => by
    induction n with
    | zero => exact ⟨f21, _, ⟨fun _ _ _ _ h => False.elim h, by
      intros
      rename_i h
      exact (show False from h).elim⟩, PySem.W.mg_of X G a21, k21, b21⟩
    | succ n ih =>
      have e : 1 + (n + 1) = 2 + n := by omega
      rw [e]
      exact ⟨f21, _, ok_sat F21 T n ih, PySem.W.mg_of X G a21, k21, b21⟩
  have D_law_subsets : Df l.prog w K mg base 1 "_law_subsets" ["records"] spLSubs := ⟨f22, _, ok_lsubs F22, PySem.W.mg_of X G a22, k22, b22⟩
  exact ok_law16 F23 T R D_law_pool D_law_draw D_law_word D_law_subsets (D_built 5) (D_built 4) (D_sat 5) O S_t F_t S_a F_a EQ F_eq
theorem walk {l : PySem.W.OpenLaw} {q : Program} {loose : List Str} {XP : (Str → Option Value) → Heap → Prop} {YP : World → Heap → Prop} {d : DefRec} {K : Params → PySem.W.Frag} (hn : l.most = some 63) (hdf : d.params.defaults = [])
    (hY : ∀ (w : World) (h : Heap), YP w h → (K w.params).In h)
    (F : ∀ (w : World) (mg : Str → Option Value) (fa : Addr) (h : Heap), (K w.params).In h → h.Ns mainGlobals mg → mg d.name = some (.ref fa) →
      ∃ fd : FuncData, (∀ (s : Shared) (u : Value), BindsTo s fd ⟨[u], []⟩ [("script", u)]) ∧ ∀ base : Heap, (K w.params).In base → base.Ns mainGlobals mg → FnOk l.prog w (K w.params) mg base CX0 12 fa fd ["script"] (spLaw (K w.params))) :
    PySem.W.WalkO q loose XP YP l.row.toRowW d [] (fun f vs => PySem.call f vs) :=
  L2.walk_of (n := 63) (k := 12) (x := "script") (CX := fun _ => CX0) (sp := fun w => spLaw (K w.params)) hn (by decide) hdf ⟨rfl, by decide, by decide⟩ hY F (fun _ _ a ns hl _ hS => ⟨a, ns, rfl, hS, hl, fun _ => rfl⟩) fun _ _ _ _ _ z => z
end IC
open PySem PySem.W PyProof.Rows
set_option maxRecDepth 100000 in
set_option maxHeartbeats 0 in
theorem PySem.Challenge.cw_innercommits_k16_rules_that_are_equal_holds : PySem.Challenge.rw_innercommits_k16_rules_that_are_equal.Holds := by
  w_on; o_law; k_head; (case hw => w_witness2)
  k_fill
  refine IC.walk (l := PySem.Challenge.rw_innercommits_k16_rules_that_are_equal) rfl rfl (fun w h Y => PySem.W.kIn_of Y) ?F
  case F =>
    intro w mg fa h KX G hmg
    refine' IC.all_mk KX G hmg ?a0 ?l0 ?c0 ?k0 ?a1 ?l1 ?c1 ?k1 ?a2 ?l2 ?c2 ?k2 ?a3 ?l3 ?c3 ?k3 ?a4 ?l4 ?c4 ?k4 ?a5 ?l5 ?c5 ?k5 ?a6 ?l6 ?c6 ?k6 ?a7 ?l7 ?c7 ?k7 ?i7 ?a8 ?l8 ?c8 ?k8 ?a9 ?l9 ?c9 ?k9 ?a10 ?l10 ?c10 ?k10 ?a11 ?l11 ?c11 ?k11 ?i11 ?a12 ?l12 ?c12 ?k12 ?i12 ?a13 ?l13 ?c13 ?k13 ?i13 ?a14 ?l14 ?c14 ?k14 ?i14 ?a15 ?l15 ?c15 ?k15 ?i15 ?a16 ?l16 ?c16 ?k16 ?i16 ?a17 ?l17 ?c17 ?k17 ?i17 ?a18 ?l18 ?c18 ?k18 ?i18 ?a19 ?l19 ?c19 ?k19 ?i19 ?a20 ?l20 ?c20 ?k20 ?a21 ?l21 ?c21 ?k21 ?a22 ?l22 ?c22 ?k22 ?a23 ?l23 ?c23 ?k23 ?z_int ?z_len ?z_abs ?z_range ?z_max ?z_min ?z_isi ?z_str ?z_all ?z_repr ?z_list ?z_tuple ?z_set ?z_sorted ?gR ?rrd ?rga ?smH ?smT ?smA ?pgR ?hdR ?poR ?saR ?mkR ?kpR ?nR0 ?nR1 ?nR2 ?gMR ?fsR ?neR ?obR ?gclR ?cgtR ?ctkR ?iclR ?tycR ?fiC
    (case gR => k_is)
    (case rrd => k_is)
    (case rga => k_is)
    (case smH => k_is)
    (case smT => k_is)
    (case smA => k_is)
    (case pgR => k_is)
    (case hdR => k_is)
    (case poR => k_is)
    (case saR => k_is)
    (case mkR => k_is)
    (case kpR => k_is)
    (case nR0 => k_is)
    (case nR1 => k_is)
    (case nR2 => k_is)
    (case gMR => k_is)
    (case fsR => k_is)
    (case neR => k_is)
    (case obR => k_is)
    (case gclR => k_is)
    (case cgtR => k_is)
    (case ctkR => k_is)
    (case iclR => k_is)
    (case tycR => k_is)
    (case a0 => k_is)
    (case l0 => k_is)
    (case c0 => k_is)
    (case k0 => k_is)
    (case a1 => k_is)
    (case l1 => k_is)
    (case c1 => k_is)
    (case k1 => k_is)
    (case a2 => k_is)
    (case l2 => k_is)
    (case c2 => k_is)
    (case k2 => k_is)
    (case a3 => k_is)
    (case l3 => k_is)
    (case c3 => k_is)
    (case k3 => k_is)
    (case a4 => k_is)
    (case l4 => k_is)
    (case c4 => k_is)
    (case k4 => k_is)
    (case a5 => k_is)
    (case l5 => k_is)
    (case c5 => k_is)
    (case k5 => k_is)
    (case a6 => k_is)
    (case l6 => k_is)
    (case c6 => k_is)
    (case k6 => k_is)
    (case a7 => k_is)
    (case l7 => k_is)
    (case c7 => k_is)
    (case k7 => k_is)
    (case i7 => k_is)
    (case a8 => k_is)
    (case l8 => k_is)
    (case c8 => k_is)
    (case k8 => k_is)
    (case a9 => k_is)
    (case l9 => k_is)
    (case c9 => k_is)
    (case k9 => k_is)
    (case a10 => k_is)
    (case l10 => k_is)
    (case c10 => k_is)
    (case k10 => k_is)
    (case a11 => k_is)
    (case l11 => k_is)
    (case c11 => k_is)
    (case k11 => k_is)
    (case i11 => k_is)
    (case a12 => k_is)
    (case l12 => k_is)
    (case c12 => k_is)
    (case k12 => k_is)
    (case i12 => k_is)
    (case a13 => k_is)
    (case l13 => k_is)
    (case c13 => k_is)
    (case k13 => k_is)
    (case i13 => k_is)
    (case a14 => k_is)
    (case l14 => k_is)
    (case c14 => k_is)
    (case k14 => k_is)
    (case i14 => k_is)
    (case a15 => k_is)
    (case l15 => k_is)
    (case c15 => k_is)
    (case k15 => k_is)
    (case i15 => k_is)
    (case a16 => k_is)
    (case l16 => k_is)
    (case c16 => k_is)
    (case k16 => k_is)
    (case i16 => k_is)
    (case a17 => k_is)
    (case l17 => k_is)
    (case c17 => k_is)
    (case k17 => k_is)
    (case i17 => k_is)
    (case a18 => k_is)
    (case l18 => k_is)
    (case c18 => k_is)
    (case k18 => k_is)
    (case i18 => k_is)
    (case a19 => k_is)
    (case l19 => k_is)
    (case c19 => k_is)
    (case k19 => k_is)
    (case i19 => k_is)
    (case a20 => k_is)
    (case l20 => k_is)
    (case c20 => k_is)
    (case k20 => k_is)
    (case a21 => k_is)
    (case l21 => k_is)
    (case c21 => k_is)
    (case k21 => k_is)
    (case a22 => k_is)
    (case l22 => k_is)
    (case c22 => k_is)
    (case k22 => k_is)
    (case a23 => k_is)
    (case l23 => k_is)
    (case c23 => k_is)
    (case k23 => k_is)
    (case z_int => k_is)
    (case z_len => k_is)
    (case z_abs => k_is)
    (case z_range => k_is)
    (case z_max => k_is)
    (case z_min => k_is)
    (case z_isi => k_is)
    (case z_str => k_is)
    (case z_all => k_is)
    (case z_repr => k_is)
    (case z_list => k_is)
    (case z_tuple => k_is)
    (case z_set => k_is)
    (case z_sorted => k_is)
    (case fiC => k_is)
#print axioms PySem.Challenge.cw_innercommits_k16_rules_that_are_equal_holds
