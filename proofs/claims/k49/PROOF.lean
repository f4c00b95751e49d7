import PyProof.Rows.All
import Wide.All
import OpenK.AllK
import Wide.FinOn
import HandS.ForMost
import HandS.Wide
import HandS.IsInst
import HandS.Style
import HandS.Flow
import HandS.Evl
import HandS.Walk
import HandS.Codes
import HandS.Defaults
import HandS.MakeKwOnly
import HandS.TupAny
import HandS.Strs
import HandS.Zip
import KE.SortData
import HandS.More
import HandS.CallSlots
import PySem.Challenge.RW_innercommits_k49_entry_cases
set_option Elab.async false
set_option linter.all false
set_option maxRecDepth 100000
set_option maxHeartbeats 4000000
namespace IC
open PySem L2 TL
/-! ### heaps: all but the addresses of l stand as they stood -/
def Kp (l : List Addr) (H H' : Hp) : Prop := ∀ b o, H b = some o → b ∉ l → H' b = some o
theorem Kp.refl (l : List Addr) (H : Hp) : Kp l H H := fun _ _ e _ => e
theorem Kp.trans {l : List Addr} {H H1 H2 : Hp} (a : Kp l H H1) (b : Kp l H1 H2) : Kp l H H2 := fun c o e h => b c o (a c o e h) h
theorem Kp.same {l : List Addr} {H H' : Hp} (a : Same H H') : Kp l H H' := fun b o e _ => a b o e
theorem Kp.at_ {l : List Addr} {H : Hp} {p : Addr} {o : HO} (h : p ∈ l) : Kp l H (upd H p o) := fun b u e hb => by
  have q : b ≠ p := fun z => hb (by rw [z]; exact h)
  rw [upd_ne q]; exact e
theorem Kp.new {l : List Addr} {H : Hp} {p : Addr} {o : HO} (h : H p = none) : Kp l H (upd H p o) := fun b u e _ => by
  rw [upd_ne (ne_of_none e h)]; exact e
theorem Kp.mut {l : List Addr} {H H' : Hp} {p : Addr} {o : HO} (a : Kp l H H') (h : H p = none) : Kp l H (upd H' p o) := fun b u e hb => by
  rw [upd_ne (ne_of_none e h)]; exact a b u e hb
theorem Kp.mutAt {l : List Addr} {H H' : Hp} {p : Addr} {o : HO} (a : Kp l H H') (h : p ∈ l) : Kp l H (upd H' p o) := a.trans (Kp.at_ h)
theorem none_of {H : Hp} {p D : Addr} {o : HO} (h : upd H p o D = none) : p ≠ D ∧ H D = none := by
  have q : p ≠ D := ne_of_none upd_same h
  rw [upd_ne q.symm] at h
  exact ⟨q, h⟩
theorem Same.new {H : Hp} {p : Addr} {o : HO} (h : H p = none) : Same H (upd H p o) := fun b u e => by
  rw [upd_ne (ne_of_none e h)]; exact e

/-! ### the pool of numbers -/
def pl (a b c : Int) : List V := [.int a, .int b, .int c]
def PoolAt (H : Hp) (p : Addr) (n : Int) : Prop := ∃ a b c : Int, H p = some (.lst (pl a b c)) ∧ 0 ≤ a ∧ 0 ≤ b ∧ b < 2 ^ 63 ∧ 0 ≤ c ∧ c ≤ n
theorem PoolAt.up {H : Hp} {p : Addr} {n m : Int} (h : PoolAt H p n) (e : n ≤ m) : PoolAt H p m := by
  obtain ⟨a, b, c, h1, h2, h3, h4, h5, h6⟩ := h
  exact ⟨a, b, c, h1, h2, h3, h4, h5, Int.le_trans h6 e⟩
theorem PoolAt.mv {H H' : Hp} {p : Addr} {n : Int} (h : PoolAt H p n) (e : ∀ o, H p = some o → H' p = some o) : PoolAt H' p n := by
  obtain ⟨a, b, c, h1, h⟩ := h
  exact ⟨a, b, c, e _ h1, h⟩
/-- _law_draw(pool, many): a number below many; only the pool changes -/
def spDraw : Sp := fun vs H Q _ => ∃ (p : Addr) (m n : Int), vs = [.ref p, .int m] ∧ PoolAt H p n ∧ n < 1000000000 ∧ 0 < m ∧ m.natAbs < 2 ^ 200 ∧
  ∀ (d : Int) (o : HO), 0 ≤ d → d < m → PoolAt (upd H p o) p (n + 1) → Q (.int d) (upd H p o)
/-- _law_pool(script, at): a new pool -/
def spPool (K : PySem.W.Frag) : Sp := fun vs H Q _ => ∃ (a : Addr) (ns : List Int) (j : Nat), vs = [.ref a, .int j] ∧ SqL K H a (ns.map V.int) ∧ j < 64 ∧
  ∀ (p : Addr) (o : HO), H p = none → PoolAt (upd H p o) p 0 → Q (.ref p) (upd H p o)

/-- a def of the text by its name: it keeps the promise sp -/
structure Df (P : Program) (w : World) (K : PySem.W.Frag) (mg : Str → Option Value) (base : Heap) (k : Nat) (x : Str) (ps : List Str) (sp : Sp) : Prop where
  ex : ∃ (f : Addr) (fd : FuncData), FnOk P w K mg base CX0 k f fd ps sp ∧ mg x = some (.ref f) ∧ PySem.W.keepIn K (.ref f) = true ∧ Binds K fd ps []
theorem pe_df {X : Cx} {k j : Nat} {x : Str} {ps : List Str} {sp : Sp} {e : Expr} {es : List Expr} {t : TA} {p pos : Pos} (D : Df X.prog X.w X.K X.mg X.base k x ps sp) (hr : Room j X.A) (hk : k ≤ j) (hg : Gl X x)
    (ha : PA X (e :: es) t) (hdb : (x == ("__debug__" : Str)) = false := by decide) (he : starEach (e :: es) X.env = (false, eval e X.env) :: starEach es X.env := by rfl) (hpl : (backTo pos (starEach es X.env)).any (·.1) = false := by rfl) :
    PE X (.Call (.Name x p) (e :: es) [] pos) (tCall sp [] E0 t) := by
  obtain ⟨f, fd, F, hm, hkp, hb⟩ := D.ex
  exact pe_call F (hr.mono hk) hg hm hkp hb .nil pass0 ha hdb he hpl

/-! ### words -/
def Lt (c : Nat) : Prop := 97 ≤ c ∧ c ≤ 122
def IsW (z : Str) : Prop := 1 ≤ (tl z).length ∧ (tl z).length ≤ 8 ∧ ∀ c ∈ tl z, Lt c
def sgn (c : Nat) : Str := ⟨#[c]⟩
theorem joinL_one : ∀ cs : List Nat, joinL [] (cs.map fun c => [c]) = cs
  | [] => rfl
  | [c] => rfl
  | c :: d :: r => by
    show [c] ++ ([] ++ joinL [] ((d :: r).map fun c => [c])) = c :: d :: r
    rw [joinL_one (d :: r)]
    rfl
theorem tl_joined (cs : List Nat) : tl (Txt.join (Str.ofString "") (cs.map sgn)) = cs := by
  rw [join_eq, tl_join, List.map_map]
  exact joinL_one cs
def spWord : Sp := fun vs H Q _ => ∃ (p : Addr) (n : Int), vs = [.ref p] ∧ PoolAt H p n ∧ n < 900000000 ∧
  ∀ (z : Str) (H' : Hp), IsW z → PoolAt H' p (n + 9) → Kp [p] H H' → Q (.str z) H'
theorem abc_at (d : Int) (h0 : 0 ≤ d) (h1 : d < 26) : ∃ c, atI (Str.ofString "abcdefghijklmnopqrstuvwxyz").cps.toList d = some c ∧ Lt c := by
  have e : (Str.ofString "abcdefghijklmnopqrstuvwxyz").cps.toList = [97,98,99,100,101,102,103,104,105,106,107,108,109,110,111,112,113,114,115,116,117,118,119,120,121,122] := by decide +kernel
  rw [e]
  obtain ⟨j, rfl⟩ : ∃ j : Nat, d = j := ⟨d.toNat, by omega⟩
  have hj : j < 26 := by omega
  refine ⟨97 + j, atI_nat ?_, by unfold Lt; omega⟩
  have all : ∀ k : Fin 26, ([97,98,99,100,101,102,103,104,105,106,107,108,109,110,111,112,113,114,115,116,117,118,119,120,121,122] : List Nat)[k.val]? = some (97 + k.val) := by decide
  exact all ⟨j, hj⟩
/-- no text: a value of another type -/
def Oth (K : PySem.W.Frag) (H : Hp) (v : V) : Prop := ∃ T : String, TyX K H v (.type T) ∧ kitB T "str" = some false
def lB (c : Nat) : Bool := decide (97 ≤ c) && decide (c ≤ 122)
/-- is the text a word -/
def wB (z : Str) : Bool := decide (1 ≤ (tl z).length) && (decide ((tl z).length ≤ 8) && (tl z).all lB)
def spIsWord (K : PySem.W.Frag) : Sp := fun vs H Q _ => ∃ v : V, vs = [v] ∧ ((∃ z : Str, v = .str z ∧ (tl z).length ≤ 1000 ∧ ∀ H', Same H H' → Q (.bl (wB z)) H') ∨ (Oth K H v ∧ ∀ H', Same H H' → Q (.bl false) H'))
theorem len_le {z : Str} (h : (tl z).length ≤ 1000) : z.length ≤ sizeLine := by
  rw [len_tl]; exact Nat.le_of_lt (small1000 h)
theorem tl_one (c : Nat) : tl (⟨#[c]⟩ : Str) = [c] := rfl
theorem one_lt (c d : Nat) : ([c] < [d]) ↔ ¬ d ≤ c := by
  rw [List.cons_lt_cons_iff]
  simp
theorem lt_a (c : Nat) : decide ((⟨#[c]⟩ : Str).cps.toList < (Str.ofString "a").cps.toList) = !decide (97 ≤ c) := by
  have e : (Str.ofString "a").cps.toList = [97] := by decide +kernel
  rw [e]
  show decide ([c] < [97]) = _
  rw [Bool.eq_iff_iff, decide_eq_true_iff, Bool.not_eq_true', decide_eq_false_iff_not]
  exact one_lt c 97
theorem z_lt (c : Nat) : decide ((Str.ofString "z").cps.toList < (⟨#[c]⟩ : Str).cps.toList) = !decide (c ≤ 122) := by
  have e : (Str.ofString "z").cps.toList = [122] := by decide +kernel
  rw [e]
  show decide ([122] < [c]) = _
  rw [Bool.eq_iff_iff, decide_eq_true_iff, Bool.not_eq_true', decide_eq_false_iff_not]
  exact one_lt 122 c
theorem abc_mem (c : Nat) : decide (c ∈ (Str.ofString "abcdefghijklmnopqrstuvwxyz").cps.toList) = lB c := by
  have e : (Str.ofString "abcdefghijklmnopqrstuvwxyz").cps.toList = [97,98,99,100,101,102,103,104,105,106,107,108,109,110,111,112,113,114,115,116,117,118,119,120,121,122] := by decide +kernel
  rw [e]
  unfold lB
  rw [Bool.eq_iff_iff]
  simp
  omega
theorem shaped_all {xs : List PyData} (h : ∀ x ∈ xs, PyData.canLay0 x = true ∧ PyData.depth x ≤ 20) : PyData.canLayAll0 xs = true ∧ PyData.depthAll xs ≤ 20 := by
  induction xs with
  | nil => exact ⟨rfl, Nat.zero_le _⟩
  | cons x r ih =>
    have h1 := h x List.mem_cons_self
    have h2 := ih fun y hy => h y (List.mem_cons_of_mem _ hy)
    refine ⟨?_, ?_⟩
    · show (PyData.canLay0 x && PyData.canLayAll0 r) = true
      rw [h1.1, h2.1]
      rfl
    · show max (PyData.depth x) (PyData.depthAll r) ≤ 20
      omega
theorem shaped_list {xs : List PyData} (h : ∀ x ∈ xs, PyData.canLay0 x = true ∧ PyData.depth x ≤ 20) : SeqAt.shaped (.list xs) = true := by
  obtain ⟨h1, h2⟩ := shaped_all h
  show (PyData.canLay0 (.list xs) && decide (PyData.depth (.list xs) ≤ 64)) = true
  have e1 : PyData.canLay0 (.list xs) = true := h1
  have e2 : PyData.depth (.list xs) = PyData.depthAll xs + 1 := rfl
  rw [e1, e2, decide_eq_true (by omega)]
  rfl
theorem dpAll_strs {K : PySem.W.Frag} {H : Hp} : ∀ zs : List Str, DpAll K H (zs.map V.str) (zs.map PyData.str)
  | [] => .nil
  | z :: r => .cons (.str z) (dpAll_strs r)
def Okc (c : Nat) : Prop := c < 1114112
theorem strOk_of {z : Str} (h : ∀ c ∈ tl z, Okc c) : PyData.strOk z = true := by
  unfold PyData.strOk
  rw [Array.all_eq_true_iff_forall_mem]
  intro c hc
  exact decide_eq_true (h c (by simpa [tl] using hc))
theorem shaped_strs (zs : List Str) (h : ∀ z ∈ zs, ∀ c ∈ tl z, Okc c) : SeqAt.shaped (.list (zs.map PyData.str)) = true := shaped_list fun x hx => by
  obtain ⟨z, hz, rfl⟩ := List.mem_map.mp hx
  exact ⟨strOk_of (h z hz), Nat.zero_le _⟩
/-- a comprehension over range(n) whose element is a drawn letter -/
theorem lc_draw {te : TE} {gi : Nat} {σ : L2.St} {H1 : Hp} {D p : Addr} {Qd : Hp → Prop} (n : Nat) (m : Int) (hn : n ≤ 1000) (hp : PoolAt H1 p m) (hD : H1 D = none)
    (hte : ∀ (x : V) (m' : Int) (H : Hp) (Q : VK), PoolAt H p m' → m' ≤ m + n → (∀ c o, Lt c → PoolAt (upd H p o) p (m' + 1) → Q (.str (sgn c)) (upd H p o)) → te ((σ.set gi none).set gi (some x)) H Q)
    (hd : ∀ (cs : List Nat) (H' : Hp), cs.length = n → (∀ c ∈ cs, Lt c) → H' D = some (.lst ((cs.map sgn).map V.str)) → PoolAt H' p (m + n) → Kp [p] H1 H' → Qd H') :
    ∃ W : Nat → Nat → Hp → Prop, (∃ m, W 0 m (upd H1 D (.lst []))) ∧ ∀ i m H, W i m H →
      ((Itr 0 n).stop i H ∧ Qd H) ∨ ((Itr 0 n).go i H ∧ ∃ Nx : Hp → Prop, (∀ H', Nx H' → ∃ m', m' < m ∧ W (i + 1) m' H') ∧ ∀ x H', (Itr 0 n).yld i H x H' → gName gi x (wipe σ [gi]) H' fun σ2 H2 => wipe σ2 [gi] = wipe σ [gi] ∧ tYes σ2 H2 fun b H3 =>
        if b = true then te σ2 H3 fun y H4 => ∃ acc, H4 D = some (.lst acc) ∧ acc.length < sizeLine ∧ Nx (upd H4 D (.lst (acc ++ [y]))) else Nx H3) := by
  have hpD : p ≠ D := by
    obtain ⟨a, b, c, e, _⟩ := hp
    exact ne_of_none e hD
  refine lc_range (lo := 0) (n := n) (fun i H' => ∃ cs : List Nat, cs.length = i ∧ (∀ c ∈ cs, Lt c) ∧ H' D = some (.lst ((cs.map sgn).map V.str)) ∧ PoolAt H' p (m + i) ∧ Kp [p] H1 H')
    ⟨[], rfl, by simp, upd_same, (hp.mv fun u e => by rw [upd_ne hpD]; exact e).up (by omega), Kp.new hD⟩ ?_ ?_
  · rintro i H' hi ⟨cs, hl, hc, hcD, hp2, kp⟩
    refine ⟨by simp [wipe], ?_⟩
    refine hte _ (m + i) H' _ hp2 (by omega) fun c o hL hp3 => ?_
    refine ⟨_, (by rw [upd_ne hpD.symm]; exact hcD), small1000 (by rw [List.length_map, List.length_map]; omega), cs ++ [c], by simp [hl], ?_, ?_, ?_, (kp.mutAt (by simp)).mut hD⟩
    · intro x hx
      rcases List.mem_append.mp hx with hx | hx
      · exact hc x hx
      · rw [List.mem_singleton.mp hx]; exact hL
    · rw [upd_same, List.map_append, List.map_append]
      rfl
    · exact (hp3.mv fun u q => by rw [upd_ne hpD]; exact q).up (by omega)
  · rintro H' ⟨cs, hl, hc, hcD, hp2, kp⟩
    exact hd cs H' hl hc hcD hp2 kp
theorem sum_sgn (cs : List Nat) : (List.map (fun z : Str => z.length) (cs.map sgn)).sum = cs.length := by
  rw [List.map_map]
  induction cs with
  | nil => rfl
  | cons c r ih => rw [List.map_cons, List.sum_cons, ih, List.length_cons]; show 1 + r.length = r.length + 1; omega
theorem Lt.ok {c : Nat} (h : Lt c) : Okc c := by
  have := h.2
  unfold Okc
  omega
/-- a text of few signs, or a thing of another kind -/
def Txt1 (z : Str) : Prop := (tl z).length ≤ 1000 ∧ ∀ c ∈ tl z, Okc c
def Thing (K : PySem.W.Frag) (H : Hp) (v : V) : Prop := (∃ z : Str, v = .str z ∧ Txt1 z) ∨ Oth K H v
theorem cutS_mem (z : Str) (lo hi : Option Int) : ∀ c ∈ tl (cutS z lo hi), c ∈ tl z := by
  intro c hc
  exact List.mem_of_mem_drop (List.mem_of_mem_take hc)
theorem oth_int {K : PySem.W.Frag} {H : Hp} {i : Int} : Oth K H (.int i) := ⟨"int", .base (.int i), by decide +kernel⟩
theorem oth_bl {K : PySem.W.Frag} {H : Hp} {b : Bool} : Oth K H (.bl b) := ⟨"bool", .base (.bl b), by decide +kernel⟩
theorem oth_non {K : PySem.W.Frag} {H : Hp} : Oth K H .non := ⟨"NoneType", .base .non, by decide +kernel⟩
theorem oth_lst {K : PySem.W.Frag} {H : Hp} {a : Addr} {xs : List V} (h : H a = some (.lst xs)) : Oth K H (.ref a) := ⟨"list", .base (.lst h), by decide +kernel⟩
theorem oth_tup {K : PySem.W.Frag} {H : Hp} {a : Addr} {xs : List V} (h : H a = some (.tup xs)) : Oth K H (.ref a) := ⟨"tuple", .base (.tup h), by decide +kernel⟩
theorem Kp.newAt {l : List Addr} {H H' : Hp} {p : Addr} {o : HO} (a : Kp l H H') (h : H' p = none) : Kp l H (upd H' p o) := a.trans (Kp.new h)
theorem Same.kp {H0 H H' : Hp} {p : Addr} (a : Same H0 H) (k : Kp [p] H H') (h : H0 p = none) : Same H0 H' := fun b o e => k b o (a b o e) (by
  intro z
  have q := List.mem_singleton.mp z
  rw [q, h] at e
  cases e)
theorem Oth.mv {K : PySem.W.Frag} {H H' : Hp} {v : V} (h : Oth K H v) (s : Same H H') : Oth K H' v := by
  obtain ⟨T, ty, kb⟩ := h
  refine ⟨T, ?_, kb⟩
  cases ty with
  | base b =>
    generalize ht : Value.type T = t at b
    cases b with
    | non => injection ht with ht; subst ht; exact .base .non
    | bl x => injection ht with ht; subst ht; exact .base (.bl x)
    | int i => injection ht with ht; subst ht; exact .base (.int i)
    | str x => injection ht with ht; subst ht; exact .base (.str x)
    | flt x => injection ht with ht; subst ht; exact .base (.flt x)
    | lst e => injection ht with ht; subst ht; exact .base (.lst (s _ _ e))
    | frz e => injection ht with ht; subst ht; exact .base (.frz (s _ _ e))
    | tup e => injection ht with ht; subst ht; exact .base (.tup (s _ _ e))
    | dK e => injection ht with ht; subst ht; exact .base (.dK (s _ _ e))
    | dT e => injection ht with ht; subst ht; exact .base (.dT (s _ _ e))
    | ins e => cases ht
  | byt b => exact .byt b
  | set e => exact .set (s _ _ e)
  | kList e c => exact .kList e c
  | kTuple e c => exact .kTuple e c
  | kDict e c => exact .kDict e c
  | fTuple e => exact .fTuple (s _ _ e)
  | fDict e => exact .fDict (s _ _ e)
def spLaw (K : PySem.W.Frag) : Sp := fun vs H Q _ => ∃ (a : Addr) (ns : List Int), vs = [.ref a] ∧ SqL K H a (ns.map V.int) ∧ ns.length ≤ 63 ∧ ∀ H', Q (.bl true) H'
end IC
namespace IC
open PySem L2 TL
/-- the tuples rs of the texts al -/
def Tups (H : Hp) (rs : List Addr) (al : List (List Str)) : Prop := rs.length = al.length ∧ ∀ (i : Nat) (r : Addr) (k : List Str), rs[i]? = some r → al[i]? = some k → H r = some (.tup (k.map V.str))
/-! ### two sorted lists of the same texts are one -/
def leS (a b : Str) : Prop := PySem.Spec.ltCps b.cps.toList a.cps.toList = false
theorem rise_all : ∀ (l : List Str) (p : Str), PyProof.Rows.risingS p l = true → leS p (l.headD p) ∧ PyProof.Rows.sortedS l = true
  | [], p, _ => ⟨by
      show PySem.Spec.ltCps p.cps.toList p.cps.toList = false
      rw [PyProof.Rows.ltCps_eq]
      exact decide_eq_false (List.lt_irrefl _), rfl⟩
  | x :: r, p, h => by
    have h : (!PySem.Spec.ltCps x.cps.toList p.cps.toList && PyProof.Rows.risingS x r) = true := h
    rw [Bool.and_eq_true, Bool.not_eq_true'] at h
    exact ⟨h.1, h.2⟩
theorem leS_iff {a b : Str} : leS a b ↔ ¬ b.cps.toList < a.cps.toList := by
  unfold leS
  rw [PyProof.Rows.ltCps_eq, decide_eq_false_iff_not]
theorem leS_trans {a b c : Str} (h1 : leS a b) (h2 : leS b c) : leS a c := by
  rw [leS_iff] at *
  exact fun h => h1 (List.lt_of_le_of_lt (List.not_lt.mp h2) h)
theorem leS_anti {a b : Str} (h1 : leS a b) (h2 : leS b a) : a = b := by
  rw [leS_iff] at *
  have e : a.cps.toList = b.cps.toList := List.le_antisymm (List.not_lt.mp h1) (List.not_lt.mp h2)
  rcases a with ⟨⟨a⟩⟩
  rcases b with ⟨⟨b⟩⟩
  have e : a = b := e
  rw [e]
theorem sorted_pw : ∀ l : List Str, PyProof.Rows.sortedS l = true → l.Pairwise leS
  | [], _ => .nil
  | x :: r, h => by
    have z := rise_all r x h
    have ih := sorted_pw r z.2
    refine List.pairwise_cons.mpr ⟨fun y hy => ?_, ih⟩
    cases r with
    | nil => cases hy
    | cons u r =>
      have hu : leS x u := z.1
      rcases List.mem_cons.mp hy with rfl | hy
      · exact hu
      · exact leS_trans hu ((List.pairwise_cons.mp ih).1 y hy)
theorem sorted_one {l m : List Str} (p : l.Perm m) (h1 : PyProof.Rows.sortedS l = true) (h2 : PyProof.Rows.sortedS m = true) : l = m :=
  p.eq_of_pairwise (le := leS) (fun a b _ _ => leS_anti) (sorted_pw l h1) (sorted_pw m h2)
theorem perm_mem {l m : List Str} (h1 : l.Nodup) (h2 : m.Nodup) (h : ∀ z, z ∈ l ↔ z ∈ m) : l.Perm m := (List.perm_ext_iff_of_nodup h1 h2).mpr h
/-- the sublists of ns, in the order of the program -/
def subs (ns : List Str) : List (List Str) := ns.foldl (fun acc n => acc ++ acc.map (· ++ [n])) [[]]
theorem subs_take {ns : List Str} {i : Nat} {n : Str} (h : ns[i]? = some n) : subs (ns.take (i + 1)) = subs (ns.take i) ++ (subs (ns.take i)).map (· ++ [n]) := by
  unfold subs
  rw [List.take_add_one, h, List.foldl_append]
  rfl
theorem subs_len (ns : List Str) : (subs ns).length = 2 ^ ns.length := by
  have all : ∀ (ns : List Str) (acc : List (List Str)), (ns.foldl (fun acc n => acc ++ acc.map (· ++ [n])) acc).length = acc.length * 2 ^ ns.length := by
    intro ns
    induction ns with
    | nil => intro acc; simp
    | cons n ns ih =>
      intro acc
      rw [List.foldl_cons, ih, List.length_append, List.length_map, List.length_cons, Nat.pow_succ]
      rw [← Nat.two_mul, Nat.mul_comm 2, Nat.mul_assoc, Nat.mul_comm 2]
  have z := all ns [[]]
  simpa [subs] using z
theorem subs_few {ns : List Str} (h : ns.length ≤ 6) : (subs ns).length ≤ 64 := by
  rw [subs_len]
  exact Nat.pow_le_pow_right (by decide) h
theorem subs_few8 {ns : List Str} (h : ns.length ≤ 8) : (subs ns).length ≤ 256 := by
  rw [subs_len]
  exact Nat.pow_le_pow_right (by decide) h
theorem subs_snoc (ns : List Str) (n : Str) : subs (ns ++ [n]) = subs ns ++ (subs ns).map (· ++ [n]) := by
  unfold subs
  rw [List.foldl_append]
  rfl
theorem subs_all : ∀ (m : Nat) (ns : List Str), ns.length = m → ∀ k, k ∈ subs ns ↔ k.Sublist ns
  | 0, [], _, k => by
    show k ∈ [[]] ↔ _
    rw [List.mem_singleton, List.sublist_nil]
  | m + 1, ns, h, k => by
    rcases List.eq_nil_or_concat ns with rfl | ⟨ms, n, rfl⟩
    · cases h
    · rw [List.concat_eq_append] at *
      rw [List.length_append, List.length_singleton] at h
      have ih := subs_all m ms (by omega)
      rw [subs_snoc, List.mem_append, List.mem_map, List.sublist_append_iff, ih k]
      constructor
      · rintro (q | ⟨k2, q, rfl⟩)
        · exact ⟨k, [], (List.append_nil k).symm, q, List.nil_sublist _⟩
        · exact ⟨k2, [n], rfl, (ih k2).mp q, List.Sublist.refl _⟩
      · rintro ⟨k1, k2, rfl, q1, q2⟩
        cases q2 with
        | cons _ q =>
          rw [List.sublist_nil.mp q, List.append_nil]
          exact .inl q1
        | cons_cons _ q =>
          rw [List.sublist_nil.mp q]
          exact .inr ⟨k1, (subs_all m ms (by omega) k1).mpr q1, rfl⟩
theorem subs_iff {ns k : List Str} : k ∈ subs ns ↔ k.Sublist ns := subs_all _ ns rfl k
theorem Tups.same {H H' : Hp} {rs : List Addr} {al : List (List Str)} (h : Tups H rs al) (s : Same H H') : Tups H' rs al := ⟨h.1, fun i r k e1 e2 => s _ _ (h.2 i r k e1 e2)⟩
theorem Tups.snoc {H : Hp} {rs : List Addr} {al : List (List Str)} {r : Addr} {k : List Str} (h : Tups H rs al) (hr : H r = some (.tup (k.map V.str))) : Tups H (rs ++ [r]) (al ++ [k]) := by
  refine ⟨by rw [List.length_append, List.length_append, h.1]; rfl, fun i r2 k2 e1 e2 => ?_⟩
  rcases Nat.lt_trichotomy i rs.length with lt | eq | gt
  · rw [List.getElem?_append_left lt] at e1
    rw [List.getElem?_append_left (by rw [← h.1]; exact lt)] at e2
    exact h.2 i r2 k2 e1 e2
  · subst eq
    rw [List.getElem?_append_right (Nat.le_refl _), Nat.sub_self] at e1
    rw [List.getElem?_append_right (by rw [← h.1]; exact Nat.le_refl _), ← h.1, Nat.sub_self] at e2
    cases e1
    cases e2
    exact hr
  · rw [List.getElem?_eq_none (by rw [List.length_append]; exact gt)] at e1
    cases e1
theorem Tups.append {H : Hp} {rs ss : List Addr} {al bl : List (List Str)} (h : Tups H rs al) (g : Tups H ss bl) : Tups H (rs ++ ss) (al ++ bl) := by
  refine ⟨by rw [List.length_append, List.length_append, h.1, g.1], fun i r k e1 e2 => ?_⟩
  rcases Nat.lt_or_ge i rs.length with lt | ge
  · rw [List.getElem?_append_left lt] at e1
    rw [List.getElem?_append_left (by rw [← h.1]; exact lt)] at e2
    exact h.2 i r k e1 e2
  · rw [List.getElem?_append_right ge] at e1
    rw [List.getElem?_append_right (by rw [← h.1]; exact ge), ← h.1] at e2
    exact g.2 _ r k e1 e2
theorem Tups.atL {H : Hp} {rs : List Addr} {al : List (List Str)} {D : Addr} {xs ys : List V} (h : Tups H rs al) (hD : H D = some (.lst xs)) : Tups (upd H D (.lst ys)) rs al := ⟨h.1, fun i r k e1 e2 => by
  have q := h.2 i r k e1 e2
  have ne : r ≠ D := fun e => by
    rw [e, hD] at q
    cases q
  rw [upd_ne ne]
  exact q⟩
def rLenK (K : PySem.W.Frag) : List V → Hp → VK → Prop := fun xs H Q => ∃ p ys, xs = [V.ref p] ∧ (SqL K H p ys ∨ SqT K H p ys) ∧ Q (V.int ys.length) H
theorem at_strs {ws : List Str} {d : Int} (h0 : 0 ≤ d) (h1 : d < ws.length) : ∃ z ∈ ws, atI (ws.map V.str) d = some (.str z) := by
  have lt : d.toNat < ws.length := by omega
  refine ⟨ws[d.toNat], List.getElem_mem lt, ?_⟩
  have z := atI_nat (xs := ws.map V.str) (j := d.toNat) (v := .str ws[d.toNat]) (by rw [List.getElem?_map, List.getElem?_eq_getElem lt]; rfl)
  rwa [Int.toNat_of_nonneg h0] at z
theorem inV_strs (z : Str) (ks : List Str) : inV (.str z) (ks.map V.str) = decide (z ∈ ks) := by
  unfold inV
  induction ks with
  | nil => rfl
  | cons y ks ih =>
    rw [List.map_cons, List.any_cons, ih]
    have e : eqV (.str y) (.str z) = decide (z = y) := by
      show (y == z) = decide (z = y)
      rw [Bool.eq_iff_iff, beq_iff_eq, decide_eq_true_iff]
      exact eq_comm
    rw [e, Bool.eq_iff_iff, Bool.or_eq_true, decide_eq_true_iff, decide_eq_true_iff, decide_eq_true_iff, List.mem_cons]
theorem flat_ks (ks : List Str) : (ks.map V.str).all flatV = true := by
  rw [List.all_eq_true]
  intro x hx
  rcases List.mem_map.mp hx with ⟨y, _, rfl⟩
  rfl
theorem eqv_strs : ∀ xs ys : List Str, PyData.eqvAll (xs.map PyData.str) (ys.map PyData.str) = decide (xs = ys)
  | [], [] => rfl
  | [], _ :: _ => rfl
  | _ :: _, [] => rfl
  | x :: xs, y :: ys => by
    show (x == y && PyData.eqvAll (xs.map PyData.str) (ys.map PyData.str)) = _
    rw [eqv_strs xs ys, Bool.eq_iff_iff, Bool.and_eq_true, beq_iff_eq, decide_eq_true_iff, decide_eq_true_iff, List.cons.injEq]
theorem eqv_lists (xs ys : List Str) : PyData.eqv (.list (xs.map PyData.str)) (.list (ys.map PyData.str)) = decide (xs = ys) := eqv_strs xs ys
theorem wipe_len {σ : L2.St} {gi : Nat} : List.length (wipe σ [gi]) = σ.length := by
  show (σ.set gi none).length = σ.length
  rw [List.length_set]
/-- a comprehension that keeps the tuples of texts for which c holds -/
theorem lc_keep {K : PySem.W.Frag} {tt : TT} {gi : Nat} {σ : L2.St} {H1 : Hp} {D l : Addr} {rs : List Addr} {al : List (List Str)} {Qd : Hp → Prop} (c : List Str → Bool) (hg : gi < σ.length) (hl : H1 l = some (.lst (rs.map V.ref))) (tu : Tups H1 rs al) (few : al.length ≤ 100) (nD : H1 D = none)
    (test : ∀ (r : Addr) (key : List Str) (G : Hp) (Q : Bool → Hp → Prop), key ∈ al → Same H1 G → G r = some (.tup (key.map V.str)) → (∀ G', Same G G' → Q (c key) G') → tt ((σ.set gi none).set gi (some (.ref r))) G Q)
    (fin : ∀ (G : Hp) (ss : List Addr), Same H1 G → G D = some (.lst (ss.map V.ref)) → Tups G ss (al.filter c) → Qd G) :
    ∃ W : Nat → Nat → Hp → Prop, (∃ m, W 0 m (upd H1 D (.lst []))) ∧ ∀ i m H, W i m H →
      ((Itl K l).stop i H ∧ Qd H) ∨ ((Itl K l).go i H ∧ ∃ Nx : Hp → Prop, (∀ H', Nx H' → ∃ m', m' < m ∧ W (i + 1) m' H') ∧ ∀ x H', (Itl K l).yld i H x H' → gName gi x (wipe σ [gi]) H' fun σ2 H2 => wipe σ2 [gi] = wipe σ [gi] ∧ tt σ2 H2 fun b H3 =>
        if b = true then tVar gi σ2 H3 fun y H4 => ∃ acc, H4 D = some (.lst acc) ∧ acc.length < sizeLine ∧ Nx (upd H4 D (.lst (acc ++ [y]))) else Nx H3) := by
  have rl := tu.1
  refine lc_list (K := K) (a := l) (xs := rs.map V.ref) (fun j G => Same H1 G ∧ ∃ ss : List Addr, G D = some (.lst (ss.map V.ref)) ∧ Tups G ss ((al.take j).filter c)) ⟨Same.new nD, [], upd_same, rfl, fun i r k e1 e2 => by cases e1⟩ (fun j G _ h => SqL.of (h.1 _ _ hl)) (fun j y G hj h => ?_) (fun G h => ?_)
  · obtain ⟨s2, ss, hD, ts⟩ := h
    rw [List.getElem?_map] at hj
    cases er : rs[j]? with
    | none =>
      rw [er] at hj
      cases hj
    | some r =>
      rw [er] at hj
      cases hj
      have lj : j < al.length := by
        rw [← rl]
        exact (List.getElem?_eq_some_iff.mp er).1
      have ek : al[j]? = some al[j] := List.getElem?_eq_getElem lj
      generalize al[j] = key at ek
      have hr1 := s2 _ _ (tu.2 j r key er ek)
      have et : (al.take (j + 1)).filter c = (al.take j).filter c ++ [key].filter c := by
        rw [List.take_add_one, ek, List.filter_append]
        rfl
      refine ⟨by simp [wipe], ?_⟩
      refine test r key G _ (List.mem_of_getElem? ek) s2 hr1 fun G2 s3 => ?_
      cases ec : c key with
      | false =>
        refine iteF ⟨s2.trans s3, ss, s3 _ _ hD, ?_⟩
        rw [et]
        simp only [List.filter_cons, ec, List.filter_nil]
        have q := ts.same s3
        simpa using q
      | true =>
        have hD2 := s3 _ _ hD
        refine iteT ⟨.ref r, ?_, _, hD2, small1000 ?_, fun b o e => ?_, ss ++ [r], ?_, ?_⟩
        · exact List.getElem?_set_self (by rw [wipe_len]; exact hg)
        · have q1 := List.length_filter_le c (al.take j)
          have q2 : (al.take j).length ≤ al.length := by rw [List.length_take]; omega
          rw [List.length_map, ts.1]
          omega
        · rw [upd_ne (ne_of_none e nD)]
          exact (s2.trans s3) _ _ e
        · rw [upd_same, List.map_append]
          rfl
        · rw [et]
          simp only [List.filter_cons, ec, List.filter_nil, if_true]
          exact ((ts.same s3).snoc (s3 _ _ hr1)).atL hD2
  · obtain ⟨s2, ss, hD, ts⟩ := h
    rw [List.length_map, rl, List.take_length] at ts
    exact fin G ss s2 hD ts
end IC
namespace IC
open PySem L2 TL
/-! ### cases: tuples of a text and two tuples of texts -/
structure CaseT where
  st : Str
  o : List Str
  h : List Str
def strsD (xs : List Str) : PyData := .tuple (xs.map PyData.str)
def encC (c : CaseT) : PyData := .tuple [.str c.st, strsD c.o, strsD c.h]
def CaseAt (H : Hp) (t : Addr) (c : CaseT) : Prop := ∃ a b : Addr, H t = some (.tup [.str c.st, .ref a, .ref b]) ∧ H a = some (.tup (c.o.map V.str)) ∧ H b = some (.tup (c.h.map V.str))
theorem CaseAt.same {H H' : Hp} {t : Addr} {c : CaseT} : CaseAt H t c → Same H H' → CaseAt H' t c := fun ⟨a, b, h1, h2, h3⟩ s => ⟨a, b, s _ _ h1, s _ _ h2, s _ _ h3⟩
def Cases (H : Hp) (ts : List Addr) (cs : List CaseT) : Prop := ts.length = cs.length ∧ ∀ (i : Nat) (t : Addr) (c : CaseT), ts[i]? = some t → cs[i]? = some c → CaseAt H t c
theorem Cases.same {H H' : Hp} {ts : List Addr} {cs : List CaseT} (h : Cases H ts cs) (s : Same H H') : Cases H' ts cs := ⟨h.1, fun i t c e1 e2 => (h.2 i t c e1 e2).same s⟩
theorem Cases.nil {H : Hp} : Cases H [] [] := ⟨rfl, fun i t c e _ => by cases e⟩
theorem Cases.append {H : Hp} {rs ss : List Addr} {al bl : List CaseT} (h : Cases H rs al) (g : Cases H ss bl) : Cases H (rs ++ ss) (al ++ bl) := by
  refine ⟨by rw [List.length_append, List.length_append, h.1, g.1], fun i r k e1 e2 => ?_⟩
  rcases Nat.lt_or_ge i rs.length with lt | ge
  · rw [List.getElem?_append_left lt] at e1
    rw [List.getElem?_append_left (by rw [← h.1]; exact lt)] at e2
    exact h.2 i r k e1 e2
  · rw [List.getElem?_append_right ge] at e1
    rw [List.getElem?_append_right (by rw [← h.1]; exact ge), ← h.1] at e2
    exact g.2 _ r k e1 e2
theorem Cases.one {H : Hp} {t : Addr} {c : CaseT} (h : CaseAt H t c) : Cases H [t] [c] := ⟨rfl, fun i t2 c2 e1 e2 => by
  cases i with
  | zero =>
    cases e1
    cases e2
    exact h
  | succ i => cases e1⟩
/-- a list that changes is none of the tuples -/
theorem CaseAt.atL {H : Hp} {t D : Addr} {c : CaseT} {xs : List V} {o : HO} : CaseAt H t c → H D = some (.lst xs) → CaseAt (upd H D o) t c := fun ⟨a, b, h1, h2, h3⟩ hD => by
  have ne : ∀ {x : Addr} {ys : List V}, H x = some (.tup ys) → upd H D o x = some (.tup ys) := fun {x ys} h => by
    have q : x ≠ D := fun e => by
      rw [e, hD] at h
      cases h
    rw [upd_ne q]
    exact h
  exact ⟨a, b, ne h1, ne h2, ne h3⟩
theorem Cases.atL {H : Hp} {ts : List Addr} {cs : List CaseT} {D : Addr} {xs : List V} {o : HO} (h : Cases H ts cs) (hD : H D = some (.lst xs)) : Cases (upd H D o) ts cs := ⟨h.1, fun i t c e1 e2 => (h.2 i t c e1 e2).atL hD⟩
theorem dp_case {K : PySem.W.Frag} {H : Hp} {t : Addr} {c : CaseT} : CaseAt H t c → Dp K H (.ref t) (encC c) := fun ⟨_, _, h1, h2, h3⟩ =>
  .tup (SqT.of h1) (.cons (.str _) (.cons (.tup (SqT.of h2) (dpAll_strs _)) (.cons (.tup (SqT.of h3) (dpAll_strs _)) .nil)))
theorem dp_cases {K : PySem.W.Frag} {H : Hp} : ∀ {ts : List Addr} {cs : List CaseT}, Cases H ts cs → DpAll K H (ts.map V.ref) (cs.map encC)
  | [], [], _ => .nil
  | [], _ :: _, h => by cases h.1
  | _ :: _, [], h => by cases h.1
  | t :: ts, c :: cs, h => .cons (dp_case (h.2 0 t c rfl rfl)) (dp_cases ⟨Nat.succ.inj h.1, fun i t' c' e1 e2 => h.2 (i + 1) t' c' e1 e2⟩)
/-! the order of cases -/
abbrev leC (a b : CaseT) : Bool := PySem.W.dataLe false encC a b
theorem toks_strs : ∀ (xs ys : List Str) (l m : List (Int ⊕ List Nat)), PySem.W.keyToksAll (xs.map PyData.str) ++ l = PySem.W.keyToksAll (ys.map PyData.str) ++ m → xs = ys ∧ l = m
  | [], [], l, m, h => by
    simp only [List.map_nil, PySem.W.keyToksAll, List.cons_append, List.nil_append, List.cons.injEq] at h
    exact ⟨rfl, h.2⟩
  | [], y :: ys, l, m, h => by
    simp [PySem.W.keyToksAll] at h
  | x :: xs, [], l, m, h => by
    simp [PySem.W.keyToksAll] at h
  | x :: xs, y :: ys, l, m, h => by
    simp only [List.map_cons, PySem.W.keyToksAll, PySem.W.keyToks, List.cons_append, List.nil_append, List.cons.injEq, Sum.inr.injEq] at h
    obtain ⟨_, h1, h2⟩ := h
    obtain ⟨e, e2⟩ := toks_strs xs ys l m h2
    rw [PySem.W.str_of_cps h1, e]
    exact ⟨rfl, e2⟩
theorem toks_case {a b : CaseT} (h : PySem.W.keyToks (encC a) = PySem.W.keyToks (encC b)) : a = b := by
  cases a with
  | mk s o h1 =>
    cases b with
    | mk s2 o2 h2 =>
      simp only [encC, strsD, PySem.W.keyToks, PySem.W.keyToksAll, List.cons_append, List.nil_append, List.cons.injEq, Sum.inr.injEq] at h
      obtain ⟨_, e1, _, e2⟩ := h
      obtain ⟨e3, e4⟩ := toks_strs o o2 _ _ e2
      injection e4 with _ e5
      obtain ⟨e6, _⟩ := toks_strs h1 h2 _ _ e5
      rw [PySem.W.str_of_cps e1, e3, e6]
theorem leC_total : PySem.W.TotalLe leC := PySem.W.sortLe_total _ false _
theorem leC_anti {a b : CaseT} (h1 : leC a b = true) (h2 : leC b a = true) : a = b := by
  refine toks_case ((PyProof.Rows.listOrd PyProof.Rows.itemOrd).total _ _ ?_ ?_)
  · have e : (!PyProof.Rows.lexLt PyProof.Rows.itemOrd (PySem.W.keyToks (encC a)) (PySem.W.keyToks (encC b))) = true := h2
    simpa using e
  · have e : (!PyProof.Rows.lexLt PyProof.Rows.itemOrd (PySem.W.keyToks (encC b)) (PySem.W.keyToks (encC a))) = true := h1
    simpa using e
theorem sort_perm {l m : List CaseT} (p : l.Perm m) : l.mergeSort leC = m.mergeSort leC :=
  (((List.mergeSort_perm l leC).trans p).trans (List.mergeSort_perm m leC).symm).eq_of_pairwise (le := fun a b => leC a b = true) (fun a b _ _ => leC_anti) (PySem.W.sort_pairwise leC_total l) (PySem.W.sort_pairwise leC_total m)
theorem alike_strs : ∀ xs ys : List Str, PySem.W.alikeAll (xs.map PyData.str) (ys.map PyData.str) = true
  | [], _ => by simp [PySem.W.alikeAll]
  | _ :: _, [] => by simp [PySem.W.alikeAll]
  | x :: xs, y :: ys => by
    show PySem.W.alikeAll (.str x :: xs.map .str) (.str y :: ys.map .str) = true
    rw [PySem.W.alikeAll, alike_strs xs ys]
    simp [PySem.W.alike]
theorem alike_case (a b : CaseT) : PySem.W.alike (encC a) (encC b) = true := by
  simp [encC, strsD, PySem.W.alike, PySem.W.alikeAll, alike_strs]
theorem depth_strs : ∀ xs : List Str, PyData.depthAll (xs.map PyData.str) = 0
  | [] => by simp [PyData.depthAll]
  | x :: xs => by
    show PyData.depthAll (.str x :: xs.map .str) = 0
    rw [PyData.depthAll, depth_strs xs]
    simp [PyData.depth]
theorem depth_case (c : CaseT) : (encC c).depth = 2 := by
  simp [encC, strsD, PyData.depth, PyData.depthAll, depth_strs]
theorem lay_strs : ∀ xs : List Str, (∀ z ∈ xs, ∀ c ∈ tl z, Okc c) → PyData.canLayAll0 (xs.map PyData.str) = true
  | [], _ => rfl
  | x :: xs, h => by
    show (PyData.strOk x && PyData.canLayAll0 (xs.map PyData.str)) = true
    rw [strOk_of (h x List.mem_cons_self), lay_strs xs fun z hz => h z (List.mem_cons_of_mem _ hz)]
    rfl
def okT (zs : List Str) : Prop := ∀ z ∈ zs, ∀ c ∈ tl z, Okc c
theorem shaped_cases {cs : List CaseT} (h : ∀ c ∈ cs, okT [c.st] ∧ okT c.o ∧ okT c.h) : SeqAt.shaped (.list (cs.map encC)) = true := shaped_list fun x hx => by
  obtain ⟨c, hc, rfl⟩ := List.mem_map.mp hx
  obtain ⟨h1, h2, h3⟩ := h c hc
  refine ⟨?_, by rw [depth_case]; decide⟩
  show (PyData.strOk c.st && (PyData.canLayAll0 (c.o.map PyData.str) && (PyData.canLayAll0 (c.h.map PyData.str) && true))) = true
  rw [strOk_of (h1 c.st (List.mem_singleton.mpr rfl)), lay_strs _ h2, lay_strs _ h3]
  rfl
theorem eqv_same (cs : List CaseT) : PyData.eqv (.list (cs.map encC)) (.list (cs.map encC)) = true := by
  refine PySem.W.eqv_refl_alike _ ?_
  have all : ∀ cs : List CaseT, PySem.W.alikeAll (cs.map encC) (cs.map encC) = true := by
    intro cs
    induction cs with
    | nil => simp [PySem.W.alikeAll]
    | cons c cs ih =>
      rw [List.map_cons, PySem.W.alikeAll, ih, alike_case]
      rfl
  simp [PySem.W.alike, all]
section
variable {X : Cx}
def rSortC : List V → Hp → VK → Prop := fun vs H Q => ∃ (a : Addr) (ts : List Addr) (cs : List CaseT), vs = [.ref a] ∧ H a = some (.lst (ts.map V.ref)) ∧ Cases H ts cs ∧ cs.length ≤ 4000 ∧
  ∀ (l : Addr) (us : List Addr), H l = none → Cases H us (cs.mergeSort leC) → Q (.ref l) (upd H l (.lst (us.map V.ref)))
theorem vals_refs : ∀ (ts : List Addr) (its : List Value), Vals (ts.map V.ref) its → its = ts.map Value.ref
  | [], _, h => by
    cases h
    rfl
  | t :: ts, _, h => by
    cases h with
    | cons h1 h2 =>
      have h1 : _ = Value.ref t := h1
      rw [h1, vals_refs ts _ h2]
      rfl
theorem refs_vals : ∀ ts : List Addr, Vals (ts.map V.ref) (ts.map Value.ref)
  | [] => .nil
  | _ :: ts => .cons rfl (refs_vals ts)
theorem each_cases {H : Hp} : ∀ {ts : List Addr} {cs : List CaseT}, Cases H ts cs → PySem.W.EachIs (fun v c => ∃ t, v = Value.ref t ∧ CaseAt H t c) (ts.map Value.ref) cs
  | [], [], _ => .nil
  | [], _ :: _, h => by cases h.1
  | _ :: _, [], h => by cases h.1
  | t :: ts, c :: cs, h => .cons ⟨t, rfl, h.2 0 t c rfl rfl⟩ (each_cases ⟨Nat.succ.inj h.1, fun i t' c' e1 e2 => h.2 (i + 1) t' c' e1 e2⟩)
theorem cases_each {H : Hp} : ∀ {vs : List Value} {cs : List CaseT}, PySem.W.EachIs (fun v c => ∃ t, v = Value.ref t ∧ CaseAt H t c) vs cs → ∃ ts : List Addr, vs = ts.map Value.ref ∧ Cases H ts cs
  | _, _, .nil => ⟨[], rfl, .nil⟩
  | _, _, .cons ⟨t, e, ct⟩ r => by
    obtain ⟨ts, e2, h⟩ := cases_each r
    exact ⟨t :: ts, by rw [e, e2]; rfl, (Cases.one ct).append h⟩
theorem cr_sortCases (hu : X.A.units + 64 < cLine) : CallR X (.builtin "sorted") rSortC := by
  rintro pins s σ H vs us Q I rel ⟨a, ts, cs, rfl, hl, ca, few, q⟩
  obtain ⟨its, rv, pl, hz⟩ := I.list (SqL.of hl)
  rw [Vals.ref1 rel]
  have eits := vals_refs ts its rv
  have each := each_cases ca
  rw [← eits] at each
  refine PySem.W.sorted_data (R := fun v c => ∃ t, v = Value.ref t ∧ CaseAt H t c) (enc := encC) pl.isList each (each.mono fun v c ⟨t, e, ct⟩ => Dp.reads I _ _ _ (dp_case ct) (by rw [e]; rfl)) (PySem.W.AllAlike.of alike_case) (PySem.W.Sortable.tuples fun c => ⟨_, _, rfl⟩) ?_ (fun c _ => by rw [depth_case]; omega) fun out h1 h2 => ?_
  · exact Nat.le_trans few (by decide)
  · obtain ⟨us, e, cu⟩ := cases_each h2
    obtain ⟨ep, he'⟩ := PyProof.Rows.sortedAll_at s.heap its out.toArray
    have lu : us.length = cs.length := by rw [cu.1, List.length_mergeSort]
    refine ⟨.ref _, upd H (s.heap.objs.size + 1) (.lst (us.map V.ref)), I.laid (t' := s.toks) (fun _ _ => PyProof.Rows.sortedAll_old) (Nat.le_succ _) ⟨?_, out, ep, by rw [e]; exact refs_vals us, he'⟩, rfl, q _ us (I.hok.fresh (Nat.le_succ _)) cu⟩
    rw [List.length_map, lu]
    exact Nat.le_trans few (by decide)
end
end IC
namespace IC
open PySem L2 TL
def sN : Str := Str.ofString "none"
def sO : Str := Str.ofString "open"
def sD : Str := Str.ofString "doomed"
/-- the two cases with a transaction -/
def twoC (o h : List Str) : List CaseT := [⟨sO, o, h⟩, ⟨sD, o, h⟩]
/-- what the program lists -/
def rowP (ns o : List Str) : List CaseT := ⟨sN, o, []⟩ :: (subs (ns.filter fun n => !decide (n ∈ o))).flatMap (twoC o)
def dueP (ns : List Str) : List CaseT := (subs ns).flatMap (rowP ns)
/-- what the law lists -/
def rowL (ns o : List Str) : List CaseT := ((subs ns).filter fun s => decide (s.filter (fun n => decide (n ∈ o)) = [])).flatMap (twoC o)
def dueL (ns : List Str) : List CaseT := ((subs ns).map fun o => (⟨sN, o, []⟩ : CaseT)) ++ (subs ns).flatMap (rowL ns)
theorem subs_filter (p : Str → Bool) : ∀ (m : Nat) (ns : List Str), ns.length = m → subs (ns.filter p) = (subs ns).filter fun s => s.all p
  | 0, [], _ => rfl
  | m + 1, ns, h => by
    rcases List.eq_nil_or_concat ns with rfl | ⟨ms, n, rfl⟩
    · cases h
    · rw [List.concat_eq_append] at *
      rw [List.length_append, List.length_singleton] at h
      have ih := subs_filter p m ms (by omega)
      rw [List.filter_append, subs_snoc, List.filter_append, ← ih]
      cases e : p n with
      | true =>
        have e1 : [n].filter p = [n] := by simp [e]
        rw [e1, subs_snoc, List.filter_map]
        congr 2
        rw [ih]
        refine List.filter_congr fun s _ => ?_
        simp [e]
      | false =>
        have e1 : [n].filter p = [] := by simp [e]
        have e2 : ((subs ms).map (· ++ [n])).filter (fun s => s.all p) = [] := by
          rw [List.filter_eq_nil_iff]
          intro s hs
          obtain ⟨k, _, rfl⟩ := List.mem_map.mp hs
          simp [e]
        rw [e1, e2, List.append_nil, List.append_nil]
theorem rowP_eq (ns o : List Str) : rowP ns o = ⟨sN, o, []⟩ :: rowL ns o := by
  unfold rowP rowL
  rw [subs_filter _ _ ns rfl]
  congr 2
  refine List.filter_congr fun s _ => ?_
  rw [Bool.eq_iff_iff, List.all_eq_true, decide_eq_true_iff, List.filter_eq_nil_iff]
  refine forall_congr' fun x => imp_congr_right fun _ => ?_
  by_cases h : x ∈ o <;> simp [h]
theorem cons_perm {α β : Type} (x : α → β) (f : α → List β) : ∀ l : List α, (l.flatMap fun a => x a :: f a).Perm (l.map x ++ l.flatMap f)
  | [] => .refl _
  | a :: l => by
    rw [List.flatMap_cons, List.flatMap_cons, List.map_cons, List.cons_append, List.cons_append]
    refine .cons _ ?_
    refine ((List.Perm.refl (f a)).append (cons_perm x f l)).trans ?_
    rw [← List.append_assoc, ← List.append_assoc]
    exact List.perm_append_comm.append_right _
theorem due_perm (ns : List Str) : (dueP ns).Perm (dueL ns) := by
  unfold dueP dueL
  have e : rowP ns = fun o => (⟨sN, o, []⟩ : CaseT) :: rowL ns o := funext fun o => rowP_eq ns o
  rw [e]
  exact cons_perm (fun o => (⟨sN, o, []⟩ : CaseT)) (rowL ns) (subs ns)
theorem flat_le {α β : Type} (f : α → List β) (k : Nat) : ∀ l : List α, (∀ a ∈ l, (f a).length ≤ k) → (l.flatMap f).length ≤ k * l.length
  | [], _ => Nat.zero_le _
  | a :: l, h => by
    have h1 := h a List.mem_cons_self
    have h2 := flat_le f k l fun x q => h x (List.mem_cons_of_mem _ q)
    rw [List.flatMap_cons, List.length_append, List.length_cons, Nat.mul_succ]
    omega
theorem subs_few4 {ns : List Str} (h : ns.length ≤ 4) : (subs ns).length ≤ 16 := by
  rw [subs_len]
  exact Nat.pow_le_pow_right (by decide) h
theorem twoC_len (o h : List Str) : (twoC o h).length = 2 := rfl
theorem rowP_len {ns o : List Str} (h : ns.length ≤ 4) : (rowP ns o).length ≤ 33 := by
  have l1 : (ns.filter fun n => !decide (n ∈ o)).length ≤ 4 := Nat.le_trans (List.length_filter_le _ _) h
  have l2 := flat_le (twoC o) 2 (subs (ns.filter fun n => !decide (n ∈ o))) fun _ _ => Nat.le_refl _
  have l3 := subs_few4 l1
  unfold rowP
  rw [List.length_cons]
  omega
theorem dueP_len {ns : List Str} (h : ns.length ≤ 4) : (dueP ns).length ≤ 600 := by
  have l1 := flat_le (rowP ns) 33 (subs ns) fun _ _ => rowP_len h
  have l2 := subs_few4 h
  unfold dueP
  omega
theorem dueL_len {ns : List Str} (h : ns.length ≤ 4) : (dueL ns).length ≤ 600 := by
  rw [← (due_perm ns).length_eq]
  exact dueP_len h
/-- the words of a case are words of ns -/
theorem due_words {ns : List Str} {c : CaseT} (h : c ∈ dueP ns) : (c.st = sN ∨ c.st = sO ∨ c.st = sD) ∧ (∀ z ∈ c.o, z ∈ ns) ∧ ∀ z ∈ c.h, z ∈ ns := by
  obtain ⟨o, ho, hc⟩ := List.mem_flatMap.mp h
  have so := subs_iff.mp ho
  rcases List.mem_cons.mp hc with rfl | hc
  · exact ⟨.inl rfl, fun z q => so.mem q, fun z q => by cases q⟩
  · obtain ⟨k, hk, hc⟩ := List.mem_flatMap.mp hc
    have sk := (subs_iff.mp hk).trans List.filter_sublist
    rcases List.mem_cons.mp hc with rfl | hc
    · exact ⟨.inr (.inl rfl), fun z q => so.mem q, fun z q => sk.mem q⟩
    · rw [List.mem_singleton.mp hc]
      exact ⟨.inr (.inr rfl), fun z q => so.mem q, fun z q => sk.mem q⟩
/-- all but a list that changes stands as it stood -/
theorem Tups.mv {H H' : Hp} {F : Addr} {xs : List V} {rs : List Addr} {al : List (List Str)} (h : Tups H rs al) (k : Kp [F] H H') (hF : H F = some (.lst xs)) : Tups H' rs al := ⟨h.1, fun i r key e1 e2 => by
  have q := h.2 i r key e1 e2
  refine k _ _ q fun e => ?_
  rw [List.mem_singleton.mp e, hF] at q
  cases q⟩
theorem CaseAt.mv {H H' : Hp} {F t : Addr} {xs : List V} {c : CaseT} : CaseAt H t c → Kp [F] H H' → H F = some (.lst xs) → CaseAt H' t c := fun ⟨a, b, h1, h2, h3⟩ k hF => by
  have go : ∀ {x : Addr} {ys : List V}, H x = some (.tup ys) → H' x = some (.tup ys) := fun {x ys} h => k _ _ h fun e => by
    rw [List.mem_singleton.mp e, hF] at h
    cases h
  exact ⟨a, b, go h1, go h2, go h3⟩
theorem Cases.mv {H H' : Hp} {F : Addr} {xs : List V} {ts : List Addr} {cs : List CaseT} (h : Cases H ts cs) (k : Kp [F] H H') (hF : H F = some (.lst xs)) : Cases H' ts cs := ⟨h.1, fun i t c e1 e2 => (h.2 i t c e1 e2).mv k hF⟩
end IC
namespace IC
open PySem L2 TL
/-! ### the text by places -/
def top (i : Nat) : Stmt := PySem.Challenge.pw_innercommits_k49_entry_cases.main.body.getD i (.Pass ⟨0, 0, 0, 0⟩)
abbrev s_law_draw : Stmt := top 6
abbrev s_law_bag : Stmt := top 5
abbrev s_law_of : Stmt := top 7
abbrev s_law_names : Stmt := top 8
abbrev s_subsets : Stmt := top 1
abbrev s_entry_cases : Stmt := top 3
abbrev s_law_subsets : Stmt := top 9
abbrev s_law_due : Stmt := top 10
abbrev s_law : Stmt := top 11
theorem sc_law_draw : FnScope ["bag", "many", "digit", "turn", "mixed"] ["bag", "many"] (defScope s_law_draw) := ⟨rfl, rfl, rfl, by decide +kernel, rfl, by decide +kernel, by decide +kernel⟩
theorem sc_law_bag : FnScope ["script", "at", "cell", "size", "start"] ["script", "at"] (defScope s_law_bag) := ⟨rfl, rfl, rfl, by decide +kernel, rfl, by decide +kernel, by decide +kernel⟩
theorem sc_law_of : FnScope ["bag", "some"] ["bag", "some"] (defScope s_law_of) := ⟨rfl, rfl, rfl, by decide +kernel, rfl, by decide +kernel, by decide +kernel⟩
theorem sc_law_names : FnScope ["bag", "many", "letters", "stem", "first", "is_behind", "some", "k", "one"] ["bag", "many"] (defScope s_law_names) := ⟨rfl, rfl, rfl, by decide +kernel, rfl, by decide +kernel, by decide +kernel⟩
theorem sc_subsets : FnScope ["names", "found", "name", "some"] ["names"] (defScope s_subsets) := ⟨rfl, rfl, rfl, by decide +kernel, rfl, by decide +kernel, by decide +kernel⟩
theorem sc_entry_cases : FnScope ["records", "silent", "names", "found", "outer", "held", "name"] ["records", "silent"] (defScope s_entry_cases) := ⟨rfl, rfl, rfl, by decide +kernel, rfl, by decide +kernel, by decide +kernel⟩
theorem sc_law_subsets : FnScope ["marks", "found", "one", "some"] ["marks"] (defScope s_law_subsets) := ⟨rfl, rfl, rfl, by decide +kernel, rfl, by decide +kernel, by decide +kernel⟩
theorem sc_law_due : FnScope ["marks", "sets", "found", "outer", "held", "some", "one"] ["marks"] (defScope s_law_due) := ⟨rfl, rfl, rfl, by decide +kernel, rfl, by decide +kernel, by decide +kernel⟩
theorem sc_law : FnScope ["script", "at", "bag", "marks", "given", "due", "told", "few"] ["script"] (defScope s_law) := ⟨rfl, rfl, rfl, by decide +kernel, rfl, by decide +kernel, by decide +kernel⟩
/-- the built-in names that no line of the text binds -/
structure Bn (mg : Str → Option Value) : Prop where
  int : mg "int" = none
  len : mg "len" = none
  abs : mg "abs" = none
  range : mg "range" = none
  max : mg "max" = none
  min : mg "min" = none
  isi : mg "isinstance" = none
  list : mg "list" = none
  sorted : mg "sorted" = none
end IC
namespace IC
open PySem L2 TL
section
variable {P : Program} {w : World} {K : PySem.W.Frag} {mg : Str → Option Value} {base : Heap}
theorem ok_draw {f : Addr} {fd : FuncData} (F : Fun K "_law_draw" "_law_draw" s_law_draw f fd) (T : Bn mg) : FnOk P w K mg base CX0 1 f fd ["bag", "many"] spDraw := by
  refine F.ok sc_law_draw (fun vs H Q E h => ?_) (fun cdv A outer s H vs Q E hr h => ?_)
  · obtain ⟨p, m, n, rfl, _⟩ := h
    rfl
  · obtain ⟨p, m, n, rfl, ⟨a, b, c, hp, a0, b0, b1, c0, c1⟩, hn, m0, m1, k⟩ := h
    refine ⟨_, (pss_cons (ps_if (pt_cmpR op_gt (pe_ix ix_list (pv 0) pe_int (fun _ _ => rfl)) pe_int (nomark _))
  (pss_cons (ps_set (i := 2) sc_law_draw.nd rfl (Or.inl rfl) (pe_op op_mod (pe_callTy call_int1 (by rfl) T.int (by decide +kernel) (pa_cons (pe_ix ix_list (pv 0) pe_int (fun _ _ => rfl)) pa_nil)) (pv 1)))
  (pss_cons (ps_asg (pe_op op_fdivW (pe_ix ix_list (pv 0) pe_int (fun _ _ => rfl)) (pv 1)) (pg_sub (pv 0) pe_int set_list))
  (pss_one (ps_ret (pv 2)))))
  pss_nil)
  (pss_cons (ps_set (i := 3) sc_law_draw.nd rfl (Or.inl rfl) (pe_op op_add (pe_ix ix_list (pv 0) pe_int (fun _ _ => rfl)) pe_int))
  (pss_cons (ps_asg (pv 3) (pg_sub (pv 0) pe_int set_list))
  (pss_cons (ps_set (i := 4) sc_law_draw.nd rfl (Or.inl rfl) (pe_op op_mod (pe_callTy call_int1 (by rfl) T.int (by decide +kernel) (pa_cons (pe_op op_add (pe_op op_pow (pe_op op_add (pe_ix ix_list (pv 0) pe_int (fun _ _ => rfl)) (pe_op op_mul pe_int (pv 3))) pe_int) (pe_op op_mul pe_int (pv 3))) pa_nil)) pe_int))
  (pss_cons (ps_set (i := 4) sc_law_draw.nd rfl (Or.inl rfl) (pe_op op_mod (pe_callTy call_int1 (by rfl) T.int (by decide +kernel) (pa_cons (pe_op op_pow (pe_op op_add (pv 4) (pe_op op_mul pe_int (pv 3))) pe_int) pa_nil)) pe_int))
  (pss_one (ps_ret (pe_op op_mod (pe_callTy call_int1 (by rfl) T.int (by decide +kernel) (pa_cons (pe_op op_fdiv (pv 4) pe_int) pa_nil)) (pv 1))))))))), ?_⟩
    have g0 : atI (pl a b c) 0 = some (.int a) := rfl
    have g1 : atI (pl a b c) 1 = some (.int b) := rfl
    have g2 : atI (pl a b c) 2 = some (.int c) := rfl
    refine ⟨_, rfl, p, pl a b c, 0, _, rfl, rfl, SqL.of hp, g0, a, 0, rfl, rfl, _, rfl, ?_⟩
    refine ite2 (fun hpos => ?_) (fun hneg => ?_)
    · refine ⟨_, rfl, p, pl a b c, 0, _, rfl, rfl, SqL.of hp, g0, .inl ⟨a, rfl, _, rfl, a, m, rfl, rfl, m0, ?_⟩⟩
      refine ⟨_, rfl, p, pl a b c, 0, _, rfl, rfl, SqL.of hp, g0, _, rfl, a, m, rfl, rfl, wide_div m0 m1 (by decide) (by decide), _, rfl, p, pl a b c, 0, 0, rfl, rfl, hp, rfl, ?_⟩
      refine ⟨_, rfl, ?_⟩
      refine k (a % m) _ (Int.emod_nonneg _ (by omega)) (Int.emod_lt_of_pos _ m0) ⟨a / m, b, c, upd_same, Int.ediv_nonneg a0 (by omega), b0, b1, c0, by omega⟩
    · refine ⟨_, rfl, p, pl a b c, 2, _, rfl, rfl, SqL.of hp, g2, c, 1, rfl, rfl, ?_⟩
      refine ⟨_, rfl, _, rfl, p, pl a b c, 2, 2, rfl, rfl, hp, rfl, ?_⟩
      have g1' : atI ((pl a b c).set 2 (.int (c + 1))) 1 = some (.int b) := rfl
      refine ⟨_, rfl, p, _, 1, _, rfl, rfl, SqL.of upd_same, g1', _, rfl, 92821, c + 1, rfl, rfl, .inl (by decide), b, _, rfl, rfl, _, 3, rfl, rfl, ⟨by decide, by decide, by omega⟩, _, rfl, 29, c + 1, rfl, rfl, .inl (by decide), _, _, rfl, rfl, .inl ⟨_, rfl, _, _, rfl, rfl, (by show (0 : Int) < 2305843009213693907; decide), ?_⟩⟩
      have hX : 0 ≤ ((b + 92821 * (c + 1)) ^ Int.toNat 3 + 29 * (c + 1)) % 2305843009213693907 ∧ ((b + 92821 * (c + 1)) ^ Int.toNat 3 + 29 * (c + 1)) % 2305843009213693907 < 2305843009213693907 :=
        ⟨Int.emod_nonneg _ (by decide), Int.emod_lt_of_pos _ (by decide)⟩
      dsimp only
      generalize ((b + 92821 * (c + 1)) ^ Int.toNat 3 + 29 * (c + 1)) % 2305843009213693907 = X at hX ⊢
      obtain ⟨x0, x1⟩ := hX
      refine ⟨_, rfl, _, rfl, 51199, c + 1, rfl, rfl, .inl (by decide), X, _, rfl, rfl, _, 2, rfl, rfl, ⟨by decide, by decide, by omega⟩, .inl ⟨_, rfl, _, _, rfl, rfl, (by show (0 : Int) < 1000000000000000031; decide), ?_⟩⟩
      have hY : 0 ≤ (X + 51199 * (c + 1)) ^ Int.toNat 2 % 1000000000000000031 := Int.emod_nonneg _ (by decide)
      refine ⟨_, rfl, _, _, rfl, rfl, ⟨by decide, by decide⟩, .inl ⟨_, rfl, _, rfl, _, m, rfl, rfl, m0, ?_⟩⟩
      refine k _ _ (Int.emod_nonneg _ (by omega)) (Int.emod_lt_of_pos _ m0) ⟨a, b, c + 1, upd_same, a0, b0, b1, by omega, by omega⟩
theorem ok_bag {f : Addr} {fd : FuncData} (F : Fun K "_law_bag" "_law_bag" s_law_bag f fd) (T : Bn mg) : FnOk P w K mg base CX0 1 f fd ["script", "at"] (spPool K) := by
  refine F.ok sc_law_bag (fun vs H Q E h => ?_) (fun cdv A outer s H vs Q E hr h => ?_)
  · obtain ⟨a, ns, j, rfl, _⟩ := h
    rfl
  · obtain ⟨a, ns, j, rfl, hS, hj, k⟩ := h
    refine ⟨_, (Evl.pss_cut (ps_set (i := 2) sc_law_bag.nd rfl (Or.inl rfl) (pe_ifExp (pt_cmpR op_lt (pv 1) (pe_callB call_len_seq (by rfl) T.len PySem.boot_len (pa_cons (pv 0) pa_nil)) (nomark _)) (pe_ix ix_list (pv 0) (pv 1) (fun _ _ => rfl)) pe_int))
  (pss_cons (ps_set (i := 3) sc_law_bag.nd rfl (Or.inl rfl) (pe_callB call_abs (by rfl) T.abs PyProof.Rows.boot_abs (pa_cons (pv 2) pa_nil)))
  (pss_cons (ps_set (i := 4) sc_law_bag.nd rfl (Or.inl rfl) (pe_op op_mod (pe_callTy call_int1 (by rfl) T.int (by decide +kernel) (pa_cons (pe_op op_add (pe_op op_add (pe_op op_mul (pv 3) pe_int) (pe_op op_mul pe_int (pv 1))) (pe_callTy call_int1 (by rfl) T.int (by decide +kernel) (pa_cons (pe_cmpR op_lt (pv 2) pe_int (nomark _)) pa_nil))) pa_nil)) pe_int))
  (pss_one (ps_ret (pe_lst (pa_cons (pe_ifExp (pt_cmpR op_ge (pv 3) (pe_op op_pow pe_int pe_int) (nomark _)) (pv 3) pe_int) (pa_cons (pe_op op_add (pv 4) pe_int) (pa_cons pe_int pa_nil))))))))), ?_⟩
    have hj' : (j : Int) < 64 := by omega
    refine ⟨fun σ H' => H' = H ∧ ∃ c : Int, σ = [some (.ref a), some (.int j), some (.int c), none, none], ?_, ?_⟩
    · refine ⟨_, rfl, _, rfl, a, _, rfl, .inl hS, _, _, rfl, rfl, _, rfl, ?_⟩
      refine ite2 (fun hlt => ?_) (fun _ => ⟨rfl, 0, rfl⟩)
      have hlt := of_decide_eq_true hlt
      have hl : j < ns.length := by
        rw [List.length_map] at hlt
        exact Int.ofNat_lt.mp hlt
      have hz : (ns.map V.int)[j]? = some (V.int ns[j]) := by
        rw [List.getElem?_map, List.getElem?_eq_getElem hl]
        rfl
      exact ⟨_, rfl, _, rfl, a, _, _, _, rfl, rfl, hS, atI_nat hz, rfl, _, rfl⟩
    · rintro σ H' ⟨rfl, c, rfl⟩
      refine ⟨_, rfl, c, rfl, ?_⟩
      refine ⟨_, rfl, _, 14, rfl, rfl, .inr (by decide), _, rfl, 2, j, rfl, rfl, .inl (by decide), _, _, rfl, rfl, _, rfl, c, 0, rfl, rfl, .inr ⟨_, rfl, _, _, rfl, rfl, .inl ⟨_, rfl, _, _, rfl, rfl, (by show (0 : Int) < 4611686018427387733; decide), ?_⟩⟩⟩
      refine ⟨_, rfl, 10, 18, rfl, rfl, ⟨by decide, by decide, by decide⟩, _, _, rfl, rfl, _, rfl, ?_⟩
      have h0 : (0 : Int) ≤ if c < 0 then -c else c := by split <;> omega
      have fin : ∀ x y : Int, 0 ≤ x → ∀ p, H' p = none → Q (.ref p) (upd H' p (.lst [.int x, .int (y % 4611686018427387733 + 90001), .int 0])) := fun x y hx p hp => by
        have e1 := Int.emod_nonneg y (show (4611686018427387733 : Int) ≠ 0 by decide)
        have e2 := Int.emod_lt_of_pos y (show (0 : Int) < 4611686018427387733 by decide)
        exact k p _ hp ⟨x, _, 0, upd_same, hx, by omega, by omega, by omega, by omega⟩
      refine ite2 (fun _ => ?_) (fun _ => ?_)
      · exact ⟨_, rfl, _, rfl, _, _, rfl, rfl, (by show 3 ≤ sizeLine; decide), fun p hp => fin _ _ h0 p hp⟩
      · exact ⟨_, rfl, _, _, rfl, rfl, (by show 3 ≤ sizeLine; decide), fun p hp => fin 0 _ (by decide) p hp⟩
end
end IC
namespace IC
open PySem L2 TL
/-- _law_of(bag, some): one of some numbers -/
def spOf : Sp := fun vs H Q _ => ∃ (p l : Addr) (n : Int) (is : List Int), vs = [.ref p, .ref l] ∧ PoolAt H p n ∧ n < 900000000 ∧ H l = some (.lst (is.map V.int)) ∧ l ≠ p ∧ 1 ≤ is.length ∧ is.length ≤ 63 ∧
  ∀ (i : Int) (o : HO), i ∈ is → PoolAt (upd H p o) p (n + 1) → Q (.int i) (upd H p o)
/-- short texts of letters -/
def Wd (z : Str) : Prop := (tl z).length ≤ 8 ∧ ∀ c ∈ tl z, Lt c
def spNames : Sp := fun vs H Q _ => ∃ (p : Addr) (m n : Int), vs = [.ref p, .int m] ∧ PoolAt H p n ∧ n < 900000000 ∧ 0 ≤ m ∧ m ≤ 4 ∧
  ∀ (l : Addr) (zs : List Str) (H' : Hp), zs.length ≤ 4 → (∀ z ∈ zs, Wd z) → H' l = some (.lst (zs.map V.str)) → PoolAt H' p (n + 11) → Kp [p] H H' → H l = none → Q (.ref l) H'
theorem at_ints {ws : List Int} {d : Int} (h0 : 0 ≤ d) (h1 : d < ws.length) : ∃ z ∈ ws, atI (ws.map V.int) d = some (.int z) := by
  have lt : d.toNat < ws.length := by omega
  refine ⟨ws[d.toNat], List.getElem_mem lt, ?_⟩
  have z := atI_nat (xs := ws.map V.int) (j := d.toNat) (v := .int ws[d.toNat]) (by rw [List.getElem?_map, List.getElem?_eq_getElem lt]; rfl)
  rwa [Int.toNat_of_nonneg h0] at z
theorem tl_add (a b : Str) : tl (a ++ b) = tl a ++ tl b := by
  show (a.cps ++ b.cps).toList = a.cps.toList ++ b.cps.toList
  simp
section
variable {P : Program} {w : World} {K : PySem.W.Frag} {mg : Str → Option Value} {base : Heap}
theorem ok_of {f : Addr} {fd : FuncData} (F : Fun K "_law_of" "_law_of" s_law_of f fd) (T : Bn mg) (D_law_draw : Df P w K mg base 1 "_law_draw" ["bag", "many"] spDraw) : FnOk P w K mg base CX0 2 f fd ["bag", "some"] spOf := by
  refine F.ok sc_law_of (fun vs H Q E h => ?_) (fun cdv A outer s H vs Q E hr h => ?_)
  · obtain ⟨p, l, n, is, rfl, _⟩ := h
    rfl
  · obtain ⟨p, l, n, is, rfl, hp, hn, hl, ne, l1, l63, k⟩ := h
    refine ⟨_, (pss_one (ps_ret (pe_ix ix_list (pv 1) (pe_df D_law_draw hr (by decide) rfl (pa_cons (pv 0) (pa_cons (pe_callB call_len_seq (by rfl) T.len PySem.boot_len (pa_cons (pv 1) pa_nil)) pa_nil))) (fun _ _ => rfl)))), ?_⟩
    refine ⟨_, rfl, _, rfl, _, rfl, l, _, rfl, .inl (SqL.of hl), p, _, n, rfl, hp, by omega, by rw [List.length_map]; omega, by rw [List.length_map]; omega, fun e o e0 e1 hp2 => ?_⟩
    rw [List.length_map] at e1
    obtain ⟨z, hz, at_⟩ := at_ints e0 e1
    exact ⟨l, _, e, .int z, rfl, rfl, SqL.of (by rw [upd_ne ne]; exact hl), at_, k z o hz hp2⟩
theorem ok_names {f : Addr} {fd : FuncData} (F : Fun K "_law_names" "_law_names" s_law_names f fd) (T : Bn mg) (D_law_draw : Df P w K mg base 1 "_law_draw" ["bag", "many"] spDraw) : FnOk P w K mg base CX0 2 f fd ["bag", "many"] spNames := by
  refine F.ok sc_law_names (fun vs H Q E h => ?_) (fun cdv A outer s H vs Q E hr h => ?_)
  · obtain ⟨p, m, n, rfl, _⟩ := h
    rfl
  · obtain ⟨p, m, n, rfl, hp, hn, m0, m4, k⟩ := h
    refine ⟨_, (pss_cons (ps_set (i := 2) sc_law_names.nd rfl (Or.inr rfl) pe_str)
  (pss_cons (ps_set (i := 3) sc_law_names.nd rfl (Or.inr rfl) (pe_join pe_str (pe_lc (own := [("k", 7)]) (g := gName 7) (tt := tYes) rfl sc_law_names.nd (pi_range1 rfl T.range (pa_cons (pe_df D_law_draw hr (by decide) rfl (pa_cons (pv 0) (pa_cons pe_int pa_nil))) pa_nil)) (blkOk_by (N := ["bag", "many", "letters", "stem", "first", "is_behind", "some", "k", "one"]) (sc := defScope s_law_names) (by decide +kernel)) (fun _ _ _ _ _ => pg_name (i := 7) sc_law_names.nd rfl (Or.inl rfl)) (fun _ _ _ _ _ => pts_nil) (fun _ _ _ _ _ => (pe_ix ix_str (pv 2) (pe_df D_law_draw hr (by decide) rfl (pa_cons (pv 0) (pa_cons pe_int pa_nil))) (fun _ _ => rfl))))))
  (pss_cons (ps_asg (pe_tup (pa_cons (pe_df D_law_draw hr (by decide) rfl (pa_cons (pv 0) (pa_cons pe_int pa_nil))) (pa_cons (pe_cmpR op_eq (pe_df D_law_draw hr (by decide) rfl (pa_cons (pv 0) (pa_cons pe_int pa_nil))) pe_int (nomark _)) pa_nil))) (pg_tup rfl (pgs_cons (pg_name (i := 4) sc_law_names.nd rfl (Or.inr rfl)) (pgs_cons (pg_name (i := 5) sc_law_names.nd rfl (Or.inr rfl)) pgs_nil))))
  (pss_cons (ps_setLc (i := 6) (own := [("k", 7)]) (g := gName 7) (tt := tYes) rfl sc_law_names.nd rfl rfl rfl (pi_range1 rfl T.range (pa_cons (pv 1) pa_nil)) (blkOk_by (N := ["bag", "many", "letters", "stem", "first", "is_behind", "some", "k", "one"]) (sc := defScope s_law_names) (by decide +kernel)) (fun _ _ _ _ _ => pg_name (i := 7) sc_law_names.nd rfl (Or.inl rfl)) (fun _ _ _ _ _ => pts_nil) (fun _ _ _ _ _ => (pe_ix ix_str (pv 2) (pe_op op_mod (pe_callTy call_int1 (by rfl) T.int (by decide +kernel) (pa_cons (pe_op op_add (pv 4) (pe_op op_mul pe_int (pv 7))) pa_nil)) pe_int) (fun _ _ => rfl))))
  (pss_one (ps_ret (pe_lc (own := [("one", 8)]) (g := gName 8) (tt := tYes) rfl sc_law_names.nd (pi_list (pv 6)) (blkOk_by (N := ["bag", "many", "letters", "stem", "first", "is_behind", "some", "k", "one"]) (sc := defScope s_law_names) (by decide +kernel)) (fun _ _ _ _ _ => pg_name (i := 8) sc_law_names.nd rfl (Or.inl rfl)) (fun _ _ _ _ _ => pts_nil) (fun _ _ _ _ _ => (pe_ifExp (pt_val (pv 5)) (pe_op op_add_str (pv 3) (pv 8)) (pe_op op_add_str (pv 8) (pv 3))))))))))), ?_⟩
    refine ⟨⟨_, rfl⟩, _, rfl, p, 8, n, rfl, hp, by omega, by decide, by decide, fun d o d0 d8 hp1 => ⟨_, rfl, by omega, by omega, fun D hD => ?_⟩⟩
    refine lc_draw (p := p) (gi := 7) d.toNat (n + 1) (by omega) hp1 hD (fun x m' G Q2 hq hm cont => ?_) (fun cs G lc okc hc hp2 kp2 => ?_)
    · refine ⟨_, rfl, _, rfl, p, 26, m', rfl, hq, by omega, by decide, by decide, fun e o2 e0 e1 hp3 => ?_⟩
      obtain ⟨c, hat, hL⟩ := abc_at e e0 e1
      exact ⟨_, e, c, rfl, rfl, by decide +kernel, hat, cont c o2 hL hp3⟩
    · have kA : Kp [p] H G := ((Kp.at_ (by simp)).trans kp2)
      have sj := sum_sgn cs
      refine ⟨_, D, cs.map sgn, rfl, rfl, .inl (SqL.of hc), ?_, ?_⟩
      · rw [sj, List.length_map, lc]
        show d.toNat + d.toNat * 0 ≤ 16777216
        omega
      · have et := tl_joined cs
        generalize Txt.join (Str.ofString "") (cs.map sgn) = stem at et ⊢
        refine ⟨_, rfl, p, 26, _, rfl, hp2, by omega, by decide, by decide, fun e o3 e0 e1 hp3 => ?_⟩
        refine ⟨_, rfl, p, 2, _, rfl, hp3, by omega, by decide, by decide, fun e2 o4 e20 e21 hp4 => ?_⟩
        refine ⟨rfl, by show 2 ≤ sizeLine; decide, fun t nt => ⟨t, _, rfl, SqT.of upd_same, rfl, _, _, rfl, _, _, rfl, rfl, ?_⟩⟩
        have b2 : ∃ bh : Bool, V.bl (decide (V.int e2 = V.int 1)) = .bl bh := ⟨_, rfl⟩
        generalize decide (V.int e2 = V.int 1) = bh
        have hp5 := hp4.mv fun u q => Same.new (o := HO.tup [.int e, .bl bh]) nt _ _ q
        have kB : Kp [p] H (upd (upd (upd G p o3) p o4) t (.tup [.int e, .bl bh])) := ((kA.mutAt (by simp)).mutAt (by simp)).newAt nt
        have hN : ∀ x, upd (upd (upd G p o3) p o4) t (.tup [.int e, .bl bh]) x = none → H x = none := fun x hx => by
          cases hh : H x with
          | none => rfl
          | some o =>
            by_cases ex : x = p
            · obtain ⟨xa, xb, xc, hxl, _⟩ := hp5
              rw [ex, hxl] at hx
              cases hx
            · rw [kB x o hh (fun q => ex (List.mem_singleton.mp q))] at hx
              cases hx
        generalize upd (upd (upd G p o3) p o4) t (.tup [.int e, .bl bh]) = G2 at hp5 kB hN ⊢
        refine ⟨_, rfl, _, rfl, by omega, by omega, fun D2 hD2 => ?_⟩
        refine lc_range (lo := 0) (n := m.toNat) (fun i H' => Same G2 H' ∧ ∃ cs : List Nat, cs.length = i ∧ (∀ c ∈ cs, Lt c) ∧ H' D2 = some (.lst ((cs.map sgn).map V.str))) ⟨Same.new hD2, [], rfl, by simp, upd_same⟩ ?_ ?_
        · rintro i H' hi ⟨s1, cs2, hl2, okc2, hcD⟩
          refine ⟨rfl, ?_⟩
          refine ⟨_, rfl, _, rfl, _, rfl, 7, _, rfl, rfl, .inl (by decide), e, _, rfl, rfl, .inl ⟨_, rfl, _, _, rfl, rfl, (by show (0 : Int) < 26; decide), ?_⟩⟩
          obtain ⟨c, hat, hL⟩ := abc_at ((e + 7 * (0 + (i : Int))) % 26) (Int.emod_nonneg _ (by decide)) (Int.emod_lt_of_pos _ (by decide))
          refine ⟨_, _, c, rfl, rfl, by decide +kernel, hat, ?_⟩
          refine ⟨_, hcD, small1000 (by rw [List.length_map, List.length_map]; omega), fun b o e => ?_, cs2 ++ [c], by simp [hl2], ?_, ?_⟩
          · rw [upd_ne (ne_of_none e hD2)]
            exact s1 b o e
          · intro x hx
            rcases List.mem_append.mp hx with hx | hx
            · exact okc2 x hx
            · rw [List.mem_singleton.mp hx]
              exact hL
          · rw [upd_same, List.map_append, List.map_append]
            rfl
        · rintro H' ⟨s1, cs2, hl2, okc2, hcD⟩
          have l2 : cs2.length ≤ 4 := by omega
          have hp6 := hp5.mv fun u q => s1 _ _ q
          have stW : Wd (stem ++ sgn 97) ∧ (tl stem).length ≤ 7 ∧ ∀ c ∈ tl stem, Lt c := by
            rw [et]
            refine ⟨⟨?_, ?_⟩, by omega, okc⟩
            · rw [tl_add, et, List.length_append, lc]
              show d.toNat + 1 ≤ 8
              omega
            · intro c hc2
              rw [tl_add, et] at hc2
              rcases List.mem_append.mp hc2 with q | q
              · exact okc c q
              · rw [List.mem_singleton.mp q]
                exact ⟨by decide, by decide⟩
          obtain ⟨_, s7, sL⟩ := stW
          have sLen : stem.length ≤ 7 := by
            rw [len_tl]
            exact s7
          refine ⟨_, rfl, D2, rfl, ⟨_, SqL.of hcD⟩, fun D3 nD3 => ?_⟩
          let mk : Nat → Str := fun c => if bh = true then stem ++ sgn c else sgn c ++ stem
          refine lc_list (K := K) (a := D2) (xs := (cs2.map sgn).map V.str) (fun j G => Same H' G ∧ G D3 = some (.lst (((cs2.take j).map mk).map V.str))) ⟨Same.new nD3, upd_same⟩ (fun j G _ h => SqL.of (h.1 _ _ hcD)) (fun j y G hj h => ?_) (fun G h => ?_)
          · rw [List.getElem?_map, List.getElem?_map] at hj
            cases ec : cs2[j]? with
            | none =>
              rw [ec] at hj
              cases hj
            | some c =>
              rw [ec] at hj
              cases hj
              refine ⟨rfl, ?_⟩
              have put : ∀ z : Str, z = mk c → ∃ acc, G D3 = some (.lst acc) ∧ acc.length < sizeLine ∧ Same H' (upd G D3 (.lst (acc ++ [.str z]))) ∧ upd G D3 (.lst (acc ++ [.str z])) D3 = some (.lst (((cs2.take (j + 1)).map mk).map V.str)) := fun z ez => by
                refine ⟨_, h.2, small1000 (by rw [List.length_map, List.length_map, List.length_take]; omega), fun b o e => ?_, ?_⟩
                · rw [upd_ne (ne_of_none e nD3)]
                  exact h.1 b o e
                · rw [upd_same, List.take_add_one, ec, List.map_append, List.map_append, ez]
                  rfl
              have one : (sgn c).length = 1 := rfl
              refine ⟨_, rfl, bh, rfl, ?_⟩
              cases hb : bh with
              | true => exact iteT ⟨_, rfl, _, rfl, stem, sgn c, rfl, rfl, Nat.le_of_lt (small1000 (by rw [one]; omega)), put _ (by show stem ++ sgn c = if bh = true then _ else _; rw [hb]; rfl)⟩
              | false => exact iteF ⟨_, rfl, _, rfl, sgn c, stem, rfl, rfl, Nat.le_of_lt (small1000 (by rw [one]; omega)), put _ (by show sgn c ++ stem = if bh = true then _ else _; rw [hb]; rfl)⟩
          · rw [List.length_map, List.length_map, List.take_length] at h
            refine k D3 (cs2.map mk) G (by rw [List.length_map]; exact l2) (fun z hz => ?_) h.2 ((hp6.mv fun u q => h.1 _ _ q).up (by omega)) ((kB.trans (Kp.same s1)).trans (Kp.same h.1)) (hN _ (s1.free nD3))
            obtain ⟨c, hc2, rfl⟩ := List.mem_map.mp hz
            show Wd (if bh = true then stem ++ sgn c else sgn c ++ stem)
            have okc2c := okc2 c hc2
            have sg : tl (sgn c) = [c] := rfl
            cases bh with
            | true =>
              refine ⟨?_, fun x hx => ?_⟩
              · show (tl (stem ++ sgn c)).length ≤ 8
                rw [tl_add, sg, List.length_append]
                show (tl stem).length + 1 ≤ 8
                omega
              · have hx : x ∈ tl (stem ++ sgn c) := hx
                rw [tl_add, sg] at hx
                rcases List.mem_append.mp hx with q | q
                · exact sL x q
                · rw [List.mem_singleton.mp q]
                  exact okc2c
            | false =>
              refine ⟨?_, fun x hx => ?_⟩
              · show (tl (sgn c ++ stem)).length ≤ 8
                rw [tl_add, sg, List.length_append]
                show 1 + (tl stem).length ≤ 8
                omega
              · have hx : x ∈ tl (sgn c ++ stem) := hx
                rw [tl_add, sg] at hx
                rcases List.mem_append.mp hx with q | q
                · rw [List.mem_singleton.mp q]
                  exact okc2c
                · exact sL x q
end
end IC
namespace IC
open PySem L2 TL
/-- subsets(names), names a list -/
def spSubsL : Sp := fun vs H Q _ => ∃ (t : Addr) (ns : List Str), vs = [.ref t] ∧ H t = some (.lst (ns.map V.str)) ∧ ns.length ≤ 8 ∧
  ∀ (H' : Hp) (l : Addr) (rs : List Addr), Same H H' → H l = none → H' l = some (.lst (rs.map V.ref)) → Tups H' rs (subs ns) → Q (.ref l) H'
section
variable {P : Program} {w : World} {K : PySem.W.Frag} {mg : Str → Option Value} {base : Heap} {C : Addr}
theorem ok_subsets {f : Addr} {fd : FuncData} (F : Fun K "subsets" "subsets" s_subsets f fd) : FnOk P w K mg base CX0 1 f fd ["names"] spSubsL := by
  refine F.ok sc_subsets (fun vs H Q E h => ?_) (fun cdv A outer s H vs Q E hr h => ?_)
  · obtain ⟨t, ns, rfl, _⟩ := h
    rfl
  · obtain ⟨t, ns, rfl, ht, few, k⟩ := h
    refine ⟨_, (pss_cons (ps_set (i := 1) sc_subsets.nd rfl (Or.inl rfl) (pe_lst (pa_cons (pe_tup pa_nil) pa_nil)))
  (pss_cons (ps_for PassesOwn.never rfl (pi_list (pv 0)) (pg_name (i := 2) sc_subsets.nd rfl (Or.inr rfl))
  (pss_one (ps_set (i := 1) sc_subsets.nd rfl (Or.inl rfl) (pe_op op_cat (pv 1) (pe_lc (own := [("some", 3)]) (g := gName 3) (tt := tYes) rfl sc_subsets.nd (pi_list (pv 1)) (blkOk_by (N := ["names", "found", "name", "some"]) (sc := defScope s_subsets) (by decide +kernel)) (fun _ _ _ _ _ => pg_name (i := 3) sc_subsets.nd rfl (Or.inl rfl)) (fun _ _ _ _ _ => pts_nil) (fun _ _ _ _ _ => (pe_op (show OpR _ _ (rCatA K) from op_catA) (pv 3) (pe_tup (pa_cons (pv 2) pa_nil)))))))))
  (pss_one (ps_ret (pv 1))))), ?_⟩
    refine ⟨by show 0 ≤ sizeLine; decide, fun u nu => ⟨by show 1 ≤ sizeLine; decide, fun l nl => ?_⟩⟩
    have su := Same.new (o := HO.tup []) nu
    have sl := Same.new (o := HO.lst [.ref u]) nl
    have t0 : Tups (upd (upd H u (.tup [])) l (.lst [.ref u])) [u] (subs []) := ⟨rfl, fun i r k e1 e2 => by
      cases i with
      | zero =>
        cases e1
        cases e2
        exact sl _ _ upd_same
      | succ i => cases e1⟩
    refine ⟨_, rfl, t, rfl, ⟨_, SqL.of ((su.trans sl) _ _ ht)⟩, for_list (K := K) (a := t) (xs := ns.map V.str) (fun i σ H' => ∃ (l : Addr) (rs : List Addr) (o : Option V), σ = [some (.ref t), some (.ref l), o, none] ∧ Same H H' ∧ H l = none ∧ H' l = some (.lst (rs.map V.ref)) ∧ Tups H' rs (subs (ns.take i))) ⟨l, [u], _, rfl, su.trans sl, su.free nl, upd_same, t0⟩ (fun i σ H' _ e => ?_) (fun i x σ H' hi e => ?_) (fun σ H' e => ?_)⟩
    · obtain ⟨l, rs, o, rfl, s1, _⟩ := e
      exact SqL.of (s1 _ _ ht)
    · obtain ⟨l, rs, o, rfl, s1, fr, hl, tu⟩ := e
      rw [List.getElem?_map] at hi
      cases en : ns[i]? with
      | none =>
        rw [en] at hi
        cases hi
      | some n =>
        rw [en] at hi
        cases hi
        have li : i < ns.length := (List.getElem?_eq_some_iff.mp en).1
        have m64 : (subs (ns.take i)).length ≤ 256 := subs_few8 (by rw [List.length_take]; omega)
        have rl := tu.1
        refine ⟨_, rfl, _, rfl, l, rfl, ⟨_, SqL.of hl⟩, fun D nD => ?_⟩
        refine lc_list (K := K) (a := l) (xs := rs.map V.ref) (fun j G => Same H' G ∧ ∃ ss : List Addr, G D = some (.lst (ss.map V.ref)) ∧ Tups G ss (((subs (ns.take i)).take j).map (· ++ [n]))) ⟨Same.new nD, [], upd_same, rfl, fun i r k e1 e2 => by cases e1⟩ (fun j G _ h => SqL.of (h.1 _ _ hl)) (fun j y G hj h => ?_) (fun G h => ?_)
        · obtain ⟨s2, ss, hD, ts⟩ := h
          rw [List.getElem?_map] at hj
          cases er : rs[j]? with
          | none =>
            rw [er] at hj
            cases hj
          | some r =>
            rw [er] at hj
            cases hj
            have lj : j < (subs (ns.take i)).length := by
              rw [← rl]
              exact (List.getElem?_eq_some_iff.mp er).1
            have ek : (subs (ns.take i))[j]? = some (subs (ns.take i))[j] := List.getElem?_eq_getElem lj
            generalize (subs (ns.take i))[j] = key at ek
            have hr1 := s2 _ _ (tu.2 j r key er ek)
            have et : ((subs (ns.take i)).take (j + 1)).map (· ++ [n]) = ((subs (ns.take i)).take j).map (· ++ [n]) ++ [key ++ [n]] := by
              rw [List.take_add_one, ek, List.map_append]
              rfl
            have put : ∀ {G2 : Hp} {p : Addr}, Same G G2 → G2 p = some (.tup ((key ++ [n]).map V.str)) → ∃ acc, G2 D = some (.lst acc) ∧ acc.length < sizeLine ∧ Same H' (upd G2 D (.lst (acc ++ [.ref p]))) ∧ ∃ ss : List Addr, upd G2 D (.lst (acc ++ [.ref p])) D = some (.lst (ss.map V.ref)) ∧ Tups (upd G2 D (.lst (acc ++ [.ref p]))) ss (((subs (ns.take i)).take (j + 1)).map (· ++ [n])) := fun {G2 p} s3 hp => by
              have hD2 := s3 _ _ hD
              refine ⟨_, hD2, small1000 ?_, fun b o e => ?_, ss ++ [p], ?_, ?_⟩
              · rw [List.length_map, ts.1, List.length_map, List.length_take]
                omega
              · rw [upd_ne (ne_of_none e nD)]
                exact (s2.trans s3) _ _ e
              · rw [upd_same, List.map_append]
                rfl
              · rw [et]
                exact ((ts.same s3).snoc hp).atL hD2
            refine ⟨by simp [wipe], ?_⟩
            refine ⟨_, rfl, _, rfl, by show 1 ≤ sizeLine; decide, fun b nb => ?_⟩
            have sb := Same.new (o := HO.tup [.str n]) nb
            have kl : key.length ≤ 8 := by
              have q := (subs_iff.mp (List.mem_of_getElem? ek)).length_le
              rw [List.length_take] at q
              omega
            refine ⟨r, b, key.map V.str, [.str n], rfl, rfl, SqT.of (sb _ _ hr1), SqT.of upd_same, Nat.le_of_lt (small1000 (by rw [List.length_map]; show key.length + 1 ≤ 1000; omega)), fun e => ?_, (fun _ e => by cases e), fun _ _ p np => ?_⟩
            · have e0 : key = [] := List.map_eq_nil_iff.mp e
              subst e0
              exact put sb upd_same
            · refine put (sb.trans (Same.new np)) ?_
              rw [upd_same, List.map_append]
              rfl
        · obtain ⟨s2, ss, hD, ts⟩ := h
          rw [List.length_map, rl, List.take_length] at ts
          refine ⟨l, D, _, _, rfl, rfl, s2 _ _ hl, hD, Nat.le_of_lt (small1000 ?_), fun p np => ?_⟩
          · rw [List.length_map, List.length_map, rl, ts.1, List.length_map]
            omega
          · have sp := Same.new (o := HO.lst (rs.map V.ref ++ ss.map V.ref)) np
            refine ⟨p, rs ++ ss, _, rfl, (s1.trans s2).trans sp, (s1.trans s2).free np, ?_, ?_⟩
            · rw [upd_same, List.map_append]
            · rw [subs_take en]
              exact ((tu.same s2).append ts).same sp
    · obtain ⟨l, rs, o, rfl, s1, fr, hl, tu⟩ := e
      rw [List.length_map, List.take_length] at tu
      exact ⟨_, rfl, k H' l rs s1 fr hl tu⟩
end
end IC
namespace IC
open PySem L2 TL
/-- _law_subsets(marks) -/
def spLS : Sp := fun vs H Q _ => ∃ (a : Addr) (ms : List Str), vs = [.ref a] ∧ H a = some (.lst (ms.map V.str)) ∧ ms.length ≤ 4 ∧
  ∀ (H' : Hp) (l : Addr) (rs : List Addr) (ns : List Str), Same H H' → H' l = some (.lst (rs.map V.ref)) → Tups H' rs (subs ns) → ns.Perm ms → PyProof.Rows.sortedS ns = true → Q (.ref l) H'
section
variable {P : Program} {w : World} {K : PySem.W.Frag} {mg : Str → Option Value} {base : Heap} {C : Addr}
theorem ok_lsubs {f : Addr} {fd : FuncData} (F : Fun K "_law_subsets" "_law_subsets" s_law_subsets f fd) (T : Bn mg) : FnOk P w K mg base CX0 1 f fd ["marks"] spLS := by
  refine F.ok sc_law_subsets (fun vs H Q E h => ?_) (fun cdv A outer s H vs Q E hr h => ?_)
  · obtain ⟨a, ms, rfl, _⟩ := h
    rfl
  · obtain ⟨a, ms, rfl, ha, few, k⟩ := h
    refine ⟨_, (pss_cons (ps_set (i := 1) sc_law_subsets.nd rfl (Or.inl rfl) (pe_lst (pa_cons (pe_tup pa_nil) pa_nil)))
  (pss_cons (ps_for PassesOwn.never rfl (pi_list (pe_callB cr_sortedS (by rfl) T.sorted (by decide +kernel) (pa_cons (pv 0) pa_nil))) (pg_name (i := 2) sc_law_subsets.nd rfl (Or.inr rfl))
  (pss_one (ps_set (i := 1) sc_law_subsets.nd rfl (Or.inl rfl) (pe_op op_cat (pv 1) (pe_lc (own := [("some", 3)]) (g := gName 3) (tt := tYes) rfl sc_law_subsets.nd (pi_list (pv 1)) (blkOk_by (N := ["marks", "found", "one", "some"]) (sc := defScope s_law_subsets) (by decide +kernel)) (fun _ _ _ _ _ => pg_name (i := 3) sc_law_subsets.nd rfl (Or.inl rfl)) (fun _ _ _ _ _ => pts_nil) (fun _ _ _ _ _ => (pe_op (show OpR _ _ (rCatA K) from op_catA) (pv 3) (pe_tup (pa_cons (pv 2) pa_nil)))))))))
  (pss_one (ps_ret (pv 1))))), ?_⟩
    refine ⟨by show 0 ≤ sizeLine; decide, fun u nu => ⟨by show 1 ≤ sizeLine; decide, fun l nl => ?_⟩⟩
    have su := Same.new (o := HO.tup []) nu
    have sl := Same.new (o := HO.lst [.ref u]) nl
    have t0 : Tups (upd (upd H u (.tup [])) l (.lst [.ref u])) [u] (subs []) := ⟨rfl, fun i r k e1 e2 => by
      cases i with
      | zero =>
        cases e1
        cases e2
        exact sl _ _ upd_same
      | succ i => cases e1⟩
    refine ⟨_, rfl, a, ms, rfl, SqL.of ((su.trans sl) _ _ ha), by omega, fun ns t perm so nt => ?_⟩
    have few : ns.length ≤ 4 := by
      rw [perm.length_eq]
      exact few
    have ht : upd (upd (upd H u (.tup [])) l (.lst [.ref u])) t (.lst (ns.map V.str)) t = some (.lst (ns.map V.str)) := upd_same
    have s0 : Same H (upd (upd (upd H u (.tup [])) l (.lst [.ref u])) t (.lst (ns.map V.str))) := (su.trans sl).trans (Same.new nt)
    have t0 := t0.same (Same.new (o := HO.lst (ns.map V.str)) nt)
    have hl0 := Same.new (o := HO.lst (ns.map V.str)) nt l (.lst [.ref u]) upd_same
    generalize upd (upd (upd H u (.tup [])) l (.lst [.ref u])) t (.lst (ns.map V.str)) = H0 at ht s0 t0 hl0 ⊢
    refine ⟨t, rfl, ⟨_, SqL.of ht⟩, for_list (K := K) (a := t) (xs := ns.map V.str) (fun i σ H' => ∃ (l : Addr) (rs : List Addr) (o : Option V), σ = [some (.ref a), some (.ref l), o, none] ∧ Same H0 H' ∧ H' l = some (.lst (rs.map V.ref)) ∧ Tups H' rs (subs (ns.take i))) ⟨l, [u], _, rfl, Same.refl _, hl0, t0⟩ (fun i σ H' _ e => ?_) (fun i x σ H' hi e => ?_) (fun σ H' e => ?_)⟩
    · obtain ⟨l, rs, o, rfl, s1, _⟩ := e
      exact SqL.of (s1 _ _ ht)
    · obtain ⟨l, rs, o, rfl, s1, hl, tu⟩ := e
      rw [List.getElem?_map] at hi
      cases en : ns[i]? with
      | none =>
        rw [en] at hi
        cases hi
      | some n =>
        rw [en] at hi
        cases hi
        have li : i < ns.length := (List.getElem?_eq_some_iff.mp en).1
        have m64 : (subs (ns.take i)).length ≤ 256 := subs_few8 (by rw [List.length_take]; omega)
        have rl := tu.1
        refine ⟨_, rfl, _, rfl, l, rfl, ⟨_, SqL.of hl⟩, fun D nD => ?_⟩
        refine lc_list (K := K) (a := l) (xs := rs.map V.ref) (fun j G => Same H' G ∧ ∃ ss : List Addr, G D = some (.lst (ss.map V.ref)) ∧ Tups G ss (((subs (ns.take i)).take j).map (· ++ [n]))) ⟨Same.new nD, [], upd_same, rfl, fun i r k e1 e2 => by cases e1⟩ (fun j G _ h => SqL.of (h.1 _ _ hl)) (fun j y G hj h => ?_) (fun G h => ?_)
        · obtain ⟨s2, ss, hD, ts⟩ := h
          rw [List.getElem?_map] at hj
          cases er : rs[j]? with
          | none =>
            rw [er] at hj
            cases hj
          | some r =>
            rw [er] at hj
            cases hj
            have lj : j < (subs (ns.take i)).length := by
              rw [← rl]
              exact (List.getElem?_eq_some_iff.mp er).1
            have ek : (subs (ns.take i))[j]? = some (subs (ns.take i))[j] := List.getElem?_eq_getElem lj
            generalize (subs (ns.take i))[j] = key at ek
            have hr1 := s2 _ _ (tu.2 j r key er ek)
            have et : ((subs (ns.take i)).take (j + 1)).map (· ++ [n]) = ((subs (ns.take i)).take j).map (· ++ [n]) ++ [key ++ [n]] := by
              rw [List.take_add_one, ek, List.map_append]
              rfl
            have put : ∀ {G2 : Hp} {p : Addr}, Same G G2 → G2 p = some (.tup ((key ++ [n]).map V.str)) → ∃ acc, G2 D = some (.lst acc) ∧ acc.length < sizeLine ∧ Same H' (upd G2 D (.lst (acc ++ [.ref p]))) ∧ ∃ ss : List Addr, upd G2 D (.lst (acc ++ [.ref p])) D = some (.lst (ss.map V.ref)) ∧ Tups (upd G2 D (.lst (acc ++ [.ref p]))) ss (((subs (ns.take i)).take (j + 1)).map (· ++ [n])) := fun {G2 p} s3 hp => by
              have hD2 := s3 _ _ hD
              refine ⟨_, hD2, small1000 ?_, fun b o e => ?_, ss ++ [p], ?_, ?_⟩
              · rw [List.length_map, ts.1, List.length_map, List.length_take]
                omega
              · rw [upd_ne (ne_of_none e nD)]
                exact (s2.trans s3) _ _ e
              · rw [upd_same, List.map_append]
                rfl
              · rw [et]
                exact ((ts.same s3).snoc hp).atL hD2
            refine ⟨by simp [wipe], ?_⟩
            refine ⟨_, rfl, _, rfl, by show 1 ≤ sizeLine; decide, fun b nb => ?_⟩
            have sb := Same.new (o := HO.tup [.str n]) nb
            have kl : key.length ≤ 8 := by
              have q := (subs_iff.mp (List.mem_of_getElem? ek)).length_le
              rw [List.length_take] at q
              omega
            refine ⟨r, b, key.map V.str, [.str n], rfl, rfl, SqT.of (sb _ _ hr1), SqT.of upd_same, Nat.le_of_lt (small1000 (by rw [List.length_map]; show key.length + 1 ≤ 1000; omega)), fun e => ?_, (fun _ e => by cases e), fun _ _ p np => ?_⟩
            · have e0 : key = [] := List.map_eq_nil_iff.mp e
              subst e0
              exact put sb upd_same
            · refine put (sb.trans (Same.new np)) ?_
              rw [upd_same, List.map_append]
              rfl
        · obtain ⟨s2, ss, hD, ts⟩ := h
          rw [List.length_map, rl, List.take_length] at ts
          refine ⟨l, D, _, _, rfl, rfl, s2 _ _ hl, hD, Nat.le_of_lt (small1000 ?_), fun p np => ?_⟩
          · rw [List.length_map, List.length_map, rl, ts.1, List.length_map]
            omega
          · have sp := Same.new (o := HO.lst (rs.map V.ref ++ ss.map V.ref)) np
            refine ⟨p, rs ++ ss, _, rfl, (s1.trans s2).trans sp, ?_, ?_⟩
            · rw [upd_same, List.map_append]
            · rw [subs_take en]
              exact ((tu.same s2).append ts).same sp
    · obtain ⟨l, rs, o, rfl, s1, hl, tu⟩ := e
      rw [List.length_map, List.take_length] at tu
      exact ⟨_, rfl, k H' l rs ns (s0.trans s1) hl tu perm so⟩
end
end IC
namespace IC
open PySem L2 TL
/-- entry_cases(records, silent) -/
def spEC : Sp := fun vs H Q _ => ∃ (a : Addr) (b : Bool) (rs : List Str), vs = [.ref a, .bl b] ∧ H a = some (.lst (rs.map V.str)) ∧ rs.length ≤ 4 ∧
  ∀ (H' : Hp) (l : Addr) (ts : List Addr) (ns : List Str), Same H H' → H l = none → H' l = some (.lst (ts.map V.ref)) → Cases H' ts ((dueP ns).mergeSort leC) → (if b = true then ns = [] else ns.Perm rs ∧ PyProof.Rows.sortedS ns = true) → Q (.ref l) H'
theorem Kp.atF {F : Addr} {G G' : Hp} {o : HO} (k : Kp [F] G G') : Kp [F] G (upd G' F o) := k.mutAt (by simp)
section
variable {P : Program} {w : World} {K : PySem.W.Frag} {mg : Str → Option Value} {base : Heap} {C : Addr}
theorem ok_entry {f : Addr} {fd : FuncData} (F : FunD K "entry_cases" "entry_cases" (defArgs s_entry_cases) (defBody s_entry_cases) (defScope s_entry_cases) [] [("silent", .bl false)] f fd) (T : Bn mg) (D_subsets : Df P w K mg base 1 "subsets" ["names"] spSubsL) : FnOk P w K mg base CX0 2 f fd ["records", "silent"] spEC := by
  refine F.ok sc_entry_cases (fun vs H Q E h => ?_) (fun cdv A outer s H vs Q E hr h => ?_)
  · obtain ⟨a, b, rs, rfl, _⟩ := h
    rfl
  · obtain ⟨a, b, rs, rfl, ha, few, k⟩ := h
    refine ⟨_, PSs.nox (Evl.pss_cut (ps_set (i := 2) sc_entry_cases.nd rfl (Or.inl rfl) (pe_ifExp (pt_val (pv 1)) (pe_lst pa_nil) (pe_callB cr_sortedS (by rfl) T.sorted (by decide +kernel) (pa_cons (pv 0) pa_nil))))
  (pss_cons (ps_set (i := 3) sc_entry_cases.nd rfl (Or.inl rfl) (pe_lst pa_nil))
  (pss_cons (ps_for PassesOwn.never rfl (pi_list (pe_df D_subsets hr (by decide) rfl (pa_cons (pv 2) pa_nil))) (pg_name (i := 4) sc_entry_cases.nd rfl (Or.inr rfl))
  (pss_cons (ps_expr (pe_bm PySem.F.plainAttrs_list PySem.F.slot_list_append PySem.F.type_list_append mt_append (pv 3) (pa_cons (pe_tup (pa_cons pe_str (pa_cons (pv 4) (pa_cons (pe_tup pa_nil) pa_nil)))) pa_nil)))
  (pss_one (ps_for PassesOwn.never rfl (pi_list (pe_df D_subsets hr (by decide) rfl (pa_cons (pe_lc (own := [("name", 6)]) (g := gName 6) rfl sc_entry_cases.nd (pi_list (pv 2)) (blkOk_by (N := ["records", "silent", "names", "found", "outer", "held", "name"]) (sc := defScope s_entry_cases) (by decide +kernel)) (fun _ _ _ _ _ => pg_name (i := 6) sc_entry_cases.nd rfl (Or.inl rfl)) (fun _ _ _ _ _ => pts_one (pt_cmpR (show OpR _ _ (rIn K true) from op_notIn_seq) (pv 6) (pv 4) (by rfl))) (fun _ _ _ _ _ => (pv 6))) pa_nil))) (pg_name (i := 5) sc_entry_cases.nd rfl (Or.inl rfl))
  (pss_cons (ps_expr (pe_bm PySem.F.plainAttrs_list PySem.F.slot_list_append PySem.F.type_list_append mt_append (pv 3) (pa_cons (pe_tup (pa_cons pe_str (pa_cons (pv 4) (pa_cons (pv 5) pa_nil)))) pa_nil)))
  (pss_one (ps_expr (pe_bm PySem.F.plainAttrs_list PySem.F.slot_list_append PySem.F.type_list_append mt_append (pv 3) (pa_cons (pe_tup (pa_cons pe_str (pa_cons (pv 4) (pa_cons (pv 5) pa_nil)))) pa_nil)))))))))
  (pss_one (ps_ret (pe_callB (cr_sortCases hr.units) (by rfl) T.sorted (by decide +kernel) (pa_cons (pv 3) pa_nil))))))), ?_⟩
    refine ⟨fun σ G => ∃ (N : Addr) (ns : List Str), σ = [some (.ref a), some (.bl b), some (.ref N), none, none, none, none] ∧ Same H G ∧ G N = some (.lst (ns.map V.str)) ∧ ns.length ≤ 4 ∧ (if b = true then ns = [] else ns.Perm rs ∧ PyProof.Rows.sortedS ns = true), ?_, ?_⟩
    · refine ⟨_, rfl, b, rfl, ?_⟩
      cases b with
      | true => exact iteT ⟨Nat.zero_le _, fun N nN => ⟨N, [], rfl, Same.new nN, upd_same, Nat.zero_le _, rfl⟩⟩
      | false => exact iteF ⟨_, rfl, a, rs, rfl, SqL.of ha, by omega, fun ns N perm so nN => ⟨N, ns, rfl, Same.new nN, upd_same, by rw [perm.length_eq]; exact few, perm, so⟩⟩
    · rintro σ G ⟨N, ns, rfl, s1, hN, n4, cond⟩
      refine ⟨Nat.zero_le _, fun Fo nF => ?_⟩
      have sF := Same.new (o := HO.lst []) nF
      have hF0 : H Fo = none := s1.free nF
      refine ⟨_, rfl, N, ns, rfl, sF _ _ hN, by omega, fun G2 l rs2 s2 fl hl tu => ?_⟩
      have hN2 := s2 _ _ (sF _ _ hN)
      have hF2 := s2 _ _ (upd_same (H := G) (a := Fo) (o := HO.lst []))
      have NF : N ≠ Fo := ne_of_none hN nF
      have rl := tu.1
      have m16 := subs_few4 n4
      have s12 := (s1.trans sF).trans s2
      have lF : l ≠ Fo := (ne_of_none (upd_same (H := G) (a := Fo) (o := HO.lst [])) fl).symm
      have notF : ∀ {x : Addr}, x ≠ Fo → x ∉ [Fo] := fun h q => h (List.mem_singleton.mp q)
      have threeL : ∀ {a b c : V}, [a, b, c].length ≤ sizeLine := by
        intro a b c
        show 3 ≤ sizeLine
        decide
      refine ⟨l, rfl, ⟨_, SqL.of hl⟩, for_list (K := K) (a := l) (xs := rs2.map V.ref) (fun i σ G' => ∃ (o4 o5 : Option V) (ts : List Addr), σ = [some (.ref a), some (.bl b), some (.ref N), some (.ref Fo), o4, o5, none] ∧ Kp [Fo] G2 G' ∧ G' Fo = some (.lst (ts.map V.ref)) ∧ Cases G' ts (((subs ns).take i).flatMap (rowP ns))) ⟨_, _, [], rfl, Kp.refl _ _, hF2, Cases.nil⟩ (fun i σ G' _ e => ?_) (fun i x σ G' hi e => ?_) (fun σ G' e => ?_)⟩
      · obtain ⟨o4, o5, ts, rfl, kp, _⟩ := e
        exact SqL.of (kp _ _ hl (notF lF))
      · obtain ⟨o4, o5, ts, rfl, kp, hF3, cs⟩ := e
        rw [List.getElem?_map] at hi
        cases er : rs2[i]? with
        | none =>
          rw [er] at hi
          cases hi
        | some r =>
          rw [er] at hi
          cases hi
          have li : i < (subs ns).length := by
            rw [← rl]
            exact (List.getElem?_eq_some_iff.mp er).1
          have eo : (subs ns)[i]? = some (subs ns)[i] := List.getElem?_eq_getElem li
          generalize (subs ns)[i] = o at eo
          have hr3 := (tu.mv kp hF2).2 i r o er eo
          have tl1 := flat_le (rowP ns) 33 ((subs ns).take i) fun _ _ => rowP_len n4
          rw [List.length_take] at tl1
          have tsl := cs.1
          refine ⟨_, rfl, .inl ⟨rfl, _, SqL.of hF3⟩, _, rfl, Nat.zero_le _, fun e ne => ⟨threeL, fun t nt => ?_⟩⟩
          have se := Same.new (o := HO.tup []) ne
          have st := se.trans (Same.new (o := HO.tup [.str (Str.ofString "none"), .ref r, .ref e]) nt)
          have hF4 := st _ _ hF3
          refine ⟨Fo, _, .ref t, rfl, rfl, hF4, small1000 (by rw [List.length_map, tsl]; omega), ?_⟩
          have ct : CaseAt (upd (upd G' e (.tup [])) t (.tup [.str (Str.ofString "none"), .ref r, .ref e])) t ⟨sN, o, []⟩ := ⟨r, e, upd_same, st _ _ hr3, (Same.new (o := HO.tup [.str (Str.ofString "none"), .ref r, .ref e]) nt) _ _ upd_same⟩
          have cs4 := ((cs.same st).append (Cases.one ct)).atL (o := .lst (ts.map V.ref ++ [.ref t])) hF4
          have kp4 : Kp [Fo] G2 (upd (upd (upd G' e (.tup [])) t (.tup [.str (Str.ofString "none"), .ref r, .ref e])) Fo (.lst (ts.map V.ref ++ [.ref t]))) := (kp.trans (Kp.same st)).atF
          have hF5 : upd (upd (upd G' e (.tup [])) t (.tup [.str (Str.ofString "none"), .ref r, .ref e])) Fo (.lst (ts.map V.ref ++ [.ref t])) Fo = some (.lst ((ts ++ [t]).map V.ref)) := by
            rw [upd_same, List.map_append]
            rfl
          generalize upd (upd (upd G' e (.tup [])) t (.tup [.str (Str.ofString "none"), .ref r, .ref e])) Fo (.lst (ts.map V.ref ++ [.ref t])) = G3 at cs4 kp4 hF5 ⊢
          have hN4 := kp4 _ _ hN2 (notF NF)
          have hr4 := (tu.mv kp4 hF2).2 i r o er eo
          refine ⟨_, rfl, N, rfl, ⟨_, SqL.of hN4⟩, fun D nD => ?_⟩
          refine lc_list (K := K) (a := N) (xs := ns.map V.str) (fun j G => Same G3 G ∧ G D = some (.lst (((ns.take j).filter fun n => !decide (n ∈ o)).map V.str))) ⟨Same.new nD, upd_same⟩ (fun j G _ h => SqL.of (h.1 _ _ hN4)) (fun j y G hj h => ?_) (fun G h => ?_)
          · rw [List.getElem?_map] at hj
            cases en : ns[j]? with
            | none =>
              rw [en] at hj
              cases hj
            | some n =>
              rw [en] at hj
              cases hj
              have et : (ns.take (j + 1)).filter (fun n => !decide (n ∈ o)) = (ns.take j).filter (fun n => !decide (n ∈ o)) ++ [n].filter (fun n => !decide (n ∈ o)) := by
                rw [List.take_add_one, en, List.filter_append]
                rfl
              refine ⟨rfl, ?_⟩
              have small : (((ns.take j).filter (fun n => !decide (n ∈ o))).map V.str).length < sizeLine := by
                rw [List.length_map]
                have q1 := List.length_filter_le (fun n => !decide (n ∈ o)) (ns.take j)
                rw [List.length_take] at q1
                exact small1000 (by omega)
              refine ⟨_, rfl, _, rfl, r, o.map V.str, rfl, .inr (SqT.of (h.1 _ _ hr4)), rfl, flat_ks o, _, rfl, ?_⟩
              rw [if_pos rfl, inV_strs]
              cases ec : decide (n ∈ o) with
              | true =>
                refine iteF ⟨h.1, ?_⟩
                rw [et]
                simp [ec, h.2]
              | false =>
                refine iteT ⟨_, rfl, _, h.2, small, fun b o e => ?_, ?_⟩
                · rw [upd_ne (ne_of_none e nD)]
                  exact h.1 b o e
                · rw [upd_same, et]
                  simp [ec]
          · rw [List.length_map, List.take_length] at h
            obtain ⟨s5, hD⟩ := h
            have f4 : (ns.filter fun n => !decide (n ∈ o)).length ≤ 4 := Nat.le_trans (List.length_filter_le _ _) n4
            refine ⟨D, _, rfl, hD, by omega, fun G5 l2 rs3 s6 fl2 hl2 tu2 => ?_⟩
            have s56 := s5.trans s6
            have hF6 := s56 _ _ hF5
            have cs6 := cs4.same s56
            have m16b := subs_few4 f4
            have l2F : l2 ≠ Fo := (ne_of_none (s5 _ _ hF5) fl2).symm
            have kp6 := kp4.trans (Kp.same s56)
            have rl2 := tu2.1
            have tsl6 := cs6.1
            rw [List.length_append] at tsl6
            have psl : (((subs ns).take i).flatMap (rowP ns)).length ≤ 33 * 16 := by omega
            refine ⟨l2, rfl, ⟨_, SqL.of hl2⟩, for_list (K := K) (a := l2) (xs := rs3.map V.ref) (fun j σ G' => ∃ (o5 : Option V) (us : List Addr), σ = [some (.ref a), some (.bl b), some (.ref N), some (.ref Fo), some (.ref r), o5, none] ∧ Kp [Fo] G5 G' ∧ G' Fo = some (.lst (us.map V.ref)) ∧ Cases G' us ((((subs ns).take i).flatMap (rowP ns)) ++ [⟨sN, o, []⟩] ++ ((subs (ns.filter fun n => !decide (n ∈ o))).take j).flatMap (twoC o))) ⟨_, _, rfl, Kp.refl _ _, hF6, by rw [List.take_zero, List.flatMap_nil, List.append_nil]; exact cs6⟩ (fun j σ G' _ e => ?_) (fun j x σ G' hj e => ?_) (fun σ G' e => ?_)⟩
            · obtain ⟨o5, us, rfl, kp7, _⟩ := e
              exact SqL.of (kp7 _ _ hl2 (notF l2F))
            · obtain ⟨o5, us, rfl, kp7, hF7, cs7⟩ := e
              rw [List.getElem?_map] at hj
              cases eq : rs3[j]? with
              | none =>
                rw [eq] at hj
                cases hj
              | some q =>
                rw [eq] at hj
                cases hj
                have lj : j < (subs (ns.filter fun n => !decide (n ∈ o))).length := by
                  rw [← rl2]
                  exact (List.getElem?_eq_some_iff.mp eq).1
                have eh : (subs (ns.filter fun n => !decide (n ∈ o)))[j]? = some (subs (ns.filter fun n => !decide (n ∈ o)))[j] := List.getElem?_eq_getElem lj
                generalize (subs (ns.filter fun n => !decide (n ∈ o)))[j] = hh at eh
                have hq7 := (tu2.mv kp7 hF6).2 j q hh eq eh
                have hr7 := (tu.mv (kp6.trans kp7) hF2).2 i r o er eo
                have usl := cs7.1
                have tw := flat_le (twoC o) 2 ((subs (ns.filter fun n => !decide (n ∈ o))).take j) fun _ _ => Nat.le_refl _
                rw [List.length_take] at tw
                rw [List.length_append, List.length_append] at usl
                have one1 : ([⟨sN, o, []⟩] : List CaseT).length = 1 := rfl
                refine ⟨_, rfl, .inl ⟨rfl, _, SqL.of hF7⟩, _, rfl, _, rfl, threeL, fun t1 nt1 => ?_⟩
                have sa := Same.new (o := HO.tup [.str (Str.ofString "open"), .ref r, .ref q]) nt1
                have hF8 := sa _ _ hF7
                refine ⟨Fo, _, .ref t1, rfl, rfl, hF8, small1000 (by rw [List.length_map]; omega), ?_⟩
                have ca : CaseAt (upd G' t1 (.tup [.str (Str.ofString "open"), .ref r, .ref q])) t1 ⟨sO, o, hh⟩ := ⟨r, q, upd_same, sa _ _ hr7, sa _ _ hq7⟩
                have cs8 := ((cs7.same sa).append (Cases.one ca)).atL (o := .lst (us.map V.ref ++ [.ref t1])) hF8
                have kp8 : Kp [Fo] G5 (upd (upd G' t1 (.tup [.str (Str.ofString "open"), .ref r, .ref q])) Fo (.lst (us.map V.ref ++ [.ref t1]))) := (kp7.trans (Kp.same sa)).atF
                have hF9 : upd (upd G' t1 (.tup [.str (Str.ofString "open"), .ref r, .ref q])) Fo (.lst (us.map V.ref ++ [.ref t1])) Fo = some (.lst ((us ++ [t1]).map V.ref)) := by
                  rw [upd_same, List.map_append]
                  rfl
                generalize upd (upd G' t1 (.tup [.str (Str.ofString "open"), .ref r, .ref q])) Fo (.lst (us.map V.ref ++ [.ref t1])) = G7 at cs8 kp8 hF9 ⊢
                have hq9 := (tu2.mv kp8 hF6).2 j q hh eq eh
                have hr9 := (tu.mv (kp6.trans kp8) hF2).2 i r o er eo
                refine ⟨_, rfl, .inl ⟨rfl, _, SqL.of hF9⟩, _, rfl, _, rfl, threeL, fun t2 nt2 => ?_⟩
                have sb := Same.new (o := HO.tup [.str (Str.ofString "doomed"), .ref r, .ref q]) nt2
                have hF10 := sb _ _ hF9
                refine ⟨Fo, _, .ref t2, rfl, rfl, hF10, small1000 (by rw [List.length_map, List.length_append]; show us.length + 1 ≤ 1000; omega), ?_⟩
                have cb : CaseAt (upd G7 t2 (.tup [.str (Str.ofString "doomed"), .ref r, .ref q])) t2 ⟨sD, o, hh⟩ := ⟨r, q, upd_same, sb _ _ hr9, sb _ _ hq9⟩
                have cs9 := ((cs8.same sb).append (Cases.one cb)).atL (o := .lst ((us ++ [t1]).map V.ref ++ [.ref t2])) hF10
                refine ⟨some (.ref q), us ++ [t1] ++ [t2], rfl, (kp8.trans (Kp.same sb)).atF, ?_, ?_⟩
                · rw [upd_same, List.map_append, List.map_append, List.map_append]
                  rfl
                · rw [List.take_add_one, eh, List.flatMap_append, ← List.append_assoc]
                  have e2 : ([hh].flatMap (twoC o)) = [⟨sO, o, hh⟩] ++ [⟨sD, o, hh⟩] := rfl
                  show Cases _ _ (_ ++ [hh].flatMap (twoC o))
                  rw [e2, ← List.append_assoc]
                  exact cs9
            · obtain ⟨o5, us, rfl, kp7, hF7, cs7⟩ := e
              rw [List.length_map, rl2, List.take_length] at cs7
              refine ⟨some (.ref r), o5, us, rfl, kp6.trans kp7, hF7, ?_⟩
              rw [List.take_add_one, eo, List.flatMap_append]
              have e3 : ([o].flatMap (rowP ns)) = [⟨sN, o, []⟩] ++ (subs (ns.filter fun n => !decide (n ∈ o))).flatMap (twoC o) := by
                show rowP ns o ++ [] = _
                rw [List.append_nil]
                rfl
              show Cases _ _ (_ ++ [o].flatMap (rowP ns))
              rw [e3, ← List.append_assoc]
              exact cs7
      · obtain ⟨o4, o5, ts, rfl, kp, hF3, cs⟩ := e
        rw [List.length_map, rl, List.take_length] at cs
        refine ⟨_, rfl, Fo, ts, _, rfl, hF3, cs, Nat.le_trans (dueP_len n4) (by decide), fun l3 us nl cu => ?_⟩
        have s3 := Same.kp s12 kp hF0
        exact k _ l3 us ns (s3.trans (Same.new nl)) (s3.free nl) upd_same (cu.same (Same.new nl)) cond
end
end IC
namespace IC
open PySem L2 TL
/-- _law_due(marks) -/
def spDue : Sp := fun vs H Q _ => ∃ (a : Addr) (ms : List Str), vs = [.ref a] ∧ H a = some (.lst (ms.map V.str)) ∧ ms.length ≤ 4 ∧ okT ms ∧
  ∀ (H' : Hp) (l : Addr) (ts : List Addr) (ns : List Str), Same H H' → H l = none → H' l = some (.lst (ts.map V.ref)) → Cases H' ts ((dueL ns).mergeSort leC) → ns.Perm ms → PyProof.Rows.sortedS ns = true → Q (.ref l) H'
section
variable {P : Program} {w : World} {K : PySem.W.Frag} {mg : Str → Option Value} {base : Heap} {C : Addr}
theorem ok_due {f : Addr} {fd : FuncData} (F : Fun K "_law_due" "_law_due" s_law_due f fd) (T : Bn mg) (D_law_subsets : Df P w K mg base 1 "_law_subsets" ["marks"] spLS) : FnOk P w K mg base CX0 2 f fd ["marks"] spDue := by
  refine F.ok sc_law_due (fun vs H Q E h => ?_) (fun cdv A outer s H vs Q E hr h => ?_)
  · obtain ⟨a, ms, rfl, _⟩ := h
    rfl
  · obtain ⟨a, ms, rfl, ha, few, okm, k⟩ := h
    refine ⟨_, (pss_cons (ps_set (i := 1) sc_law_due.nd rfl (Or.inl rfl) (pe_df D_law_subsets hr (by decide) rfl (pa_cons (pv 0) pa_nil)))
  (pss_cons (ps_setLc (i := 2) (own := [("outer", 3)]) (g := gName 3) (tt := tYes) rfl sc_law_due.nd rfl rfl rfl (pi_list (pv 1)) (blkOk_by (N := ["marks", "sets", "found", "outer", "held", "some", "one"]) (sc := defScope s_law_due) (by decide +kernel)) (fun _ _ _ _ _ => pg_name (i := 3) sc_law_due.nd rfl (Or.inl rfl)) (fun _ _ _ _ _ => pts_nil) (fun _ _ _ _ _ => (pe_tup (pa_cons pe_str (pa_cons (pv 3) (pa_cons (pe_tup pa_nil) pa_nil))))))
  (pss_cons (ps_for PassesOwn.never rfl (pi_list (pv 1)) (pg_name (i := 3) sc_law_due.nd rfl (Or.inr rfl))
  (pss_one (ps_for PassesOwn.never rfl (pi_list (pe_lc (own := [("some", 5)]) (g := gName 5) rfl sc_law_due.nd (pi_list (pv 1)) (blkOk_by (N := ["marks", "sets", "found", "outer", "held", "some", "one"]) (sc := defScope s_law_due) (by decide +kernel)) (fun _ _ _ _ _ => pg_name (i := 5) sc_law_due.nd rfl (Or.inl rfl)) (fun _ _ _ _ _ => pts_one (pt_cmpR (show OpR _ _ (rEqD K) from op_eqD hr.units) (pe_lc (own := [("one", 6)]) (g := gName 6) rfl sc_law_due.nd (show PI _ _ _ (iTup K (tVar 5)) from pi_tup (pv 5)) (blkOk_by (N := ["marks", "sets", "found", "outer", "held", "some", "one"]) (sc := relS _ (defScope s_law_due)) (by decide +kernel)) (fun _ _ _ _ _ => pg_name (i := 6) sc_law_due.nd rfl (Or.inl rfl)) (fun _ _ _ _ _ => pts_one (pt_cmpR (show OpR _ _ (rIn K false) from op_in_seq) (pv 6) (pv 3) (by rfl))) (fun _ _ _ _ _ => (pv 6))) (pe_lst pa_nil) (nomark _))) (fun _ _ _ _ _ => (pv 5)))) (pg_name (i := 4) sc_law_due.nd rfl (Or.inl rfl))
  (pss_one (ps_set (i := 2) sc_law_due.nd rfl (Or.inl rfl) (pe_op op_cat (pv 2) (pe_lst (pa_cons (pe_tup (pa_cons pe_str (pa_cons (pv 3) (pa_cons (pv 4) pa_nil)))) (pa_cons (pe_tup (pa_cons pe_str (pa_cons (pv 3) (pa_cons (pv 4) pa_nil)))) pa_nil)))))))))
  (pss_one (ps_ret (pe_callB (cr_sortCases hr.units) (by rfl) T.sorted (by decide +kernel) (pa_cons (pv 2) pa_nil))))))), ?_⟩
    refine ⟨_, rfl, a, ms, rfl, ha, few, fun G0 S rs ns s0 hS tu perm so => ?_⟩
    have n4 : ns.length ≤ 4 := by
      rw [perm.length_eq]
      exact few
    have okn : okT ns := fun z hz => okm z (perm.mem_iff.mp hz)
    have rl := tu.1
    have m16 := subs_few4 n4
    have threeL : ∀ {a b c : V}, [a, b, c].length ≤ sizeLine := by
      intro a b c
      show 3 ≤ sizeLine
      decide
    refine ⟨_, rfl, S, rfl, ⟨_, SqL.of hS⟩, fun D nD => ?_⟩
    refine lc_list (K := K) (a := S) (xs := rs.map V.ref) (fun j G => Same G0 G ∧ ∃ ts : List Addr, G D = some (.lst (ts.map V.ref)) ∧ Cases G ts (((subs ns).take j).map fun o => (⟨sN, o, []⟩ : CaseT))) ⟨Same.new nD, [], upd_same, Cases.nil⟩ (fun j G _ h => SqL.of (h.1 _ _ hS)) (fun j y G hj h => ?_) (fun G h => ?_)
    · obtain ⟨s1, ts, hD, cs⟩ := h
      rw [List.getElem?_map] at hj
      cases er : rs[j]? with
      | none =>
        rw [er] at hj
        cases hj
      | some r =>
        rw [er] at hj
        cases hj
        have lj : j < (subs ns).length := by
          rw [← rl]
          exact (List.getElem?_eq_some_iff.mp er).1
        have ek : (subs ns)[j]? = some (subs ns)[j] := List.getElem?_eq_getElem lj
        generalize (subs ns)[j] = o at ek
        have hr := s1 _ _ (tu.2 j r o er ek)
        refine ⟨rfl, ?_⟩
        refine ⟨_, rfl, Nat.zero_le _, fun e ne => ⟨threeL, fun t nt => ?_⟩⟩
        have se := Same.new (o := HO.tup []) ne
        have st := se.trans (Same.new (o := HO.tup [.str (Str.ofString "none"), .ref r, .ref e]) nt)
        have hD2 := st _ _ hD
        have csl := cs.1
        rw [List.length_map, List.length_take] at csl
        have ct : CaseAt (upd (upd G e (.tup [])) t (.tup [.str (Str.ofString "none"), .ref r, .ref e])) t ⟨sN, o, []⟩ := ⟨r, e, upd_same, st _ _ hr, (Same.new (o := HO.tup [.str (Str.ofString "none"), .ref r, .ref e]) nt) _ _ upd_same⟩
        refine ⟨_, hD2, small1000 (by rw [List.length_map]; omega), fun b o e => ?_, ts ++ [t], ?_, ?_⟩
        · rw [upd_ne (ne_of_none e nD)]
          exact (s1.trans st) b o e
        · rw [upd_same, List.map_append]
          rfl
        · rw [List.take_add_one, ek, List.map_append]
          exact ((cs.same st).append (Cases.one ct)).atL hD2
    · obtain ⟨s1, ts, hD, cs⟩ := h
      rw [List.length_map, rl, List.take_length] at cs
      have hS1 := s1 _ _ hS
      have tu1 := tu.same s1
      have s01 := s0.trans s1
      refine ⟨_, rfl, S, rfl, ⟨_, SqL.of hS1⟩, for_list (K := K) (a := S) (xs := rs.map V.ref) (fun i σ G' => ∃ (Fo : Addr) (o3 o4 : Option V) (us : List Addr), σ = [some (.ref a), some (.ref S), some (.ref Fo), o3, o4, none, none] ∧ Same G G' ∧ G' Fo = some (.lst (us.map V.ref)) ∧ Cases G' us (((subs ns).map fun o => (⟨sN, o, []⟩ : CaseT)) ++ ((subs ns).take i).flatMap (rowL ns))) ⟨D, _, _, ts, rfl, Same.refl _, hD, by rw [List.take_zero, List.flatMap_nil, List.append_nil]; exact cs⟩ (fun i σ G' _ e => ?_) (fun i x σ G' hi e => ?_) (fun σ G' e => ?_)⟩
      · obtain ⟨Fo, o3, o4, us, rfl, s2, _⟩ := e
        exact SqL.of (s2 _ _ hS1)
      · obtain ⟨Fo, o3, o4, us, rfl, s2, hF, cs2⟩ := e
        rw [List.getElem?_map] at hi
        cases er : rs[i]? with
        | none =>
          rw [er] at hi
          cases hi
        | some r =>
          rw [er] at hi
          cases hi
          have li : i < (subs ns).length := by
            rw [← rl]
            exact (List.getElem?_eq_some_iff.mp er).1
          have eo : (subs ns)[i]? = some (subs ns)[i] := List.getElem?_eq_getElem li
          generalize (subs ns)[i] = o at eo
          have hr2 := s2 _ _ (tu1.2 i r o er eo)
          refine ⟨_, rfl, S, rfl, ⟨_, SqL.of (s2 _ _ hS1)⟩, fun D1 nD1 => ?_⟩
          refine lc_keep (K := K) (gi := 5) (fun s => decide (s.filter (fun n => decide (n ∈ o)) = [])) (by show 5 < 7; decide) (s2 _ _ hS1) (tu1.same s2) (Nat.le_trans m16 (by decide)) nD1 (fun x key G3 Q2 hin s3 hx cont => ?_) (fun G3 ss s3 hD3 tss => ?_)
          · have lk : key.length ≤ 4 := Nat.le_trans (subs_iff.mp hin).length_le n4
            have okk : okT key := fun z hz => okn z ((subs_iff.mp hin).mem hz)
            refine ⟨_, rfl, x, rfl, ⟨_, SqT.of hx⟩, fun D2 nD2 => ?_⟩
            refine lc_tup (K := K) (a := x) (xs := key.map V.str) (fun j G => Same G3 G ∧ G D2 = some (.lst (((key.take j).filter fun n => decide (n ∈ o)).map V.str))) ⟨Same.new nD2, upd_same⟩ (fun j G _ h => SqT.of (h.1 _ _ hx)) (fun j y G hj h => ?_) (fun G h => ?_)
            · rw [List.getElem?_map] at hj
              cases en : key[j]? with
              | none =>
                rw [en] at hj
                cases hj
              | some n =>
                rw [en] at hj
                cases hj
                have et : (key.take (j + 1)).filter (fun n => decide (n ∈ o)) = (key.take j).filter (fun n => decide (n ∈ o)) ++ [n].filter (fun n => decide (n ∈ o)) := by
                  rw [List.take_add_one, en, List.filter_append]
                  rfl
                refine ⟨rfl, ?_⟩
                have small : (((key.take j).filter (fun n => decide (n ∈ o))).map V.str).length < sizeLine := by
                  rw [List.length_map]
                  have q1 := List.length_filter_le (fun n => decide (n ∈ o)) (key.take j)
                  rw [List.length_take] at q1
                  exact small1000 (by omega)
                refine ⟨_, rfl, _, rfl, r, o.map V.str, rfl, .inr (SqT.of ((s3.trans h.1) _ _ hr2)), rfl, flat_ks o, _, rfl, ?_⟩
                rw [if_neg (by decide), inV_strs]
                cases ec : decide (n ∈ o) with
                | false =>
                  refine iteF ⟨h.1, ?_⟩
                  rw [et]
                  simp [ec, h.2]
                | true =>
                  refine iteT ⟨_, rfl, _, h.2, small, fun b o e => ?_, ?_⟩
                  · rw [upd_ne (ne_of_none e nD2)]
                    exact h.1 b o e
                  · rw [upd_same, et]
                    simp [ec]
            · rw [List.length_map, List.take_length] at h
              obtain ⟨s4, hD2⟩ := h
              refine ⟨Nat.zero_le _, fun e ne => ?_⟩
              have se := Same.new (o := HO.lst []) ne
              refine ⟨.list ((key.filter fun n => decide (n ∈ o)).map PyData.str), .list (([] : List Str).map PyData.str), .lst (SqL.of (se _ _ hD2)) (dpAll_strs _), .lst (SqL.of upd_same) .nil, shaped_strs _ (fun z hz => okk z (List.mem_filter.mp hz).1), rfl, ?_⟩
              rw [eqv_lists]
              exact ⟨_, rfl, cont _ (s4.trans se)⟩
          · have hF3 := s3 _ _ hF
            have cs3 := cs2.same s3
            have hr3 := s3 _ _ hr2
            have ssl := tss.1
            have fl := List.length_filter_le (fun s => decide (s.filter (fun n => decide (n ∈ o)) = [])) (subs ns)
            have rowlen : ∀ o ∈ (subs ns).take i, (rowL ns o).length ≤ 33 := fun o _ => by
              have q := rowP_len (ns := ns) (o := o) n4
              rw [rowP_eq, List.length_cons] at q
              omega
            have psl := flat_le (rowL ns) 33 ((subs ns).take i) rowlen
            rw [List.length_take] at psl
            refine ⟨D1, rfl, ⟨_, SqL.of hD3⟩, for_list (K := K) (a := D1) (xs := ss.map V.ref) (fun j σ G' => ∃ (Fo : Addr) (o4 : Option V) (us : List Addr), σ = [some (.ref a), some (.ref S), some (.ref Fo), some (.ref r), o4, none, none] ∧ Same G3 G' ∧ G' Fo = some (.lst (us.map V.ref)) ∧ Cases G' us ((((subs ns).map fun o => (⟨sN, o, []⟩ : CaseT)) ++ ((subs ns).take i).flatMap (rowL ns)) ++ (((subs ns).filter fun s => decide (s.filter (fun n => decide (n ∈ o)) = [])).take j).flatMap (twoC o))) ⟨Fo, _, us, rfl, Same.refl _, hF3, by rw [List.take_zero, List.flatMap_nil, List.append_nil]; exact cs3⟩ (fun j σ G' _ e => ?_) (fun j x σ G' hj e => ?_) (fun σ G' e => ?_)⟩
            · obtain ⟨Fo, o4, us, rfl, s5, _⟩ := e
              exact SqL.of (s5 _ _ hD3)
            · obtain ⟨Fo, o4, us, rfl, s5, hF5, cs5⟩ := e
              rw [List.getElem?_map] at hj
              cases eq : ss[j]? with
              | none =>
                rw [eq] at hj
                cases hj
              | some q =>
                rw [eq] at hj
                cases hj
                generalize ((subs ns).filter fun s => decide (s.filter (fun n => decide (n ∈ o)) = [])) = hs at tss ssl fl cs5 ⊢
                have lj : j < hs.length := by
                  rw [← ssl]
                  exact (List.getElem?_eq_some_iff.mp eq).1
                have eh : hs[j]? = some hs[j] := List.getElem?_eq_getElem lj
                generalize hs[j] = hh at eh
                have hq5 := s5 _ _ (tss.2 j q hh eq eh)
                have hr5 := s5 _ _ hr3
                have usl := cs5.1
                have tw := flat_le (twoC o) 2 (hs.take j) fun _ _ => Nat.le_refl _
                rw [List.length_take] at tw
                rw [List.length_append, List.length_append, List.length_map] at usl
                refine ⟨_, rfl, _, rfl, _, rfl, threeL, fun t1 nt1 => ?_⟩
                have sa := Same.new (o := HO.tup [.str (Str.ofString "open"), .ref r, .ref q]) nt1
                refine ⟨_, rfl, _, rfl, threeL, fun t2 nt2 => ?_⟩
                have sb := Same.new (o := HO.tup [.str (Str.ofString "doomed"), .ref r, .ref q]) nt2
                refine ⟨by show 2 ≤ sizeLine; decide, fun z nz => ?_⟩
                have sz := Same.new (o := HO.lst [.ref t1, .ref t2]) nz
                have sab := sa.trans sb
                have sabz := sab.trans sz
                have ca : CaseAt (upd G' t1 (.tup [.str (Str.ofString "open"), .ref r, .ref q])) t1 ⟨sO, o, hh⟩ := ⟨r, q, upd_same, sa _ _ hr5, sa _ _ hq5⟩
                have cb : CaseAt (upd (upd G' t1 (.tup [.str (Str.ofString "open"), .ref r, .ref q])) t2 (.tup [.str (Str.ofString "doomed"), .ref r, .ref q])) t2 ⟨sD, o, hh⟩ := ⟨r, q, upd_same, sab _ _ hr5, sab _ _ hq5⟩
                refine ⟨Fo, z, _, _, rfl, rfl, sabz _ _ hF5, upd_same, Nat.le_of_lt (small1000 (by rw [List.length_map]; show us.length + 2 ≤ 1000; omega)), fun F2 nF2 => ?_⟩
                have sF := sabz.trans (Same.new (o := HO.lst (us.map V.ref ++ [.ref t1, .ref t2])) nF2)
                have szF := sz.trans (Same.new (o := HO.lst (us.map V.ref ++ [.ref t1, .ref t2])) nF2)
                refine ⟨F2, some (.ref q), us ++ [t1, t2], rfl, s5.trans sF, ?_, ?_⟩
                · rw [upd_same, List.map_append]
                  rfl
                · rw [List.take_add_one, eh, List.flatMap_append, ← List.append_assoc]
                  have e2 : (Option.some hh).toList.flatMap (twoC o) = [⟨sO, o, hh⟩] ++ [⟨sD, o, hh⟩] := rfl
                  rw [e2]
                  exact (cs5.same sF).append ((Cases.one ((ca.same sb).same szF)).append (Cases.one (cb.same szF)))
            · obtain ⟨Fo, o4, us, rfl, s5, hF5, cs5⟩ := e
              rw [List.length_map, ssl, List.take_length] at cs5
              refine ⟨Fo, _, _, us, rfl, (s2.trans s3).trans s5, hF5, ?_⟩
              rw [List.take_add_one, eo, List.flatMap_append, ← List.append_assoc]
              have e3 : (Option.some o).toList.flatMap (rowL ns) = rowL ns o := List.append_nil _
              rw [e3]
              exact cs5
      · obtain ⟨Fo, o3, o4, us, rfl, s2, hF, cs2⟩ := e
        rw [List.length_map, rl, List.take_length] at cs2
        refine ⟨_, rfl, Fo, us, _, rfl, hF, cs2, Nat.le_trans (dueL_len n4) (by decide), fun l3 us3 nl cu => ?_⟩
        have s3 := s01.trans s2
        exact k _ l3 us3 ns (s3.trans (Same.new nl)) (s3.free nl) upd_same (cu.same (Same.new nl)) perm so
end
end IC
namespace IC
open PySem L2 TL
/-- entry_cases by its name, for all the ways it is called in -/
structure EcD (P : Program) (w : World) (K : PySem.W.Frag) (mg : Str → Option Value) (base : Heap) : Prop where
  ex : ∃ (f : Addr) (fd : FuncData), FnOk P w K mg base CX0 2 f fd ["records", "silent"] spEC ∧ mg "entry_cases" = some (.ref f) ∧ PySem.W.keepIn K (.ref f) = true ∧
    (∃ ds, Vals [V.bl false] ds ∧ Binds K fd ["records", "silent"] ds) ∧ KBn K fd ["records", "silent"] 1 ["silent"] (fun us ws => us ++ ws) (fun vs zs => vs ++ zs) ∧ KBn K fd ["records", "silent"] 0 ["records", "silent"] (fun us ws => us ++ ws) (fun vs zs => vs ++ zs)
theorem ecd_mk {P : Program} {w : World} {K : PySem.W.Frag} {mg : Str → Option Value} {base : Heap} {f : Addr} {fd : FuncData} (F : FunD K "entry_cases" "entry_cases" (defArgs s_entry_cases) (defBody s_entry_cases) (defScope s_entry_cases) [] [("silent", .bl false)] f fd)
    (ok : FnOk P w K mg base CX0 2 f fd ["records", "silent"] spEC) (hm : mg "entry_cases" = some (.ref f)) : EcD P w K mg base := by
  obtain ⟨ds, vd, bd⟩ := F.binds0 (ps := ["records", "silent"]) 1 (by simp) rfl (fun D doc pm an cdv ct us ks h1 h2 => match us, ks, h1, h2 with | [_], [_], _, _ => ⟨_, _, _, _, _, _, rfl, rfl, rfl⟩)
  obtain ⟨m1, b1⟩ := F.kbinds0 (ps := ["records", "silent"]) 1 ["silent"] [] (fun us _ ws => us ++ ws) (by simp) (by simp) (fun r1 _ r2 => r1.append r2) (fun D doc pm an cdv ct us mv ws h1 h2 h3 => match us, mv, ws, h1, h2, h3 with | [_], [], [_], _, _, _ => rfl)
  obtain ⟨m0, b0⟩ := F.kbinds0 (ps := ["records", "silent"]) 0 ["records", "silent"] [] (fun us _ ws => us ++ ws) (by simp) (by simp) (fun r1 _ r2 => r1.append r2) (fun D doc pm an cdv ct us mv ws h1 h2 h3 => match us, mv, ws, h1, h2, h3 with | [], [], [_, _], _, _, _ => rfl)
  exact ⟨f, fd, ok, hm, F.kp, ⟨ds, vd, bd⟩, b1, b0⟩
section
variable {X : Cx} {j : Nat} {p pos : Pos} {e : Expr} {t tk : TA} {kws : List Keyword}
theorem pe_ec1 (D : EcD X.prog X.w X.K X.mg X.base) (hr : Room j X.A) (hk : 2 ≤ j) (hg : Gl X "entry_cases") (ha : PA X [e] t) (he : starEach [e] X.env = (false, eval e X.env) :: starEach [] X.env := by rfl) (hpl : (backTo pos (starEach [] X.env)).any (·.1) = false := by rfl) :
    PE X (.Call (.Name "entry_cases" p) [e] [] pos) (tCall spEC [.bl false] E0 t) := by
  obtain ⟨f, fd, F, hm, hkp, ⟨ds, vd, bd⟩, _⟩ := D.ex
  exact pe_call F (hr.mono hk) hg hm hkp bd vd pass0 ha (by decide) he hpl
theorem pe_ec2 (D : EcD X.prog X.w X.K X.mg X.base) (hr : Room j X.A) (hk : 2 ≤ j) (hg : Gl X "entry_cases") (ha : PA X [e] t) (hkw : PK X kws tk) (hall : (backToKw pos (keywordEach kws X.env)).all (·.1.isSome) = true := by rfl) (hks : (backToKw pos (keywordEach kws X.env)).filterMap (·.1) = ([("silent" : Str)] : List Str) := by rfl)
    (he : starEach [e] X.env = (false, eval e X.env) :: starEach [] X.env := by rfl) (hpl : ((backTo pos (starEach [e] X.env)).any (·.1) || (backToKw pos (keywordEach kws X.env)).any (·.1.isNone)) = false := by rfl) :
    PE X (.Call (.Name "entry_cases" p) [e] kws pos) (tCallN 1 1 spEC (fun vs zs => vs ++ zs) E0 t tk) := by
  obtain ⟨f, fd, F, hm, hkp, _, b1, _⟩ := D.ex
  exact pe_callN (E := E0) (t := t) (tk := tk) F (hr.mono hk) hg hm hkp b1 pass0 ha hkw hall hks (by decide) he hpl
theorem pe_ec0 (D : EcD X.prog X.w X.K X.mg X.base) (hr : Room j X.A) (hk : 2 ≤ j) (hg : Gl X "entry_cases") (hkw : PK X kws tk) (hall : (backToKw pos (keywordEach kws X.env)).all (·.1.isSome) = true := by rfl) (hks : (backToKw pos (keywordEach kws X.env)).filterMap (·.1) = ([("records" : Str), ("silent" : Str)] : List Str) := by rfl)
    (hpl : ((backTo pos (starEach [] X.env)).any (·.1) || (backToKw pos (keywordEach kws X.env)).any (·.1.isNone)) = false := by rfl) :
    PE X (.Call (.Name "entry_cases" p) [] kws pos) (tCallN 0 2 spEC (fun vs zs => vs ++ zs) E0 tNil tk) := by
  obtain ⟨f, fd, F, hm, hkp, _, _, b0⟩ := D.ex
  refine ⟨fun pins s σ H Q I h => wpAny_Call_Name_kw (ld_glob I hg hm ?_ (by decide))⟩
  refine PySem.W.callWith_KW0 (h₀ := X.base) I.ok.mod.kin hkp hall ?_ hpl
  refine thn (hkw.run pos pins s σ H _ I h) fun ws s2 ⟨zs, H2, I2, rz, l1, l2, q2⟩ => ⟨I2.kIn, ?_⟩
  rw [hks]
  exact run_fnN (us := []) (vs := []) F (hr.mono hk) b0 pass0 I2 .nil rz rfl l2 q2
end
/-! the cases of silent callers -/
def few3 : List CaseT := [⟨sD, [], []⟩, ⟨sN, [], []⟩, ⟨sO, [], []⟩]
theorem few_sorted : (dueP []).mergeSort leC = few3 := by
  have e : dueP [] = [⟨sN, [], []⟩, ⟨sO, [], []⟩, ⟨sD, [], []⟩] := rfl
  have p : (dueP []).Perm few3 := by
    rw [e]
    exact ((List.Perm.swap _ _ _).cons _).trans (List.Perm.swap _ _ _)
  rw [sort_perm p]
  refine List.mergeSort_of_pairwise ?_
  refine List.pairwise_cons.mpr ⟨fun x hx => ?_, List.pairwise_cons.mpr ⟨fun x hx => ?_, List.pairwise_singleton _ _⟩⟩
  · rcases List.mem_cons.mp hx with rfl | hx
    · decide +kernel
    · rw [List.mem_singleton.mp hx]
      decide +kernel
  · rw [List.mem_singleton.mp hx]
    decide +kernel
end IC
namespace IC
open PySem L2 TL
theorem okT_of {zs : List Str} (h : ∀ z ∈ zs, Wd z) : okT zs := fun z hz c hc => ((h z hz).2 c hc).ok
theorem sorts_same {zs ns ms : List Str} (p1 : ns.Perm zs) (s1 : PyProof.Rows.sortedS ns = true) (p2 : ms.Perm zs) (s2 : PyProof.Rows.sortedS ms = true) : (dueP ms).mergeSort leC = (dueL ns).mergeSort leC := by
  rw [sorted_one (p2.trans p1.symm) s2 s1]
  exact sort_perm (due_perm ns)
theorem shaped_due {zs ns : List Str} (ok : okT zs) (p : ns.Perm zs) : SeqAt.shaped (.list (((dueL ns).mergeSort leC).map encC)) = true := shaped_cases fun c hc => by
  have h1 : c ∈ dueP ns := (due_perm ns).mem_iff.mpr ((List.mergeSort_perm _ _).mem_iff.mp hc)
  obtain ⟨w1, w2, w3⟩ := due_words h1
  refine ⟨fun z hz => ?_, fun z hz => ok z (p.mem_iff.mp (w2 z hz)), fun z hz => ok z (p.mem_iff.mp (w3 z hz))⟩
  rw [List.mem_singleton.mp hz]
  have all : ∀ s : Str, s = sN ∨ s = sO ∨ s = sD → ∀ c ∈ tl s, Okc c := by
    rintro s (rfl | rfl | rfl) <;> (unfold Okc; decide +kernel)
  exact all c.st w1
theorem shaped_few : SeqAt.shaped (.list (few3.map encC)) = true := by decide +kernel
section
variable {P : Program} {w : World} {K : PySem.W.Frag} {mg : Str → Option Value} {base : Heap} {C : Addr}
theorem ok_law49 {f : Addr} {fd : FuncData} (F : Fun K "law" "law" s_law f fd) (T : Bn mg) (D_law_bag : Df P w K mg base 1 "_law_bag" ["script", "at"] (spPool K)) (D_law_draw : Df P w K mg base 1 "_law_draw" ["bag", "many"] spDraw) (D_law_of : Df P w K mg base 2 "_law_of" ["bag", "some"] spOf)
    (D_law_names : Df P w K mg base 2 "_law_names" ["bag", "many"] spNames) (D_law_due : Df P w K mg base 2 "_law_due" ["marks"] spDue) (E_c : EcD P w K mg base) : FnOk P w K mg base CX0 6 f fd ["script"] (spLaw K) := by
  refine F.ok sc_law (fun vs H Q E h => ?_) (fun cdv A outer s H vs Q E hr h => ?_)
  · obtain ⟨a, ns, rfl, _⟩ := h
    rfl
  · obtain ⟨a, ns, rfl, hS, hlen, k⟩ := h
    refine ⟨_, (pss_cons (ps_for PassesOwn.never rfl (pi_range1 rfl T.range (pa_cons (pe_callB (call_max2 rfl) (by rfl) T.max PyProof.Rows.boot_max (pa_cons pe_int (pa_cons (pe_callB (call_min2 rfl) (by rfl) T.min PyProof.Rows.boot_min (pa_cons pe_int (pa_cons (pe_callB call_len_seq (by rfl) T.len PySem.boot_len (pa_cons (pv 0) pa_nil)) pa_nil))) pa_nil))) pa_nil)) (pg_name (i := 1) sc_law.nd rfl (Or.inl rfl))
  (pss_cons (ps_set (i := 2) sc_law.nd rfl (Or.inl rfl) (pe_df D_law_bag hr (by decide) rfl (pa_cons (pv 0) (pa_cons (pv 1) pa_nil))))
  (pss_cons (ps_set (i := 3) sc_law.nd rfl (Or.inl rfl) (pe_df D_law_names hr (by decide) rfl (pa_cons (pv 2) (pa_cons (pe_df D_law_of hr (by decide) rfl (pa_cons (pv 2) (pa_cons (pe_lst (pa_cons pe_int (pa_cons pe_int (pa_cons pe_int (pa_cons pe_int (pa_cons pe_int (pa_cons pe_int (pa_cons pe_int pa_nil)))))))) pa_nil))) pa_nil))))
  (Evl.pss_cut (ps_if (pt_cmpR op_eq (pe_df D_law_draw hr (by decide) rfl (pa_cons (pv 2) (pa_cons pe_int pa_nil))) pe_int (nomark _))
  (pss_one (ps_expr (pe_bm0 PySem.F.plainAttrs_list PySem.F.slot_list_reverse PySem.F.type_list_reverse mt_reverse (pv 3))))
  pss_nil)
  (pss_cons (ps_par (i := 4) (j := 5) (by rfl) sc_law.nd rfl rfl (by decide) rfl rfl (pa_cons (pe_callTy call_list_of (by rfl) T.list (by decide +kernel) (pa_cons (pv 3) pa_nil)) (pa_cons (pe_df D_law_due hr (by decide) rfl (pa_cons (pv 3) pa_nil)) pa_nil)) (by rfl))
  (pss_cons (ps_par (i := 6) (j := 7) (by rfl) sc_law.nd rfl rfl (by decide) rfl rfl (pa_cons (pe_ec1 E_c hr (by decide) rfl (pa_cons (pv 4) pa_nil)) (pa_cons (pe_ec0 E_c hr (by decide) rfl (pk_cons (pv 4) (pk_cons pe_bl pk_nil))) pa_nil)) (by rfl))
  (pss_cons (ps_if (PW.pt (pw_or (pt_not (pt_val (pe_callB call_isi (by rfl) T.isi PyProof.Rows.boot_isinstance (pa_cons (pv 6) (pa_cons (pe_bltn (v := .ty "list") (by rfl) T.list (by decide +kernel) rfl) pa_nil))))) (pw_or (pt_cmpR (op_neD hr.units) (pv 6) (pv 5) (nomark _)) (pw_or (pt_cmpR (op_neD hr.units) (pe_ec2 E_c hr (by decide) rfl (pa_cons (pv 4) pa_nil) (pk_cons pe_bl pk_nil)) (pv 5) (nomark _)) (pw_or1 (pt_cmpR (op_neD hr.units) (pv 4) (pv 3) (nomark _)))))))
  (pss_one (ps_ret pe_bl))
  pss_nil)
  (pss_cons (ps_if (PW.pt (pw_or (pt_not (pt_val (pe_callB call_isi (by rfl) T.isi PyProof.Rows.boot_isinstance (pa_cons (pv 7) (pa_cons (pe_bltn (v := .ty "list") (by rfl) T.list (by decide +kernel) rfl) pa_nil))))) (pw_or1 (pt_cmpR (op_neD hr.units) (pv 7) (pe_lst (pa_cons (pe_tup (pa_cons pe_str (pa_cons (pe_tup pa_nil) (pa_cons (pe_tup pa_nil) pa_nil)))) (pa_cons (pe_tup (pa_cons pe_str (pa_cons (pe_tup pa_nil) (pa_cons (pe_tup pa_nil) pa_nil)))) (pa_cons (pe_tup (pa_cons pe_str (pa_cons (pe_tup pa_nil) (pa_cons (pe_tup pa_nil) pa_nil)))) pa_nil)))) (nomark _)))))
  (pss_one (ps_ret pe_bl))
  pss_nil)
  (pss_cons (ps_expr (pe_bm0 PySem.F.plainAttrs_list PySem.F.slot_list_clear PySem.F.type_list_clear mt_clear (pv 6)))
  (pss_cons (ps_expr (pe_bm PySem.F.plainAttrs_list PySem.F.slot_list_append PySem.F.type_list_append mt_append (pv 7) (pa_cons (pe_tup (pa_cons pe_str (pa_cons (pe_tup pa_nil) (pa_cons (pe_tup pa_nil) pa_nil)))) pa_nil)))
  (pss_one (ps_if (PW.pt (pw_or (pt_cmpR (op_neD hr.units) (pe_ec1 E_c hr (by decide) rfl (pa_cons (pv 4) pa_nil)) (pv 5) (nomark _)) (pw_or (pt_cmpR op_ne (pe_callB call_len_seq (by rfl) T.len PySem.boot_len (pa_cons (pe_ec2 E_c hr (by decide) rfl (pa_cons (pv 4) pa_nil) (pk_cons pe_bl pk_nil)) pa_nil)) pe_int (nomark _)) (pw_or1 (pt_cmpR (op_neD hr.units) (pv 4) (pv 3) (nomark _))))))
  (pss_one (ps_ret pe_bl))
  pss_nil))))))))))))
  (pss_one (ps_ret pe_bl))), ?_⟩
    have hlm : (ns.map V.int).length = ns.length := List.length_map ..
    obtain ⟨N, hN, hN2⟩ : ∃ N : Int, N = (if (if ((ns.map V.int).length : Int) < 4 then ((ns.map V.int).length : Int) else 4) > 1 then (if ((ns.map V.int).length : Int) < 4 then ((ns.map V.int).length : Int) else 4) else 1) ∧ 0 ≤ N ∧ N ≤ 4 := by
      refine ⟨_, rfl, ?_, ?_⟩ <;> (repeat' split) <;> omega
    refine ⟨_, rfl, a, _, rfl, .inl hS, _, _, rfl, _, _, rfl, N, (by rw [hN]), by omega, by omega, for_range (lo := 0) (n := N.toNat) (fun i σ H1 => ∃ v1 v2 v3 v4 v5 v6 v7, σ = [some (.ref a), v1, v2, v3, v4, v5, v6, v7] ∧ Same H H1) ⟨_, _, _, _, _, _, _, rfl, fun _ _ e => e⟩ ?_ ?_⟩
    · rintro i σ H1 hi ⟨v1, v2, v3, v4, v5, v6, v7, rfl, s1⟩
      refine ⟨_, rfl, _, rfl, a, ns, i, (by rw [Int.zero_add]; rfl), s1.seq hS, by omega, fun p o hp hp1 => ?_⟩
      have hp0 : H p = none := s1.free hp
      have sp1 : Same H (upd H1 p o) := s1.trans (Same.new hp)
      refine ⟨_, rfl, _, rfl, by show 7 ≤ sizeLine; decide, fun l nl => ?_⟩
      have lp : l ≠ p := (none_of nl).1.symm
      have sl := Same.new (o := HO.lst [.int 0, .int 1, .int 1, .int 2, .int 2, .int 3, .int 4]) nl
      refine ⟨p, l, 0, [0, 1, 1, 2, 2, 3, 4], rfl, hp1.mv fun u q => sl _ _ q, by decide, upd_same, lp, by decide, by decide, fun m o2 hm hp2 => ?_⟩
      have m4 : 0 ≤ m ∧ m ≤ 4 := by
        have all : ∀ m ∈ [(0 : Int), 1, 1, 2, 2, 3, 4], 0 ≤ m ∧ m ≤ 4 := by decide
        exact all m hm
      refine ⟨p, m, _, rfl, hp2, by decide, m4.1, m4.2, fun M zs G lz okz hM hp3 k3 fM => ?_⟩
      have sG : Same H G := Same.kp (sp1.trans sl) ((Kp.at_ (by simp)).trans k3) hp0
      have Mp : M ≠ p := by
        obtain ⟨xa, xb, xc, hx, _⟩ := hp2
        exact (ne_of_none hx fM).symm
      have fM0 : H M = none := by
        cases hh : H M with
        | none => rfl
        | some u =>
          have q := (sp1.trans sl) _ _ hh
          rw [upd_ne Mp, q] at fM
          cases fM
      refine ⟨fun σ' G' => ∃ zs' : List Str, σ' = [some (.ref a), some (.int (0 + (i : Int))), some (.ref p), some (.ref M), v4, v5, v6, v7] ∧ Same H G' ∧ G' M = some (.lst (zs'.map V.str)) ∧ zs'.length ≤ 4 ∧ (∀ z ∈ zs', Wd z), ?_, ?_⟩
      · refine ⟨_, rfl, p, 2, _, rfl, hp3, by decide, by decide, by decide, fun d o3 d0 d2 hp4 => ?_⟩
        have kp4 : Kp [p] G (upd G p o3) := Kp.at_ (by simp)
        have hM4 := kp4 M _ hM fun h => Mp (List.mem_singleton.mp h)
        have sG4 := Same.kp sG kp4 hp0
        refine ⟨rfl, _, rfl, ?_⟩
        refine ite2 (fun _ => ?_) (fun _ => ⟨zs, rfl, sG4, hM4, lz, okz⟩)
        refine ⟨_, rfl, .inl ⟨rfl, _, SqL.of hM4⟩, M, _, rfl, rfl, hM4, ?_⟩
        exact ⟨zs.reverse, rfl, Same.kp sG4 (Kp.at_ (by simp)) fM0, by rw [upd_same, List.map_reverse], by rw [List.length_reverse]; exact lz, fun z hz => okz z (List.mem_reverse.mp hz)⟩
      · rintro σ' G1 ⟨zs, rfl, sG1, hM, lz, okz⟩
        have okt := okT_of okz
        refine ⟨_, rfl, M, _, rfl, .inl (SqL.of hM), fun g ng => ?_⟩
        have sg := Same.new (o := HO.lst (zs.map V.str)) ng
        refine ⟨_, rfl, M, zs, rfl, sg _ _ hM, lz, okt, fun G2 d ts ms s2 fd hd cd perm so => ?_⟩
        have sg2 := sg.trans s2
        have hM2 := sg2 _ _ hM
        have hg2 := s2 _ _ (upd_same (H := G1) (a := g) (o := HO.lst (zs.map V.str)))
        refine ⟨_, _, rfl, ?_⟩
        refine ⟨_, rfl, g, false, zs, rfl, hg2, lz, fun G3 t us ns2 s3 ft ht ct cond => ?_⟩
        obtain ⟨perm2, so2⟩ : ns2.Perm zs ∧ PyProof.Rows.sortedS ns2 = true := by simpa using cond
        rw [sorts_same perm so perm2 so2] at ct
        have hg3 := s3 _ _ hg2
        refine ⟨_, rfl, rfl, rfl, g, true, zs, rfl, hg3, lz, fun G4 fw us2 ns3 s4 ff hf cf cond2 => ?_⟩
        have e3 : ns3 = [] := by simpa using cond2
        subst e3
        rw [few_sorted] at cf
        refine ⟨_, _, rfl, ?_⟩
        have s34 := s3.trans s4
        have ht4 := s4 _ _ ht
        have hd4 := s34 _ _ hd
        have hg4 := s34 _ _ hg2
        have hM4 := s34 _ _ hM2
        have ct4 := ct.same s4
        have cd4 := cd.same s34
        have sh := shaped_due okt perm
        have shz : SeqAt.shaped (.list (zs.map PyData.str)) = true := shaped_strs zs okt
        have dpL : ∀ {G : Hp} {x : Addr} {ys : List Addr} {cs : List CaseT}, G x = some (.lst (ys.map V.ref)) → Cases G ys cs → Dp K G (.ref x) (.list (cs.map encC)) := fun h c => .lst (SqL.of h) (dp_cases c)
        have dpZ : ∀ {G : Hp} {x : Addr}, G x = some (.lst (zs.map V.str)) → Dp K G (.ref x) (.list (zs.map PyData.str)) := fun h => .lst (SqL.of h) (dpAll_strs _)
        have noteq : ∀ cs : List CaseT, (!PyData.eqv (.list (cs.map encC)) (.list (cs.map encC))) = false := fun cs => by
          rw [eqv_same]
          rfl
        refine ⟨_, rfl, .ref t, .ty "list", .type "list", .type "list", true, rfl, .ty _, .base (.lst ht4), rfl, _, rfl, iteF ?_⟩
        refine ⟨_, rfl, _, rfl, _, _, dpL ht4 ct4, dpL hd4 cd4, sh, sh, ?_⟩
        rw [noteq]
        refine ⟨_, rfl, iteF ?_⟩
        refine ⟨_, rfl, rfl, rfl, g, false, zs, rfl, hg4, lz, fun G5 t2 us3 ns4 s5 ft2 ht2 ct2 cond3 => ?_⟩
        obtain ⟨perm4, so4⟩ : ns4.Perm zs ∧ PyProof.Rows.sortedS ns4 = true := by simpa using cond3
        rw [sorts_same perm so perm4 so4] at ct2
        refine ⟨_, rfl, _, _, dpL ht2 ct2, dpL (s5 _ _ hd4) (cd4.same s5), sh, sh, ?_⟩
        rw [noteq]
        refine ⟨_, rfl, iteF ?_⟩
        have hg5 := s5 _ _ hg4
        have hM5 := s5 _ _ hM4
        refine ⟨_, rfl, _, rfl, _, _, dpZ hg5, dpZ hM5, shz, shz, ?_⟩
        rw [eqv_lists, decide_eq_true rfl]
        refine ⟨_, rfl, iteF ?_⟩
        -- few
        have hf5 := s5 _ _ hf
        have cf5 := cf.same s5
        refine ⟨_, rfl, .ref fw, .ty "list", .type "list", .type "list", true, rfl, .ty _, .base (.lst hf5), rfl, _, rfl, iteF ?_⟩
        have threeL : ∀ {a b c : V}, [a, b, c].length ≤ sizeLine := by
          intro a b c
          show 3 ≤ sizeLine
          decide
        refine ⟨_, rfl, Nat.zero_le _, fun x1 nx1 => ⟨Nat.zero_le _, fun x2 nx2 => ⟨threeL, fun x3 nx3 => ?_⟩⟩⟩
        have a1 := Same.new (o := HO.tup []) nx1
        have a2 := Same.new (o := HO.tup []) nx2
        have a3 := Same.new (o := HO.tup [.str (Str.ofString "doomed"), .ref x1, .ref x2]) nx3
        refine ⟨Nat.zero_le _, fun y1 ny1 => ⟨Nat.zero_le _, fun y2 ny2 => ⟨threeL, fun y3 ny3 => ?_⟩⟩⟩
        have b1 := Same.new (o := HO.tup []) ny1
        have b2 := Same.new (o := HO.tup []) ny2
        have b3 := Same.new (o := HO.tup [.str (Str.ofString "none"), .ref y1, .ref y2]) ny3
        refine ⟨Nat.zero_le _, fun z1 nz1 => ⟨Nat.zero_le _, fun z2 nz2 => ⟨threeL, fun z3 nz3 => ?_⟩⟩⟩
        have c1 := Same.new (o := HO.tup []) nz1
        have c2 := Same.new (o := HO.tup []) nz2
        have c3 := Same.new (o := HO.tup [.str (Str.ofString "open"), .ref z1, .ref z2]) nz3
        refine ⟨threeL, fun L nL => ?_⟩
        have d1 := Same.new (o := HO.lst [.ref x3, .ref y3, .ref z3]) nL
        have sa := (a1.trans a2).trans a3
        have sb := (b1.trans b2).trans b3
        have sc := (c1.trans c2).trans c3
        have sall := ((sa.trans sb).trans sc).trans d1
        have cL : Cases _ [x3, y3, z3] few3 := (Cases.one (c := ⟨sD, [], []⟩) ⟨x1, x2, ((sb.trans sc).trans d1) _ _ upd_same, (((a2.trans a3).trans (sb.trans sc)).trans d1) _ _ upd_same, ((a3.trans (sb.trans sc)).trans d1) _ _ upd_same⟩).append
          ((Cases.one (c := ⟨sN, [], []⟩) ⟨y1, y2, (sc.trans d1) _ _ upd_same, (((b2.trans b3).trans sc).trans d1) _ _ upd_same, ((b3.trans sc).trans d1) _ _ upd_same⟩).append
            (Cases.one (c := ⟨sO, [], []⟩) ⟨z1, z2, d1 _ _ upd_same, ((c2.trans c3).trans d1) _ _ upd_same, (c3.trans d1) _ _ upd_same⟩))
        refine ⟨_, _, dpL (sall _ _ hf5) (cf5.same sall), dpL (x := L) (ys := [x3, y3, z3]) upd_same cL, shaped_few, shaped_few, ?_⟩
        rw [noteq]
        refine ⟨_, rfl, iteF ?_⟩
        -- what is told is changed, and asked again
        have sX := s5.trans sall
        have htX := sX _ _ ht4
        have hfX := sX _ _ hf
        have hdX := sX _ _ hd4
        have hgX := sX _ _ hg4
        have hMX := sX _ _ hM4
        have cdX := cd4.same sX
        have sHX : Same H _ := sG1.trans ((sg2.trans s34).trans sX)
        have gt : g ≠ t := ne_of_none hg2 ft
        have dt : d ≠ t := ne_of_none hd ft
        have Mt : M ≠ t := ne_of_none hM2 ft
        have gf : g ≠ fw := ne_of_none hg3 ff
        have df : d ≠ fw := ne_of_none (s3 _ _ hd) ff
        have Mf : M ≠ fw := ne_of_none (s3 _ _ hM2) ff
        have tf : t ≠ fw := ne_of_none ht ff
        have t0 : H t = none := (sG1.trans sg2).free ft
        have f0 : H fw = none := (sG1.trans (sg2.trans s3)).free ff
        generalize upd _ L (.lst [.ref x3, .ref y3, .ref z3]) = GX at htX hfX hdX hgX hMX cdX sHX ⊢
        refine ⟨_, rfl, .inl ⟨rfl, _, SqL.of htX⟩, t, _, rfl, rfl, htX, ?_⟩
        have up : ∀ {x : Addr} {o o' : HO}, x ≠ t → GX x = some o → upd GX t o' x = some o := fun ne h => by
          rw [upd_ne ne]
          exact h
        have cdY := cdX.atL (o := .lst []) htX
        have hfY : upd GX t (.lst []) fw = some (.lst (us2.map V.ref)) := up tf.symm hfX
        have hdY : upd GX t (.lst []) d = some (.lst (ts.map V.ref)) := up dt hdX
        have hgY : upd GX t (.lst []) g = some (.lst (zs.map V.str)) := up gt hgX
        have hMY : upd GX t (.lst []) M = some (.lst (zs.map V.str)) := up Mt hMX
        have sHY : Same H (upd GX t (.lst [])) := Same.kp sHX (Kp.at_ (by simp)) t0
        generalize upd GX t (.lst []) = GY at hfY hdY hgY hMY cdY sHY ⊢
        refine ⟨_, rfl, .inl ⟨rfl, _, SqL.of hfY⟩, Nat.zero_le _, fun e1 ne1 => ⟨Nat.zero_le _, fun e2 ne2 => ⟨threeL, fun e3 ne3 => ?_⟩⟩⟩
        have f1 := Same.new (o := HO.tup []) ne1
        have f2 := Same.new (o := HO.tup []) ne2
        have f3 := Same.new (o := HO.tup [.str (Str.ofString "none"), .ref e1, .ref e2]) ne3
        have f123 := (f1.trans f2).trans f3
        have hfZ := f123 _ _ hfY
        have lf : us2.length = 3 := cf.1
        refine ⟨fw, _, .ref e3, rfl, rfl, hfZ, small1000 (by rw [List.length_map, lf]; decide), ?_⟩
        have cdZ := (cdY.same f123).atL (o := .lst (us2.map V.ref ++ [.ref e3])) hfZ
        have upf : ∀ {x : Addr} {o o' : HO} {G : Hp}, x ≠ fw → G x = some o → upd G fw o' x = some o := fun ne h => by
          rw [upd_ne ne]
          exact h
        have hdZ := upf (o' := .lst (us2.map V.ref ++ [.ref e3])) df (f123 _ _ hdY)
        have hgZ := upf (o' := .lst (us2.map V.ref ++ [.ref e3])) gf (f123 _ _ hgY)
        have hMZ := upf (o' := .lst (us2.map V.ref ++ [.ref e3])) Mf (f123 _ _ hMY)
        have sHZ := Same.kp (sHY.trans f123) (Kp.at_ (o := .lst (us2.map V.ref ++ [.ref e3])) (l := [fw]) (p := fw) (by simp)) f0
        generalize upd _ fw (.lst (us2.map V.ref ++ [.ref e3])) = GZ at cdZ hdZ hgZ hMZ sHZ ⊢
        refine ⟨_, rfl, g, false, zs, rfl, hgZ, lz, fun G6 t3 us6 ns6 s6 ft6 ht6 ct6 cond6 => ?_⟩
        obtain ⟨perm6, so6⟩ : ns6.Perm zs ∧ PyProof.Rows.sortedS ns6 = true := by simpa using cond6
        rw [sorts_same perm so perm6 so6] at ct6
        refine ⟨_, rfl, _, _, dpL ht6 ct6, dpL (s6 _ _ hdZ) (cdZ.same s6), sh, sh, ?_⟩
        rw [noteq]
        refine ⟨_, rfl, iteF ?_⟩
        have hg6 := s6 _ _ hgZ
        refine ⟨_, rfl, rfl, rfl, g, true, zs, rfl, hg6, lz, fun G7 fv us7 ns7 s7 ff7 hf7 cf7 cond7 => ?_⟩
        have e7 : ns7 = [] := by simpa using cond7
        subst e7
        rw [few_sorted] at cf7
        have l7 : ((us7.map V.ref).length : Int) = 3 := by
          rw [List.length_map, cf7.1]
          rfl
        refine ⟨fv, _, rfl, .inl (SqL.of hf7), rfl, ?_⟩
        rw [l7, decide_eq_true rfl]
        refine ⟨_, rfl, iteF ?_⟩
        have hg7 := s7 _ _ hg6
        have hM7 := (s6.trans s7) _ _ hMZ
        refine ⟨_, rfl, _, rfl, _, _, dpZ hg7, dpZ hM7, shz, shz, ?_⟩
        rw [eqv_lists, decide_eq_true rfl]
        exact ⟨_, rfl, iteF ⟨_, _, _, _, _, _, _, rfl, (sHZ.trans s6).trans s7⟩⟩
    · rintro σ H1 ⟨v1, v2, v3, v4, v5, v6, v7, rfl, s1⟩
      exact k _
end
end IC
namespace IC
open PySem L2 TL
theorem all_mk {l : PySem.W.OpenLaw} {w : World} {K : PySem.W.Frag} {h : Heap} {mg : Str → Option Value} {fa f0 f1 f2 f3 f4 f5 f6 f7 f8 : Addr} (X : K.In h) (G : h.Ns mainGlobals mg) (hfa : mg "law" = some (.ref fa))
    {od0 an0 od1 an1 od2 an2 od3 an3 od4 an4 od5 an5 od6 an6 od7 an7 od8 an8 : Option Addr} {sl0 sl1 sl2 sl3 sl4 sl5 sl6 sl7 sl8 : Array (Option Value)} {oc0 kV0 dc0 pm0 cd0 ct0 oc1 kV1 dc1 pm1 cd1 ct1 oc2 kV2 dc2 pm2 cd2 ct2 oc3 kV3 dc3 pm3 cd3 ct3 oc4 kV4 dc4 pm4 cd4 ct4 oc5 dc5 pm5 cd5 ct5 oc6 kV6 dc6 pm6 cd6 ct6 oc7 kV7 dc7 pm7 cd7 ct7 oc8 kV8 dc8 pm8 cd8 ct8 : Value} {KE : Addr}
    (a0 : PySem.W.nsIn K mainGlobals "_law_draw" = some (some (.ref f0))) (l0 : K.lookup f0 = some ⟨oc0, od0, .func (PySem.W.fnOf "_law_draw" "_law_draw" (defArgs s_law_draw) (defBody s_law_draw) (defScope s_law_draw) .none kV0 dc0 pm0 an0 cd0 ct0), sl0⟩) (c0 : PySem.W.codeIn K cd0 "_law_draw" = true) (k0 : PySem.W.keepIn K (.ref f0) = true)
    (a1 : PySem.W.nsIn K mainGlobals "_law_bag" = some (some (.ref f1))) (l1 : K.lookup f1 = some ⟨oc1, od1, .func (PySem.W.fnOf "_law_bag" "_law_bag" (defArgs s_law_bag) (defBody s_law_bag) (defScope s_law_bag) .none kV1 dc1 pm1 an1 cd1 ct1), sl1⟩) (c1 : PySem.W.codeIn K cd1 "_law_bag" = true) (k1 : PySem.W.keepIn K (.ref f1) = true)
    (a2 : PySem.W.nsIn K mainGlobals "_law_of" = some (some (.ref f2))) (l2 : K.lookup f2 = some ⟨oc2, od2, .func (PySem.W.fnOf "_law_of" "_law_of" (defArgs s_law_of) (defBody s_law_of) (defScope s_law_of) .none kV2 dc2 pm2 an2 cd2 ct2), sl2⟩) (c2 : PySem.W.codeIn K cd2 "_law_of" = true) (k2 : PySem.W.keepIn K (.ref f2) = true)
    (a3 : PySem.W.nsIn K mainGlobals "_law_names" = some (some (.ref f3))) (l3 : K.lookup f3 = some ⟨oc3, od3, .func (PySem.W.fnOf "_law_names" "_law_names" (defArgs s_law_names) (defBody s_law_names) (defScope s_law_names) .none kV3 dc3 pm3 an3 cd3 ct3), sl3⟩) (c3 : PySem.W.codeIn K cd3 "_law_names" = true) (k3 : PySem.W.keepIn K (.ref f3) = true)
    (a4 : PySem.W.nsIn K mainGlobals "subsets" = some (some (.ref f4))) (l4 : K.lookup f4 = some ⟨oc4, od4, .func (PySem.W.fnOf "subsets" "subsets" (defArgs s_subsets) (defBody s_subsets) (defScope s_subsets) .none kV4 dc4 pm4 an4 cd4 ct4), sl4⟩) (c4 : PySem.W.codeIn K cd4 "subsets" = true) (k4 : PySem.W.keepIn K (.ref f4) = true)
    (a5 : PySem.W.nsIn K mainGlobals "entry_cases" = some (some (.ref f5))) (l5 : K.lookup f5 = some ⟨oc5, od5, .func (PySem.W.fnOf "entry_cases" "entry_cases" (defArgs s_entry_cases) (defBody s_entry_cases) (defScope s_entry_cases) .none (.ref KE) dc5 pm5 an5 cd5 ct5), sl5⟩) (c5 : PySem.W.codeIn K cd5 "entry_cases" = true) (k5 : PySem.W.keepIn K (.ref f5) = true)
    (a6 : PySem.W.nsIn K mainGlobals "_law_subsets" = some (some (.ref f6))) (l6 : K.lookup f6 = some ⟨oc6, od6, .func (PySem.W.fnOf "_law_subsets" "_law_subsets" (defArgs s_law_subsets) (defBody s_law_subsets) (defScope s_law_subsets) .none kV6 dc6 pm6 an6 cd6 ct6), sl6⟩) (c6 : PySem.W.codeIn K cd6 "_law_subsets" = true) (k6 : PySem.W.keepIn K (.ref f6) = true)
    (a7 : PySem.W.nsIn K mainGlobals "_law_due" = some (some (.ref f7))) (l7 : K.lookup f7 = some ⟨oc7, od7, .func (PySem.W.fnOf "_law_due" "_law_due" (defArgs s_law_due) (defBody s_law_due) (defScope s_law_due) .none kV7 dc7 pm7 an7 cd7 ct7), sl7⟩) (c7 : PySem.W.codeIn K cd7 "_law_due" = true) (k7 : PySem.W.keepIn K (.ref f7) = true)
    (a8 : PySem.W.nsIn K mainGlobals "law" = some (some (.ref f8))) (l8 : K.lookup f8 = some ⟨oc8, od8, .func (PySem.W.fnOf "law" "law" (defArgs s_law) (defBody s_law) (defScope s_law) .none kV8 dc8 pm8 an8 cd8 ct8), sl8⟩) (c8 : PySem.W.codeIn K cd8 "law" = true) (k8 : PySem.W.keepIn K (.ref f8) = true)
    (z_int : PySem.W.nsIn K mainGlobals "int" = some none)
    (z_len : PySem.W.nsIn K mainGlobals "len" = some none)
    (z_abs : PySem.W.nsIn K mainGlobals "abs" = some none)
    (z_range : PySem.W.nsIn K mainGlobals "range" = some none)
    (z_max : PySem.W.nsIn K mainGlobals "max" = some none)
    (z_min : PySem.W.nsIn K mainGlobals "min" = some none)
    (z_isi : PySem.W.nsIn K mainGlobals "isinstance" = some none)
    (z_list : PySem.W.nsIn K mainGlobals "list" = some none)
    (z_sorted : PySem.W.nsIn K mainGlobals "sorted" = some none)
    (hKE : PySem.W.nsIn K KE "silent" = some (some (.bool false)))
    : ∃ fd : FuncData, (∀ (s : Shared) (v : Value), BindsTo s fd ⟨[v], []⟩ [("script", v)]) ∧ ∀ base : Heap, K.In base → base.Ns mainGlobals mg → FnOk l.prog w K mg base CX0 6 fa fd ["script"] (spLaw K) := by
  have e := hfa.symm.trans (PySem.W.mg_of X G a8)
  cases e
  have T : Bn mg := ⟨PySem.W.mg_none_of X G z_int, PySem.W.mg_none_of X G z_len, PySem.W.mg_none_of X G z_abs, PySem.W.mg_none_of X G z_range, PySem.W.mg_none_of X G z_max, PySem.W.mg_none_of X G z_min, PySem.W.mg_none_of X G z_isi, PySem.W.mg_none_of X G z_list, PySem.W.mg_none_of X G z_sorted⟩
  have F0 := fun_mk (st := s_law_draw) l0 c0 k0
  have b0 := F0.binds (ps := ["bag", "many"]) fun _ _ _ _ _ _ us hl => match us, hl with | [_, _], _ => rfl
  have F1 := fun_mk (st := s_law_bag) l1 c1 k1
  have b1 := F1.binds (ps := ["script", "at"]) fun _ _ _ _ _ _ us hl => match us, hl with | [_, _], _ => rfl
  have F2 := fun_mk (st := s_law_of) l2 c2 k2
  have b2 := F2.binds (ps := ["bag", "some"]) fun _ _ _ _ _ _ us hl => match us, hl with | [_, _], _ => rfl
  have F3 := fun_mk (st := s_law_names) l3 c3 k3
  have b3 := F3.binds (ps := ["bag", "many"]) fun _ _ _ _ _ _ us hl => match us, hl with | [_, _], _ => rfl
  have F4 := fun_mk (st := s_subsets) l4 c4 k4
  have b4 := F4.binds (ps := ["names"]) fun _ _ _ _ _ _ us hl => match us, hl with | [_], _ => rfl
  have F5 : FunD K "entry_cases" "entry_cases" (defArgs s_entry_cases) (defBody s_entry_cases) (defScope s_entry_cases) [] [("silent", .bl false)] f5 _ := ⟨⟨_, _, _, _, _, _, _, _, _, _, rfl, l5, c5, .inl ⟨rfl, rfl⟩, .inr ⟨KE, rfl, fun q hq => by
    have hq := List.mem_singleton.mp hq
    subst hq
    exact ⟨_, hKE, rfl⟩⟩⟩, k5⟩
  have F6 := fun_mk (st := s_law_subsets) l6 c6 k6
  have b6 := F6.binds (ps := ["marks"]) fun _ _ _ _ _ _ us hl => match us, hl with | [_], _ => rfl
  have F7 := fun_mk (st := s_law_due) l7 c7 k7
  have b7 := F7.binds (ps := ["marks"]) fun _ _ _ _ _ _ us hl => match us, hl with | [_], _ => rfl
  have F8 := fun_mk (st := s_law) l8 c8 k8
  refine ⟨PySem.W.fnOf "law" "law" (defArgs s_law) (defBody s_law) (defScope s_law) .none kV8 dc8 pm8 an8 cd8 ct8, fun s v => .of_eq rfl, fun base hbK hbG => ?_⟩
  have D_law_draw : Df l.prog w K mg base 1 "_law_draw" ["bag", "many"] spDraw := ⟨f0, _, ok_draw F0 T, PySem.W.mg_of X G a0, k0, b0⟩
  have D_law_bag : Df l.prog w K mg base 1 "_law_bag" ["script", "at"] (spPool K) := ⟨f1, _, ok_bag F1 T, PySem.W.mg_of X G a1, k1, b1⟩
  have D_law_of : Df l.prog w K mg base 2 "_law_of" ["bag", "some"] spOf := ⟨f2, _, ok_of F2 T D_law_draw, PySem.W.mg_of X G a2, k2, b2⟩
  have D_law_names : Df l.prog w K mg base 2 "_law_names" ["bag", "many"] spNames := ⟨f3, _, ok_names F3 T D_law_draw, PySem.W.mg_of X G a3, k3, b3⟩
  have D_subsets : Df l.prog w K mg base 1 "subsets" ["names"] spSubsL := ⟨f4, _, ok_subsets F4, PySem.W.mg_of X G a4, k4, b4⟩
  have E_c : EcD l.prog w K mg base := ecd_mk F5 (ok_entry F5 T D_subsets) (PySem.W.mg_of X G a5)
  have D_law_subsets : Df l.prog w K mg base 1 "_law_subsets" ["marks"] spLS := ⟨f6, _, ok_lsubs F6 T, PySem.W.mg_of X G a6, k6, b6⟩
  have D_law_due : Df l.prog w K mg base 2 "_law_due" ["marks"] spDue := ⟨f7, _, ok_due F7 T D_law_subsets, PySem.W.mg_of X G a7, k7, b7⟩
  exact ok_law49 F8 T D_law_bag D_law_draw D_law_of D_law_names D_law_due E_c
theorem walk {l : PySem.W.OpenLaw} {q : Program} {loose : List Str} {XP : (Str → Option Value) → Heap → Prop} {YP : World → Heap → Prop} {d : DefRec} {K : Params → PySem.W.Frag} (hn : l.most = some 63) (hdf : d.params.defaults = [])
    (hY : ∀ (w : World) (h : Heap), YP w h → (K w.params).In h)
    (F : ∀ (w : World) (mg : Str → Option Value) (fa : Addr) (h : Heap), (K w.params).In h → h.Ns mainGlobals mg → mg d.name = some (.ref fa) →
      ∃ fd : FuncData, (∀ (s : Shared) (u : Value), BindsTo s fd ⟨[u], []⟩ [("script", u)]) ∧ ∀ base : Heap, (K w.params).In base → base.Ns mainGlobals mg → FnOk l.prog w (K w.params) mg base CX0 6 fa fd ["script"] (spLaw (K w.params))) :
    PySem.W.WalkO q loose XP YP l.row.toRowW d [] (fun f vs => PySem.call f vs) :=
  L2.walk_of (n := 63) (k := 6) (x := "script") (CX := fun _ => CX0) (sp := fun w => spLaw (K w.params)) hn (by decide) hdf ⟨rfl, by decide, by decide⟩ hY F (fun _ _ a ns hl _ hS => ⟨a, ns, rfl, hS, hl, fun _ => rfl⟩) fun _ _ _ _ _ z => z
end IC
open PySem PySem.W PyProof.Rows
set_option maxRecDepth 100000 in
set_option maxHeartbeats 0 in
theorem PySem.Challenge.cw_innercommits_k49_entry_cases_holds : PySem.Challenge.rw_innercommits_k49_entry_cases.Holds := by
  w_on; o_law; k_head; (case hw => w_witness2)
  k_fill
  refine IC.walk (l := PySem.Challenge.rw_innercommits_k49_entry_cases) rfl rfl (fun w h Y => PySem.W.kIn_of Y) ?F
  case F =>
    intro w mg fa h KX G hmg
    refine' IC.all_mk KX G hmg ?a0 ?l0 ?c0 ?k0 ?a1 ?l1 ?c1 ?k1 ?a2 ?l2 ?c2 ?k2 ?a3 ?l3 ?c3 ?k3 ?a4 ?l4 ?c4 ?k4 ?a5 ?l5 ?c5 ?k5 ?a6 ?l6 ?c6 ?k6 ?a7 ?l7 ?c7 ?k7 ?a8 ?l8 ?c8 ?k8 ?z_int ?z_len ?z_abs ?z_range ?z_max ?z_min ?z_isi ?z_list ?z_sorted ?hKE
    (case a0 => k_is)
    (case l0 => k_is)
    (case c0 => k_is)
    (case k0 => k_is)
    (case a1 => k_is)
    (case l1 => k_is)
    (case c1 => k_is)
    (case k1 => k_is)
    (case a2 => k_is)
    (case l2 => k_is)
    (case c2 => k_is)
    (case k2 => k_is)
    (case a3 => k_is)
    (case l3 => k_is)
    (case c3 => k_is)
    (case k3 => k_is)
    (case a4 => k_is)
    (case l4 => k_is)
    (case c4 => k_is)
    (case k4 => k_is)
    (case a5 => k_is)
    (case l5 => k_is)
    (case c5 => k_is)
    (case k5 => k_is)
    (case a6 => k_is)
    (case l6 => k_is)
    (case c6 => k_is)
    (case k6 => k_is)
    (case a7 => k_is)
    (case l7 => k_is)
    (case c7 => k_is)
    (case k7 => k_is)
    (case a8 => k_is)
    (case l8 => k_is)
    (case c8 => k_is)
    (case k8 => k_is)
    (case z_int => k_is)
    (case z_len => k_is)
    (case z_abs => k_is)
    (case z_range => k_is)
    (case z_max => k_is)
    (case z_min => k_is)
    (case z_isi => k_is)
    (case z_list => k_is)
    (case z_sorted => k_is)
    (case hKE => k_is)
#print axioms PySem.Challenge.cw_innercommits_k49_entry_cases_holds
