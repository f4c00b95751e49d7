import PyProof.Rows.All
import Wide.All
import OpenK.AllK
import Wide.FinOn
import HandS.ForMost
import HandS.Wide
import HandS.IsInst
import HandS.Style
import HandS.Flow
import HandS.Evl
import HandS.Walk
import HandS.Codes
import PyProof.Rows.ReprR
import HandS.Exc
import HandS.ExcInit
import HandS.ExcField
import HandS.Property
import HandS.Defaults
import HandS.ClsMeth
import PyProof.ListStr
import HandS.CallSlots
import HandS.WordsExc
import PyProof.ReprBulk
import HandS.Set
import HandS.Strs
import HandS.Zip
import HandS.SetFor
import PyProof.Rows.SortShellAny
import HandS.DictComp
import HandS.Star
import HandS.More
import HandS.FStr
import HandS.Conv
import HandS.TryMany
import PySem.Challenge.RW_innercommits_k14_single_rules
set_option Elab.async false
set_option linter.all false
set_option maxRecDepth 100000
set_option maxHeartbeats 4000000
namespace IC
open PySem L2 TL
/-! ### heaps: all but the addresses of l stand as they stood -/
def Kp (l : List Addr) (H H' : Hp) : Prop := ∀ b o, H b = some o → b ∉ l → H' b = some o
theorem Kp.refl (l : List Addr) (H : Hp) : Kp l H H := fun _ _ e _ => e
theorem Kp.trans {l : List Addr} {H H1 H2 : Hp} (a : Kp l H H1) (b : Kp l H1 H2) : Kp l H H2 := fun c o e h => b c o (a c o e h) h
theorem Kp.same {l : List Addr} {H H' : Hp} (a : Same H H') : Kp l H H' := fun b o e _ => a b o e
theorem Kp.at_ {l : List Addr} {H : Hp} {p : Addr} {o : HO} (h : p ∈ l) : Kp l H (upd H p o) := fun b u e hb => by
  have q : b ≠ p := fun z => hb (by rw [z]; exact h)
  rw [upd_ne q]; exact e
theorem Kp.new {l : List Addr} {H : Hp} {p : Addr} {o : HO} (h : H p = none) : Kp l H (upd H p o) := fun b u e _ => by
  rw [upd_ne (ne_of_none e h)]; exact e
theorem Kp.mut {l : List Addr} {H H' : Hp} {p : Addr} {o : HO} (a : Kp l H H') (h : H p = none) : Kp l H (upd H' p o) := fun b u e hb => by
  rw [upd_ne (ne_of_none e h)]; exact a b u e hb
theorem Kp.mutAt {l : List Addr} {H H' : Hp} {p : Addr} {o : HO} (a : Kp l H H') (h : p ∈ l) : Kp l H (upd H' p o) := a.trans (Kp.at_ h)
theorem none_of {H : Hp} {p D : Addr} {o : HO} (h : upd H p o D = none) : p ≠ D ∧ H D = none := by
  have q : p ≠ D := ne_of_none upd_same h
  rw [upd_ne q.symm] at h
  exact ⟨q, h⟩
theorem Same.new {H : Hp} {p : Addr} {o : HO} (h : H p = none) : Same H (upd H p o) := fun b u e => by
  rw [upd_ne (ne_of_none e h)]; exact e

/-! ### the pool of numbers -/
def pl (a b c : Int) : List V := [.int a, .int b, .int c]
def PoolAt (H : Hp) (p : Addr) (n : Int) : Prop := ∃ a b c : Int, H p = some (.lst (pl a b c)) ∧ 0 ≤ a ∧ 0 ≤ b ∧ b < 2 ^ 62 ∧ 0 ≤ c ∧ c ≤ n
theorem PoolAt.up {H : Hp} {p : Addr} {n m : Int} (h : PoolAt H p n) (e : n ≤ m) : PoolAt H p m := by
  obtain ⟨a, b, c, h1, h2, h3, h4, h5, h6⟩ := h
  exact ⟨a, b, c, h1, h2, h3, h4, h5, Int.le_trans h6 e⟩
theorem PoolAt.mv {H H' : Hp} {p : Addr} {n : Int} (h : PoolAt H p n) (e : ∀ o, H p = some o → H' p = some o) : PoolAt H' p n := by
  obtain ⟨a, b, c, h1, h⟩ := h
  exact ⟨a, b, c, e _ h1, h⟩
/-- _law_draw(pool, many): a number below many; only the pool changes -/
def spDraw : Sp := fun vs H Q _ => ∃ (p : Addr) (m n : Int), vs = [.ref p, .int m] ∧ PoolAt H p n ∧ n < 1000000000 ∧ 0 < m ∧ m.natAbs < 2 ^ 200 ∧
  ∀ (d : Int) (o : HO), 0 ≤ d → d < m → PoolAt (upd H p o) p (n + 1) → Q (.int d) (upd H p o)
/-- _law_pool(script, at): a new pool -/
def spPool (K : PySem.W.Frag) : Sp := fun vs H Q _ => ∃ (a : Addr) (ns : List Int) (j : Nat), vs = [.ref a, .int j] ∧ SqL K H a (ns.map V.int) ∧ j < 64 ∧
  ∀ (p : Addr) (o : HO), H p = none → PoolAt (upd H p o) p 0 → Q (.ref p) (upd H p o)

/-- a def of the text by its name: it keeps the promise sp -/
structure Df (P : Program) (w : World) (K : PySem.W.Frag) (mg : Str → Option Value) (base : Heap) (k : Nat) (x : Str) (ps : List Str) (sp : Sp) : Prop where
  ex : ∃ (f : Addr) (fd : FuncData), FnOk P w K mg base CX0 k f fd ps sp ∧ mg x = some (.ref f) ∧ PySem.W.keepIn K (.ref f) = true ∧ Binds K fd ps []
theorem pe_df {X : Cx} {k j : Nat} {x : Str} {ps : List Str} {sp : Sp} {e : Expr} {es : List Expr} {t : TA} {p pos : Pos} (D : Df X.prog X.w X.K X.mg X.base k x ps sp) (hr : Room j X.A) (hk : k ≤ j) (hg : Gl X x)
    (ha : PA X (e :: es) t) (hdb : (x == ("__debug__" : Str)) = false := by decide) (he : starEach (e :: es) X.env = (false, eval e X.env) :: starEach es X.env := by rfl) (hpl : (backTo pos (starEach es X.env)).any (·.1) = false := by rfl) :
    PE X (.Call (.Name x p) (e :: es) [] pos) (tCall sp [] E0 t) := by
  obtain ⟨f, fd, F, hm, hkp, hb⟩ := D.ex
  exact pe_call F (hr.mono hk) hg hm hkp hb .nil pass0 ha hdb he hpl

/-! ### words -/
def Lt (c : Nat) : Prop := 97 ≤ c ∧ c ≤ 122
def IsW (z : Str) : Prop := 1 ≤ (tl z).length ∧ (tl z).length ≤ 8 ∧ ∀ c ∈ tl z, Lt c
def sgn (c : Nat) : Str := ⟨#[c]⟩
theorem joinL_one : ∀ cs : List Nat, joinL [] (cs.map fun c => [c]) = cs
  | [] => rfl
  | [c] => rfl
  | c :: d :: r => by
    show [c] ++ ([] ++ joinL [] ((d :: r).map fun c => [c])) = c :: d :: r
    rw [joinL_one (d :: r)]
    rfl
theorem tl_joined (cs : List Nat) : tl (Txt.join (Str.ofString "") (cs.map sgn)) = cs := by
  rw [join_eq, tl_join, List.map_map]
  exact joinL_one cs
def spWord : Sp := fun vs H Q _ => ∃ (p : Addr) (n : Int), vs = [.ref p] ∧ PoolAt H p n ∧ n < 900000000 ∧
  ∀ (z : Str) (H' : Hp), IsW z → PoolAt H' p (n + 9) → Kp [p] H H' → Q (.str z) H'
theorem abc_at (d : Int) (h0 : 0 ≤ d) (h1 : d < 26) : ∃ c, atI (Str.ofString "abcdefghijklmnopqrstuvwxyz").cps.toList d = some c ∧ Lt c := by
  have e : (Str.ofString "abcdefghijklmnopqrstuvwxyz").cps.toList = [97,98,99,100,101,102,103,104,105,106,107,108,109,110,111,112,113,114,115,116,117,118,119,120,121,122] := by decide +kernel
  rw [e]
  obtain ⟨j, rfl⟩ : ∃ j : Nat, d = j := ⟨d.toNat, by omega⟩
  have hj : j < 26 := by omega
  refine ⟨97 + j, atI_nat ?_, by unfold Lt; omega⟩
  have all : ∀ k : Fin 26, ([97,98,99,100,101,102,103,104,105,106,107,108,109,110,111,112,113,114,115,116,117,118,119,120,121,122] : List Nat)[k.val]? = some (97 + k.val) := by decide
  exact all ⟨j, hj⟩
/-- no text: a value of another type -/
def Oth (K : PySem.W.Frag) (H : Hp) (v : V) : Prop := ∃ T : String, TyX K H v (.type T) ∧ kitB T "str" = some false
def lB (c : Nat) : Bool := decide (97 ≤ c) && decide (c ≤ 122)
/-- is the text a word -/
def wB (z : Str) : Bool := decide (1 ≤ (tl z).length) && (decide ((tl z).length ≤ 8) && (tl z).all lB)
def spIsWord (K : PySem.W.Frag) : Sp := fun vs H Q _ => ∃ v : V, vs = [v] ∧ ((∃ z : Str, v = .str z ∧ (tl z).length ≤ 1000 ∧ ∀ H', Same H H' → Q (.bl (wB z)) H') ∨ (Oth K H v ∧ ∀ H', Same H H' → Q (.bl false) H'))
theorem len_le {z : Str} (h : (tl z).length ≤ 1000) : z.length ≤ sizeLine := by
  rw [len_tl]; exact Nat.le_of_lt (small1000 h)
theorem tl_one (c : Nat) : tl (⟨#[c]⟩ : Str) = [c] := rfl
theorem one_lt (c d : Nat) : ([c] < [d]) ↔ ¬ d ≤ c := by
  rw [List.cons_lt_cons_iff]
  simp
theorem lt_a (c : Nat) : decide ((⟨#[c]⟩ : Str).cps.toList < (Str.ofString "a").cps.toList) = !decide (97 ≤ c) := by
  have e : (Str.ofString "a").cps.toList = [97] := by decide +kernel
  rw [e]
  show decide ([c] < [97]) = _
  rw [Bool.eq_iff_iff, decide_eq_true_iff, Bool.not_eq_true', decide_eq_false_iff_not]
  exact one_lt c 97
theorem z_lt (c : Nat) : decide ((Str.ofString "z").cps.toList < (⟨#[c]⟩ : Str).cps.toList) = !decide (c ≤ 122) := by
  have e : (Str.ofString "z").cps.toList = [122] := by decide +kernel
  rw [e]
  show decide ([122] < [c]) = _
  rw [Bool.eq_iff_iff, decide_eq_true_iff, Bool.not_eq_true', decide_eq_false_iff_not]
  exact one_lt 122 c
theorem abc_mem (c : Nat) : decide (c ∈ (Str.ofString "abcdefghijklmnopqrstuvwxyz").cps.toList) = lB c := by
  have e : (Str.ofString "abcdefghijklmnopqrstuvwxyz").cps.toList = [97,98,99,100,101,102,103,104,105,106,107,108,109,110,111,112,113,114,115,116,117,118,119,120,121,122] := by decide +kernel
  rw [e]
  unfold lB
  rw [Bool.eq_iff_iff]
  simp
  omega
theorem shaped_all {xs : List PyData} (h : ∀ x ∈ xs, PyData.canLay0 x = true ∧ PyData.depth x ≤ 20) : PyData.canLayAll0 xs = true ∧ PyData.depthAll xs ≤ 20 := by
  induction xs with
  | nil => exact ⟨rfl, Nat.zero_le _⟩
  | cons x r ih =>
    have h1 := h x List.mem_cons_self
    have h2 := ih fun y hy => h y (List.mem_cons_of_mem _ hy)
    refine ⟨?_, ?_⟩
    · show (PyData.canLay0 x && PyData.canLayAll0 r) = true
      rw [h1.1, h2.1]
      rfl
    · show max (PyData.depth x) (PyData.depthAll r) ≤ 20
      omega
theorem shaped_list {xs : List PyData} (h : ∀ x ∈ xs, PyData.canLay0 x = true ∧ PyData.depth x ≤ 20) : SeqAt.shaped (.list xs) = true := by
  obtain ⟨h1, h2⟩ := shaped_all h
  show (PyData.canLay0 (.list xs) && decide (PyData.depth (.list xs) ≤ 64)) = true
  have e1 : PyData.canLay0 (.list xs) = true := h1
  have e2 : PyData.depth (.list xs) = PyData.depthAll xs + 1 := rfl
  rw [e1, e2, decide_eq_true (by omega)]
  rfl
theorem dpAll_strs {K : PySem.W.Frag} {H : Hp} : ∀ zs : List Str, DpAll K H (zs.map V.str) (zs.map PyData.str)
  | [] => .nil
  | z :: r => .cons (.str z) (dpAll_strs r)
def Okc (c : Nat) : Prop := c < 1114112
theorem strOk_of {z : Str} (h : ∀ c ∈ tl z, Okc c) : PyData.strOk z = true := by
  unfold PyData.strOk
  rw [Array.all_eq_true_iff_forall_mem]
  intro c hc
  exact decide_eq_true (h c (by simpa [tl] using hc))
theorem shaped_strs (zs : List Str) (h : ∀ z ∈ zs, ∀ c ∈ tl z, Okc c) : SeqAt.shaped (.list (zs.map PyData.str)) = true := shaped_list fun x hx => by
  obtain ⟨z, hz, rfl⟩ := List.mem_map.mp hx
  exact ⟨strOk_of (h z hz), Nat.zero_le _⟩
/-- a comprehension over range(n) whose element is a drawn letter -/
theorem lc_draw {te : TE} {gi : Nat} {σ : L2.St} {H1 : Hp} {D p : Addr} {Qd : Hp → Prop} (n : Nat) (m : Int) (hn : n ≤ 1000) (hp : PoolAt H1 p m) (hD : H1 D = none)
    (hte : ∀ (x : V) (m' : Int) (H : Hp) (Q : VK), PoolAt H p m' → m' ≤ m + n → (∀ c o, Lt c → PoolAt (upd H p o) p (m' + 1) → Q (.str (sgn c)) (upd H p o)) → te ((σ.set gi none).set gi (some x)) H Q)
    (hd : ∀ (cs : List Nat) (H' : Hp), cs.length = n → (∀ c ∈ cs, Lt c) → H' D = some (.lst ((cs.map sgn).map V.str)) → PoolAt H' p (m + n) → Kp [p] H1 H' → Qd H') :
    ∃ W : Nat → Nat → Hp → Prop, (∃ m, W 0 m (upd H1 D (.lst []))) ∧ ∀ i m H, W i m H →
      ((Itr 0 n).stop i H ∧ Qd H) ∨ ((Itr 0 n).go i H ∧ ∃ Nx : Hp → Prop, (∀ H', Nx H' → ∃ m', m' < m ∧ W (i + 1) m' H') ∧ ∀ x H', (Itr 0 n).yld i H x H' → gName gi x (wipe σ [gi]) H' fun σ2 H2 => wipe σ2 [gi] = wipe σ [gi] ∧ tYes σ2 H2 fun b H3 =>
        if b = true then te σ2 H3 fun y H4 => ∃ acc, H4 D = some (.lst acc) ∧ acc.length < sizeLine ∧ Nx (upd H4 D (.lst (acc ++ [y]))) else Nx H3) := by
  have hpD : p ≠ D := by
    obtain ⟨a, b, c, e, _⟩ := hp
    exact ne_of_none e hD
  refine lc_range (lo := 0) (n := n) (fun i H' => ∃ cs : List Nat, cs.length = i ∧ (∀ c ∈ cs, Lt c) ∧ H' D = some (.lst ((cs.map sgn).map V.str)) ∧ PoolAt H' p (m + i) ∧ Kp [p] H1 H')
    ⟨[], rfl, by simp, upd_same, (hp.mv fun u e => by rw [upd_ne hpD]; exact e).up (by omega), Kp.new hD⟩ ?_ ?_
  · rintro i H' hi ⟨cs, hl, hc, hcD, hp2, kp⟩
    refine ⟨by simp [wipe], ?_⟩
    refine hte _ (m + i) H' _ hp2 (by omega) fun c o hL hp3 => ?_
    refine ⟨_, (by rw [upd_ne hpD.symm]; exact hcD), small1000 (by rw [List.length_map, List.length_map]; omega), cs ++ [c], by simp [hl], ?_, ?_, ?_, (kp.mutAt (by simp)).mut hD⟩
    · intro x hx
      rcases List.mem_append.mp hx with hx | hx
      · exact hc x hx
      · rw [List.mem_singleton.mp hx]; exact hL
    · rw [upd_same, List.map_append, List.map_append]
      rfl
    · exact (hp3.mv fun u q => by rw [upd_ne hpD]; exact q).up (by omega)
  · rintro H' ⟨cs, hl, hc, hcD, hp2, kp⟩
    exact hd cs H' hl hc hcD hp2 kp
theorem sum_sgn (cs : List Nat) : (List.map (fun z : Str => z.length) (cs.map sgn)).sum = cs.length := by
  rw [List.map_map]
  induction cs with
  | nil => rfl
  | cons c r ih => rw [List.map_cons, List.sum_cons, ih, List.length_cons]; show 1 + r.length = r.length + 1; omega
theorem Lt.ok {c : Nat} (h : Lt c) : Okc c := by
  have := h.2
  unfold Okc
  omega
/-- a text of few signs, or a thing of another kind -/
def Txt1 (z : Str) : Prop := (tl z).length ≤ 1000 ∧ ∀ c ∈ tl z, Okc c
def Thing (K : PySem.W.Frag) (H : Hp) (v : V) : Prop := (∃ z : Str, v = .str z ∧ Txt1 z) ∨ Oth K H v
theorem cutS_mem (z : Str) (lo hi : Option Int) : ∀ c ∈ tl (cutS z lo hi), c ∈ tl z := by
  intro c hc
  exact List.mem_of_mem_drop (List.mem_of_mem_take hc)
theorem oth_int {K : PySem.W.Frag} {H : Hp} {i : Int} : Oth K H (.int i) := ⟨"int", .base (.int i), by decide +kernel⟩
theorem oth_bl {K : PySem.W.Frag} {H : Hp} {b : Bool} : Oth K H (.bl b) := ⟨"bool", .base (.bl b), by decide +kernel⟩
theorem oth_non {K : PySem.W.Frag} {H : Hp} : Oth K H .non := ⟨"NoneType", .base .non, by decide +kernel⟩
theorem oth_lst {K : PySem.W.Frag} {H : Hp} {a : Addr} {xs : List V} (h : H a = some (.lst xs)) : Oth K H (.ref a) := ⟨"list", .base (.lst h), by decide +kernel⟩
theorem oth_tup {K : PySem.W.Frag} {H : Hp} {a : Addr} {xs : List V} (h : H a = some (.tup xs)) : Oth K H (.ref a) := ⟨"tuple", .base (.tup h), by decide +kernel⟩
theorem Kp.newAt {l : List Addr} {H H' : Hp} {p : Addr} {o : HO} (a : Kp l H H') (h : H' p = none) : Kp l H (upd H' p o) := a.trans (Kp.new h)
theorem Same.kp {H0 H H' : Hp} {p : Addr} (a : Same H0 H) (k : Kp [p] H H') (h : H0 p = none) : Same H0 H' := fun b o e => k b o (a b o e) (by
  intro z
  have q := List.mem_singleton.mp z
  rw [q, h] at e
  cases e)
theorem Oth.mv {K : PySem.W.Frag} {H H' : Hp} {v : V} (h : Oth K H v) (s : Same H H') : Oth K H' v := by
  obtain ⟨T, ty, kb⟩ := h
  refine ⟨T, ?_, kb⟩
  cases ty with
  | base b =>
    generalize ht : Value.type T = t at b
    cases b with
    | non => injection ht with ht; subst ht; exact .base .non
    | bl x => injection ht with ht; subst ht; exact .base (.bl x)
    | int i => injection ht with ht; subst ht; exact .base (.int i)
    | str x => injection ht with ht; subst ht; exact .base (.str x)
    | flt x => injection ht with ht; subst ht; exact .base (.flt x)
    | lst e => injection ht with ht; subst ht; exact .base (.lst (s _ _ e))
    | frz e => injection ht with ht; subst ht; exact .base (.frz (s _ _ e))
    | tup e => injection ht with ht; subst ht; exact .base (.tup (s _ _ e))
    | dK e => injection ht with ht; subst ht; exact .base (.dK (s _ _ e))
    | dT e => injection ht with ht; subst ht; exact .base (.dT (s _ _ e))
    | ins e => cases ht
  | byt b => exact .byt b
  | set e => exact .set (s _ _ e)
  | kList e c => exact .kList e c
  | kTuple e c => exact .kTuple e c
  | kDict e c => exact .kDict e c
  | fTuple e => exact .fTuple (s _ _ e)
  | fDict e => exact .fDict (s _ _ e)
def spLaw (K : PySem.W.Frag) : Sp := fun vs H Q _ => ∃ (a : Addr) (ns : List Int), vs = [.ref a] ∧ SqL K H a (ns.map V.int) ∧ ns.length ≤ 63 ∧ ∀ H', Q (.bl true) H'
end IC
namespace IC
open PySem L2 TL
/-! ### a static method called by its class; list(text) -/
/-- C.m is a static method: its record at p, its def at g -/
structure SMet (K : PySem.W.Frag) (C : Addr) (mc : Value) (m : Str) (p g : Addr) : Prop where
  rd : ClX.CRead K C mc
  fnd : PySem.W.findCls K (.ref C) mc m = some (.get (.builtin "staticmethod.__get__") (.ref p) .none (.ref C))
  rec_ : ∃ rest, PySem.W.recIn K p "staticmethod" = some (.ref g :: rest)
  kp : PySem.W.keepIn K (.ref g) = true
def tSM (C : Addr) (sp : Sp) (ta : TE) (t : TA) : TE := fun σ H Q => ta σ H fun x H1 => x = .ref C ∧ t σ H1 fun vs H2 => sp vs H2 Q E0
theorem pe_smeth {X : Cx} {k j : Nat} {C p g : Addr} {mc : Value} {fd : FuncData} {ps : List Str} {sp : Sp} {o e : Expr} {es : List Expr} {m : Str} {pos apos : Pos} {ta : TE} {t : TA} {pl : Sem Bool}
    (ho : PE X o ta) (S : SMet X.K C mc m p g) (F : FnOk X.prog X.w X.K X.mg X.base CX0 k g fd ps sp) (hb : Binds X.K fd ps []) (hr : Room j X.A) (hk : k ≤ j) (ha : PA X (e :: es) t)
    (he : starEach (e :: es) X.env = (false, eval e X.env) :: starEach es X.env := by rfl) (hpl : (backTo pos (starEach es X.env)).any (·.1) = false := by rfl)
    (ht : eval (.Call (.Attribute o m apos) (e :: es) [] pos) X.env = (do
      let ov ← eval o X.env; standAt apos.atName
      let (f, first) ← holding [ov] (getMethod ov m pl); callWith pos f first (backTo pos (starEach (e :: es) X.env)) (backToKw pos (keywordEach [] X.env))) := by rfl) :
    PE X (.Call (.Attribute o m apos) (e :: es) [] pos) (tSM C sp ta t) := by
  refine ⟨fun pins s σ H Q I h => PySem.W.methodCall_KW (pl := pl) (thn (ho.run pins s σ H _ I h) fun u s1 ⟨x, H1, I1, rx, ex, q⟩ => ?_) ht⟩
  subst ex
  obtain rfl : u = Value.ref C := rx
  obtain ⟨rest, hrc⟩ := S.rec_
  refine PySem.W.method_cls I1.kIn S.rd.ga (PySem.W.cls_bind I1.kIn S.rd.rd S.fnd ?_)
  refine wpAny_call (PySem.W.sm_get (s := { s1 with toks := s1.toks + 1 }) I1.kIn hrc (PySem.W.handed_on rfl ?_))
  have I2 : Inv X pins σ H1 { s1 with toks := s1.toks + 1 } := I1.tok _
  exact PySem.W.callWith_K (h₀ := X.base) I2.ok.mod.kin S.kp (thn (ha.run pos pins _ σ H1 _ I2 q) fun us s3 ⟨vs, H3, I3, rv, q3⟩ => ⟨I3.kIn, run_fn F (hr.mono hk) hb .nil pass0 I3 rv (by rw [List.append_nil]; exact q3)⟩) he hpl
theorem vals_some : ∀ (its : List Value), (∀ u ∈ its, ∃ y, RelV y u) → ∃ ys, Vals ys its
  | [], _ => ⟨[], .nil⟩
  | u :: r, h => by
    obtain ⟨y, hy⟩ := h u List.mem_cons_self
    obtain ⟨ys, hys⟩ := vals_some r fun v hv => h v (List.mem_cons_of_mem _ hv)
    exact ⟨y :: ys, .cons hy hys⟩
/-- list(text): a new list -/
theorem call_list_txt {X : Cx} (hc : X.A.handled = none) : CallR X (.type "list") (fun xs H Q => ∃ z : Str, xs = [.str z] ∧ z.length ≤ sizeLine ∧ ∀ l ys, H l = none → Q (.ref l) (upd H l (.lst ys))) := by
  intro pins s σ H xs us Q I r h
  obtain ⟨z, rfl, hz, q⟩ := h
  obtain ⟨u, rfl, rx⟩ := vals1 r
  obtain ⟨t, rfl⟩ := rx
  refine call_list_str hc z t (fun h' tk acc c' kp e it => ?_) hz
  obtain ⟨ys, hys⟩ := vals_some acc.toList fun u hu => by
    obtain ⟨j, hj, e1⟩ := List.getElem_of_mem hu
    obtain ⟨c, w, _, rfl⟩ := it.2 j u (by
      rw [← e1]
      simp)
    exact ⟨.str ⟨#[c]⟩, w, rfl⟩
  have hl := hys.length
  refine ⟨.ref s.heap.objs.size, _, I.laid (t' := tk) kp (Nat.le_refl _) (show ObjOk X.prog X.w _ h' _ (.lst ys) from ⟨?_, acc.toList, c', hys, by simpa using e⟩), rfl, q _ ys (I.hok.fresh (Nat.le_refl _))⟩
  have h1 : acc.size = z.cps.size := it.1
  have h2 : acc.toList.length = acc.size := Array.length_toList
  rw [hl, h2, h1]
  exact hz
end IC
namespace IC
open PySem L2 TL
open PyProof.Rows (envOfC)
/-! ### defs that ask repr: no repr may be under way around them -/
structure FnG (P : Program) (w : World) (K : PySem.W.Frag) (mg : Str → Option Value) (base : Heap) (k : Nat) (f : Addr) (fd : FuncData) (ps : List Str) (sp : Sp) : Prop where
  len : ∀ vs H Q E, sp vs H Q E → vs.length = ps.length
  run : ∀ (B : Around) (outer : List Env) (s : Shared) (H : Hp) (args : Args) (us : List Value) (vs : List V) (Q : VK) (E : XK), B.guards = some [] → Room k B → Env0 P w K mg base B outer s H → BindsTo s fd args (ps.zip us) → Vals vs us →
    sp vs H Q E → codeAny (model P w) B (.call (.ref f) args) (CR CX0 outer P w H s Q E) s
section
variable {P : Program} {w : World} {K : PySem.W.Frag} {mg : Str → Option Value} {base : Heap}
theorem FnOk.g {k : Nat} {f : Addr} {fd : FuncData} {ps : List Str} {sp : Sp} (F : FnOk P w K mg base CX0 k f fd ps sp) : FnG P w K mg base k f fd ps sp :=
  ⟨F.len, fun B outer s H args us vs Q E _ => F.run B outer s H args us vs Q E⟩
theorem FnG.mono {j k : Nat} {f : Addr} {fd : FuncData} {ps : List Str} {sp : Sp} (F : FnG P w K mg base j f fd ps sp) (h : j ≤ k) : FnG P w K mg base k f fd ps sp :=
  ⟨F.len, fun B outer s H args us vs Q E hg hr => F.run B outer s H args us vs Q E hg (hr.mono h)⟩
theorem Fun.okG {x qual : Str} {st : Stmt} {f : Addr} {fd : FuncData} {N ps : List Str} {k : Nat} {sp : Sp} (F : Fun K x qual st f fd) (S : FnScope N ps (defScope st)) (len : ∀ vs H Q E, sp vs H Q E → vs.length = ps.length)
    (hbody : ∀ (cdv : Value) (B : Around) (outer : List Env) (s : Shared) (H : Hp) (vs : List V) (Q : VK) (E : XK), (B.deeper (envOfC qual (defScope st) s.heap.objs.size f cdv)).guards = some [] →
      Room k (B.deeper (envOfC qual (defScope st) s.heap.objs.size f cdv)) → sp vs H Q E →
      ∃ t, PSs (cxOf CX0 P w K mg base N qual (defScope st) f cdv B outer s H E).nox (defBody st) t ∧ t { nx := fun _ H' => Q .non H', rt := Q } (start N vs) H) : FnG P w K mg base (k + 1) f fd ps sp := by
  obtain ⟨oc, od, kV, doc, pm, an, cdv, ct, osl, rfl, lk, hcd⟩ := F.ex
  refine ⟨len, fun B outer s H args us vs Q E hg hr e0 hb r hsp => ?_⟩
  have inK : K.In s.heap := e0.mod.kin.keeps fun b o e => And.left (e0.bs b o e)
  have noL : s.heap.NoLimit := e0.mod.nolimit.keeps fun b o e => And.left (e0.bs b o e)
  have kinds : ∀ y ∈ ps.zip us, (defScope st).names.lookup y.1 = some .local ∨ ((defScope st).names.lookup y.1 = some .cell ∧ ((cellsFrom (s.heap.objs.size + 1) (defScope st).names []).lookup y.1).isSome = true) := by
    rintro ⟨n, v⟩ hy
    cases S.par n (And.left (List.of_mem_zip hy)) with
    | inl q => exact Or.inl q
    | inr q => exact Or.inr (And.intro q (PySem.W.cellsFrom_some _ _ _ (Or.inl q)))
  refine codeAny_call_function (Room.depth hr) (inK _ _ lk) rfl S.co S.gen rfl (PySem.W.codeRec_of inK hcd) (hb _ _ _ _ (wpAny_newFunctionEnv_cells S.kind kinds fun env he s1 x => ?_))
  subst he
  obtain ⟨t, ht, hq⟩ := hbody cdv B outer s H vs Q E hg (Room.deeper hr _) hsp
  have I0 := inv_start (CX := CX0) (E := E) S (Room.hd hr) e0 (len _ _ _ _ hsp) r x
  refine And.intro (noL.keeps (And.left (And.intro x.toInCall.keep trivial))) (codeAny_func (wpAny_mono (ht.nox.run [] s1 (start N vs) H _ I0 hq) (fun fl s' hs => ?_) fun _ _ z => z))
  cases fl with
  | ret u =>
    obtain ⟨v, σ', H', J, rv, q⟩ := hs
    exact Exists.intro v (Exists.intro H' ⟨J.os, J.bare, J.base, J.hok, rv, q⟩)
  | next =>
    obtain ⟨σ', H', J, q⟩ := hs
    exact Exists.intro V.non (Exists.intro H' ⟨J.os, J.bare, J.base, J.hok, rfl, q⟩)
  | brk =>
    obtain ⟨_, _, _, q⟩ := hs
    exact q.elim
  | cont =>
    obtain ⟨_, _, _, q⟩ := hs
    exact q.elim
/-- a def of the text by its name, for a caller around which no repr is under way -/
structure DfG (P : Program) (w : World) (K : PySem.W.Frag) (mg : Str → Option Value) (base : Heap) (k : Nat) (x : Str) (ps : List Str) (sp : Sp) : Prop where
  ex : ∃ (f : Addr) (fd : FuncData), FnG P w K mg base k f fd ps sp ∧ mg x = some (.ref f) ∧ PySem.W.keepIn K (.ref f) = true ∧ Binds K fd ps []
theorem pe_dfG {X : Cx} {k j : Nat} {x : Str} {ps : List Str} {sp : Sp} {e : Expr} {es : List Expr} {t : TA} {p pos : Pos} (D : DfG X.prog X.w X.K X.mg X.base k x ps sp) (hgd : X.A.guards = some []) (hr : Room j X.A) (hk : k ≤ j) (hg : Gl X x)
    (ha : PA X (e :: es) t) (hdb : (x == ("__debug__" : Str)) = false := by decide) (he : starEach (e :: es) X.env = (false, eval e X.env) :: starEach es X.env := by rfl) (hpl : (backTo pos (starEach es X.env)).any (·.1) = false := by rfl) :
    PE X (.Call (.Name x p) (e :: es) [] pos) (tCall sp [] E0 t) := by
  obtain ⟨f, fd, F, hm, hkp, hb⟩ := D.ex
  refine ⟨fun pins s σ H Q I h => wpAny_Call_Name_kw (ld_glob I hg hm (PySem.W.callWith_K (h₀ := X.base) I.ok.mod.kin hkp (thn (ha.run pos pins s σ H _ I h) fun us s1 hh => ?_) he hpl) hdb)⟩
  obtain ⟨vs, H1, I1, r, q⟩ := hh
  refine And.intro I1.kIn ?_
  rw [List.append_nil] at q
  have hl : us.length = ps.length := by rw [← r.length]; exact F.len _ _ _ _ q
  refine wpAny_call (codeAny_mono (F.run X.A X.stack s1 H1 ⟨us, []⟩ us vs Q E0 hgd (hr.mono hk) I1.env0 (by have z := hb s1 us I1.kIn (by rw [List.append_nil]; exact hl); rw [List.append_nil] at z; exact z) r q) fun r s' hq => ?_)
  cases r with
  | error er => exact False.elim hq
  | ok fl =>
    cases fl with
    | ret u => exact I1.after hq
    | next => exact False.elim hq
    | brk => exact False.elim hq
    | cont => exact False.elim hq
/-- repr of data -/
theorem call_reprD {X : Cx} (hgd : X.A.guards = some []) (hu : X.A.units + 64 < cLine) : CallR X (.builtin "repr") (fun xs H Q => ∃ (a : Addr) (d : PyData), xs = [.ref a] ∧ Dp X.K H (.ref a) d ∧ d.showable = true ∧ d.hasDict = false ∧ d.depth ≤ 20 ∧ d.shown.length ≤ sizeLine ∧ Q (.str d.shown) H) := by
  intro pins s σ H xs us Q I r h
  obtain ⟨a, d, rfl, hd, h1, h2, h3, h4, q⟩ := h
  obtain ⟨u, rfl, ru⟩ := vals1 r
  obtain rfl : u = Value.ref a := ru
  obtain ⟨as, rd⟩ := hd.reads I _ _ _ rfl
  refine repr_of_reads' rd h1 (fun e => by rw [h2] at e; cases e) hgd (by omega) (fun _ _ e => e) (fun h' w' tk kp => ⟨.str d.shown, H, I.kept (t' := tk) kp, ⟨_, rfl⟩, q⟩) h4
end
end IC
namespace IC
open PySem L2 TL PyProof.Rows
/-- the law's own call, where its def is an FnG -/
theorem call_law {P : Program} {w : World} {K : PySem.W.Frag} {mg mb : Str → Option Value} {k : Nat} {fa a : Addr} {fd : FuncData} {s0 : Shared} {vs : List Value} {ns : List Int}
    (inK : K.In s0.heap) (gl : s0.heap.Ns mainGlobals mg) (bl : s0.heap.Ns builtinsNs mb) (bo : ∀ x : Str, x ≠ "__name__" → mb x = bootBuiltins x) (noL : s0.heap.NoLimit) (gn : s0.gens = #[])
    (at_ : s0.heap.get? a = some { cls := .type "list", data := .seq vs.toArray }) (are : IntsAre vs ns) (small : ns.length ≤ sizeLine) (hr : Room k callerA) (hg : callerA.guards = some [])
    (F : ∀ base : Heap, K.In base → base.Ns mainGlobals mg → FnG P w K mg base k fa fd ["script"] (spLaw K)) (bnd : ∀ (s : Shared) (u : Value), BindsTo s fd ⟨[u], []⟩ [("script", u)]) (few : ns.length ≤ 63) :
    codeAny (model P w) callerA (.call (.ref fa) ⟨[.ref a], []⟩) (fun r s' => r = .ok (.ret (.bool true)) ∧ OldK s0.heap s'.heap ∧ s'.os = s0.os ∧ AllBare s'.gens) s0 := by
  have rel := vals_ints are
  have main : ∀ G : Hp, Only G → SqL K G a (ns.map V.int) → HOk P w G s0.heap → (∀ b, G b ≠ none → b = a ∧ K.lookup a = none) →
      codeAny (model P w) callerA (.call (.ref fa) ⟨[.ref a], []⟩) (fun r s' => r = .ok (.ret (.bool true)) ∧ OldK s0.heap s'.heap ∧ s'.os = s0.os ∧ AllBare s'.gens) s0 := by
    intro G only sq hok one
    have down : ∀ {b : Addr} {o : Obj}, s0.heap.get? b = some o → G b = none → (hidT s0.heap G).get? b = some o := fun {b o} e n => hidT_get e n
    have free : ∀ {b : Addr} {o : Obj} {es : Array DictEntry} {ep : Nat}, s0.heap.get? b = some o → o.data = .dict es ep → G b = none := by
      intro b o es ep e d
      cases q : G b with
      | none => rfl
      | some u =>
        obtain ⟨rfl, _⟩ := one b (by rw [q]; simp)
        rw [at_] at e
        cases e
        cases d
    have names : ∀ {b : Addr} {m : Str → Option Value}, s0.heap.Ns b m → (hidT s0.heap G).Ns b m := by
      rintro b m ⟨o, es, ep, e, d, r⟩
      exact ⟨o, es, ep, down e (free e d), d, r⟩
    have inB : K.In (hidT s0.heap G) := by
      intro b o e
      refine down (inK b o e) ?_
      cases q : G b with
      | none => rfl
      | some u =>
        obtain ⟨rfl, n⟩ := one b (by rw [q]; simp)
        rw [n] at e
        cases e
    obtain ⟨mc, c1, c2⟩ := noL
    have env : Env0 P w K mg (hidT s0.heap G) callerA [] s0 G := ⟨rfl, ⟨inB, names gl, ⟨mb, names bl, bo⟩, ⟨mc, names c1, c2⟩⟩, fun b o e => of_hidT e, Nat.le_of_eq (hidT_size _ _), trivial, fun b hb => absurd (show b ∈ ([] : List Addr) from hb) (by simp), hok, .of_eq gn⟩
    have go := (F _ inB (names gl)).run callerA [] s0 G ⟨[.ref a], []⟩ [.ref a] [.ref a] (fun v _ => v = .bl true) (fun _ _ _ => False) hg hr env (bnd s0 (.ref a)) (.cons rfl .nil) ⟨a, ns, rfl, sq, few, fun _ => rfl⟩
    refine codeAny_mono go (fun r s' h => ?_)
    match r, h with
    | .error e, h => exact False.elim h
    | .ok .next, h => exact False.elim h
    | .ok .brk, h => exact False.elim h
    | .ok .cont, h => exact False.elim h
    | .ok (.ret u), ⟨v, G', o1, o2, un, hok', r', q⟩ =>
      have q : v = V.bl true := q
      subst q
      obtain rfl : u = Value.bool true := r'
      refine And.intro rfl (And.intro (OldK.of_keep fun b o e => ?_) (And.intro o1 o2))
      cases q : G b with
      | none => exact un.keep b o e q (fun z => absurd (show b ∈ ([] : List Addr) from z) (by simp)) (by simp)
      | some u =>
        rcases only b with z | ⟨ob, xs, z⟩
        · rw [q] at z
          cases z
        · have t1 := And.left (hok b _ z)
          have t2 := And.left (hok' b _ (un.frzs b ob _ z))
          rw [e] at t1
          cases t1
          exact t2
  cases hk : K.lookup a with
  | some o =>
    have e := inK a o hk
    rw [at_] at e
    cases e
    exact main (fun _ => none) (fun _ => Or.inl rfl) (Or.inr ⟨_, vs.toArray, _, hk, rfl, rfl, rfl, by rw [List.size_toArray, are.length]; exact small, by simpa using rel⟩) (fun b u z => nomatch (show (none : Option HO) = some u from z)) (fun b z => absurd rfl z)
  | none =>
    have only1 : ∀ b, (if b = a then some (HO.frz { cls := .type "list", data := .seq vs.toArray } (.lst (ns.map V.int))) else none) ≠ none → b = a := by
      intro b z
      by_cases hb : b = a
      · exact hb
      · rw [if_neg hb] at z
        exact absurd rfl z
    refine main (fun b => if b = a then some (.frz { cls := .type "list", data := .seq vs.toArray } (.lst (ns.map V.int))) else none) (fun b => ?_) (Or.inl (Or.inr ⟨_, if_pos rfl⟩)) (fun b u z => ?_) (fun b z => And.intro (only1 b z) hk)
    · by_cases hb : b = a
      · exact Or.inr ⟨_, _, if_pos hb⟩
      · exact Or.inl (if_neg hb)
    · have hb := only1 b (by rw [show (if b = a then some (HO.frz { cls := .type "list", data := .seq vs.toArray } (.lst (ns.map V.int))) else none) = some u from z]; simp)
      subst hb
      have z2 := (if_pos rfl).symm.trans z
      cases z2
      exact And.intro at_ (And.intro (by rw [List.length_map]; exact small) ⟨vs, _, rel, at_⟩)
theorem walkG {l : PySem.W.OpenLaw} {k : Nat} {q : Program} {loose : List Str} {XP : (Str → Option Value) → Heap → Prop} {YP : World → Heap → Prop} {d : DefRec} {K : Params → PySem.W.Frag} (hn : l.most = some 63) (hdf : d.params.defaults = []) (hr : Room k callerA)
    (hY : ∀ (w : World) (h : Heap), YP w h → (K w.params).In h)
    (F : ∀ (w : World) (mg : Str → Option Value) (fa : Addr) (h : Heap), (K w.params).In h → h.Ns mainGlobals mg → mg d.name = some (.ref fa) →
      ∃ fd : FuncData, (∀ (s : Shared) (u : Value), BindsTo s fd ⟨[u], []⟩ [("script", u)]) ∧ ∀ base : Heap, (K w.params).In base → base.Ns mainGlobals mg → FnG l.prog w (K w.params) mg base k fa fd ["script"] (spLaw (K w.params))) :
    PySem.W.WalkO q loose XP YP l.row.toRowW d [] (fun f vs => PySem.call f vs) := by
  refine Att.attach_call hn hdf fun w s₀ s₁ mg mb fa o pm cd doc a vs ns G Y ho hd hcd hmg hobj hints hlen hg => ?_
  obtain ⟨fd, hb, hF⟩ := F w mg fa _ (hY w _ Y) G.T.g hmg
  exact call_law (hY w _ Y) G.T.g G.T.b G.T.builtins G.T.nolimit hg hobj hints (Nat.le_trans hlen (by decide)) hr rfl hF hb hlen
end IC
namespace IC
open PySem L2 TL
/-! ### what is never come to -/
section
variable {X : Cx}
theorem ps_dead {st : Stmt} : PS X st (fun _ _ _ => False) := ⟨fun _ _ _ _ _ _ h => h.elim⟩
theorem pss_dead {ss : List Stmt} : PSs X ss (fun _ _ _ => False) := ⟨fun _ _ _ _ _ _ h => h.elim⟩
theorem pt_dead {e : Expr} : PT X e (fun _ _ _ => False) := ⟨fun _ _ _ _ _ _ h => h.elim⟩
theorem pe_dead {e : Expr} : PE X e (fun _ _ _ => False) := ⟨fun _ _ _ _ _ _ h => h.elim⟩
end
/-! ### methods by their class -/
structure MDf (P : Program) (w : World) (K : PySem.W.Frag) (mg : Str → Option Value) (base : Heap) (CX : CXT) (k : Nat) (C : Addr) (m : Str) (ps : List Str) (dvs : List V) (sp : Sp) : Prop where
  ex : ∃ (f : Addr) (fd : FuncData) (ds : List Value), FnOk P w K mg base CX k f fd ps sp ∧ Meth K C m f ∧ Binds K fd ps ds ∧ Vals dvs ds
/-- o.m(..), what is raised is wished for at the caller's slots -/
def tMethS (C : Addr) (m : Str) (sp : Sp) (dvs : List V) (E : L2.St → XK) (ta : TE) (t : TA) : TE := fun σ H Q => ta σ H fun x H1 => ∃ a dx fs, x = .ref a ∧ H1 a = some (.ins C dx fs) ∧ fs.lookup m = none ∧
  t σ H1 fun vs H2 => sp (x :: (vs ++ dvs)) H2 Q (E σ)
section
variable {X : Cx} {k j : Nat} {C : Addr} {m : Str} {ps : List Str} {dvs : List V} {sp : Sp} {o e : Expr} {es : List Expr} {pos apos : Pos} {ta : TE} {t : TA} {pl : Sem Bool} {W : WX}
theorem pe_md (D : MDf X.prog X.w X.K X.mg X.base CX0 k C m ps dvs sp) (c : Cls X.K C) (hr : Room j X.A) (hk : k ≤ j) (he : PE X o ta) (ha : PA X (e :: es) t)
    (hst : starEach (e :: es) X.env = (false, eval e X.env) :: starEach es X.env := by rfl) (hpl : (backTo pos (starEach es X.env)).any (·.1) = false := by rfl)
    (ht : eval (.Call (.Attribute o m apos) (e :: es) [] pos) X.env = (do
      let ov ← eval o X.env; standAt apos.atName
      let (f, first) ← holding [ov] (getMethod ov m pl); callWith pos f first (backTo pos (starEach (e :: es) X.env)) (backToKw pos (keywordEach [] X.env))) := by rfl) :
    PE X (.Call (.Attribute o m apos) (e :: es) [] pos) (tMeth C m sp dvs E0 ta t) := by
  obtain ⟨f, fd, ds, F, hm, hb, hd⟩ := D.ex
  exact pe_meth he c hm F (hr.mono hk) hb hd pass0 ha hst hpl ht
theorem pe_md0 (D : MDf X.prog X.w X.K X.mg X.base CX0 k C m ps dvs sp) (c : Cls X.K C) (hr : Room j X.A) (hk : k ≤ j) (he : PE X o ta)
    (ht : eval (.Call (.Attribute o m apos) [] [] pos) X.env = (do
      let ov ← eval o X.env; standAt apos.atName
      let (f, first) ← holding [ov] (getMethod ov m pl); callWith pos f first (backTo pos (starEach [] X.env)) (backToKw pos (keywordEach [] X.env))) := by rfl) :
    PE X (.Call (.Attribute o m apos) [] [] pos) (tMeth C m sp dvs E0 ta tNil) := by
  obtain ⟨f, fd, ds, F, hm, hb, hd⟩ := D.ex
  exact pe_meth0 he c hm F (hr.mono hk) hb hd pass0 ht
theorem pe_mdX (D : MDf X.prog X.w X.K X.mg X.base (L2.CX X.prog X.w) k C m ps dvs sp) (c : Cls X.K C) (tk : Takes X W) (hr : Room j X.A) (hk : k ≤ j) (he : PE X o ta) (ha : PA X (e :: es) t)
    (hst : starEach (e :: es) X.env = (false, eval e X.env) :: starEach es X.env := by rfl) (hpl : (backTo pos (starEach es X.env)).any (·.1) = false := by rfl)
    (ht : eval (.Call (.Attribute o m apos) (e :: es) [] pos) X.env = (do
      let ov ← eval o X.env; standAt apos.atName
      let (f, first) ← holding [ov] (getMethod ov m pl); callWith pos f first (backTo pos (starEach (e :: es) X.env)) (backToKw pos (keywordEach [] X.env))) := by rfl) :
    PE X (.Call (.Attribute o m apos) (e :: es) [] pos) (tMethS C m sp dvs (WE W) ta t) := by
  obtain ⟨f, fd, ds, F, hm, hb, hd⟩ := D.ex
  refine ⟨fun pins s σ H Q I h => PySem.W.methodCall_KW (pl := pl) (thn (he.run pins s σ H _ I h) fun u s1 ⟨x, H1, I1, rx, a, dx, fs, ex, ea, l, q⟩ => ?_) ht⟩
  subst ex
  obtain rfl : u = Value.ref a := rx
  refine getmeth_ok I1 ea c hm l (PySem.W.callWith_K (first := [.ref a]) (h₀ := X.base) I1.ok.mod.kin hm.kp (thn (ha.run pos pins s1 σ H1 _ I1 q) fun us s2 ⟨vs, H2, I2, r, q2⟩ => ⟨I2.kIn, ?_⟩) hst hpl)
  exact run_fnSD (us := .ref a :: us) (vs := .ref a :: vs) F (hr.mono hk) hb hd (passAt tk σ) I2 (.cons rfl r) q2
theorem pe_mdX0 (D : MDf X.prog X.w X.K X.mg X.base (L2.CX X.prog X.w) k C m ps dvs sp) (c : Cls X.K C) (tk : Takes X W) (hr : Room j X.A) (hk : k ≤ j) (he : PE X o ta)
    (ht : eval (.Call (.Attribute o m apos) [] [] pos) X.env = (do
      let ov ← eval o X.env; standAt apos.atName
      let (f, first) ← holding [ov] (getMethod ov m pl); callWith pos f first (backTo pos (starEach [] X.env)) (backToKw pos (keywordEach [] X.env))) := by rfl) :
    PE X (.Call (.Attribute o m apos) [] [] pos) (tMethS C m sp dvs (WE W) ta tNil) := by
  obtain ⟨f, fd, ds, F, hm, hb, hd⟩ := D.ex
  refine ⟨fun pins s σ H Q I h => PySem.W.methodCall_KW (pl := pl) (thn (he.run pins s σ H _ I h) fun u s1 ⟨x, H1, I1, rx, a, dx, fs, ex, ea, l, q⟩ => ?_) ht⟩
  subst ex
  obtain rfl : u = Value.ref a := rx
  refine getmeth_ok I1 ea c hm l ?_
  exact PySem.W.callWith_K0 (first := [.ref a]) I1.kIn hm.kp (run_fnSD (us := [.ref a]) (vs := [.ref a]) F (hr.mono hk) hb hd (passAt tk σ) I1 (.cons rfl .nil) q)
end
/-- a property by its class -/
structure PDf (P : Program) (w : World) (K : PySem.W.Frag) (mg : Str → Option Value) (base : Heap) (k : Nat) (C : Addr) (f : Str) (sp : Sp) : Prop where
  ex : ∃ (p g : Addr) (fd : FuncData), PropOf K C f p g ∧ FnOk P w K mg base CX0 k g fd ["self"] sp ∧ Binds K fd ["self"] []
theorem pe_pd {X : Cx} {k j : Nat} {C : Addr} {f : Str} {sp : Sp} {e : Expr} {ta : TE} {pos : Pos} (D : PDf X.prog X.w X.K X.mg X.base k C f sp) (c : Cls X.K C) (hr : Room j X.A) (hk : k + 1 ≤ j) (he : PE X e ta)
    (hab : attributeBase e f X.env (eval e X.env) = eval e X.env := by rfl) : PE X (.Attribute e f pos) (tProp C sp [] E0 ta) := by
  obtain ⟨p, g, fd, hp, F, hb⟩ := D.ex
  exact pe_prop he c hp F (hr.mono hk) hb .nil pass0 hab
/-! ### own errors with fields -/
structure ErrC (K : PySem.W.Frag) (mg : Str → Option Value) (x : Str) (C fI : Addr) : Prop where
  gC : mg x = some (.ref C)
  ox : OexC K C
  xf : XfC K C
  iC : PySem.W.findIn K (.ref C) "__init__" = some (some (.ref fI))
  tI : PySem.W.typeIn K (.ref fI) = some (.type "function")
/-- __init__(self, v): the fields fs v are laid -/
def spErr (C : Addr) (fs : V → List (Str × V)) : Sp := fun vs H Q _ => ∃ (a : Addr) (v : V), vs = [.ref a, v] ∧ H a = some (exo a C none) ∧
  ∀ (d : Addr) (H' : Hp), H d = none → d ≠ a → H' a = some (exo a C (some d)) → H' d = some (exd d (fs v)) → (∀ b, b ≠ a → b ≠ d → H' b = H b) → Q .non H'
structure EDf (P : Program) (w : World) (K : PySem.W.Frag) (mg : Str → Option Value) (base : Heap) (k : Nat) (x : Str) (C : Addr) (p : Str) (fs : V → List (Str × V)) : Prop where
  ex : ∃ (fI : Addr) (fd : FuncData), ErrC K mg x C fI ∧ FnOk P w K mg base CX0 k fI fd ["self", p] (spErr C fs) ∧ Binds K fd ["self", p] []
def tMkE (C : Addr) (fs : V → List (Str × V)) (ta : TA) : L2.St → Hp → XK → Prop := tMkO C (spErr C fs) [] ta
theorem pmk_ed {X : Cx} {k j : Nat} {x q : Str} {C : Addr} {fs : V → List (Str × V)} {e : Expr} {ta : TA} {p pos : Pos} (D : EDf X.prog X.w X.K X.mg X.base k x C q fs) (kC : PySem.W.keepIn X.K (.ref C) = true) (hr : Room j X.A) (hk : k + 1 ≤ j) (hg : Gl X x) (ha : PA X [e] ta)
    (hdb : (x == ("__debug__" : Str)) = false := by decide) (he : starEach [e] X.env = (false, eval e X.env) :: starEach [] X.env := by rfl) (hpl : (backTo pos (starEach [] X.env)).any (·.1) = false := by rfl) :
    PMk X (.Call (.Name x p) [e] [] pos) (tMkE C fs ta) := by
  obtain ⟨fI, fd, T, F, hb⟩ := D.ex
  exact pmk_oex T.ox T.iC T.tI F (hr.mono hk) hb .nil pass0 hg T.gC ha hdb he hpl
theorem upd_del {H1 H2 : Hp} {a d : Addr} {o : HO} (ha : H1 a = none) (e : ∀ b, b ≠ a → b ≠ d → H2 b = H1 b) (hd : d ≠ a) : upd (del H2 a) d o = upd H1 d o := by
  funext b
  by_cases h1 : b = d
  · rw [h1, upd_same, upd_same]
  · rw [upd_ne h1, upd_ne h1]
    by_cases h2 : b = a
    · rw [h2, del_same, ha]
    · rw [del_ne h2]
      exact e b h2 h1
/-- what the making of such an error asks -/
theorem mke {C : Addr} {fs : V → List (Str × V)} {vs : List V} {H1 : Hp} {Q : XK} (v : V) (hv : vs = [v]) (h : ∀ d, H1 d = none → Q (.ref C) (some d) (upd H1 d (.xd (fs v)))) :
    vs.length ≤ 1000 ∧ ∀ a, H1 a = none → spErr C fs (.ref a :: (vs ++ [])) (upd H1 a (exo a C none))
      (fun v H2 => v = .non ∧ ∃ (d : Addr) (fs : List (Str × V)), H2 a = some (exo a C (some d)) ∧ H2 d = some (exd d fs) ∧ H1 d = none ∧ Q (.ref C) (some d) (upd (del H2 a) d (.xd fs))) (fun _ _ _ => False) := by
  subst hv
  refine ⟨by show 1 ≤ 1000; omega, fun a ha => ⟨a, v, rfl, upd_same, fun d H' hd hda e1 e2 e3 => ⟨rfl, d, fs v, e1, e2, ?_, ?_⟩⟩⟩
  · rw [upd_ne hda] at hd
    exact hd
  · rw [upd_ne hda] at hd
    rw [upd_del ha (fun b h1 h2 => by rw [e3 b h1 h2, upd_ne h1]) hda]
    exact h d hd
end IC
namespace IC
open PySem PySem.Spec PyProof.Rows L2
/-! ### sets of texts that can be walked -/
def tk (e : Int × Value) : Str := match e.2 with
  | .str z _ => z
  | _ => Str.empty
def TxE (w : World) (e : Int × Value) : Prop := ∃ z k, e.2 = Value.str z k ∧ e.1 = hashStr w z
/-- at a a set of the texts L, none of them twice -/
def TxS (w : World) (h : Heap) (a : Addr) (L : List Str) : Prop :=
  ∃ o es ep t, h.get? a = some o ∧ o.ExactSet ∧ o.data = .set es ep t ∧ (∀ e ∈ es.toList, TxE w e) ∧ (es.toList.map tk).Perm L ∧ L.Nodup ∧ es.size < scanBound ∧ t.fits es.size = true ∧ Ris t.place.toList ∧ (w.params.followText "set-order" = true ∨ t.led = true)
section
variable {P : Program} {w : World} {h h' : Heap} {a : Addr} {L M : List Str}
theorem TxS.keep (R : TxS w h a L) (k : ∀ o, h.get? a = some o → h'.get? a = some o) : TxS w h' a L := by
  rcases R with ⟨o, es, ep, t, at_, r⟩
  exact ⟨o, es, ep, t, k o at_, r⟩
theorem TxS.perm (R : TxS w h a L) (p : L.Perm M) : TxS w h a M := by
  rcases R with ⟨o, es, ep, t, r1, r2, r3, r4, r5, r6, r7⟩
  exact ⟨o, es, ep, t, r1, r2, r3, r4, r5.trans p, p.nodup_iff.mp r6, r7⟩
theorem tx_elems {l : List (Int × Value)} (g : ∀ e ∈ l, TxE w e) : ElemsOf (PySem.strKind P w) l := fun e he => by
  rcases g e he with ⟨z, k, e1, e2⟩
  refine ⟨⟨z, ?_, e2⟩, ?_⟩
  · rw [e1]
    exact strKind_is P w z k
  · rw [e1]
    rfl
theorem tx_is {e : Int × Value} (g : TxE w e) (z : Str) : (PySem.strKind P w).is z e.2 = true ↔ tk e = z := by
  rcases g with ⟨y, k, e1, _⟩
  unfold tk
  rw [e1]
  show ((y == z) = true) ↔ y = z
  exact beq_iff_eq
end
section
variable {P : Program} {w : World} {A : Around} {E : Value → Shared → Prop} {s : Shared} {a : Addr} {L : List Str}
/-- the table is stored, and laid anew where it is too full -/
theorem tx_store {say : Bool → Sem Unit} (quiet : ∀ (b : Bool) (u : Shared) (R : Unit → Shared → Prop), R () u → wpAny (model P w) A (say b) R E u) {o : Obj} {es es1 : Array (Int × Value)} {ep : Nat} {t t1 : SetTable} (at_ : s.heap.get? a = some o) (ex : o.ExactSet) (dt : o.data = .set es ep t)
    (g : ∀ e ∈ es1.toList, TxE w e) (pm : (es1.toList.map tk).Perm L) (nd : L.Nodup) (few : es1.size < scanBound) (fit : t1.fits es1.size = true) (ris : Ris t1.place.toList) (led : w.params.followText "set-order" = true ∨ t1.led = true) {dummy : Bool} {R : Option Bool → Shared → Prop}
    (fin : ∀ h', Heap.SameBut a s.heap h' → TxS w h' a L → R (some true) { s with heap := h' }) :
    wpAny (model P w) A (do
      storeSet a es1 t1
      if (!dummy && t1.tooFull) = true then do
        say (relayAll t1 es1 (SetTable.grown es1.size)).2.2
        storeSet a (relayAll t1 es1 (SetTable.grown es1.size)).1 (relayAll t1 es1 (SetTable.grown es1.size)).2.1
        pure (some true)
      else pure (some true)) R E s := by
  have at1 := store_at (es' := es1) (t' := t1) at_ dt
  have sb := Heap.SameBut.update s.heap a (Obj.putSet es1 t1)
  refine wpAny_bind (wpAny_storeSet_of at_ dt ?_ (fits_of_scanBound few))
  by_cases full : (!dummy && t1.tooFull) = true
  · rw [if_pos full]
    have q1 := relayAll_perm t1 es1 (SetTable.grown es1.size)
    have q2 := relayAll_fits t1 es1 (SetTable.grown es1.size)
    have q3 := relayAll_ris t1 es1 (SetTable.grown es1.size)
    have q4 := relayAll_led t1 es1 (SetTable.grown es1.size)
    generalize relayAll t1 es1 (SetTable.grown es1.size) = Z at q1 q2 q3 q4 ⊢
    rcases Z with ⟨es2, t2, way⟩
    have size : es2.size = es1.size := by rw [← Array.length_toList, ← Array.length_toList]; exact q1.length_eq
    have few2 : es2.size < scanBound := by rw [size]; exact few
    refine wpAny_bind (quiet _ _ _ (wpAny_bind (wpAny_storeSet_of at1 rfl ?_ (fits_of_scanBound few2))))
    refine wpAny_pure (fin _ (sb.trans (Heap.SameBut.update _ a _)) ⟨_, es2, _, t2, store_at (es' := es2) (t' := t2) at1 rfl, ex, rfl, fun e he => g e (q1.mem_iff.mp he), (q1.map tk).trans pm, nd, few2, q2, q3, led.imp id fun z => ?_⟩)
    exact Eq.trans q4 z
  · rw [if_neg full]
    exact wpAny_pure (fin _ sb ⟨_, es1, _, t1, at1, ex, rfl, g, pm, nd, few, fit, ris, led⟩)
/-- z is added: the members are those of L, and z -/
theorem tx_add {z : Str} {k : Tok} {Q : Bool → Shared → Prop} (R : TxS w s.heap a L) (room : L.length + 1 < scanBound)
    (fin : ∀ h' b M, Heap.SameBut a s.heap h' → TxS w h' a M → M.length ≤ L.length + 1 → (∀ y, y ∈ M ↔ y ∈ L ∨ y = z) → Q b { s with heap := h' }) :
    wpAny (model P w) A (setAddHashed a (.str z k) ((PySem.strKind P w).hash z)) Q E s := by
  rcases R with ⟨o, es, ep, t, at_, ex, dt, g, pm, nd, few, fit, ris, led⟩
  have mine : (PySem.strKind P w).is z (.str z k) = true := strKind_is P w z k
  have scan : (Value.str z k).scannable = true := rfl
  have els : ElemsOf (PySem.strKind P w) es.toList := tx_elems g
  have size : es.size = L.length := by
    rw [← Array.length_toList, ← pm.length_eq, List.length_map]
  unfold setAddHashed setAddHashedIn
  refine wpAny_holding (wpAny_bind (wpAny_setState_of at_ dt fit ?_))
  dsimp only
  rw [byScan_of scan few els, if_pos rfl]
  unfold setAddByScan
  refine wpAny_bind (wpAny_bind (wpAny_rule (wpAny_bind (wpAny_setScan_of mine at_ dt fit els ?_))))
  cases find : List.findIdx? (fun e => (PySem.strKind P w).is z e.2) es.toList with
  | some j =>
    rcases List.findIdx?_eq_some_iff_getElem.mp find with ⟨hj, pj, _⟩
    have there : z ∈ L := pm.mem_iff.mp (List.mem_map.mpr ⟨es.toList[j], List.getElem_mem hj, (tx_is (P := P) (g _ (List.getElem_mem hj)) z).mp pj⟩)
    dsimp only
    refine wpAny_pure (wpAny_pure (fin s.heap _ L (Heap.SameBut.refl a s.heap) ⟨o, es, ep, t, at_, ex, dt, g, pm, nd, few, fit, ris, led⟩ (Nat.le_succ _) fun y => ⟨.inl, fun q => q.elim id fun e => e ▸ there⟩))
  | none =>
    have new : z ∉ L := fun q => by
      rcases List.mem_map.mp (pm.mem_iff.mpr q) with ⟨e, he, q2⟩
      have c := List.findIdx?_eq_none_iff.mp find e he
      rw [(tx_is (P := P) (g e he) z).mpr q2] at c
      cases c
    dsimp only
    have q1 := layNew_perm t es ((PySem.strKind P w).hash z) (.str z k)
    have q2 := layNew_fits t es ((PySem.strKind P w).hash z) (.str z k)
    have q3 := layNew_ris t es ((PySem.strKind P w).hash z) (.str z k) ris
    have q4 := layNew_led t es ((PySem.strKind P w).hash z) (.str z k)
    generalize layNew t es ((PySem.strKind P w).hash z) (.str z k) = Z at q1 q2 q3 q4 ⊢
    rcases Z with ⟨es1, t1, dummy, way⟩
    dsimp only at q1 q2 q3 q4 ⊢
    rw [Array.toList_push] at q1
    have pc : es1.toList.Perm (((PySem.strKind P w).hash z, Value.str z k) :: es.toList) := q1.trans (List.perm_append_singleton _ _)
    have pk : (es1.toList.map tk).Perm (z :: L) := (pc.map tk).trans (pm.cons z)
    have g1 : ∀ e ∈ es1.toList, TxE w e := fun e he => by
      rcases List.mem_cons.mp (pc.mem_iff.mp he) with y | y
      · rw [y]
        exact ⟨z, k, rfl, rfl⟩
      · exact g e y
    have few1 : es1.size < scanBound := by
      have e := pk.length_eq
      rw [List.length_map, Array.length_toList, List.length_cons] at e
      omega
    have led1 : w.params.followText "set-order" = true ∨ t1.led = true := led.imp id fun y => Eq.trans q4 y
    have out : ∀ h', Heap.SameBut a s.heap h' → TxS w h' a (z :: L) → Q true { s with heap := h' } := fun h' sb r => fin h' _ _ sb r (Nat.le_refl _) fun y => by
      rw [List.mem_cons]
      exact Or.comm
    have says : ∀ (b : Bool) (u : Shared) (R : Unit → Shared → Prop), R () u → wpAny (model P w) A (match b with | true => rule "set.scan.the-table-gave-way" | false => pure ()) R E u := fun b u R r => by
      cases b
      · exact wpAny_pure r
      · exact wpAny_rule r
    refine wpAny_bind (says _ _ _ ?_)
    split
    · refine wpAny_bind ?_
      rw [hashByValue_scannable 8 scan]
      refine wpAny_pure ?_
      refine tx_store says at_ ex dt g1 pk (List.nodup_cons.mpr ⟨new, nd⟩) few1 ?_ ?_ ?_ fun h' sb r => ?_
      · first | exact q2 | (split <;> first | exact q2 | exact SetTable.fits_plain_off q2)
      · first | exact q3 | (split <;> exact q3)
      · first | exact led1 | (split <;> exact led1)
      · exact wpAny_pure (out h' sb r)
    · refine wpAny_bind (wpAny_pure ?_)
      rw [if_pos rfl]
      refine tx_store says at_ ex dt g1 pk (List.nodup_cons.mpr ⟨new, nd⟩) few1 q2 q3 led1 fun h' sb r => ?_
      exact wpAny_pure (out h' sb r)
end
end IC
namespace IC
open PySem PySem.Spec PyProof.Rows L2
def new0 (w : World) : Obj := { cls := .type "set", dict := none, data := .set #[] 0 (.fresh 0 0 (!w.params.followText "set-order")) }
theorem tx_new {w : World} {h : Heap} {a : Addr} (e : h.get? a = some (new0 w)) : TxS w h a [] := by
  refine ⟨_, #[], 0, _, e, ⟨rfl, rfl, rfl⟩, rfl, fun e he => by simp at he, by simp, by simp, by decide, by rfl, List.Pairwise.nil, ?_⟩
  show _ ∨ (!w.params.followText "set-order") = true
  cases w.params.followText "set-order" <;> simp
theorem txs_at {us : List Value} {xs : List Str} (h : StrsAre us xs) : ∀ (i : Nat) (v : Value), us[i]? = some v → ∃ t, v = .str (xs.getD i Str.empty) t := by
  induction h with
  | nil => exact fun i v e => by simp at e
  | cons z t _ ih =>
    intro i v e
    cases i with
    | zero =>
      injection e with e
      exact ⟨t, e.symm⟩
    | succ j => exact ih j v e
section
variable {P : Program} {w : World} {A : Around}
/-- the loop that puts the texts xs into the set at S -/
theorem set_loop {I : Addr} {fp wr : List Addr} {G : Array GenState → Array GenState → Prop} {n : Nat} {Pv : Nat → Value → Prop} {St : Nat → Shared → Prop} {R : Result → Shared → Prop} (W : WalksS P w A.in1 I fp wr G n Pv St) (S : Addr) (out : S ∉ fp) (xs : List Str) (many : xs.length = n) (few : xs.length + 1 < scanBound)
    (val : ∀ i v, Pv i v → ∃ t, v = .str (xs.getD i Str.empty) t) (h0 : Heap) (new : ∀ b ∈ S :: wr, h0.get? b = none) : ∀ (k i : Nat) (s : Shared), n - i = k → i ≤ n → St i s →
      (∃ M, TxS w s.heap S M ∧ M.length ≤ i ∧ ∀ z, z ∈ M ↔ z ∈ xs.take i) → (∀ b o, h0.get? b = some o → s.heap.get? b = some o) →
      (∀ t M, Moved (S :: wr) G s t → TxS w t.heap S M → M.length ≤ n → (∀ z, z ∈ M ↔ z ∈ xs.take n) → (∀ b o, h0.get? b = some o → t.heap.get? b = some o) → R (.ok (.ret .none)) t) →
      codeAny (model P w) A (.builtin "set.update.loop" ⟨[.ref S, .ref I], []⟩) R s := by
  have nw : S ∉ wr := fun h => out (W.sub _ h)
  have up : ∀ b ∈ wr, b ∈ S :: wr := fun b hb => List.mem_cons_of_mem _ hb
  intro k
  induction k with
  | zero =>
    rintro i s hk hi st ⟨M, RM, len, mem⟩ old fin
    obtain rfl : i = n := by omega
    refine codeAny_builtin F.entry_set_update_loop ?_
    rw [Around.under_plainId F.plain_set_update_loop _]
    show wpAny _ A.in1 (pyNext (.ref I) >>= _) _ _ s
    refine wpAny_bind (W.done s _ _ st fun t mv => ?_)
    show wpAny _ A.in1 (ret Value.none) _ _ t
    exact wpAny_pure (fin t M (mv.mono up) (RM.keep fun o e => mv.heap S o nw e) len mem fun b o e => mv.heap b o (fun hb => by rw [new b (up b hb)] at e; cases e) (old b o e))
  | succ k ih =>
    rintro i s hk hi st ⟨M, RM, len, mem⟩ old fin
    have lt : i < n := by omega
    refine codeAny_builtin F.entry_set_update_loop ?_
    rw [Around.under_plainId F.plain_set_update_loop _]
    show wpAny _ A.in1 (pyNext (.ref I) >>= _) _ _ s
    refine wpAny_bind (W.item i s _ _ lt st fun v t hv st1 mv => ?_)
    rcases val i v hv with ⟨tok, rfl⟩
    have RM1 : TxS w t.heap S M := RM.keep fun o e => mv.heap S o nw e
    show wpAny _ A.in1 (holding [Value.str (xs.getD i Str.empty) tok] (setAdd S (.str (xs.getD i Str.empty) tok)) >>= _) _ _ t
    refine wpAny_bind (wpAny_holding ?_)
    unfold setAdd
    refine wpAny_holding (wpAny_bind ((PySem.strKind P w).pyHash (k := xs.getD i Str.empty) (strKind_is P w _ _) ?_))
    refine tx_add (s := { t with toks := t.toks + 1 }) RM1 (by omega) fun h' b M' sb R2 len2 mem2 => ?_
    have hx : xs[i]? = some (xs.getD i Str.empty) := by
      have hi2 : i < xs.length := by omega
      rw [List.getD_eq_getElem?_getD, List.getElem?_eq_getElem hi2]
      rfl
    refine wpAny_pure ⟨plainId_quiet F.plain_set_update_loop _, ih (i + 1) _ (by omega) lt (W.frame _ t _ _ st1 (Nat.le_succ _) fun b hb o e => ?_) ⟨M', R2, by omega, fun z => ?_⟩ (fun b o e => ?_) fun t2 M2 mv2 R3 l3 m3 old3 => ?_⟩
    · rw [sb.2 b fun e1 => out (e1 ▸ hb)]
      exact e
    · rw [mem2 z, mem z, List.take_add_one, hx]
      simp
    · have ne : b ≠ S := fun e1 => by
        rw [e1, new S List.mem_cons_self] at e
        cases e
      rw [sb.2 b ne]
      exact mv.heap b o (fun hb => by rw [new b (up b hb)] at e; cases e) (old b o e)
    · refine fin t2 M2 (Moved.trans W.gtrans ((mv.mono up).then_heap (Nat.le_succ _) fun b o hb e => ?_) mv2) R3 l3 m3 old3
      rw [sb.2 b fun e1 => hb (by rw [e1]; exact List.mem_cons_self)]
      exact e
end
section
variable {P : Program} {w : World} {A : Around} {E : Value → Shared → Prop} {s : Shared}
set_option maxHeartbeats 8000000 in
theorem call_set_lst {l : Addr} {items : Array Value} {xs : List Str} {Q : Value → Shared → Prop} (calm : A.handled = none) (isl : s.heap.IsList l items) (are : StrsAre items.toList xs) (few : xs.length + 1 < scanBound)
    (fin : ∀ (h' : Heap) (tk : Nat) (M : List Str), TxS w h' s.heap.objs.size M → M.length ≤ xs.length → (∀ z, z ∈ M ↔ z ∈ xs) → (∀ b o, s.heap.get? b = some o → h'.get? b = some o) → Q (.ref s.heap.objs.size) { s with heap := h', toks := tk }) :
    wpAny (model P w) A (call (.type "set") [.ref l]) Q E s := by
  have many : xs.length = items.size := by rw [← StrsAre.len_eq are, Array.length_toList]
  rcases F.called_set.mro with ⟨_, _, mro⟩
  have made := F.called_set.made
  have sub := F.called_set.sub
  refine wpAny_call (codeAny_of_tree ?_)
  show wpAny _ _ (callAny (.type "set") _) _ _ _
  refine wpAny_pure ⟨Code.quiet_builtin _ (by decide +kernel), codeAny_builtin F.entry_type_call ?_⟩
  rw [Around.under_plain (weight_type_call_type "set" [.ref l] []) rfl]
  have noT := F.called_set.notType
  have can := F.called_set.canCreate
  have one := F.typeCall_set_1 (.ref l)
  repeat (any_goals (first | assumption | wp_step))
  refine codeAny_mono (code_set_led1 (.ref l) (E := E) (Q₁ := fun v t => v = .ref s.heap.objs.size ∧ t = { s with heap := s.heap.push (new0 w) }) ⟨rfl, rfl⟩) fun r t made1 => ?_
  cases r with
  | error e => exact made1
  | ok fl =>
    cases fl with
    | next => exact made1.elim
    | brk => exact made1.elim
    | cont => exact made1.elim
    | ret v =>
    rcases made1 with ⟨rfl, rfl⟩
    have at_ : (s.heap.push (new0 w)).get? s.heap.objs.size = some (new0 w) := Heap.get?_push_size _ rfl
    have isT : Shared.TypeIs { s with heap := s.heap.push (new0 w) } (.ref s.heap.objs.size) "set" := ⟨_, at_, rfl⟩
    have look := F.called_set.init.lookup
    have bind := F.called_set.init.bind (.ref s.heap.objs.size)
    repeat (any_goals (first | assumption | wp_step))
    refine codeAny_mono (codeAny_call_builtin (R := wants (fun r t => r = .none ∧ ∃ h' tk M, t = { s with heap := h', toks := tk } ∧ TxS w h' s.heap.objs.size M ∧ M.length ≤ xs.length ∧ (∀ z, z ∈ M ↔ z ∈ xs) ∧ ∀ b o, s.heap.get? b = some o → h'.get? b = some o) E)
      F.called_set.init.plain F.entry_set_init (check_set_init_1 isT ?_)) fun r2 t2 filled => ?_
    · rcases isl with ⟨⟨kl, dl, xl, sl⟩, atl, rfl, nl, dt⟩
      have dt : xl = .seq items nl := dt
      subst dt
      have atl1 : (s.heap.push (new0 w)).get? l = some _ := Heap.get?_push_of_some _ atl
      have no1 := F.sub_list_set
      have no2 := F.sub_list_frozenset
      have no3 : (Value.type "list" == Value.type "dict") = false := by decide
      have isl1 : (s.heap.push (new0 w)).IsList l items := ⟨_, atl1, rfl, nl, rfl⟩
      unfold Builtin.«set.__init__» noKeywords Builtin.Frozenset.updateFrom
      generalize it : pyIter = IT
      wp_walk
      subst it
      refine wpAny_pyIter_list isl1 (wpAny_bind (wpAny_runValue ?_))
      have size : (s.heap.push (new0 w)).objs.size = s.heap.objs.size + 1 := Heap.size_push ..
      have ltl : l < s.heap.objs.size := Heap.lt_size atl
      have calm3 : A.in1.in1.in1.handled = none := calm
      have neI : l ≠ (s.heap.push (new0 w)).objs.size := fun e => by
        rw [e, size] at ltl
        exact absurd ltl (Nat.not_lt.mpr (Nat.le_succ _))
      refine set_loop ((Walks.list calm3 _ l neI items).toS) s.heap.objs.size ?_ xs many few (fun i v hv => txs_at are i v (by rw [Array.getElem?_toList]; exact hv)) s.heap ?_ (items.size - 0) 0 _ (by omega) (Nat.zero_le _)
        ⟨⟨_, Heap.get?_push_size _ rfl, rfl, rfl⟩, isl1.push _⟩ ⟨[], tx_new (Heap.get?_push_of_some _ at_), Nat.le_refl _, fun z => by simp⟩ (fun b o e => Heap.get?_push_of_some _ (Heap.get?_push_of_some _ e)) fun t3 M mv R len mem old => ?_
      · rw [size]
        simp only [List.mem_cons, List.not_mem_nil, or_false, not_or]
        exact ⟨Nat.ne_of_lt (Nat.lt_succ_self _), fun e => Nat.lt_irrefl _ (e ▸ ltl)⟩
      · intro b hb
        rw [size] at hb
        have lt : s.heap.objs.size ≤ b := by
          simp only [List.mem_cons, List.not_mem_nil, or_false] at hb
          rcases hb with e | e
          · rw [e]
            exact Nat.le_refl _
          · rw [e]
            exact Nat.le_succ _
        cases e : s.heap.get? b with
        | none => rfl
        | some o => exact absurd (Heap.lt_size e) (Nat.not_lt.mpr lt)
      · rcases t3 with ⟨h3, g3, d3, k3, o3⟩
        have e1 : g3 = s.gens := mv.gens
        have e2 : d3 = s.drawn := mv.drawn
        have e3 : o3 = s.os := mv.os
        subst e1
        subst e2
        subst e3
        show wpAny _ _ _ _ _ _
        refine wpAny_pure ?_
        show wpAny _ _ (ret Value.none) _ _ _
        rw [← many] at len
        refine wpAny_pure ⟨rfl, h3, k3, M, rfl, R, len, fun z => ?_, old⟩
        rw [mem z, ← many, List.take_length]
    · cases r2 with
      | error e => exact filled
      | ok fl2 =>
        cases fl2 with
        | next => exact filled.elim
        | brk => exact filled.elim
        | cont => exact filled.elim
        | ret v =>
        rcases filled with ⟨rfl, h', tk, M, rfl, R, len, mem, old⟩
        repeat (any_goals (first | assumption | wp_step))
        exact fin h' tk M R len mem old
set_option maxHeartbeats 8000000 in
theorem call_set_tup {l : Addr} {items : Array Value} {xs : List Str} {Q : Value → Shared → Prop} (calm : A.handled = none) (isl : s.heap.IsTuple l items) (are : StrsAre items.toList xs) (few : xs.length + 1 < scanBound)
    (fin : ∀ (h' : Heap) (tk : Nat) (M : List Str), TxS w h' s.heap.objs.size M → M.length ≤ xs.length → (∀ z, z ∈ M ↔ z ∈ xs) → (∀ b o, s.heap.get? b = some o → h'.get? b = some o) → Q (.ref s.heap.objs.size) { s with heap := h', toks := tk }) :
    wpAny (model P w) A (call (.type "set") [.ref l]) Q E s := by
  have many : xs.length = items.size := by rw [← StrsAre.len_eq are, Array.length_toList]
  rcases F.called_set.mro with ⟨_, _, mro⟩
  have made := F.called_set.made
  have sub := F.called_set.sub
  refine wpAny_call (codeAny_of_tree ?_)
  show wpAny _ _ (callAny (.type "set") _) _ _ _
  refine wpAny_pure ⟨Code.quiet_builtin _ (by decide +kernel), codeAny_builtin F.entry_type_call ?_⟩
  rw [Around.under_plain (weight_type_call_type "set" [.ref l] []) rfl]
  have noT := F.called_set.notType
  have can := F.called_set.canCreate
  have one := F.typeCall_set_1 (.ref l)
  repeat (any_goals (first | assumption | wp_step))
  refine codeAny_mono (code_set_led1 (.ref l) (E := E) (Q₁ := fun v t => v = .ref s.heap.objs.size ∧ t = { s with heap := s.heap.push (new0 w) }) ⟨rfl, rfl⟩) fun r t made1 => ?_
  cases r with
  | error e => exact made1
  | ok fl =>
    cases fl with
    | next => exact made1.elim
    | brk => exact made1.elim
    | cont => exact made1.elim
    | ret v =>
    rcases made1 with ⟨rfl, rfl⟩
    have at_ : (s.heap.push (new0 w)).get? s.heap.objs.size = some (new0 w) := Heap.get?_push_size _ rfl
    have isT : Shared.TypeIs { s with heap := s.heap.push (new0 w) } (.ref s.heap.objs.size) "set" := ⟨_, at_, rfl⟩
    have look := F.called_set.init.lookup
    have bind := F.called_set.init.bind (.ref s.heap.objs.size)
    repeat (any_goals (first | assumption | wp_step))
    refine codeAny_mono (codeAny_call_builtin (R := wants (fun r t => r = .none ∧ ∃ h' tk M, t = { s with heap := h', toks := tk } ∧ TxS w h' s.heap.objs.size M ∧ M.length ≤ xs.length ∧ (∀ z, z ∈ M ↔ z ∈ xs) ∧ ∀ b o, s.heap.get? b = some o → h'.get? b = some o) E)
      F.called_set.init.plain F.entry_set_init (check_set_init_1 isT ?_)) fun r2 t2 filled => ?_
    · rcases isl with ⟨⟨kl, dl, xl, sl⟩, atl, rfl, nl, dt⟩
      have dt : xl = .seq items nl := dt
      subst dt
      have atl1 : (s.heap.push (new0 w)).get? l = some _ := Heap.get?_push_of_some _ atl
      have no1 := F.sub_tuple_set
      have no2 := F.sub_tuple_frozenset
      have no3 : (Value.type "tuple" == Value.type "dict") = false := by decide
      have isl1 : (s.heap.push (new0 w)).IsTuple l items := ⟨_, atl1, rfl, nl, rfl⟩
      unfold Builtin.«set.__init__» noKeywords Builtin.Frozenset.updateFrom
      generalize it : pyIter = IT
      wp_walk
      subst it
      refine wpAny_pyIter_tuple isl1 (wpAny_bind (wpAny_runValue ?_))
      have size : (s.heap.push (new0 w)).objs.size = s.heap.objs.size + 1 := Heap.size_push ..
      have ltl : l < s.heap.objs.size := Heap.lt_size atl
      have calm3 : A.in1.in1.in1.handled = none := calm
      have neI : l ≠ (s.heap.push (new0 w)).objs.size := fun e => by
        rw [e, size] at ltl
        exact absurd ltl (Nat.not_lt.mpr (Nat.le_succ _))
      refine set_loop ((Walks.tuple calm3 _ l neI items).toS) s.heap.objs.size ?_ xs many few (fun i v hv => txs_at are i v (by rw [Array.getElem?_toList]; exact hv)) s.heap ?_ (items.size - 0) 0 _ (by omega) (Nat.zero_le _)
        ⟨⟨_, Heap.get?_push_size _ rfl, rfl, rfl⟩, isl1.push _⟩ ⟨[], tx_new (Heap.get?_push_of_some _ at_), Nat.le_refl _, fun z => by simp⟩ (fun b o e => Heap.get?_push_of_some _ (Heap.get?_push_of_some _ e)) fun t3 M mv R len mem old => ?_
      · rw [size]
        simp only [List.mem_cons, List.not_mem_nil, or_false, not_or]
        exact ⟨Nat.ne_of_lt (Nat.lt_succ_self _), fun e => Nat.lt_irrefl _ (e ▸ ltl)⟩
      · intro b hb
        rw [size] at hb
        have lt : s.heap.objs.size ≤ b := by
          simp only [List.mem_cons, List.not_mem_nil, or_false] at hb
          rcases hb with e | e
          · rw [e]
            exact Nat.le_refl _
          · rw [e]
            exact Nat.le_succ _
        cases e : s.heap.get? b with
        | none => rfl
        | some o => exact absurd (Heap.lt_size e) (Nat.not_lt.mpr lt)
      · rcases t3 with ⟨h3, g3, d3, k3, o3⟩
        have e1 : g3 = s.gens := mv.gens
        have e2 : d3 = s.drawn := mv.drawn
        have e3 : o3 = s.os := mv.os
        subst e1
        subst e2
        subst e3
        show wpAny _ _ _ _ _ _
        refine wpAny_pure ?_
        show wpAny _ _ (ret Value.none) _ _ _
        rw [← many] at len
        refine wpAny_pure ⟨rfl, h3, k3, M, rfl, R, len, fun z => ?_, old⟩
        rw [mem z, ← many, List.take_length]
    · cases r2 with
      | error e => exact filled
      | ok fl2 =>
        cases fl2 with
        | next => exact filled.elim
        | brk => exact filled.elim
        | cont => exact filled.elim
        | ret v =>
        rcases filled with ⟨rfl, h', tk, M, rfl, R, len, mem, old⟩
        repeat (any_goals (first | assumption | wp_step))
        exact fin h' tk M R len mem old
end
end IC
namespace IC
open PySem PySem.Spec PyProof.Rows L2
def TxO (w : World) (a : Addr) (L : List Str) : HO := .ext fun h => TxS w h a L
section
variable {X : Cx}
theorem txO_ok {P : Program} {w : World} {H : Hp} {h : Heap} {a : Addr} {L : List Str} (R : TxS w h a L) : ObjOk P w H h a (TxO w a L) := by
  have R2 := R
  rcases R2 with ⟨o, _, _, _, e, _⟩
  exact ⟨R, ⟨o, e⟩, fun h1 h2 p k => TxS.keep p k⟩
/-- set(xs), xs a list or a tuple of texts -/
def rSetTx (K : PySem.W.Frag) (w : World) : List V → Hp → VK → Prop := fun vs H Q => ∃ (a : Addr) (xs : List Str), vs = [.ref a] ∧ (SqL K H a (xs.map V.str) ∨ SqT K H a (xs.map V.str)) ∧ xs.length ≤ 4000 ∧
  ∀ (p : Addr) (M : List Str), H p = none → M.length ≤ xs.length → (∀ z, z ∈ M ↔ z ∈ xs) → M.Nodup → Q (.ref p) (upd H p (TxO w p M))
theorem cr_setTx (calm : X.calm = true) : CallR X (.type "set") (rSetTx X.K X.w) := by
  rintro pins s σ H vs us Q I rel ⟨a, xs, rfl, sq, few, q⟩
  rcases vals1 rel with ⟨u, rfl, ru⟩
  cases ru
  have few2 : xs.length + 1 < scanBound := by
    show xs.length + 1 < 4096
    omega
  have fin : ∀ (h' : Heap) (tk : Nat) (M : List Str), TxS X.w h' s.heap.objs.size M → M.length ≤ xs.length → (∀ z, z ∈ M ↔ z ∈ xs) → (∀ b o, s.heap.get? b = some o → h'.get? b = some o) → EP X pins σ Q (.ref s.heap.objs.size) { s with heap := h', toks := tk } := fun h' tk M R len mem old => by
    have nd : M.Nodup := by
      rcases R with ⟨_, _, _, _, _, _, _, _, _, nd, _⟩
      exact nd
    exact ⟨.ref s.heap.objs.size, _, I.laid (t' := tk) old (Nat.le_refl _) (txO_ok R), rfl, q _ M (I.hok.fresh (Nat.le_refl _)) len mem nd⟩
  rcases sq with sq | sq
  · rcases I.list sq with ⟨its, rv, pl, _⟩
    exact call_set_lst (I.ok.hd calm) pl.isList (by simpa using rv.strs) few2 fin
  · rcases I.tuple sq with ⟨its, rv, pl, _⟩
    exact call_set_tup (I.ok.hd calm) pl (by simpa using rv.strs) few2 fin
/-- sorted(a set of texts) -/
def rSortTx (w : World) : List V → Hp → VK → Prop := fun vs H Q => ∃ (a : Addr) (M : List Str), vs = [.ref a] ∧ H a = some (TxO w a M) ∧ ∀ (ys : List Str) (p : Addr), ys.Perm M → sortedS ys = true → H p = none → Q (.ref p) (upd H p (.lst (ys.map V.str)))
theorem txs_of {w : World} : ∀ {vs : List Value} {es : List (Int × Value)}, (∀ e ∈ es, TxE w e) → vs = es.map (·.2) → StrsAre vs (es.map tk)
  | _, [], _, e => by
    subst e
    exact .nil
  | _, p :: es, g, e => by
    subst e
    rcases g p List.mem_cons_self with ⟨z, k, e1, _⟩
    have r := txs_of (vs := es.map (·.2)) (fun x hx => g x (List.mem_cons_of_mem _ hx)) rfl
    have e2 : tk p = z := by
      unfold tk
      rw [e1]
    rw [List.map_cons, List.map_cons, e1, e2]
    exact .cons z k r
theorem perm_lift {α β : Type} {f : α → β} : ∀ {ys xs : List β} (_ : ys.Perm xs) {l : List α}, xs = l.map f → ∃ l' : List α, l'.Perm l ∧ ys = l'.map f := by
  intro ys xs p
  induction p with
  | nil =>
    intro l e
    have e : l = [] := List.map_eq_nil_iff.mp e.symm
    subst e
    exact ⟨[], .nil, rfl⟩
  | cons x _ ih =>
    intro l e
    cases l with
    | nil => cases e
    | cons y l =>
      injection e with e1 e2
      rcases ih e2 with ⟨l', p', e'⟩
      exact ⟨y :: l', p'.cons y, by rw [List.map_cons, ← e', e1]⟩
  | swap x y r =>
    intro l e
    match l, e with
    | u :: v :: l, e =>
      injection e with e1 e2
      injection e2 with e2 e3
      exact ⟨v :: u :: l, .swap .., by rw [List.map_cons, List.map_cons, e1, e2, e3]⟩
  | trans _ _ ih1 ih2 =>
    intro l e
    rcases ih2 e with ⟨l2, p2, e2⟩
    rcases ih1 e2 with ⟨l1, p1, e1⟩
    exact ⟨l1, p1.trans p2, e1⟩
theorem cr_sortTx (calm : X.calm = true) : CallR X (.builtin "sorted") (rSortTx X.w) := by
  rintro pins s σ H vs us Q I rel ⟨a, M, rfl, at_, q⟩
  have R : TxS X.w s.heap a M := (I.hok a _ at_).1
  rcases vals1 rel with ⟨u, rfl, ru⟩
  cases ru
  rcases R with ⟨o, es, ep, t, ho, ex, dt, g, pm, nd, few, fit, ris, led⟩
  refine Calls.call_function_entry kind_sorted plain_sorted entry_sorted (args_sorted1 _) ?_
  unfold Builtin.«sorted»
  refine wpAny_bind (m := checkCount "sorted" 1 1 _) (wpAny_pure ?_)
  refine wpAny_bind (collect_set (A := X.A.in1) (I.ok.hd calm) ⟨o, ho, ex.1, dt⟩ fit few ris led fun t1 out old grow gens os pm2 => ?_)
  rcases perm_lift pm2 rfl with ⟨es2, p2, e2⟩
  have are : StrsAre out (es2.map tk) := txs_of (fun e he => g e (p2.mem_iff.mp he)) e2
  have pM : (es2.map tk).Perm M := (p2.map tk).trans pm
  have len : out.length ≤ sizeLine := by
    have e := p2.length_eq
    rw [e2, List.length_map, e, Array.length_toList, sizeLine_eq]
    have : es.size < 4096 := few
    omega
  refine wpAny_bind (wpAny_newList ?_ len)
  have at1 : (t1.heap.push (seqObj "list" out.toArray 0)).get? t1.heap.objs.size = some (seqObj "list" out.toArray 0) := Heap.get?_push_size _ rfl
  refine wpAny_bind (wpAny_holding (wpAny_call_entry slot_list_sort ⟨_, at1, rfl⟩ entry_list_sort (list_sort_treeKAny strKind_oneLt at1 are.keysOf (fun v1 v2 rest e => keyKind_strs (by rw [← e]; exact are)) len fun st hp hs => ⟨_, rfl, ?_⟩) (args_list_sort _)))
  rcases sorted_out_str are hp hs with ⟨ys, g1, g2, g3⟩
  rcases sortedHeap_at (vs := out) (out := (arrOf st).map (·.2)) at1 with ⟨c, hc⟩
  have lenY : (ys.map V.str).length ≤ sizeLine := by
    rw [List.length_map, g2.length_eq, ← StrsAre.length are]
    exact len
  have keep : ∀ b u, s.heap.get? b = some u → (sortedHeap (t1.heap.push (seqObj "list" out.toArray 0)) t1.heap.objs.size out ((arrOf st).map (·.2))).get? b = some u := fun b u e => by
    have e1 := old b u e
    have lt := Heap.lt_size e1
    rw [sortedHeap_old (Nat.ne_of_lt lt) (by rw [size_push']; exact Nat.lt_succ_of_lt lt)]
    exact Heap.get?_push_of_some _ e1
  have J : Inv X pins σ (upd H t1.heap.objs.size (.lst (ys.map V.str))) { s with heap := sortedHeap (t1.heap.push (seqObj "list" out.toArray 0)) t1.heap.objs.size out ((arrOf st).map (·.2)), gens := t1.gens, drawn := t1.drawn, toks := t1.toks } :=
    I.call (ch := []) (Un.laid keep grow (I.hok.fresh grow)) (I.hok.laid keep grow ⟨lenY, ((arrOf st).map (·.2)).toList, c, vals_of_strs g1, by rw [Array.toArray_toList]; exact hc⟩) (by rw [gens]; exact I.bare) (fun _ z => nomatch z)
  refine wpAny_pure ⟨_, rfl, ?_⟩
  rcases t1 with ⟨h1, g1', d1, k1, o1⟩
  have os : o1 = s.os := os
  subst os
  exact ⟨.ref h1.objs.size, _, J, rfl, q ys _ (g2.trans pM) g3 (I.hok.fresh grow)⟩
/-- sorted(a list of texts), however many -/
theorem cr_sortLT : CallR X (.builtin "sorted") (fun vs H Q => ∃ (a : Addr) (xs : List Str), vs = [.ref a] ∧ SqL X.K H a (xs.map V.str) ∧ ∀ (ys : List Str) (p : Addr), ys.Perm xs → sortedS ys = true → H p = none → Q (.ref p) (upd H p (.lst (ys.map V.str)))) := by
  rintro pins s σ H vs us Q I rel ⟨a, xs, rfl, sq, q⟩
  rcases vals1 rel with ⟨u, rfl, ru⟩
  cases ru
  rcases I.list sq with ⟨its, rv, pl, small⟩
  have e0 := rv.length
  rw [List.length_map] at e0
  rw [List.length_map] at small
  refine sorted_strsAny pl.isList rv.strs (by rw [← e0]; exact small) fun out ys h1 h2 h3 => ?_
  rcases sortedAll_at s.heap its out with ⟨ep, he⟩
  have len : (ys.map V.str).length ≤ sizeLine := by
    rw [List.length_map, h2.length_eq]
    exact small
  exact ⟨.ref _, upd H (s.heap.objs.size + 1) (.lst (ys.map V.str)), I.laid (t' := s.toks) (fun _ _ => sortedAll_old) (Nat.le_succ _) ⟨len, out.toList, ep, vals_of_strs h1, he⟩, rfl, q ys _ h2 h3 (I.hok.fresh (Nat.le_succ _))⟩
end
end IC
namespace IC
open PySem PySem.Spec PyProof.Rows L2
abbrev VSt := List (Option V)
/-! ### {k: v for x in xs}, the keys tuples of texts and numbers -/
theorem put_tup {X : Cx} {pins : List (Addr × Obj)} {σ : VSt} {H : Hp} {s : Shared} {B : Value → Shared → Prop} {D b : Addr} {kvs : List (List Key × V)} {k : List Key} {v : V} {r : Value} {Q : Unit → Shared → Prop} (room : X.A.units < cLine) (I : Inv X pins σ H s) (at_ : H D = some (.dT kvs))
    (key : H b = some (.tup (k.map kV))) (few : kvs.length < sizeLine) (rel : RelV v r) (fin : ∀ t, Inv X pins σ (upd H D (.dT (putK kvs k v))) t → Q () t) : wpAny (model X.prog X.w) X.A (dictSet D (.ref b) r) Q B s := by
  rcases dt_of I.hok at_ with ⟨z, sys, xs, kt, dd⟩
  have many : xs.length ≤ sizeLine := by
    rw [← Paired.length kt]
    exact z
  have more : (putK kvs k v).length ≤ sizeLine := Nat.le_trans (length_putK kvs k v) few
  refine wpAny_dictSet_heap (hsz := many) (show (tupleKind (mixKind X.prog X.w)).room X.A from room) (key_of I.hok key) dd fun h' dd' sb => fin _ ?_
  rcases dd' with ⟨o, es, ep, e1, e2, e3, e4, _, e5⟩
  refine d_write I (by rw [at_]; exact True.intro) sb ⟨o, e1⟩ ⟨more, sys, _, (kt.put k key rel).keeps fun c ys ec => ?_, o, es, ep, e1, e2, e3, e4, e5⟩
  rw [upd_ne (ne_of ec at_ (fun z => nomatch z))]
  exact ec
section
variable {X : Cx}
def tDct (wi : TI) (g : TG) (tt : TT) (tk tv : TE) (vs : List Nat) : TE := fun σ H Q => wi σ H fun J H1 => ∀ D, H1 D = none → ∃ W : Nat → Nat → Hp → Prop, (∃ m, W 0 m (upd H1 D (.dT []))) ∧ ∀ i m G, W i m G →
  (J.stop i G ∧ Q (.ref D) G) ∨ (J.go i G ∧ ∃ Nx : Hp → Prop, (∀ G', Nx G' → ∃ m', m' < m ∧ W (i + 1) m' G') ∧ ∀ x G', J.yld i G x G' → g x (wipe σ vs) G' fun τ G2 => wipe τ vs = wipe σ vs ∧ tt τ G2 fun b G3 =>
    if b = true then tk τ G3 fun y G4 => tv τ G4 fun z G5 => ∃ (kvs : List (List Key × V)) (k : List Key) (b : Addr), y = .ref b ∧ G5 b = some (.tup (k.map kV)) ∧ G5 D = some (.dT kvs) ∧ kvs.length < sizeLine ∧ Nx (upd G5 D (.dT (putK kvs k z))) else Nx G3)
theorem pe_dct {kx vx tg iter : Expr} {ifs : List Expr} {sc : Scope} {own : List (Str × Nat)} {pos : Pos} {wi : TI} {g : TG} {tt : TT} {tk tv : TE} (calm : X.calm = true) (nd : X.N.Nodup) (room : X.A.units < cLine) (walk : PI X tg iter wi) (blk : BlkOk X.N X.env.scope sc own)
    (hg : ∀ (s : Shared) (H : Hp) (C : Addr) (cl : List (Str × Addr)) (fp : List Addr), PG (X.blk s H sc (compEnvC sc cl C X.env) fp) tg g) (ht : ∀ (s : Shared) (H : Hp) (C : Addr) (cl : List (Str × Addr)) (fp : List Addr), PTs (X.blk s H sc (compEnvC sc cl C X.env) fp) ifs tt)
    (hk : ∀ (s : Shared) (H : Hp) (C : Addr) (cl : List (Str × Addr)) (fp : List Addr), PE (X.blk s H sc (compEnvC sc cl C X.env) fp) kx tk) (hv : ∀ (s : Shared) (H : Hp) (C : Addr) (cl : List (Str × Addr)) (fp : List Addr), PE (X.blk s H sc (compEnvC sc cl C X.env) fp) vx tv)
    (noset : ∀ x, foldedSetIterable iter X.env x = pure x := by intro _; rfl) : PE X (.DictComp kx vx [⟨tg, iter, ifs, 0⟩] sc pos) (tDct wi g tt tk tv (own.map (·.2))) := by
  constructor
  intro pins s σ H Q I wish
  rw [arm_eval_DictComp]
  have frees : ∀ y ∈ sc.names, y.2 = .free → ∃ c, X.env.cells.lookup y.1 = some c := fun y hy e => (blk.free y hy e).elim (fun q => I.ok.has _ (.inl q)) fun q => I.ok.has _ (.inr q)
  refine wpAny_comprehension_free (use := _) rfl noset (closure_ok frees) blk.kind (fun y hy e => by rw [blk.uniq y hy, e]) (thn (walk.run pins s σ H _ I wish) fun xv s1 h1 => thn h1 fun itv s2 h2 => ?_)
  rcases h2 with ⟨it, fp, tn, J, H2, rfl, I2, T, st2, out2, q⟩
  refine wpAny_newObj_type (newEnv_comp ?_)
  obtain ⟨D, hD⟩ : ∃ D, s2.heap.objs.size = D := ⟨_, rfl⟩
  rw [hD]
  rcases q D (I2.hok.fresh (Nat.le_of_eq hD)) with ⟨W, ⟨m0, w0⟩, turn⟩
  obtain ⟨s3, hs3⟩ : ∃ t : Shared, t = { s2 with heap := s2.heap.push { cls := .type "dict", data := .dict #[] } } := ⟨_, rfl⟩
  rw [← hs3]
  have up3 : s3.heap = s2.heap.push { cls := .type "dict", data := .dict #[] } := by rw [hs3]
  have I3 : Inv X pins σ (upd H2 D (.dT [])) s3 := by
    rw [hs3]
    refine I2.laid (t' := s2.toks) (fun b o e => Heap.get?_push_of_some _ e) (Nat.le_of_eq hD) ?_
    rw [← hD]
    exact dt_empty s2.heap I2.big
  have low : ∀ b ∈ fp, b < s2.heap.objs.size := fun b hb => (T.obj _ _ st2 b hb).elim fun o e => Heap.lt_size e.1
  have out3 : ∀ b ∈ fp, FpOk X pins (upd H2 D (.dT [])) b ∧ b < s3.heap.objs.size := fun b hb => by
    have lt := low b hb
    have ne : b ≠ D := by
      rw [← hD]
      exact Nat.ne_of_lt lt
    refine ⟨⟨(upd_ne ne).trans (out2 b hb).1, (out2 b hb).2⟩, ?_⟩
    rw [up3, Heap.size_push]
    exact Nat.lt_succ_of_lt lt
  have st3 : tn 0 s3.heap := T.keep _ _ _ st2 fun b _ o e => by
    rw [up3]
    exact Heap.get?_push_of_some _ e
  have I4 := block_start I3 blk nd out3
  obtain ⟨cl, hcl⟩ : ∃ l, l = cellsFrom (s3.heap.objs.size + 1) sc.names (cloFrom X.env.cells sc.names []) := ⟨_, rfl⟩
  rw [← hcl] at I4 ⊢
  obtain ⟨G3, hG3⟩ : ∃ G, G = upd H2 D (.dT []) := ⟨_, rfl⟩
  rw [← hG3] at I3 I4 out3 w0
  have pg := hg s3 G3 s3.heap.objs.size cl fp
  have pt := ht s3 G3 s3.heap.objs.size cl fp
  have pk := hk s3 G3 s3.heap.objs.size cl fp
  have pv := hv s3 G3 s3.heap.objs.size cl fp
  have loc : (compEnvC sc cl s3.heap.objs.size X.env).locals = s3.heap.objs.size := rfl
  have fp0 : ∀ b ∈ fp, G3 b = none := fun b hb => (out3 b hb).1.1
  obtain ⟨s4, hs4⟩ : ∃ t : Shared, t = { s3 with heap := pushCells (s3.heap.push { cls := .type "dict", data := .dict #[] }) sc.names } := ⟨_, rfl⟩
  show codeAny _ _ (.compStart (.DictComp kx vx [⟨tg, iter, ifs, 0⟩] sc pos) 0 (.ref it) (.ref D) (compEnvC sc cl s3.heap.objs.size X.env)) (compPost (model X.prog X.w) X.A X.xe none (EP X pins σ Q) (.ref D) s3.heap.objs.size) { s3 with heap := pushCells (s3.heap.push { cls := .type "dict", data := .dict #[] }) sc.names }
  generalize compEnvC sc cl s3.heap.objs.size X.env = ce at I4 pg pt pk pv loc ⊢
  rw [← hs4] at I4 ⊢
  have st4 : tn 0 s4.heap := T.keep _ _ _ st3 fun b _ o e => by
    rw [hs4]
    exact pushCells_keeps _ _ _ _ (Heap.get?_push_of_some _ e)
  have still : ∀ {τ : VSt} {G : Hp} {t : Shared}, Inv (X.blk s3 G3 sc ce fp) [] τ G t → (∀ b ∈ fp, G b = none) → ∀ b ∈ fp, FpOk (X.blk s3 G3 sc ce fp) [] G b := fun J n b hb => ⟨n b hb, (J.ok.exf b hb).1, J.ok.exfs b hb, .inl hb, fun x c e => (J.ok.exf b hb).2 x c e, fun p hp => by cases hp⟩
  refine codeAny_compStart_dict ?loop (T.self X.A 0 _ _ _ st4 ?loop)
  refine compLoop_anyD (fun n t => ∃ i G, Inv (X.blk s3 G3 sc ce fp) [] (wipe σ (own.map (·.2))) G t ∧ tn i t.heap ∧ (∀ b ∈ fp, G b = none) ∧ W i n G) ?_ m0 ⟨0, G3, I4, st4, fp0, w0⟩
  rintro n s5 ⟨i, G5, I5, st5, n5, w5⟩
  rcases turn i n G5 w5 with ⟨stop, done⟩ | ⟨go, Nx, next, step⟩
  · refine thnF (T.done (X.blk s3 G3 sc ce fp) rfl rfl rfl calm i [] s5 _ G5 (fun _ _ => False) I5 (still I5 n5) st5 stop) fun r s6 ⟨hr, I6⟩ => ?_
    subst hr
    have I7 : Inv X pins σ G5 s6 := I3.call' (ch := fp) I6.os I6.base I6.hok I6.bare fun b hb => ⟨(out3 b hb).1.2.2.2.1, (out3 b hb).1.2.1, (out3 b hb).1.2.2.2.2.1, (out3 b hb).1.2.2.2.2.2⟩
    have no : G5 ce.locals = none := I6.free
    rcases I6.loc with ⟨m, ns, _⟩
    have ns : s6.heap.Ns ce.locals m := ns
    rw [loc] at no ns
    rcases I3.fpOk (Nat.le_refl _) no with ⟨f0, f1, f2, f3, f4, f5⟩
    exact ⟨m, ns, fun h'' sb => ⟨.ref D, G5, I7.turned (t' := s6.toks) (fun b o hb e => (sb.2 b hb).trans e) f0 f1 f3 f4 f5, rfl, done⟩⟩
  · refine thnF (T.item (X.blk s3 G3 sc ce fp) rfl rfl rfl calm i [] s5 _ G5 (fun _ _ => False) I5 (still I5 n5) st5 go) fun r s6 ⟨u, hr, h6⟩ => ?_
    subst hr
    refine thnF h6 fun _ s7 ⟨x, G7, I7, r7, y7, st7, n7⟩ => ?_
    refine thnF (pg.run _ s7 _ G7 x u _ (I7.pinned (still I7 n7) (T.obj _ _ st7)) r7 (step x G7 y7)) fun _ s8 ⟨τ, G8, I8, same, q8⟩ => ?_
    refine thnF (pt.run _ s8 τ G8 _ I8 q8) fun b s9 ⟨G9, I9, q9⟩ => ?_
    have back : ∀ {t : Shared} {G : Hp}, Inv (X.blk s3 G3 sc ce fp) ([] ++ pinsAt fp s7.heap) τ G t → Nx G → ∃ m, m < n ∧ ∃ i G', Inv (X.blk s3 G3 sc ce fp) [] (wipe σ (own.map (·.2))) G' t ∧ tn i t.heap ∧ (∀ b ∈ fp, G' b = none) ∧ W i m G' := fun {t G} J nx => by
      rcases next G nx with ⟨m', lt, w'⟩
      have pinned : ∀ b ∈ fp, ∀ o, s7.heap.get? b = some o → t.heap.get? b = some o ∧ G b = none := fun b hb o e => by
        have z := J.pin (b, o) (List.mem_append_right _ (List.mem_append_right _ (mem_pinsAt hb e)))
        exact ⟨z.1, z.2.1⟩
      refine ⟨m', lt, i + 1, G, (J.unpinned (pins := [])).weak (by rw [← same, wipe_length]) fun j v e => ?_, T.keep _ _ _ st7 fun b hb o e => (pinned b hb o e).1, fun b hb => ?_, w'⟩
      · rw [← same] at e
        exact (wipe_some e).1
      · rcases T.obj _ _ st7 b hb with ⟨o, e, _⟩
        exact (pinned b hb o e).2
    cases b with
    | false => exact back I9 q9
    | true =>
      refine thnF (pk.run _ s9 τ G9 _ I9 q9) fun z s10 ⟨yk, G10, I10, r10, q10⟩ => ?_
      refine thnF (pv.run _ s10 τ G10 _ I10 q10) fun z2 s11 ⟨yv, G11, I11, r11, kvs, k, c, ek, hc, hD11, few, nx⟩ => ?_
      subst ek
      cases r10
      exact put_tup (X := X.blk s3 G3 sc ce fp) room I11 hD11 hc few r11 fun t J => back J nx
/-- over a list that stays -/
theorem dct_list {K : PySem.W.Frag} {a : Addr} {xs : List V} {g : TG} {tt : TT} {tk tv : TE} {vs : List Nat} {σ : VSt} {H1 : Hp} {D : Addr} {Qd : Hp → Prop} (Pv : Nat → Hp → Prop) (h0 : Pv 0 (upd H1 D (.dT []))) (stays : ∀ i G, i ≤ xs.length → Pv i G → SqL K G a xs)
    (one : ∀ i x G, xs[i]? = some x → Pv i G → g x (wipe σ vs) G fun τ G2 => wipe τ vs = wipe σ vs ∧ tt τ G2 fun b G3 =>
      if b = true then tk τ G3 fun y G4 => tv τ G4 fun z G5 => ∃ (kvs : List (List Key × V)) (k : List Key) (c : Addr), y = .ref c ∧ G5 c = some (.tup (k.map kV)) ∧ G5 D = some (.dT kvs) ∧ kvs.length < sizeLine ∧ Pv (i + 1) (upd G5 D (.dT (putK kvs k z))) else Pv (i + 1) G3) (fin : ∀ G, Pv xs.length G → Qd G) :
    ∃ W : Nat → Nat → Hp → Prop, (∃ m, W 0 m (upd H1 D (.dT []))) ∧ ∀ i m G, W i m G →
      ((Itl K a).stop i G ∧ Qd G) ∨ ((Itl K a).go i G ∧ ∃ Nx : Hp → Prop, (∀ G', Nx G' → ∃ m', m' < m ∧ W (i + 1) m' G') ∧ ∀ x G', (Itl K a).yld i G x G' → g x (wipe σ vs) G' fun τ G2 => wipe τ vs = wipe σ vs ∧ tt τ G2 fun b G3 =>
        if b = true then tk τ G3 fun y G4 => tv τ G4 fun z G5 => ∃ (kvs : List (List Key × V)) (k : List Key) (c : Addr), y = .ref c ∧ G5 c = some (.tup (k.map kV)) ∧ G5 D = some (.dT kvs) ∧ kvs.length < sizeLine ∧ Nx (upd G5 D (.dT (putK kvs k z))) else Nx G3) := by
  refine ⟨fun i m G => m = xs.length - i ∧ i ≤ xs.length ∧ Pv i G, ⟨xs.length, rfl, Nat.zero_le _, h0⟩, ?_⟩
  rintro i m G ⟨rfl, le, p⟩
  have sq := stays i G le p
  rcases Nat.lt_or_ge i xs.length with lt | ge
  · refine .inr ⟨⟨xs, xs[i], sq, List.getElem?_eq_getElem lt⟩, Pv (i + 1), fun G' p' => ⟨xs.length - (i + 1), by omega, rfl, lt, p'⟩, fun x G' y => ?_⟩
    rcases y with ⟨e, y⟩
    subst e
    exact one i x _ (y xs sq) p
  · obtain rfl : i = xs.length := Nat.le_antisymm le ge
    exact .inl ⟨⟨xs, sq, Nat.le_refl _⟩, fin G p⟩
end
end IC
namespace IC
open PySem L2 TL
/-! ### static methods by a promise of any arguments -/
theorem pe_smR {X : Cx} {k j : Nat} {C p g : Addr} {mc : Value} {sp : Sp} {o e : Expr} {es : List Expr} {m : Str} {pos apos : Pos} {ta : TE} {t : TA} {pl : Sem Bool} (ho : PE X o ta) (S : SMet X.K C mc m p g) (F : FnR X.prog X.w X.K X.mg X.base CX0 k g sp) (hr : Room j X.A) (hk : k ≤ j) (ha : PA X (e :: es) t)
    (he : starEach (e :: es) X.env = (false, eval e X.env) :: starEach es X.env := by rfl) (hpl : (backTo pos (starEach es X.env)).any (·.1) = false := by rfl)
    (ht : eval (.Call (.Attribute o m apos) (e :: es) [] pos) X.env = (do
      let ov ← eval o X.env; standAt apos.atName
      let (f, first) ← holding [ov] (getMethod ov m pl); callWith pos f first (backTo pos (starEach (e :: es) X.env)) (backToKw pos (keywordEach [] X.env))) := by rfl) :
    PE X (.Call (.Attribute o m apos) (e :: es) [] pos) (tSM C sp ta t) := by
  constructor
  intro pins s σ H Q I h
  refine PySem.W.methodCall_KW (pl := pl) (thn (ho.run pins s σ H _ I h) fun u s1 h1 => ?_) ht
  rcases h1 with ⟨_, H1, I1, ru, rfl, q⟩
  cases ru
  rcases S.rec_ with ⟨more, isRec⟩
  refine PySem.W.method_cls I1.kIn S.rd.ga (PySem.W.cls_bind I1.kIn S.rd.rd S.fnd (wpAny_call (PySem.W.sm_get (s := { s1 with toks := s1.toks + 1 }) I1.kIn isRec (PySem.W.handed_on rfl ?_))))
  have I2 : Inv X pins σ H1 { s1 with toks := s1.toks + 1 } := I1.tok _
  refine PySem.W.callWith_K (h₀ := X.base) I2.ok.mod.kin S.kp (thn (ha.run pos pins _ σ H1 _ I2 q) fun us s3 h3 => ?_) he hpl
  rcases h3 with ⟨vs, H3, I3, rv, q3⟩
  exact ⟨I3.kIn, wpAny_call (run_fnR F (hr.mono hk) pass0 I3 rv q3)⟩
theorem pe_smR0 {X : Cx} {k j : Nat} {C p g : Addr} {mc : Value} {sp : Sp} {o : Expr} {m : Str} {pos apos : Pos} {ta : TE} {pl : Sem Bool} (ho : PE X o ta) (S : SMet X.K C mc m p g) (F : FnR X.prog X.w X.K X.mg X.base CX0 k g sp) (hr : Room j X.A) (hk : k ≤ j)
    (ht : eval (.Call (.Attribute o m apos) [] [] pos) X.env = (do
      let ov ← eval o X.env; standAt apos.atName
      let (f, first) ← holding [ov] (getMethod ov m pl); callWith pos f first (backTo pos (starEach [] X.env)) (backToKw pos (keywordEach [] X.env))) := by rfl) :
    PE X (.Call (.Attribute o m apos) [] [] pos) (tSM C sp ta tNil) := by
  constructor
  intro pins s σ H Q I h
  refine PySem.W.methodCall_KW (pl := pl) (thn (ho.run pins s σ H _ I h) fun u s1 h1 => ?_) ht
  rcases h1 with ⟨_, H1, I1, ru, rfl, q⟩
  cases ru
  rcases S.rec_ with ⟨more, isRec⟩
  refine PySem.W.method_cls I1.kIn S.rd.ga (PySem.W.cls_bind I1.kIn S.rd.rd S.fnd (wpAny_call (PySem.W.sm_get (s := { s1 with toks := s1.toks + 1 }) I1.kIn isRec (PySem.W.handed_on rfl ?_))))
  have I2 : Inv X pins σ H1 { s1 with toks := s1.toks + 1 } := I1.tok _
  exact PySem.W.callWith_K0 I2.kIn S.kp (wpAny_call (run_fnR F (hr.mono hk) pass0 I2 .nil q))
/-- def f(*v) -/
theorem Fun.star {P : Program} {w : World} {K : PySem.W.Frag} {mg : Str → Option Value} {base : Heap} {x qual v : Str} {st : Stmt} {fa : Addr} {fd : FuncData} {M : List Str} {n : Nat} {sp : Sp} (D : Fun K x qual st fa fd) (S : FnScope M [v] (defScope st))
    (bind : ∀ (oc : Value) (kV doc pm : Value) (an : Option Addr) (cdv ct : Value) (rest : List Value), bindArgs (PySem.W.fnOf x qual (defArgs st) (defBody st) (defScope st) .none kV doc pm an cdv ct) ⟨rest, []⟩ = (newTuple rest >>= fun t => pure [(v, t)]))
    (walk : ∀ (cdv : Value) (B : Around) (out : List Env) (s : Shared) (H : Hp) (vs : List V) (Q : VK) (E : XK), Room n (B.deeper (PyProof.Rows.envOfC qual (defScope st) s.heap.objs.size fa cdv)) → sp vs H Q E →
      ∃ t, PSs (cxOf CX0 P w K mg base M qual (defScope st) fa cdv B out s H E) (defBody st) t ∧ t { nx := fun _ G => Q .non G, rt := Q } (L2.start M vs) H) :
    FnR P w K mg base CX0 (n + 1) fa (fun vs H Q E => vs.length ≤ sizeLine ∧ ∀ p, H p = none → sp [.ref p] (upd H p (.tup vs)) Q E) := by
  rcases D.ex with ⟨oc, _, kV, doc, pm, an, cv, ct, _, rfl, at_, code⟩
  refine FnR.imp (StX.fn_star (ps := []) (pv := v) (sp := sp) at_ code S StX.cxUp_none (fun us rest e => ?_) (fun B out s H vs Q E room h => walk cv B out s H vs Q E room h)) fun vs H Q E h => ⟨[], vs, rfl, rfl, h.1, h.2⟩
  have e0 : us = [] := List.length_eq_zero_iff.mp e
  subst e0
  exact bind oc kV doc pm an cv ct rest
/-! ### rules: what stands of one -/
def dictR (al : List (List Str)) : List (List Key × V) := al.foldl (fun kvs k => putK kvs (k.map Sum.inr) (.bl true)) []
abbrev rlf (t d : Addr) (z : Str) : List (Str × V) := [("_names", .ref t), ("_allowed", .ref d), ("_text", .str z)]
def RuleAt (C : Addr) (H : Hp) (r : Addr) (ns : List Str) (al : List (List Str)) (z : Str) : Prop := ∃ dx t d : Addr, H r = some (.ins C dx (rlf t d z)) ∧ H t = some (.tup (ns.map V.str)) ∧ H d = some (.dT (dictR al))
theorem RuleAt.same {C : Addr} {H H' : Hp} {r : Addr} {ns : List Str} {al : List (List Str)} {z : Str} (h : RuleAt C H r ns al z) (s : Same H H') : RuleAt C H' r ns al z := by
  rcases h with ⟨dx, t, d, h1, h2, h3⟩
  exact ⟨dx, t, d, s _ _ h1, s _ _ h2, s _ _ h3⟩
theorem RuleAt.mv {C : Addr} {H H' : Hp} {r p : Addr} {ns : List Str} {al : List (List Str)} {z : Str} {xs : List V} (h : RuleAt C H r ns al z) (k : Kp [p] H H') (hp : H p = some (.lst xs)) : RuleAt C H' r ns al z := by
  rcases h with ⟨dx, t, d, h1, h2, h3⟩
  have ne : ∀ {b : Addr} {o : HO}, H b = some o → (∀ ys, o ≠ .lst ys) → b ∉ [p] := fun e n hb => by
    rw [List.mem_singleton.mp hb, hp] at e
    cases e
    exact n _ rfl
  exact ⟨dx, t, d, k _ _ h1 (ne h1 fun _ z => by cases z), k _ _ h2 (ne h2 fun _ z => by cases z), k _ _ h3 (ne h3 fun _ z => by cases z)⟩
theorem inr_inj {a b : List Str} : (a.map Sum.inr : List Key) = b.map Sum.inr ↔ a = b := by
  constructor
  · intro h
    induction a generalizing b with
    | nil => cases b with
      | nil => rfl
      | cons y b => cases h
    | cons x a ih => cases b with
      | nil => cases h
      | cons y b =>
        injection h with h1 h2
        injection h1 with h1
        rw [h1, ih h2]
  · intro h
    rw [h]
theorem dictR_get (al : List (List Str)) (k : List Str) : valV (dictR al) (k.map Sum.inr) = if k ∈ al then some (.bl true) else none := by
  have all : ∀ (al : List (List Str)) (kvs : List (List Key × V)), valV (al.foldl (fun kvs k => putK kvs (k.map Sum.inr) (.bl true)) kvs) (k.map Sum.inr) = if k ∈ al then some (.bl true) else valV kvs (k.map Sum.inr) := by
    intro al
    induction al with
    | nil => intro kvs; simp
    | cons a al ih =>
      intro kvs
      rw [List.foldl_cons, ih, valV_put]
      by_cases h1 : k ∈ al
      · simp [h1]
      · by_cases h2 : k = a
        · subst h2
          simp [h1]
        · have h3 : ¬ (k.map Sum.inr : List Key) = a.map Sum.inr := fun e => h2 (inr_inj.mp e)
          simp [h1, h2, h3]
  exact all al []
theorem room_units {k : Nat} {A : Around} (hr : Room k A) : A.units < cLine := by
  have := hr.un
  omega
theorem pe_gv2 {X : Cx} {x : Str} {v : V} {pos : Pos} (h : ∃ u, X.mg x = some u ∧ RelV v u) (hg : Gl X x) (hdb : (x == ("__debug__" : Str)) = false := by decide) : PE X (.Name x pos) (tC v) := by
  rcases h with ⟨u, e, r⟩
  exact pe_glob hg e r hdb
theorem ite_eq {α : Type} [DecidableEq α] {p q : Prop} {v : α} (h : p) : if decide (v = v) = true then p else q := by
  rw [if_pos (decide_eq_true rfl)]
  exact h
theorem inV_strs (z : Str) (ks : List Str) : inV (.str z) (ks.map V.str) = decide (z ∈ ks) := by
  unfold inV
  induction ks with
  | nil => rfl
  | cons y ks ih =>
    rw [List.map_cons, List.any_cons, ih]
    have e : eqV (.str y) (.str z) = decide (z = y) := by
      show (y == z) = decide (z = y)
      rw [Bool.eq_iff_iff, beq_iff_eq, decide_eq_true_iff]
      exact eq_comm
    rw [e, Bool.eq_iff_iff, Bool.or_eq_true, decide_eq_true_iff, decide_eq_true_iff, decide_eq_true_iff, List.mem_cons]
theorem flat_ks (ks : List Str) : (ks.map V.str).all flatV = true := by
  rw [List.all_eq_true]
  intro x hx
  rcases List.mem_map.mp hx with ⟨y, _, rfl⟩
  rfl
theorem kv_inr (k : List Str) : (k.map Sum.inr : List Key).map kV = k.map V.str := by
  rw [List.map_map]
  rfl
/-- the tuples rs of the texts al -/
def Tups (H : Hp) (rs : List Addr) (al : List (List Str)) : Prop := rs.length = al.length ∧ ∀ (i : Nat) (r : Addr) (k : List Str), rs[i]? = some r → al[i]? = some k → H r = some (.tup (k.map V.str))
def spRInit (C : Addr) : Sp := fun vs H Q _ => ∃ (x dx t l : Addr) (ns : List Str) (al : List (List Str)) (rs : List Addr) (z : Str), vs = [.ref x, .ref t, .ref l, .str z] ∧ H x = some (.ins C dx []) ∧ H t = some (.tup (ns.map V.str)) ∧ H l = some (.lst (rs.map V.ref)) ∧ Tups H rs al ∧ al.length ≤ 100 ∧
  ∀ H', Kp [x] H H' → RuleAt C H' x ns al z → Q .non H'
structure RDf (P : Program) (w : World) (K : PySem.W.Frag) (mg : Str → Option Value) (base : Heap) (k : Nat) (C : Addr) : Prop where
  ex : ∃ (f : Addr) (fd : FuncData), Mk K C f ∧ FnOk P w K mg base CX0 k f fd ["self", "names", "allowed", "text"] (spRInit C) ∧ Binds K fd ["self", "names", "allowed", "text"] [] ∧ mg "Rule" = some (.ref C)
theorem pe_mkR {X : Cx} {k j : Nat} {C : Addr} {e : Expr} {es : List Expr} {t : TA} {p pos : Pos} (D : RDf X.prog X.w X.K X.mg X.base k C) (hr : Room j X.A) (hk : k + 1 ≤ j) (hg : Gl X "Rule") (ha : PA X (e :: es) t)
    (he : starEach (e :: es) X.env = (false, eval e X.env) :: starEach es X.env := by rfl) (hpl : (backTo pos (starEach es X.env)).any (·.1) = false := by rfl) : PE X (.Call (.Name "Rule" p) (e :: es) [] pos) (tMake C (spRInit C) [] E0 t) := by
  rcases D.ex with ⟨f, fd, M, F, hb, hm⟩
  exact pe_make M F (hr.mono hk) hg hm hb .nil pass0 ha (by decide) he hpl
/-- what stands of the class -/
structure RTxt (K : PySem.W.Frag) (mg : Str → Option Value) (C : Addr) : Prop where
  c : Cls K C
  n : NoAttr K C "_names"
  a : NoAttr K C "_allowed"
  t : NoAttr K C "_text"
  gC : mg "Rule" = some (.ref C)
  gM : ∃ u, mg "MOST_RECORDS" = some u ∧ RelV (.int 6) u
/-- a new rule -/
def NewR (C : Addr) (H : Hp) (ns : List Str) (al : List (List Str)) (Q : VK) : Prop := ∀ (H' : Hp) (r : Addr) (z : Str), Same H H' → RuleAt C H' r ns al z → Q (.ref r) H'
theorem NewR.same {C : Addr} {H H1 : Hp} {ns : List Str} {al : List (List Str)} {Q : VK} (h : NewR C H ns al Q) (s : Same H H1) : NewR C H1 ns al Q := fun H' r z s2 q => h H' r z (s.trans s2) q
theorem make_rule {C : Addr} {H : Hp} {Q : VK} {t l : Addr} {ns : List Str} {al : List (List Str)} {rs : List Addr} {z : Str} (ht : H t = some (.tup (ns.map V.str))) (hl : H l = some (.lst (rs.map V.ref))) (tu : Tups H rs al) (few : al.length ≤ 100)
    (k : NewR C H ns al Q) : ∀ x dx, H x = none → H dx = none → dx ≠ x → spRInit C [.ref x, .ref t, .ref l, .str z] (upd (upd H dx (.own x)) x (.ins C dx [])) (fun v H2 => v = .non ∧ Q (.ref x) H2) E0 := by
  intro x dx nx nd ne
  have s1 : Same H (upd (upd H dx (.own x)) x (.ins C dx [])) := (Same.new nd).trans (Same.new (by rw [upd_ne ne.symm]; exact nx))
  refine ⟨x, dx, t, l, ns, al, rs, z, rfl, upd_same, s1 _ _ ht, s1 _ _ hl, ⟨tu.1, fun i r k e1 e2 => s1 _ _ (tu.2 i r k e1 e2)⟩, few, fun H' kp ra => ⟨rfl, k H' x z (Same.kp s1 kp nx) ra⟩⟩
def spHas (C : Addr) : Sp := fun vs H Q _ => ∃ z : Str, vs = [.str z] ∧ IsW z ∧ NewR C H [z] [[z]] Q
def spFew : Sp := fun vs H Q _ => ∃ (t : Addr) (ns : List Str), vs = [.ref t] ∧ H t = some (.tup (ns.map V.str)) ∧ ns.length ≤ 6 ∧ Q .non H
def spTog (C : Addr) : Sp := fun vs H Q _ => ∃ (t : Addr) (zs : List Str), vs = [.ref t] ∧ H t = some (.tup (zs.map V.str)) ∧ (∀ z ∈ zs, IsW z) ∧ zs.length ≤ 6 ∧
  ∀ (M ys : List Str), M.Nodup → M.length ≤ zs.length → (∀ z, z ∈ M ↔ z ∈ zs) → ys.Perm M → PyProof.Rows.sortedS ys = true → NewR C H ys [[], ys] Q
def spAlways (C : Addr) : Sp := fun vs H Q _ => vs = [] ∧ NewR C H [] [[]] Q
/-- a list or a tuple of texts -/
def SqS (H : Hp) (a : Addr) (ks : List Str) : Prop := H a = some (.lst (ks.map V.str)) ∨ H a = some (.tup (ks.map V.str))
theorem SqS.same {H H' : Hp} {a : Addr} {ks : List Str} (h : SqS H a ks) (s : Same H H') : SqS H' a ks := h.imp (s _ _) (s _ _)
def may (ns : List Str) (al : List (List Str)) (ks : List Str) : Bool := decide (ns.filter (fun n => decide (n ∈ ks)) ∈ al)
def spAsk (C : Addr) : Sp := fun vs H Q _ => ∃ (r a : Addr) (ns ks : List Str) (al : List (List Str)) (z : Str), vs = [.ref r, .ref a] ∧ RuleAt C H r ns al z ∧ SqS H a ks ∧ ns.length ≤ 100 ∧ ∀ H', Same H H' → Q (.bl (may ns al ks)) H'
def spRecs (C : Addr) : Sp := fun vs H Q _ => ∃ (r : Addr) (ns : List Str) (al : List (List Str)) (z : Str), vs = [.ref r] ∧ RuleAt C H r ns al z ∧ ∀ p, H p = none → Q (.ref p) (upd H p (.lst (ns.map V.str)))
/-! ### two sorted lists of the same texts are one -/
def leS (a b : Str) : Prop := PySem.Spec.ltCps b.cps.toList a.cps.toList = false
theorem rise_all : ∀ (l : List Str) (p : Str), PyProof.Rows.risingS p l = true → leS p (l.headD p) ∧ PyProof.Rows.sortedS l = true
  | [], p, _ => ⟨by
      show PySem.Spec.ltCps p.cps.toList p.cps.toList = false
      rw [PyProof.Rows.ltCps_eq]
      exact decide_eq_false (List.lt_irrefl _), rfl⟩
  | x :: r, p, h => by
    have h : (!PySem.Spec.ltCps x.cps.toList p.cps.toList && PyProof.Rows.risingS x r) = true := h
    rw [Bool.and_eq_true, Bool.not_eq_true'] at h
    exact ⟨h.1, h.2⟩
theorem leS_iff {a b : Str} : leS a b ↔ ¬ b.cps.toList < a.cps.toList := by
  unfold leS
  rw [PyProof.Rows.ltCps_eq, decide_eq_false_iff_not]
theorem leS_trans {a b c : Str} (h1 : leS a b) (h2 : leS b c) : leS a c := by
  rw [leS_iff] at *
  exact fun h => h1 (List.lt_of_le_of_lt (List.not_lt.mp h2) h)
theorem leS_anti {a b : Str} (h1 : leS a b) (h2 : leS b a) : a = b := by
  rw [leS_iff] at *
  have e : a.cps.toList = b.cps.toList := List.le_antisymm (List.not_lt.mp h1) (List.not_lt.mp h2)
  rcases a with ⟨⟨a⟩⟩
  rcases b with ⟨⟨b⟩⟩
  have e : a = b := e
  rw [e]
theorem sorted_pw : ∀ l : List Str, PyProof.Rows.sortedS l = true → l.Pairwise leS
  | [], _ => .nil
  | x :: r, h => by
    have z := rise_all r x h
    have ih := sorted_pw r z.2
    refine List.pairwise_cons.mpr ⟨fun y hy => ?_, ih⟩
    cases r with
    | nil => cases hy
    | cons u r =>
      have hu : leS x u := z.1
      rcases List.mem_cons.mp hy with rfl | hy
      · exact hu
      · exact leS_trans hu ((List.pairwise_cons.mp ih).1 y hy)
theorem sorted_one {l m : List Str} (p : l.Perm m) (h1 : PyProof.Rows.sortedS l = true) (h2 : PyProof.Rows.sortedS m = true) : l = m :=
  p.eq_of_pairwise (le := leS) (fun a b _ _ => leS_anti) (sorted_pw l h1) (sorted_pw m h2)
theorem perm_mem {l m : List Str} (h1 : l.Nodup) (h2 : m.Nodup) (h : ∀ z, z ∈ l ↔ z ∈ m) : l.Perm m := (List.perm_ext_iff_of_nodup h1 h2).mpr h
theorem wB_of {z : Str} (h : IsW z) : wB z = true := by
  obtain ⟨h1, h2, h3⟩ := h
  unfold wB
  rw [decide_eq_true h1, decide_eq_true h2]
  show (tl z).all lB = true
  rw [List.all_eq_true]
  intro x hx
  have q := h3 x hx
  unfold lB
  rw [decide_eq_true q.1, decide_eq_true q.2]
  rfl
end IC
namespace IC
open PySem L2 TL
/-! ### the text by places -/
def top (i : Nat) : Stmt := PySem.Challenge.pw_innercommits_k14_single_rules.main.body.getD i (.Pass ⟨0, 0, 0, 0⟩)
abbrev s_law_pool : Stmt := top 13
abbrev s_law_draw : Stmt := top 14
abbrev s_law_word : Stmt := top 15
abbrev s_is_word : Stmt := top 5
abbrev s_check_few : Stmt := top 10
abbrev s_Rule___init__ : Stmt := inClass (top 11) 0
abbrev s_Rule_has : Stmt := inClass (top 11) 1
abbrev s_Rule_together : Stmt := inClass (top 11) 2
abbrev s_Rule_always : Stmt := inClass (top 11) 3
abbrev s_Rule__allows : Stmt := inClass (top 11) 4
abbrev s_Rule___call__ : Stmt := inClass (top 11) 5
abbrev s_Rule_records : Stmt := inClass (top 11) 11
abbrev s_law_set : Stmt := top 16
abbrev s_law_together : Stmt := top 17
abbrev s_law_asks : Stmt := top 18
abbrev s_law : Stmt := top 19
theorem sc_law_pool : FnScope ["script", "at", "cell", "size", "seed"] ["script", "at"] (defScope s_law_pool) := ⟨rfl, rfl, rfl, by decide +kernel, rfl, by decide +kernel, by decide +kernel⟩
theorem sc_law_draw : FnScope ["pool", "many", "digit", "count", "mixed"] ["pool", "many"] (defScope s_law_draw) := ⟨rfl, rfl, rfl, by decide +kernel, rfl, by decide +kernel, by decide +kernel⟩
theorem sc_law_word : FnScope ["pool", "letters", "k"] ["pool"] (defScope s_law_word) := ⟨rfl, rfl, rfl, by decide +kernel, rfl, by decide +kernel, by decide +kernel⟩
theorem sc_is_word : FnScope ["thing", "letter"] ["thing"] (defScope s_is_word) := ⟨rfl, rfl, rfl, by decide +kernel, rfl, by decide +kernel, by decide +kernel⟩
theorem sc_check_few : FnScope ["names"] ["names"] (defScope s_check_few) := ⟨rfl, rfl, rfl, by decide +kernel, rfl, by decide +kernel, by decide +kernel⟩
theorem sc_Rule___init__ : FnScope ["self", "names", "allowed", "text", "some"] ["self", "names", "allowed", "text"] (defScope s_Rule___init__) := ⟨rfl, rfl, rfl, by decide +kernel, rfl, by decide +kernel, by decide +kernel⟩
theorem sc_Rule_has : FnScope ["record"] ["record"] (defScope s_Rule_has) := ⟨rfl, rfl, rfl, by decide +kernel, rfl, by decide +kernel, by decide +kernel⟩
theorem sc_Rule_together : FnScope ["records", "record", "names", "text"] ["records"] (defScope s_Rule_together) := ⟨rfl, rfl, rfl, by decide +kernel, rfl, by decide +kernel, by decide +kernel⟩
theorem sc_Rule_always : FnScope [] [] (defScope s_Rule_always) := ⟨rfl, rfl, rfl, by decide +kernel, rfl, by decide +kernel, by decide +kernel⟩
theorem sc_Rule__allows : FnScope ["self", "kept", "name"] ["self", "kept"] (defScope s_Rule__allows) := ⟨rfl, rfl, rfl, by decide +kernel, rfl, by decide +kernel, by decide +kernel⟩
theorem sc_Rule___call__ : FnScope ["self", "kept"] ["self", "kept"] (defScope s_Rule___call__) := ⟨rfl, rfl, rfl, by decide +kernel, rfl, by decide +kernel, by decide +kernel⟩
theorem sc_Rule_records : FnScope ["self"] ["self"] (defScope s_Rule_records) := ⟨rfl, rfl, rfl, by decide +kernel, rfl, by decide +kernel, by decide +kernel⟩
theorem sc_law_set : FnScope ["pool", "words", "some", "k"] ["pool", "words"] (defScope s_law_set) := ⟨rfl, rfl, rfl, by decide +kernel, rfl, by decide +kernel, by decide +kernel⟩
theorem sc_law_together : FnScope ["words"] ["words"] (defScope s_law_together) := ⟨rfl, rfl, rfl, by decide +kernel, rfl, by decide +kernel, by decide +kernel⟩
theorem sc_law_asks : FnScope ["rule", "some", "due", "told"] ["rule", "some", "due"] (defScope s_law_asks) := ⟨rfl, rfl, rfl, by decide +kernel, rfl, by decide +kernel, by decide +kernel⟩
theorem sc_law : FnScope ["script", "at", "pool", "words", "listed", "single", "several", "always", "turn", "told", "some", "there", "k", "word"] ["script"] (defScope s_law) := ⟨rfl, rfl, rfl, by decide +kernel, rfl, by decide +kernel, by decide +kernel⟩
/-- the built-in names that no line of the text binds -/
structure Bn (mg : Str → Option Value) : Prop where
  int : mg "int" = none
  len : mg "len" = none
  abs : mg "abs" = none
  range : mg "range" = none
  max : mg "max" = none
  min : mg "min" = none
  isi : mg "isinstance" = none
  str : mg "str" = none
  all : mg "all" = none
  repr : mg "repr" = none
  list : mg "list" = none
  tuple : mg "tuple" = none
  set : mg "set" = none
  sorted : mg "sorted" = none
end IC
namespace IC
open PySem L2 TL
section
variable {P : Program} {w : World} {K : PySem.W.Frag} {mg : Str → Option Value} {base : Heap}
theorem ok_draw {f : Addr} {fd : FuncData} (F : Fun K "_law_draw" "_law_draw" s_law_draw f fd) (T : Bn mg) : FnOk P w K mg base CX0 1 f fd ["pool", "many"] spDraw := by
  refine F.ok sc_law_draw (fun vs H Q E h => ?_) (fun cdv A outer s H vs Q E hr h => ?_)
  · obtain ⟨p, m, n, rfl, _⟩ := h
    rfl
  · obtain ⟨p, m, n, rfl, ⟨a, b, c, hp, a0, b0, b1, c0, c1⟩, hn, m0, m1, k⟩ := h
    refine ⟨_, (pss_cons (ps_if (pt_cmpR op_gt (pe_ix ix_list (pv 0) pe_int (fun _ _ => rfl)) pe_int (nomark _))
  (pss_cons (ps_set (i := 2) sc_law_draw.nd rfl (Or.inl rfl) (pe_op op_mod (pe_callTy call_int1 (by rfl) T.int (by decide +kernel) (pa_cons (pe_ix ix_list (pv 0) pe_int (fun _ _ => rfl)) pa_nil)) (pv 1)))
  (pss_cons (ps_asg (pe_op op_fdivW (pe_ix ix_list (pv 0) pe_int (fun _ _ => rfl)) (pv 1)) (pg_sub (pv 0) pe_int set_list))
  (pss_one (ps_ret (pv 2)))))
  pss_nil)
  (pss_cons (ps_set (i := 3) sc_law_draw.nd rfl (Or.inl rfl) (pe_op op_add (pe_ix ix_list (pv 0) pe_int (fun _ _ => rfl)) pe_int))
  (pss_cons (ps_asg (pv 3) (pg_sub (pv 0) pe_int set_list))
  (pss_cons (ps_set (i := 4) sc_law_draw.nd rfl (Or.inl rfl) (pe_op op_mod (pe_callTy call_int1 (by rfl) T.int (by decide +kernel) (pa_cons (pe_op op_add (pe_op op_pow (pe_op op_add (pe_ix ix_list (pv 0) pe_int (fun _ _ => rfl)) (pe_op op_mul pe_int (pv 3))) pe_int) (pe_op op_mul pe_int (pv 3))) pa_nil)) pe_int))
  (pss_cons (ps_set (i := 4) sc_law_draw.nd rfl (Or.inl rfl) (pe_op op_mod (pe_callTy call_int1 (by rfl) T.int (by decide +kernel) (pa_cons (pe_op op_pow (pe_op op_add (pv 4) (pe_op op_mul pe_int (pv 3))) pe_int) pa_nil)) pe_int))
  (pss_one (ps_ret (pe_op op_mod (pe_callTy call_int1 (by rfl) T.int (by decide +kernel) (pa_cons (pe_op op_fdiv (pv 4) pe_int) pa_nil)) (pv 1))))))))), ?_⟩
    have g0 : atI (pl a b c) 0 = some (.int a) := rfl
    have g1 : atI (pl a b c) 1 = some (.int b) := rfl
    have g2 : atI (pl a b c) 2 = some (.int c) := rfl
    refine ⟨_, rfl, p, pl a b c, 0, _, rfl, rfl, SqL.of hp, g0, a, 0, rfl, rfl, _, rfl, ?_⟩
    refine ite2 (fun hpos => ?_) (fun hneg => ?_)
    · refine ⟨_, rfl, p, pl a b c, 0, _, rfl, rfl, SqL.of hp, g0, .inl ⟨a, rfl, _, rfl, a, m, rfl, rfl, m0, ?_⟩⟩
      refine ⟨_, rfl, p, pl a b c, 0, _, rfl, rfl, SqL.of hp, g0, _, rfl, a, m, rfl, rfl, wide_div m0 m1 (by decide) (by decide), _, rfl, p, pl a b c, 0, 0, rfl, rfl, hp, rfl, ?_⟩
      refine ⟨_, rfl, ?_⟩
      refine k (a % m) _ (Int.emod_nonneg _ (by omega)) (Int.emod_lt_of_pos _ m0) ⟨a / m, b, c, upd_same, Int.ediv_nonneg a0 (by omega), b0, b1, c0, by omega⟩
    · refine ⟨_, rfl, p, pl a b c, 2, _, rfl, rfl, SqL.of hp, g2, c, 1, rfl, rfl, ?_⟩
      refine ⟨_, rfl, _, rfl, p, pl a b c, 2, 2, rfl, rfl, hp, rfl, ?_⟩
      have g1' : atI ((pl a b c).set 2 (.int (c + 1))) 1 = some (.int b) := rfl
      refine ⟨_, rfl, p, _, 1, _, rfl, rfl, SqL.of upd_same, g1', _, rfl, 48611, c + 1, rfl, rfl, .inl (by decide), b, _, rfl, rfl, _, 3, rfl, rfl, ⟨by decide, by decide, by omega⟩, _, rfl, 17, c + 1, rfl, rfl, .inl (by decide), _, _, rfl, rfl, .inl ⟨_, rfl, _, _, rfl, rfl, (by show (0 : Int) < 2305843009213693921; decide), ?_⟩⟩
      have hX : 0 ≤ ((b + 48611 * (c + 1)) ^ Int.toNat 3 + 17 * (c + 1)) % 2305843009213693921 ∧ ((b + 48611 * (c + 1)) ^ Int.toNat 3 + 17 * (c + 1)) % 2305843009213693921 < 2305843009213693921 :=
        ⟨Int.emod_nonneg _ (by decide), Int.emod_lt_of_pos _ (by decide)⟩
      dsimp only
      generalize ((b + 48611 * (c + 1)) ^ Int.toNat 3 + 17 * (c + 1)) % 2305843009213693921 = X at hX ⊢
      obtain ⟨x0, x1⟩ := hX
      refine ⟨_, rfl, _, rfl, 104729, c + 1, rfl, rfl, .inl (by decide), X, _, rfl, rfl, _, 3, rfl, rfl, ⟨by decide, by decide, by omega⟩, .inl ⟨_, rfl, _, _, rfl, rfl, (by show (0 : Int) < 1000000000000000003; decide), ?_⟩⟩
      have hY : 0 ≤ (X + 104729 * (c + 1)) ^ Int.toNat 3 % 1000000000000000003 := Int.emod_nonneg _ (by decide)
      refine ⟨_, rfl, _, _, rfl, rfl, ⟨by decide, by decide⟩, .inl ⟨_, rfl, _, rfl, _, m, rfl, rfl, m0, ?_⟩⟩
      refine k _ _ (Int.emod_nonneg _ (by omega)) (Int.emod_lt_of_pos _ m0) ⟨a, b, c + 1, upd_same, a0, b0, b1, by omega, by omega⟩
theorem ok_pool {f : Addr} {fd : FuncData} (F : Fun K "_law_pool" "_law_pool" s_law_pool f fd) (T : Bn mg) : FnOk P w K mg base CX0 1 f fd ["script", "at"] (spPool K) := by
  refine F.ok sc_law_pool (fun vs H Q E h => ?_) (fun cdv A outer s H vs Q E hr h => ?_)
  · obtain ⟨a, ns, j, rfl, _⟩ := h
    rfl
  · obtain ⟨a, ns, j, rfl, hS, hj, k⟩ := h
    refine ⟨_, (Evl.pss_cut (ps_set (i := 2) sc_law_pool.nd rfl (Or.inl rfl) (pe_ifExp (pt_cmpR op_lt (pv 1) (pe_callB call_len_seq (by rfl) T.len PySem.boot_len (pa_cons (pv 0) pa_nil)) (nomark _)) (pe_ix ix_list (pv 0) (pv 1) (fun _ _ => rfl)) pe_int))
  (pss_cons (ps_set (i := 3) sc_law_pool.nd rfl (Or.inl rfl) (pe_callB call_abs (by rfl) T.abs PyProof.Rows.boot_abs (pa_cons (pv 2) pa_nil)))
  (pss_cons (ps_set (i := 4) sc_law_pool.nd rfl (Or.inl rfl) (pe_op op_mod (pe_callTy call_int1 (by rfl) T.int (by decide +kernel) (pa_cons (pe_op op_add (pe_op op_add (pe_op op_mul (pv 3) pe_int) (pe_op op_mul pe_int (pv 1))) (pe_callTy call_int1 (by rfl) T.int (by decide +kernel) (pa_cons (pe_cmpR op_lt (pv 2) pe_int (nomark _)) pa_nil))) pa_nil)) pe_int))
  (pss_one (ps_ret (pe_lst (pa_cons (pe_ifExp (pt_cmpR op_ge (pv 3) (pe_op op_pow pe_int pe_int) (nomark _)) (pv 3) pe_int) (pa_cons (pe_op op_add (pv 4) pe_int) (pa_cons pe_int pa_nil))))))))), ?_⟩
    have hj' : (j : Int) < 64 := by omega
    refine ⟨fun σ H' => H' = H ∧ ∃ c : Int, σ = [some (.ref a), some (.int j), some (.int c), none, none], ?_, ?_⟩
    · refine ⟨_, rfl, _, rfl, a, _, rfl, .inl hS, _, _, rfl, rfl, _, rfl, ?_⟩
      refine ite2 (fun hlt => ?_) (fun _ => ⟨rfl, 0, rfl⟩)
      have hlt := of_decide_eq_true hlt
      have hl : j < ns.length := by
        rw [List.length_map] at hlt
        exact Int.ofNat_lt.mp hlt
      have hz : (ns.map V.int)[j]? = some (V.int ns[j]) := by
        rw [List.getElem?_map, List.getElem?_eq_getElem hl]
        rfl
      exact ⟨_, rfl, _, rfl, a, _, _, _, rfl, rfl, hS, atI_nat hz, rfl, _, rfl⟩
    · rintro σ H' ⟨rfl, c, rfl⟩
      refine ⟨_, rfl, c, rfl, ?_⟩
      refine ⟨_, rfl, _, 6, rfl, rfl, .inr (by decide), _, rfl, 2, j, rfl, rfl, .inl (by decide), _, _, rfl, rfl, _, rfl, c, 0, rfl, rfl, .inr ⟨_, rfl, _, _, rfl, rfl, .inl ⟨_, rfl, _, _, rfl, rfl, (by show (0 : Int) < 2305843009213693951; decide), ?_⟩⟩⟩
      refine ⟨_, rfl, 10, 18, rfl, rfl, ⟨by decide, by decide, by decide⟩, _, _, rfl, rfl, _, rfl, ?_⟩
      have h0 : (0 : Int) ≤ if c < 0 then -c else c := by split <;> omega
      have fin : ∀ x y : Int, 0 ≤ x → ∀ p, H' p = none → Q (.ref p) (upd H' p (.lst [.int x, .int (y % 2305843009213693951 + 12345), .int 0])) := fun x y hx p hp => by
        have e1 := Int.emod_nonneg y (show (2305843009213693951 : Int) ≠ 0 by decide)
        have e2 := Int.emod_lt_of_pos y (show (0 : Int) < 2305843009213693951 by decide)
        exact k p _ hp ⟨x, _, 0, upd_same, hx, by omega, by omega, by omega, by omega⟩
      refine ite2 (fun _ => ?_) (fun _ => ?_)
      · exact ⟨_, rfl, _, rfl, _, _, rfl, rfl, (by show 3 ≤ sizeLine; decide), fun p hp => fin _ _ h0 p hp⟩
      · exact ⟨_, rfl, _, _, rfl, rfl, (by show 3 ≤ sizeLine; decide), fun p hp => fin 0 _ (by decide) p hp⟩
end
end IC
namespace IC
open PySem L2 TL
section
variable {P : Program} {w : World} {K : PySem.W.Frag} {mg : Str → Option Value} {base : Heap}
theorem ok_word {f : Addr} {fd : FuncData} (F : Fun K "_law_word" "_law_word" s_law_word f fd) (T : Bn mg) (D_law_draw : Df P w K mg base 1 "_law_draw" ["pool", "many"] spDraw) : FnOk P w K mg base CX0 2 f fd ["pool"] spWord := by
  refine F.ok sc_law_word (fun vs H Q E h => ?_) (fun cdv A outer s H vs Q E hr h => ?_)
  · obtain ⟨p, n, rfl, _⟩ := h
    rfl
  · obtain ⟨p, n, rfl, hp, hn, k⟩ := h
    refine ⟨_, (pss_cons (ps_set (i := 1) sc_law_word.nd rfl (Or.inr rfl) pe_str)
  (pss_one (ps_ret (pe_join pe_str (pe_lc (own := [("k", 2)]) (g := gName 2) (tt := tYes) rfl sc_law_word.nd (pi_range1 rfl T.range (pa_cons (pe_op op_add pe_int (pe_df D_law_draw hr (by decide) rfl (pa_cons (pv 0) (pa_cons pe_int pa_nil)))) pa_nil)) (blkOk_by (N := ["pool", "letters", "k"]) (sc := defScope s_law_word) (by decide +kernel)) (fun _ _ _ _ _ => pg_name (i := 2) sc_law_word.nd rfl (Or.inl rfl)) (fun _ _ _ _ _ => pts_nil) (fun _ _ _ _ _ => (pe_ix ix_str (pv 1) (pe_df D_law_draw hr (by decide) rfl (pa_cons (pv 0) (pa_cons pe_int pa_nil))) (fun _ _ => rfl)))))))), ?_⟩
    refine ⟨⟨_, rfl⟩, _, rfl, p, 8, n, rfl, hp, by omega, by decide, by decide, fun d o d0 d8 hp1 => ⟨_, _, rfl, rfl, _, rfl, by omega, by omega, fun D hD => ?_⟩⟩
    obtain ⟨hpD, hDn⟩ := none_of hD
    refine lc_range (lo := 0) (n := (1 + d).toNat) (fun i H' => ∃ cs : List Nat, cs.length = i ∧ (∀ c ∈ cs, Lt c) ∧ H' D = some (.lst ((cs.map sgn).map V.str)) ∧ PoolAt H' p (n + 1 + i) ∧ Kp [p] H H')
      ⟨[], rfl, by simp, upd_same, (hp1.mv fun u e => by rw [upd_ne hpD]; exact e).up (by omega), (Kp.at_ (by simp)).trans (Kp.new hD)⟩ ?_ ?_
    · rintro i H' hi ⟨cs, hl, hc, hcD, hp2, kp⟩
      refine ⟨rfl, ?_⟩
      refine ⟨_, rfl, _, rfl, p, 26, n + 1 + i, rfl, hp2, by omega, by decide, by decide, fun e o2 e0 e1 hp3 => ?_⟩
      obtain ⟨c, hat, hL⟩ := abc_at e e0 e1
      refine ⟨_, e, c, rfl, rfl, by decide +kernel, hat, ?_⟩
      refine ⟨_, (by rw [upd_ne hpD.symm]; exact hcD), small1000 (by rw [List.length_map, List.length_map]; omega), cs ++ [c], by simp [hl], ?_, ?_, ?_, (kp.mutAt (by simp)).mut hDn⟩
      · intro x hx
        rcases List.mem_append.mp hx with hx | hx
        · exact hc x hx
        · rw [List.mem_singleton.mp hx]; exact hL
      · rw [upd_same, List.map_append, List.map_append]
        rfl
      · exact (hp3.mv fun u q => by rw [upd_ne hpD]; exact q).up (by omega)
    · rintro H' ⟨cs, hl, hc, hcD, hp2, kp⟩
      refine ⟨_, D, cs.map sgn, rfl, rfl, .inl (SqL.of hcD), ?_, ?_⟩
      · have e : (List.map (fun z : Str => z.length) (cs.map sgn)).sum = cs.length := by
          rw [List.map_map]
          clear hl hc hcD hp2 kp
          induction cs with
          | nil => rfl
          | cons c r ih => rw [List.map_cons, List.sum_cons, ih, List.length_cons]; show 1 + r.length = r.length + 1; omega
        rw [e, List.length_map, hl]
        show (1 + d).toNat + (1 + d).toNat * 0 ≤ 16777216
        omega
      · have et := tl_joined cs
        refine k _ H' ⟨?_, ?_, ?_⟩ (hp2.up (by omega)) kp
        · rw [et, hl]; omega
        · rw [et, hl]; omega
        · rw [et]; exact hc
end
end IC
namespace IC
open PySem L2 TL
section
variable {P : Program} {w : World} {K : PySem.W.Frag} {mg : Str → Option Value} {base : Heap}
theorem ok_is_word {f : Addr} {fd : FuncData} (F : Fun K "is_word" "is_word" s_is_word f fd) (T : Bn mg) : FnOk P w K mg base CX0 1 f fd ["thing"] (spIsWord K) := by
  refine F.ok sc_is_word (fun vs H Q E h => ?_) (fun cdv A outer s H vs Q E hr h => ?_)
  · obtain ⟨v, rfl, _⟩ := h
    rfl
  · obtain ⟨v, rfl, h⟩ := h
    refine ⟨_, (pss_cons (ps_if (PW.pt (pw_or (pt_not (pt_val (pe_callB call_isi (by rfl) T.isi PyProof.Rows.boot_isinstance (pa_cons (pv 0) (pa_cons (pe_bltn (v := .ty "str") (by rfl) T.str (by decide +kernel) rfl) pa_nil))))) (pw_or1 (pt_not (pt_chain op_le op_le pe_int (pe_callB call_len_str (by rfl) T.len PySem.boot_len (pa_cons (pv 0) pa_nil)) pe_int)))))
  (pss_one (ps_ret pe_bl))
  pss_nil)
  (pss_one (ps_ret (pe_callB (cr_all rfl) (by rfl) T.all (by decide +kernel) (pa_cons (pe_lc (own := [("letter", 1)]) (g := gName 1) (tt := tYes) rfl sc_is_word.nd (pi_str (pv 0)) (blkOk_by (N := ["thing", "letter"]) (sc := defScope s_is_word) (by decide +kernel)) (fun _ _ _ _ _ => pg_name (i := 1) sc_is_word.nd rfl (Or.inl rfl)) (fun _ _ _ _ _ => pts_nil) (fun _ _ _ _ _ => (pe_chain op_le_str op_le_str pe_str (pv 1) pe_str))) pa_nil))))), ?_⟩
    rcases h with ⟨z, rfl, hl, k⟩ | ⟨⟨T', ty, kb⟩, k⟩
    · refine ⟨_, rfl, .str z, .ty "str", .type "str", .type "str", true, rfl, .ty "str", .base (.str z), kit_ty (by decide +kernel), true, rfl, ?_⟩
      refine ⟨_, rfl, z, rfl, len_le hl, 1, z.length, rfl, rfl, _, rfl, ?_⟩
      refine ite2 (fun h1 => ?_) (fun h1 => ?_)
      · have h1 := of_decide_eq_true h1
        refine ⟨_, _, rfl, rfl, _, rfl, ?_⟩
        cases hd : decide ((z.length : Int) ≤ 8) with
        | true =>
          refine ⟨_, rfl, z, rfl, fun D hD => ?_⟩
          have hz : z.cps.size = (tl z).length := by simp [tl]
          refine lc_it (walk_str (z := z)) (fun i H' => H' D = some (.lst (((tl z).take i).map fun c => V.bl (lB c))) ∧ Same H H') ⟨upd_same, Same.new hD⟩ (fun _ _ _ _ => trivial) ?_ ?_
          · rintro i x _ H' hi ⟨hcD, sm⟩ ⟨rfl, c, hc, rfl⟩
            have hc' : (tl z)[i]? = some c := by simpa [tl] using hc
            have fin : ∃ acc, H' D = some (.lst acc) ∧ acc.length < sizeLine ∧ upd H' D (.lst (acc ++ [V.bl (lB c)])) D = some (.lst (((tl z).take (i + 1)).map fun c => V.bl (lB c))) ∧ Same H (upd H' D (.lst (acc ++ [V.bl (lB c)]))) := by
              refine ⟨_, hcD, small1000 (by rw [List.length_map, List.length_take]; omega), ?_, ?_⟩
              · rw [upd_same, List.take_add_one, hc', List.map_append]
                rfl
              · exact fun b o e => by rw [upd_ne (ne_of_none e hD)]; exact sm b o e
            refine ⟨rfl, ?_⟩
            refine ⟨_, rfl, _, _, rfl, rfl, _, rfl, ?_⟩
            rw [lt_a c]
            unfold lB at fin
            cases h97 : decide (97 ≤ c) with
            | true =>
              rw [h97] at fin
              refine ⟨_, _, rfl, rfl, ?_⟩
              rw [z_lt c, Bool.not_not]
              exact fin
            | false =>
              rw [h97] at fin
              exact fin
          · rintro H' ⟨hcD, sm⟩
            have e : wB z = (((tl z).map lB).all id) := by
              have h8 := of_decide_eq_true hd
              rw [len_tl] at h1 h8
              unfold wB
              rw [decide_eq_true (by omega), decide_eq_true (by omega), Bool.true_and, Bool.true_and, List.all_map]
              rfl
            refine ⟨D, (tl z).map lB, rfl, SqL.of ?_, ?_⟩
            · rw [hcD, hz, List.take_length, List.map_map]
              rfl
            · have q := k H' sm
              rw [e] at q
              exact q
        | false =>
          have e : wB z = false := by
            have q := of_decide_eq_false hd
            rw [len_tl] at q
            unfold wB
            rw [decide_eq_false (p := (tl z).length ≤ 8) (by omega), Bool.false_and, Bool.and_false]
          have q := k H (Same.refl H)
          rw [e] at q
          exact q
      · rw [Bool.not_eq_true] at h1
        have e : wB z = false := by
          have q := of_decide_eq_false h1
          rw [len_tl] at q
          unfold wB
          rw [decide_eq_false (by omega)]
          rfl
        have q := k H (Same.refl H)
        rw [e] at q
        exact ⟨_, rfl, q⟩
    · refine ⟨_, rfl, v, .ty "str", .type T', .type "str", false, rfl, .ty "str", ty, kit_ty kb, false, rfl, ?_⟩
      exact k H (Same.refl H)
end
end IC
namespace IC
open PySem L2 TL
section
variable {P : Program} {w : World} {K : PySem.W.Frag} {mg : Str → Option Value} {base : Heap} {C : Addr}
theorem dict_take {al : List (List Str)} {i : Nat} {k : List Str} (h : al[i]? = some k) : putK (dictR (al.take i)) (k.map Sum.inr) (.bl true) = dictR (al.take (i + 1)) := by
  unfold dictR
  rw [List.take_add_one, h, List.foldl_append]
  rfl
theorem dict_small (al : List (List Str)) : (dictR al).length ≤ al.length := by
  have all : ∀ (al : List (List Str)) (kvs : List (List Key × V)), (al.foldl (fun kvs k => putK kvs (k.map Sum.inr) (.bl true)) kvs).length ≤ kvs.length + al.length := by
    intro al
    induction al with
    | nil => intro kvs; exact Nat.le_refl _
    | cons a al ih =>
      intro kvs
      rw [List.foldl_cons]
      refine Nat.le_trans (ih _) ?_
      have z := length_putK kvs (a.map Sum.inr : List Key) (.bl true)
      rw [List.length_cons]
      omega
  have z := all al []
  simpa [dictR] using z
theorem ok_rinit {f : Addr} {fd : FuncData} (F : Fun K "__init__" "Rule.__init__" s_Rule___init__ f fd) (R : RTxt K mg C) : FnOk P w K mg base CX0 1 f fd ["self", "names", "allowed", "text"] (spRInit C) := by
  refine F.ok sc_Rule___init__ (fun vs H Q E h => ?_) (fun cdv A outer s H vs Q E hr h => ?_)
  · obtain ⟨x, dx, t, l, ns, al, rs, z, rfl, _⟩ := h
    rfl
  · obtain ⟨x, dx, t, l, ns, al, rs, z, rfl, hx, ht, hl, tu, few, k⟩ := h
    refine ⟨_, (pss_cons (ps_fld (pv 0) (pv 1) rfl)
  (pss_cons (ps_fld (pv 0) (pe_dct (own := [("some", 4)]) (g := gName 4) (tt := tYes) rfl sc_Rule___init__.nd (room_units hr) (pi_list (pv 2)) (blkOk_by (N := ["self", "names", "allowed", "text", "some"]) (sc := defScope s_Rule___init__) (by decide +kernel)) (fun _ _ _ _ _ => pg_name (i := 4) sc_Rule___init__.nd rfl (Or.inl rfl)) (fun _ _ _ _ _ => pts_nil) (fun _ _ _ _ _ => (pv 4)) (fun _ _ _ _ _ => pe_bl)) rfl)
  (pss_one (ps_fld (pv 0) (pv 3) rfl)))), ?_⟩
    have kx : ∀ {o : HO}, Kp [x] H (upd H x o) := Kp.at_ (List.mem_singleton.mpr rfl)
    have nx : ∀ {b : Addr} {o : HO}, H b = some o → (∀ C dx fs, o ≠ .ins C dx fs) → b ≠ x := fun e n eq => by
      rw [eq, hx] at e
      cases e
      exact n _ _ _ rfl
    refine ⟨_, rfl, _, rfl, x, C, dx, [], rfl, hx, R.c, R.n, (by show 0 < 1000; decide), ?_⟩
    have hl1 : upd H x (.ins C dx [("_names", .ref t)]) l = some (.lst (rs.map V.ref)) := by
      rw [upd_ne (nx hl fun _ _ _ z => by cases z)]
      exact hl
    refine ⟨_, rfl, l, rfl, ⟨_, SqL.of hl1⟩, fun D nD => ?_⟩
    have sD := Same.new (o := .dT []) nD
    refine dct_list (K := K) (a := l) (xs := rs.map V.ref) (fun i G => Same (upd H x (.ins C dx [("_names", .ref t)])) G ∧ G D = some (.dT (dictR (al.take i)))) ⟨Same.new nD, upd_same⟩ (fun i G _ h => SqL.of (h.1 _ _ hl1)) (fun i y G hi h => ?_) (fun G h => ?_)
    · rw [List.getElem?_map] at hi
      cases er : rs[i]? with
      | none =>
        rw [er] at hi
        cases hi
      | some r =>
        rw [er] at hi
        cases hi
        have li : i < al.length := by
          rw [← tu.1]
          exact (List.getElem?_eq_some_iff.mp er).1
        have ek : al[i]? = some al[i] := List.getElem?_eq_getElem li
        have hr1 := tu.2 i r _ er ek
        have ne : r ≠ x := nx hr1 fun _ _ _ z => by cases z
        have hG : G r = some (.tup ((al[i].map Sum.inr : List Key).map kV)) := by
          rw [kv_inr]
          exact h.1 _ _ (by rw [upd_ne ne]; exact hr1)
        refine ⟨by simp [wipe], ?_⟩
        refine ⟨_, rfl, dictR (al.take i), al[i].map Sum.inr, r, rfl, hG, h.2, ?_, ?_, ?_⟩
        · have z1 := dict_small (al.take i)
          have z2 : (al.take i).length ≤ al.length := by rw [List.length_take]; omega
          exact small1000 (by omega)
        · exact fun b o e => by
            have ne : b ≠ D := ne_of_none e nD
            rw [upd_ne ne]
            exact h.1 b o e
        · rw [upd_same, dict_take ek]
    · have er : rs.length = al.length := tu.1
      have hG := h.2
      rw [List.length_map, er, List.take_length] at hG
      have xD : x ≠ D := ne_of_none upd_same nD
      have gx : G x = some (.ins C dx [("_names", .ref t)]) := h.1 _ _ upd_same
      refine ⟨_, rfl, x, C, dx, _, rfl, gx, R.c, R.a, (by show 1 < 1000; decide), ?_⟩
      refine ⟨_, rfl, _, rfl, x, C, dx, _, rfl, upd_same, R.c, R.t, (by show 2 < 1000; decide), ?_⟩
      refine k _ (((kx.trans (Kp.same h.1)).mutAt (List.mem_singleton.mpr rfl)).mutAt (List.mem_singleton.mpr rfl)) ⟨dx, t, D, upd_same, ?_, ?_⟩
      · have ne : t ≠ x := nx ht fun _ _ _ z => by cases z
        rw [upd_ne ne, upd_ne ne]
        exact h.1 _ _ (by rw [upd_ne ne]; exact ht)
      · rw [upd_ne xD.symm, upd_ne xD.symm]
        exact hG
theorem ok_few {f : Addr} {fd : FuncData} (F : Fun K "check_few" "check_few" s_check_few f fd) (T : Bn mg) (R : RTxt K mg C) : FnOk P w K mg base CX0 1 f fd ["names"] spFew := by
  refine F.ok sc_check_few (fun vs H Q E h => ?_) (fun cdv A outer s H vs Q E hr h => ?_)
  · obtain ⟨t, ns, rfl, _⟩ := h
    rfl
  · obtain ⟨t, ns, rfl, ht, few, k⟩ := h
    refine ⟨_, (pss_one (ps_if (pt_cmpR op_gt (pe_callB call_len_seq (by rfl) T.len PySem.boot_len (pa_cons (pv 0) pa_nil)) (pe_gv2 R.gM rfl) (nomark _))
  pss_dead
  pss_nil)), ?_⟩
    refine ⟨_, rfl, t, _, rfl, .inr (SqT.of ht), _, _, rfl, rfl, _, rfl, ?_⟩
    have e : decide ((6 : Int) < ((ns.map V.str).length : Int)) = false := by
      rw [List.length_map]
      exact decide_eq_false (by omega)
    dsimp only
    rw [show decide (((ns.map V.str).length : Int) > 6) = false from e]
    exact iteF k
theorem ok_has {f : Addr} {fd : FuncData} (F : Fun K "has" "Rule.has" s_Rule_has f fd) (R : RTxt K mg C) (D_is_word : Df P w K mg base 1 "is_word" ["thing"] (spIsWord K)) (C_R : RDf P w K mg base 1 C) : FnOk P w K mg base CX0 3 f fd ["record"] (spHas C) := by
  refine F.ok sc_Rule_has (fun vs H Q E h => ?_) (fun cdv A outer s H vs Q E hr h => ?_)
  · obtain ⟨z, rfl, _⟩ := h
    rfl
  · obtain ⟨z, rfl, hz, k⟩ := h
    refine ⟨_, (pss_cons (ps_if (pt_not (pt_val (pe_df D_is_word hr (by decide) rfl (pa_cons (pv 0) pa_nil))))
  pss_dead
  pss_nil)
  (pss_one (ps_ret (pe_mkR C_R hr (by decide) rfl (pa_cons (pe_tup (pa_cons (pv 0) pa_nil)) (pa_cons (pe_lst (pa_cons (pe_tup (pa_cons (pv 0) pa_nil)) pa_nil)) (pa_cons (pv 0) pa_nil))))))), ?_⟩
    have one : ∀ {v : V}, [v].length ≤ sizeLine := by intro v; show 1 ≤ sizeLine; decide
    refine ⟨_, rfl, .str z, rfl, .inl ⟨z, rfl, by have := hz.2.1; omega, fun H1 s1 => ⟨_, rfl, ?_⟩⟩⟩
    rw [wB_of hz]
    refine iteF ?_
    refine ⟨_, rfl, one, fun t nt => ⟨_, rfl, one, fun t2 nt2 => ⟨one, fun l nl => ⟨_, rfl, ?_⟩⟩⟩⟩
    have sa : Same H1 (upd H1 t (.tup [.str z])) := Same.new nt
    have sb : Same (upd H1 t (.tup [.str z])) (upd (upd H1 t (.tup [.str z])) t2 (.tup [.str z])) := Same.new nt2
    have sc : Same (upd (upd H1 t (.tup [.str z])) t2 (.tup [.str z])) (upd (upd (upd H1 t (.tup [.str z])) t2 (.tup [.str z])) l (.lst [.ref t2])) := Same.new nl
    refine make_rule (ns := [z]) (al := [[z]]) (rs := [t2]) (z := z) (sc _ _ (sb _ _ upd_same)) upd_same ⟨rfl, fun i r k e1 e2 => ?_⟩ (by show 1 ≤ 100; decide) (k.same (((s1.trans sa).trans sb).trans sc))
    cases i with
    | zero =>
      cases e1
      cases e2
      exact sc _ _ upd_same
    | succ i => cases e1
theorem ok_always {f : Addr} {fd : FuncData} (F : Fun K "always" "Rule.always" s_Rule_always f fd) (C_R : RDf P w K mg base 1 C) : FnOk P w K mg base CX0 3 f fd [] (spAlways C) := by
  refine F.ok sc_Rule_always (fun vs H Q E h => ?_) (fun cdv A outer s H vs Q E hr h => ?_)
  · obtain ⟨rfl, _⟩ := h
    rfl
  · obtain ⟨rfl, k⟩ := h
    refine ⟨_, (pss_one (ps_ret (pe_mkR C_R hr (by decide) rfl (pa_cons (pe_tup pa_nil) (pa_cons (pe_lst (pa_cons (pe_tup pa_nil) pa_nil)) (pa_cons pe_str pa_nil)))))), ?_⟩
    refine ⟨by show 0 ≤ sizeLine; decide, fun t nt => ⟨by show 0 ≤ sizeLine; decide, fun t2 nt2 => ⟨by show 1 ≤ sizeLine; decide, fun l nl => ?_⟩⟩⟩
    have sa : Same H (upd H t (.tup [])) := Same.new nt
    have sb : Same (upd H t (.tup [])) (upd (upd H t (.tup [])) t2 (.tup [])) := Same.new nt2
    have sc : Same (upd (upd H t (.tup [])) t2 (.tup [])) (upd (upd (upd H t (.tup [])) t2 (.tup [])) l (.lst [.ref t2])) := Same.new nl
    refine make_rule (ns := []) (al := [[]]) (rs := [t2]) (sc _ _ (sb _ _ upd_same)) upd_same ⟨rfl, fun i r k e1 e2 => ?_⟩ (by decide) (k.same ((sa.trans sb).trans sc))
    cases i with
    | zero =>
      cases e1
      cases e2
      exact sc _ _ upd_same
    | succ i => cases e1
theorem ok_recs {f : Addr} {fd : FuncData} (F : Fun K "records" "Rule.records" s_Rule_records f fd) (T : Bn mg) (R : RTxt K mg C) : FnOk P w K mg base CX0 1 f fd ["self"] (spRecs C) := by
  refine F.ok sc_Rule_records (fun vs H Q E h => ?_) (fun cdv A outer s H vs Q E hr h => ?_)
  · obtain ⟨r, ns, al, z, rfl, _⟩ := h
    rfl
  · obtain ⟨r, ns, al, z, rfl, ⟨dx, t, d, h1, h2, h3⟩, k⟩ := h
    refine ⟨_, (pss_one (ps_ret (pe_callTy call_list_of (by rfl) T.list (by decide +kernel) (pa_cons (pe_fld (pv 0) rfl) pa_nil)))), ?_⟩
    exact ⟨_, rfl, r, C, dx, _, _, rfl, h1, R.c, R.n, rfl, t, _, rfl, .inr (SqT.of h2), k⟩
theorem ok_allows {f : Addr} {fd : FuncData} (F : Fun K "_allows" "Rule._allows" s_Rule__allows f fd) (T : Bn mg) (R : RTxt K mg C) : FnOk P w K mg base CX0 1 f fd ["self", "kept"] (spAsk C) := by
  refine F.ok sc_Rule__allows (fun vs H Q E h => ?_) (fun cdv A outer s H vs Q E hr h => ?_)
  · obtain ⟨r, a, ns, ks, al, z, rfl, _⟩ := h
    rfl
  · obtain ⟨r, a, ns, ks, al, z, rfl, ⟨dx, t, d, h1, h2, h3⟩, hk, few, k⟩ := h
    have hu := hu_of hr
    refine ⟨_, (pss_one (ps_ret (pe_cmp (pc_din hu (pe_callTy call_tuple_of (by rfl) T.tuple (by decide +kernel) (pa_cons (pe_lc (own := [("name", 2)]) (g := gName 2) rfl sc_Rule__allows.nd (pi_tup (pe_fld (pv 0) rfl)) (blkOk_by (N := ["self", "kept", "name"]) (sc := defScope s_Rule__allows) (by decide +kernel)) (fun _ _ _ _ _ => pg_name (i := 2) sc_Rule__allows.nd rfl (Or.inl rfl)) (fun _ _ _ _ _ => pts_one (pt_cmpR (show OpR _ _ (rIn K false) from op_in_seq) (pv 2) (pv 1) (by rfl))) (fun _ _ _ _ _ => (pv 2))) pa_nil)) (pe_fld (pv 0) rfl)) rfl))), ?_⟩
    refine ⟨_, rfl, r, C, dx, _, _, rfl, h1, R.c, R.n, rfl, t, rfl, ⟨_, SqT.of h2⟩, fun D nD => ?_⟩
    refine lc_tup (K := K) (a := t) (xs := ns.map V.str) (fun i G => Same H G ∧ G D = some (.lst (((ns.take i).filter (fun n => decide (n ∈ ks))).map V.str))) ⟨Same.new nD, upd_same⟩ (fun i G _ h => SqT.of (h.1 _ _ h2)) (fun i y G hi h => ?_) (fun G h => ?_)
    · rw [List.getElem?_map] at hi
      cases en : ns[i]? with
      | none =>
        rw [en] at hi
        cases hi
      | some n =>
        rw [en] at hi
        cases hi
        have li : i < ns.length := (List.getElem?_eq_some_iff.mp en).1
        have et : (ns.take (i + 1)).filter (fun n => decide (n ∈ ks)) = (ns.take i).filter (fun n => decide (n ∈ ks)) ++ [n].filter (fun n => decide (n ∈ ks)) := by
          rw [List.take_add_one, en, List.filter_append]
          rfl
        refine ⟨by simp [wipe], ?_⟩
        have hk2 := hk.same h.1
        have small : (((ns.take i).filter (fun n => decide (n ∈ ks))).map V.str).length < sizeLine := by
          rw [List.length_map]
          have z1 := List.length_filter_le (fun n => decide (n ∈ ks)) (ns.take i)
          have z2 : (ns.take i).length ≤ ns.length := by rw [List.length_take]; omega
          exact small1000 (by omega)
        refine ⟨_, rfl, _, rfl, a, ks.map V.str, rfl, hk2.imp SqL.of SqT.of, rfl, flat_ks ks, _, rfl, ?_⟩
        rw [if_neg (by decide), inV_strs]
        cases ec : decide (n ∈ ks) with
        | false =>
          refine iteF ⟨h.1, ?_⟩
          rw [et]
          simp [ec, h.2]
        | true =>
          refine iteT ⟨_, rfl, _, h.2, small, fun b o e => ?_, ?_⟩
          · rw [upd_ne (ne_of_none e nD)]
            exact h.1 b o e
          · rw [upd_same, et]
            simp [ec]
    · rw [List.length_map, List.take_length] at h
      refine ⟨D, _, rfl, .inl ⟨SqL.of h.2, fun p np => ?_⟩⟩
      have s2 : Same G (upd G p (.tup ((ns.filter (fun n => decide (n ∈ ks))).map V.str))) := Same.new np
      refine ⟨_, rfl, r, C, dx, _, _, rfl, (h.1.trans s2) _ _ h1, R.c, R.a, rfl, d, _, rfl, DGet.t (k := (ns.filter (fun n => decide (n ∈ ks))).map Sum.inr) ((h.1.trans s2) _ _ h3) (by rw [kv_inr]; exact upd_same), ?_⟩
      have e : (valV (dictR al) ((ns.filter (fun n => decide (n ∈ ks))).map Sum.inr)).isSome = may ns al ks := by
        rw [dictR_get]
        unfold may
        by_cases hm : ns.filter (fun n => decide (n ∈ ks)) ∈ al
        · rw [if_pos hm, decide_eq_true hm]
          rfl
        · rw [if_neg hm, decide_eq_false hm]
          rfl
      rw [e]
      exact k _ (h.1.trans s2)
theorem ok_call {f : Addr} {fd : FuncData} (F : Fun K "__call__" "Rule.__call__" s_Rule___call__ f fd) (R : RTxt K mg C) (M_allows : MDf P w K mg base CX0 1 C "_allows" ["self", "kept"] [] (spAsk C)) : FnOk P w K mg base CX0 2 f fd ["self", "kept"] (spAsk C) := by
  refine F.ok sc_Rule___call__ (fun vs H Q E h => ?_) (fun cdv A outer s H vs Q E hr h => ?_)
  · obtain ⟨r, a, ns, ks, al, z, rfl, _⟩ := h
    rfl
  · obtain ⟨r, a, ns, ks, al, z, rfl, ra, hk, few, k⟩ := h
    refine ⟨_, (pss_one (ps_ret (pe_md M_allows R.c hr (by decide) (pv 0) (pa_cons (pv 1) pa_nil)))), ?_⟩
    obtain ⟨dx, t, d, h1, h2, h3⟩ := ra
    refine ⟨_, rfl, r, dx, _, rfl, h1, rfl, _, rfl, ?_⟩
    exact ⟨r, a, ns, ks, al, z, rfl, ⟨dx, t, d, h1, h2, h3⟩, hk, few, k⟩
end
end IC
namespace IC
open PySem L2 TL
section
variable {P : Program} {w : World} {K : PySem.W.Frag} {mg : Str → Option Value} {base : Heap} {C : Addr}
theorem sum_le8 : ∀ l : List Str, (∀ z ∈ l, z.length ≤ 8) → (l.map (·.length)).sum ≤ 8 * l.length
  | [], _ => Nat.le_refl _
  | x :: r, h => by
    have z1 := h x (List.mem_cons_self ..)
    have z2 := sum_le8 r fun z hz => h z (List.mem_cons_of_mem _ hz)
    rw [List.map_cons, List.sum_cons, List.length_cons]
    omega
theorem len_app (x y : Str) : (x ++ y).length = x.length + y.length := by
  rw [len_tl, len_tl, len_tl, tl_append, List.length_append]
theorem join_len0 (y : Str) : ∀ l : List Str, (Str.join y l).length ≤ (l.map (·.length)).sum + l.length * y.length
  | [] => Nat.zero_le _
  | [x] => by
    show x.length ≤ _
    simp
  | x :: z :: r => by
    have ih := join_len0 y (z :: r)
    show (x ++ y ++ Str.join y (z :: r)).length ≤ _
    rw [len_app, len_app]
    rw [List.map_cons, List.sum_cons, List.length_cons, Nat.succ_mul]
    omega
theorem join_len (y : Str) (l : List Str) : (Txt.join y l).length ≤ (l.map (·.length)).sum + l.length * y.length := by
  rw [join_eq]
  exact join_len0 y l
theorem ok_together {f : Addr} {fd : FuncData} (F : Fun K "together" "Rule.together" s_Rule_together f fd) (T : Bn mg) (D_is_word : Df P w K mg base 1 "is_word" ["thing"] (spIsWord K)) (D_check_few : Df P w K mg base 1 "check_few" ["names"] spFew) (C_R : RDf P w K mg base 1 C) : FnR P w K mg base CX0 4 f (fun vs H Q E => vs.length ≤ sizeLine ∧ ∀ p, H p = none → spTog C [.ref p] (upd H p (.tup vs)) Q E) := by
  refine Fun.star (n := 3) (sp := spTog C) (v := "records") F sc_Rule_together (fun oc kV doc pm an cdv ct rest => by cases rest <;> rfl) (fun cdv A outer s H vs Q E hr h => ?_)
  obtain ⟨t, zs, rfl, ht, hw, few, k⟩ := h
  refine ⟨_, PSs.nox (pss_cons (ps_for PassesOwn.never rfl (pi_tup (pv 0)) (pg_name (i := 1) sc_Rule_together.nd rfl (Or.inl rfl))
  (pss_one (ps_if (pt_not (pt_val (pe_df D_is_word hr (by decide) rfl (pa_cons (pv 1) pa_nil))))
  pss_dead
  pss_nil)))
  (pss_cons (ps_set (i := 2) sc_Rule_together.nd rfl (Or.inl rfl) (pe_callTy call_tuple_of (by rfl) T.tuple (by decide +kernel) (pa_cons (pe_callB (cr_sortTx rfl) (by rfl) T.sorted (by decide +kernel) (pa_cons (pe_callTy (cr_setTx rfl) (by rfl) T.set (by decide +kernel) (pa_cons (pv 0) pa_nil)) pa_nil)) pa_nil)))
  (pss_cons (ps_expr (pe_df D_check_few hr (by decide) rfl (pa_cons (pv 2) pa_nil)))
  (pss_cons (ps_set (i := 3) sc_Rule_together.nd rfl (Or.inl rfl) (pe_join pe_str (pv 2)))
  (pss_one (ps_ret (pe_mkR C_R hr (by decide) rfl (pa_cons (pv 2) (pa_cons (pe_lst (pa_cons (pe_tup pa_nil) (pa_cons (pv 2) pa_nil))) (pa_cons (pe_joined (PJ.cons pe_str (PJ.cons (pe_fmt (pv 3)) (PJ.cons pe_str PJ.nil)))) pa_nil)))))))))), ?_⟩
  refine ⟨_, rfl, t, rfl, ⟨_, SqT.of ht⟩, for_tup (K := K) (a := t) (xs := zs.map V.str) (fun i σ H' => ∃ o : Option V, σ = [some (.ref t), o, none, none] ∧ Same H H') ⟨_, rfl, Same.refl H⟩ (fun i σ H' _ e => ?_) (fun i x σ H' hi e => ?_) (fun σ H' e => ?_)⟩
  · obtain ⟨o, rfl, s1⟩ := e
    exact SqT.of (s1 _ _ ht)
  · obtain ⟨o, rfl, s1⟩ := e
    rw [List.getElem?_map] at hi
    cases ez : zs[i]? with
    | none =>
      rw [ez] at hi
      cases hi
    | some z =>
      rw [ez] at hi
      cases hi
      have hz := hw z (List.mem_of_getElem? ez)
      refine ⟨_, rfl, .str z, rfl, .inl ⟨z, rfl, by have := hz.2.1; omega, fun H1 s2 => ⟨_, rfl, ?_⟩⟩⟩
      rw [wB_of hz]
      exact iteF ⟨_, rfl, s1.trans s2⟩
  · obtain ⟨o, rfl, s1⟩ := e
    refine ⟨_, rfl, t, zs, rfl, .inr (SqT.of (s1 _ _ ht)), by omega, fun p M np ml mem nd => ⟨p, M, rfl, upd_same, fun ys q perm so nq => ⟨q, _, rfl, .inl ⟨SqL.of upd_same, fun l nl => ?_⟩⟩⟩⟩
    have sp : Same H' (upd H' p (TxO w p M)) := Same.new np
    have sq : Same (upd H' p (TxO w p M)) (upd (upd H' p (TxO w p M)) q (.lst (ys.map V.str))) := Same.new nq
    have sl : Same (upd (upd H' p (TxO w p M)) q (.lst (ys.map V.str))) (upd (upd (upd H' p (TxO w p M)) q (.lst (ys.map V.str))) l (.tup (ys.map V.str))) := Same.new nl
    have s2 := ((s1.trans sp).trans sq).trans sl
    have at_ : upd (upd (upd H' p (TxO w p M)) q (.lst (ys.map V.str))) l (.tup (ys.map V.str)) l = some (.tup (ys.map V.str)) := upd_same
    have ylen : ys.length ≤ 6 := by
      have z := perm.length_eq
      omega
    have y8 : ∀ z ∈ ys, z.length ≤ 8 := fun z hz => by
      have q := hw z ((mem z).mp (perm.mem_iff.mp hz))
      rw [len_tl]
      exact q.2.1
    have ysum := sum_le8 ys y8
    have jl := join_len " " ys
    have e1 : (" " : Str).length = 1 := by decide +kernel
    rw [e1] at jl
    refine ⟨_, rfl, l, ys, rfl, at_, ylen, ?_⟩
    refine ⟨⟨_, rfl⟩, _, rfl, _, l, ys, rfl, rfl, .inr (SqT.of at_), by rw [e1]; omega, ?_⟩
    refine ⟨_, rfl, by show 0 ≤ sizeLine; decide, fun t2 n2 => ⟨_, rfl, by show 2 ≤ sizeLine; decide, fun lb nlb => ?_⟩⟩
    refine ⟨_, rfl, by decide +kernel, _, rfl, .inl ⟨_, rfl, Nat.le_of_lt (small1000 (by omega)), _, rfl, ?_, _, rfl, ?_, ?_⟩⟩
    · have e2 : (Str.empty ++ Str.ofString "together(").length = 9 := by decide +kernel
      rw [len_app, e2]
      exact Nat.le_of_lt (small1000 (by omega))
    · have e2 : (Str.empty ++ Str.ofString "together(").length = 9 := by decide +kernel
      have e3 : (Str.ofString ")").length = 1 := by decide +kernel
      rw [len_app, len_app, e2, e3]
      exact Nat.le_of_lt (small1000 (by omega))
    · have sa := Same.new (o := HO.tup []) n2
      have sb := Same.new (o := HO.lst [.ref t2, .ref l]) nlb
      refine make_rule (ns := ys) (al := [[], ys]) (rs := [t2, l]) ((sa.trans sb) _ _ at_) upd_same ⟨rfl, fun i r k e1 e2 => ?_⟩ (by show 2 ≤ 100; decide) ((k M ys nd ml mem perm so).same ((s2.trans sa).trans sb))
      match i with
      | 0 =>
        cases e1
        cases e2
        exact sb _ _ upd_same
      | 1 =>
        cases e1
        cases e2
        exact (sa.trans sb) _ _ at_
      | i + 2 => cases e1
end
end IC
namespace IC
open PySem L2 TL
section
variable {P : Program} {w : World} {K : PySem.W.Frag} {mg : Str → Option Value} {base : Heap} {C : Addr}
def rLenK (K : PySem.W.Frag) : List V → Hp → VK → Prop := fun xs H Q => ∃ p ys, xs = [V.ref p] ∧ (SqL K H p ys ∨ SqT K H p ys) ∧ Q (V.int ys.length) H
/-- a comprehension over range(n) whose elements are texts that come from the pool -/
theorem lc_strs {te : TE} {gi : Nat} {σ : L2.St} {H1 : Hp} {D p : Addr} {Qd : Hp → Prop} (Ok : Str → Prop) (n : Nat) (m : Int) (hn : n ≤ 1000) (hp : PoolAt H1 p m) (hD : H1 D = none)
    (hte : ∀ (x : V) (m' : Int) (H : Hp) (Q : VK), PoolAt H p m' → m' ≤ m + 9 * n → Kp [p] H1 H → (∀ z H', Ok z → PoolAt H' p (m' + 9) → Kp [p] H H' → Q (.str z) H') → te ((σ.set gi none).set gi (some x)) H Q)
    (hd : ∀ (zs : List Str) (H' : Hp), zs.length = n → (∀ z ∈ zs, Ok z) → H' D = some (.lst (zs.map V.str)) → PoolAt H' p (m + 9 * n) → Kp [p] H1 H' → Qd H') :
    ∃ W : Nat → Nat → Hp → Prop, (∃ m, W 0 m (upd H1 D (.lst []))) ∧ ∀ i m H, W i m H →
      ((Itr 0 n).stop i H ∧ Qd H) ∨ ((Itr 0 n).go i H ∧ ∃ Nx : Hp → Prop, (∀ H', Nx H' → ∃ m', m' < m ∧ W (i + 1) m' H') ∧ ∀ x H', (Itr 0 n).yld i H x H' → gName gi x (wipe σ [gi]) H' fun σ2 H2 => wipe σ2 [gi] = wipe σ [gi] ∧ tYes σ2 H2 fun b H3 =>
        if b = true then te σ2 H3 fun y H4 => ∃ acc, H4 D = some (.lst acc) ∧ acc.length < sizeLine ∧ Nx (upd H4 D (.lst (acc ++ [y]))) else Nx H3) := by
  have hpD : p ≠ D := by
    obtain ⟨a, b, c, e, _⟩ := hp
    exact ne_of_none e hD
  have Dp : D ∉ [p] := fun h => hpD (List.mem_singleton.mp h).symm
  refine lc_range (lo := 0) (n := n) (fun i H' => ∃ zs : List Str, zs.length = i ∧ (∀ z ∈ zs, Ok z) ∧ H' D = some (.lst (zs.map V.str)) ∧ PoolAt H' p (m + 9 * i) ∧ Kp [p] H1 H')
    ⟨[], rfl, by simp, upd_same, (hp.mv fun u e => by rw [upd_ne hpD]; exact e).up (by omega), Kp.new hD⟩ ?_ ?_
  · rintro i H' hi ⟨zs, hl, hz, hzD, hp2, kp⟩
    refine ⟨by simp [wipe], ?_⟩
    refine hte _ (m + 9 * i) H' _ hp2 (by omega) kp fun z H2 hOk hp3 k2 => ?_
    refine ⟨_, k2 _ _ hzD Dp, small1000 (by rw [List.length_map]; omega), zs ++ [z], by simp [hl], ?_, ?_, ?_, ((kp.trans k2).mut hD)⟩
    · intro x hx
      rcases List.mem_append.mp hx with hx | hx
      · exact hz x hx
      · rw [List.mem_singleton.mp hx]; exact hOk
    · rw [upd_same, List.map_append]
      rfl
    · exact (hp3.mv fun u q => by rw [upd_ne hpD]; exact q).up (by omega)
  · rintro H' ⟨zs, hl, hz, hzD, hp2, kp⟩
    exact hd zs H' hl hz hzD hp2 kp
/-- _law_set(pool, words) -/
def spSet : Sp := fun vs H Q _ => ∃ (p wl : Addr) (n : Int) (ws : List Str), vs = [.ref p, .ref wl] ∧ PoolAt H p n ∧ n < 800000000 ∧ H wl = some (.lst (ws.map V.str)) ∧ wl ≠ p ∧ 1 ≤ ws.length ∧ ws.length ≤ 8 ∧ (∀ z ∈ ws, IsW z) ∧
  ∀ (s : Addr) (ks : List Str) (H' : Hp), ks.length ≤ 8 → H' s = some (.lst (ks.map V.str)) → PoolAt H' p (n + 200) → Kp [p] H H' → Q (.ref s) H'
theorem at_strs {ws : List Str} {d : Int} (h0 : 0 ≤ d) (h1 : d < ws.length) : ∃ z ∈ ws, atI (ws.map V.str) d = some (.str z) := by
  have lt : d.toNat < ws.length := by omega
  refine ⟨ws[d.toNat], List.getElem_mem lt, ?_⟩
  have z := atI_nat (xs := ws.map V.str) (j := d.toNat) (v := .str ws[d.toNat]) (by rw [List.getElem?_map, List.getElem?_eq_getElem lt]; rfl)
  rwa [Int.toNat_of_nonneg h0] at z
theorem ok_law_set {f : Addr} {fd : FuncData} (F : Fun K "_law_set" "_law_set" s_law_set f fd) (T : Bn mg) (D_law_draw : Df P w K mg base 1 "_law_draw" ["pool", "many"] spDraw) (D_law_word : Df P w K mg base 2 "_law_word" ["pool"] spWord) : FnOk P w K mg base CX0 3 f fd ["pool", "words"] spSet := by
  refine F.ok sc_law_set (fun vs H Q E h => ?_) (fun cdv A outer s H vs Q E hr h => ?_)
  · obtain ⟨p, wl, n, ws, rfl, _⟩ := h
    rfl
  · obtain ⟨p, wl, n, ws, rfl, hp, hn, hw, ne, l1, l8, ok, k⟩ := h
    refine ⟨_, (pss_cons (ps_setLc (i := 2) (own := [("k", 3)]) (g := gName 3) (tt := tYes) rfl sc_law_set.nd rfl rfl rfl (pi_range1 rfl T.range (pa_cons (pe_df D_law_draw hr (by decide) rfl (pa_cons (pv 0) (pa_cons pe_int pa_nil))) pa_nil)) (blkOk_by (N := ["pool", "words", "some", "k"]) (sc := defScope s_law_set) (by decide +kernel)) (fun _ _ _ _ _ => pg_name (i := 3) sc_law_set.nd rfl (Or.inl rfl)) (fun _ _ _ _ _ => pts_nil) (fun _ _ _ _ _ => (pe_ix (show IxR _ (rIxL K) from ix_list) (pv 1) (pe_df D_law_draw hr (by decide) rfl (pa_cons (pv 0) (pa_cons (pe_callB (show CallR _ (.builtin "len") (rLenK K) from call_len_seq) (by rfl) T.len PySem.boot_len (pa_cons (pv 1) pa_nil)) pa_nil))) (fun _ _ => rfl))))
  (pss_cons (ps_if (pt_cmpR op_eq (pe_df D_law_draw hr (by decide) rfl (pa_cons (pv 0) (pa_cons pe_int pa_nil))) pe_int (nomark _))
  (pss_one (ps_expr (pe_bm PySem.F.plainAttrs_list PySem.F.slot_list_insert PySem.F.type_list_insert mt_insert (pv 2) (pa_cons (pe_df D_law_draw hr (by decide) rfl (pa_cons (pv 0) (pa_cons (pe_op op_add (pe_callB (show CallR _ (.builtin "len") (rLenK K) from call_len_seq) (by rfl) T.len PySem.boot_len (pa_cons (pv 2) pa_nil)) pe_int) pa_nil))) (pa_cons (pe_df D_law_word hr (by decide) rfl (pa_cons (pv 0) pa_nil)) pa_nil)))))
  pss_nil)
  (pss_one (ps_ret (pv 2))))), ?_⟩
    refine ⟨_, rfl, p, 8, n, rfl, hp, by omega, by decide, by decide, fun d o d0 d8 hp1 => ⟨_, rfl, by omega, by omega, fun D hD => ?_⟩⟩
    have hw1 : upd H p o wl = some (.lst (ws.map V.str)) := by
      rw [upd_ne ne]
      exact hw
    refine lc_strs (p := p) (gi := 3) (· ∈ ws) d.toNat (n + 1) (by omega) hp1 hD (fun x m' H2 Q2 hq hm kq cont => ?_) (fun ks H2 hl hk hkD hp3 kp => ?_)
    · have hw2 := kq _ _ hw1 fun h => ne (List.mem_singleton.mp h)
      refine ⟨_, rfl, _, rfl, _, rfl, wl, _, rfl, .inl (SqL.of hw2), p, _, m', rfl, hq, by omega, by rw [List.length_map]; omega, by rw [List.length_map]; omega, fun e o3 e0 e1 hp4 => ?_⟩
      rw [List.length_map] at e1
      obtain ⟨z, hz, at_⟩ := at_strs e0 e1
      refine ⟨wl, _, e, .str z, rfl, rfl, SqL.of (by rw [upd_ne ne]; exact hw2), at_, cont z _ hz (hp4.up (by omega)) (Kp.at_ (by simp))⟩
    · have Dp : D ≠ p := by
        obtain ⟨a, b, c, e, _⟩ := hp1
        exact (ne_of_none e hD).symm
      have kd : ∀ {G G' : Hp}, Kp [p] G G' → ∀ {u : HO}, G D = some u → G' D = some u := fun k u e => k _ _ e fun h => Dp (List.mem_singleton.mp h)
      refine ⟨_, rfl, p, 2, _, rfl, hp3, by omega, by decide, by decide, fun e o3 e0 e1 hp4 => ?_⟩
      have kp4 : Kp [p] H (upd H2 p o3) := ((Kp.at_ (by simp)).trans kp).mutAt (by simp)
      have hD4 : upd H2 p o3 D = some (.lst (ks.map V.str)) := by
        rw [upd_ne Dp]
        exact hkD
      refine ⟨rfl, _, rfl, ?_⟩
      refine ite2 (fun _ => ?_) (fun _ => ⟨_, rfl, k D ks _ (by omega) hD4 (hp4.up (by omega)) kp4⟩)
      refine ⟨_, rfl, .inl ⟨rfl, _, SqL.of hD4⟩, ?_⟩
      refine ⟨_, rfl, _, rfl, D, _, rfl, .inl (SqL.of hD4), _, _, rfl, rfl, p, _, _, rfl, hp4, by omega, ?_, ?_, fun j o5 j0 j1 hp5 => ?_⟩
      · omega
      · rw [List.length_map]
        omega
      · rw [List.length_map] at j1
        have hD5 : upd (upd H2 p o3) p o5 D = some (.lst (ks.map V.str)) := by
          rw [upd_ne Dp]
          exact hD4
        refine ⟨_, rfl, p, _, rfl, hp5, by omega, fun z H3 wz hp6 k6 => ?_⟩
        refine ⟨D, _, j, .str z, rfl, rfl, kd k6 hD5, small1000 (by rw [List.length_map]; omega), j0, by omega, ?_⟩
        refine ⟨_, rfl, k D (ks.take j.toNat ++ [z] ++ ks.drop j.toNat) _ ?_ ?_ ?_ ?_⟩
        · rw [List.append_assoc, List.length_append, List.length_append, List.length_take, List.length_drop, List.length_singleton]
          omega
        · rw [upd_same, List.map_append, List.map_append, List.map_take, List.map_drop]
          rfl
        · exact (hp6.mv fun u q => by rw [upd_ne Dp.symm]; exact q).up (by omega)
        · exact ((kp4.mutAt (by simp)).trans k6).mut (none_of hD).2
end
end IC
namespace IC
open PySem L2 TL
section
variable {P : Program} {w : World} {K : PySem.W.Frag} {mg : Str → Option Value} {base : Heap} {C : Addr}
def spStar (C : Addr) : Sp := fun vs H Q E => vs.length ≤ sizeLine ∧ ∀ p, H p = none → spTog C [.ref p] (upd H p (.tup vs)) Q E
/-- _law_together(words) -/
def spLTog (C : Addr) : Sp := fun vs H Q _ => ∃ (l : Addr) (zs : List Str), vs = [.ref l] ∧ H l = some (.lst (zs.map V.str)) ∧ (∀ z ∈ zs, IsW z) ∧ zs.length ≤ 5 ∧
  ∀ (M ys : List Str), M.Nodup → M.length ≤ zs.length → (∀ z, z ∈ M ↔ z ∈ zs) → ys.Perm M → PyProof.Rows.sortedS ys = true → NewR C H ys [[], ys] Q
theorem ok_law_tog {f : Addr} {fd : FuncData} {pT fT : Addr} (F : Fun K "_law_together" "_law_together" s_law_together f fd) (T : Bn mg) (R : RTxt K mg C) (S_t : SMet K C (.type "type") "together" pT fT) (F_t : FnR P w K mg base CX0 4 fT (spStar C)) : FnOk P w K mg base CX0 5 f fd ["words"] (spLTog C) := by
  refine F.ok sc_law_together (fun vs H Q E h => ?_) (fun cdv A outer s H vs Q E hr h => ?_)
  · obtain ⟨l, zs, rfl, _⟩ := h
    rfl
  · obtain ⟨l, zs, rfl, hl, hw, few, k⟩ := h
    refine ⟨_, (pss_cons (ps_if (pt_cmpR op_eq (pe_callB call_len_seq (by rfl) T.len PySem.boot_len (pa_cons (pv 0) pa_nil)) pe_int (nomark _))
  (pss_one (ps_ret (pe_smR0 (pe_glob (v := .ref _) rfl R.gC rfl) S_t F_t hr (by decide))))
  pss_nil)
  (pss_cons (ps_if (pt_cmpR op_eq (pe_callB call_len_seq (by rfl) T.len PySem.boot_len (pa_cons (pv 0) pa_nil)) pe_int (nomark _))
  (pss_one (ps_ret (pe_smR (pe_glob (v := .ref _) rfl R.gC rfl) S_t F_t hr (by decide) (pa_cons (pe_ix ix_list (pv 0) pe_int (fun _ _ => rfl)) pa_nil))))
  pss_nil)
  (pss_cons (ps_if (pt_cmpR op_eq (pe_callB call_len_seq (by rfl) T.len PySem.boot_len (pa_cons (pv 0) pa_nil)) pe_int (nomark _))
  (pss_one (ps_ret (pe_smR (pe_glob (v := .ref _) rfl R.gC rfl) S_t F_t hr (by decide) (pa_cons (pe_ix ix_list (pv 0) pe_int (fun _ _ => rfl)) (pa_cons (pe_ix ix_list (pv 0) pe_int (fun _ _ => rfl)) pa_nil)))))
  pss_nil)
  (pss_cons (ps_if (pt_cmpR op_eq (pe_callB call_len_seq (by rfl) T.len PySem.boot_len (pa_cons (pv 0) pa_nil)) pe_int (nomark _))
  (pss_one (ps_ret (pe_smR (pe_glob (v := .ref _) rfl R.gC rfl) S_t F_t hr (by decide) (pa_cons (pe_ix ix_list (pv 0) pe_int (fun _ _ => rfl)) (pa_cons (pe_ix ix_list (pv 0) pe_int (fun _ _ => rfl)) (pa_cons (pe_ix ix_list (pv 0) pe_int (fun _ _ => rfl)) pa_nil))))))
  pss_nil)
  (pss_cons (ps_if (pt_cmpR op_eq (pe_callB call_len_seq (by rfl) T.len PySem.boot_len (pa_cons (pv 0) pa_nil)) pe_int (nomark _))
  (pss_one (ps_ret (pe_smR (pe_glob (v := .ref _) rfl R.gC rfl) S_t F_t hr (by decide) (pa_cons (pe_ix ix_list (pv 0) pe_int (fun _ _ => rfl)) (pa_cons (pe_ix ix_list (pv 0) pe_int (fun _ _ => rfl)) (pa_cons (pe_ix ix_list (pv 0) pe_int (fun _ _ => rfl)) (pa_cons (pe_ix ix_list (pv 0) pe_int (fun _ _ => rfl)) pa_nil)))))))
  pss_nil)
  (pss_one (ps_ret (pe_smR (pe_glob (v := .ref _) rfl R.gC rfl) S_t F_t hr (by decide) (pa_cons (pe_ix ix_list (pv 0) pe_int (fun _ _ => rfl)) (pa_cons (pe_ix ix_list (pv 0) pe_int (fun _ _ => rfl)) (pa_cons (pe_ix ix_list (pv 0) pe_int (fun _ _ => rfl)) (pa_cons (pe_ix ix_list (pv 0) pe_int (fun _ _ => rfl)) (pa_cons (pe_ix ix_list (pv 0) pe_int (fun _ _ => rfl)) pa_nil))))))))))))), ?_⟩
    have fin : spStar C (zs.map V.str) H Q E0 := ⟨Nat.le_of_lt (small1000 (by rw [List.length_map]; omega)), fun p np => ⟨p, zs, rfl, upd_same, hw, by omega, fun M ys h1 h0 h2 h3 h4 => (k M ys h1 h0 h2 h3 h4).same (Same.new np)⟩⟩
    match zs, few with
    | [], _ => exact ⟨_, rfl, l, _, rfl, .inl (SqL.of hl), rfl, _, rfl, iteT ⟨rfl, fin⟩⟩
    | [_], _ => exact ⟨_, rfl, l, _, rfl, .inl (SqL.of hl), rfl, _, rfl, iteF ⟨_, rfl, l, _, rfl, .inl (SqL.of hl), rfl, _, rfl, iteT ⟨rfl, _, rfl, l, _, 0, _, rfl, rfl, SqL.of hl, rfl, fin⟩⟩⟩
    | [_, _], _ => exact ⟨_, rfl, l, _, rfl, .inl (SqL.of hl), rfl, _, rfl, iteF ⟨_, rfl, l, _, rfl, .inl (SqL.of hl), rfl, _, rfl, iteF ⟨_, rfl, l, _, rfl, .inl (SqL.of hl), rfl, _, rfl, iteT ⟨rfl, _, rfl, l, _, 0, _, rfl, rfl, SqL.of hl, rfl, _, rfl, l, _, 1, _, rfl, rfl, SqL.of hl, rfl, fin⟩⟩⟩⟩
    | [_, _, _], _ => exact ⟨_, rfl, l, _, rfl, .inl (SqL.of hl), rfl, _, rfl, iteF ⟨_, rfl, l, _, rfl, .inl (SqL.of hl), rfl, _, rfl, iteF ⟨_, rfl, l, _, rfl, .inl (SqL.of hl), rfl, _, rfl, iteF ⟨_, rfl, l, _, rfl, .inl (SqL.of hl), rfl, _, rfl, iteT ⟨rfl, _, rfl, l, _, 0, _, rfl, rfl, SqL.of hl, rfl, _, rfl, l, _, 1, _, rfl, rfl, SqL.of hl, rfl, _, rfl, l, _, 2, _, rfl, rfl, SqL.of hl, rfl, fin⟩⟩⟩⟩⟩
    | [_, _, _, _], _ => exact ⟨_, rfl, l, _, rfl, .inl (SqL.of hl), rfl, _, rfl, iteF ⟨_, rfl, l, _, rfl, .inl (SqL.of hl), rfl, _, rfl, iteF ⟨_, rfl, l, _, rfl, .inl (SqL.of hl), rfl, _, rfl, iteF ⟨_, rfl, l, _, rfl, .inl (SqL.of hl), rfl, _, rfl, iteF ⟨_, rfl, l, _, rfl, .inl (SqL.of hl), rfl, _, rfl, iteT ⟨rfl, _, rfl, l, _, 0, _, rfl, rfl, SqL.of hl, rfl, _, rfl, l, _, 1, _, rfl, rfl, SqL.of hl, rfl, _, rfl, l, _, 2, _, rfl, rfl, SqL.of hl, rfl, _, rfl, l, _, 3, _, rfl, rfl, SqL.of hl, rfl, fin⟩⟩⟩⟩⟩⟩
    | [_, _, _, _, _], _ => exact ⟨_, rfl, l, _, rfl, .inl (SqL.of hl), rfl, _, rfl, iteF ⟨_, rfl, l, _, rfl, .inl (SqL.of hl), rfl, _, rfl, iteF ⟨_, rfl, l, _, rfl, .inl (SqL.of hl), rfl, _, rfl, iteF ⟨_, rfl, l, _, rfl, .inl (SqL.of hl), rfl, _, rfl, iteF ⟨_, rfl, l, _, rfl, .inl (SqL.of hl), rfl, _, rfl, iteF ⟨rfl, _, rfl, l, _, 0, _, rfl, rfl, SqL.of hl, rfl, _, rfl, l, _, 1, _, rfl, rfl, SqL.of hl, rfl, _, rfl, l, _, 2, _, rfl, rfl, SqL.of hl, rfl, _, rfl, l, _, 3, _, rfl, rfl, SqL.of hl, rfl, _, rfl, l, _, 4, _, rfl, rfl, SqL.of hl, rfl, fin⟩⟩⟩⟩⟩⟩
/-- _law_asks(rule, some, due) -/
def spAsks (C : Addr) : Sp := fun vs H Q _ => ∃ (r s : Addr) (due : Bool) (ns ks : List Str) (al : List (List Str)) (z : Str), vs = [.ref r, .ref s, .bl due] ∧ RuleAt C H r ns al z ∧ H s = some (.lst (ks.map V.str)) ∧ ns.length ≤ 100 ∧
  ∀ H', Same H H' → Q (.bl (may ns al ks == due)) H'
def two (b : Bool) : PyData := .list [.bool b, .bool b]
theorem two_ok (b : Bool) : (two b).showable = true ∧ (two b).hasDict = false ∧ (two b).depth ≤ 20 ∧ (two b).shown.length ≤ sizeLine := by
  cases b <;> exact ⟨rfl, rfl, by decide +kernel, Nat.le_of_lt (small1000 (by decide +kernel))⟩
theorem two_eq (a b : Bool) : decide (V.str (two a).shown = V.str (two b).shown) = (a == b) := by
  cases a <;> cases b <;> decide +kernel
theorem ok_asks {f : Addr} {fd : FuncData} {fC : Addr} (F : Fun K "_law_asks" "_law_asks" s_law_asks f fd) (T : Bn mg) (CO : StX.CallO K C fC) (F_call : FnR P w K mg base CX0 2 fC (fun vs H Q E => spAsk C (vs ++ []) H Q E)) : FnG P w K mg base 5 f fd ["rule", "some", "due"] (spAsks C) := by
  refine IC.Fun.okG F sc_law_asks (fun vs H Q E h => ?_) (fun cdv A outer s H vs Q E hgd hr h => ?_)
  · obtain ⟨r, s, due, ns, ks, al, z, rfl, _⟩ := h
    rfl
  · obtain ⟨r, s, due, ns, ks, al, z, rfl, hR, hs, few, k⟩ := h
    refine ⟨_, (pss_cons (ps_set (i := 3) sc_law_asks.nd rfl (Or.inl rfl) (pe_lst (pa_cons (StX.pe_callO (E := E0) (pv 0) CO F_call (hr.mono (by decide)) pass0 (pa_cons (pe_callTy call_list_of (by rfl) T.list (by decide +kernel) (pa_cons (pv 1) pa_nil)) pa_nil)) (pa_cons (StX.pe_callO (E := E0) (pv 0) CO F_call (hr.mono (by decide)) pass0 (pa_cons (pe_callTy call_tuple_of (by rfl) T.tuple (by decide +kernel) (pa_cons (pv 1) pa_nil)) pa_nil)) pa_nil))))
  (pss_one (ps_ret (pe_cmpR op_eq (pe_callB (call_reprD hgd hr.units) (by rfl) T.repr (by decide +kernel) (pa_cons (pv 3) pa_nil)) (pe_callB (call_reprD hgd hr.units) (by rfl) T.repr (by decide +kernel) (pa_cons (pe_lst (pa_cons (pv 2) (pa_cons (pv 2) pa_nil))) pa_nil)) (nomark _))))), ?_⟩
    have ins : ∀ {G : Hp}, RuleAt C G r ns al z → ∃ dx fs, G r = some (.ins C dx fs) := fun h => by
      obtain ⟨dx, t, d, h1, _⟩ := h
      exact ⟨dx, _, h1⟩
    refine ⟨_, rfl, r, rfl, _, rfl, s, _, rfl, .inl (SqL.of hs), fun a na => ?_⟩
    have sa := Same.new (o := HO.lst (ks.map V.str)) na
    refine ⟨.inr (ins (hR.same sa)), r, a, ns, ks, al, z, rfl, hR.same sa, .inl upd_same, few, fun H1 s1 => ?_⟩
    have s2 := sa.trans s1
    refine ⟨_, rfl, r, rfl, _, rfl, s, _, rfl, .inl ⟨SqL.of (s2 _ _ hs), fun b nb => ?_⟩⟩
    have sb := Same.new (o := HO.tup (ks.map V.str)) nb
    refine ⟨.inr (ins (hR.same (s2.trans sb))), r, b, ns, ks, al, z, rfl, hR.same (s2.trans sb), .inr upd_same, few, fun H2 s3 => ?_⟩
    refine ⟨by show 2 ≤ sizeLine; decide, fun t nt => ?_⟩
    generalize may ns al ks = y at k ⊢
    have st := Same.new (o := HO.lst [.bl y, .bl y]) nt
    have twoAt : ∀ {G : Hp} {a : Addr} {b : Bool}, G a = some (.lst [.bl b, .bl b]) → Dp K G (.ref a) (two b) := fun h => .lst (SqL.of h) (.cons (.bl _) (.cons (.bl _) .nil))
    have w1 := two_ok y
    have w2 := two_ok due
    refine ⟨_, rfl, t, two y, rfl, twoAt upd_same, w1.1, w1.2.1, w1.2.2.1, w1.2.2.2, ?_⟩
    refine ⟨_, rfl, _, rfl, by show 2 ≤ sizeLine; decide, fun u nu => ?_⟩
    have su := Same.new (o := HO.lst [.bl due, .bl due]) nu
    refine ⟨u, two due, rfl, twoAt upd_same, w2.1, w2.2.1, w2.2.2.1, w2.2.2.2, rfl, ?_⟩
    rw [two_eq]
    exact k _ ((((s2.trans sb).trans s3).trans st).trans su)
end
end IC
namespace IC
open PySem L2 TL
theorem eqv_strs : ∀ xs ys : List Str, PyData.eqvAll (xs.map PyData.str) (ys.map PyData.str) = decide (xs = ys)
  | [], [] => rfl
  | [], _ :: _ => rfl
  | _ :: _, [] => rfl
  | x :: xs, y :: ys => by
    show (x == y && PyData.eqvAll (xs.map PyData.str) (ys.map PyData.str)) = _
    rw [eqv_strs xs ys, Bool.eq_iff_iff, Bool.and_eq_true, beq_iff_eq, decide_eq_true_iff, decide_eq_true_iff, List.cons.injEq]
theorem eqv_lists (xs ys : List Str) : PyData.eqv (.list (xs.map PyData.str)) (.list (ys.map PyData.str)) = decide (xs = ys) := eqv_strs xs ys
theorem shaped_ws {zs : List Str} (h : ∀ z ∈ zs, IsW z) : SeqAt.shaped (.list (zs.map PyData.str)) = true := shaped_strs zs fun z hz c hc => ((h z hz).2.2 c hc).ok
theorem dp_ws {K : PySem.W.Frag} {H : Hp} {a : Addr} {zs : List Str} (h : H a = some (.lst (zs.map V.str))) : Dp K H (.ref a) (.list (zs.map PyData.str)) := .lst (SqL.of h) (dpAll_strs zs)
theorem may_one (z : Str) (ks : List Str) : may [z] [[z]] ks = decide (z ∈ ks) := by
  unfold may
  by_cases h : z ∈ ks <;> simp [h]
theorem may_all (ks : List Str) : may [] [[]] ks = true := by
  unfold may
  simp
theorem may_tog {ls ys ks : List Str} (mem : ∀ z, z ∈ ys ↔ z ∈ ls) : may ys [[], ys] ks = (decide (ls.filter (fun n => decide (n ∈ ks)) = []) || decide (ls.filter (fun n => decide (n ∈ ks)) = ls)) := by
  unfold may
  rw [Bool.eq_iff_iff, decide_eq_true_iff, Bool.or_eq_true, decide_eq_true_iff, decide_eq_true_iff, List.mem_cons, List.mem_singleton]
  rw [List.filter_eq_nil_iff, List.filter_eq_nil_iff, List.filter_eq_self, List.filter_eq_self]
  constructor
  · rintro (h | h)
    · exact .inl fun a ha => h a ((mem a).mpr ha)
    · exact .inr fun a ha => h a ((mem a).mpr ha)
  · rintro (h | h)
    · exact .inl fun a ha => h a ((mem a).mp ha)
    · exact .inr fun a ha => h a ((mem a).mp ha)
/-- what stands while the law asks its three rules -/
structure LSt (C p wl ll r1 r2 r3 : Addr) (ws ls : List Str) (w0 : Str) (ys : List Str) (H : Hp) : Prop where
  w : H wl = some (.lst (ws.map V.str))
  l : H ll = some (.lst (ls.map V.str))
  a : ∃ z, RuleAt C H r1 [w0] [[w0]] z
  b : ∃ z, RuleAt C H r2 ys [[], ys] z
  c : ∃ z, RuleAt C H r3 [] [[]] z
theorem LSt.same {C p wl ll r1 r2 r3 : Addr} {ws ls : List Str} {w0 : Str} {ys : List Str} {H H' : Hp} (h : LSt C p wl ll r1 r2 r3 ws ls w0 ys H) (s : Same H H') : LSt C p wl ll r1 r2 r3 ws ls w0 ys H' :=
  ⟨s _ _ h.w, s _ _ h.l, h.a.elim fun z q => ⟨z, q.same s⟩, h.b.elim fun z q => ⟨z, q.same s⟩, h.c.elim fun z q => ⟨z, q.same s⟩⟩
theorem LSt.mv {C p wl ll r1 r2 r3 : Addr} {ws ls : List Str} {w0 : Str} {ys : List Str} {H H' : Hp} {n : Int} (h : LSt C p wl ll r1 r2 r3 ws ls w0 ys H) (k : Kp [p] H H') (hp : PoolAt H p n) (nw : wl ≠ p) (nl : ll ≠ p) : LSt C p wl ll r1 r2 r3 ws ls w0 ys H' := by
  rcases hp with ⟨a, b, c, hp, _⟩
  exact ⟨k _ _ h.w fun e => nw (List.mem_singleton.mp e), k _ _ h.l fun e => nl (List.mem_singleton.mp e), h.a.elim fun z q => ⟨z, q.mv k hp⟩, h.b.elim fun z q => ⟨z, q.mv k hp⟩, h.c.elim fun z q => ⟨z, q.mv k hp⟩⟩
theorem RuleAt.ins {C : Addr} {H : Hp} {r : Addr} {ns : List Str} {al : List (List Str)} {z : Str} (h : RuleAt C H r ns al z) : ∃ dx fs, H r = some (.ins C dx fs) ∧ fs.lookup (Str.ofString "records") = none := by
  rcases h with ⟨dx, t, d, h1, _⟩
  exact ⟨dx, _, h1, rfl⟩
end IC
namespace IC
open PySem L2 TL
section
variable {P : Program} {w : World} {K : PySem.W.Frag} {mg : Str → Option Value} {base : Heap} {C : Addr}
theorem ok_law {f : Addr} {fd : FuncData} {pH fH pA fA : Addr} (F : Fun K "law" "law" s_law f fd) (T : Bn mg) (R : RTxt K mg C) (D_law_pool : Df P w K mg base 1 "_law_pool" ["script", "at"] (spPool K)) (D_law_draw : Df P w K mg base 1 "_law_draw" ["pool", "many"] spDraw) (D_law_word : Df P w K mg base 2 "_law_word" ["pool"] spWord)
    (S_h : SMet K C (.type "type") "has" pH fH) (F_h : FnR P w K mg base CX0 3 fH (spHas C)) (S_a : SMet K C (.type "type") "always" pA fA) (F_a : FnR P w K mg base CX0 3 fA (spAlways C)) (D_law_set : Df P w K mg base 3 "_law_set" ["pool", "words"] spSet) (D_law_together : Df P w K mg base 5 "_law_together" ["words"] (spLTog C))
    (D_law_asks : DfG P w K mg base 5 "_law_asks" ["rule", "some", "due"] (spAsks C)) (M_records : MDf P w K mg base CX0 1 C "records" ["self"] [] (spRecs C)) : FnG P w K mg base 7 f fd ["script"] (spLaw K) := by
  refine IC.Fun.okG F sc_law (fun vs H Q E h => ?_) (fun cdv A outer s H vs Q E hgd hr h => ?_)
  · obtain ⟨a, ns, rfl, _⟩ := h
    rfl
  · obtain ⟨a, ns, rfl, hS, hlen, k⟩ := h
    refine ⟨_, (pss_cons (ps_for PassesOwn.never rfl (pi_range1 rfl T.range (pa_cons (pe_callB (call_max2 rfl) (by rfl) T.max PyProof.Rows.boot_max (pa_cons pe_int (pa_cons (pe_callB (call_min2 rfl) (by rfl) T.min PyProof.Rows.boot_min (pa_cons pe_int (pa_cons (pe_callB call_len_seq (by rfl) T.len PySem.boot_len (pa_cons (pv 0) pa_nil)) pa_nil))) pa_nil))) pa_nil)) (pg_name (i := 1) sc_law.nd rfl (Or.inl rfl))
  (pss_cons (ps_set (i := 2) sc_law.nd rfl (Or.inr rfl) (pe_df D_law_pool hr (by decide) rfl (pa_cons (pv 0) (pa_cons (pv 1) pa_nil))))
  (pss_cons (ps_set (i := 3) sc_law.nd rfl (Or.inr rfl) (pe_lc (own := [("k", 12)]) (g := gName 12) (tt := tYes) rfl sc_law.nd (pi_range1 rfl T.range (pa_cons (pe_op op_add pe_int (pe_df D_law_draw hr (by decide) rfl (pa_cons (pv 2) (pa_cons pe_int pa_nil)))) pa_nil)) (blkOk_by (N := ["script", "at", "pool", "words", "listed", "single", "several", "always", "turn", "told", "some", "there", "k", "word"]) (sc := defScope s_law) (by decide +kernel)) (fun _ _ _ _ _ => pg_name (i := 12) sc_law.nd rfl (Or.inl rfl)) (fun _ _ _ _ _ => pts_nil) (fun _ _ _ _ _ => (pe_df D_law_word hr (by decide) rfl (pa_cons (pv 2) pa_nil)))))
  (pss_cons (ps_setLc (i := 4) (own := [("k", 12)]) (g := gName 12) (tt := tYes) rfl sc_law.nd rfl rfl rfl (pi_range1 rfl T.range (pa_cons (pe_df D_law_draw hr (by decide) rfl (pa_cons (pv 2) (pa_cons pe_int pa_nil))) pa_nil)) (blkOk_by (N := ["script", "at", "pool", "words", "listed", "single", "several", "always", "turn", "told", "some", "there", "k", "word"]) (sc := defScope s_law) (by decide +kernel)) (fun _ _ _ _ _ => pg_name (i := 12) sc_law.nd rfl (Or.inl rfl)) (fun _ _ _ _ _ => pts_nil) (fun _ _ _ _ _ => (pe_ix (show IxR _ (rIxL K) from ix_list) (pv 3) (pe_df D_law_draw hr (by decide) rfl (pa_cons (pv 2) (pa_cons (pe_callB (show CallR _ (.builtin "len") (rLenK K) from call_len_seq) (by rfl) T.len PySem.boot_len (pa_cons (pv 3) pa_nil)) pa_nil))) (fun _ _ => rfl))))
  (pss_cons (ps_par3 (i := 5) (j := 6) (l := 7) (by rfl) sc_law.nd rfl rfl rfl (by decide) (by decide) (by decide) rfl rfl rfl (pa_cons (pe_smR (pe_glob (v := .ref _) rfl R.gC rfl) S_h F_h hr (by decide) (pa_cons (pe_ix ix_list (pv 3) pe_int (fun _ _ => rfl)) pa_nil)) (pa_cons (pe_df D_law_together hr (by decide) rfl (pa_cons (pv 4) pa_nil)) (pa_cons (pe_smR0 (pe_glob (v := .ref _) rfl R.gC rfl) S_a F_a hr (by decide)) pa_nil))) (by rfl))
  (pss_cons (ps_for PassesOwn.never rfl (pi_range1 rfl T.range (pa_cons pe_int pa_nil)) (pg_name (i := 8) sc_law.nd rfl (Or.inl rfl))
  (pss_cons (ps_set (i := 10) sc_law.nd rfl (Or.inr rfl) (pe_df D_law_set hr (by decide) rfl (pa_cons (pv 2) (pa_cons (pv 3) pa_nil))))
  (pss_cons (ps_setLc (i := 11) (own := [("word", 13)]) (g := gName 13) rfl sc_law.nd rfl rfl rfl (pi_list (pv 4)) (blkOk_by (N := ["script", "at", "pool", "words", "listed", "single", "several", "always", "turn", "told", "some", "there", "k", "word"]) (sc := defScope s_law) (by decide +kernel)) (fun _ _ _ _ _ => pg_name (i := 13) sc_law.nd rfl (Or.inl rfl)) (fun _ _ _ _ _ => pts_one (pt_cmpR (show OpR _ _ (rIn K false) from op_in_seq) (pv 13) (pv 10) (by rfl))) (fun _ _ _ _ _ => (pv 13)))
  (pss_cons (ps_if (PW.pt (pw_or (pt_not (pt_val (pe_dfG D_law_asks hgd hr (by decide) rfl (pa_cons (pv 5) (pa_cons (pv 10) (pa_cons (pe_cmpR op_in_seq (pe_ix ix_list (pv 3) pe_int (fun _ _ => rfl)) (pv 10) (by rfl)) pa_nil)))))) (pw_or1 (pt_not (pt_val (pe_dfG D_law_asks hgd hr (by decide) rfl (pa_cons (pv 7) (pa_cons (pv 10) (pa_cons pe_bl pa_nil)))))))))
  (pss_one (ps_ret pe_bl))
  pss_nil)
  (pss_one (ps_if (pt_not (pt_val (pe_dfG D_law_asks hgd hr (by decide) rfl (pa_cons (pv 6) (pa_cons (pv 10) (pa_cons (pe_or (pe_cmpR (op_eqD hr.units) (pv 11) (pe_lst pa_nil) (nomark _)) (pe_one (pe_cmpR (op_eqD hr.units) (pv 11) (pv 4) (nomark _)))) pa_nil))))))
  (pss_one (ps_ret pe_bl))
  pss_nil))))))
  (pss_cons (ps_set (i := 9) sc_law.nd rfl (Or.inl rfl) (pe_md0 M_records R.c hr (by decide) (pv 6)))
  (pss_cons (ps_if (PW.pt (pw_or (pt_cmpR (op_neD hr.units) (pv 9) (pe_callB (cr_sortTx rfl) (by rfl) T.sorted (by decide +kernel) (pa_cons (pe_callTy (cr_setTx rfl) (by rfl) T.set (by decide +kernel) (pa_cons (pv 4) pa_nil)) pa_nil)) (nomark _)) (pw_or1 (pt_not (pt_val (pe_callB call_isi (by rfl) T.isi PyProof.Rows.boot_isinstance (pa_cons (pv 9) (pa_cons (pe_bltn (v := .ty "list") (by rfl) T.list (by decide +kernel) rfl) pa_nil))))))))
  (pss_one (ps_ret pe_bl))
  pss_nil)
  (pss_cons (ps_expr (pe_bm PySem.F.plainAttrs_list PySem.F.slot_list_append PySem.F.type_list_append mt_append (pv 9) (pa_cons pe_str pa_nil)))
  (pss_one (ps_if (PW.pt (pw_or (pt_cmpR (op_neD hr.units) (pe_md0 M_records R.c hr (by decide) (pv 6)) (pe_callB (cr_sortTx rfl) (by rfl) T.sorted (by decide +kernel) (pa_cons (pe_callTy (cr_setTx rfl) (by rfl) T.set (by decide +kernel) (pa_cons (pv 4) pa_nil)) pa_nil)) (nomark _)) (pw_or (pt_cmpR (op_neD hr.units) (pe_md0 M_records R.c hr (by decide) (pv 5)) (pe_lst (pa_cons (pe_ix ix_list (pv 3) pe_int (fun _ _ => rfl)) pa_nil)) (nomark _)) (pw_or1 (pt_cmpR (op_neD hr.units) (pe_md0 M_records R.c hr (by decide) (pv 7)) (pe_lst pa_nil) (nomark _))))))
  (pss_one (ps_ret pe_bl))
  pss_nil)))))))))))
  (pss_one (ps_ret pe_bl))), ?_⟩
    have hlm : (ns.map V.int).length = ns.length := List.length_map ..
    obtain ⟨N, hN, hN2⟩ : ∃ N : Int, N = (if (if ((ns.map V.int).length : Int) < 12 then ((ns.map V.int).length : Int) else 12) > 1 then (if ((ns.map V.int).length : Int) < 12 then ((ns.map V.int).length : Int) else 12) else 1) ∧ 0 ≤ N ∧ N ≤ 12 := by
      refine ⟨_, rfl, ?_, ?_⟩ <;> (repeat' split) <;> omega
    refine ⟨_, rfl, a, _, rfl, .inl hS, _, _, rfl, _, _, rfl, N, (by rw [hN]), by omega, by omega, for_range (lo := 0) (n := N.toNat) (fun i σ H1 => ∃ v1 v2 v3 v4 v5 v6 v7 v8 v9 v10 v11 v12 v13, σ = [some (.ref a), v1, v2, v3, v4, v5, v6, v7, v8, v9, v10, v11, v12, v13] ∧ Same H H1) ⟨_, _, _, _, _, _, _, _, _, _, _, _, _, rfl, fun _ _ e => e⟩ ?_ ?_⟩
    · rintro i σ H1 hi ⟨v1, v2, v3, v4, v5, v6, v7, v8, v9, v10, v11, v12, v13, rfl, s1⟩
      refine ⟨_, rfl, _, rfl, a, ns, i, (by rw [Int.zero_add]; rfl), s1.seq hS, by omega, fun p o hp hp1 => ?_⟩
      have hp0 : H p = none := s1.free hp
      refine ⟨_, rfl, p, 7, 0, rfl, hp1, by omega, by decide, by decide, fun d o1 d0 d7 hp2 => ⟨_, _, rfl, rfl, _, rfl, by omega, by omega, fun D hD => ?_⟩⟩
      refine lc_strs (p := p) (gi := 12) IsW (1 + d).toNat (0 + 1) (by omega) hp2 hD (fun x m' G Q2 hq hm kq cont => ⟨_, rfl, p, m', rfl, hq, by omega, fun z G' wz hp' kp' => cont z G' wz hp' kp'⟩) (fun ws G2 lw okw hw hp3 kp3 => ?_)
      have Dp : D ≠ p := (none_of hD).1.symm
      have kD : ∀ {G G' : Hp}, Kp [p] G G' → ∀ {u : HO}, G D = some u → G' D = some u := fun k u e => k _ _ e fun h => Dp (List.mem_singleton.mp h)
      refine ⟨_, rfl, p, 6, _, rfl, hp3, by omega, by decide, by decide, fun d2 o2 e0 e6 hp4 => ⟨_, rfl, by omega, by omega, fun D2 hD2 => ?_⟩⟩
      have hw4 : upd G2 p o2 D = some (.lst (ws.map V.str)) := by
        rw [upd_ne Dp]
        exact hw
      refine lc_strs (p := p) (gi := 12) (· ∈ ws) d2.toNat _ (by omega) hp4 hD2 (fun x m' G Q2 hq hm kq cont => ?_) (fun ls G3 ll okl hl hp5 kp5 => ?_)
      · have hw5 := kD kq hw4
        refine ⟨_, rfl, _, rfl, _, rfl, D, _, rfl, .inl (SqL.of hw5), p, _, m', rfl, hq, by omega, by rw [List.length_map]; omega, by rw [List.length_map]; omega, fun e o3 e0 e1 hp6 => ?_⟩
        rw [List.length_map] at e1
        obtain ⟨z, hz, at_⟩ := at_strs e0 e1
        refine ⟨D, _, e, .str z, rfl, rfl, SqL.of (by rw [upd_ne Dp]; exact hw5), at_, cont z _ hz (hp6.up (by omega)) (Kp.at_ (by simp))⟩
      · have Ep : D2 ≠ p := (none_of hD2).1.symm
        have kE : ∀ {G G' : Hp}, Kp [p] G G' → ∀ {u : HO}, G D2 = some u → G' D2 = some u := fun k u e => k _ _ e fun h => Ep (List.mem_singleton.mp h)
        have hw6 := kD kp5 hw4
        have sG : Same H G3 := by
          have k1 : Kp [p] H1 (upd (upd H1 p o) p o1) := (Kp.new hp).mutAt (by simp)
          exact Same.kp s1 ((k1.trans (kp3.mutAt (by simp))).trans kp5) hp0
        have l1 : 1 ≤ ws.length := by omega
        have l8 : ws.length ≤ 8 := by omega
        have l5 : ls.length ≤ 5 := by omega
        have okL : ∀ z ∈ ls, IsW z := fun z hz => okw z (okl z hz)
        obtain ⟨w0, hw0, at0⟩ := at_strs (ws := ws) (d := 0) (by decide) (by omega)
        have hp7 := hp5.up (m := 200) (by omega)
        clear hp5 hp4 hp3 hp2 hp1 kp5 kp3 hw hw4 ll lw
        refine ⟨rfl, _, rfl, D, _, 0, _, rfl, rfl, SqL.of hw6, at0, w0, rfl, okw _ hw0, fun G4 r1 z1 s4 ra1 => ?_⟩
        refine ⟨_, rfl, D2, ls, rfl, s4 _ _ hl, okL, l5, fun M ys nd ml mem perm so G5 r2 z2 s5 ra2 => ?_⟩
        refine ⟨rfl, rfl, fun G6 r3 z3 s6 ra3 => ⟨_, _, _, rfl, ?_⟩⟩
        have sG6 : Same H G6 := ((sG.trans s4).trans s5).trans s6
        have L0 : LSt C p D D2 r1 r2 r3 ws ls w0 ys G6 := ⟨((s4.trans s5).trans s6) _ _ hw6, ((s4.trans s5).trans s6) _ _ hl, ⟨z1, ra1.same (s5.trans s6)⟩, ⟨z2, ra2.same s6⟩, ⟨z3, ra3⟩⟩
        have hp8 : PoolAt G6 p 200 := hp7.mv fun u e => ((s4.trans s5).trans s6) _ _ e
        have memY : ∀ z, z ∈ ys ↔ z ∈ ls := fun z => (perm.mem_iff).trans (mem z)
        have ylen : ys.length ≤ 100 := by
          have q := perm.length_eq
          omega
        clear s4 s5 s6 ra1 ra2 ra3 hw6 hl hp7 sG
        refine ⟨_, rfl, by decide, by decide, for_range (lo := 0) (n := 8) (fun j σ G => ∃ v8 v9 v10 v11 v12 v13, σ = [some (.ref a), some (.int (0 + (i : Int))), some (.ref p), some (.ref D), some (.ref D2), some (.ref r1), some (.ref r2), some (.ref r3), v8, v9, v10, v11, v12, v13] ∧ Same H G ∧ LSt C p D D2 r1 r2 r3 ws ls w0 ys G ∧ PoolAt G p (200 + 200 * (j : Int))) ⟨_, _, _, _, _, _, rfl, sG6, L0, hp8.up (by omega)⟩ ?_ ?_⟩
        · rintro j σ G hj ⟨v8, v9, v10, v11, v12, v13, rfl, sG, L, hq⟩
          refine ⟨_, rfl, _, rfl, p, D, _, ws, rfl, hq, by omega, L.w, Dp, l1, l8, okw, fun s ks G2 k8 hs hp2 k2 => ?_⟩
          have L2 := L.mv k2 hq Dp Ep
          have sG2 : Same H G2 := Same.kp sG k2 hp0
          refine ⟨_, rfl, D2, rfl, ⟨_, SqL.of L2.l⟩, fun X nX => ?_⟩
          refine lc_list (K := K) (a := D2) (xs := ls.map V.str) (fun i G => Same G2 G ∧ G X = some (.lst (((ls.take i).filter (fun n => decide (n ∈ ks))).map V.str))) ⟨Same.new nX, upd_same⟩ (fun i G _ h => SqL.of (h.1 _ _ L2.l)) (fun i y G hi h => ?_) (fun G h => ?_)
          · rw [List.getElem?_map] at hi
            cases en : ls[i]? with
            | none =>
              rw [en] at hi
              cases hi
            | some n =>
              rw [en] at hi
              cases hi
              have li : i < ls.length := (List.getElem?_eq_some_iff.mp en).1
              have et : (ls.take (i + 1)).filter (fun n => decide (n ∈ ks)) = (ls.take i).filter (fun n => decide (n ∈ ks)) ++ [n].filter (fun n => decide (n ∈ ks)) := by
                rw [List.take_add_one, en, List.filter_append]
                rfl
              refine ⟨by simp [wipe], ?_⟩
              have small : (((ls.take i).filter (fun n => decide (n ∈ ks))).map V.str).length < sizeLine := by
                rw [List.length_map]
                have q1 := List.length_filter_le (fun n => decide (n ∈ ks)) (ls.take i)
                have q2 : (ls.take i).length ≤ ls.length := by rw [List.length_take]; omega
                exact small1000 (by omega)
              refine ⟨_, rfl, _, rfl, s, ks.map V.str, rfl, .inl (SqL.of (h.1 _ _ hs)), rfl, flat_ks ks, _, rfl, ?_⟩
              rw [if_neg (by decide), inV_strs]
              cases ec : decide (n ∈ ks) with
              | false =>
                refine iteF ⟨h.1, ?_⟩
                rw [et]
                simp [ec, h.2]
              | true =>
                refine iteT ⟨_, rfl, _, h.2, small, fun b o e => ?_, ?_⟩
                · rw [upd_ne (ne_of_none e nX)]
                  exact h.1 b o e
                · rw [upd_same, et]
                  simp [ec]
          · rw [List.length_map, List.take_length] at h
            obtain ⟨s7, hX⟩ := h
            have L3 := L2.same s7
            have hs3 := s7 _ _ hs
            obtain ⟨za, ra⟩ := L3.a
            refine ⟨_, rfl, _, rfl, _, rfl, D, _, 0, _, rfl, rfl, SqL.of L3.w, at0, _, rfl, s, ks.map V.str, rfl, .inl (SqL.of hs3), rfl, flat_ks ks, ?_⟩
            rw [if_neg (by decide), inV_strs]
            refine ⟨r1, s, _, [w0], ks, [[w0]], za, rfl, ra, hs3, by show 1 ≤ 100; decide, fun G3 s8 => ⟨_, rfl, ?_⟩⟩
            rw [may_one, beq_self_eq_true]
            have L4 := L3.same s8
            obtain ⟨zc, rc⟩ := L4.c
            have hs4 := s8 _ _ hs3
            refine iteF ⟨_, rfl, _, rfl, r3, s, true, [], ks, [[]], zc, rfl, rc, hs4, by show 0 ≤ 100; decide, fun G4 s9 => ⟨_, rfl, ?_⟩⟩
            rw [may_all]
            refine iteF ?_
            have L5 := L4.same s9
            obtain ⟨zb, rb⟩ := L5.b
            have hs5 := s9 _ _ hs4
            have hX5 := (s8.trans s9) _ _ hX
            have okT : ∀ z ∈ ls.filter (fun n => decide (n ∈ ks)), IsW z := fun z hz => okL z (List.mem_filter.mp hz).1
            refine ⟨_, rfl, _, rfl, _, rfl, Nat.zero_le _, fun e ne_ => ?_⟩
            have sE := Same.new (o := HO.lst []) ne_
            refine ⟨.list ((ls.filter (fun n => decide (n ∈ ks))).map PyData.str), .list (([] : List Str).map PyData.str), dp_ws (sE _ _ hX5), dp_ws (zs := []) upd_same, shaped_ws okT, rfl, ?_⟩
            rw [eqv_lists]
            refine ⟨_, rfl, ?_⟩
            have done : ∀ {G' : Hp}, Same G4 G' → Same H G' ∧ LSt C p D D2 r1 r2 r3 ws ls w0 ys G' ∧ PoolAt G' p (200 + 200 * ((j + 1 : Nat) : Int)) := fun s => ⟨(((sG2.trans s7).trans s8).trans s9).trans s, L5.same s, (hp2.mv fun u q => (((s7.trans s8).trans s9).trans s) _ _ q).up (by omega)⟩
            have mq := may_tog (ks := ks) memY
            cases c1 : decide (ls.filter (fun n => decide (n ∈ ks)) = []) with
            | true =>
              refine iteT ⟨r2, s, true, ys, ks, [[], ys], zb, rfl, rb.same sE, sE _ _ hs5, ylen, fun G5 s10 => ⟨_, rfl, ?_⟩⟩
              rw [mq, c1, Bool.true_or]
              exact iteF ⟨_, _, _, _, _, _, rfl, done (sE.trans s10)⟩
            | false =>
              refine iteF ⟨_, rfl, _, rfl, .list ((ls.filter (fun n => decide (n ∈ ks))).map PyData.str), .list (ls.map PyData.str), dp_ws (sE _ _ hX5), dp_ws (sE _ _ L5.l), shaped_ws okT, shaped_ws okL, ?_⟩
              rw [eqv_lists]
              refine ⟨r2, s, _, ys, ks, [[], ys], zb, rfl, rb.same sE, sE _ _ hs5, ylen, fun G5 s10 => ⟨_, rfl, ?_⟩⟩
              rw [mq, c1, Bool.false_or, beq_self_eq_true]
              exact iteF ⟨_, _, _, _, _, _, rfl, done (sE.trans s10)⟩
        · rintro σ G ⟨v8, v9, v10, v11, v12, v13, rfl, sG, L, hq⟩
          obtain ⟨zb, rb⟩ := L.b
          obtain ⟨dx, fs, ab, lb⟩ := rb.ins
          refine ⟨_, rfl, r2, dx, fs, rfl, ab, lb, r2, ys, [[], ys], zb, rfl, rb, fun t nt => ?_⟩
          have sT := Same.new (o := HO.lst (ys.map V.str)) nt
          have sE : ∀ (e : Addr) (n : upd G t (.lst (ys.map V.str)) e = none) (M1 : List Str), Same (upd G t (.lst (ys.map V.str))) (upd (upd G t (.lst (ys.map V.str))) e (TxO w e M1)) := fun e n M1 => Same.new n
          have okY : ∀ z ∈ ys, IsW z := fun z hz => okL z ((memY z).mp hz)
          have one : ∀ (M1 ys1 : List Str), M1.Nodup → (∀ z, z ∈ M1 ↔ z ∈ ls) → ys1.Perm M1 → PyProof.Rows.sortedS ys1 = true → ys1 = ys := fun M1 ys1 nd1 mem1 perm1 so1 => sorted_one (perm1.trans ((perm_mem nd1 nd fun z => (mem1 z).trans (mem z).symm).trans perm.symm)) so1 so
          refine ⟨_, rfl, _, rfl, D2, ls, rfl, .inl (SqL.of (sT _ _ L.l)), by omega, fun e1 M1 n1 m1 mem1 nd1 => ⟨e1, M1, rfl, upd_same, fun ys1 q perm1 so1 nq => ?_⟩⟩
          have s11 := Same.new (o := TxO w e1 M1) n1
          have s12 := Same.new (o := HO.lst (ys1.map V.str)) nq
          have eqy := one M1 ys1 nd1 mem1 perm1 so1
          refine ⟨.list (ys.map PyData.str), .list (ys1.map PyData.str), dp_ws ((s11.trans s12) _ _ upd_same), dp_ws upd_same, shaped_ws okY, by rw [eqy]; exact shaped_ws okY, ?_⟩
          rw [eqv_lists, decide_eq_true eqy.symm]
          refine ⟨_, rfl, iteF ?_⟩
          refine ⟨_, rfl, .ref t, .ty "list", .type "list", .type "list", true, rfl, .ty _, .base (.lst ((s11.trans s12) _ _ upd_same)), rfl, _, rfl, iteF ?_⟩
          have s13 := (sT.trans s11).trans s12
          have hT := (s11.trans s12) t (.lst (ys.map V.str)) upd_same
          refine ⟨_, rfl, .inl ⟨rfl, _, SqL.of hT⟩, t, _, .str (Str.ofString "a"), rfl, rfl, hT, small1000 (by rw [List.length_map]; omega), ?_⟩
          have s14 : Same G (upd (upd (upd (upd G t (.lst (ys.map V.str))) e1 (TxO w e1 M1)) q (.lst (ys1.map V.str))) t (.lst (ys.map V.str ++ [.str (Str.ofString "a")]))) := fun b o e => by
            rw [upd_ne (ne_of_none e nt)]
            exact s13 _ _ e
          have L8 := L.same s14
          obtain ⟨za, ra⟩ := L8.a
          obtain ⟨zb8, rb8⟩ := L8.b
          obtain ⟨zc, rc⟩ := L8.c
          obtain ⟨dx8, fs8, ab8, lb8⟩ := rb8.ins
          refine ⟨_, rfl, r2, dx8, fs8, rfl, ab8, lb8, r2, ys, [[], ys], zb8, rfl, rb8, fun t2 nt2 => ?_⟩
          have s15 := Same.new (o := HO.lst (ys.map V.str)) nt2
          refine ⟨_, rfl, D2, ls, rfl, .inl (SqL.of (s15 _ _ L8.l)), by omega, fun e2 M2 n2 m2 mem2 nd2 => ⟨e2, M2, rfl, upd_same, fun ys2 q2 perm2 so2 nq2 => ?_⟩⟩
          have s16 := Same.new (o := TxO w e2 M2) n2
          have s17 := Same.new (o := HO.lst (ys2.map V.str)) nq2
          have eqy2 := one M2 ys2 nd2 mem2 perm2 so2
          refine ⟨.list (ys.map PyData.str), .list (ys2.map PyData.str), dp_ws ((s16.trans s17) _ _ upd_same), dp_ws upd_same, shaped_ws okY, by rw [eqy2]; exact shaped_ws okY, ?_⟩
          rw [eqv_lists, decide_eq_true eqy2.symm]
          refine ⟨_, rfl, iteF ?_⟩
          have L9 := ((L8.same s15).same s16).same s17
          obtain ⟨zA, rA⟩ := L9.a
          obtain ⟨dA, fA', aA, lA⟩ := rA.ins
          refine ⟨_, rfl, r1, dA, fA', rfl, aA, lA, r1, [w0], [[w0]], zA, rfl, rA, fun t3 nt3 => ?_⟩
          have s18 := Same.new (o := HO.lst ([w0].map V.str)) nt3
          refine ⟨_, rfl, D, _, 0, _, rfl, rfl, SqL.of (s18 _ _ L9.w), at0, by show 1 ≤ sizeLine; decide, fun t4 nt4 => ?_⟩
          have s19 := Same.new (o := HO.lst [.str w0]) nt4
          have okO : ∀ z ∈ [w0], IsW z := fun z hz => by
            rw [List.mem_singleton.mp hz]
            exact okw _ hw0
          refine ⟨.list ([w0].map PyData.str), .list ([w0].map PyData.str), dp_ws (s19 _ _ upd_same), dp_ws (zs := [w0]) upd_same, shaped_ws okO, shaped_ws okO, ?_⟩
          rw [eqv_lists, decide_eq_true rfl]
          refine ⟨_, rfl, iteF ?_⟩
          have L10 := (L9.same s18).same s19
          obtain ⟨zC, rC⟩ := L10.c
          obtain ⟨dC, fC', aC, lC⟩ := rC.ins
          refine ⟨_, rfl, r3, dC, fC', rfl, aC, lC, r3, [], [[]], zC, rfl, rC, fun t5 nt5 => ⟨Nat.zero_le _, fun t6 nt6 => ?_⟩⟩
          have s20 := Same.new (o := HO.lst (([] : List Str).map V.str)) nt5
          have s21 := Same.new (o := HO.lst []) nt6
          refine ⟨.list (([] : List Str).map PyData.str), .list (([] : List Str).map PyData.str), dp_ws (zs := []) (s21 _ _ upd_same), dp_ws (zs := []) upd_same, rfl, rfl, ?_⟩
          rw [eqv_lists, decide_eq_true rfl]
          refine ⟨_, rfl, iteF ?_⟩
          exact ⟨_, _, _, _, _, _, _, _, _, _, _, _, _, rfl, (((((((sG.trans s14).trans s15).trans s16).trans s17).trans s18).trans s19).trans s20).trans s21⟩
    · rintro σ H1 ⟨v1, v2, v3, v4, v5, v6, v7, v8, v9, v10, v11, v12, v13, rfl, s1⟩
      exact k _
end
end IC
namespace IC
open PySem L2 TL
theorem all_mk {l : PySem.W.OpenLaw} {w : World} {K : PySem.W.Frag} {h : Heap} {mg : Str → Option Value} {fa f0 f1 f2 f3 f4 f5 f6 f7 f8 f9 f10 f11 f12 f13 f14 f15 : Addr} (X : K.In h) (G : h.Ns mainGlobals mg) (hfa : mg "law" = some (.ref fa))
    {od0 an0 od1 an1 od2 an2 od3 an3 od4 an4 od5 an5 od6 an6 od7 an7 od8 an8 od9 an9 od10 an10 od11 an11 od12 an12 od13 an13 od14 an14 od15 an15 : Option Addr} {sl0 sl1 sl2 sl3 sl4 sl5 sl6 sl7 sl8 sl9 sl10 sl11 sl12 sl13 sl14 sl15 : Array (Option Value)} {oc0 kV0 dc0 pm0 cd0 ct0 oc1 kV1 dc1 pm1 cd1 ct1 oc2 kV2 dc2 pm2 cd2 ct2 oc3 kV3 dc3 pm3 cd3 ct3 oc4 kV4 dc4 pm4 cd4 ct4 oc5 kV5 dc5 pm5 cd5 ct5 oc6 kV6 dc6 pm6 cd6 ct6 oc7 kV7 dc7 pm7 cd7 ct7 oc8 kV8 dc8 pm8 cd8 ct8 oc9 kV9 dc9 pm9 cd9 ct9 oc10 kV10 dc10 pm10 cd10 ct10 oc11 kV11 dc11 pm11 cd11 ct11 oc12 kV12 dc12 pm12 cd12 ct12 oc13 kV13 dc13 pm13 cd13 ct13 oc14 kV14 dc14 pm14 cd14 ct14 oc15 kV15 dc15 pm15 cd15 ct15 : Value} {CR pH pT pA : Addr} {rsH rsT rsA : List Value} {tkR : Tok}
    (a0 : PySem.W.nsIn K mainGlobals "_law_pool" = some (some (.ref f0))) (l0 : K.lookup f0 = some ⟨oc0, od0, .func (PySem.W.fnOf "_law_pool" "_law_pool" (defArgs s_law_pool) (defBody s_law_pool) (defScope s_law_pool) .none kV0 dc0 pm0 an0 cd0 ct0), sl0⟩) (c0 : PySem.W.codeIn K cd0 "_law_pool" = true) (k0 : PySem.W.keepIn K (.ref f0) = true)
    (a1 : PySem.W.nsIn K mainGlobals "_law_draw" = some (some (.ref f1))) (l1 : K.lookup f1 = some ⟨oc1, od1, .func (PySem.W.fnOf "_law_draw" "_law_draw" (defArgs s_law_draw) (defBody s_law_draw) (defScope s_law_draw) .none kV1 dc1 pm1 an1 cd1 ct1), sl1⟩) (c1 : PySem.W.codeIn K cd1 "_law_draw" = true) (k1 : PySem.W.keepIn K (.ref f1) = true)
    (a2 : PySem.W.nsIn K mainGlobals "_law_word" = some (some (.ref f2))) (l2 : K.lookup f2 = some ⟨oc2, od2, .func (PySem.W.fnOf "_law_word" "_law_word" (defArgs s_law_word) (defBody s_law_word) (defScope s_law_word) .none kV2 dc2 pm2 an2 cd2 ct2), sl2⟩) (c2 : PySem.W.codeIn K cd2 "_law_word" = true) (k2 : PySem.W.keepIn K (.ref f2) = true)
    (a3 : PySem.W.nsIn K mainGlobals "is_word" = some (some (.ref f3))) (l3 : K.lookup f3 = some ⟨oc3, od3, .func (PySem.W.fnOf "is_word" "is_word" (defArgs s_is_word) (defBody s_is_word) (defScope s_is_word) .none kV3 dc3 pm3 an3 cd3 ct3), sl3⟩) (c3 : PySem.W.codeIn K cd3 "is_word" = true) (k3 : PySem.W.keepIn K (.ref f3) = true)
    (a4 : PySem.W.nsIn K mainGlobals "check_few" = some (some (.ref f4))) (l4 : K.lookup f4 = some ⟨oc4, od4, .func (PySem.W.fnOf "check_few" "check_few" (defArgs s_check_few) (defBody s_check_few) (defScope s_check_few) .none kV4 dc4 pm4 an4 cd4 ct4), sl4⟩) (c4 : PySem.W.codeIn K cd4 "check_few" = true) (k4 : PySem.W.keepIn K (.ref f4) = true)
    (a5 : PySem.W.findIn K (.ref CR) "__init__" = some (some (.ref f5))) (l5 : K.lookup f5 = some ⟨oc5, od5, .func (PySem.W.fnOf "__init__" "Rule.__init__" (defArgs s_Rule___init__) (defBody s_Rule___init__) (defScope s_Rule___init__) .none kV5 dc5 pm5 an5 cd5 ct5), sl5⟩) (c5 : PySem.W.codeIn K cd5 "Rule.__init__" = true) (k5 : PySem.W.keepIn K (.ref f5) = true) (i5 : PySem.W.isFn K (.ref f5) = true)
    (a6 : PySem.W.recIn K pH "staticmethod" = some (.ref f6 :: rsH)) (l6 : K.lookup f6 = some ⟨oc6, od6, .func (PySem.W.fnOf "has" "Rule.has" (defArgs s_Rule_has) (defBody s_Rule_has) (defScope s_Rule_has) .none kV6 dc6 pm6 an6 cd6 ct6), sl6⟩) (c6 : PySem.W.codeIn K cd6 "Rule.has" = true) (k6 : PySem.W.keepIn K (.ref f6) = true)
    (a7 : PySem.W.recIn K pT "staticmethod" = some (.ref f7 :: rsT)) (l7 : K.lookup f7 = some ⟨oc7, od7, .func (PySem.W.fnOf "together" "Rule.together" (defArgs s_Rule_together) (defBody s_Rule_together) (defScope s_Rule_together) .none kV7 dc7 pm7 an7 cd7 ct7), sl7⟩) (c7 : PySem.W.codeIn K cd7 "Rule.together" = true) (k7 : PySem.W.keepIn K (.ref f7) = true)
    (a8 : PySem.W.recIn K pA "staticmethod" = some (.ref f8 :: rsA)) (l8 : K.lookup f8 = some ⟨oc8, od8, .func (PySem.W.fnOf "always" "Rule.always" (defArgs s_Rule_always) (defBody s_Rule_always) (defScope s_Rule_always) .none kV8 dc8 pm8 an8 cd8 ct8), sl8⟩) (c8 : PySem.W.codeIn K cd8 "Rule.always" = true) (k8 : PySem.W.keepIn K (.ref f8) = true)
    (a9 : PySem.W.findIn K (.ref CR) "_allows" = some (some (.ref f9))) (l9 : K.lookup f9 = some ⟨oc9, od9, .func (PySem.W.fnOf "_allows" "Rule._allows" (defArgs s_Rule__allows) (defBody s_Rule__allows) (defScope s_Rule__allows) .none kV9 dc9 pm9 an9 cd9 ct9), sl9⟩) (c9 : PySem.W.codeIn K cd9 "Rule._allows" = true) (k9 : PySem.W.keepIn K (.ref f9) = true) (i9 : PySem.W.isFn K (.ref f9) = true)
    (a10 : PySem.W.findIn K (.ref CR) "__call__" = some (some (.ref f10))) (l10 : K.lookup f10 = some ⟨oc10, od10, .func (PySem.W.fnOf "__call__" "Rule.__call__" (defArgs s_Rule___call__) (defBody s_Rule___call__) (defScope s_Rule___call__) .none kV10 dc10 pm10 an10 cd10 ct10), sl10⟩) (c10 : PySem.W.codeIn K cd10 "Rule.__call__" = true) (k10 : PySem.W.keepIn K (.ref f10) = true) (i10 : PySem.W.isFn K (.ref f10) = true)
    (a11 : PySem.W.findIn K (.ref CR) "records" = some (some (.ref f11))) (l11 : K.lookup f11 = some ⟨oc11, od11, .func (PySem.W.fnOf "records" "Rule.records" (defArgs s_Rule_records) (defBody s_Rule_records) (defScope s_Rule_records) .none kV11 dc11 pm11 an11 cd11 ct11), sl11⟩) (c11 : PySem.W.codeIn K cd11 "Rule.records" = true) (k11 : PySem.W.keepIn K (.ref f11) = true) (i11 : PySem.W.isFn K (.ref f11) = true)
    (a12 : PySem.W.nsIn K mainGlobals "_law_set" = some (some (.ref f12))) (l12 : K.lookup f12 = some ⟨oc12, od12, .func (PySem.W.fnOf "_law_set" "_law_set" (defArgs s_law_set) (defBody s_law_set) (defScope s_law_set) .none kV12 dc12 pm12 an12 cd12 ct12), sl12⟩) (c12 : PySem.W.codeIn K cd12 "_law_set" = true) (k12 : PySem.W.keepIn K (.ref f12) = true)
    (a13 : PySem.W.nsIn K mainGlobals "_law_together" = some (some (.ref f13))) (l13 : K.lookup f13 = some ⟨oc13, od13, .func (PySem.W.fnOf "_law_together" "_law_together" (defArgs s_law_together) (defBody s_law_together) (defScope s_law_together) .none kV13 dc13 pm13 an13 cd13 ct13), sl13⟩) (c13 : PySem.W.codeIn K cd13 "_law_together" = true) (k13 : PySem.W.keepIn K (.ref f13) = true)
    (a14 : PySem.W.nsIn K mainGlobals "_law_asks" = some (some (.ref f14))) (l14 : K.lookup f14 = some ⟨oc14, od14, .func (PySem.W.fnOf "_law_asks" "_law_asks" (defArgs s_law_asks) (defBody s_law_asks) (defScope s_law_asks) .none kV14 dc14 pm14 an14 cd14 ct14), sl14⟩) (c14 : PySem.W.codeIn K cd14 "_law_asks" = true) (k14 : PySem.W.keepIn K (.ref f14) = true)
    (a15 : PySem.W.nsIn K mainGlobals "law" = some (some (.ref f15))) (l15 : K.lookup f15 = some ⟨oc15, od15, .func (PySem.W.fnOf "law" "law" (defArgs s_law) (defBody s_law) (defScope s_law) .none kV15 dc15 pm15 an15 cd15 ct15), sl15⟩) (c15 : PySem.W.codeIn K cd15 "law" = true) (k15 : PySem.W.keepIn K (.ref f15) = true)
    (z_int : PySem.W.nsIn K mainGlobals "int" = some none)
    (z_len : PySem.W.nsIn K mainGlobals "len" = some none)
    (z_abs : PySem.W.nsIn K mainGlobals "abs" = some none)
    (z_range : PySem.W.nsIn K mainGlobals "range" = some none)
    (z_max : PySem.W.nsIn K mainGlobals "max" = some none)
    (z_min : PySem.W.nsIn K mainGlobals "min" = some none)
    (z_isi : PySem.W.nsIn K mainGlobals "isinstance" = some none)
    (z_str : PySem.W.nsIn K mainGlobals "str" = some none)
    (z_all : PySem.W.nsIn K mainGlobals "all" = some none)
    (z_repr : PySem.W.nsIn K mainGlobals "repr" = some none)
    (z_list : PySem.W.nsIn K mainGlobals "list" = some none)
    (z_tuple : PySem.W.nsIn K mainGlobals "tuple" = some none)
    (z_set : PySem.W.nsIn K mainGlobals "set" = some none)
    (z_sorted : PySem.W.nsIn K mainGlobals "sorted" = some none)
    (gR : PySem.W.nsIn K mainGlobals "Rule" = some (some (.ref CR)))
    (rrd : PySem.W.readsIn K CR (.type "type") = true)
    (rga : PySem.W.specialIn K (.ref CR) "__getattribute__" = some (some (.builtin "type.__getattribute__")))
    (smH : PySem.W.findCls K (.ref CR) (.type "type") "has" = some (.get (.builtin "staticmethod.__get__") (.ref pH) .none (.ref CR)))
    (smT : PySem.W.findCls K (.ref CR) (.type "type") "together" = some (.get (.builtin "staticmethod.__get__") (.ref pT) .none (.ref CR)))
    (smA : PySem.W.findCls K (.ref CR) (.type "type") "always" = some (.get (.builtin "staticmethod.__get__") (.ref pA) .none (.ref CR)))
    (pgR : PySem.W.plainGet K CR Str.empty = true)
    (hdR : PySem.W.hasDictIn K CR = true)
    (poR : PySem.W.plainOver K CR = true)
    (saR : PySem.W.findIn K (.ref CR) "__setattr__" = some (some (.builtin "object.__setattr__")))
    (mkR : PySem.W.makesIn K CR = true)
    (kpR : PySem.W.keepIn K (.ref CR) = true)
    (nR0 : PySem.W.findIn K (.ref CR) "_names" = some none)
    (nR1 : PySem.W.findIn K (.ref CR) "_allowed" = some none)
    (nR2 : PySem.W.findIn K (.ref CR) "_text" = some none)
    (gMR : PySem.W.nsIn K mainGlobals "MOST_RECORDS" = some (some (.int 6 tkR)))
    (fiC : PySem.W.fnIn K f10 = true)
    : ∃ fd : FuncData, (∀ (s : Shared) (v : Value), BindsTo s fd ⟨[v], []⟩ [("script", v)]) ∧ ∀ base : Heap, K.In base → base.Ns mainGlobals mg → FnG l.prog w K mg base 7 fa fd ["script"] (spLaw K) := by
  have e := hfa.symm.trans (PySem.W.mg_of X G a15)
  cases e
  have T : Bn mg := ⟨PySem.W.mg_none_of X G z_int, PySem.W.mg_none_of X G z_len, PySem.W.mg_none_of X G z_abs, PySem.W.mg_none_of X G z_range, PySem.W.mg_none_of X G z_max, PySem.W.mg_none_of X G z_min, PySem.W.mg_none_of X G z_isi, PySem.W.mg_none_of X G z_str, PySem.W.mg_none_of X G z_all, PySem.W.mg_none_of X G z_repr, PySem.W.mg_none_of X G z_list, PySem.W.mg_none_of X G z_tuple, PySem.W.mg_none_of X G z_set, PySem.W.mg_none_of X G z_sorted⟩
  have F0 := fun_mk (st := s_law_pool) l0 c0 k0
  have b0 := F0.binds (ps := ["script", "at"]) fun _ _ _ _ _ _ us hl => match us, hl with | [_, _], _ => rfl
  have F1 := fun_mk (st := s_law_draw) l1 c1 k1
  have b1 := F1.binds (ps := ["pool", "many"]) fun _ _ _ _ _ _ us hl => match us, hl with | [_, _], _ => rfl
  have F2 := fun_mk (st := s_law_word) l2 c2 k2
  have b2 := F2.binds (ps := ["pool"]) fun _ _ _ _ _ _ us hl => match us, hl with | [_], _ => rfl
  have F3 := fun_mk (st := s_is_word) l3 c3 k3
  have b3 := F3.binds (ps := ["thing"]) fun _ _ _ _ _ _ us hl => match us, hl with | [_], _ => rfl
  have F4 := fun_mk (st := s_check_few) l4 c4 k4
  have b4 := F4.binds (ps := ["names"]) fun _ _ _ _ _ _ us hl => match us, hl with | [_], _ => rfl
  have F5 := fun_mk (st := s_Rule___init__) l5 c5 k5
  have b5 := F5.binds (ps := ["self", "names", "allowed", "text"]) fun _ _ _ _ _ _ us hl => match us, hl with | [_, _, _, _], _ => rfl
  have F6 := fun_mk (st := s_Rule_has) l6 c6 k6
  have b6 := F6.binds (ps := ["record"]) fun _ _ _ _ _ _ us hl => match us, hl with | [_], _ => rfl
  have F7 := fun_mk (st := s_Rule_together) l7 c7 k7
  have F8 := fun_mk (st := s_Rule_always) l8 c8 k8
  have b8 := F8.binds (ps := []) fun _ _ _ _ _ _ us hl => match us, hl with | [], _ => rfl
  have F9 := fun_mk (st := s_Rule__allows) l9 c9 k9
  have b9 := F9.binds (ps := ["self", "kept"]) fun _ _ _ _ _ _ us hl => match us, hl with | [_, _], _ => rfl
  have F10 := fun_mk (st := s_Rule___call__) l10 c10 k10
  have b10 := F10.binds (ps := ["self", "kept"]) fun _ _ _ _ _ _ us hl => match us, hl with | [_, _], _ => rfl
  have F11 := fun_mk (st := s_Rule_records) l11 c11 k11
  have b11 := F11.binds (ps := ["self"]) fun _ _ _ _ _ _ us hl => match us, hl with | [_], _ => rfl
  have F12 := fun_mk (st := s_law_set) l12 c12 k12
  have b12 := F12.binds (ps := ["pool", "words"]) fun _ _ _ _ _ _ us hl => match us, hl with | [_, _], _ => rfl
  have F13 := fun_mk (st := s_law_together) l13 c13 k13
  have b13 := F13.binds (ps := ["words"]) fun _ _ _ _ _ _ us hl => match us, hl with | [_], _ => rfl
  have F14 := fun_mk (st := s_law_asks) l14 c14 k14
  have b14 := F14.binds (ps := ["rule", "some", "due"]) fun _ _ _ _ _ _ us hl => match us, hl with | [_, _, _], _ => rfl
  have F15 := fun_mk (st := s_law) l15 c15 k15
  refine ⟨PySem.W.fnOf "law" "law" (defArgs s_law) (defBody s_law) (defScope s_law) .none kV15 dc15 pm15 an15 cd15 ct15, fun s v => .of_eq rfl, fun base hbK hbG => ?_⟩
  have R : RTxt K mg CR := ⟨⟨pgR, hdR, poR, saR⟩, nR0, nR1, nR2, PySem.W.mg_of X G gR, ⟨_, PySem.W.mg_of X G gMR, ⟨_, rfl⟩⟩⟩
  have S_h : SMet K CR (.type "type") "has" pH f6 := ⟨⟨rrd, rga⟩, smH, ⟨_, a6⟩, k6⟩
  have S_t : SMet K CR (.type "type") "together" pT f7 := ⟨⟨rrd, rga⟩, smT, ⟨_, a7⟩, k7⟩
  have S_a : SMet K CR (.type "type") "always" pA f8 := ⟨⟨rrd, rga⟩, smA, ⟨_, a8⟩, k8⟩
  have D_law_pool : Df l.prog w K mg base 1 "_law_pool" ["script", "at"] (spPool K) := ⟨f0, _, ok_pool F0 T, PySem.W.mg_of X G a0, k0, b0⟩
  have D_law_draw : Df l.prog w K mg base 1 "_law_draw" ["pool", "many"] spDraw := ⟨f1, _, ok_draw F1 T, PySem.W.mg_of X G a1, k1, b1⟩
  have D_law_word : Df l.prog w K mg base 2 "_law_word" ["pool"] spWord := ⟨f2, _, ok_word F2 T D_law_draw, PySem.W.mg_of X G a2, k2, b2⟩
  have D_is_word : Df l.prog w K mg base 1 "is_word" ["thing"] (spIsWord K) := ⟨f3, _, ok_is_word F3 T, PySem.W.mg_of X G a3, k3, b3⟩
  have D_check_few : Df l.prog w K mg base 1 "check_few" ["names"] spFew := ⟨f4, _, ok_few F4 T R, PySem.W.mg_of X G a4, k4, b4⟩
  have C_R : RDf l.prog w K mg base 1 CR := ⟨f5, _, ⟨mkR, a5, i5, kpR⟩, ok_rinit F5 R, b5, PySem.W.mg_of X G gR⟩
  have F_h : FnR l.prog w K mg base CX0 3 f6 (spHas CR) := ((ok_has F6 R D_is_word C_R).raw b6 .nil).imp fun vs H Q E h => by
    rw [List.append_nil]
    exact h
  have F_t : FnR l.prog w K mg base CX0 4 f7 (spStar CR) := ok_together F7 T D_is_word D_check_few C_R
  have F_a : FnR l.prog w K mg base CX0 3 f8 (spAlways CR) := ((ok_always F8 C_R).raw b8 .nil).imp fun vs H Q E h => by
    rw [List.append_nil]
    exact h
  have M_allows : MDf l.prog w K mg base CX0 1 CR "_allows" ["self", "kept"] [] (spAsk CR) := ⟨f9, _, [], ok_allows F9 T R, ⟨a9, i9, k9⟩, b9, .nil⟩
  have F_c : FnR l.prog w K mg base CX0 2 f10 (fun vs H Q E => spAsk CR (vs ++ []) H Q E) := (ok_call F10 R M_allows).raw b10 .nil
  have CO : StX.CallO K CR f10 := ⟨a10, i10, fiC⟩
  have M_records : MDf l.prog w K mg base CX0 1 CR "records" ["self"] [] (spRecs CR) := ⟨f11, _, [], ok_recs F11 T R, ⟨a11, i11, k11⟩, b11, .nil⟩
  have D_law_set : Df l.prog w K mg base 3 "_law_set" ["pool", "words"] spSet := ⟨f12, _, ok_law_set F12 T D_law_draw D_law_word, PySem.W.mg_of X G a12, k12, b12⟩
  have D_law_together : Df l.prog w K mg base 5 "_law_together" ["words"] (spLTog CR) := ⟨f13, _, ok_law_tog F13 T R S_t F_t, PySem.W.mg_of X G a13, k13, b13⟩
  have D_law_asks : DfG l.prog w K mg base 5 "_law_asks" ["rule", "some", "due"] (spAsks CR) := ⟨f14, _, ok_asks F14 T CO F_c, PySem.W.mg_of X G a14, k14, b14⟩
  exact ok_law F15 T R D_law_pool D_law_draw D_law_word S_h F_h S_a F_a D_law_set D_law_together D_law_asks M_records
end IC
open PySem PySem.W PyProof.Rows
set_option maxRecDepth 100000 in
set_option maxHeartbeats 0 in
theorem PySem.Challenge.cw_innercommits_k14_single_rules_holds : PySem.Challenge.rw_innercommits_k14_single_rules.Holds := by
  w_on; o_law; k_head; (case hw => w_witness2)
  k_fill
  refine IC.walkG (l := PySem.Challenge.rw_innercommits_k14_single_rules) (k := 7) rfl rfl ⟨rfl, by decide, by decide⟩ (fun w h Y => PySem.W.kIn_of Y) ?F
  case F =>
    intro w mg fa h KX G hmg
    refine' IC.all_mk KX G hmg ?a0 ?l0 ?c0 ?k0 ?a1 ?l1 ?c1 ?k1 ?a2 ?l2 ?c2 ?k2 ?a3 ?l3 ?c3 ?k3 ?a4 ?l4 ?c4 ?k4 ?a5 ?l5 ?c5 ?k5 ?i5 ?a6 ?l6 ?c6 ?k6 ?a7 ?l7 ?c7 ?k7 ?a8 ?l8 ?c8 ?k8 ?a9 ?l9 ?c9 ?k9 ?i9 ?a10 ?l10 ?c10 ?k10 ?i10 ?a11 ?l11 ?c11 ?k11 ?i11 ?a12 ?l12 ?c12 ?k12 ?a13 ?l13 ?c13 ?k13 ?a14 ?l14 ?c14 ?k14 ?a15 ?l15 ?c15 ?k15 ?z_int ?z_len ?z_abs ?z_range ?z_max ?z_min ?z_isi ?z_str ?z_all ?z_repr ?z_list ?z_tuple ?z_set ?z_sorted ?gR ?rrd ?rga ?smH ?smT ?smA ?pgR ?hdR ?poR ?saR ?mkR ?kpR ?nR0 ?nR1 ?nR2 ?gMR ?fiC
    (case gR => k_is)
    (case rrd => k_is)
    (case rga => k_is)
    (case smH => k_is)
    (case smT => k_is)
    (case smA => k_is)
    (case pgR => k_is)
    (case hdR => k_is)
    (case poR => k_is)
    (case saR => k_is)
    (case mkR => k_is)
    (case kpR => k_is)
    (case nR0 => k_is)
    (case nR1 => k_is)
    (case nR2 => k_is)
    (case gMR => k_is)
    (case a0 => k_is)
    (case l0 => k_is)
    (case c0 => k_is)
    (case k0 => k_is)
    (case a1 => k_is)
    (case l1 => k_is)
    (case c1 => k_is)
    (case k1 => k_is)
    (case a2 => k_is)
    (case l2 => k_is)
    (case c2 => k_is)
    (case k2 => k_is)
    (case a3 => k_is)
    (case l3 => k_is)
    (case c3 => k_is)
    (case k3 => k_is)
    (case a4 => k_is)
    (case l4 => k_is)
    (case c4 => k_is)
    (case k4 => k_is)
    (case a5 => k_is)
    (case l5 => k_is)
    (case c5 => k_is)
    (case k5 => k_is)
    (case i5 => k_is)
    (case a6 => k_is)
    (case l6 => k_is)
    (case c6 => k_is)
    (case k6 => k_is)
    (case a7 => k_is)
    (case l7 => k_is)
    (case c7 => k_is)
    (case k7 => k_is)
    (case a8 => k_is)
    (case l8 => k_is)
    (case c8 => k_is)
    (case k8 => k_is)
    (case a9 => k_is)
    (case l9 => k_is)
    (case c9 => k_is)
    (case k9 => k_is)
    (case i9 => k_is)
    (case a10 => k_is)
    (case l10 => k_is)
    (case c10 => k_is)
    (case k10 => k_is)
    (case i10 => k_is)
    (case a11 => k_is)
    (case l11 => k_is)
    (case c11 => k_is)
    (case k11 => k_is)
    (case i11 => k_is)
    (case a12 => k_is)
    (case l12 => k_is)
    (case c12 => k_is)
    (case k12 => k_is)
    (case a13 => k_is)
    (case l13 => k_is)
    (case c13 => k_is)
    (case k13 => k_is)
    (case a14 => k_is)
    (case l14 => k_is)
    (case c14 => k_is)
    (case k14 => k_is)
    (case a15 => k_is)
    (case l15 => k_is)
    (case c15 => k_is)
    (case k15 => k_is)
    (case z_int => k_is)
    (case z_len => k_is)
    (case z_abs => k_is)
    (case z_range => k_is)
    (case z_max => k_is)
    (case z_min => k_is)
    (case z_isi => k_is)
    (case z_str => k_is)
    (case z_all => k_is)
    (case z_repr => k_is)
    (case z_list => k_is)
    (case z_tuple => k_is)
    (case z_set => k_is)
    (case z_sorted => k_is)
    (case fiC => k_is)
#print axioms PySem.Challenge.cw_innercommits_k14_single_rules_holds
