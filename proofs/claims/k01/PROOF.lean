import PyProof.Rows.All
import Wide.All
import OpenK.AllK
import Wide.FinOn
import HandS.ForMost
import HandS.Wide
import HandS.Style
import HandS.More
import HandS.Codes
import HandS.LawCells
import HandS.Walk
import PySem.Challenge.RW_neverrounds_k01_names
set_option Elab.async false
set_option linter.all false
set_option maxRecDepth 100000
set_option maxHeartbeats 4000000
/-! ### own words: a def that stands at a name, with what it promises -/
namespace Mine
open PySem PySem.Spec PyProof.Rows L2
/-- the def of the name x stands there and keeps sp -/
structure DefAt (P : Program) (w : World) (K : PySem.W.Frag) (mg : Str → Option Value) (base : Heap) (x : Str) (ps : List Str) (k : Nat) (sp : Sp) : Prop where
  ex : ∃ (f : Addr) (fd : FuncData), mg x = some (.ref f) ∧ PySem.W.keepIn K (.ref f) = true ∧ Binds K fd ps [] ∧ FnOk P w K mg base CX0 k f fd ps sp
section
variable {X : Cx} {x : Str} {ps : List Str} {k : Nat} {sp : Sp} {p pos : Pos} {e : Expr} {es : List Expr} {t : TA}
theorem pe_cal (D : DefAt X.prog X.w X.K X.mg X.base x ps k sp) (hr : Room k X.A) (hg : Gl X x) (ha : PA X (e :: es) t) (hdb : (x == ("__debug__" : Str)) = false := by decide)
    (he : starEach (e :: es) X.env = (false, eval e X.env) :: starEach es X.env := by rfl) (hpl : (backTo pos (starEach es X.env)).any (·.1) = false := by rfl) :
    PE X (.Call (.Name x p) (e :: es) [] pos) (tCall sp [] E0 t) := by
  obtain ⟨f, fd, hm, hk, hb, F⟩ := D.ex
  exact pe_call F hr hg hm hk hb .nil pass0 ha hdb he hpl
theorem pe_glI {n : Int} (h : ∃ t, X.mg x = some (.int n t)) (hg : Gl X x := by rfl) (hd : (x == ("__debug__" : Str)) = false := by decide) : PE X (.Name x pos) (tC (.int n)) := by
  obtain ⟨t, hm⟩ := h
  exact pe_glob hg hm ⟨_, rfl⟩ hd
theorem pe_glS {z : Str} (h : ∃ t, X.mg x = some (.str z t)) (hg : Gl X x := by rfl) (hd : (x == ("__debug__" : Str)) = false := by decide) : PE X (.Name x pos) (tC (.str z)) := by
  obtain ⟨t, hm⟩ := h
  exact pe_glob hg hm ⟨_, rfl⟩ hd
/-- text * int -/
def rRepS : R2 := fun x y H Q => ∃ (z : Str) (n : Int), x = .str z ∧ y = .int n ∧ -1000 ≤ n ∧ n ≤ 1000 ∧ z.length ≤ 1000 ∧ ∀ u : Str, u.length = z.length * n.toNat → Q (.str u) H
theorem rep_len (x : Str) : ∀ (n : Nat) (a : Array Nat), ((List.replicate n x.cps).foldl (· ++ ·) a).size = a.size + n * x.cps.size
  | 0, a => by simp
  | n + 1, a => by
    rw [List.replicate_succ, List.foldl_cons, rep_len x n]
    rw [Array.size_append, Nat.succ_mul]
    omega
theorem op_repS : OpR X (binaryOp .Mult) rRepS := by
  intro pins s σ H x y v u Q I rx ry h
  obtain ⟨z, n, rfl, rfl, h1, h2, h3, q⟩ := h
  obtain ⟨t, rfl⟩ := rx
  obtain ⟨t', rfl⟩ := ry
  have hz : (z.length : Int) ≤ 1000 := by omega
  refine P.mul_str (by rw [decide_eq_false (by omega), decide_eq_false (by omega)]; rfl) (fun hn _ => ?_) (fun hn _ => ?_) ?_
  · have h5 : (2 : Int) ^ 63 - 1 = 9223372036854775807 := by decide
    rw [h5]
    have h6 : (9223372036854775807 : Int) / 1000 ≤ 9223372036854775807 / n := by
      apply Int.le_ediv_of_mul_le (by omega)
      have h8 : (9223372036854775807 : Int) / 1000 = 9223372036854775 := by decide
      rw [h8]
      omega
    have h7 : (9223372036854775807 : Int) / 1000 = 9223372036854775 := by decide
    omega
  · have h4 : z.length * n.toNat ≤ 1000 * 1000 := Nat.mul_le_mul h3 (by omega)
    have h6 : (1000000 : Nat) ≤ sizeLine := by decide
    unfold Builtin.Str.tooLong
    simp
    omega
  · by_cases hn : n < 1
    · rw [if_pos hn]
      refine ⟨by decide, ?_⟩
      refine ⟨.str Str.empty, H, I.tok _, ⟨_, rfl⟩, q _ ?_⟩
      have e : n.toNat = 0 := by omega
      rw [e]
      rfl
    · rw [if_neg hn]
      by_cases h1' : (n == 1 || z.length == 0) = true
      · rw [if_pos h1']
        refine ⟨.str z, H, I, ⟨_, rfl⟩, q _ ?_⟩
        simp at h1'
        rcases h1' with e | e
        · subst e; simp
        · rw [e]; simp
      · rw [if_neg h1']
        have el : (⟨(List.replicate n.toNat z.cps).foldl (· ++ ·) #[]⟩ : Str).length = z.length * n.toNat := by
          show ((List.replicate n.toNat z.cps).foldl (· ++ ·) #[]).size = z.cps.size * n.toNat
          rw [rep_len]
          simp [Nat.mul_comm]
        refine ⟨?_, ?_⟩
        · have h4 : z.length * n.toNat ≤ 1000 * 1000 := Nat.mul_le_mul h3 (by omega)
          have h6 : (1000000 : Nat) ≤ sizeLine := by decide
          rw [el]
          omega
        · exact ⟨.str _, H, I.tok _, ⟨_, rfl⟩, q _ el⟩
end
end Mine
/-! ### the draws' state -/
namespace Mine
open PySem PySem.Spec PyProof.Rows L2
/-- the state at st: a number, the list of later numbers at la, the turn (at most n), the list of cells at ce -/
structure Dr (H : Hp) (st la ce : Addr) (n : Int) : Prop where
  ne1 : la ≠ st
  ne2 : ce ≠ st
  ne3 : ce ≠ la
  ex : ∃ (d t : Int) (ls cs : List Int), H st = some (.lst [.int d, .ref la, .int t, .ref ce]) ∧ H la = some (.lst (ls.map V.int)) ∧ H ce = some (.lst (cs.map V.int)) ∧ 0 ≤ t ∧ t ≤ n ∧ ls.length ≤ 63 ∧ cs.length ≤ 63
/-- all else that was tracked stands -/
def Ev (st la : Addr) (H H' : Hp) : Prop := ∀ b o, b ≠ st → b ≠ la → H b = some o → H' b = some o
theorem Ev.refl {st la : Addr} {H : Hp} : Ev st la H H := fun _ _ _ _ h => h
theorem Ev.trans {st la : Addr} {H H1 H2 : Hp} (a : Ev st la H H1) (b : Ev st la H1 H2) : Ev st la H H2 := fun c o h1 h2 h => b c o h1 h2 (a c o h1 h2 h)
theorem Ev.of {st la : Addr} {H H1 : Hp} (a : Same H H1) : Ev st la H H1 := fun c o _ _ h => a c o h
theorem Ev.new {st la p : Addr} {H H1 : Hp} {o : HO} (a : Ev st la H H1) (h : H1 p = none) : Ev st la H (upd H1 p o) := fun b u h1 h2 e => by
  have z := a b u h1 h2 e
  rw [upd_ne (ne_of_none z h)]
  exact z
theorem Ev.put {st la p : Addr} {H H1 : Hp} {o : HO} (a : Ev st la H H1) (h : H p = none) : Ev st la H (upd H1 p o) := fun b u h1 h2 e => by
  have z := a b u h1 h2 e
  rw [upd_ne (ne_of_none e h)]
  exact z
theorem Same.new {p : Addr} {H H1 : Hp} {o : HO} (a : Same H H1) (h : H1 p = none) : Same H (upd H1 p o) := fun b u e => by
  have z := a b u e
  rw [upd_ne (ne_of_none z h)]
  exact z
theorem Same.put {p : Addr} {H H1 : Hp} {o : HO} (a : Same H H1) (h : H p = none) : Same H (upd H1 p o) := fun b u e => by
  rw [upd_ne (ne_of_none e h)]
  exact a b u e
theorem Dr.mono {H : Hp} {st la ce : Addr} {n m : Int} (h : Dr H st la ce n) (l : n ≤ m) : Dr H st la ce m := by
  obtain ⟨a, b, c, d, t, ls, cs, h1, h2, h3, h4, h5, h6⟩ := h
  exact ⟨a, b, c, d, t, ls, cs, h1, h2, h3, h4, by omega, h6⟩
theorem Dr.at {H H' : Hp} {st la ce : Addr} {n : Int} (h : Dr H st la ce n) (k : ∀ b, b = st ∨ b = la ∨ b = ce → H' b = H b) : Dr H' st la ce n := by
  obtain ⟨a, b, c, d, t, ls, cs, h1, h2, h3, h4⟩ := h
  exact ⟨a, b, c, d, t, ls, cs, by rw [k _ (.inl rfl)]; exact h1, by rw [k _ (.inr (.inl rfl))]; exact h2, by rw [k _ (.inr (.inr rfl))]; exact h3, h4⟩
theorem Dr.same {H H' : Hp} {st la ce : Addr} {n : Int} (h : Dr H st la ce n) (k : Same H H') : Dr H' st la ce n := by
  obtain ⟨a, b, c, d, t, ls, cs, h1, h2, h3, h4⟩ := h
  exact ⟨a, b, c, d, t, ls, cs, k _ _ h1, k _ _ h2, k _ _ h3, h4⟩
theorem Dr.there {H : Hp} {st la ce : Addr} {n : Int} (h : Dr H st la ce n) : (∃ o, H st = some o) ∧ (∃ o, H la = some o) ∧ ∃ o, H ce = some o := by
  obtain ⟨a, b, c, d, t, ls, cs, h1, h2, h3, h4⟩ := h
  exact ⟨⟨_, h1⟩, ⟨_, h2⟩, _, h3⟩
theorem Dr.new {H : Hp} {st la ce p : Addr} {n : Int} {o : HO} (h : Dr H st la ce n) (e : H p = none) : Dr (upd H p o) st la ce n := h.same (Same.new (Same.refl _) e)
/-- a place that is none of the state's three -/
structure Off (st la ce p : Addr) : Prop where
  s : p ≠ st
  l : p ≠ la
  c : p ≠ ce
theorem Dr.off {H : Hp} {st la ce p : Addr} {n : Int} (h : Dr H st la ce n) (e : H p = none) : Off st la ce p := by
  obtain ⟨⟨_, h1⟩, ⟨_, h2⟩, _, h3⟩ := h.there
  exact ⟨(ne_of_none h1 e).symm, (ne_of_none h2 e).symm, (ne_of_none h3 e).symm⟩
theorem Dr.put {H : Hp} {st la ce p : Addr} {n : Int} {o : HO} (h : Dr H st la ce n) (e : Off st la ce p) : Dr (upd H p o) st la ce n := h.at fun b hb => by
  rw [upd_ne]
  rcases hb with z | z | z
  · rw [z]; exact e.s.symm
  · rw [z]; exact e.l.symm
  · rw [z]; exact e.c.symm
/-- what a def that draws at most c times leaves -/
def DrawnTo (H H' : Hp) (st la ce : Addr) (n : Int) : Prop := Dr H' st la ce n ∧ Ev st la H H'
def spDraw : Sp := fun vs H Q _ => ∃ (st la ce : Addr) (n many : Int), vs = [.ref st, .int many] ∧ Dr H st la ce n ∧ n < 1000000000 ∧ 0 < many ∧ many < 2 ^ 300 ∧
  ∀ (r : Int) (H' : Hp), 0 ≤ r → r < many → Dr H' st la ce (n + 1) → Ev st la H H' → Q (.int r) H'
def spState (K : PySem.W.Frag) : Sp := fun vs H Q _ => ∃ (a : Addr) (ns : List Int), vs = [.ref a] ∧ SqL K H a (ns.map V.int) ∧ ns.length ≤ 63 ∧
  ∀ (H' : Hp) (st la ce : Addr), Dr H' st la ce 0 → Same H H' → H st = none → H la = none → H ce = none → Q (.ref st) H'
theorem ite_id {A B : Prop} {b : Bool} (h1 : b = true → A) (h2 : b = false → B) : if b = true then A else B := by
  cases b with
  | true => exact h1 rfl
  | false => exact h2 rfl
theorem int_of {xs : List Int} {i : Nat} {v : V} (h : (xs.map V.int)[i]? = some v) : ∃ z, xs[i]? = some z ∧ v = .int z := by
  rw [List.getElem?_map] at h
  cases e : xs[i]? with
  | none => rw [e] at h; cases h
  | some u => rw [e] at h; exact ⟨u, rfl, (Option.some.inj h).symm⟩
theorem ints_at {xs : List Int} {i : Nat} (h : i < xs.length) : ∃ z : Int, (xs.map V.int)[i]? = some (V.int z) := by
  refine ⟨xs[i], ?_⟩
  rw [List.getElem?_map, List.getElem?_eq_getElem h] <;> rfl
end Mine
namespace Mine
open PySem PySem.Spec PyProof.Rows L2
def top (i : Nat) : Stmt := PySem.Challenge.pw_neverrounds_k01_names.main.body.getD i (.Pass ⟨0, 0, 0, 0⟩)
/-- what the top leaves at its plain names -/
structure Txt (mg : Str → Option Value) : Prop where
  b_len : mg "len" = none
  b_int : mg "int" = none
  b_list : mg "list" = none
  b_range : mg "range" = none
  b_all : mg "all" = none
  c_LETTERS : ∃ t, mg "LETTERS" = some (.str "abcdefghijklmnopqrstuvwxyz" t)
  c_DIGITS : ∃ t, mg "DIGITS" = some (.str "0123456789" t)
  c_MOST_SIGNS : ∃ t, mg "MOST_SIGNS" = some (.int 12 t)
/-! ### texts -/
theorem sign_at {z : Str} {r : Int} (h0 : 0 ≤ r) (h1 : r < (z.length : Nat)) : ∃ c, atI z.cps.toList r = some c := by
  obtain ⟨j, rfl⟩ := Int.eq_ofNat_of_zero_le h0
  have hj : j < z.cps.toList.length := by
    have e : z.length = z.cps.toList.length := by simp [Str.length]
    omega
  exact ⟨_, atI_nat (List.getElem?_eq_getElem hj)⟩
theorem one_len (c : Nat) : (⟨#[c]⟩ : Str).length = 1 := rfl
theorem joinL_len : ∀ ps : List (List Nat), (TL.joinL [] ps).length = (ps.map List.length).sum
  | [] => rfl
  | [p] => by simp [TL.joinL]
  | p :: q :: r => by
    show (p ++ ([] ++ TL.joinL [] (q :: r))).length = _
    rw [List.length_append, List.nil_append, joinL_len (q :: r)]
    simp

def spSign : Sp := fun vs H Q _ => ∃ (st la ce : Addr) (n : Int), vs = [.ref st] ∧ Dr H st la ce n ∧ n < 100000000 ∧
  ∀ (c : Nat) (H' : Hp), Dr H' st la ce (n + 1) → Ev st la H H' → Q (.str ⟨#[c]⟩) H'
def spName : Sp := fun vs H Q _ => ∃ (st la ce : Addr) (n : Int), vs = [.ref st] ∧ Dr H st la ce n ∧ n < 100000000 ∧
  ∀ (z : Str) (H' : Hp), 1 ≤ z.length → z.length ≤ 12 → Dr H' st la ce (n + 14) → Ev st la H H' → Q (.str z) H'
theorem n300 : (94 : Int) < 2 ^ 300 := by decide +kernel
theorem few300 {a : Int} (h : a ≤ 1000000) : a < 2 ^ 300 := Int.lt_of_le_of_lt h (by decide +kernel)

def isL (c : Nat) : Bool := decide (97 ≤ c) && decide (c ≤ 122)
def isD (c : Nat) : Bool := decide (48 ≤ c) && decide (c ≤ 57)
/-- what a name is, on its signs -/
def nameL (l : List Nat) : Bool := match l with
  | [] => false
  | c :: r => decide ((c :: r).length ≤ 12) && (isL c && (c :: r).all fun x => isL x || isD x)
theorem letters_in (c : Nat) : decide (c ∈ (Str.ofString "abcdefghijklmnopqrstuvwxyz").cps.toList) = isL c := by
  rw [show (Str.ofString "abcdefghijklmnopqrstuvwxyz").cps.toList = [97,98,99,100,101,102,103,104,105,106,107,108,109,110,111,112,113,114,115,116,117,118,119,120,121,122] by decide +kernel]
  unfold isL
  rw [← Bool.decide_and]
  apply decide_eq_decide.mpr
  simp only [List.mem_cons, List.not_mem_nil, or_false]
  omega
theorem digits_in (c : Nat) : decide (c ∈ (Str.ofString "0123456789").cps.toList) = isD c := by
  rw [show (Str.ofString "0123456789").cps.toList = [48,49,50,51,52,53,54,55,56,57] by decide +kernel]
  unfold isD
  rw [← Bool.decide_and]
  apply decide_eq_decide.mpr
  simp only [List.mem_cons, List.not_mem_nil, or_false]
  omega
theorem one_lt (a b : Nat) : decide ([a] < [b]) = decide (a < b) := by
  apply decide_eq_decide.mpr
  rw [List.cons_lt_cons_iff]
  constructor
  · rintro (h | ⟨_, h⟩)
    · exact h
    · exact absurd h (by decide)
  · exact .inl
theorem filt (l : List Nat) : (l.filter isL).length + (l.filter isD).length ≤ l.length ∧ (((l.filter isL).length + (l.filter isD).length = l.length) ↔ (l.all fun x => isL x || isD x) = true) := by
  induction l with
  | nil => simp
  | cons c r ih =>
    have no : ¬ (isL c = true ∧ isD c = true) := by
      unfold isL isD
      simp
      omega
    by_cases h1 : isL c = true
    · have h2 : ¬ isD c = true := fun z => no ⟨h1, z⟩
      rw [List.filter_cons_of_pos h1, List.filter_cons_of_neg h2, List.length_cons, List.length_cons, List.all_cons, h1]
      simp only [Bool.true_or, Bool.true_and]
      refine ⟨by omega, ?_⟩
      rw [← ih.2]
      omega
    · by_cases h2 : isD c = true
      · rw [List.filter_cons_of_neg h1, List.filter_cons_of_pos h2, List.length_cons, List.length_cons, List.all_cons, h2]
        simp only [Bool.or_true, Bool.true_and]
        refine ⟨by omega, ?_⟩
        rw [← ih.2]
        omega
      · rw [List.filter_cons_of_neg h1, List.filter_cons_of_neg h2, List.length_cons, List.all_cons]
        have e1 : isL c = false := by simpa using h1
        have e2 : isD c = false := by simpa using h2
        rw [e1, e2]
        simp only [Bool.or_false, Bool.false_and]
        refine ⟨by omega, ?_⟩
        constructor
        · intro z
          omega
        · intro z
          cases z
def spIs : Sp := fun vs H Q _ => ∃ z : Str, vs = [.str z] ∧ z.length ≤ 1000 ∧ ∀ H', Same H H' → Q (.bl (nameL z.cps.toList)) H'
def spText : Sp := fun vs H Q _ => ∃ (st la ce : Addr) (n : Int) (z : Str), vs = [.ref st, .str z] ∧ 1 ≤ z.length ∧ z.length ≤ 12 ∧ Dr H st la ce n ∧ n < 10000000 ∧
  ∀ (u : Str) (H' : Hp), u.length ≤ 200 → Dr H' st la ce (n + 20) → Ev st la H H' → Q (.str u) H'
def spLaw (K : PySem.W.Frag) : Sp := fun vs H Q _ => ∃ (a : Addr) (ns : List Int), vs = [.ref a] ∧ SqL K H a (ns.map V.int) ∧ ns.length ≤ 63 ∧ ∀ H', Q (.bl true) H'
theorem cps_at {z : Str} {i c : Nat} (h : z.cps[i]? = some c) : z.cps.toList[i]? = some c := by rw [Array.getElem?_toList]; exact h
theorem take_more {α : Type} {l : List α} {i : Nat} {x : α} (h : l[i]? = some x) : l.take (i + 1) = l.take i ++ [x] := by
  obtain ⟨hi, e⟩ := List.getElem?_eq_some_iff.mp h
  rw [List.take_succ, h] <;> rfl
theorem take_all {α : Type} {l : List α} {n : Nat} (h : n = l.length) : l.take n = l := by rw [h, List.take_length]
section
variable {P : Program} {w : World} {K : PySem.W.Frag} {mg : Str → Option Value} {base : Heap}
abbrev s_is_name : Stmt := top 4
theorem sc_is_name : FnScope ["text", "sign"] ["text"] (defScope s_is_name) := ⟨rfl, rfl, rfl, by decide +kernel, rfl, by decide +kernel, by decide +kernel⟩
theorem ok_is_name (T : Txt mg) {f : Addr} {fd : FuncData} (F : Fun K "is_name" "is_name" s_is_name f fd) : FnOk P w K mg base CX0 1 f fd ["text"] spIs := by
  refine F.ok sc_is_name (fun vs H Q E h => ?_) (fun cdv A outer s H vs Q E hr h => ?_)
  · obtain ⟨z, rfl, hz, k⟩ := h
    rfl
  · obtain ⟨z, rfl, hz, k⟩ := h
    refine ⟨_, (pss_cons (ps_if (pt_not (pt_chain op_le op_le pe_int (pe_callB call_len_str (by rfl) T.b_len PySem.boot_len (pa_cons (pv 0) pa_nil)) (pe_glI T.c_MOST_SIGNS)))
      (pss_one (ps_ret pe_bl))
      pss_nil)
    (pss_cons (ps_if (pt_cmpR op_notIn_sign (pe_ix ix_str (pv 0) pe_int (fun _ _ => rfl)) (pe_glS T.c_LETTERS) (by rfl))
      (pss_one (ps_ret pe_bl))
      pss_nil)
    (pss_one (ps_ret (pe_callB (cr_all rfl) (by rfl) T.b_all (by decide +kernel) (pa_cons (pe_lc (own := [("sign", 1)]) (g := gName 1) rfl sc_is_name.nd (pi_str (pv 0)) (blkOk_by (own := [("sign", 1)]) (N := ["text", "sign"]) (sc := defScope s_is_name) (by decide +kernel)) (fun _ _ _ _ _ => (pg_name (i := 1) sc_is_name.nd rfl (Or.inl rfl))) (fun _ _ _ _ _ => pts_nil) (fun _ _ _ _ _ => (pe_or (pe_cmpR op_in_sign (pv 1) (pe_glS T.c_LETTERS) (by rfl)) (pe_one (pe_cmpR op_in_sign (pv 1) (pe_glS T.c_DIGITS) (by rfl)))))) pa_nil)))))), ?_⟩
    have hz1 : z.length ≤ sizeLine := Nat.le_trans hz (by decide)
    have ez : z.length = z.cps.toList.length := by simp [Str.length]
    refine ⟨_, rfl, z, rfl, hz1, _, _, rfl, rfl, _, rfl, ?_⟩
    refine ite2 (fun h1 => ?_) (fun h1 => ?_)
    · have h1' : (1 : Int) ≤ (z.length : Nat) := of_decide_eq_true h1
      refine ⟨_, _, rfl, rfl, _, rfl, ?_⟩
      refine ite_id (fun h2 => ?_) (fun h2 => ?_)
      · -- longer than 12
        have h2' : ¬ ((z.length : Nat) : Int) ≤ 12 := by simpa using h2
        have e : nameL z.cps.toList = false := by
          cases q : z.cps.toList with
          | nil => rfl
          | cons c r =>
            show (decide ((c :: r).length ≤ 12) && _) = false
            rw [decide_eq_false (by rw [← q]; omega)]
            rfl
        have := k H (Same.refl _)
        rw [e] at this
        exact this
      · have h2' : ((z.length : Nat) : Int) ≤ 12 := by simpa using h2
        obtain ⟨c, r, q⟩ : ∃ c r, z.cps.toList = c :: r := by
          cases q : z.cps.toList with
          | nil => rw [ez, q] at h1'; exact absurd h1' (by decide)
          | cons c r => exact ⟨c, r, rfl⟩
        have hN : nameL z.cps.toList = (isL c && z.cps.toList.all fun x => isL x || isD x) := by
          rw [q]
          show (decide ((c :: r).length ≤ 12) && _) = _
          rw [decide_eq_true (by rw [← q]; omega)]
          rfl
        refine ⟨_, rfl, z, _, c, rfl, rfl, hz1, by rw [q]; exact atI_nat (j := 0) rfl, c, _, rfl, rfl, _, rfl, ?_⟩
        rw [letters_in]
        refine ite_id (fun h3 => ?_) (fun h3 => ?_)
        · have e : nameL z.cps.toList = false := by
            rw [hN]
            simp at h3
            rw [h3]
            rfl
          have := k H (Same.refl _)
          rw [e] at this
          exact this
        · have h3' : isL c = true := by simpa using h3
          refine ⟨_, rfl, z, rfl, fun D hD => ?_⟩
          refine lc_it walk_str (fun i H' => Same H H' ∧ H' D = some (.lst (((z.cps.toList.take i).map fun x => isL x || isD x).map V.bl))) ⟨Same.new (Same.refl _) hD, upd_same⟩ (fun _ _ _ _ => trivial) ?_ ?_
          · rintro i x H1 H2 hi ⟨hs, g⟩ ⟨rfl, d, hd, rfl⟩
            have hd' := cps_at hd
            refine ⟨rfl, _, rfl, d, _, rfl, rfl, _, rfl, ?_⟩
            rw [letters_in]
            have fin : ∀ b : Bool, b = (isL d || isD d) → ∃ acc, H2 D = some (.lst acc) ∧ acc.length < sizeLine ∧ (Same H (upd H2 D (.lst (acc ++ [V.bl b]))) ∧ (upd H2 D (.lst (acc ++ [V.bl b]))) D = some (.lst (((z.cps.toList.take (i + 1)).map fun x => isL x || isD x).map V.bl))) := fun b hb => by
              refine ⟨_, g, ?_, Same.put hs hD, ?_⟩
              · rw [List.length_map, List.length_map]
                refine small1000 ?_
                have := List.length_take_le i z.cps.toList
                rw [List.length_take]
                omega
              · rw [upd_same, take_more hd', hb]
                simp
            refine ite_id (fun h4 => ?_) (fun h4 => ?_)
            · exact fin true (by rw [h4]; rfl)
            · refine ⟨_, rfl, d, _, rfl, rfl, ?_⟩
              rw [digits_in]
              exact fin (isD d) (by rw [h4]; rfl)
          · rintro H1 ⟨hs, g⟩
            rw [take_all (show z.cps.size = z.cps.toList.length by simp)] at g
            refine ⟨D, _, rfl, SqL.of g, ?_⟩
            have := k H1 hs
            rw [hN, h3'] at this
            have e2 : ((z.cps.toList.map fun x => isL x || isD x).all id) = (z.cps.toList.all fun x => isL x || isD x) := by
              rw [List.all_map] <;> rfl
            rw [e2]
            exact this
    · have h1' : ¬ (1 : Int) ≤ (z.length : Nat) := of_decide_eq_false (by simpa using h1)
      refine ⟨_, rfl, ?_⟩
      refine iteT ?_
      have e : z.cps.toList = [] := List.eq_nil_of_length_eq_zero (by omega)
      have := k H (Same.refl _)
      rw [e] at this
      exact this
theorem d_is_name (T : Txt mg) {f : Addr} {fd : FuncData} (F : Fun K "is_name" "is_name" s_is_name f fd) (m : mg "is_name" = some (.ref f)) : DefAt P w K mg base "is_name" ["text"] 1 spIs :=
  ⟨f, fd, m, F.kp, F.binds (fun _ _ _ _ _ _ us hl => match us, hl with | [_], _ => rfl), ok_is_name T F⟩
abbrev s_state : Stmt := top 6
theorem sc_state : FnScope ["_law_script", "_law_cell"] ["_law_script"] (defScope s_state) := ⟨rfl, rfl, rfl, by decide +kernel, rfl, by decide +kernel, by decide +kernel⟩
theorem ok_state (T : Txt mg) {f : Addr} {fd : FuncData} (F : Fun K "_law_state" "_law_state" s_state f fd) : FnOk P w K mg base CX0 1 f fd ["_law_script"] (spState K) := by
  refine F.ok sc_state (fun vs H Q E h => ?_) (fun cdv A outer s H vs Q E hr h => ?_)
  · obtain ⟨a, ns, rfl, hS, hl, k⟩ := h
    rfl
  · obtain ⟨a, ns, rfl, hS, hl, k⟩ := h
    refine ⟨_, (pss_one (ps_ret (pe_lst (pa_cons pe_int (pa_cons (pe_lc (own := [("_law_cell", 1)]) (g := gName 1) rfl sc_state.nd (pi_list (pv 0)) (blkOk_by (own := [("_law_cell", 1)]) (N := ["_law_script", "_law_cell"]) (sc := defScope s_state) (by decide +kernel)) (fun _ _ _ _ _ => (pg_name (i := 1) sc_state.nd rfl (Or.inl rfl))) (fun _ _ _ _ _ => pts_one (pt_cmpR op_ge (pv 1) (pe_op op_pow pe_int pe_int) (nomark _))) (fun _ _ _ _ _ => (pv 1))) (pa_cons pe_int (pa_cons (pe_callTy call_list_of (by rfl) T.b_list (by decide +kernel) (pa_cons (pv 0) pa_nil)) pa_nil))))))), ?_⟩
    refine ⟨_, rfl, a, rfl, ⟨_, hS⟩, fun D hD => ?_⟩
    refine lc_list (K := K) (a := a) (xs := ns.map V.int) (fun i H' => Same H H' ∧ ∃ ls : List Int, H' D = some (.lst (ls.map V.int)) ∧ ls.length ≤ i) ⟨Same.new (Same.refl _) hD, [], upd_same, Nat.le_refl _⟩ (fun i H' _ z => z.1.seq hS) ?_ ?_
    · rintro i x H' hx ⟨hs, ls, g, gl⟩
      obtain ⟨z, hz, rfl⟩ := int_of hx
      refine ⟨rfl, _, rfl, _, _, rfl, rfl, ⟨by decide, by decide, by decide⟩, _, _, rfl, rfl, _, rfl, ?_⟩
      have hi : i < ns.length := (List.getElem?_eq_some_iff.mp hz).1
      refine ite2 (fun hc => ?_) (fun hc => ?_)
      · refine ⟨_, rfl, _, g, by rw [List.length_map]; exact small1000 (by omega), ?_⟩
        refine ⟨Same.put hs hD, ls ++ [z], ?_, ?_⟩
        · rw [upd_same, List.map_append]
          rfl
        · rw [List.length_append, List.length_singleton]
          omega
      · exact ⟨hs, ls, g, by omega⟩
    · rintro H' ⟨hs, ls, g, gl⟩
      rw [List.length_map] at gl
      refine ⟨_, rfl, a, _, rfl, .inl (hs.seq hS), fun c hc => ?_⟩
      refine ⟨by show 4 ≤ sizeLine; decide, fun p hp => ?_⟩
      have nDc : D ≠ c := ne_of_none g hc
      have hp1 : (upd H' c (.lst (ns.map V.int))) D = some (.lst (ls.map V.int)) := by rw [upd_ne nDc]; exact g
      have npD : D ≠ p := ne_of_none hp1 hp
      have npc : c ≠ p := ne_of_none upd_same hp
      refine k _ p D c ⟨npD, npc, nDc.symm, 1, 0, ls, ns, upd_same, by rw [upd_ne npD]; exact hp1, by rw [upd_ne npc]; exact upd_same, by omega, by omega, by omega, hl⟩ (Same.new (Same.new hs hc) hp) ?_ hD ?_
      · have hp2 := hp
        rw [upd_ne npc.symm] at hp2
        exact hs.free hp2
      · exact hs.free hc
theorem d_state (T : Txt mg) {f : Addr} {fd : FuncData} (F : Fun K "_law_state" "_law_state" s_state f fd) (m : mg "_law_state" = some (.ref f)) : DefAt P w K mg base "_law_state" ["_law_script"] 1 (spState K) :=
  ⟨f, fd, m, F.kp, F.binds (fun _ _ _ _ _ _ us hl => match us, hl with | [_], _ => rfl), ok_state T F⟩
abbrev s_mixed : Stmt := top 7
theorem sc_mixed : FnScope ["_law_state_here", "_law_many", "_law_cells", "_law_turn", "_law_cell", "_law_one", "_law_two", "_law_three"] ["_law_state_here", "_law_many"] (defScope s_mixed) := ⟨rfl, rfl, rfl, by decide +kernel, rfl, by decide +kernel, by decide +kernel⟩
theorem ok_mixed (T : Txt mg) {f : Addr} {fd : FuncData} (F : Fun K "_law_mixed" "_law_mixed" s_mixed f fd) : FnOk P w K mg base CX0 1 f fd ["_law_state_here", "_law_many"] spDraw := by
  refine F.ok sc_mixed (fun vs H Q E h => ?_) (fun cdv A outer s H vs Q E hr h => ?_)
  · obtain ⟨st, la, ce, n, many, rfl, ⟨ne1, ne2, ne3, d, t, ls, cs, h1, h2, h3, t0, tn, l1, l2⟩, hn, hm, hM, k⟩ := h
    rfl
  · obtain ⟨st, la, ce, n, many, rfl, ⟨ne1, ne2, ne3, d, t, ls, cs, h1, h2, h3, t0, tn, l1, l2⟩, hn, hm, hM, k⟩ := h
    refine ⟨_, (pss_cons (ps_set (i := 2) sc_mixed.nd rfl (Or.inl rfl) (pe_ix ix_list (pv 0) pe_int (fun _ _ => rfl)))
    (pss_cons (ps_set (i := 3) sc_mixed.nd rfl (Or.inl rfl) (pe_ix ix_list (pv 0) pe_int (fun _ _ => rfl)))
    (pss_cons (ps_asg (pe_op op_add (pv 3) pe_int) (pg_sub (pv 0) pe_int set_list))
    (pss_cons (ps_set (i := 4) sc_mixed.nd rfl (Or.inl rfl) pe_int)
    (C8.pss_cut (ps_if (pt_cmpR op_gt (pe_callB call_len_seq (by rfl) T.b_len PySem.boot_len (pa_cons (pv 2) pa_nil)) pe_int (nomark _))
      (pss_one (ps_set (i := 4) sc_mixed.nd rfl (Or.inl rfl) (pe_ix ix_list (pv 2) (pe_op op_mod (pe_callTy call_int1 (by rfl) T.b_int (by decide +kernel) (pa_cons (pv 3) pa_nil)) (pe_callB call_len_seq (by rfl) T.b_len PySem.boot_len (pa_cons (pv 2) pa_nil))) (fun _ _ => rfl))))
      pss_nil)
    (pss_cons (ps_set (i := 5) sc_mixed.nd rfl (Or.inl rfl) (pe_op op_mod (pe_callTy call_int1 (by rfl) T.b_int (by decide +kernel) (pa_cons (pe_op op_add (pe_op op_add (pe_op op_mul (pv 4) pe_int) (pe_op op_mul (pv 3) pe_int)) pe_int) pa_nil)) pe_int))
    (pss_cons (ps_set (i := 6) sc_mixed.nd rfl (Or.inl rfl) (pe_op op_mod (pe_callTy call_int1 (by rfl) T.b_int (by decide +kernel) (pa_cons (pe_op op_add (pe_op op_add (pe_op op_add (pe_op op_mul (pv 5) pe_int) (pe_op op_mul (pe_op op_mul (pv 3) (pv 3)) pe_int)) (pe_op op_mul (pv 4) pe_int)) pe_int) pa_nil)) pe_int))
    (pss_cons (ps_set (i := 7) sc_mixed.nd rfl (Or.inl rfl) (pe_op op_mod (pe_callTy call_int1 (by rfl) T.b_int (by decide +kernel) (pa_cons (pe_op op_add (pe_op op_add (pe_op op_mul (pv 6) pe_int) (pv 5)) (pe_op op_mul (pv 3) pe_int)) pa_nil)) pe_int))
    (pss_one (ps_ret (pe_op op_mod (pe_callTy call_int1 (by rfl) T.b_int (by decide +kernel) (pa_cons (pe_op op_add (pe_op op_mul (pv 6) pe_int) (pv 7)) pa_nil)) (pv 1)))))))))))), ?_⟩
    refine ⟨_, rfl, st, _, _, _, rfl, rfl, SqL.of h1, rfl, ?_⟩
    refine ⟨_, rfl, st, _, _, _, rfl, rfl, SqL.of h1, rfl, ?_⟩
    refine ⟨_, rfl, _, _, rfl, rfl, _, rfl, st, _, _, _, rfl, rfl, h1, rfl, ?_⟩
    have h3' : (upd H st (.lst ([V.int d, .ref la, .int t, .ref ce].set 2 (.int (t + 1))))) ce = some (.lst (cs.map V.int)) := by rw [upd_ne ne2]; exact h3
    have h2' : (upd H st (.lst ([V.int d, .ref la, .int t, .ref ce].set 2 (.int (t + 1))))) la = some (.lst (ls.map V.int)) := by rw [upd_ne ne1]; exact h2
    have hD : Dr (upd H st (.lst ([V.int d, .ref la, .int t, .ref ce].set 2 (.int (t + 1))))) st la ce (n + 1) := ⟨ne1, ne2, ne3, d, t + 1, ls, cs, upd_same, h2', h3', by omega, by omega, l1, l2⟩
    have hE : Ev st la H (upd H st (.lst ([V.int d, .ref la, .int t, .ref ce].set 2 (.int (t + 1))))) := fun b o b1 b2 e => by rw [upd_ne b1]; exact e
    refine ⟨fun σ' H' => ∃ c : Int, σ' = [some (.ref st), some (.int many), some (.ref ce), some (.int t), some (.int c), none, none, none] ∧ Dr H' st la ce (n + 1) ∧ Ev st la H H', ?_, ?_⟩
    · refine ⟨_, rfl, ce, _, rfl, .inl (SqL.of h3'), _, _, rfl, rfl, _, rfl, ?_⟩
      refine ite2 (fun hc => ?_) (fun hc => ?_)
      · have hc' : (0 : Int) < ((cs.map V.int).length : Nat) := of_decide_eq_true hc
        rw [List.length_map] at hc'
        have hp := mod_place (i := t) (n := cs.length) (by omega)
        obtain ⟨z, hz⟩ := ints_at hp.1
        refine ⟨_, rfl, _, rfl, .inl ⟨_, rfl, _, rfl, ce, _, rfl, .inl (SqL.of h3'), _, _, rfl, rfl, by show (0 : Int) < ((cs.map V.int).length : Nat); rw [List.length_map]; omega, ce, _, _, V.int z, rfl, rfl, SqL.of h3', ?_, ?_⟩⟩
        · show atI (cs.map V.int) (t % (((cs.map V.int).length : Nat) : Int)) = some (V.int z)
          rw [List.length_map, ← hp.2]
          exact atI_nat hz
        · exact ⟨z, rfl, hD, hE⟩
      · exact ⟨0, rfl, hD, hE⟩
    rintro σ' H' ⟨c, rfl, hD', hE'⟩
    refine ⟨_, rfl, _, _, rfl, rfl, .inr ⟨by decide, by decide⟩, _, rfl, _, _, rfl, rfl, .inr ⟨by decide, by decide⟩, _, _, rfl, rfl, _, _, rfl, rfl, .inl ⟨_, rfl, _, _, rfl, rfl, (by show (0 : Int) < _; decide), ?_⟩⟩
    refine ⟨_, rfl, _, _, rfl, rfl, .inr ⟨by decide, by decide⟩, _, rfl, _, rfl, _, _, rfl, rfl, .inl ⟨by omega, by omega⟩, _, _, rfl, rfl, .inr ⟨by decide, by decide⟩, _, _, rfl, rfl, _, rfl, _, _, rfl, rfl, .inr ⟨by decide, by decide⟩, _, _, rfl, rfl, _, _, rfl, rfl, .inl ⟨_, rfl, _, _, rfl, rfl, (by show (0 : Int) < _; decide), ?_⟩⟩
    refine ⟨_, rfl, _, _, rfl, rfl, .inr ⟨by decide, by decide⟩, _, rfl, _, _, rfl, rfl, _, rfl, _, _, rfl, rfl, .inr ⟨by decide, by decide⟩, _, _, rfl, rfl, .inl ⟨_, rfl, _, _, rfl, rfl, (by show (0 : Int) < _; decide), ?_⟩⟩
    refine ⟨_, rfl, _, _, rfl, rfl, .inr ⟨by decide, by decide⟩, _, rfl, _, _, rfl, rfl, .inl ⟨_, rfl, _, rfl, _, _, rfl, rfl, hm, ?_⟩⟩
    exact k _ _ (Int.emod_nonneg _ (by omega)) (Int.emod_lt_of_pos _ hm) hD' hE'
theorem d_mixed (T : Txt mg) {f : Addr} {fd : FuncData} (F : Fun K "_law_mixed" "_law_mixed" s_mixed f fd) (m : mg "_law_mixed" = some (.ref f)) : DefAt P w K mg base "_law_mixed" ["_law_state_here", "_law_many"] 1 spDraw :=
  ⟨f, fd, m, F.kp, F.binds (fun _ _ _ _ _ _ us hl => match us, hl with | [_, _], _ => rfl), ok_mixed T F⟩
abbrev s_draw : Stmt := top 8
theorem sc_draw : FnScope ["_law_state_here", "_law_many", "_law_later", "_law_digit"] ["_law_state_here", "_law_many"] (defScope s_draw) := ⟨rfl, rfl, rfl, by decide +kernel, rfl, by decide +kernel, by decide +kernel⟩
theorem ok_draw (D_mixed : DefAt P w K mg base "_law_mixed" ["_law_state_here", "_law_many"] 1 spDraw) (T : Txt mg) {f : Addr} {fd : FuncData} (F : Fun K "_law_draw" "_law_draw" s_draw f fd) : FnOk P w K mg base CX0 2 f fd ["_law_state_here", "_law_many"] spDraw := by
  refine F.ok sc_draw (fun vs H Q E h => ?_) (fun cdv A outer s H vs Q E hr h => ?_)
  · obtain ⟨st, la, ce, n, many, rfl, ⟨ne1, ne2, ne3, d, t, ls, cs, h1, h2, h3, t0, tn, l1, l2⟩, hn, hm, hM, k⟩ := h
    rfl
  · obtain ⟨st, la, ce, n, many, rfl, ⟨ne1, ne2, ne3, d, t, ls, cs, h1, h2, h3, t0, tn, l1, l2⟩, hn, hm, hM, k⟩ := h
    refine ⟨_, (C8.pss_cut (ps_if (PW.pt (pw_and (pt_cmpR op_le (pe_ix ix_list (pv 0) pe_int (fun _ _ => rfl)) pe_int (nomark _)) (pw_and1 (pt_cmpR op_gt (pe_callB call_len_seq (by rfl) T.b_len PySem.boot_len (pa_cons (pe_ix ix_list (pv 0) pe_int (fun _ _ => rfl)) pa_nil)) pe_int (nomark _)))))
      (pss_cons (ps_set (i := 2) sc_draw.nd rfl (Or.inl rfl) (pe_ix ix_list (pv 0) pe_int (fun _ _ => rfl)))
      (pss_one (ps_asg (pe_bm PySem.F.plainAttrs_list PySem.F.slot_list_pop PySem.F.type_list_pop mt_popAt (pv 2) (pa_cons pe_int pa_nil)) (pg_sub (pv 0) pe_int set_list))))
      pss_nil)
    (pss_cons (ps_if (pt_cmpR op_gt (pe_ix ix_list (pv 0) pe_int (fun _ _ => rfl)) pe_int (nomark _))
      (pss_cons (ps_set (i := 3) sc_draw.nd rfl (Or.inl rfl) (pe_op op_mod (pe_callTy call_int1 (by rfl) T.b_int (by decide +kernel) (pa_cons (pe_ix ix_list (pv 0) pe_int (fun _ _ => rfl)) pa_nil)) (pv 1)))
      (pss_cons (ps_asg (pe_op op_fdivW (pe_ix ix_list (pv 0) pe_int (fun _ _ => rfl)) (pv 1)) (pg_sub (pv 0) pe_int set_list))
      (pss_one (ps_ret (pv 3)))))
      pss_nil)
    (pss_one (ps_ret (pe_cal D_mixed (hr.mono (by decide)) rfl (pa_cons (pv 0) (pa_cons (pv 1) pa_nil))))))), ?_⟩
    refine ⟨fun σ' H' => ∃ (w : Option V) (d' : Int) (ls' : List Int), σ' = [some (.ref st), some (.int many), w, none] ∧ H' st = some (.lst [.int d', .ref la, .int t, .ref ce]) ∧ H' la = some (.lst (ls'.map V.int)) ∧ H' ce = some (.lst (cs.map V.int)) ∧ ls'.length ≤ 63 ∧ Ev st la H H', ?_, ?_⟩
    · refine ⟨_, rfl, st, _, _, _, rfl, rfl, SqL.of h1, rfl, _, _, rfl, rfl, _, rfl, ?_⟩
      refine ite2 (fun hc => ?_) (fun hc => ?_)
      · refine ⟨_, rfl, st, _, _, _, rfl, rfl, SqL.of h1, rfl, la, _, rfl, .inl (SqL.of h2), _, _, rfl, rfl, _, rfl, ?_⟩
        refine ite2 (fun hc => ?_) (fun hc => ?_)
        · have hc' : (0 : Int) < ((ls.map V.int).length : Nat) := of_decide_eq_true hc
          refine ⟨_, rfl, st, _, _, _, rfl, rfl, SqL.of h1, rfl, ?_⟩
          cases ls with
          | nil => exact absurd hc' (by decide)
          | cons l0 lr =>
            refine ⟨_, rfl, .inl ⟨rfl, _, SqL.of h2⟩, la, _, _, 0, .int l0, rfl, rfl, h2, by decide, by decide, ?_, rfl, ?_⟩
            · unfold seqIndex?
              show (if _ then _ else _) = _
              rw [List.length_map, List.length_cons]
              simp
              try omega
            refine ⟨_, rfl, st, _, _, _, rfl, rfl, by rw [upd_ne ne1.symm]; exact h1, rfl, ?_⟩
            refine ⟨_, l0, lr, rfl, upd_same, ?_, ?_, ?_, ?_⟩
            · rw [upd_ne ne1, upd_same]
              rfl
            · rw [upd_ne ne2, upd_ne ne3]
              exact h3
            · rw [List.length_cons] at l1
              omega
            · intro b o b1 b2 e
              rw [upd_ne b1, upd_ne b2]
              exact e
        · exact ⟨_, d, ls, rfl, h1, h2, h3, l1, Ev.refl⟩
      · exact ⟨_, d, ls, rfl, h1, h2, h3, l1, Ev.refl⟩
    rintro σ' H' ⟨w', d', ls', rfl, g1, g2, g3, gl, gE⟩
    refine ⟨_, rfl, st, _, _, _, rfl, rfl, SqL.of g1, rfl, _, _, rfl, rfl, _, rfl, ?_⟩
    refine ite2 (fun hc => ?_) (fun hc => ?_)
    · refine ⟨_, rfl, st, _, _, _, rfl, rfl, SqL.of g1, rfl, .inl ⟨_, rfl, _, rfl, _, _, rfl, rfl, hm, ?_⟩⟩
      refine ⟨_, rfl, st, _, _, _, rfl, rfl, SqL.of g1, rfl, _, rfl, _, _, rfl, rfl, wide_div (b := 300) hm (by omega) (by decide) (by decide), ?_⟩
      refine ⟨_, rfl, st, _, _, _, rfl, rfl, g1, rfl, ?_⟩
      refine ⟨_, rfl, ?_⟩
      refine k _ _ (Int.emod_nonneg _ (by omega)) (Int.emod_lt_of_pos _ hm) ⟨ne1, ne2, ne3, _, t, ls', cs, upd_same, ?_, ?_, by omega, by omega, gl, l2⟩ ?_
      · rw [upd_ne ne1]
        exact g2
      · rw [upd_ne ne2]
        exact g3
      · intro b o b1 b2 e
        rw [upd_ne b1]
        exact gE b o b1 b2 e
    · refine ⟨_, rfl, _, rfl, ?_⟩
      refine ⟨st, la, ce, n, many, rfl, ⟨ne1, ne2, ne3, d', t, ls', cs, g1, g2, g3, t0, tn, gl, l2⟩, hn, hm, hM, fun r H2 r0 r1 hd he => ?_⟩
      exact k r H2 r0 r1 hd (gE.trans he)
theorem d_draw (D_mixed : DefAt P w K mg base "_law_mixed" ["_law_state_here", "_law_many"] 1 spDraw) (T : Txt mg) {f : Addr} {fd : FuncData} (F : Fun K "_law_draw" "_law_draw" s_draw f fd) (m : mg "_law_draw" = some (.ref f)) : DefAt P w K mg base "_law_draw" ["_law_state_here", "_law_many"] 2 spDraw :=
  ⟨f, fd, m, F.kp, F.binds (fun _ _ _ _ _ _ us hl => match us, hl with | [_, _], _ => rfl), ok_draw D_mixed T F⟩
abbrev s_sign : Stmt := top 9
theorem sc_sign : FnScope ["_law_state_here", "_law_signs"] ["_law_state_here"] (defScope s_sign) := ⟨rfl, rfl, rfl, by decide +kernel, rfl, by decide +kernel, by decide +kernel⟩
theorem ok_sign (D_draw : DefAt P w K mg base "_law_draw" ["_law_state_here", "_law_many"] 2 spDraw) (T : Txt mg) {f : Addr} {fd : FuncData} (F : Fun K "_law_sign" "_law_sign" s_sign f fd) : FnOk P w K mg base CX0 3 f fd ["_law_state_here"] spSign := by
  refine F.ok sc_sign (fun vs H Q E h => ?_) (fun cdv A outer s H vs Q E hr h => ?_)
  · obtain ⟨st, la, ce, n, rfl, hD, hn, k⟩ := h
    rfl
  · obtain ⟨st, la, ce, n, rfl, hD, hn, k⟩ := h
    refine ⟨_, (pss_cons (ps_set (i := 1) sc_sign.nd rfl (Or.inl rfl) pe_str)
    (pss_cons (ps_set (i := 1) sc_sign.nd rfl (Or.inl rfl) (pe_op op_add_str (pv 1) pe_str))
    (pss_one (ps_ret (pe_ix ix_str (pv 1) (pe_cal D_draw (hr.mono (by decide)) rfl (pa_cons (pv 0) (pa_cons pe_int pa_nil))) (fun _ _ => rfl)))))), ?_⟩
    refine ⟨_, rfl, _, _, rfl, rfl, by decide +kernel, ?_⟩
    refine ⟨_, rfl, _, rfl, st, la, ce, n, 94, rfl, hD, by omega, by decide, n300, fun r H' r0 r1 d e => ?_⟩
    obtain ⟨c, hc⟩ := sign_at (z := Str.ofString " !\"#$&'()*+,-./0123456789:;<=>?@ABCDEFGHIJKLMNOPQRSTUVWXYZ[\\]^_`" ++ Str.ofString "abcdefghijklmnopqrstuvwxyz{|}~") r0 (by
      have e : (Str.ofString " !\"#$&'()*+,-./0123456789:;<=>?@ABCDEFGHIJKLMNOPQRSTUVWXYZ[\\]^_`" ++ Str.ofString "abcdefghijklmnopqrstuvwxyz{|}~").length = 94 := by decide +kernel
      rw [e]
      exact r1)
    exact ⟨_, _, c, rfl, rfl, by decide +kernel, hc, k c H' d e⟩
theorem d_sign (D_draw : DefAt P w K mg base "_law_draw" ["_law_state_here", "_law_many"] 2 spDraw) (T : Txt mg) {f : Addr} {fd : FuncData} (F : Fun K "_law_sign" "_law_sign" s_sign f fd) (m : mg "_law_sign" = some (.ref f)) : DefAt P w K mg base "_law_sign" ["_law_state_here"] 3 spSign :=
  ⟨f, fd, m, F.kp, F.binds (fun _ _ _ _ _ _ us hl => match us, hl with | [_], _ => rfl), ok_sign D_draw T F⟩
abbrev s_name : Stmt := top 10
theorem sc_name : FnScope ["_law_state_here", "_law_signs", "_law_name_here", "_law_k"] ["_law_state_here"] (defScope s_name) := ⟨rfl, rfl, rfl, by decide +kernel, rfl, by decide +kernel, by decide +kernel⟩
theorem ok_name (D_draw : DefAt P w K mg base "_law_draw" ["_law_state_here", "_law_many"] 2 spDraw) (T : Txt mg) {f : Addr} {fd : FuncData} (F : Fun K "_law_name" "_law_name" s_name f fd) : FnOk P w K mg base CX0 3 f fd ["_law_state_here"] spName := by
  refine F.ok sc_name (fun vs H Q E h => ?_) (fun cdv A outer s H vs Q E hr h => ?_)
  · obtain ⟨st, la, ce, n, rfl, hD, hn, k⟩ := h
    rfl
  · obtain ⟨st, la, ce, n, rfl, hD, hn, k⟩ := h
    refine ⟨_, (pss_cons (ps_set (i := 1) sc_name.nd rfl (Or.inl rfl) pe_str)
    (pss_cons (ps_set (i := 2) sc_name.nd rfl (Or.inl rfl) (pe_ix ix_str (pv 1) (pe_cal D_draw (hr.mono (by decide)) rfl (pa_cons (pv 0) (pa_cons pe_int pa_nil))) (fun _ _ => rfl)))
    (pss_cons (ps_for PassesOwn.never rfl (pi_range1 rfl T.b_range (pa_cons (pe_cal D_draw (hr.mono (by decide)) rfl (pa_cons (pv 0) (pa_cons pe_int pa_nil))) pa_nil)) (pg_name (i := 3) sc_name.nd rfl (Or.inl rfl))
      (pss_one (ps_set (i := 2) sc_name.nd rfl (Or.inl rfl) (pe_op op_add_str (pv 2) (pe_ix ix_str (pv 1) (pe_cal D_draw (hr.mono (by decide)) rfl (pa_cons (pv 0) (pa_cons pe_int pa_nil))) (fun _ _ => rfl))))))
    (pss_one (ps_ret (pv 2)))))), ?_⟩
    have e36 : (Str.ofString "abcdefghijklmnopqrstuvwxyz0123456789").length = 36 := by decide +kernel
    refine ⟨_, rfl, _, rfl, st, la, ce, n, 26, rfl, hD, by omega, by decide, few300 (by decide), fun r H1 r0 r1 d1 e1 => ?_⟩
    obtain ⟨c, hc⟩ := sign_at (z := Str.ofString "abcdefghijklmnopqrstuvwxyz0123456789") r0 (by rw [e36]; omega)
    refine ⟨_, _, c, rfl, rfl, by decide +kernel, hc, ?_⟩
    refine ⟨_, rfl, st, la, ce, n + 1, 12, rfl, d1, by omega, by decide, few300 (by decide), fun m H2 m0 m1 d2 e2 => ?_⟩
    refine ⟨m, rfl, by omega, by omega, for_range (n := m.toNat) (fun i σ H' => ∃ (z : Str) (w : Option V), σ = [some (.ref st), some (.str (Str.ofString "abcdefghijklmnopqrstuvwxyz0123456789")), some (.str z), w] ∧ z.length = i + 1 ∧ Dr H' st la ce (n + 2 + (i : Int)) ∧ Ev st la H H') ⟨_, none, rfl, rfl, d2.mono (by omega), e1.trans e2⟩ ?_ ?_⟩
    · rintro i σ H' hi ⟨z, w, rfl, hz, d3, e3⟩
      refine ⟨_, rfl, _, rfl, _, rfl, st, la, ce, _, 36, rfl, d3, by omega, by decide, few300 (by decide), fun x H3 x0 x1 d4 e4 => ?_⟩
      obtain ⟨c2, hc2⟩ := sign_at (z := Str.ofString "abcdefghijklmnopqrstuvwxyz0123456789") x0 (by rw [e36]; exact x1)
      refine ⟨_, _, c2, rfl, rfl, by decide +kernel, hc2, _, _, rfl, rfl, ?_, ?_⟩
      · rw [hz, one_len]
        exact Nat.le_trans (show i + 1 + 1 ≤ 1000 by omega) (by decide)
      · refine ⟨_, _, rfl, ?_, d4.mono (by omega), e3.trans e4⟩
        rw [Str.length_append, hz, one_len]
    · rintro σ H' ⟨z, w, rfl, hz, d3, e3⟩
      exact ⟨_, rfl, k z H' (by omega) (by omega) (d3.mono (by omega)) e3⟩
theorem d_name (D_draw : DefAt P w K mg base "_law_draw" ["_law_state_here", "_law_many"] 2 spDraw) (T : Txt mg) {f : Addr} {fd : FuncData} (F : Fun K "_law_name" "_law_name" s_name f fd) (m : mg "_law_name" = some (.ref f)) : DefAt P w K mg base "_law_name" ["_law_state_here"] 3 spName :=
  ⟨f, fd, m, F.kp, F.binds (fun _ _ _ _ _ _ us hl => match us, hl with | [_], _ => rfl), ok_name D_draw T F⟩
abbrev s_text : Stmt := top 11
theorem sc_text : FnScope ["_law_state_here", "_law_name_here", "_law_way", "_law_size", "_law_place", "_law_k"] ["_law_state_here", "_law_name_here"] (defScope s_text) := ⟨rfl, rfl, rfl, by decide +kernel, rfl, by decide +kernel, by decide +kernel⟩
theorem ok_text (D_draw : DefAt P w K mg base "_law_draw" ["_law_state_here", "_law_many"] 2 spDraw) (D_sign : DefAt P w K mg base "_law_sign" ["_law_state_here"] 3 spSign) (T : Txt mg) {f : Addr} {fd : FuncData} (F : Fun K "_law_text" "_law_text" s_text f fd) : FnOk P w K mg base CX0 4 f fd ["_law_state_here", "_law_name_here"] spText := by
  refine F.ok sc_text (fun vs H Q E h => ?_) (fun cdv A outer s H vs Q E hr h => ?_)
  · obtain ⟨st, la, ce, n, z, rfl, z1, z2, hD, hn, k⟩ := h
    rfl
  · obtain ⟨st, la, ce, n, z, rfl, z1, z2, hD, hn, k⟩ := h
    refine ⟨_, (pss_cons (ps_set (i := 2) sc_text.nd rfl (Or.inl rfl) (pe_cal D_draw (hr.mono (by decide)) rfl (pa_cons (pv 0) (pa_cons pe_int pa_nil))))
    (pss_cons (ps_set (i := 3) sc_text.nd rfl (Or.inl rfl) (pe_cal D_draw (hr.mono (by decide)) rfl (pa_cons (pv 0) (pa_cons pe_int pa_nil))))
    (pss_cons (ps_if (pt_cmpR op_lt (pv 2) pe_int (nomark _))
      (pss_one (ps_ret (pe_join pe_str (pe_lc (own := [("_law_k", 5)]) (g := gName 5) rfl sc_text.nd (pi_range1 rfl T.b_range (pa_cons (pv 3) pa_nil)) (blkOk_by (own := [("_law_k", 5)]) (N := ["_law_state_here", "_law_name_here", "_law_way", "_law_size", "_law_place", "_law_k"]) (sc := defScope s_text) (by decide +kernel)) (fun _ _ _ _ _ => (pg_name (i := 5) sc_text.nd rfl (Or.inl rfl))) (fun _ _ _ _ _ => pts_nil) (fun _ _ _ _ _ => (pe_cal D_sign (hr.mono (by decide)) rfl (pa_cons (pv 0) pa_nil)))))))
      pss_nil)
    (pss_cons (ps_if (pt_cmpR op_eq (pv 2) pe_int (nomark _))
      (pss_one (ps_ret (pv 1)))
      pss_nil)
    (pss_cons (ps_if (pt_cmpR op_eq (pv 2) pe_int (nomark _))
      (pss_one (ps_ret (pe_slice sl_str (pe_op op_repS (pv 1) pe_int) po_none (po_some (pv 3)))))
      pss_nil)
    (pss_cons (ps_if (pt_cmpR op_eq (pv 2) pe_int (nomark _))
      (pss_cons (ps_set (i := 4) sc_text.nd rfl (Or.inl rfl) (pe_cal D_draw (hr.mono (by decide)) rfl (pa_cons (pv 0) (pa_cons (pe_callB call_len_str (by rfl) T.b_len PySem.boot_len (pa_cons (pv 1) pa_nil)) pa_nil))))
      (pss_one (ps_ret (pe_op op_add_str (pe_op op_add_str (pe_slice sl_str (pv 1) po_none (po_some (pv 4))) (pe_cal D_sign (hr.mono (by decide)) rfl (pa_cons (pv 0) pa_nil))) (pe_slice sl_str (pv 1) (po_some (pe_op op_add (pv 4) pe_int)) po_none)))))
      pss_nil)
    (pss_cons (ps_if (pt_cmpR op_eq (pv 2) pe_int (nomark _))
      (pss_one (ps_ret (pe_op op_add_str (pe_cal D_sign (hr.mono (by decide)) rfl (pa_cons (pv 0) pa_nil)) (pv 1))))
      pss_nil)
    (pss_cons (ps_if (pt_cmpR op_eq (pv 2) pe_int (nomark _))
      (pss_one (ps_ret (pe_op op_add_str (pv 1) (pe_cal D_sign (hr.mono (by decide)) rfl (pa_cons (pv 0) pa_nil)))))
      pss_nil)
    (pss_one (ps_ret pe_str)))))))))), ?_⟩
    have hzL : z.length ≤ sizeLine := Nat.le_trans (show z.length ≤ 1000 by omega) (by decide)
    refine ⟨_, rfl, st, la, ce, n, 8, rfl, hD, by omega, by decide, few300 (by decide), fun way H1 w0 w1 d1 e1 => ?_⟩
    refine ⟨_, rfl, st, la, ce, _, 15, rfl, d1, by omega, by decide, few300 (by decide), fun size H2 s0 s1 d2 e2 => ?_⟩
    have e12 := e1.trans e2
    refine ⟨_, rfl, _, _, rfl, rfl, _, rfl, ite_id (fun hc => ?_) (fun hc => ?_)⟩
    · refine ⟨⟨_, rfl⟩, _, rfl, size, rfl, by omega, by omega, fun D hD' => ?_⟩
      refine lc_range (lo := 0) (n := size.toNat) (fun i H' => ∃ ys : List Str, H' D = some (.lst (ys.map V.str)) ∧ ys.length = i ∧ (∀ y ∈ ys, y.length = 1) ∧ Dr H' st la ce (n + 2 + (i : Int)) ∧ Ev st la H H') ⟨[], upd_same, rfl, by simp, d2.new hD' |>.mono (by omega), e12.new hD'⟩ ?_ ?_
      · rintro i H' hi ⟨ys, g, gl, g1, d3, e3⟩
        refine ⟨rfl, _, rfl, st, la, ce, _, rfl, d3, by omega, fun c H3 d4 e4 => ?_⟩
        have off := d2.off hD'
        refine ⟨_, e4 _ _ off.s off.l g, by rw [List.length_map]; exact small1000 (by omega), ys ++ [⟨#[c]⟩], ?_, ?_, ?_, ?_, ?_⟩
        · rw [upd_same, List.map_append]
          rfl
        · rw [List.length_append, gl]
          rfl
        · intro y hy
          rcases List.mem_append.mp hy with h | h
          · exact g1 y h
          · rw [List.mem_singleton.mp h]
            rfl
        · exact (d4.put off).mono (by omega)
        · have e5 := e3.trans e4
          intro b o b1 b2 e
          have : b ≠ D := fun q => by
            rw [q] at e b1 b2
            have z9 := e12 D o b1 b2 e
            rw [hD'] at z9
            cases z9
          rw [upd_ne this]
          exact e5 b o b1 b2 e
      · rintro H' ⟨ys, g, gl, g1, d3, e3⟩
        have hs : (ys.map (·.length)).sum = ys.length := by
          have : ∀ l : List Str, (∀ y ∈ l, y.length = 1) → (l.map (·.length)).sum = l.length := by
            intro l
            induction l with
            | nil => intro _; rfl
            | cons a l ih =>
              intro h
              rw [List.map_cons, List.sum_cons, ih (fun y hy => h y (List.mem_cons_of_mem _ hy)), h a List.mem_cons_self, List.length_cons]
              omega
          exact this ys g1
        refine ⟨Str.ofString "", D, ys, rfl, rfl, .inl (SqL.of g), ?_, ?_⟩
        · rw [hs]
          have : (Str.ofString "").length = 0 := by decide +kernel
          rw [this]
          omega
        · refine k _ H' ?_ (d3.mono (by omega)) e3
          have el : ∀ x : Str, x.length = (TL.tl x).length := TL.len_tl
          rw [TL.join_eq, el, TL.tl_join, show TL.tl (Str.ofString "") = [] by decide +kernel, joinL_len, List.map_map]
          have : (ys.map (List.length ∘ TL.tl)).sum = ys.length := by
            rw [← hs]
            congr 1
          rw [this]
          omega
    · refine ⟨_, rfl, rfl, _, rfl, ite_id (fun hc => ?_) (fun hc => ?_)⟩
      · exact ⟨_, rfl, k z H2 (by omega) (d2.mono (by omega)) e12⟩
      refine ⟨_, rfl, rfl, _, rfl, ite_id (fun hc => ?_) (fun hc => ?_)⟩
      · refine ⟨_, rfl, _, _, rfl, rfl, by decide, by decide, by omega, fun u hu => ?_⟩
        have hu' : u.length ≤ 200 := by
          rw [hu]
          have : (14 : Int).toNat = 14 := rfl
          rw [this]
          omega
        refine ⟨_, rfl, _, rfl, u, rfl, Nat.le_trans (show u.length ≤ 1000 by omega) (by decide), ?_⟩
        exact k _ H2 (Nat.le_trans (cutS_length _ _ _) (by omega)) (d2.mono (by omega)) e12
      refine ⟨_, rfl, rfl, _, rfl, ite_id (fun hc => ?_) (fun hc => ?_)⟩
      · refine ⟨_, rfl, _, rfl, z, rfl, hzL, st, la, ce, _, _, rfl, d2, by omega, by omega, few300 (by omega), fun pl H3 p0 p1 d3 e3 => ?_⟩
        refine ⟨_, rfl, _, rfl, _, rfl, z, rfl, hzL, _, rfl, st, la, ce, _, rfl, d3, by omega, fun c H4 d4 e4 => ?_⟩
        have c1 := cutS_length z none (some pl)
        have c2 := cutS_length z (some (pl + 1)) none
        refine ⟨_, _, rfl, rfl, ?_, _, rfl, _, rfl, _, _, rfl, rfl, _, rfl, z, rfl, hzL, _, _, rfl, rfl, ?_, ?_⟩
        · rw [one_len]
          exact Nat.le_trans (show _ ≤ 1000 by omega) (by decide)
        · rw [Str.length_append, one_len]
          exact Nat.le_trans (show _ ≤ 1000 by omega) (by decide)
        · refine k _ H4 ?_ (d4.mono (by omega)) ((e12.trans e3).trans e4)
          rw [Str.length_append, Str.length_append, one_len]
          omega
      refine ⟨_, rfl, rfl, _, rfl, ite_id (fun hc => ?_) (fun hc => ?_)⟩
      · refine ⟨_, rfl, st, la, ce, _, rfl, d2, by omega, fun c H4 d4 e4 => ?_⟩
        refine ⟨_, rfl, _, _, rfl, rfl, ?_, ?_⟩
        · rw [one_len]
          exact Nat.le_trans (show _ ≤ 1000 by omega) (by decide)
        · refine k _ H4 ?_ (d4.mono (by omega)) (e12.trans e4)
          rw [Str.length_append, one_len]
          omega
      refine ⟨_, rfl, rfl, _, rfl, ite_id (fun hc => ?_) (fun hc => ?_)⟩
      · refine ⟨_, rfl, _, rfl, st, la, ce, _, rfl, d2, by omega, fun c H4 d4 e4 => ?_⟩
        refine ⟨_, _, rfl, rfl, ?_, ?_⟩
        · rw [one_len]
          exact Nat.le_trans (show _ ≤ 1000 by omega) (by decide)
        · refine k _ H4 ?_ (d4.mono (by omega)) (e12.trans e4)
          rw [Str.length_append, one_len]
          omega
      · exact k _ H2 (by decide +kernel) (d2.mono (by omega)) e12
theorem d_text (D_draw : DefAt P w K mg base "_law_draw" ["_law_state_here", "_law_many"] 2 spDraw) (D_sign : DefAt P w K mg base "_law_sign" ["_law_state_here"] 3 spSign) (T : Txt mg) {f : Addr} {fd : FuncData} (F : Fun K "_law_text" "_law_text" s_text f fd) (m : mg "_law_text" = some (.ref f)) : DefAt P w K mg base "_law_text" ["_law_state_here", "_law_name_here"] 4 spText :=
  ⟨f, fd, m, F.kp, F.binds (fun _ _ _ _ _ _ us hl => match us, hl with | [_, _], _ => rfl), ok_text D_draw D_sign T F⟩
abbrev s_due : Stmt := top 12
theorem sc_due : FnScope ["_law_text_here", "_law_letters", "_law_digits", "_law_sign_here"] ["_law_text_here"] (defScope s_due) := ⟨rfl, rfl, rfl, by decide +kernel, rfl, by decide +kernel, by decide +kernel⟩
theorem ok_due (T : Txt mg) {f : Addr} {fd : FuncData} (F : Fun K "_law_due" "_law_due" s_due f fd) : FnOk P w K mg base CX0 1 f fd ["_law_text_here"] spIs := by
  refine F.ok sc_due (fun vs H Q E h => ?_) (fun cdv A outer s H vs Q E hr h => ?_)
  · obtain ⟨z, rfl, hz, k⟩ := h
    rfl
  · obtain ⟨z, rfl, hz, k⟩ := h
    refine ⟨_, (pss_cons (ps_setLc (i := 1) (own := [("_law_sign_here", 3)]) (g := gName 3) rfl sc_due.nd rfl rfl (sw_true rfl rfl rfl (by decide +kernel)) (pi_str (pv 0)) (blkOk_by (own := [("_law_sign_here", 3)]) (N := ["_law_text_here", "_law_letters", "_law_digits", "_law_sign_here"]) (sc := defScope s_due) (by decide +kernel)) (fun _ _ _ _ _ => (pg_name (i := 3) sc_due.nd rfl (Or.inl rfl))) (fun _ _ _ _ _ => pts_one (pt_chain op_le_str op_le_str pe_str (pv 3) pe_str)) (fun _ _ _ _ _ => (pv 3)))
    (pss_cons (ps_setLc (i := 2) (own := [("_law_sign_here", 3)]) (g := gName 3) rfl sc_due.nd rfl rfl (sw_true rfl rfl rfl (by decide +kernel)) (pi_str (pv 0)) (blkOk_by (own := [("_law_sign_here", 3)]) (N := ["_law_text_here", "_law_letters", "_law_digits", "_law_sign_here"]) (sc := defScope s_due) (by decide +kernel)) (fun _ _ _ _ _ => (pg_name (i := 3) sc_due.nd rfl (Or.inl rfl))) (fun _ _ _ _ _ => pts_one (pt_chain op_le_str op_le_str pe_str (pv 3) pe_str)) (fun _ _ _ _ _ => (pv 3)))
    (pss_cons (ps_if (PW.pt (pw_or (pt_not (pt_chain op_le op_le pe_int (pe_callB call_len_str (by rfl) T.b_len PySem.boot_len (pa_cons (pv 0) pa_nil)) pe_int)) (pw_or1 (pt_cmpR op_ne (pe_op op_add (pe_callB call_len_seq (by rfl) T.b_len PySem.boot_len (pa_cons (pv 1) pa_nil)) (pe_callB call_len_seq (by rfl) T.b_len PySem.boot_len (pa_cons (pv 2) pa_nil))) (pe_callB call_len_str (by rfl) T.b_len PySem.boot_len (pa_cons (pv 0) pa_nil)) (nomark _)))))
      (pss_one (ps_ret pe_bl))
      pss_nil)
    (pss_one (ps_ret (pe_chain op_le_str op_le_str pe_str (pe_ix ix_str (pv 0) pe_int (fun _ _ => rfl)) pe_str)))))), ?_⟩
    have hz1 : z.length ≤ sizeLine := Nat.le_trans hz (by decide)
    have ez : z.length = z.cps.toList.length := by simp [Str.length]
    have la : (Str.ofString "a").cps.toList = [97] := by decide +kernel
    have lz : (Str.ofString "z").cps.toList = [122] := by decide +kernel
    have l0 : (Str.ofString "0").cps.toList = [48] := by decide +kernel
    have l9 : (Str.ofString "9").cps.toList = [57] := by decide +kernel
    have ln : ∀ a b : Nat, (!decide (([a] : List Nat) < [b])) = decide (b ≤ a) := fun a b => by
      rw [one_lt, ← decide_not]
      apply decide_eq_decide.mpr
      omega
    -- the letters
    refine ⟨_, rfl, z, rfl, fun D hD => ?_⟩
    refine lc_it walk_str (fun i H' => Same H H' ∧ H' D = some (.lst (((z.cps.toList.take i).filter isL).map fun c => V.str ⟨#[c]⟩))) ⟨Same.new (Same.refl _) hD, upd_same⟩ (fun _ _ _ _ => trivial) ?_ ?_
    · rintro i x H1 H2 hi ⟨hs, g⟩ ⟨rfl, d, hd, rfl⟩
      have hd' := cps_at hd
      have hlen : (((z.cps.toList.take i).filter isL).map fun c => V.str ⟨#[c]⟩).length < sizeLine := by
        rw [List.length_map]
        refine small1000 ?_
        have h1 := List.length_filter_le isL (z.cps.toList.take i)
        have h2 := List.length_take_le i z.cps.toList
        rw [List.length_take] at h1
        omega
      refine ⟨rfl, _, rfl, _, _, rfl, rfl, _, rfl, ?_⟩
      rw [la]
      show if (!decide (([d] : List Nat) < [97])) = true then _ else _
      rw [ln]
      have stop : isL d = false → Same H H2 ∧ H2 D = some (.lst (((z.cps.toList.take (i + 1)).filter isL).map fun c => V.str ⟨#[c]⟩)) := fun hb => by
        refine ⟨hs, ?_⟩
        rw [take_more hd', List.filter_append, List.filter_cons_of_neg (by rw [hb]; decide), List.filter_nil, List.append_nil]
        exact g
      refine ite_id (fun h3 => ?_) (fun h3 => ?_)
      · refine ⟨_, _, rfl, rfl, _, rfl, ?_⟩
        rw [lz]
        show if (!decide (([122] : List Nat) < [d])) = true then _ else _
        rw [ln]
        refine ite_id (fun h4 => ?_) (fun h4 => ?_)
        · have hb : isL d = true := by unfold isL; rw [h3, h4]; rfl
          refine ⟨_, rfl, _, g, hlen, Same.put hs hD, ?_⟩
          rw [upd_same, take_more hd', List.filter_append, List.filter_cons_of_pos hb, List.filter_nil, List.map_append]
          rfl
        · exact stop (by unfold isL; rw [h3, h4]; rfl)
      · exact ⟨_, rfl, stop (by unfold isL; rw [h3]; rfl)⟩
    rintro H1 ⟨hs, g⟩
    rw [take_all (show z.cps.size = z.cps.toList.length by simp)] at g
    -- the digits
    refine ⟨_, rfl, z, rfl, fun D2 hD2 => ?_⟩
    refine lc_it walk_str (fun i H' => Same H1 H' ∧ H' D2 = some (.lst (((z.cps.toList.take i).filter isD).map fun c => V.str ⟨#[c]⟩))) ⟨Same.new (Same.refl _) hD2, upd_same⟩ (fun _ _ _ _ => trivial) ?_ ?_
    · rintro i x H3 H2 hi ⟨hs1, g1⟩ ⟨rfl, d, hd, rfl⟩
      have hd' := cps_at hd
      have hlen : (((z.cps.toList.take i).filter isD).map fun c => V.str ⟨#[c]⟩).length < sizeLine := by
        rw [List.length_map]
        refine small1000 ?_
        have h1 := List.length_filter_le isD (z.cps.toList.take i)
        have h2 := List.length_take_le i z.cps.toList
        rw [List.length_take] at h1
        omega
      refine ⟨rfl, _, rfl, _, _, rfl, rfl, _, rfl, ?_⟩
      rw [l0]
      show if (!decide (([d] : List Nat) < [48])) = true then _ else _
      rw [ln]
      have stop : isD d = false → Same H1 H2 ∧ H2 D2 = some (.lst (((z.cps.toList.take (i + 1)).filter isD).map fun c => V.str ⟨#[c]⟩)) := fun hb => by
        refine ⟨hs1, ?_⟩
        rw [take_more hd', List.filter_append, List.filter_cons_of_neg (by rw [hb]; decide), List.filter_nil, List.append_nil]
        exact g1
      refine ite_id (fun h3 => ?_) (fun h3 => ?_)
      · refine ⟨_, _, rfl, rfl, _, rfl, ?_⟩
        rw [l9]
        show if (!decide (([57] : List Nat) < [d])) = true then _ else _
        rw [ln]
        refine ite_id (fun h4 => ?_) (fun h4 => ?_)
        · have hb : isD d = true := by unfold isD; rw [h3, h4]; rfl
          refine ⟨_, rfl, _, g1, hlen, Same.put hs1 hD2, ?_⟩
          rw [upd_same, take_more hd', List.filter_append, List.filter_cons_of_pos hb, List.filter_nil, List.map_append]
          rfl
        · exact stop (by unfold isD; rw [h3, h4]; rfl)
      · exact ⟨_, rfl, stop (by unfold isD; rw [h3]; rfl)⟩
    rintro H2 ⟨hs1, g1⟩
    rw [take_all (show z.cps.size = z.cps.toList.length by simp)] at g1
    have hs2 := hs.trans hs1
    have gD := hs1 _ _ g
    have ft := filt z.cps.toList
    refine ⟨_, rfl, z, rfl, hz1, _, _, rfl, rfl, _, rfl, ?_⟩
    refine ite_id (fun h1 => ?_) (fun h1 => ?_)
    · have h1' : (1 : Int) ≤ (z.length : Nat) := of_decide_eq_true h1
      refine ⟨_, _, rfl, rfl, _, rfl, ?_⟩
      obtain ⟨c, r, q⟩ : ∃ c r, z.cps.toList = c :: r := by
        cases q : z.cps.toList with
        | nil => rw [ez, q] at h1'; exact absurd h1' (by decide)
        | cons c r => exact ⟨c, r, rfl⟩
      refine ite_id (fun h2 => ?_) (fun h2 => ?_)
      · have h2' : ¬ ((z.length : Nat) : Int) ≤ 12 := by simpa using h2
        have e : nameL z.cps.toList = false := by
          rw [q]
          show (decide ((c :: r).length ≤ 12) && _) = false
          rw [decide_eq_false (by rw [← q]; omega)]
          rfl
        have := k H2 hs2
        rw [e] at this
        exact this
      · have h2' : ((z.length : Nat) : Int) ≤ 12 := by simpa using h2
        have hN : nameL z.cps.toList = (isL c && z.cps.toList.all fun x => isL x || isD x) := by
          rw [q]
          show (decide ((c :: r).length ≤ 12) && _) = _
          rw [decide_eq_true (by rw [← q]; omega)]
          rfl
        refine ⟨_, rfl, D, _, rfl, .inl (SqL.of gD), _, rfl, D2, _, rfl, .inl (SqL.of g1), _, _, rfl, rfl, _, rfl, z, rfl, hz1, rfl, _, rfl, ?_⟩
        refine ite_id (fun h3 => ?_) (fun h3 => ?_)
        · have h3' : ¬ ((z.cps.toList.filter isL).length + (z.cps.toList.filter isD).length = z.cps.toList.length) := by
            intro z9
            have h4 : (!decide (V.int ((((z.cps.toList.filter isL).map fun c => V.str ⟨#[c]⟩).length : Nat) + (((z.cps.toList.filter isD).map fun c => V.str ⟨#[c]⟩).length : Nat)) = V.int (z.length : Nat))) = true := h3
            rw [List.length_map, List.length_map, decide_eq_true (by rw [ez, ← z9]; rfl)] at h4
            cases h4
          have e : nameL z.cps.toList = false := by
            rw [hN]
            have : (z.cps.toList.all fun x => isL x || isD x) = false := by
              cases q2 : (z.cps.toList.all fun x => isL x || isD x) with
              | false => rfl
              | true => exact absurd (ft.2.mpr q2) h3'
            rw [this, Bool.and_false]
          have := k H2 hs2
          rw [e] at this
          exact this
        · have h4 : (!decide (V.int ((((z.cps.toList.filter isL).map fun c => V.str ⟨#[c]⟩).length : Nat) + (((z.cps.toList.filter isD).map fun c => V.str ⟨#[c]⟩).length : Nat)) = V.int (z.length : Nat))) = false := h3
          have h5 : V.int ((((z.cps.toList.filter isL).map fun c => V.str ⟨#[c]⟩).length : Nat) + (((z.cps.toList.filter isD).map fun c => V.str ⟨#[c]⟩).length : Nat)) = V.int (z.length : Nat) := by simpa using h4
          rw [List.length_map, List.length_map] at h5
          have h6 := V.int.inj h5
          have h7 : (z.cps.toList.all fun x => isL x || isD x) = true := ft.2.mp (by omega)
          have kk := k H2 hs2
          rw [hN, h7, Bool.and_true] at kk
          refine ⟨_, rfl, z, _, c, rfl, rfl, hz1, by rw [q]; exact atI_nat (j := 0) rfl, _, _, rfl, rfl, _, rfl, ?_⟩
          rw [la]
          show if (!decide (([c] : List Nat) < [97])) = true then _ else _
          rw [ln]
          refine ite_id (fun h8 => ?_) (fun h8 => ?_)
          · refine ⟨_, _, rfl, rfl, ?_⟩
            rw [lz]
            show Q (V.bl (!decide (([122] : List Nat) < [c]))) H2
            rw [ln]
            have e : isL c = decide (c ≤ 122) := by unfold isL; rw [h8]; rfl
            rw [e] at kk
            exact kk
          · have e : isL c = false := by unfold isL; rw [h8]; rfl
            rw [e] at kk
            exact kk
    · have h1' : ¬ (1 : Int) ≤ (z.length : Nat) := of_decide_eq_false (by simpa using h1)
      refine ⟨_, rfl, ?_⟩
      have e : z.cps.toList = [] := List.eq_nil_of_length_eq_zero (by omega)
      have kk := k H2 hs2
      rw [e] at kk
      exact kk
theorem d_due (T : Txt mg) {f : Addr} {fd : FuncData} (F : Fun K "_law_due" "_law_due" s_due f fd) (m : mg "_law_due" = some (.ref f)) : DefAt P w K mg base "_law_due" ["_law_text_here"] 1 spIs :=
  ⟨f, fd, m, F.kp, F.binds (fun _ _ _ _ _ _ us hl => match us, hl with | [_], _ => rfl), ok_due T F⟩
abbrev s_law : Stmt := top 13
theorem sc_law : FnScope ["_law_script", "_law_state_here", "_law_name_here", "_law_text_here", "_law_asked", "_law_one", "_law_told"] ["_law_script"] (defScope s_law) := ⟨rfl, rfl, rfl, by decide +kernel, rfl, by decide +kernel, by decide +kernel⟩
theorem ok_law (D_state : DefAt P w K mg base "_law_state" ["_law_script"] 1 (spState K)) (D_name : DefAt P w K mg base "_law_name" ["_law_state_here"] 3 spName) (D_text : DefAt P w K mg base "_law_text" ["_law_state_here", "_law_name_here"] 4 spText) (D_is_name : DefAt P w K mg base "is_name" ["text"] 1 spIs) (D_due : DefAt P w K mg base "_law_due" ["_law_text_here"] 1 spIs) (T : Txt mg) {f : Addr} {fd : FuncData} (F : Fun K "law" "law" s_law f fd) : FnOk P w K mg base CX0 5 f fd ["_law_script"] (spLaw K) := by
  refine F.ok sc_law (fun vs H Q E h => ?_) (fun cdv A outer s H vs Q E hr h => ?_)
  · obtain ⟨a, ns, rfl, hS, hl, k⟩ := h
    rfl
  · obtain ⟨a, ns, rfl, hS, hl, k⟩ := h
    refine ⟨_, (pss_cons (ps_set (i := 1) sc_law.nd rfl (Or.inl rfl) (pe_cal D_state (hr.mono (by decide)) rfl (pa_cons (pv 0) pa_nil)))
    (pss_cons (ps_set (i := 2) sc_law.nd rfl (Or.inl rfl) (pe_cal D_name (hr.mono (by decide)) rfl (pa_cons (pv 1) pa_nil)))
    (pss_cons (ps_set (i := 3) sc_law.nd rfl (Or.inl rfl) (pe_cal D_text (hr.mono (by decide)) rfl (pa_cons (pv 1) (pa_cons (pv 2) pa_nil))))
    (pss_cons (ps_set (i := 4) sc_law.nd rfl (Or.inl rfl) (pe_lst (pa_cons (pv 3) (pa_cons (pe_slice sl_str (pv 3) (po_some pe_int) po_none) (pa_cons (pe_slice sl_str (pv 3) po_none (po_some pe_int)) (pa_cons pe_str (pa_cons (pv 2) (pa_cons (pe_slice sl_str (pv 2) po_none (po_some pe_int)) pa_nil))))))))
    (pss_cons (ps_expr (pe_bm PySem.F.plainAttrs_list PySem.F.slot_list_append PySem.F.type_list_append mt_append (pv 4) (pa_cons (pe_op op_add_str (pv 2) (pe_op op_repS pe_str (pe_op op_sub pe_int (pe_callB call_len_str (by rfl) T.b_len PySem.boot_len (pa_cons (pv 2) pa_nil))))) pa_nil)))
    (pss_cons (ps_expr (pe_bm PySem.F.plainAttrs_list PySem.F.slot_list_append PySem.F.type_list_append mt_append (pv 4) (pa_cons (pe_op op_add_str (pv 2) (pe_op op_repS pe_str (pe_op op_sub pe_int (pe_callB call_len_str (by rfl) T.b_len PySem.boot_len (pa_cons (pv 2) pa_nil))))) pa_nil)))
    (pss_cons (ps_expr (pe_bm PySem.F.plainAttrs_list PySem.F.slot_list_append PySem.F.type_list_append mt_append (pv 4) (pa_cons (pe_slice sl_str (pe_op op_repS (pv 2) pe_int) po_none (po_some pe_int)) pa_nil)))
    (pss_cons (ps_for PassesOwn.never rfl (pi_list (pv 4)) (pg_name (i := 5) sc_law.nd rfl (Or.inl rfl))
      (pss_cons (ps_set (i := 6) sc_law.nd rfl (Or.inl rfl) (pe_cal D_is_name (hr.mono (by decide)) rfl (pa_cons (pv 5) pa_nil)))
      (pss_one (ps_if (pt_val (pe_cal D_due (hr.mono (by decide)) rfl (pa_cons (pv 5) pa_nil)))
        (pss_one (ps_if (pt_cmpR op_notBl (pv 6) pe_bl (nomark _))
          (pss_one (ps_ret pe_bl))
          pss_nil))
        (pss_one (ps_if (pt_cmpR op_notBl (pv 6) pe_bl (nomark _))
          (pss_one (ps_ret pe_bl))
          pss_nil))))))
    (pss_one (ps_ret pe_bl)))))))))), ?_⟩
    refine ⟨_, rfl, a, ns, rfl, hS, hl, fun H1 st la ce d1 e1 _ _ _ => ?_⟩
    refine ⟨_, rfl, st, la, ce, 0, rfl, d1, by omega, fun z H2 z1 z2 d2 e2 => ?_⟩
    refine ⟨_, rfl, _, rfl, st, la, ce, _, z, rfl, z1, z2, d2, by omega, fun u H3 hu d3 e3 => ?_⟩
    have hzL : z.length ≤ sizeLine := Nat.le_trans (show z.length ≤ 1000 by omega) (by decide)
    have huL : u.length ≤ sizeLine := Nat.le_trans (show u.length ≤ 1000 by omega) (by decide)
    refine ⟨_, rfl, _, rfl, _, rfl, u, rfl, huL, _, rfl, _, rfl, u, rfl, huL, _, rfl, _, rfl, _, rfl, z, rfl, hzL, by show 6 ≤ sizeLine; decide, fun p hp => ?_⟩
    have l0 : (Str.ofString "0").length = 1 := by decide +kernel
    -- the three appends: what is told of the list is that it holds short texts
    refine ⟨_, rfl, .inl ⟨rfl, _, SqL.of upd_same⟩, _, rfl, _, rfl, z, rfl, hzL, _, _, rfl, rfl, _, _, rfl, rfl, by omega, by omega, by rw [l0]; decide, fun x1 hx1 => ?_⟩
    rw [l0] at hx1
    refine ⟨_, _, rfl, rfl, Nat.le_trans (show _ ≤ 1000 by omega) (by decide), p, _, _, rfl, rfl, upd_same, by show 6 < sizeLine; decide, ?_⟩
    refine ⟨_, rfl, .inl ⟨rfl, _, SqL.of upd_same⟩, _, rfl, _, rfl, z, rfl, hzL, _, _, rfl, rfl, _, _, rfl, rfl, by omega, by omega, by rw [l0]; decide, fun x2 hx2 => ?_⟩
    rw [l0] at hx2
    refine ⟨_, _, rfl, rfl, Nat.le_trans (show _ ≤ 1000 by omega) (by decide), p, _, _, rfl, rfl, upd_same, by show 7 < sizeLine; decide, ?_⟩
    refine ⟨_, rfl, .inl ⟨rfl, _, SqL.of upd_same⟩, _, rfl, _, _, rfl, rfl, by decide, by decide, by omega, fun x3 hx3 => ?_⟩
    have hx3' : x3.length ≤ 480 := by
      rw [hx3]
      have : (40 : Int).toNat = 40 := rfl
      rw [this]
      omega
    refine ⟨_, rfl, x3, rfl, Nat.le_trans (show _ ≤ 1000 by omega) (by decide), p, _, _, rfl, rfl, upd_same, by show 8 < sizeLine; decide, ?_⟩
    have c1 := cutS_length u (some 1) none
    have c2 := cutS_length u none (some 12)
    have c3 := cutS_length z none (some 1)
    have c4 := cutS_length x3 none (some 40)
    have le0 : (Str.ofString "").length ≤ 1000 := by decide +kernel
    have short : ∀ y ∈ [u, cutS u (some 1) none, cutS u none (some 12), Str.ofString "", z, cutS z none (some 1), z ++ x1, z ++ x2, cutS x3 none (some 40)], y.length ≤ 1000 := by
      intro y hy
      simp only [List.mem_cons, List.not_mem_nil, or_false] at hy
      rcases hy with h | h | h | h | h | h | h | h | h
      all_goals (subst h)
      · omega
      · omega
      · omega
      · exact le0
      · omega
      · omega
      · rw [Str.length_append]; omega
      · rw [Str.length_append]; omega
      · omega
    refine ⟨_, rfl, p, rfl, ⟨_, SqL.of upd_same⟩, for_list (K := K) (a := p) (xs := [u, cutS u (some 1) none, cutS u none (some 12), Str.ofString "", z, cutS z none (some 1), z ++ x1, z ++ x2, cutS x3 none (some 40)].map V.str) (fun i σ H' => (∃ w w2 : Option V, σ = [some (.ref a), some (.ref st), some (.str z), some (.str u), some (.ref p), w, w2]) ∧ SqL K H' p ([u, cutS u (some 1) none, cutS u none (some 12), Str.ofString "", z, cutS z none (some 1), z ++ x1, z ++ x2, cutS x3 none (some 40)].map V.str)) ⟨⟨none, none, rfl⟩, SqL.of upd_same⟩ (fun i σ H' _ z => z.2) ?_ ?_⟩
    · rintro i x σ H' hi ⟨⟨w, w2, rfl⟩, hq⟩
      obtain ⟨y, hy, rfl⟩ := List.mem_map.mp (List.mem_of_getElem? hi)
      have hy' := short y hy
      refine ⟨_, rfl, y, rfl, hy', fun H4 s4 => ?_⟩
      refine ⟨_, rfl, y, rfl, hy', fun H5 s5 => ⟨_, rfl, ?_⟩⟩
      have hq5 := (s4.trans s5).seq hq
      refine ite_id (fun h1 => ?_) (fun h1 => ?_)
      · refine ⟨_, rfl, _, _, rfl, rfl, _, rfl, ?_⟩
        rw [h1]
        exact ⟨⟨_, _, rfl⟩, hq5⟩
      · refine ⟨_, rfl, _, _, rfl, rfl, _, rfl, ?_⟩
        rw [h1]
        exact ⟨⟨_, _, rfl⟩, hq5⟩
    · rintro σ H' _
      exact k H'
end
/-! ### the end -/
theorem all_mk {l : PySem.W.OpenLaw} {w : World} {K : PySem.W.Frag} {h : Heap} {mg : Str → Option Value} {fa : Addr} (X : K.In h) (G : h.Ns mainGlobals mg) (hfa : mg "law" = some (.ref fa))
    {f_is_name : Addr} {od_is_name an_is_name : Option Addr} {sl_is_name : Array (Option Value)} {oc_is_name kV_is_name dc_is_name pm_is_name cd_is_name ct_is_name : Value}
    (a_is_name : PySem.W.nsIn K mainGlobals "is_name" = some (some (.ref f_is_name))) (l_is_name : K.lookup f_is_name = some ⟨oc_is_name, od_is_name, .func (PySem.W.fnOf "is_name" "is_name" (defArgs s_is_name) (defBody s_is_name) (defScope s_is_name) .none kV_is_name dc_is_name pm_is_name an_is_name cd_is_name ct_is_name), sl_is_name⟩) (c_is_name : PySem.W.codeIn K cd_is_name "is_name" = true) (k_is_name : PySem.W.keepIn K (.ref f_is_name) = true)
    {f_state : Addr} {od_state an_state : Option Addr} {sl_state : Array (Option Value)} {oc_state kV_state dc_state pm_state cd_state ct_state : Value}
    (a_state : PySem.W.nsIn K mainGlobals "_law_state" = some (some (.ref f_state))) (l_state : K.lookup f_state = some ⟨oc_state, od_state, .func (PySem.W.fnOf "_law_state" "_law_state" (defArgs s_state) (defBody s_state) (defScope s_state) .none kV_state dc_state pm_state an_state cd_state ct_state), sl_state⟩) (c_state : PySem.W.codeIn K cd_state "_law_state" = true) (k_state : PySem.W.keepIn K (.ref f_state) = true)
    {f_mixed : Addr} {od_mixed an_mixed : Option Addr} {sl_mixed : Array (Option Value)} {oc_mixed kV_mixed dc_mixed pm_mixed cd_mixed ct_mixed : Value}
    (a_mixed : PySem.W.nsIn K mainGlobals "_law_mixed" = some (some (.ref f_mixed))) (l_mixed : K.lookup f_mixed = some ⟨oc_mixed, od_mixed, .func (PySem.W.fnOf "_law_mixed" "_law_mixed" (defArgs s_mixed) (defBody s_mixed) (defScope s_mixed) .none kV_mixed dc_mixed pm_mixed an_mixed cd_mixed ct_mixed), sl_mixed⟩) (c_mixed : PySem.W.codeIn K cd_mixed "_law_mixed" = true) (k_mixed : PySem.W.keepIn K (.ref f_mixed) = true)
    {f_draw : Addr} {od_draw an_draw : Option Addr} {sl_draw : Array (Option Value)} {oc_draw kV_draw dc_draw pm_draw cd_draw ct_draw : Value}
    (a_draw : PySem.W.nsIn K mainGlobals "_law_draw" = some (some (.ref f_draw))) (l_draw : K.lookup f_draw = some ⟨oc_draw, od_draw, .func (PySem.W.fnOf "_law_draw" "_law_draw" (defArgs s_draw) (defBody s_draw) (defScope s_draw) .none kV_draw dc_draw pm_draw an_draw cd_draw ct_draw), sl_draw⟩) (c_draw : PySem.W.codeIn K cd_draw "_law_draw" = true) (k_draw : PySem.W.keepIn K (.ref f_draw) = true)
    {f_sign : Addr} {od_sign an_sign : Option Addr} {sl_sign : Array (Option Value)} {oc_sign kV_sign dc_sign pm_sign cd_sign ct_sign : Value}
    (a_sign : PySem.W.nsIn K mainGlobals "_law_sign" = some (some (.ref f_sign))) (l_sign : K.lookup f_sign = some ⟨oc_sign, od_sign, .func (PySem.W.fnOf "_law_sign" "_law_sign" (defArgs s_sign) (defBody s_sign) (defScope s_sign) .none kV_sign dc_sign pm_sign an_sign cd_sign ct_sign), sl_sign⟩) (c_sign : PySem.W.codeIn K cd_sign "_law_sign" = true) (k_sign : PySem.W.keepIn K (.ref f_sign) = true)
    {f_name : Addr} {od_name an_name : Option Addr} {sl_name : Array (Option Value)} {oc_name kV_name dc_name pm_name cd_name ct_name : Value}
    (a_name : PySem.W.nsIn K mainGlobals "_law_name" = some (some (.ref f_name))) (l_name : K.lookup f_name = some ⟨oc_name, od_name, .func (PySem.W.fnOf "_law_name" "_law_name" (defArgs s_name) (defBody s_name) (defScope s_name) .none kV_name dc_name pm_name an_name cd_name ct_name), sl_name⟩) (c_name : PySem.W.codeIn K cd_name "_law_name" = true) (k_name : PySem.W.keepIn K (.ref f_name) = true)
    {f_text : Addr} {od_text an_text : Option Addr} {sl_text : Array (Option Value)} {oc_text kV_text dc_text pm_text cd_text ct_text : Value}
    (a_text : PySem.W.nsIn K mainGlobals "_law_text" = some (some (.ref f_text))) (l_text : K.lookup f_text = some ⟨oc_text, od_text, .func (PySem.W.fnOf "_law_text" "_law_text" (defArgs s_text) (defBody s_text) (defScope s_text) .none kV_text dc_text pm_text an_text cd_text ct_text), sl_text⟩) (c_text : PySem.W.codeIn K cd_text "_law_text" = true) (k_text : PySem.W.keepIn K (.ref f_text) = true)
    {f_due : Addr} {od_due an_due : Option Addr} {sl_due : Array (Option Value)} {oc_due kV_due dc_due pm_due cd_due ct_due : Value}
    (a_due : PySem.W.nsIn K mainGlobals "_law_due" = some (some (.ref f_due))) (l_due : K.lookup f_due = some ⟨oc_due, od_due, .func (PySem.W.fnOf "_law_due" "_law_due" (defArgs s_due) (defBody s_due) (defScope s_due) .none kV_due dc_due pm_due an_due cd_due ct_due), sl_due⟩) (c_due : PySem.W.codeIn K cd_due "_law_due" = true) (k_due : PySem.W.keepIn K (.ref f_due) = true)
    {f_law : Addr} {od_law an_law : Option Addr} {sl_law : Array (Option Value)} {oc_law kV_law dc_law pm_law cd_law ct_law : Value}
    (a_law : PySem.W.nsIn K mainGlobals "law" = some (some (.ref f_law))) (l_law : K.lookup f_law = some ⟨oc_law, od_law, .func (PySem.W.fnOf "law" "law" (defArgs s_law) (defBody s_law) (defScope s_law) .none kV_law dc_law pm_law an_law cd_law ct_law), sl_law⟩) (c_law : PySem.W.codeIn K cd_law "law" = true) (k_law : PySem.W.keepIn K (.ref f_law) = true)
    (z_len : PySem.W.nsIn K mainGlobals "len" = some none)
    (z_int : PySem.W.nsIn K mainGlobals "int" = some none)
    (z_list : PySem.W.nsIn K mainGlobals "list" = some none)
    (z_range : PySem.W.nsIn K mainGlobals "range" = some none)
    (z_all : PySem.W.nsIn K mainGlobals "all" = some none)
    {t_LETTERS : Tok} (y_LETTERS : PySem.W.nsIn K mainGlobals "LETTERS" = some (some (.str "abcdefghijklmnopqrstuvwxyz" t_LETTERS)))
    {t_DIGITS : Tok} (y_DIGITS : PySem.W.nsIn K mainGlobals "DIGITS" = some (some (.str "0123456789" t_DIGITS)))
    {t_MOST_SIGNS : Tok} (y_MOST_SIGNS : PySem.W.nsIn K mainGlobals "MOST_SIGNS" = some (some (.int 12 t_MOST_SIGNS)))
    : ∃ fd : FuncData, (∀ (s : Shared) (v : Value), BindsTo s fd ⟨[v], []⟩ [("_law_script", v)]) ∧ ∀ base : Heap, K.In base → base.Ns mainGlobals mg → FnOk l.prog w K mg base CX0 5 fa fd ["_law_script"] (spLaw K) := by
  have e := hfa.symm.trans (PySem.W.mg_of X G a_law)
  cases e
  have T : Txt mg := { b_len := PySem.W.mg_none_of X G z_len, b_int := PySem.W.mg_none_of X G z_int, b_list := PySem.W.mg_none_of X G z_list, b_range := PySem.W.mg_none_of X G z_range, b_all := PySem.W.mg_none_of X G z_all, c_LETTERS := ⟨_, PySem.W.mg_of X G y_LETTERS⟩, c_DIGITS := ⟨_, PySem.W.mg_of X G y_DIGITS⟩, c_MOST_SIGNS := ⟨_, PySem.W.mg_of X G y_MOST_SIGNS⟩ }
  refine ⟨PySem.W.fnOf "law" "law" (defArgs s_law) (defBody s_law) (defScope s_law) .none kV_law dc_law pm_law an_law cd_law ct_law, fun s v => .of_eq rfl, fun base _ _ => ?_⟩
  have D_is_name := d_is_name (P := l.prog) (w := w) (base := base) T (fun_mk (st := s_is_name) l_is_name c_is_name k_is_name) (PySem.W.mg_of X G a_is_name)
  have D_state := d_state (P := l.prog) (w := w) (base := base) T (fun_mk (st := s_state) l_state c_state k_state) (PySem.W.mg_of X G a_state)
  have D_mixed := d_mixed (P := l.prog) (w := w) (base := base) T (fun_mk (st := s_mixed) l_mixed c_mixed k_mixed) (PySem.W.mg_of X G a_mixed)
  have D_draw := d_draw (P := l.prog) (w := w) (base := base) D_mixed T (fun_mk (st := s_draw) l_draw c_draw k_draw) (PySem.W.mg_of X G a_draw)
  have D_sign := d_sign (P := l.prog) (w := w) (base := base) D_draw T (fun_mk (st := s_sign) l_sign c_sign k_sign) (PySem.W.mg_of X G a_sign)
  have D_name := d_name (P := l.prog) (w := w) (base := base) D_draw T (fun_mk (st := s_name) l_name c_name k_name) (PySem.W.mg_of X G a_name)
  have D_text := d_text (P := l.prog) (w := w) (base := base) D_draw D_sign T (fun_mk (st := s_text) l_text c_text k_text) (PySem.W.mg_of X G a_text)
  have D_due := d_due (P := l.prog) (w := w) (base := base) T (fun_mk (st := s_due) l_due c_due k_due) (PySem.W.mg_of X G a_due)
  exact ok_law D_state D_name D_text D_is_name D_due T (fun_mk (st := s_law) l_law c_law k_law)
theorem walk {l : PySem.W.OpenLaw} {q : Program} {loose : List Str} {XP : (Str → Option Value) → Heap → Prop} {YP : World → Heap → Prop} {d : DefRec} {K : Params → PySem.W.Frag} (hn : l.most = some 63) (hdf : d.params.defaults = [])
    (hY : ∀ (w : World) (h : Heap), YP w h → (K w.params).In h)
    (F : ∀ (w : World) (mg : Str → Option Value) (fa : Addr) (h : Heap), (K w.params).In h → h.Ns mainGlobals mg → mg d.name = some (.ref fa) →
      ∃ fd : FuncData, (∀ (s : Shared) (u : Value), BindsTo s fd ⟨[u], []⟩ [("_law_script", u)]) ∧ ∀ base : Heap, (K w.params).In base → base.Ns mainGlobals mg → FnOk l.prog w (K w.params) mg base CX0 5 fa fd ["_law_script"] (spLaw (K w.params))) :
    PySem.W.WalkO q loose XP YP l.row.toRowW d [] (fun f vs => PySem.call f vs) :=
  L2.walk_of (n := 63) (k := 5) (x := "_law_script") (CX := fun _ => CX0) (sp := fun w => spLaw (K w.params)) hn (by decide) hdf ⟨rfl, by decide, by decide⟩ hY F (fun _ _ a ns hl _ hS => ⟨a, ns, rfl, hS, hl, fun _ => rfl⟩) fun _ _ _ _ _ z => z
end Mine
open PySem PySem.W PyProof.Rows in
set_option maxRecDepth 100000 in
set_option maxHeartbeats 0 in
theorem PySem.Challenge.cw_neverrounds_k01_names_holds : PySem.Challenge.rw_neverrounds_k01_names.Holds := by
  w_on; o_law; k_head; (case hw => w_witness2)
  k_fill
  refine Mine.walk (l := PySem.Challenge.rw_neverrounds_k01_names) rfl rfl (fun w h Y => PySem.W.kIn_of Y) ?F
  case F =>
    intro w mg fa h KX G hmg
    refine' Mine.all_mk KX G hmg ?a_is_name ?l_is_name ?c_is_name ?k_is_name ?a_state ?l_state ?c_state ?k_state ?a_mixed ?l_mixed ?c_mixed ?k_mixed ?a_draw ?l_draw ?c_draw ?k_draw ?a_sign ?l_sign ?c_sign ?k_sign ?a_name ?l_name ?c_name ?k_name ?a_text ?l_text ?c_text ?k_text ?a_due ?l_due ?c_due ?k_due ?a_law ?l_law ?c_law ?k_law ?z_len ?z_int ?z_list ?z_range ?z_all ?y_LETTERS ?y_DIGITS ?y_MOST_SIGNS
    (case a_is_name => k_is)
    (case l_is_name => k_is)
    (case c_is_name => k_is)
    (case k_is_name => k_is)
    (case a_state => k_is)
    (case l_state => k_is)
    (case c_state => k_is)
    (case k_state => k_is)
    (case a_mixed => k_is)
    (case l_mixed => k_is)
    (case c_mixed => k_is)
    (case k_mixed => k_is)
    (case a_draw => k_is)
    (case l_draw => k_is)
    (case c_draw => k_is)
    (case k_draw => k_is)
    (case a_sign => k_is)
    (case l_sign => k_is)
    (case c_sign => k_is)
    (case k_sign => k_is)
    (case a_name => k_is)
    (case l_name => k_is)
    (case c_name => k_is)
    (case k_name => k_is)
    (case a_text => k_is)
    (case l_text => k_is)
    (case c_text => k_is)
    (case k_text => k_is)
    (case a_due => k_is)
    (case l_due => k_is)
    (case c_due => k_is)
    (case k_due => k_is)
    (case a_law => k_is)
    (case l_law => k_is)
    (case c_law => k_is)
    (case k_law => k_is)
    (case z_len => k_is)
    (case z_int => k_is)
    (case z_list => k_is)
    (case z_range => k_is)
    (case z_all => k_is)
    (case y_LETTERS => k_is)
    (case y_DIGITS => k_is)
    (case y_MOST_SIGNS => k_is)
#print axioms PySem.Challenge.cw_neverrounds_k01_names_holds
